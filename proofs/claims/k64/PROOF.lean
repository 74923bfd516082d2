import PyProof.Rows.All
import Wide.All
import OpenK.AllK
import Wide.FinOn
import Lean
import PyProof.EqAt
import PyProof.EqKinds
import PyProof.TupleCall
import PySem.SetOps
import PyProof.ExcClass2
import PyProof.ExcInit
import PyProof.InstStoreFacts
import PyProof.ExcArgsOwn
import PyProof.ExcBaseAll.ValueError
import PyProof.ExcAttrAll.ValueError
import OpenK.KOwn
import PyProof.RulesDel
import PyProof.RulesAs
import PySem.Challenge.RW_bellnest_k64_table_closed
noncomputable section
set_option Elab.async false
set_option linter.all false
set_option maxRecDepth 100000
open PySem.W (Frag KdlSrc codeIn findCls fnOf instObj isFn kia_one kitOne kitx_dict kitx_list makesIn methodCall_KW methodObj mg_none_of mg_of plainGet plainGet_of plainOver readsIn specialIn takerIn)
open List (all_eq_true any_cons append_assoc append_nil cons_append filterMap_cons find?_cons flatten_cons foldl_cons getD_eq_getElem?_getD getElem?_append_left getElem?_append_right getElem?_cons_succ getElem?_cons_zero getElem?_eq_getElem getElem?_eq_none getElem?_map getElem?_range getElem?_replicate getElem?_set_ne getElem?_set_self getElem_mem length_append length_cons length_drop length_map length_nil length_range length_replicate length_set length_singleton length_take lookup_cons map_append map_congr_left map_cons map_map map_nil mem_append mem_append_left mem_append_right mem_cons mem_cons_of_mem mem_cons_self mem_filter mem_map mem_of_getElem? mem_range mem_singleton nil_append nodup_cons nodup_nil of_mem_zip pairwise_cons replicate replicate_succ reverse_cons set_cons_succ set_cons_zero size_toArray zip_cons_cons)
open PySem.Heap (get?_none_of_le get?_push_of_some get?_push_size get?_update_other get?_update_self lt_size size_push)
open Nat (le_of_eq le_of_lt le_refl le_succ le_trans lt_irrefl lt_of_lt_of_le lt_succ_of_lt lt_succ_self lt_trans ne_of_gt ne_of_lt reduceAdd reduceLeDiff reduceSub sub_self zero_le)
open Array (getElem?_toList length_toList)
open Int (emod_lt_of_pos emod_nonneg reduceEq toNat_natCast)
set_option compiler.extract_closed false
section
set_option hygiene false
local macro_rules
|`([10])=>`(hr.mono (by first|decide|omega))
|`([11])=>`((by omega))
|`([12])=>`((by decide))
|`([15])=>`(s.heap.objs.size)
|`([16])=>`(List Str)
|`([17])=>`(ns.map D.int)
|`([18])=>`(List (Addr×Obj))
|`([19])=>`(List Value)
|`([20])=>`((by simp))
|`([21])=>`(List D)
|`([22])=>`(List Int)
|`([23])=>`(le_refl _)
|`([24])=>`(hr.mono [12])
|`([25])=>`(rowD (s,q))
|`([26])=>`((9,Value))
|`([27])=>`(w.params.followText "set-order")
|`([28])=>`(List Bx)
|`([29])=>`((17,K))
|`([30])=>`((13,[17]))
|`([31])=>`((by decide +kernel))
|`([32])=>`(List (α×Int))
|`([33])=>`(Bool.false_ne_true)
|`([34])=>`(List (D×Int))
|`([35])=>`((by first|exact Or.inl rfl|exact Or.inr rfl))
|`([36])=>`({s with toks:=s.toks+1})
|`([37])=>`((1,(.int (szB bs x:Nat))))
local macro_rules
|`((1,$a))=>`(some (.sh $a))
|`((2,$a))=>`(a6 (pv $a))
|`((3,$a))=>`(wpAny_bind $a)
|`((4,$a))=>`(.int $a)
|`((5,$a))=>`(eVar $a)
|`((6,$a))=>`(some $a)
|`((7,$a))=>`(starEach $a X.env)
|`((8,$a))=>`(wpAny_pure $a)
|`((9,$a))=>`(Option $a)
|`((10,$a))=>`(.ref $a)
|`((11,$a))=>`((1,rfl,$a))
|`((12,$a))=>`(List.getElem?_eq_some_iff.mp $a)
|`((13,$a))=>`(.lst $a)
|`((14,$a))=>`(get?_push_of_some _ $a)
|`((15,$a))=>`((1,(4,$a)))
|`((16,$a))=>`(eval $a X.env)
|`((17,$a))=>`(aB $a cls)
|`((18,$a))=>`(af (ai $a))
|`((19,$a))=>`(getElem?_eq_getElem $a)
|`((20,$a))=>`(.tup $a)
|`((21,$a))=>`((6,(6,$a)))
|`((22,$a))=>`(eC (4,$a))
|`((23,$a))=>`(List.range $a)
|`((24,$a))=>`(X.env.scope.names.lookup $a)
|`((25,$a))=>`(s.heap.get? $a)
|`((26,$a))=>`(Str.ofString $a)
|`((27,$a))=>`((21,(10,$a)))
|`((28,$a))=>`(szB bs $a)
|`((29,$a))=>`(aY $a rfl)
|`((30,$a))=>`((6,.next $a))
|`((31,$a))=>`(mem_cons_of_mem _ $a)
|`((32,$a))=>`(getElem?_set_self $a)
|`((33,$a))=>`(fstB bs $a)
|`((34,$a))=>`(getElem?_set_ne $a)
|`((35,$a))=>`(get?_push_size $a rfl)
|`((36,$a))=>`((6,.ok $a))
|`((37,$a))=>`(mem_singleton.mp $a)
|`((38,$a))=>`(.own (13,$a))
|`((39,$a))=>`(if_pos $a)
|`((40,$a))=>`(.builtin $a)
local macro_rules
|`((41,$a))=>`(mem_append_right _ $a)
|`((42,$a))=>`(if_neg $a)
|`((43,$a))=>`(absurd (show false=true from hs) $a)
|`((44,$a))=>`(getElem?_append_left $a)
|`((45,$a))=>`(mixV ns $a)
|`((46,$a))=>`(SetTable.below t.place $a)
|`((47,$a))=>`(getElem?_append_right $a)
|`((48,$a))=>`(Array.getElem?_eq_getElem $a)
|`((49,$a))=>`(.own $a)
|`((50,$a))=>`(decide_eq_false $a)
|`((51,$a))=>`(lt_size $a)
|`((52,$a))=>`(.type $a)
|`((53,$a))=>`((5,$a,by omega))
|`((54,$a))=>`(X.env.cells.lookup $a)
|`((1,$a,$b))=>`(a8 $a rfl $b)
|`((2,$a,$b))=>`(padN (2,$a) $b)
|`((3,$a,$b))=>`((2,rfl,$a,$b))
|`((4,$a,$b))=>`(PySem.W.nsIn $a mainGlobals $b)
|`((5,$a,$b))=>`(⟨$a,$b⟩)
|`((6,$a,$b))=>`(.Name $a $b)
|`((7,$a,$b))=>`(PySem.W.keepIn $a (10,$b))
|`((8,$a,$b))=>`((8,dIx,$a,$b))
|`((9,$a,$b))=>`(a8 rfl $a $b)
|`((10,$a,$b))=>`(backTo $a (7,$b))
|`((11,$a,$b))=>`(lt_of_lt_of_le $a $b)
|`((12,$a,$b))=>`(aJ $a $b ay)
|`((13,$a,$b))=>`((14,$a,rfl,$b))
|`((14,$a,$b))=>`((12,$a,$b,rfl))
|`((15,$a,$b))=>`(dD (aq $a) $b)
|`((16,$a,$b))=>`((13,rfl,$a,$b))
|`((17,$a,$b))=>`((3,(2,$a),$b))
|`((18,$a,$b))=>`(wpAny_bind (m:=$a) $b)
|`((19,$a,$b))=>`(aI rfl $a $b)
|`((20,$a,$b))=>`((22,X,$a,$b))
|`((21,$a,$b))=>`(aK (f1 $a) $b)
|`((1,$a,$b,$c))=>`(eBin $a $b (eC $c))
|`((2,$a,$b,$c))=>`(ah (ixd $a) $b $c)
|`((3,$a,$b,$c))=>`(a7 $a (a7 $b $c))
|`((4,$a,$b,$c))=>`(PySem.W.findIn $a (.ref $b) $c)
|`((5,$a,$b,$c))=>`(ae $a (ae $b $c))
local macro_rules
|`((6,$a,$b,$c))=>`((1,$a,$b,(4,$c)))
|`((7,$a,$b,$c))=>`(dG (i:=$a) $b rfl $c)
|`((8,$a,$b,$c))=>`((6,$a,(5,$b),$c))
|`((9,$a,$b,$c))=>`(az (sSet $a $b) $c)
|`((10,$a,$b,$c))=>`(eBin $a $b $c)
|`((11,$a,$b,$c))=>`(padS (3,$a,$b) $c)
|`((12,$a,$b,$c))=>`(⟨$a,$b,$c⟩)
|`((13,$a,$b,$c))=>`(ak (ax $a) $b $c)
|`((14,$a,$b,$c))=>`(aN $a [10] $b $c)
|`((15,$a,$b,$c))=>`(.Call $a $b [] $c)
|`((16,$a,$b,$c))=>`((10,$a,(5,$b),$c))
|`((17,$a,$b,$c))=>`(get?_update_other $a $b (Ne.symm $c))
|`((18,$a,$b,$c))=>`(ja $a (binaryOp $b) $c)
|`((19,$a,$b,$c))=>`((11,(2,$a),$b,$c))
|`((20,$a,$b,$c))=>`((13,$a,(2,$b,$c)))
|`((21,$a,$b,$c))=>`(swapsWith $a $b $c X.env)
|`((22,$a,$b,$c))=>`((4,$a,σ,$b,$c))
|`((23,$a,$b,$c))=>`(RepL Γ $a $b $c)
|`((1,$a,$b,$c,$d))=>`(bf $a $b $c PySem.boot_len $d)
|`((2,$a,$b,$c,$d))=>`((1,$a,$b,$c,$d,by decide +kernel))
|`((3,$a,$b,$c,$d))=>`(az (sIf $a $b $c) $d)
|`((4,$a,$b,$c,$d))=>`(aR $a pins $b $c $d)
|`((5,$a,$b,$c,$d))=>`(iP (s1:=.sh $a) (s2:=$b) $c $d)
|`((6,$a,$b,$c,$d))=>`(.Attribute (6,$a,$b) $c $d)
|`((7,$a,$b,$c,$d))=>`(dw PassesOwn.never $a $b $c $d)
|`((8,$a,$b,$c,$d))=>`(PD $a Γ $b $c $d)
|`((9,$a,$b,$c,$d))=>`(⟨$a,$b,$c,$d⟩)
|`((1,$a,$b,$c,$d,$e))=>`((1,$a,$b,$c,$d,by decide +kernel,$e))
|`((2,$a,$b,$c,$d,$e))=>`(kia_one $a $b $c $d (λz=>nomatch z) $e)
|`((1,$a,$b,$c,$d,$e,$f))=>`(⟨$a,$b,$c,by decide +kernel,$d,$e,$f⟩)
|`((2,$a,$b,$c,$d,$e,$f))=>`(eS $a $b $c $d $e $f ["Deed","Promise","Comparing","Untouched","Still","Put","Copy","Tick","Handed","Grow","Anew"])
|`((1,$a,$b,$c,$d,$e,$f,$g))=>`(wpAny (model $a $b) $c $d $e $f $g)
|`((1,$a,$b,$c,$d,$e,$f,$g,$h))=>`(eB (js:=$a) (vars:=$b) $c (by rfl) $d $e $f $g $h)
|`((2,$a,$b,$c,$d,$e,$f,$g,$h))=>`(wpAny_callSpecial?_slot (name:=$a) $b $c (wpAny_call_entry $d $e $f $g $h))
|`((3,$a,$b,$c,$d,$e,$f,$g,$h))=>`((1,$a,$b,$c,$d,[29],$e,$f,$g,$h))
|`((1,$a,$b,$c,$d,$e,$f,$g,$h,$i))=>`(cX $a $b $c $d base $e $f $g $h $i)
|`((1,$a,$b,$c,$d,$e,$f,$g,$h,$i,$j))=>`(cM $a $b $c $d $e $f $g $h $i $j ["Deed","Promise","Comparing","Untouched","Still","Put","Copy","Tick","Handed","Grow","Anew"])
|`((1,$a,$b,$c,$d,$e,$f,$g,$h,$i,$j,$k))=>`(fnOf $a $b $c $d $e $f $g doc $h $i $j $k)
namespace L2
open PySem PySem.Spec PyProof.Rows
abbrev Key:=Sum Int Str
def N6:Key->Value->Bool
 |.inl k,v=>Value.isInt k v
 |.inr x,v=>Value.isStrOf x v
def QR(w:World):Key->Int
 |.inl k=>hashInt k
 |.inr x=>hashStr w x
theorem dy:∀{k:Key}{v:Value},N6 k v=true->(∃i t,k=Sum.inl i/\v=Value.int i t)\/(∃x t,k=Sum.inr x/\v=Value.str x t)
 |.inl i,v,h=>by
  obtain⟨t,e⟩:=Value.isInt_shape (k:=i) (v:=v) h;exact .inl (9,i,t,rfl,e)
 |.inr x,v,h=>by
  obtain⟨t,e⟩:=Value.isStrOf_shape (x:=x) (v:=v) h;exact .inr (9,x,t,rfl,e)
theorem Oq(a b:Int):decide ((Sum.inl a:Key)=Sum.inl b)=(a == b):=by
 by_cases e:a=b
 ·subst e;simp
 ·have h:¬(Sum.inl a:Key)=Sum.inl b:=λq=>e (Sum.inl.inj q);rw[(50,h)];exact(beq_eq_false_iff_ne.mpr e).symm
theorem Om(a b:Str):decide ((Sum.inr a:Key)=Sum.inr b)=decide (a=b):=by
 by_cases e:a=b
 ·subst e;simp
 ·have h:¬(Sum.inr a:Key)=Sum.inr b:=λq=>e (Sum.inr.inj q);rw[(50,h),(50,e)]
theorem Oo(a:Int)(b:Str):decide ((Sum.inl a:Key)=Sum.inr b)=false:=(50,(λq=>nomatch q))
theorem On(a:Str)(b:Int):decide ((Sum.inr a:Key)=Sum.inl b)=false:=(50,(λq=>nomatch q))
def FE(prog:Program)(w:World):PySem.KeyKind prog w Key where
 is:=N6
 hash:=QR w
 inj:=λv a b ha hb=>by
  rcases dy ha with⟨i,t,rfl,rfl⟩|⟨x,t,rfl,rfl⟩
  ·rcases dy hb with⟨j,u,rfl,e⟩|⟨y,u,rfl,e⟩
   ·injection e with e1 _;rw[e1]
   ·exact nomatch e
  ·rcases dy hb with⟨j,u,rfl,e⟩|⟨y,u,rfl,e⟩
   ·exact nomatch e
   ·injection e with e1 _;rw[e1]
 byValue:=λk v h=>by
  rcases dy h with⟨i,t,rfl,rfl⟩|⟨x,t,rfl,rfl⟩ <;> rfl
 pyHash:=λhv h=>by
  rcases dy hv with⟨i,t,rfl,rfl⟩|⟨x,t,rfl,rfl⟩
  ·exact wpAny_pyHash_int h
  ·exact wpAny_pyHash_str h
 eqBool:=λhu hv h=>by
  rcases dy hu with⟨i,t,rfl,rfl⟩|⟨x,t,rfl,rfl⟩
  ·rcases dy hv with⟨j,u,rfl,rfl⟩|⟨y,u,rfl,rfl⟩
   ·rw[Oq] at h;exact wpAny_eqBool_int h
   ·rw[Oo] at h;exact SeqAt.EqAt.int_str i t y u _ _ _ _ h
  ·rcases dy hv with⟨j,u,rfl,rfl⟩|⟨y,u,rfl,rfl⟩
   ·rw[On] at h;exact SeqAt.EqAt.str_int x t j u _ _ _ _ h
   ·rw[Om] at h;exact wpAny_eqBool_str h
 «strs»:=λk x t v h=>by
  rcases dy h with⟨i,u,rfl,e⟩|⟨y,u,rfl,e⟩
  ·exact nomatch e
  ·injection e with e1 _;subst e1;cases v <;> rfl
inductive V where
 |non|bl (b:Bool)|int (i:Int)|str (x:Str)|byt (b:Array UInt8)|flt (b:UInt64)|ref (a:Addr)|ty (n:String)
 deriving DecidableEq
def bV:V->Value->Prop
 |.non,u=>u=Value.none
 |.bl b,u=>u=Value.bool b
 |.int i,u=>∃t,u=Value.int i t
 |.str x,u=>∃t,u=Value.str x t
 |.byt b,u=>∃t,u=Value.bytes b t
 |.flt b,u=>∃t,u=Value.float b t
 |.ref a,u=>u=Value.ref a
 |.ty n,u=>u=Value.type n
abbrev Vals:List V->([19])->Prop:=Paired bV
theorem Vals.length{xs:List V}{us:[19]}(r:Vals xs us):xs.length=us.length:=Paired.length r
theorem Vals.get:∀{xs:List V}{us:[19]}{i:Nat}{x:V},Vals xs us->xs[i]?=(6,x)->∃u,us[i]?=(6,u)/\bV x u
 |_,_,_,_,.nil,e=>by simp at e
 |_,_,0,_,.cons r _,e=>by simp at e;subst e;exact(12,_,rfl,r)
 |_,_,i+1,x,.cons _ t,e=>by
  obtain⟨u,h1,h2⟩:=Vals.get (i:=i) (x:=x) t (by simpa using e)
  exact(12,u,by simpa using h1,h2)
theorem Vals.set{x:V}{u:Value}(r:bV x u):∀{xs:List V}{us:[19]}(i:Nat),Vals xs us->Vals (xs.set i x) (us.set i u)
 |_,_,_,.nil=>.nil
 |_,_,0,.cons _ t=>.cons r t
 |_,_,i+1,.cons q t=>.cons q (Vals.set r i t)
theorem Vals.append:∀{xs ys:List V}{us ws:[19]},Vals xs us->Vals ys ws->Vals (xs++ys) (us++ws)
 |_,_,_,_,.nil,s=>s
 |_,_,_,_,.cons r t,s=>.cons r (Vals.append t s)
theorem Vals.take:∀{xs:List V}{us:[19]}(n:Nat),Vals xs us->Vals (xs.take n) (us.take n)
 |_,_,0,_=>.nil
 |_,_,_+1,.nil=>.nil
 |_,_,n+1,.cons r t=>.cons r (Vals.take n t)
theorem Vals.drop:∀{xs:List V}{us:[19]}(n:Nat),Vals xs us->Vals (xs.drop n) (us.drop n)
 |_,_,0,r=>r
 |_,_,_+1,.nil=>.nil
 |_,_,n+1,.cons _ t=>Vals.drop n t
theorem Vals.none_of:∀{xs:List V}{us:[19]}{i:Nat},Vals xs us->xs[i]?=none->us[i]?=none:=λ{xs us i} r e=>by
 have h1:=r.length;have h2:xs.length<=i:=List.getElem?_eq_none_iff.mp e;exact List.getElem?_eq_none_iff.mpr [11]
def RelO:(9,V)->([26])->Prop
 |some v,some u=>bV v u
 |none,none=>True
 |_,_=>False
def KV{κ:Type}:List (κ×V)->List (κ×Value)->Prop:=Paired λ(p:κ×V)(q:κ×Value)=>p.1=q.1/\bV p.2 q.2
def kV:Key->V
 |.inl i=>(4,i)
 |.inr x=>.str x
inductive HO where
 |lst (xs:List V)
 |tup (xs:List V)
 |dK (kvs:List (Key×V))|dT (kvs:List (List Key×V))
 |set (S:Int->Bool) (n:Nat)
 |ins (C dx:Addr) (fs:List (Str×V))
 |own (x:Addr)
 |xd (fs:List (Str×V))
 |met (f x:Addr)
 |rng (lo hi:Int)
 |frz (o:Obj) (u:HO)
 |tbl (ps:Array Value)
 |tab (good:Pos->(9,Str))
 |fnc (c:Addr) (q:Str)
 |ext (φ:Heap->Prop)
abbrev Hp:=Addr->(9,HO)
def cA(H:Hp)(a:Addr)(o:HO):Hp:=λb=>if b=a then(6,o) else H b
theorem aH{H:Hp}{a:Addr}{o:HO}:cA H a o a=(6,o):=by unfold cA;rw[(39,rfl)]
theorem aE{H:Hp}{a b:Addr}{o:HO}(h:b≠a):cA H a o b=H b:=by unfold cA;rw[(42,h)]
theorem aZ{H:Hp}{a b:Addr}{o:HO}(h:H a=(6,o))(h':H b=none):a≠b:=by
 intro e;subst e;rw[h] at h';cases h'
section
variable(P:Program)(w:World)
def cF(H:Hp)(h:Heap)(a:Addr):HO->Prop
 |.lst xs=>xs.length<=sizeLine/\∃(its:[19])(n:Nat),Vals xs its/\h.get? a=some {cls:=.type "list",data:=.seq its.toArray n}
 |.tup xs=>xs.length<=sizeLine/\∃its:List Value,Vals xs its/\IsTup h a its.toArray
 |.dK kvs=>kvs.length<=sizeLine/\(a == sysModules)=false/\∃vs,KV kvs vs/\h.DictOf (FE P w) a vs
 |.dT kvs=>kvs.length<=sizeLine/\(a == sysModules)=false/\∃xs:List (List Key×Addr×Value),
   Paired (λ(p:List Key×V)(q:List Key×Addr×Value)=>p.1=q.1/\H q.2.1=(6,(20,p.1.map kV))/\bV p.2 q.2.2) kvs xs/\
   ∃o es ep,h.get? a=(6,o)/\o.ExactDict/\o.data=.dict es ep/\es.toList=xs.map (entryOfKey (tupleKind (FE P w)))/\(xs.map (·.1)).Nodup
 |.set S n=>h.SetOf (intKind P w) a S n
 |.ins C dx fs=>H dx=(6,(49,a))/\fs.length<=1000/\dx≠a/\h.get? a=(6,instObj C dx)/\
   ∃mA,h.Ns1 dx mA/\(∀f,RelO (fs.lookup f) (mA f))/\PySem.Within mA (fs.map (·.1))
 |.own _=>∃o,h.get? a=(6,o)
 |.xd fs=>∃mA,h.Ns1 a mA/\∀f,RelO (fs.lookup f) (mA f)
 |.rng lo hi=>∃t u v,h.get? a=some {cls:=.type "range",data:=.fields #[.int lo t,.int hi u,.int 1 v]}
 |.frz o u=>h.get? a=(6,o)/\cF H h a u
 |.tbl ps=>h.get? a=some {cls:=.none,data:=.fields ps}
 |.tab good=>∃ps:Array Value,h.get? a=some {cls:=.none,data:=.fields ps}/\TriplesOk ps.toList/\∀p cv,(good p).isSome=true->codeAmong p ps.toList=(6,cv)->∃(c:Addr)(oc:Obj)(q:Str)(vs:Array Value)(t:Tok),cv=(10,c)/\H c=(6,.frz oc (49,c))/\good p=(6,q)/\oc.data=.fields vs/\vs[1]?=(6,.str q t)
 |.fnc c q=>(∃o,h.get? a=(6,o))/\∃(oc:Obj)(vs:Array Value)(t:Tok),H c=(6,.frz oc (49,c))/\oc.data=.fields vs/\vs[1]?=(6,.str q t)
 |.met f x=>h.get? a=(6,methodObj (10,f) (10,x))
 |.ext φ=>φ h/\(∃o,h.get? a=(6,o))/\∀h1 h2:Heap,φ h1->(∀o,h1.get? a=(6,o)->h2.get? a=(6,o))->φ h2
def rm(H:Hp)(h:Heap):Prop:=∀a o,H a=(6,o)->cF P w H h a o
end
section
variable{P:Program}{w:World}{H H':Hp}{h h':Heap}{a:Addr}{o:HO}
theorem cF.lt(x:cF P w H h a o):a<h.objs.size:=by
 cases o with
 |lst xs=>obtain⟨_,_,_,_,e⟩:=x;exact(51,e)
 |tup xs=>obtain⟨_,_,_,p⟩:=x;exact p.lt
 |dK kvs=>obtain⟨_,_,_,_,o,_,_,e,_⟩:=x;exact(51,e)
 |dT kvs=>obtain⟨_,_,_,_,o,_,_,e,_⟩:=x;exact(51,e)
 |set S n=>obtain⟨o,_,_,_,e,_⟩:=x;exact(51,e)
 |ins C dx fs=>obtain⟨_,_,_,e,_⟩:=x;exact(51,e)
 |own y=>obtain⟨_,e⟩:=x;exact(51,e)
 |xd fs=>obtain⟨_,⟨_,_,_,e,_⟩,_⟩:=x;exact(51,e)
 |rng lo hi=>obtain⟨_,_,_,e⟩:=x;exact(51,e)
 |frz ob u=>obtain⟨e,_⟩:=x;exact(51,e)
 |tbl ps=>exact(51,(show h.get? a=(6,_) from x))
 |tab good=>obtain⟨_,e,_⟩:=x;exact(51,e)
 |fnc c q=>obtain⟨⟨_,e⟩,_⟩:=x;exact(51,e)
 |met f y=>exact(51,(show h.get? a=(6,_) from x))
 |ext φ=>obtain⟨_,⟨_,e⟩,_⟩:=x;exact(51,e)
theorem Paired.mapP{α β:Type}{F G:α->β->Prop}:∀{l₁:List α}{l₂:List β},Paired F l₁ l₂->(∀a b,F a b->G a b)->Paired G l₁ l₂
 |_,_,.nil,_=>.nil
 |_,_,.cons r t,f=>.cons (f _ _ r) (Paired.mapP t f)
theorem cF.stay(x:cF P w H h a o)(k:∀b u,(b=a\/H b=(6,(49,a)))->h.get? b=(6,u)->h'.get? b=(6,u))
  (ho:∀b,H b=(6,(49,a))->H' b=(6,(49,a))) (ht:∀b xs,H b=(6,(20,xs))->H' b=(6,(20,xs))) (hf:∀b ob y,H b=(6,.frz ob (49,y))->H' b=(6,.frz ob (49,y))):cF P w H' h' a o:=by
 induction o with
 |lst xs=>obtain⟨z,its,n,r,e⟩:=x;exact⟨z,its,n,r,k _ _ (.inl rfl) e⟩
 |tup xs=>obtain⟨z,its,r,ob,e,c⟩:=x;exact⟨z,its,r,ob,k _ _ (.inl rfl) e,c⟩
 |dK kvs=>obtain⟨z,y,vs,r,ob,es,ep,e,c⟩:=x;exact⟨z,y,vs,r,ob,es,ep,k _ _ (.inl rfl) e,c⟩
 |dT kvs=>
  obtain⟨z,y,xs,r,ob,es,ep,e,c⟩:=x;exact⟨z,y,xs,Paired.mapP r λp q z=>(12,z.1,ht _ _ z.2.1,z.2.2),ob,es,ep,k _ _ (.inl rfl) e,c⟩
 |set S n=>obtain⟨ob,es,ep,t,e,c⟩:=x;exact⟨ob,es,ep,t,k _ _ (.inl rfl) e,c⟩
 |ins C dx fs=>
  obtain⟨d,z,ne,e,mA,⟨od,es,ep,e2,c⟩,r⟩:=x;exact⟨ho _ d,z,ne,k _ _ (.inl rfl) e,mA,⟨od,es,ep,k _ _ (.inr d) e2,c⟩,r⟩
 |own y=>obtain⟨ob,e⟩:=x;exact(5,ob,k _ _ (.inl rfl) e)
 |xd fs=>obtain⟨mA,⟨od,es,ep,e,c⟩,r⟩:=x;exact(12,mA,⟨od,es,ep,k _ _ (.inl rfl) e,c⟩,r)
 |rng lo hi=>obtain⟨t,u,v,e⟩:=x;exact(9,t,u,v,k _ _ (.inl rfl) e)
 |frz ob u ih=>obtain⟨e,q⟩:=x;exact(5,k _ _ (.inl rfl) e,ih q)
 |tbl ps=>
  have e:h.get? a=some {cls:=.none,data:=.fields ps}:=x;show h'.get? a=some {cls:=.none,data:=.fields ps};exact k a _ (.inl rfl) e
 |tab good=>
  obtain⟨ps,e,tr,q⟩:=x;refine(9,ps,k a _ (.inl rfl) e,tr,λp cv hg hc=>?_);obtain⟨c,oc,qq,vs,t,e1,e2,e3⟩:=q p cv hg hc;exact⟨c,oc,qq,vs,t,e1,hf _ _ _ e2,e3⟩
 |fnc c q=>
  obtain⟨⟨ob,e⟩,oc,vs,t,e1,e2⟩:=x;exact⟨(5,ob,k _ _ (.inl rfl) e),oc,vs,t,hf _ _ _ e1,e2⟩
 |met f y=>
  have e:h.get? a=(6,methodObj (10,f) (10,y)):=x;show h'.get? a=(6,methodObj (10,f) (10,y));exact k a _ (.inl rfl) e
 |ext φ=>obtain⟨p,⟨o,e⟩,st⟩:=x;exact(12,st _ _ p λo q=>k _ _ (.inl rfl) q,(5,o,k _ _ (.inl rfl) e),st)
theorem rm.lt(x:rm P w H h)(e:H a=(6,o)):a<h.objs.size:=(x a o e).lt
theorem rm.fresh(x:rm P w H h)(e:h.objs.size<=a):H a=none:=by
 cases q:H a with
 |none=>rfl
 |some u=>exact absurd (11,x.lt q,e) (lt_irrefl _)
theorem rm.kept(x:rm P w H h)(k:∀b u,h.get? b=(6,u)->h'.get? b=(6,u)):rm P w H h':=λa o e=>
 (x a o e).stay (λb u _ q=>k b u q) (λ_ q=>q) (λ_ _ q=>q) λ_ _ _ q=>q
theorem rm.laid(x:rm P w H h)(k:∀b u,h.get? b=(6,u)->h'.get? b=(6,u))(hp:h.objs.size<=a)(new:cF P w (cA H a o) h' a o):rm P w (cA H a o) h':=λb u e=>by
 have hn:=x.fresh hp;by_cases hb:b=a
 ·subst hb;rw[aH] at e;cases e;exact new
 ·rw[aE hb] at e;exact(x b u e).stay (λc v _ q=>k c v q) (λc q=>by rw[aE (aZ q hn)];exact q) (λc xs q=>by rw[aE (aZ q hn)];exact q) λc ob u q=>by rw[aE (aZ q hn)];exact q
end
def Rd(H:Hp)(a:Addr)(u:HO):Prop:=H a=(6,u)\/∃o,H a=(6,.frz o u)
theorem Rd.of{H:Hp}{a:Addr}{u:HO}(h:H a=(6,u)):Rd H a u:=.inl h
theorem Rd.ok{P:Program}{w:World}{H:Hp}{h:Heap}{a:Addr}{u:HO}(r:Rd H a u)(x:rm P w H h):cF P w H h a u:=by
 rcases r with r|⟨o,r⟩
 ·exact x a u r
 ·obtain⟨_,q⟩:=x a _ r;exact q
def Qh:(9,HO)->Prop
 |some (.lst _)=>True
 |some (.dK _)=>True
 |some (.dT _)=>True
 |some (.set _ _)=>True
 |some (.ins _ _ _)=>True
 |some (.ext _)=>True
 |_=>False
section
variable{P:Program}{w:World}{H:Hp}{h h':Heap}{x e:Addr}{o':HO}
theorem rm.write(ok:rm P w H h)(mu:Qh (H x))(he:e=x\/H e=(6,(49,x)))(k:∀b u,b≠e->h.get? b=(6,u)->h'.get? b=(6,u))(heo:∃u,h'.get? e=(6,u))
  (new:cF P w (cA H x o') h' x o'):rm P w (cA H x o') h':=λb u q=>by
 have nown:∀c y,H c=(6,(49,y))->c≠x:=λc y r z=>by subst z;rw[r] at mu;exact mu
 have ntup:∀c xs,H c=(6,(20,xs))->c≠x:=λc xs r z=>by subst z;rw[r] at mu;exact mu
 have nfrz:∀c ob u,H c=(6,.frz ob u)->c≠x:=λc ob u r z=>by subst z;rw[r] at mu;exact mu
 by_cases hb:b=x
 ·subst hb;rw[aH] at q;cases q;exact new
 ·rw[aE hb] at q;by_cases hbe:b=e
  ·have q':H b=(6,(49,x)):=by
    rcases he with z|z
    ·exact absurd (hbe.trans z) hb
    ·rw[hbe];exact z
   rw[q] at q';cases q';obtain⟨v,hv⟩:=heo;exact(5,v,by rw[hbe];exact hv)
  ·refine(ok b u q).stay (λc v hc r=>k c v ?_ r) (λc r=>by rw[aE (nown c b r)];exact r) (λc xs r=>by rw[aE (ntup c xs r)];exact r) λc ob v r=>by rw[aE (nfrz c ob _ r)];exact r
   rcases hc with rfl|hc
   ·exact hbe
   ·rintro rfl
    rcases he with z|z
    ·exact nown c b hc z
    ·rw[hc] at z;cases z;exact hb rfl
end
structure Un(fs ex:List Addr)(H H':Hp)(h h':Heap):Prop where
 keep:∀b o,h.get? b=(6,o)->H b=none->b∉fs->b∉ex->h'.get? b=(6,o)
 slot:∀b o,h.get? b=(6,o)->H b=none->b∈fs->b∉ex->∃sl,h'.get? b=some {o with slots:=sl}
 free:∀b o,h.get? b=(6,o)->H b=none->b∉ex->H' b=none
 there:∀b o,h.get? b=(6,o)->b∉ex->∃o',h'.get? b=(6,o')
 tups:∀b xs,H b=(6,(20,xs))->H' b=(6,(20,xs))
 frzs:∀b o u,H b=(6,.frz o u)->H' b=(6,.frz o u)
 tbls:∀b ps,H b=(6,.tbl ps)->∃more,H' b=(6,.tbl (ps++more))
section
variable{fs fs' ex ex':List Addr}{H H1 H2:Hp}{h h1 h2 h':Heap}{a x e:Addr}{o:HO}
theorem Un.any(u:Un fs ex H H1 h h1){b:Addr}{ob:Obj}(q:h.get? b=(6,ob))(n:H b=none)(hx:b∉ex):∃sl,h1.get? b=some {ob with slots:=sl}:=by
 by_cases hb:b∈fs
 ·exact u.slot b ob q n hb hx
 ·exact(5,ob.slots,u.keep b ob q n hb hx)
theorem Un.trans(a:Un fs ex H H1 h h1)(b:Un fs ex H1 H2 h1 h2):Un fs ex H H2 h h2 where
 keep:=λc ob q n hc hx=>b.keep c ob (a.keep c ob q n hc hx) (a.free c ob q n hx) hc hx
 slot:=λc ob q n hc hx=>by
  obtain⟨sl,e1⟩:=a.slot c ob q n hc hx;obtain⟨sl',e2⟩:=b.slot c _ e1 (a.free c ob q n hx) hc hx;exact(5,sl',e2)
 free:=λc ob q n hx=>by
  obtain⟨o',e1⟩:=a.there c ob q hx;exact b.free c o' e1 (a.free c ob q n hx) hx
 there:=λc ob q hx=>by
  obtain⟨o',e1⟩:=a.there c ob q hx;exact b.there c o' e1 hx
 tups:=λc xs q=>b.tups c xs (a.tups c xs q)
 frzs:=λc ob xs q=>b.frzs c ob xs (a.frzs c ob xs q)
 tbls:=λc ps q=>by
  obtain⟨m1,e1⟩:=a.tbls c ps q;obtain⟨m2,e2⟩:=b.tbls c _ e1;exact(5,m1++m2,by rw[e2,Array.append_assoc])
theorem Un.kept(k:∀b u,h.get? b=(6,u)->h'.get? b=(6,u)):Un fs ex H H h h':=
 ⟨λb ob q _ _ _=>k b ob q,λb ob q _ _ _=>(5,ob.slots,k b ob q),λ_ _ _ n _=>n,λb ob q _=>(5,ob,k b ob q),λ_ _ q=>q,λ_ _ _ q=>q,λ_ ps q=>(5,#[],by rw[q];simp)⟩
theorem Un.refl:Un fs ex H H h h:=Un.kept λ_ _ q=>q
theorem Un.laid(k:∀b u,h.get? b=(6,u)->h'.get? b=(6,u))(hp:h.objs.size<=a)(hn:H a=none):Un fs ex H (cA H a o) h h' where
 keep:=λb u q _ _ _=>k b u q
 slot:=λb u q _ _ _=>(5,u.slots,k b u q)
 free:=λb u q n _=>by rw[aE (ne_of_lt (11,(51,q),hp))];exact n
 there:=λb u q _=>(5,u,k b u q)
 tups:=λb xs q=>by rw[aE (aZ q hn)];exact q
 frzs:=λb u xs q=>by rw[aE (aZ q hn)];exact q
 tbls:=λb ps q=>(5,#[],by rw[aE (aZ q hn),q];simp)
theorem Un.write(mu:Qh (H x))(he:e=x\/H e=(6,(49,x)))(k:∀b u,b≠e->h.get? b=(6,u)->h'.get? b=(6,u))(heo:∃u,h'.get? e=(6,u)):Un fs ex H (cA H x o) h h':=by
 have hx:∀b,H b=none->b≠x:=λb n z=>by subst z;rw[n] at mu;exact mu
 have hb:∀b,H b=none->b≠e:=λb n z=>by
  subst z;rcases he with r|r
  ·exact hx b n r
  ·rw[n] at r;cases r
 have hm:∀b u,H b=(6,u)->¬Qh (6,u)->b≠x:=λb u q nm z=>by subst z;rw[q] at mu;exact nm mu
 refine⟨λb u q n _ _=>k b u (hb b n) q,λb u q n _ _=>(5,u.slots,k b u (hb b n) q),λb u q n _=>by rw[aE (hx b n)];exact n,λb u q _=>?_,
  λb xs q=>by rw[aE (hm b _ q λz=>z)];exact q,λb u xs q=>by rw[aE (hm b _ q λz=>z)];exact q,λb ps q=>(5,#[],by rw[aE (hm b _ q λz=>z),q];simp)⟩
 by_cases hbe:b=e
 ·subst hbe;exact heo
 ·exact(5,u,k b u hbe q)
theorem Un.mono(u:Un fs ex H H1 h h1)(hs:∀b∈fs,b∈fs')(hx:∀b∈ex,b∈ex'):Un fs' ex' H H1 h h1:=
 ⟨λb ob q n hb he=>u.keep b ob q n (λz=>hb (hs b z)) λz=>he (hx b z),λ_ _ q n _ he=>u.any q n λz=>he (hx _ z),λb ob q n he=>u.free b ob q n λz=>he (hx b z),λb ob q he=>u.there b ob q λz=>he (hx b z),u.tups,u.frzs,u.tbls⟩
end
def Ql(h:Heap)(H:Hp):List Addr:=(23,h.objs.size).filter λa=>(H a).isSome
def Ac(h:Heap)(H:Hp):Heap:=PySem.W.hideAll h (Ql h H)
theorem Hq(h:Heap)(H:Hp):(Ac h H).objs.size=h.objs.size:=PySem.W.hideAll_size _ _
theorem JR{h:Heap}{H:Hp}{b:Addr}{o:Obj}(e:h.get? b=(6,o))(n:H b=none):(Ac h H).get? b=(6,o):=
 PySem.W.hideAll_get _ e λhm=>by
  have q:(H b).isSome=true:=(mem_filter.mp hm).2;rw[n] at q;simp at q
theorem LG{h:Heap}{H:Hp}{b:Addr}{o:Obj}(e:(Ac h H).get? b=(6,o)):h.get? b=(6,o)/\H b=none:=by
 have e':h.get? b=(6,o):=PySem.W.of_hideAll (Ql h H) e;refine(5,e',?_);cases q:H b with
 |none=>rfl
 |some x=>
  have hm:b∈Ql h H:=mem_filter.mpr (5,mem_range.mpr (51,e'),by simp[q])
  have z:(Ac h H).get? b=none:=PySem.W.hideAll_none (Ql h H) hm;rw[z] at e;cases e
def Mz(g h:Heap)(L:Addr):[18]:=(23,h.objs.size).filterMap λa=>if a=L\/(g.get? a).isSome=true then none else(h.get? a).map λo=>(a,o)
def rest(g h:Heap)(L d:Addr):[18]:=(Mz g h L).filter λp=>decide (p.1≠d)
structure Mod(K:Frag)(mg:Str->Option Value)(base:Heap):Prop where
 kin:K.In base
 glob:base.Ns mainGlobals mg
 blt:∃mb,base.Ns builtinsNs mb/\∀x:Str,x ≠ "__name__" -> mb x=bootBuiltins x
 nolimit:base.NoLimit
structure Cx where
 prog:Program
 w:World
 K:Frag
 mg:Str->[26]
 base:Heap
 A:Around
 N:[16]
 s₀:Shared
 H₀:Hp
 env:Env
 outer:List Env
 stack:List Env
 ex:List Addr
 fn:Str->Bool
 calm:Bool
 pn:[18]
 xe:Value->Shared->Prop
def frs(l:List Env):List Addr:=l.filterMap (·.frame)
abbrev Cx.fs(X:Cx):List Addr:=frs X.outer
def HQ(sc:Scope)(x:Str):Prop:=sc.names.lookup x=(6,.local)\/sc.names.lookup x=(6,.cell)\/sc.names.lookup x=(6,.free)
def HM(sc:Scope)(x:Str):Prop:=sc.names.lookup x=(6,.local)\/sc.names.lookup x=(6,.cell)
def R0(env:Env)(h:Heap)(m:Str->[26])(x:Str)(u:Value):Prop:=
 (env.kindOf x=(6,.local)/\m x=(6,u))\/((env.kindOf x=(6,.cell)\/env.kindOf x=(6,.free))/\∃c,env.cells.lookup x=(6,c)/\h.IsCell c (6,u))
structure Cx.Ok(X:Cx):Prop where
 mod:Mod X.K X.mg X.base
 kind:X.env.scope.kind=.function
 glob:X.env.globals=mainGlobals
 blt:X.env.builtins=builtinsNs
 above:X.s₀.heap.objs.size<=X.env.locals
 inj:∀x y c,(54,x)=(6,c)->(54,y)=(6,c)->x=y
 has:∀x,(X.env.kindOf x=(6,.cell)\/X.env.kindOf x=(6,.free))->∃c,(54,x)=(6,c)
 cab:∀x c,X.fn x=true->(54,x)=(6,c)->X.s₀.heap.objs.size<=c
 hd:X.calm=true->X.A.handled=none
 frames:X.A.frames=(6,X.stack)
 stk:X.stack=X.outer\/(X.stack=X.env::X.outer/\X.env.frame=(6,X.env.locals))
 exf:∀b∈X.ex,b≠X.env.locals/\∀x c,(54,x)=(6,c)->c≠b
 bs:∀b o,X.base.get? b=(6,o)->X.s₀.heap.get? b=(6,o)/\X.H₀ b=none
 bsz:X.base.objs.size<=X.s₀.heap.objs.size
 noex:∀b o,X.base.get? b=(6,o)->b∉X.ex
 exfs:∀b∈X.ex,b∉X.fs
 funs:X.s₀.heap.FunFrames X.base X.outer
 frf:∀b∈X.fs,X.H₀ b=none
structure aR(X:Cx)(pins:List (Addr×Obj))(σ:List (Option V))(H:Hp)(s:Shared):Prop where
 ok:X.Ok
 os:s.os=X.s₀.os
 bare:AllBare s.gens
 base:Un X.fs X.ex X.H₀ H X.s₀.heap s.heap
 loc:∃m,s.heap.Ns X.env.locals m/\∀(i:Nat)(x:Str)(v:V),X.N[i]?=(6,x)->σ[i]?=(21,v)->HQ X.env.scope x->∃u,bV v u/\R0 X.env s.heap m x u
 cell:∀x c,(54,x)=(6,c)->∃v,s.heap.IsCell c v
 free:H X.env.locals=none
 freeC:∀x c,(54,x)=(6,c)->H c=none
 pin:∀p∈X.pn++pins,(25,p.1)=(6,p.2)/\H p.1=none/\p.1≠X.env.locals/\p.1∉X.fs/\∀v,p.2.data≠.cell v
 hok:rm X.prog X.w H s.heap
 len:σ.length=X.N.length
section
variable{X:Cx}{pins:List (Addr×Obj)}{σ:List (Option V)}{H H':Hp}{s:Shared}{h':Heap}
theorem Cx.Ok.nofr(ok:X.Ok){b:Addr}{o:Obj}(e:X.base.get? b=(6,o)):b∉X.fs:=λhb=>by
 have:=(ok.funs.mem hb).1;rw[e] at this;cases this
theorem aR.bs(I:(20,H,s)):∀b o,X.base.get? b=(6,o)->(25,b)=(6,o)/\H b=none:=λb o e=>
 (5,I.base.keep b o (I.ok.bs b o e).1 (I.ok.bs b o e).2 (I.ok.nofr e) (I.ok.noex b o e),I.base.free b o (I.ok.bs b o e).1 (I.ok.bs b o e).2 (I.ok.noex b o e))
theorem aR.bk(I:(20,H,s)):∀b o,X.base.get? b=(6,o)->(25,b)=(6,o):=λb o e=>(I.bs b o e).1
theorem aR.mod(I:(20,H,s)):Mod X.K X.mg X.base:=I.ok.mod
theorem aR.kIn(I:(20,H,s)):X.K.In s.heap:=I.ok.mod.kin.keeps I.bk
theorem aR.nolimit(I:(20,H,s)):s.heap.NoLimit:=I.ok.mod.nolimit.keeps I.bk
theorem aR.fr(I:(20,H,s)):∃m,Fr X.base X.env.locals s.heap m:=
 let ⟨m,hn,_⟩:=I.loc
 (9,m,hn,I.bk,le_trans I.ok.bsz I.ok.above)
theorem aR.lt(I:(20,H,s)):X.env.locals<s.heap.objs.size:=let ⟨_,hn,_⟩:=I.loc;hn.lt
theorem aR.sz(I:(20,H,s)):X.s₀.heap.objs.size<=s.heap.objs.size:=le_trans I.ok.above (le_of_lt I.lt)
theorem aR.nofs(I:(20,H,s)){a:Addr}(h:s.heap.objs.size<=a):a∉X.fs:=λhb=>by
 obtain⟨_,o,ho,_⟩:=I.ok.funs.mem hb;exact absurd (11,(51,ho),le_trans I.sz h) (lt_irrefl _)
theorem aR.cne(I:(20,H,s)):∀x c,(54,x)=(6,c)->c≠X.env.locals:=λx c e z=>by
 obtain⟨v,o,ho,hd⟩:=I.cell x c e;obtain⟨m,⟨o',es,ep,ho',hd',_⟩,_⟩:=I.loc;rw[z,ho'] at ho;cases ho;rw[hd'] at hd;cases hd
theorem aR.funs(I:(20,H,s)):s.heap.FunFrames X.base X.outer:=by
 have all:∀(l:List Env),(∀b∈frs l,b∈X.fs)->X.s₀.heap.FunFrames X.base l->s.heap.FunFrames X.base l:=by
  intro l
  induction l with
  |nil=>intro _ _;trivial
  |cons env r ih=>
   intro hs hl;obtain⟨hk,⟨L,o,hf,hn,ho,hd⟩,hr⟩:=hl;have hL:L∈X.fs:=hs L (by unfold frs;rw[filterMap_cons,hf];exact mem_cons_self)
   obtain⟨sl,e⟩:=I.base.slot L o ho (I.ok.frf L hL) hL λz=>I.ok.exfs L z hL;exact(12,hk,⟨L,_,hf,hn,e,hd⟩,ih (λb hb=>hs b (by unfold frs;rw[filterMap_cons,hf];exact(31,hb))) hr)
 exact all X.outer (λ_ hb=>hb) I.ok.funs
theorem aR.stack(I:(20,H,s)):s.heap.FunFrames X.base X.stack:=by
 rcases I.ok.stk with e|⟨e,hf⟩
 ·rw[e];exact I.funs
 ·rw[e];obtain⟨m,hn,_⟩:=I.loc;refine .cons (by rw[I.ok.kind];decide) hf hn ?_ I.funs
  exact get?_none_of_le (le_trans I.ok.bsz I.ok.above)
theorem aR.stkSub(I:(20,H,s)):∀b∈frs X.stack,b∈X.env.locals::X.fs:=λb hb=>by
 rcases I.ok.stk with e|⟨e,hf⟩
 ·rw[e] at hb;exact(31,hb)
 ·rw[e] at hb;unfold frs at hb;rw[filterMap_cons,hf] at hb;exact hb
theorem aR.stkFree(I:(20,H,s)):∀b∈frs X.stack,H b=none:=λb hb=>by
 rcases mem_cons.mp (I.stkSub b hb) with e|hb
 ·rw[e];exact I.free
 ·obtain⟨_,o,ho,_⟩:=I.ok.funs.mem hb;exact I.base.free b o ho (I.ok.frf b hb) λz=>I.ok.exfs b z hb
theorem aR.step{g':Array GenState}{t':Nat}{d':Drawn}{ch:List Addr}(I:(20,H,s))
  (hch:∀b∈ch,(b∈X.ex\/X.s₀.heap.objs.size<=b)/\b≠X.env.locals/\(∀x c,(54,x)=(6,c)->c≠b)/\∀p∈X.pn++pins,p.1≠b)
  (keep:∀b o,b≠X.env.locals->b∉X.fs->b∉ch->(25,b)=(6,o)->H b=none->h'.get? b=(6,o))
  (slot:∀b o,b≠X.env.locals->b∈X.fs->b∉ch->(25,b)=(6,o)->H b=none->∃sl,h'.get? b=some {o with slots:=sl}) (free:∀b o,b∉ch->(25,b)=(6,o)->H b=none->H' b=none)
  (there:∀b o,b∉ch->(25,b)=(6,o)->∃o',h'.get? b=(6,o'))
  (tups:∀b xs,H b=(6,(20,xs))->H' b=(6,(20,xs))) (frzs:∀b o u,H b=(6,.frz o u)->H' b=(6,.frz o u)) (tbls:∀b ps,H b=(6,.tbl ps)->∃more,H' b=(6,.tbl (ps++more)))
  (ns:∀m,s.heap.Ns X.env.locals m->h'.Ns X.env.locals m) (hok:rm X.prog X.w H' h') (hg:AllBare g'):
  aR X pins σ H' {s with heap:=h',gens:=g',drawn:=d',toks:=t'}:=by
 have neL:∀b o,X.s₀.heap.get? b=(6,o)->b≠X.env.locals:=λb o e=>ne_of_lt (11,(51,e),I.ok.above);have neC:∀b o,X.s₀.heap.get? b=(6,o)->b∉X.ex->b∉ch:=λb o e hx hb=>by
  rcases(hch b hb).1 with z|z
  ·exact hx z
  ·exact absurd (11,(51,e),z) (lt_irrefl _)
 have cellK:∀x c,(54,x)=(6,c)->∀v,s.heap.IsCell c v->h'.IsCell c v:=λx c e v ⟨o,ho,hd⟩=>by
  have nch:c∉ch:=λz=>(hch c z).2.2.1 x c e rfl;by_cases hc:c∈X.fs
  ·obtain⟨sl,q⟩:=slot c o (I.cne x c e) hc nch ho (I.freeC x c e);exact(12,_,q,hd)
  ·exact(12,o,keep c o (I.cne x c e) hc nch ho (I.freeC x c e),hd)
 refine⟨I.ok,I.os,hg,⟨λb o e n hb hx=>?_,λb o e n hb hx=>?_,λb o e n hx=>?_,λb o e hx=>?_,λb xs e=>tups b xs (I.base.tups b xs e),λb o xs e=>frzs b o xs (I.base.frzs b o xs e),λb ps e=>?_⟩,?_,λx c e=>?_,?_,λx c e=>?_,λp hp=>?_,hok,I.len⟩
 ·exact keep b o (neL b o e) hb (neC b o e hx) (I.base.keep b o e n hb hx) (I.base.free b o e n hx)
 ·obtain⟨sl,e1⟩:=I.base.slot b o e n hb hx;obtain⟨sl',e2⟩:=slot b _ (neL b o e) hb (neC b o e hx) e1 (I.base.free b o e n hx);exact(5,sl',e2)
 ·obtain⟨o',e1⟩:=I.base.there b o e hx;exact free b o' (neC b o e hx) e1 (I.base.free b o e n hx)
 ·obtain⟨o',e1⟩:=I.base.there b o e hx;exact there b o' (neC b o e hx) e1
 ·obtain⟨m1,e1⟩:=I.base.tbls b ps e;obtain⟨m2,e2⟩:=tbls b _ e1;exact(5,m1++m2,by rw[e2,Array.append_assoc])
 ·obtain⟨m,hn,hl⟩:=I.loc;refine(12,m,ns m hn,λi x v e1 e2 e3=>?_);obtain⟨u,r,l⟩:=hl i x v e1 e2 e3;refine(12,u,r,?_);rcases l with l|⟨k,c,e,z⟩
  ·exact .inl l
  ·exact .inr (9,k,c,e,cellK x c e _ z)
 ·obtain⟨v,z⟩:=I.cell x c e;exact(5,v,cellK x c e v z)
 ·obtain⟨m,⟨o,_,_,ho,_⟩,_⟩:=I.loc;exact free _ o (λz=>(hch _ z).2.1 rfl) ho I.free
 ·obtain⟨v,o,ho,hd⟩:=I.cell x c e;exact free c o (λz=>(hch c z).2.2.1 x c e rfl) ho (I.freeC x c e)
 ·obtain⟨e,n,ne,nf,d⟩:=I.pin p hp;have nch:p.1∉ch:=λz=>(hch p.1 z).2.2.2 p hp rfl;exact⟨keep p.1 p.2 ne nf nch e n,free p.1 p.2 nch e n,ne,nf,d⟩
theorem aR.un{t':Nat}(I:(20,H,s))(u:Un X.fs [] H H' s.heap h')(hok:rm X.prog X.w H' h'):aR X pins σ H' {s with heap:=h',toks:=t'}:=by
 obtain⟨m,⟨o,es,ep,ho,r⟩,_⟩:=id I.loc;obtain⟨sl,hL⟩:=u.any ho I.free [20]
 exact I.step (g':=s.gens) (d':=s.drawn) (ch:=[]) (λ_ z=>nomatch z) (λb o _ hb _ e n=>u.keep b o e n hb [20]) (λb o _ hb _ e n=>u.slot b o e n hb [20]) (λb o _ e n=>u.free b o e n [20]) (λb o _ e=>u.there b o e [20]) u.tups u.frzs u.tbls (λm' hm=>by
  obtain⟨o',es',ep',ho',r'⟩:=hm;rw[ho] at ho';cases ho';exact⟨_,es',ep',hL,r'⟩) hok I.bare
theorem aR.call{g':Array GenState}{t':Nat}{d':Drawn}{ch:List Addr}(I:(20,H,s))(u:Un (frs X.stack) ch H H' s.heap h')(hok:rm X.prog X.w H' h')(hg:AllBare g')
  (hch:∀b∈ch,(b∈X.ex\/X.s₀.heap.objs.size<=b)/\b≠X.env.locals/\(∀x c,(54,x)=(6,c)->c≠b)/\∀p∈X.pn++pins,p.1≠b):
  aR X pins σ H' {s with heap:=h',gens:=g',drawn:=d',toks:=t'}:=by
 obtain⟨m,⟨o,es,ep,ho,r⟩,_⟩:=id I.loc;obtain⟨sl,hL⟩:=u.any ho I.free λz=>(hch _ z).2.1 rfl;exact I.step (ch:=ch) hch (λb o hL hb hc e n=>u.keep b o e n (λz=>(mem_cons.mp (I.stkSub b z)).elim hL hb) hc) (λb o _ _ hc e n=>u.any e n hc) (λb o hc e n=>u.free b o e n hc) (λb o hc e=>u.there b o e hc) u.tups u.frzs u.tbls (λm' hm=>by
  obtain⟨o',es',ep',ho',r'⟩:=hm;rw[ho] at ho';cases ho';exact⟨_,es',ep',hL,r'⟩) hok hg
theorem aR.turned{t':Nat}{it:Addr}(I:(20,H,s))(k:∀b o,b≠it->(25,b)=(6,o)->h'.get? b=(6,o))(hn:H it=none)(hL:it≠X.env.locals)
  (h1:it∈X.ex\/X.s₀.heap.objs.size<=it) (h2:∀x c,(54,x)=(6,c)->c≠it) (h3:∀p∈X.pn++pins,p.1≠it):aR X pins σ H {s with heap:=h',toks:=t'}:=by
 have nit:∀b u,H b=(6,u)->b≠it:=λb u e z=>by rw[z,hn] at e;cases e
 refine I.step (g':=s.gens) (d':=s.drawn) (ch:=[it]) (λb hb=>?_) (λb o _ _ hc e _=>k b o (λz=>hc (by simp[z])) e) (λb o _ _ hc e _=>(5,o.slots,k b o (λz=>hc (by simp[z])) e)) (λ_ _ _ _ n=>n)
  (λb o hc e=>(5,o,k b o (λz=>hc (by simp[z])) e)) (λ_ _ e=>e) (λ_ _ _ e=>e) (λb ps e=>(5,#[],by rw[e];simp)) (λm hm=>?_) (λb u e=>?_) I.bare
 ·have e:b=it:=by simpa using hb
  subst e;exact(9,h1,hL,h2,h3)
 ·obtain⟨o,es,ep,ho,r⟩:=hm;exact⟨o,es,ep,k _ o (Ne.symm hL) ho,r⟩
 ·refine(I.hok b u e).stay (λc v hc q=>k c v ?_ q) (λ_ q=>q) (λ_ _ q=>q) λ_ _ _ q=>q;rcases hc with z|z
  ·rw[z];exact nit b u e
  ·exact nit c _ z
theorem aR.tok(I:(20,H,s))(t:Nat):aR X pins σ H {s with toks:=t}:=I.un (h':=s.heap) (t':=t) Un.refl I.hok
theorem aR.kept{t':Nat}(I:(20,H,s))(k:∀b u,(25,b)=(6,u)->h'.get? b=(6,u)):aR X pins σ H {s with heap:=h',toks:=t'}:=I.un (Un.kept k) (I.hok.kept k)
theorem aR.laid{a:Addr}{o:HO}{t':Nat}(I:(20,H,s))(k:∀b u,(25,b)=(6,u)->h'.get? b=(6,u))(hp:s.heap.objs.size<=a)(new:cF X.prog X.w (cA H a o) h' a o):
  aR X pins σ (cA H a o) {s with heap:=h',toks:=t'}:=I.un (Un.laid k hp (I.hok.fresh hp)) (I.hok.laid k hp new)
theorem aR.write{x e:Addr}{o:HO}{t':Nat}(I:(20,H,s))(mu:Qh (H x))(he:e=x\/H e=(6,(49,x)))(k:∀b u,b≠e->(25,b)=(6,u)->h'.get? b=(6,u))(heo:∃u,h'.get? e=(6,u))
  (new:cF X.prog X.w (cA H x o) h' x o):aR X pins σ (cA H x o) {s with heap:=h',toks:=t'}:=I.un (Un.write mu he k heo) (I.hok.write mu he k heo new)
theorem aR.pins_of{pins':[18]}(I:(20,H,s))(h:∀p∈pins',(25,p.1)=(6,p.2)/\H p.1=none/\p.1≠X.env.locals/\p.1∉X.fs/\∀v,p.2.data≠.cell v):aR X pins' σ H s:=
 ⟨I.ok,I.os,I.bare,I.base,I.loc,I.cell,I.free,I.freeC,λp hp=>(mem_append.mp hp).elim (λz=>I.pin p (mem_append_left _ z)) (h p),I.hok,I.len⟩
theorem vi{N:[16]}(hN:N.Nodup){i j:Nat}{x:Str}(a:N[i]?=(6,x))(b:N[j]?=(6,x)):i=j:=by
 obtain⟨h1,e1⟩:=(12,a);obtain⟨h2,e2⟩:=(12,b);exact(List.getElem_inj hN).mp (e1.trans e2.symm)
theorem xF{M:Model}{A:Around}{E:Value->Shared->Prop}{i:Nat}{x:Str}{v:V}{u:Value}{Q:Unit->Shared->Prop}(I:(20,H,s))(hN:X.N.Nodup)(hi:X.N[i]?=(6,x))(hx:HM X.env.scope x)(r:bV v u)
  (h:∀s',(4,X,σ.set i (6,v),H,s')->(∃a,Heap.SameBut a s.heap s'.heap/\(a=X.env.locals\/(54,x)=(6,a)))->Q () s') (hf:X.fn x=true\/(24,x)=(6,.local):=by first|exact .inl rfl|exact .inr rfl|assumption):wpAny M A (storeName X.env x u) Q E s:=by
 obtain⟨m,hn,hl⟩:=id I.loc;have hcls:(X.env.scope.kind == .class || (X.env.scope.kind == .module && X.env.locals != X.env.globals))=false:=by rw[I.ok.kind];rfl
 have hiσ:i<σ.length:=by rw[I.len];exact(12,hi).1
 have cne:=I.cne;have tracked:∀{a:Addr}{h':Heap},(∃o,(25,a)=(6,o)/\H a=none)->Heap.SameBut a s.heap h'->rm X.prog X.w H h':=λ{a h'} ha hs b ob e=>by
  obtain⟨_,_,hfree⟩:=ha;refine(I.hok b ob e).stay (λc w' hc q=>(hs.2 c ?_).trans q) (λ_ q=>q) (λ_ _ q=>q) λ_ _ _ q=>q
  rintro rfl
  rcases hc with rfl|hc
  ·rw[hfree] at e;cases e
  ·rw[hfree] at hc;cases hc
 rcases hx with hk|hk
 ·refine wpAny_storeName_local hk hn (λh' hn' hs=>?_) hcls;obtain⟨oL,_,_,hoL,_⟩:=id hn;refine h _ ⟨I.ok,I.os,I.bare,⟨λb o e n hb hx=>?_,λb o e n hb hx=>?_,I.base.free,λb o e hx=>?_,I.base.tups,I.base.frzs,I.base.tbls⟩,(12,_,hn',λj y v' e1 e2 e3=>?_),λy c e=>?_,I.free,I.freeC,λp hp=>?_,tracked (12,oL,hoL,I.free) hs,by simpa using I.len⟩ (12,_,hs,.inl rfl)
  ·exact(hs.2 b (ne_of_lt (11,(51,e),I.ok.above))).trans (I.base.keep b o e n hb hx)
  ·obtain⟨sl,e1⟩:=I.base.slot b o e n hb hx;exact(5,sl,(hs.2 b (ne_of_lt (11,(51,e),I.ok.above))).trans e1)
  ·obtain⟨o',e1⟩:=I.base.there b o e hx;exact(5,o',(hs.2 b (ne_of_lt (11,(51,e),I.ok.above))).trans e1)
  ·by_cases hj:j=i
   ·subst hj;rw[hi] at e1;cases e1;rw[(32,hiσ)] at e2;cases e2;exact(12,u,r,.inl (5,hk,by simp))
   ·rw[(34,Ne.symm hj)] at e2;obtain⟨u',r',q⟩:=hl j y v' e1 e2 e3;refine(12,u',r',?_);rcases q with⟨k,e⟩|⟨k,c,e,z⟩
    ·refine .inl (5,k,?_);have:y≠x:=λe=>hj (vi hN e1 (e▸hi));simp[this,e]
    ·exact .inr (9,k,c,e,z.sameBut hs (cne y c e))
  ·obtain⟨w',z⟩:=I.cell y c e;exact(5,w',z.sameBut hs (cne y c e))
  ·obtain⟨e,n,ne,nf,d⟩:=I.pin p hp;exact⟨(hs.2 p.1 ne).trans e,n,ne,nf,d⟩
 ·have hfn:X.fn x=true:=by
   rcases hf with z|z
   ·exact z
   ·rw[z] at hk;cases hk
  obtain⟨c,hc⟩:=I.ok.has x (.inl hk);obtain⟨w',z⟩:=I.cell x c hc;refine wpAny_storeName_cell I.ok.kind hk hc z (λh' hc' hs=>?_);obtain⟨oc,hoc,hocd⟩:=id z;refine h {s with heap:=h'} ⟨I.ok,I.os,I.bare,⟨λb o e n hb hx=>?_,λb o e n hb hx=>?_,I.base.free,λb o e hx=>?_,I.base.tups,I.base.frzs,I.base.tbls⟩,(12,m,hn.sameBut hs (Ne.symm (cne x c hc)),λj y v' e1 e2 e3=>?_),λy c' e=>?_,I.free,I.freeC,λp hp=>?_,tracked (12,oc,hoc,I.freeC x c hc) hs,by simpa using I.len⟩ (12,c,hs,.inr hc)
  ·exact(hs.2 b (ne_of_lt (11,(51,e),I.ok.cab x c hfn hc))).trans (I.base.keep b o e n hb hx)
  ·obtain⟨sl,e1⟩:=I.base.slot b o e n hb hx;exact(5,sl,(hs.2 b (ne_of_lt (11,(51,e),I.ok.cab x c hfn hc))).trans e1)
  ·obtain⟨o',e1⟩:=I.base.there b o e hx;exact(5,o',(hs.2 b (ne_of_lt (11,(51,e),I.ok.cab x c hfn hc))).trans e1)
  ·by_cases hj:j=i
   ·subst hj;rw[hi] at e1;cases e1;rw[(32,hiσ)] at e2;cases e2;exact(12,u,r,.inr (9,.inl hk,c,hc,hc'))
   ·rw[(34,Ne.symm hj)] at e2;obtain⟨u',r',q⟩:=hl j y v' e1 e2 e3;refine(12,u',r',?_);rcases q with q|⟨k,c',e,z'⟩
    ·exact .inl q
    ·refine .inr (9,k,c',e,z'.sameBut hs ?_)
     rintro rfl
     exact hj (vi hN e1 (I.ok.inj _ _ _ e hc▸hi))
  ·by_cases hcc:c'=c
   ·subst hcc;exact(5,_,hc')
   ·obtain⟨w2,z2⟩:=I.cell y c' e;exact(5,w2,z2.sameBut hs hcc)
  ·obtain⟨e,n,ne,nf,d⟩:=I.pin p hp;refine⟨(hs.2 p.1 ?_).trans e,n,ne,nf,d⟩;intro q;rw[q,hoc] at e;have q':oc=p.2:=Option.some.inj e;exact d w' (by rw[←q'];exact hocd)
theorem l6{M:Model}{A:Around}{E:Value->Shared->Prop}{i:Nat}{x:Str}{v:V}{u:Value}{Q:Unit->Shared->Prop}(I:(20,H,s))(hN:X.N.Nodup)(hi:X.N[i]?=(6,x))(hx:HM X.env.scope x)(r:bV v u)
  (h:∀s',(4,X,σ.set i (6,v),H,s')->Q () s') (hf:X.fn x=true\/(24,x)=(6,.local):=by first|exact .inl rfl|exact .inr rfl|assumption):wpAny M A (storeName X.env x u) Q E s:=
 xF I hN hi hx r (λs' I' _=>h s' I') hf
theorem aR.call'{s':Shared}{ch:List Addr}(I:(20,H,s))(ho:s'.os=s.os)(u:Un (frs X.stack) ch H H' s.heap s'.heap)(hok:rm X.prog X.w H' s'.heap)(hg:AllBare s'.gens)
  (hch:∀b∈ch,(b∈X.ex\/X.s₀.heap.objs.size<=b)/\b≠X.env.locals/\(∀x c,(54,x)=(6,c)->c≠b)/\∀p∈X.pn++pins,p.1≠b):(20,H',s'):=by
 obtain⟨h',g',d',t',o'⟩:=s';have e:o'=s.os:=ho;subst e;exact I.call (g':=g') (t':=t') (d':=d') u hok hg hch
end
abbrev XK:=Value->(9,Addr)->Hp->Prop
abbrev St:=List (9,V)
abbrev VK:=V->Hp->Prop
abbrev TE:=St->Hp->VK->Prop
abbrev TT:=St->Hp->(Bool->Hp->Prop)->Prop
abbrev TA:=St->Hp->(List V->Hp->Prop)->Prop
structure tm where
 nx:St->Hp->Prop
 rt:VK
 bk:St->Hp->Prop:=λ_ _=>False
 ct:St->Hp->Prop:=λ_ _=>False
abbrev TS:=tm->St->Hp->Prop
def EP(X:Cx)(pins:[18])(σ:St)(Q:VK)(u:Value)(s':Shared):Prop:=∃v H',(20,H',s')/\bV v u/\Q v H'
def TP(X:Cx)(pins:[18])(σ:St)(Q:Bool->Hp->Prop)(b:Bool)(s':Shared):Prop:=∃H',(20,H',s')/\Q b H'
def AP(X:Cx)(pins:[18])(σ:St)(Q:List V->Hp->Prop)(us:[19])(s':Shared):Prop:=∃vs H',(20,H',s')/\Vals vs us/\Q vs H'
def SP(X:Cx)(pins:[18])(D:tm)(f:Flow)(s':Shared):Prop:=
 match f with
 |.next=>∃σ' H',(4,X,σ',H',s')/\D.nx σ' H'
 |.brk=>∃σ' H',(4,X,σ',H',s')/\D.bk σ' H'
 |.cont=>∃σ' H',(4,X,σ',H',s')/\D.ct σ' H'
 |.ret u=>∃v σ' H',(4,X,σ',H',s')/\bV v u/\D.rt v H'
def PE(X:Cx)(e:Expr)(t:TE):Prop:=
 ∀(pins:[18])(s:Shared)(σ:St)(H:Hp)(Q:VK),(20,H,s)->t σ H Q->(1,X.prog,X.w,X.A,(16,e),EP X pins σ Q,X.xe,s)
def PT(X:Cx)(e:Expr)(t:TT):Prop:=
 ∀(pins:[18])(s:Shared)(σ:St)(H:Hp)(Q:Bool->Hp->Prop),(20,H,s)->t σ H Q->(1,X.prog,X.w,X.A,isTrue e X.env (16,e),TP X pins σ Q,X.xe,s)
def PW(X:Cx)(e:Expr)(t:TT):Prop:=
 ∀(whole:Sem Value)(pins:[18])(s:Shared)(σ:St)(H:Hp)(Q:Bool->Hp->Prop),(20,H,s)->t σ H Q->(1,X.prog,X.w,X.A,isTrue e X.env whole,TP X pins σ Q,X.xe,s)
theorem PW.pt{X:Cx}{e:Expr}{t:TT}(h:PW X e t):PT X e t:=h _
def PA(X:Cx)(es:List Expr)(t:TA):Prop:=
 ∀(pos:Pos)(pins:[18])(s:Shared)(σ:St)(H:Hp)(Q:List V->Hp->Prop),(20,H,s)->t σ H Q->(1,X.prog,X.w,X.A,spliced (10,pos,es),AP X pins σ Q,X.xe,s)
def PS(X:Cx)(st:Stmt)(t:TS):Prop:=
 ∀(pins:[18])(s:Shared)(σ:St)(H:Hp)(D:tm),(20,H,s)->t D σ H->(1,X.prog,X.w,X.A,exec st X.env,SP X pins D,X.xe,s)
def sI(X:Cx)(st:List Stmt)(t:TS):Prop:=
 ∀(pins:[18])(s:Shared)(σ:St)(H:Hp)(D:tm),(20,H,s)->t D σ H->(1,X.prog,X.w,X.A,execs st X.env,SP X pins D,X.xe,s)
theorem df{α:Type}{t:Sem α}{Q Q':α->Shared->Prop}{M:Model}{A:Around}{E:Value->Shared->Prop}{s:Shared}(h:wpAny M A t Q E s)(hQ:∀a s,Q a s->Q' a s):wpAny M A t Q' E s:=wpAny_mono h hQ λ_ _ x=>x
section
variable{X:Cx}
def lL(i:Nat):TE:=λσ H Q=>∃v,σ[i]?=(21,v)/\Q v H
def tC(v:V):TE:=λ_ H Q=>Q v H
theorem zc{i:Nat}{x:Str}{pos:Pos}(hN:X.N[i]?=(6,x))(hv:HQ X.env.scope x)(hd:(x == ("__debug__":Str))=false:=by decide)(hcd:(x == ("__classdict__":Str))=false:=by decide):PE X (6,x,pos) (lL i):=by
 intro pins s σ H Q I h;obtain⟨v,e,h⟩:=h;obtain⟨m,hn,hl⟩:=I.loc;obtain⟨u,r,l⟩:=hl i x v hN e hv;have fin:EP X pins σ Q u s:=⟨v,H,I,r,h⟩;rcases l with⟨hk,hm⟩|⟨hk,c,hc,hcell⟩
 ·exact wpAny_Name (wpAny_loadName_local I.ok.kind hk hn hm fin) hd
 ·rcases hk with hk|hk
  ·exact wpAny_Name (wpAny_loadName_cell I.ok.kind hk hc hcell fin) hd
  ·exact wpAny_Name (wpAny_loadName_free I.ok.kind hk hc hcell fin hcd) hd
theorem IP{i j pos}:PE X (.Constant (4,i) j pos) (tC (4,i)):=λ_ _ _ H _ I h=>wpAny_Constant_int ⟨(4,i),H,I.tok _,(5,_,rfl),h⟩
theorem Pu{b j pos}:PE X (.Constant (.bool b) j pos) (tC (.bl b)):=λ_ _ _ H _ I h=>Constant_bool ⟨.bl b,H,I,rfl,h⟩
theorem NQ{j pos}:PE X (.Constant .none j pos) (tC .non):=λ_ _ _ H _ I h=>Constant_none ⟨.non,H,I,rfl,h⟩
theorem NO{x j pos}:PE X (.Constant (.str x) j pos) (tC (.str x)):=λ_ _ _ H _ I h=>Calls.Constant_str ⟨.str x,H,I.tok _,(5,_,rfl),h⟩
def Gl(X:Cx)(x:Str):Prop:=X.env.kindOf x=(6,.globalImplicit)
theorem mh{E:Value->Shared->Prop}{pins:[18]}{s:Shared}{σ:St}{H:Hp}{x:Str}{u:Value}{pos:Pos}{Q:Value->Shared->Prop}(I:(20,H,s))(hg:Gl X x)(hm:X.mg x=(6,u))(h:Q u s)
  (hd:(x == ("__debug__":Str))=false:=by decide):(1,X.prog,X.w,X.A,(16,(6,x,pos)),Q,E,s):=
 Calls.Name_function_global I.ok.kind hg (Calls.loadGlobal_global (by rw[I.ok.glob];exact I.mod.glob.keeps I.bk) hm h) hd
theorem pO{E:Value->Shared->Prop}{pins:[18]}{s:Shared}{σ:St}{H:Hp}{x:Str}{u:Value}{pos:Pos}{Q:Value->Shared->Prop}(I:(20,H,s))(hg:Gl X x)(hm:X.mg x=none)(hv:bootBuiltins x=(6,u))(h:Q u s)
  (hn:x ≠ "__name__" := by decide) (hd:(x == ("__debug__":Str))=false:=by decide):(1,X.prog,X.w,X.A,(16,(6,x,pos)),Q,E,s):=by
 obtain⟨mb,h1,h2⟩:=I.mod.blt;exact Calls.Name_function_global I.ok.kind hg (Calls.loadGlobal_builtin (by rw[I.ok.glob];exact I.mod.glob.keeps I.bk) hm (by rw[I.ok.blt];exact h1.keeps I.bk) ((h2 x hn).trans hv) h) hd
theorem Lr{x:Str}{v:V}{u:Value}{pos:Pos}(hg:Gl X x)(hm:X.mg x=none)(hv:bootBuiltins x=(6,u))(r:bV v u)(hn:x ≠ "__name__" := by decide)(hd:(x == ("__debug__":Str))=false:=by decide):PE X (6,x,pos) (tC v):=
 λ_ _ _ H _ I h=>pO I hg hm hv ⟨v,H,I,r,h⟩ hn hd
variable{a b:Expr}{ta tb:TE}{pos:Pos}
def PC(X:Cx)(op:CmpOp)(a b:Expr)(t:TE):Prop:=
 ∀(pins:[18])(s:Shared)(σ:St)(H:Hp)(Q:VK),(20,H,s)->t σ H Q->
  (1,X.prog,X.w,X.A,(16,a),(λv s₁=>(1,X.prog,X.w,X.A,(16,b),(λu s₂=>(1,X.prog,X.w,X.A,compareOp op v u,EP X pins σ Q,X.xe,s₂)),X.xe,s₁)),X.xe,s)
theorem Jh(b:Expr){op:CmpOp}(h:op≠.In)(h2:op≠.NotIn):behindInMarks op b=false:=by
 have e1:(op == CmpOp.In)=false:=by cases op <;> first|rfl|exact absurd rfl h
 have e2:(op == CmpOp.NotIn)=false:=by cases op <;> first|rfl|exact absurd rfl h2
 cases b <;> simp[behindInMarks,e1,e2]
def Pb(ta:TE):TE:=λσ H Q=>ta σ H λx H1=>Q (.bl (!decide (x=.non))) H1
theorem bV.none_iff{x:V}{v:Value}(r:bV x v):(v == Value.none)=decide (x=.non):=by
 cases x with
 |non=>cases r;rfl
 |bl _=>cases r;rfl
 |ref _=>cases r;rfl
 |ty _=>cases r;rfl
 |_=>obtain⟨t,rfl⟩:=r;rfl
theorem Lw{j pos'}(ha:PE X a ta):PC X .IsNot a (.Constant .none j pos') (Pb ta):=by
 intro pins s σ H Q I h;refine df (ha pins s σ H _ I h) λv s1 ⟨x,H1,I1,r1,q1⟩=>?_;exact Constant_none (isnot_none_gen ⟨.bl _,H1,I1,by rw[r1.none_iff];rfl,q1⟩)
def tB(t:TE):TT:=λσ H Q=>t σ H λx H1=>∃c,x=.bl c/\Q c H1
theorem DK{op:CmpOp}{t:TE}(h:PC X op a b t)(h1:behindInMarks op b=false:=by first|exact Jh _ [12] [12]|rfl):PT X (.Compare a [op] [b] pos) (tB t):=by
 intro pins s σ H Q I hw;refine wpAny_isTrue_Compare1 (df (h pins s σ H _ I hw) λv s1 h1=>df h1 λu s2 h2=>df h2 λc s3 ⟨x,H1,I1,r1,q1⟩=>?_) h1;obtain⟨d,rfl,q⟩:=q1;cases r1;exact wpAny_truthy_bool (12,H1,I1,q)
theorem NC{e:Expr}{t:TE}(h:PE X e t)(he:∀whole,isTrue e X.env whole=(do let v ←whole;standAt e.pos;holding [v] (truthy v)):=by intro _;rfl):PT X e (tB t):=by
 intro pins s σ H Q I hw;refine isTrue_plain (df (h pins s σ H _ I hw) λv s1 ⟨x,H1,I1,r1,q1⟩=>?_) (he _);obtain⟨d,rfl,q⟩:=q1;cases r1;exact wpAny_truthy_bool (12,H1,I1,q)
variable{tA tB':TT}{rest:List Expr}
def QB(t u:TT):TT:=λσ H Q=>t σ H λc H1=>if c=true then u σ H1 Q else Q false H1
def Ri(t u:TT):TT:=λσ H Q=>t σ H λc H1=>if c=true then Q true H1 else u σ H1 Q
def Qv(t:TT):TT:=λσ H Q=>t σ H λc H1=>Q (!c) H1
theorem Lh(ha:PT X a tA):PW X (.BoolOp .And [a] pos) tA:=by
 intro wh pins s σ H Q I h;refine isTrue_and (df (ha pins s σ H Q I h) λc s1 e=>?_);cases c with
 |true=>exact isTrue_and_nil e
 |false=>exact e
theorem NA(ha:PT X a tA):PW X (.BoolOp .Or [a] pos) tA:=by
 intro wh pins s σ H Q I h;refine isTrue_or (df (ha pins s σ H Q I h) λc s1 e=>?_);cases c with
 |false=>exact isTrue_or_nil e
 |true=>exact e
theorem NB(ha:PT X a tA)(hb:PW X (.BoolOp .And (b::rest) pos) tB'):PW X (.BoolOp .And (a::b::rest) pos) (QB tA tB'):=by
 intro wh pins s σ H Q I h;refine isTrue_and (df (ha pins s σ H _ I h) λc s1 ⟨H1,I1,q1⟩=>?_);cases c with
 |true=>exact hb wh pins s1 σ H1 Q I1 q1
 |false=>exact(12,H1,I1,q1)
theorem Po(ha:PT X a tA)(hb:PW X (.BoolOp .Or (b::rest) pos) tB'):PW X (.BoolOp .Or (a::b::rest) pos) (Ri tA tB'):=by
 intro wh pins s σ H Q I h;refine isTrue_or (df (ha pins s σ H _ I h) λc s1 ⟨H1,I1,q1⟩=>?_);cases c with
 |true=>exact(12,H1,I1,q1)
 |false=>exact hb wh pins s1 σ H1 Q I1 q1
theorem ND(ha:PT X a tA):PT X (.UnaryOp .Not a pos) (Qv tA):=by
 intro pins s σ H Q I h;exact isTrue_not (ha pins s σ H (λc H1=>Q (!c) H1) I h)
def Pe(ta tb:TE):TE:=λσ H Q=>ta σ H λx H1=>∃c,x=.bl c/\if c=true then tb σ H1 Q else Q (.bl false) H1
theorem NP{op}{t:TE}(h:PE X a t):PE X (.BoolOp op [a] pos) t:=λpins s σ H Q I hw=>BoolOp_one (h pins s σ H Q I hw)
theorem NT(ha:PE X a ta)(hb:PE X (.BoolOp .And (b::rest) pos) tb):PE X (.BoolOp .And (a::b::rest) pos) (Pe ta tb):=by
 intro pins s σ H Q I h;refine BoolOp_and (df (ha pins s σ H _ I h) λv s1 ⟨x,H1,I1,r1,q1⟩=>?_);obtain⟨c,rfl,q1⟩:=q1;cases r1;refine wpAny_truthy_bool ?_;cases c with
 |true=>exact hb pins s1 σ H1 Q I1 q1
 |false=>exact⟨.bl false,H1,I1,rfl,q1⟩
def Rk(t:TT)(ta tb:TE):TE:=λσ H Q=>t σ H λc H1=>if c=true then ta σ H1 Q else tb σ H1 Q
theorem IR{c:Expr}(hc:PT X c tA)(ha:PE X a ta)(hb:PE X b tb):PE X (.IfExp c a b pos) (Rk tA ta tb):=by
 intro pins s σ H Q I h;refine wpAny_IfExp (df (hc pins s σ H _ I h) λd s1 ⟨H1,I1,q1⟩=>?_);cases d with
 |true=>exact ha pins s1 σ H1 Q I1 q1
 |false=>exact hb pins s1 σ H1 Q I1 q1
end
def pA(K:Frag)(H:Hp)(a:Addr)(xs:List V):Prop:=
 Rd H a (13,xs)\/
  ∃(o:Obj)(its:Array Value)(n:Nat),K.lookup a=(6,o)/\o.cls=(52,"list") /\ o.dict=none/\o.data=.seq its n/\its.size<=sizeLine/\Vals xs its.toList
def rh(K:Frag)(H:Hp)(a:Addr)(xs:List V):Prop:=
 Rd H a (20,xs)\/
  ∃(o:Obj)(its:Array Value)(n:Nat),K.lookup a=(6,o)/\o.cls=(52,"tuple") /\ o.data=.seq its n/\its.size<=sizeLine/\Vals xs its.toList
def QX:Value->(9,V)
 |.none=>(6,.non)
 |.bool b=>(6,.bl b)
 |.int i _=>(6,(4,i))
 |.str x _=>(6,.str x)
 |.bytes b _=>(6,.byt b)
 |.float b _=>(6,.flt b)
 |.ref a=>(6,(10,a))
 |.type n=>(6,.ty n)
 |_=>none
theorem bV.abs{x:V}{u:Value}(r:bV x u):QX u=(6,x):=by
 cases x with
 |non=>cases r;rfl
 |bl _=>cases r;rfl
 |ref _=>cases r;rfl
 |ty _=>cases r;rfl
 |_=>obtain⟨t,rfl⟩:=r;rfl
theorem bV.inj{x y:V}{u:Value}(r:bV x u)(q:bV y u):x=y:=Option.some.inj (r.abs.symm.trans q.abs)
theorem Vals.inj:∀{xs ys:List V}{us:[19]},Vals xs us->Vals ys us->xs=ys
 |_,_,_,.nil,.nil=>rfl
 |_,_,_,.cons r t,.cons r' t'=>by rw[r.inj r',Vals.inj t t']
section
variable{X:Cx}{pins:List (Addr×Obj)}{σ:St}{H:Hp}{s:Shared}{a:Addr}{xs ys:List V}
theorem pA.of{K:Frag}(h:H a=(6,(13,xs))):pA K H a xs:=.inl (.inl h)
theorem rh.of{K:Frag}(h:H a=(6,(20,xs))):rh K H a xs:=.inl (.inl h)
theorem aR.list(I:(20,H,s))(h:pA X.K H a xs):∃its:List Value,Vals xs its/\PlainL s.heap a its.toArray/\xs.length<=sizeLine:=by
 rcases h with h|⟨o,its,n,hk,hc,hd,hs,hz,r⟩
 ·obtain⟨z,its,n,r,e⟩:=h.ok I.hok;exact(9,its,r,⟨_,n,e,rfl,rfl,rfl⟩,z)
 ·refine(9,its.toList,r,⟨o,n,I.kIn a o hk,hc,hd,by simpa using hs⟩,?_)
  have e:=r.length;simp only[length_toList] at e;omega
theorem aR.tuple(I:(20,H,s))(h:rh X.K H a xs):∃its:List Value,Vals xs its/\IsTup s.heap a its.toArray/\xs.length<=sizeLine:=by
 rcases h with h|⟨o,its,n,hk,hc,hs,hz,r⟩
 ·obtain⟨z,its,r,p⟩:=h.ok I.hok;exact(9,its,r,p,z)
 ·refine(9,its.toList,r,⟨o,I.kIn a o hk,hc,n,by simpa using hs⟩,?_)
  have e:=r.length;simp only[length_toList] at e;omega
theorem aR.list_inj(I:(20,H,s))(h:pA X.K H a xs)(h':pA X.K H a ys):xs=ys:=by
 obtain⟨its,r,⟨o,n,e,_,_,d⟩,_⟩:=I.list h;obtain⟨its',r',⟨o',n',e',_,_,d'⟩,_⟩:=I.list h';rw[e] at e';cases e';rw[d] at d';injection d' with d1 _;have:its=its':=by simpa using congrArg Array.toList d1
 subst this;exact r.inj r'
theorem aR.tuple_inj(I:(20,H,s))(h:rh X.K H a xs)(h':rh X.K H a ys):xs=ys:=by
 obtain⟨its,r,⟨o,e,_,n,d⟩,_⟩:=I.tuple h;obtain⟨its',r',⟨o',e',_,n',d'⟩,_⟩:=I.tuple h';rw[e] at e';cases e';rw[d] at d';injection d' with d1 _;have:its=its':=by simpa using congrArg Array.toList d1
 subst this;exact r.inj r'
end
abbrev Cx.wish(X:Cx)(E:Value->Shared->Prop):Cx:={X with xe:=E}
abbrev Cx.nox(X:Cx):Cx:=X.wish λ_ _=>False
theorem Cx.Ok.wish{X:Cx}(ok:X.Ok)(E:Value->Shared->Prop):(X.wish E).Ok:=
 ⟨ok.mod,ok.kind,ok.glob,ok.blt,ok.above,ok.inj,ok.has,ok.cab,ok.hd,ok.frames,ok.stk,ok.exf,ok.bs,ok.bsz,ok.noex,ok.exfs,ok.funs,ok.frf⟩
theorem Cx.Ok.unwish{X:Cx}{E:Value->Shared->Prop}(ok:(X.wish E).Ok):X.Ok:=
 ⟨ok.mod,ok.kind,ok.glob,ok.blt,ok.above,ok.inj,ok.has,ok.cab,ok.hd,ok.frames,ok.stk,ok.exf,ok.bs,ok.bsz,ok.noex,ok.exfs,ok.funs,ok.frf⟩
section
variable{X:Cx}{pins:List (Addr×Obj)}{σ:St}{H:Hp}{s:Shared}{E:Value->Shared->Prop}
theorem aR.wish(I:(20,H,s))(E:Value->Shared->Prop):(22,X.wish E,H,s):=⟨I.ok.wish E,I.os,I.bare,I.base,I.loc,I.cell,I.free,I.freeC,I.pin,I.hok,I.len⟩
theorem aR.unwish(I:(22,X.wish E,H,s)):(20,H,s):=⟨I.ok.unwish,I.os,I.bare,I.base,I.loc,I.cell,I.free,I.freeC,I.pin,I.hok,I.len⟩
theorem SP.unwish{D:tm}{f:Flow}{s':Shared}(h:SP (X.wish E) pins D f s'):SP X pins D f s':=by
 cases f with
 |ret u=>obtain⟨v,σ',H',I,r,q⟩:=h;exact⟨v,σ',H',I.unwish,r,q⟩
 |_=>obtain⟨σ',H',I,q⟩:=h;exact(9,σ',H',I.unwish,q)
theorem PE.nox{e:Expr}{t:TE}(h:PE X.nox e t):PE X e t:=λpins s σ H Q I hw=>
 wpAny_mono (h pins s σ H Q (I.wish _) hw) (λ_ _ ⟨v,H',I',r,q⟩=>⟨v,H',I'.unwish,r,q⟩) λ_ _ z=>False.elim z
theorem PT.nox{e:Expr}{t:TT}(h:PT X.nox e t):PT X e t:=λpins s σ H Q I hw=>
 wpAny_mono (h pins s σ H Q (I.wish _) hw) (λ_ _ ⟨H',I',q⟩=>(12,H',I'.unwish,q)) λ_ _ z=>False.elim z
theorem sI.nox{st:List Stmt}{t:TS}(h:sI X.nox st t):sI X st t:=λpins s σ H D I hw=>
 wpAny_mono (h pins s σ H D (I.wish _) hw) (λ_ _ q=>q.unwish) λ_ _ z=>False.elim z
end
section
variable{X:Cx}{st:Stmt}{rest:List Stmt}{t u:TS}{e:Expr}{te:TE}{pos:Pos}
def Pc:TS:=λD σ H=>D.nx σ H
def Qt(t u:TS):TS:=λD σ H=>t {D with nx:=u D} σ H
theorem Fp:sI X [] Pc:=λ_ _ σ H _ I h=>wpAny_execs_nil (9,σ,H,I,h)
theorem Bl(h1:PS X st t)(h2:sI X rest u):sI X (st::rest) (Qt t u):=by
 intro pins s σ H D I h;refine wpAny_execs_cons (df (h1 pins s σ H {D with nx:=u D} I h) λf s1 q=>?_);cases f with
 |next=>
  obtain⟨σ',H',I',q⟩:=q;exact h2 pins s1 σ' H' D I' q
 |ret v=>exact q
 |_=>exact q
theorem Fo(h1:PS X st t):sI X [st] t:=by
 intro pins s σ H D I h;refine wpAny_execs_cons (df (h1 pins s σ H D I h) λf s1 q=>?_);cases f with
 |next=>exact wpAny_execs_nil q
 |ret v=>exact q
 |brk=>exact q
 |cont=>exact q
theorem aR.quiet{pins:[18]}{σ:St}{H:Hp}{s:Shared}(I:(20,H,s)):interactive X.env=false:=by simp[interactive,I.ok.kind]
def Pd(te:TE):TS:=λD σ H=>te σ H λ_ H1=>D.nx σ H1
theorem tK(he:PE X e te)(hs:(21,e,none,pos.line)=pure false:=by rfl):PS X (.Expr e pos) (Pd te):=by
 intro pins s σ H D I h;exact wpAny_Expr_any (df (he pins s σ H _ I h) λv s1 ⟨x,H1,I1,r1,q1⟩=>(9,σ,H1,I1,q1)) I.quiet hs
def Qu(te:TE):TS:=λD σ H=>te σ H D.rt
theorem NG(he:PE X e te):PS X (.Return (6,e) pos) (Qu te):=by
 intro pins s σ H D I h;exact wpAny_Return_some (df (he pins s σ H _ I h) λv s1 ⟨x,H1,I1,r1,q1⟩=>⟨x,σ,H1,I1,r1,q1⟩)
def Qx(c:TT)(t u:TS):TS:=λD σ H=>c σ H λb H1=>if b=true then t D σ H1 else u D σ H1
theorem Pp{c:Expr}{a b:List Stmt}{tc:TT}(hc:PT X c tc)(ha:sI X a t)(hb:sI X b u):PS X (.If c a b pos) (Qx tc t u):=by
 intro pins s σ H D I h;refine wpAny_If (df (hc pins s σ H _ I h) λd s1 ⟨H1,I1,q1⟩=>?_);cases d with
 |true=>exact ha pins s1 σ H1 D I1 q1
 |false=>exact hb pins s1 σ H1 D I1 q1
end
abbrev TG:=V->St->Hp->(St->Hp->Prop)->Prop
def PG(X:Cx)(target:Expr)(t:TG):Prop:=
 ∀(pins:[18])(s:Shared)(σ:St)(H:Hp)(v:V)(u:Value)(Q:St->Hp->Prop),(20,H,s)->bV v u->t v σ H Q->
  (1,X.prog,X.w,X.A,assign target X.env u,(λ_ s'=>∃σ' H',(4,X,σ',H',s')/\Q σ' H'),X.xe,s)
abbrev OS:=V->V->V->Hp->(Hp->Prop)->Prop
def Qf(X:Cx)(t:OS):Prop:=
 ∀(pins:[18])(s:Shared)(σ:St)(H:Hp)(o i v:V)(ov iv u:Value)(Q:Hp->Prop),(20,H,s)->bV o ov->bV i iv->bV v u->t o i v H Q->
  (1,X.prog,X.w,X.A,setItem ov iv u,(λ_ s'=>∃H',(20,H',s')/\Q H'),X.xe,s)
section
variable{X:Cx}{pos:Pos}
def Cq(i:Nat):TG:=λv σ H Q=>Q (σ.set i (6,v)) H
theorem Lo{i:Nat}{x:Str}(hN:X.N.Nodup)(hi:X.N[i]?=(6,x))(hx:HM X.env.scope x)(hf:X.fn x=true\/(24,x)=(6,.local):=by first|exact .inl rfl|exact .inr rfl|assumption):PG X (6,x,pos) (Cq i):=by
 intro pins s σ H v u Q I r h;exact wpAny_assign_Name (l6 I hN hi hx r (λs' I'=>(9,_,H,I',h)) hf)
def QS(to ti:TE)(t:OS):TG:=λv σ H Q=>to σ H λo H1=>ti σ H1 λi H2=>t o i v H2 λH3=>Q σ H3
theorem NM{o i:Expr}{to ti:TE}{t:OS}(ho:PE X o to)(hi:PE X i ti)(hs:Qf X t)
  (ha:∀v,assign (.Subscript o i pos) X.env v=(do
   let ov ←holding [v] (eval o X.env);let iv ←holding [v,ov] (eval i X.env)
   standAt pos
   holding [v,ov,iv] (setItem ov iv v)
   release [v,ov,iv] []):=by intro _;rfl):PG X (.Subscript o i pos) (QS to ti t):=by
 intro pins s σ H v u Q I r h;rw[ha];refine(3,wpAny_holding (df (ho pins s σ H _ I h) λov s1 ⟨x,H1,I1,r1,q1⟩=>?_));refine(3,wpAny_holding (df (hi pins s1 σ H1 _ I1 q1) λiv s2 ⟨y,H2,I2,r2,q2⟩=>?_));refine(3,wpAny_standAt (3,wpAny_holding (df (hs pins s2 σ H2 x y v ov iv u _ I2 r1 r2 r q2) λ_ s3 ⟨H3,I3,q3⟩=>?_)));exact wpAny_release (9,σ,H3,I3,q3)
def Ik(te:TE)(g:TG):TS:=λD σ H=>te σ H λx H1=>g x σ H1 D.nx
theorem NJ{tg e:Expr}{te:TE}{g:TG}(he:PE X e te)(hg:PG X tg g)(hs:swapsWithSole [tg] e pos.line X.env=pure false:=by rfl)(hw:swappedStores [tg] e X.env=pure none:=by rfl)
  (h1:(assignEach [tg] X.env).map (·.2)=[assign tg X.env]:=by rfl):PS X (.Assign [tg] e pos) (Ik te g):=by
 intro pins s σ H D I h;refine wpAny_Assign_stores (df (he pins s σ H _ I h) λv s1 ⟨x,H1,I1,r1,q1⟩=>?_) hs hw;rw[h1];exact df (hg pins s1 σ H1 x v _ I1 r1 q1) λ_ s2 q=>q
theorem DN{i:Nat}{x:Str}{e:Expr}{te:TE}{pos':Pos}(hN:X.N.Nodup)(hi:X.N[i]?=(6,x))(hx:HM X.env.scope x)(he:PE X e te)(hs:(21,e,(6,(6,x,pos')),pos.line)=pure false:=by rfl)(hf:X.fn x=true\/(24,x)=(6,.local):=by first|exact .inl rfl|exact .inr rfl|assumption):
  PS X (.Assign [(6,x,pos')] e pos) (Ik te (Cq i)):=by
 intro pins s σ H D I h;refine wpAny_Assign_Name (df (he pins s σ H _ I h) λv s1 ⟨y,H1,I1,r1,q1⟩=>?_) hs;exact l6 I1 hN hi hx r1 (λs2 I2=>(9,_,H1,I2,q1)) hf
end
section
variable{X:Cx}{pos:Pos}
def Ig(c:TT)(tb:TS):TS:=λD σ H=>∃W:Nat->St->Hp->Prop,(∃m,W m σ H)/\∀m σ H,W m σ H->
 c σ H λb H1=>if b=true then ∃N:St->Hp->Prop,(∀σ' H',N σ' H'->∃m',m'<m/\W m' σ' H')/\tb {D with nx:=N,ct:=N,bk:=D.nx} σ H1 else D.nx σ H1
theorem IH{c:Expr}{body:List Stmt}{tc:TT}{tb:TS}(hp:PassesOwn (model X.prog X.w) X.A X.env X.xe)(hc:PT X c tc)(hb:sI X body tb):PS X (.While c body [] pos) (Ig tc tb):=by
 intro pins s σ H D I h;obtain⟨W,⟨m0,w0⟩,turn⟩:=h;refine wpAny_While (codeAny_whileLoop (λn s'=>∃σ' H',(4,X,σ',H',s')/\W n σ' H') ?_ m0 (9,σ,H,I,w0))
 rintro n s1 ⟨σ1,H1,I1,w1⟩
 refine wpAny_passesOwn hp (df (hc pins s1 σ1 H1 _ I1 (turn n σ1 H1 w1)) λb s2 ⟨H2,I2,q2⟩=>?_);cases b with
 |true=>
  obtain⟨N,hN,q2⟩:=q2;rw[(39,rfl)];refine wpAny_passesOwn hp (df (hb pins s2 σ1 H2 _ I2 q2) λf s3 q3=>?_);cases f with
  |next=>
   obtain⟨σ3,H3,I3,n3⟩:=q3;obtain⟨m',hm,w3⟩:=hN σ3 H3 n3;exact⟨m',hm,σ3,H3,I3,w3⟩
  |cont=>
   obtain⟨σ3,H3,I3,n3⟩:=q3;obtain⟨m',hm,w3⟩:=hN σ3 H3 n3;exact⟨m',hm,σ3,H3,I3,w3⟩
  |brk=>exact q3
  |ret v=>exact q3
 |false=>
  rw[(42,[33])];exact wpAny_execs_nil (9,σ1,H2,I2,q2)
end
structure It where
 go:Nat->Hp->Prop
 yld:Nat->Hp->V->Hp->Prop
 stop:Nat->Hp->Prop
def FpOk(X:Cx)(pins:[18])(H:Hp)(b:Addr):Prop:=
 H b=none/\b≠X.env.locals/\b∉X.fs/\(b∈X.ex\/X.s₀.heap.objs.size<=b)/\(∀x c,(54,x)=(6,c)->c≠b)/\∀p∈X.pn++pins,p.1≠b
theorem aR.fpOk{X:Cx}{pins:[18]}{σ:St}{H H':Hp}{s:Shared}{b:Addr}(I:(20,H,s))(hb:s.heap.objs.size<=b)(hn:H' b=none):FpOk X pins H' b:=by
 refine⟨hn,ne_of_gt (11,I.lt,hb),I.nofs hb,.inr (le_trans I.sz hb),λx c e z=>?_,λp hp z=>?_⟩
 ·obtain⟨v,q⟩:=I.cell x c e;exact absurd (11,q.lt,(by rw[z];exact hb)) (lt_irrefl _)
 ·exact absurd (11,(51,(I.pin p hp).1),(by rw[z];exact hb)) (lt_irrefl _)
structure Ku(P:Program)(w:World)(K:Frag)(tg:Expr)(J:It)(fp:List Addr)(it:Addr)(tn:Nat->Heap->Prop):Prop where
 mem:it∈fp
 obj:∀i h,tn i h->∀b∈fp,∃o,h.get? b=(6,o)/\∀v,o.data≠.cell v
 keep:∀i h h',tn i h->(∀b∈fp,∀o,h.get? b=(6,o)->h'.get? b=(6,o))->tn i h'
 item:∀(X:Cx),X.prog=P->X.w=w->X.K=K->X.calm=true->∀(i:Nat)(pins:[18])(s:Shared)(σ:St)(H:Hp)(E:Value->Shared->Prop),(20,H,s)->(∀b∈fp,FpOk X pins H b)->tn i s.heap->J.go i H->
  wpAny (model P w) X.A (pyNext (10,it)) (λr s1=>∃u,r=(6,u)/\
   (1,P,w,X.A,letOwnedTupleGo tg (10,it) u,(λ_ s2=>∃x H',(20,H',s2)/\bV x u/\J.yld i H x H'/\tn (i+1) s2.heap/\∀b∈fp,H' b=none),E,s1)) E s
 done:∀(X:Cx),X.prog=P->X.w=w->X.K=K->X.calm=true->∀(i:Nat)(pins:[18])(s:Shared)(σ:St)(H:Hp)(E:Value->Shared->Prop),(20,H,s)->(∀b∈fp,FpOk X pins H b)->tn i s.heap->J.stop i H->
  (1,P,w,X.A,pyNext (10,it),(λr s1=>r=none/\(20,H,s1)),E,s)
 self:∀(A:Around)(i:Nat)(s:Shared)(Q:Value->Shared->Prop)(E:Value->Shared->Prop),tn i s.heap->Q (10,it) s->(1,P,w,A,pyIter (10,it),Q,E,s)
abbrev TI:=St->Hp->(It->Hp->Prop)->Prop
def Rc(X:Cx)(pins:[18])(σ:St)(tg:Expr)(R:It->Hp->Prop)(itv:Value)(s2:Shared):Prop:=
 ∃(it:Addr)(fp:List Addr)(tn:Nat->Heap->Prop)(J:It)(H':Hp),itv=(10,it)/\(20,H',s2)/\Ku X.prog X.w X.K tg J fp it tn/\tn 0 s2.heap/\(∀b∈fp,FpOk X pins H' b)/\R J H'
def PI(X:Cx)(tg iter:Expr)(wi:TI):Prop:=
 ∀(pins:[18])(s:Shared)(σ:St)(H:Hp)(R:It->Hp->Prop),(20,H,s)->wi σ H R->
  (1,X.prog,X.w,X.A,(16,iter),(λv s1=>(1,X.prog,X.w,X.A,pyIter v,Rc X pins σ tg R,X.xe,s1)),X.xe,s)
theorem JT{M:Model}{A:Around}{E:Value->Shared->Prop}{s:Shared}{tg:Expr}{it:Addr}{u:Value}{o:Obj}{n:String}{vs:Array Value}{Q:Unit->Shared->Prop}(ho:(25,it)=(6,o))(hc:o.cls=(52,n))(hd:o.data=.fields vs)
  (hn:["enumerate","zip","dict_itemiterator","dict_reverseitemiterator","odict_iterator","itertools.zip_longest","itertools.pairwise"].contains n=false) (hQ:Q () s):wpAny M A (letOwnedTupleGo tg (10,it) u) Q E s:=by
 unfold letOwnedTupleGo;cases tg <;> first
  |exact(8,hQ)
  | (cases u <;> first
      |exact(8,hQ)
      | (refine(3,wpAny_load ho ?_)
         rw[hc,hd];show wpAny M A (if(["enumerate","zip","dict_itemiterator","dict_reverseitemiterator","odict_iterator","itertools.zip_longest","itertools.pairwise"].contains n && vs[0]? == (6,rawInt _))=true then _ else _) Q E s;rw[(42,(by intro h;rw[hn,Bool.false_and] at h;cases h))]
         exact(8,hQ)))
def R3(K:Frag)(a:Addr):It:=
 ⟨λi H=>∃xs x,pA K H a xs/\xs[i]?=(6,x),λi H x H'=>H'=H/\∀xs,pA K H a xs->xs[i]?=(6,x),λi H=>∃xs,pA K H a xs/\xs.length<=i⟩
def R1(K:Frag)(a:Addr):It:=
 ⟨λi H=>∃xs x,rh K H a xs/\xs[i]?=(6,x),λi H x H'=>H'=H/\∀xs,rh K H a xs->xs[i]?=(6,x),λi H=>∃xs,rh K H a xs/\xs.length<=i⟩
def Qi(lo:Int)(n:Nat):It:=(12,λi _=>i<n,λi H x H'=>H'=H/\x=(4,(lo+i)),λi _=>n<=i)
theorem G5{P:Program}{w:World}{K:Frag}{tg:Expr}(a it:Addr):Ku P w K tg (R3 K a) [it] it (λi h=>h.IsListIter it a i) where
 mem:=by simp
 obj:=λi h st b hb=>by
  have e:b=it:=by simpa using hb
  subst e;obtain⟨o,e,c,d⟩:=st;exact(12,o,e,λv z=>by rw[d] at z;cases z)
 keep:=λi h h' st k=>st.at λo e=>k it [20] o e
 item:=by
  intro X hP hw hK hc i pins s σ H E I hf st hg;subst hP hw hK;obtain⟨xs,x,hq,hx⟩:=hg;obtain⟨its,rv,p,hz⟩:=I.list hq;obtain⟨u,hu,ru⟩:=rv.get hx;obtain⟨f0,f1,f2,f3,f4,f5⟩:=hf it [20]
  refine wpAny_pyNext_list_item st p.isList (x:=u) (by simpa using hu) λh' st' sb=>?_
  have I1:aR X pins σ H {s with heap:=h'}:=I.turned (t':=s.toks) (λb o hb e=>(sb.2 b hb).trans e) f0 f1 f3 f4 f5;obtain⟨o,e,c,d⟩:=id st';exact(12,u,rfl,JT (s:={s with heap:=h'}) e c d [12] ⟨x,H,I1,ru,(5,rfl,λys hy=>by rw[I.list_inj hy hq];exact hx),st',λb hb=>(hf b hb).1⟩)
 done:=by
  intro X hP hw hK hc i pins s σ H E I hf st hg;subst hP hw hK;obtain⟨xs,hq,hx⟩:=hg;obtain⟨its,rv,p,hz⟩:=I.list hq;obtain⟨f0,f1,f2,f3,f4,f5⟩:=hf it [20]
  have hl:=rv.length;exact wpAny_pyNext_list_end (I.ok.hd hc) st p.isList (by simp;omega) λh' eb=>(5,rfl,I.turned (t':=s.toks) (λb o hb e=>eb b o hb e) f0 f1 f3 f4 f5)
 self:=λ_ _ _ _ _ st h=>wpAny_pyIter_listiter st h
theorem Dg{P:Program}{w:World}{K:Frag}{tg:Expr}(a it:Addr):Ku P w K tg (R1 K a) [it] it (λi h=>h.IsTupleIter it a i) where
 mem:=by simp
 obj:=λi h st b hb=>by
  have e:b=it:=by simpa using hb
  subst e;obtain⟨o,e,c,d⟩:=st;exact(12,o,e,λv z=>by rw[d] at z;cases z)
 keep:=λi h h' st k=>st.at λo e=>k it [20] o e
 item:=by
  intro X hP hw hK hc i pins s σ H E I hf st hg;subst hP hw hK;obtain⟨xs,x,hq,hx⟩:=hg;obtain⟨its,rv,p,hz⟩:=I.tuple hq;obtain⟨u,hu,ru⟩:=rv.get hx;obtain⟨f0,f1,f2,f3,f4,f5⟩:=hf it [20]
  refine wpAny_pyNext_tuple_item st (show s.heap.IsTuple a its.toArray from p) (x:=u) (by simpa using hu) λh' st' sb=>?_
  have I1:aR X pins σ H {s with heap:=h'}:=I.turned (t':=s.toks) (λb o hb e=>(sb.2 b hb).trans e) f0 f1 f3 f4 f5;obtain⟨o,e,c,d⟩:=id st';exact(12,u,rfl,JT (s:={s with heap:=h'}) e c d [12] ⟨x,H,I1,ru,(5,rfl,λys hy=>by rw[I.tuple_inj hy hq];exact hx),st',λb hb=>(hf b hb).1⟩)
 done:=by
  intro X hP hw hK hc i pins s σ H E I hf st hg;subst hP hw hK;obtain⟨xs,hq,hx⟩:=hg;obtain⟨its,rv,p,hz⟩:=I.tuple hq;obtain⟨f0,f1,f2,f3,f4,f5⟩:=hf it [20]
  have hl:=rv.length;exact wpAny_pyNext_tuple_end (I.ok.hd hc) st (show s.heap.IsTuple a its.toArray from p) (by simp;omega) λh' eb=>(5,rfl,I.turned (t':=s.toks) (λb o hb e=>eb b o hb e) f0 f1 f3 f4 f5)
 self:=λ_ _ _ _ _ st h=>wpAny_pyIter_tupleiter st h
theorem Dh{P:Program}{w:World}{K:Frag}{tg:Expr}(it:Addr)(lo:Int)(n:Nat):Ku P w K tg (Qi lo n) [it] it (λi h=>IsRangeIter h it (lo+(i:Nat) * 1) ((n:Int) - (i:Nat)) 1) where
 mem:=by simp
 obj:=λi h st b hb=>by
  have e:b=it:=by simpa using hb
  subst e;exact⟨_,st,λv z=>by
   have z':Data.fields _=Data.cell v:=z;cases z'⟩
 keep:=λi h h' st k=>k it [20] _ st
 item:=by
  intro X hP hw hK hc i pins s σ H E I hf st hg;subst hP hw hK;obtain⟨f0,f1,f2,f3,f4,f5⟩:=hf it [20]
  have W:=Walks.range (prog:=X.prog) (w:=X.w) (I.ok.hd hc) it lo 1 n;refine W.item i s _ _ hg st λv h' tk hv st' kk=>?_;obtain⟨t,rfl⟩:=hv;have I1:aR X pins σ H {s with heap:=h',toks:=tk}:=I.turned (λb o hb e=>kk b o (by simpa using hb) e) f0 f1 f3 f4 f5
  refine(12,_,rfl,JT (s:={s with heap:=h',toks:=tk}) (n := "range_iterator") st' rfl rfl [12] ⟨(4,(lo+i)),H,I1,(5,t,?_),(5,rfl,rfl),st',λb hb=>(hf b hb).1⟩)
  rw[Int.mul_one]
 done:=by
  intro X hP hw hK hc i pins s σ H E I hf st hg;subst hP hw hK;obtain⟨f0,f1,f2,f3,f4,f5⟩:=hf it [20]
  exact wpAny_pyNext_range_end (I.ok.hd hc) st (by have:n<=i:=hg;omega) λh' eb=>(5,rfl,I.turned (t':=s.toks) (λb o hb e=>eb b o hb e) f0 f1 f3 f4 f5)
 self:=λ_ _ _ _ _ st h=>wpAny_pyIter_rangeiter st h
section
variable{X:Cx}{tg:Expr}
theorem Bi{pins:[18]}{σ:St}{H:Hp}{s:Shared}{R:It->Hp->Prop}{E:Value->Shared->Prop}{lo hi:Int}{t u v:Tok}{tk:Nat}(I:(20,H,s))(h1:-(2 ^ 62)<=lo)(h2:lo<2 ^ 62)(h3:-(2 ^ 62)<=hi)(h4:hi<2 ^ 62)
  (q:R (Qi lo (hi - lo).toNat) H):wpAny (model X.prog X.w) X.A (pyIter (10,[15])) (Rc X pins σ tg R) E {s with heap:=s.heap.push {cls:=.type "range",data:=.fields #[.int lo t,.int hi u,.int 1 v]},toks:=tk}:=by
 refine wpAny_pyIter_range (IsRange.new ..) (small_one h1 h2 h3 h4) ?_;have I1:aR X pins σ H {s with heap:=s.heap.push {cls:=.type "range",data:=.fields #[.int lo t,.int hi u,.int 1 v]},toks:=tk}:=I.kept λb o e=>(14,e);refine⟨(s.heap.push {cls:=.type "range",data:=.fields #[.int lo t,.int hi u,.int 1 v]}).objs.size,[(s.heap.push {cls:=.type "range",data:=.fields #[.int lo t,.int hi u,.int 1 v]}).objs.size],_,_,H,rfl,
  I1.kept (t':=tk) λb o e=>(14,e),Dh _ lo (hi - lo).toNat,?_,λb hb=>?_,q⟩
 ·have e1:lo+((0:Nat):Int) * 1=lo:=by simp
  have e2:(((hi - lo).toNat:Nat):Int) - ((0:Nat):Int)=Builtin.Range.rangeSize lo hi 1:=by rw[rangeSize_one];split <;> omega
  show IsRangeIter _ _ (lo+((0:Nat):Int) * 1) ((((hi - lo).toNat:Nat):Int) - ((0:Nat):Int)) 1;rw[e1,e2];exact(35,_)
 ·have e:b=(s.heap.push {cls:=.type "range",data:=.fields #[.int lo t,.int hi u,.int 1 v]}).objs.size:=by simpa using hb
  subst e;exact I1.fpOk [23] (I1.hok.fresh [23])
def Q1(ta:TA):TI:=λσ H R=>ta σ H λvs H1=>∃j:Int,vs=[(4,j)]/\-(2 ^ 62)<=j/\j<2 ^ 62/\R (Qi 0 j.toNat) H1
def Q0(ta:TA):TI:=λσ H R=>ta σ H λvs H1=>∃i j:Int,vs=[(4,i),(4,j)]/\(-(2 ^ 62)<=i/\i<2 ^ 62/\-(2 ^ 62)<=j/\j<2 ^ 62)/\R (Qi i (j - i).toNat) H1
theorem GD{a:Expr}{ta:TA}{p pos:Pos}(hg:Gl X "range")(hm:X.mg "range" = none)(ha:PA X [a] ta)(hs:(7,[a])=[(false,(16,a))]:=by rfl):PI X tg (15,(6,"range",p),[a],pos) (Q1 ta):=by
 intro pins s σ H R I h;refine Call_ (pO I hg hm boot_range (PyProof.Rows.callWith_type1 (df (ha pos pins s σ H _ I h) λus s1 ⟨vs,H1,I1,r1,q1⟩=>?_) hs rfl));obtain⟨j,e,q1,q2,q⟩:=q1;subst e;cases r1 with
 |cons r rr=>
  cases rr;obtain⟨t,rfl⟩:=r;exact call_range_1 (Bi I1 [11] [11] q1 q2 (by simpa using q))
theorem GC{a b:Expr}{ta:TA}{p pos:Pos}(hg:Gl X "range")(hm:X.mg "range" = none)(ha:PA X [a,b] ta)(hs:(7,[a,b])=[(false,(16,a)),(false,(16,b))]:=by rfl)(hs2:(7,[b])=[(false,(16,b))]:=by rfl):
  PI X tg (15,(6,"range",p),[a,b],pos) (Q0 ta):=by
 intro pins s σ H R I h;refine Call_ (pO I hg hm boot_range (PyProof.Rows.callWith_type1 (df (ha pos pins s σ H _ I h) λus s1 ⟨vs,H1,I1,r1,q1⟩=>?_) (by rw[hs,hs2]) (by rw[hs2];rfl)))
 obtain⟨i,j,e,⟨q1,q2,q3,q4⟩,q⟩:=q1;subst e;cases r1 with
 |cons r rr=>
  cases rr with
  |cons r' rr=>
   cases rr;obtain⟨t,rfl⟩:=r;obtain⟨t',rfl⟩:=r';exact call_range_2 (Bi I1 q1 q2 q3 q4 q)
def Qy(wi:TI)(g:TG)(tb:TS):TS:=λD σ H=>wi σ H λJ H1=>∃W:Nat->Nat->St->Hp->Prop,(∃m,W 0 m σ H1)/\∀i m σ H,W i m σ H->
 (J.stop i H/\D.nx σ H)\/(J.go i H/\∃N:St->Hp->Prop,(∀σ' H',N σ' H'->∃m',m'<m/\W (i+1) m' σ' H')/\∀x H',J.yld i H x H'->g x σ H' λσ2 H2=>tb {D with nx:=N,ct:=N,bk:=D.nx} σ2 H2)
def uY(fp:List Addr)(h:Heap):[18]:=fp.filterMap λb=>(h.get? b).map λo=>(b,o)
theorem md{fp:List Addr}{h:Heap}{b:Addr}{o:Obj}(hb:b∈fp)(e:h.get? b=(6,o)):(b,o)∈uY fp h:=List.mem_filterMap.mpr (12,b,hb,by rw[e];rfl)
theorem GO{fp:List Addr}{h:Heap}{p:Addr×Obj}(hp:p∈uY fp h):p.1∈fp/\h.get? p.1=(6,p.2):=by
 obtain⟨b,hb,e⟩:=List.mem_filterMap.mp hp;cases q:h.get? b with
 |none=>rw[q] at e;cases e
 |some o=>
  rw[q] at e;have e':(b,o)=p:=Option.some.inj e;subst e';exact(5,hb,q)
theorem aR.pinned{pins:[18]}{σ:St}{H:Hp}{s:Shared}{fp:List Addr}(I:(20,H,s))(hf:∀b∈fp,FpOk X pins H b)(ho:∀b∈fp,∃o,(25,b)=(6,o)/\∀v,o.data≠.cell v):aR X (pins++uY fp s.heap) σ H s:=
 I.pins_of λp hp=>(mem_append.mp hp).elim (λz=>I.pin p (41,z)) λz=>by
  obtain⟨hb,e⟩:=GO z;obtain⟨f0,f1,f2,_⟩:=hf p.1 hb;obtain⟨o,e',d⟩:=ho p.1 hb;rw[e] at e';cases e';exact⟨e,f0,f1,f2,d⟩
theorem aR.unpinned{pins pl:[18]}{σ:St}{H:Hp}{s:Shared}(I:aR X (pins++pl) σ H s):(20,H,s):=I.pins_of λp hp=>I.pin p (41,mem_append_left _ hp)
theorem NH{iter:Expr}{body:List Stmt}{wi:TI}{g:TG}{tb:TS}{pos:Pos}(hp:PassesOwn (model X.prog X.w) X.A X.env X.xe)(hc:X.calm=true)(hi:PI X tg iter wi)(hg:PG X tg g)(hb:sI X body tb)
  (hs:∀x,foldedSetIterable iter X.env x=pure x:=by intro _;rfl):PS X (.For tg iter body [] pos) (Qy wi g tb):=by
 intro pins s σ H D I h;refine wpAny_For (df (hi pins s σ H _ I h) λv s1 h1=>df h1 λitv s2 h2=>?_) hs;obtain⟨it,fp,tn,J,H2,e,I2,T,st2,f2,W,⟨m0,w0⟩,turn⟩:=h2;subst e;have stat:∀{H':Hp},(∀b∈fp,H' b=none)->∀b∈fp,FpOk X pins H' b:=λhn b hb=>(5,hn b hb,(f2 b hb).2);refine codeAny_forLoop_any (λn s'=>∃i σ' H',(4,X,σ',H',s')/\tn i s'.heap/\(∀b∈fp,H' b=none)/\W i n σ' H') ?_ m0 ⟨0,σ,H2,I2,st2,λb hb=>(f2 b hb).1,w0⟩
 rintro n s3 ⟨i,σ3,H3,I3,st3,fr3,w3⟩
 rcases turn i n σ3 H3 w3 with⟨stop,qn⟩|⟨go,N,hN,step⟩
 ·refine wpAny_passesOwn hp (df (T.done X rfl rfl rfl hc i pins s3 σ3 H3 X.xe I3 (stat fr3) st3 stop) λr s4 ⟨hr,I4⟩=>?_);subst hr;exact wpAny_execs_nil (9,σ3,H3,I4,qn)
 ·refine wpAny_passesOwn hp (df (T.item X rfl rfl rfl hc i pins s3 σ3 H3 X.xe I3 (stat fr3) st3 go) λr s4 ⟨u,hr,h4⟩=>?_);subst hr;refine wpAny_passesOwn hp (df h4 λ_ s5 ⟨x,H5,I5,r5,y5,st5,fr5⟩=>?_);have I5':=I5.pinned (stat fr5) (T.obj _ _ st5);refine wpAny_passesOwn hp (df (hg _ s5 σ3 H5 x u _ I5' r5 (step x H5 y5)) λ_ s6 ⟨σ6,H6,I6,q6⟩=>?_);refine wpAny_passesOwn hp (df (hb _ s6 σ6 H6 _ I6 q6) λf s7 q7=>?_);have again:∀{σ7:St}{H7:Hp},aR X (pins++uY fp s5.heap) σ7 H7 s7->N σ7 H7->∃m,m<n/\∃i σ' H',(4,X,σ',H',s7)/\tn i s7.heap/\(∀b∈fp,H' b=none)/\W i m σ' H':=λ{σ7 H7} I7 n7=>by
   obtain⟨m',hm,w7⟩:=hN σ7 H7 n7;refine⟨m',hm,i+1,σ7,H7,I7.unpinned,T.keep _ _ _ st5 λb hb o e=>(I7.pin (b,o) (41,(41,md hb e))).1,λb hb=>?_,w7⟩;obtain⟨o,e,d⟩:=T.obj _ _ st5 b hb;exact(I7.pin (b,o) (41,(41,md hb e))).2.1
  cases f with
  |brk=>obtain⟨σ7,H7,I7,q7⟩:=q7;exact(9,σ7,H7,I7.unpinned,q7)
  |ret v=>obtain⟨x7,σ7,H7,I7,r7,q7⟩:=q7;exact⟨x7,σ7,H7,I7.unpinned,r7,q7⟩
  |_=>obtain⟨σ7,H7,I7,n7⟩:=q7;exact again I7 n7
end
abbrev R2:=V->V->Hp->VK->Prop
def ja(X:Cx)(f:Value->Value->Sem Value)(r:R2):Prop:=
 ∀(pins:[18])(s:Shared)(σ:St)(H:Hp)(x y:V)(v u:Value)(Q:VK),(20,H,s)->bV x v->bV y u->r x y H Q->
  (1,X.prog,X.w,X.A,f v u,EP X pins σ Q,X.xe,s)
def Qn(X:Cx)(f:Value->Sem Value)(r:V->Hp->VK->Prop):Prop:=
 ∀(pins:[18])(s:Shared)(σ:St)(H:Hp)(x:V)(v:Value)(Q:VK),(20,H,s)->bV x v->r x H Q->
  (1,X.prog,X.w,X.A,f v,EP X pins σ Q,X.xe,s)
def dh(X:Cx)(f:Value)(r:List V->Hp->VK->Prop):Prop:=
 ∀(pins:[18])(s:Shared)(σ:St)(H:Hp)(xs:List V)(us:[19])(Q:VK),(20,H,s)->Vals xs us->r xs H Q->
  (1,X.prog,X.w,X.A,call f us,EP X pins σ Q,X.xe,s)
def Pa(r:R2)(ta tb:TE):TE:=λσ H Q=>ta σ H λx H1=>tb σ H1 λy H2=>r x y H2 Q
def Rg(r:V->Hp->VK->Prop)(ta:TE):TE:=λσ H Q=>ta σ H λx H1=>r x H1 Q
def rI(C:Int->Int->Prop)(g:Int->Int->V):R2:=λx y H Q=>∃i j,x=(4,i)/\y=(4,j)/\C i j/\Q (g i j) H
def Lf(g:Int->Int->V):R2:=λx y H Q=>∃i j,x=(4,i)/\y=(4,j)/\Q (g i j) H
def rU(g:Int->V):V->Hp->VK->Prop:=λx H Q=>∃i,x=(4,i)/\Q (g i) H
section
variable{X:Cx}{a b c:Expr}{ta tb tc:TE}{pos:Pos}
theorem ON(ha:PE X a ta)(hb:PE X b tb){pins:[18]}{s:Shared}{σ:St}{H:Hp}{R:V->V->Hp->Prop}(I:(20,H,s))
  (h:ta σ H λx H1=>tb σ H1 λy H2=>R x y H2) {Q:Value->Shared->Prop} {f:Value->Value->Sem Value}
  (hf:∀v u s2 x y H2,(20,H2,s2)->bV x v->bV y u->R x y H2->(1,X.prog,X.w,X.A,f v u,Q,X.xe,s2)):
  (1,X.prog,X.w,X.A,(16,a),(λv s₁=>(1,X.prog,X.w,X.A,(16,b),(λu s₂=>(1,X.prog,X.w,X.A,f v u,Q,X.xe,s₂)),X.xe,s₁)),X.xe,s):=by
 refine df (ha pins s σ H _ I h) λv s1 ⟨x,H1,I1,r1,q1⟩=>?_;refine df (hb pins s1 σ H1 _ I1 q1) λu s2 ⟨y,H2,I2,r2,q2⟩=>?_;exact hf v u s2 x y H2 I2 r1 r2 q2
theorem MW{op:Operator}{r:R2}(ho:(18,X,op,r))(ha:PE X a ta)(hb:PE X b tb):PE X (.BinOp a op b pos) (Pa r ta tb):=by
 intro pins s σ H Q I h;exact wpAny_BinOp (ON ha hb I h λv u s2 x y H2 I2 rx ry q=>ho pins s2 σ H2 x y v u Q I2 rx ry q)
theorem MV{op:UnaryOp}{r:V->Hp->VK->Prop}(ho:Qn X (unaryOp op) r)(ha:PE X a ta):PE X (.UnaryOp op a pos) (Rg r ta):=by
 intro pins s σ H Q I h;exact UnaryOp_ (df (ha pins s σ H _ I h) λv s1 ⟨x,H1,I1,r1,q1⟩=>ho pins s1 σ H1 x v Q I1 r1 q1)
theorem P2{f:Value->Value->Sem Value}{C:Int->Int->Prop}{g:Int->Int->Int}
  (rule:∀(i j:Int)(t u:Tok)(s:Shared)(Q:Value->Shared->Prop)(E:Value->Shared->Prop),C i j->Q (.int (g i j) s.toks) {s with toks:=s.toks+1}->(1,X.prog,X.w,X.A,f (.int i t) (.int j u),Q,E,s)):
  ja X f (rI C λi j=>(4,g i j)):=by
 intro pins s σ H x y v u Q I rx ry h;obtain⟨i,j,rfl,rfl,hc,q⟩:=h;obtain⟨t,rfl⟩:=rx;obtain⟨t',rfl⟩:=ry;exact rule i j t t' s _ _ hc ⟨(4,g i j),H,I.tok _,(5,_,rfl),q⟩
theorem LC{f:Value->Value->Sem Value}{g:Int->Int->Int}
  (rule:∀(i j:Int)(t u:Tok)(s:Shared)(Q:Value->Shared->Prop)(E:Value->Shared->Prop),Q (.int (g i j) s.toks) {s with toks:=s.toks+1}->(1,X.prog,X.w,X.A,f (.int i t) (.int j u),Q,E,s)):
  ja X f (Lf λi j=>(4,g i j)):=by
 intro pins s σ H x y v u Q I rx ry h;obtain⟨i,j,rfl,rfl,q⟩:=h;obtain⟨t,rfl⟩:=rx;obtain⟨t',rfl⟩:=ry;exact rule i j t t' s _ _ ⟨(4,g i j),H,I.tok _,(5,_,rfl),q⟩
theorem O8{f:Value->Value->Sem Value}{g:Int->Int->Bool}
  (rule:∀(i j:Int)(t u:Tok)(s:Shared)(Q:Value->Shared->Prop)(E:Value->Shared->Prop),Q (.bool (g i j)) s->(1,X.prog,X.w,X.A,f (.int i t) (.int j u),Q,E,s)):
  ja X f (Lf λi j=>.bl (g i j)):=by
 intro pins s σ H x y v u Q I rx ry h;obtain⟨i,j,rfl,rfl,q⟩:=h;obtain⟨t,rfl⟩:=rx;obtain⟨t',rfl⟩:=ry;exact rule i j t t' s _ _ ⟨.bl (g i j),H,I,rfl,q⟩
def R7(i j:Int):Prop:=0<j/\j<1073741824
def Qk(i j:Int):Prop:=0<=j/\j<=1000000/\i.natAbs<2 ^ 64
def P0(i j:Int):Prop:=(-(2 ^ 64)<i/\i<2 ^ 64)\/(-(2 ^ 64)<j/\j<2 ^ 64)
theorem P0.ok{i j:Int}(h:P0 i j):IntMulOk i j:=by
 rcases h with⟨h1,h2⟩|⟨h1,h2⟩
 ·exact .of_left (intBits_le_64 h1 h2)
 ·exact .of_right (intBits_le_64 h1 h2)
theorem Df(k:Nat):(0:Int)<=2 ^ k:=by
 rw[two_pow_cast];exact Int.natCast_nonneg _
theorem O7:(18,X,.Add,(Lf λi j=>(4,(i+j)))):=LC λ_ _ _ _ _ _ _ q=>add_int q
theorem NW:(18,X,.Sub,(Lf λi j=>(4,(i - j)))):=LC λ_ _ _ _ _ _ _ q=>sub_int q
theorem O4:(18,X,.Mult,(rI P0 λi j=>(4,(i * j)))):=P2 λ_ _ _ _ _ _ _ hc q=>mul_int q hc.ok
theorem Lz:(18,X,.FloorDiv,(rI R7 λi j=>(4,(i / j)))):=P2 λi j _ _ _ _ _ hc q=>by
 have h1:(0:Int)<j:=hc.1;have h2:j<1073741824:=hc.2;exact floordiv_int [11] (by rw[Int.fdiv_eq_ediv_of_nonneg i [11]];exact q) (.inl (PyProof.noPylong_small [11]))
theorem O5:(18,X,.Mod,(rI (λ_ j=>0<j) λi j=>(4,(i % j)))):=P2 λi j _ _ _ _ _ hc q=>by
 have h1:(0:Int)<j:=hc;exact mod_int' [11] (by rw[Int.fmod_eq_emod_of_nonneg i [11]];exact q)
theorem O3:(18,X,.Pow,(rI Qk λi j=>(4,(i ^ j.toNat)))):=P2 λ_ _ _ _ _ _ _ hc q=>pow_int_small hc.1 hc.2.1 hc.2.2 q
theorem NY:(18,X,.LShift,(rI Qk λi j=>(4,(i * 2 ^ j.toNat)))):=P2 λ_ _ _ _ _ _ _ hc q=>lshift_int_small hc.1 hc.2.1 hc.2.2 q
theorem NX:(18,X,.RShift,(rI (λ_ j=>0<=j) λi j=>(4,(i / 2 ^ j.toNat)))):=P2 λi j _ _ _ _ _ hc q=>
 rshift_int hc (by rw[Int.fdiv_eq_ediv_of_nonneg i (Df _)];exact q)
theorem O6:(18,X,.BitAnd,(Lf λi j=>(4,Builtin.bitAnd i j))):=LC λ_ _ _ _ _ _ _ q=>and_int q
theorem Pw:(18,X,.BitOr,(Lf λi j=>(4,Builtin.bitOr i j))):=LC λ_ _ _ _ _ _ _ q=>or_int q
theorem Re{f:Value->Sem Value}{g:Int->Int}
  (rule:∀(i:Int)(t:Tok)(s:Shared)(Q:Value->Shared->Prop)(E:Value->Shared->Prop),Q (.int (g i) s.toks) {s with toks:=s.toks+1}->(1,X.prog,X.w,X.A,f (.int i t),Q,E,s)):
  Qn X f (rU λi=>(4,g i)):=by
 intro pins s σ H x v Q I rx h;obtain⟨i,rfl,q⟩:=h;obtain⟨t,rfl⟩:=rx;exact rule i t s _ _ ⟨(4,g i),H,I.tok _,(5,_,rfl),q⟩
theorem Ib:Qn X (unaryOp .USub) (rU λi=>(4,(-i))):=Re λ_ _ _ _ _ q=>neg_int q
end
def Nu:V->V->Bool
 |.non,.non=>true|.non,.int _=>true|.int _,.non=>true|.non,.bl _=>true|.bl _,.non=>true|.non,.str _=>true|.str _,.non=>true
 |.int _,.int _=>true|.bl _,.bl _=>true|.str _,.str _=>true|.byt _,.byt _=>true
 |.int _,.str _=>true|.str _,.int _=>true|.bl _,.str _=>true|.str _,.bl _=>true
 |_,_=>false
def Rq:R2:=λx y H Q=>Nu x y=true/\Q (.bl (decide (x=y))) H
def Rp:R2:=λx y H Q=>Nu x y=true/\Q (.bl (!decide (x=y))) H
theorem FP{i j:Int}:decide (V.int i=V.int j)=(i == j):=by
 rw[Bool.eq_iff_iff];simp
theorem Kb{i j:Bool}:decide (V.bl i=V.bl j)=(i == j):=by
 rw[Bool.eq_iff_iff];simp
theorem FO{i j:Str}:decide (V.str i=V.str j)=(i == j):=by
 rw[Bool.eq_iff_iff];simp
theorem FQ{i j:Array UInt8}:decide (V.byt i=V.byt j)=(i.toList == j.toList):=by
 rw[Bool.eq_iff_iff];cases i;cases j;simp
section
variable{X:Cx}{a b c:Expr}{ta tb tc:TE}{pos:Pos}
theorem cj{pins:[18]}{σ:St}{H:Hp}{s:Shared}{Q:VK}{k k':Bool}(I:(20,H,s))(q:Q (.bl k) H)(e:k=k'):EP X pins σ Q (.bool k') s:=by
 subst e;exact⟨.bl k,H,I,rfl,q⟩
theorem PF:ja X (compareOp .Eq) Rq:=by
 intro pins s σ H x y v u Q I rx ry h;obtain⟨hs,q⟩:=h;cases x with
 |non=>
  cases rx;cases y with
  |non=>cases ry;exact PySem.EqNone.eq_none_none (cj I q [20])
  |bl j=>cases ry;exact PySem.EqNone.eq_none_bool (cj I q [20])
  |int j=>obtain⟨t',rfl⟩:=ry;exact PySem.EqNone.eq_none_int (cj I q [20])
  |str j=>obtain⟨t',rfl⟩:=ry;exact PySem.EqNone.eq_none_str (cj I q [20])
  |_=>exact(43,[33])
 |bl i=>
  cases rx;cases y with
  |non=>cases ry;exact PySem.EqNone.eq_bool_none (cj I q [20])
  |bl j=>cases ry;exact eq_bool (cj I q Kb)
  |str j=>obtain⟨t',rfl⟩:=ry;exact PySem.EqMixed.eq_bool_str (cj I q [20])
  |_=>exact(43,[33])
 |int i=>
  obtain⟨t,rfl⟩:=rx;cases y with
  |non=>cases ry;exact PySem.EqNone.eq_int_none (cj I q [20])
  |int j=>obtain⟨t',rfl⟩:=ry;exact eq_int (cj I q FP)
  |str j=>obtain⟨t',rfl⟩:=ry;exact PySem.EqMixed.eq_int_str (cj I q [20])
  |_=>exact(43,[33])
 |str i=>
  obtain⟨t,rfl⟩:=rx;cases y with
  |non=>cases ry;exact PySem.EqNone.eq_str_none (cj I q [20])
  |bl j=>cases ry;exact PySem.EqMixed.eq_str_bool (cj I q [20])
  |int j=>obtain⟨t',rfl⟩:=ry;exact PySem.EqMixed.eq_str_int (cj I q [20])
  |str j=>obtain⟨t',rfl⟩:=ry;exact eq_str (cj I q FO)
  |_=>exact(43,[33])
 |byt i=>
  obtain⟨t,rfl⟩:=rx;cases y with
  |byt j=>obtain⟨t',rfl⟩:=ry;exact PySem.W.eq_bytes (cj I q FQ)
  |_=>exact(43,[33])
 |_=>cases y <;> exact(43,[33])
theorem Px:ja X (compareOp .NotEq) Rp:=by
 intro pins s σ H x y v u Q I rx ry h;obtain⟨hs,q⟩:=h;cases x with
 |non=>
  cases rx;cases y with
  |non=>cases ry;exact PySem.EqNone.ne_none_none (cj I q [20])
  |bl j=>cases ry;exact PySem.EqNone.ne_none_bool (cj I q [20])
  |int j=>obtain⟨t',rfl⟩:=ry;exact PySem.EqNone.ne_none_int (cj I q [20])
  |str j=>obtain⟨t',rfl⟩:=ry;exact PySem.EqNone.ne_none_str (cj I q [20])
  |_=>exact(43,[33])
 |bl i=>
  cases rx;cases y with
  |non=>cases ry;exact PySem.EqNone.ne_bool_none (cj I q [20])
  |bl j=>cases ry;exact ne_bool (cj I q (congrArg not Kb))
  |str j=>obtain⟨t',rfl⟩:=ry;exact PySem.EqMixed.ne_bool_str (cj I q [20])
  |_=>exact(43,[33])
 |int i=>
  obtain⟨t,rfl⟩:=rx;cases y with
  |non=>cases ry;exact PySem.EqNone.ne_int_none (cj I q [20])
  |int j=>obtain⟨t',rfl⟩:=ry;exact ne_int (cj I q (congrArg not FP))
  |str j=>obtain⟨t',rfl⟩:=ry;exact PySem.EqMixed.ne_int_str (cj I q [20])
  |_=>exact(43,[33])
 |str i=>
  obtain⟨t,rfl⟩:=rx;cases y with
  |non=>cases ry;exact PySem.EqNone.ne_str_none (cj I q [20])
  |bl j=>cases ry;exact PySem.EqMixed.ne_str_bool (cj I q [20])
  |int j=>obtain⟨t',rfl⟩:=ry;exact PySem.EqMixed.ne_str_int (cj I q [20])
  |str j=>obtain⟨t',rfl⟩:=ry;exact ne_str (cj I q (congrArg not FO))
  |_=>exact(43,[33])
 |byt i=>
  obtain⟨t,rfl⟩:=rx;cases y with
  |byt j=>obtain⟨t',rfl⟩:=ry;exact PySem.W.ne_bytes (cj I q (congrArg not FQ))
  |_=>exact(43,[33])
 |_=>cases y <;> exact(43,[33])
theorem Py:ja X (compareOp .Lt) (Lf λi j=>.bl (decide (i<j))):=O8 λ_ _ _ _ _ _ _ q=>lt_int q
theorem Pz:ja X (compareOp .LtE) (Lf λi j=>.bl (decide (i<=j))):=O8 λ_ _ _ _ _ _ _ q=>le_int q
theorem PB:ja X (compareOp .Gt) (Lf λi j=>.bl (decide (j<i))):=O8 λ_ _ _ _ _ _ _ q=>gt_int q
theorem ja.or{f:Value->Value->Sem Value}{r r':R2}(h:ja X f r)(h':ja X f r'):ja X f (λx y H Q=>r x y H Q\/r' x y H Q):=by
 intro pins s σ H x y v u Q I rx ry q;rcases q with q|q
 ·exact h pins s σ H x y v u Q I rx ry q
 ·exact h' pins s σ H x y v u Q I rx ry q
theorem Jg(b:Expr){op:CmpOp}(h:op≠.In:=by decide)(h2:op≠.NotIn:=by decide):behindInMarks op b=false:=by
 have e1:(op == CmpOp.In)=false:=by cases op <;> first|rfl|exact absurd rfl h
 have e2:(op == CmpOp.NotIn)=false:=by cases op <;> first|rfl|exact absurd rfl h2
 cases b <;> simp[behindInMarks,e1,e2]
theorem Lq{op:CmpOp}{r:R2}(ho:ja X (compareOp op) r)(ha:PE X a ta)(hb:PE X b tb)(hm:behindInMarks op b=false):PE X (.Compare a [op] [b] pos) (Pa r ta tb):=by
 intro pins s σ H Q I h;exact wpAny_Compare1 (ON ha hb I h λv u s2 x y H2 I2 rx ry q=>ho pins s2 σ H2 x y v u Q I2 rx ry q) hm
def P9(t:TE):TT:=λσ H Q=>t σ H λx H'=>∃k,x=.bl k/\Q k H'
theorem Li{op:CmpOp}{r:R2}(ho:ja X (compareOp op) r)(ha:PE X a ta)(hb:PE X b tb)(hm:behindInMarks op b=false):PT X (.Compare a [op] [b] pos) (P9 (Pa r ta tb)):=by
 intro pins s σ H Q I h;refine wpAny_isTrue_Compare1 (df (ha pins s σ H _ I h) λv s1 ⟨x,H1,I1,r1,q1⟩=>df (hb pins s1 σ H1 _ I1 q1) λu s2 ⟨y,H2,I2,r2,q2⟩=>
  df (ho pins s2 σ H2 x y v u _ I2 r1 r2 q2) λc s3 ⟨z,H3,I3,r3,k,e,q3⟩=>?_) hm
 subst e;cases r3;exact wpAny_truthy_bool (12,H3,I3,q3)
def Ij(r r':R2)(ta tb tc:TE):TE:=λσ H Q=>ta σ H λx H1=>tb σ H1 λy H2=>r x y H2 λz H3=>∃k,z=.bl k/\
 (if k=true then tc σ H3 λw' H4=>r' y w' H4 Q else Q (.bl false) H3)
theorem IS{op op':CmpOp}{r r':R2}(ho:ja X (compareOp op) r)(ho':ja X (compareOp op') r')(ha:PE X a ta)(hb:PE X b tb)(hc:PE X c tc)
  (hm:lastMarks [op,op'] [b,c]=false:=by with_unfolding_all rfl):PE X (.Compare a [op,op'] [b,c] pos) (Ij r r' ta tb tc):=by
 intro pins s σ H Q I h;refine Compare_chain (df (ha pins s σ H _ I h) λv s1 ⟨x,H1,I1,r1,q1⟩=>chain_link (df (hb pins s1 σ H1 _ I1 q1) λu s2 ⟨y,H2,I2,r2,q2⟩=>
  df (ho pins s2 σ H2 x y v u _ I2 r1 r2 q2) λd s3 ⟨z,H3,I3,r3,k,e,q3⟩=>?_)) hm
 subst e;cases r3;refine wpAny_truthy_bool ?_;cases k with
 |false=>exact ite_ff ⟨.bl false,H3,I3,rfl,q3⟩
 |true=>exact ite_tt (chain_last (df (hc pins s3 σ H3 _ I3 q3) λw' s4 ⟨z',H4,I4,r4,q4⟩=>ho' pins s4 σ H4 y z' u w' Q I4 r2 r4 q4))
theorem rK:(sizeLine:Nat)<2 ^ 63:=by rw[sizeLine_eq];decide
theorem DU:(18,X,.Add,(λx y H Q=>∃i j,x=.str i/\y=.str j/\i.length+j.length<=sizeLine/\Q (.str (i++j)) H)):=by
 intro pins s σ H x y v u Q I rx ry h;obtain⟨i,j,rfl,rfl,hz,q⟩:=h;obtain⟨t,rfl⟩:=rx;obtain⟨t',rfl⟩:=ry;exact add_str (λt' tk=>⟨.str (i++j),H,I.tok _,(5,_,rfl),q⟩) hz
theorem mx{x:V}{us:[19]}(r:Vals [x] us):∃u,us=[u]/\bV x u:=by
 cases r with
 |cons r1 r2=>cases r2;exact(12,_,rfl,r1)
theorem Ia{x y:V}{us:[19]}(r:Vals [x,y] us):∃u w',us=[u,w']/\bV x u/\bV y w':=by
 cases r with
 |cons r1 r2=>
  cases r2 with
  |cons r3 r4=>cases r4;exact⟨_,_,rfl,r1,r3⟩
theorem Kn:dh X (40,"abs") (λxs H Q=>∃i,xs=[(4,i)]/\Q (4,(if i<0 then -i else i)) H):=by
 intro pins s σ H xs us Q I r h;obtain⟨i,rfl,q⟩:=h;obtain⟨u,rfl,t,rfl⟩:=mx r;exact call_abs_int λu tk=>⟨(4,(if i<0 then -i else i)),H,I.tok _,(5,_,rfl),q⟩
theorem HG(hc:X.calm=true):dh X (40,"min") (λxs H Q=>∃i j,xs=[(4,i),(4,j)]/\Q (4,(if j<i then j else i)) H):=by
 intro pins s σ H xs us Q I r h;obtain⟨i,j,rfl,q⟩:=h;obtain⟨u,w',rfl,⟨t,rfl⟩,⟨t',rfl⟩⟩:=Ia r;refine min_two_ints (I.ok.hd hc) λh' tk k=>⟨_,H,I.kept k,?_,q⟩;by_cases hj:j<i
 ·rw[(39,hj),(39,hj)];exact(5,_,rfl)
 ·rw[(42,hj),(42,hj)];exact(5,_,rfl)
theorem ym:dh X (52,"int") (λxs H Q=>(∃i,xs=[(4,i)]/\Q (4,i) H)\/∃k,xs=[.bl k]/\Q (4,(if k then 1 else 0)) H):=by
 intro pins s σ H xs us Q I r h;rcases h with⟨i,rfl,q⟩|⟨k,rfl,q⟩
 ·obtain⟨u,rfl,t,rfl⟩:=mx r;exact call_int_int ⟨(4,i),H,I,(5,_,rfl),q⟩
 ·obtain⟨u,rfl,r1⟩:=mx r;cases r1;exact call_int_bool ⟨(4,(if k then 1 else 0)),H,I.tok _,(5,_,rfl),q⟩
end
structure F5(h:Heap)(x dx C:Addr)(mA:Str->Option Value):Prop where
 obj:h.get? x=(6,instObj C dx)
 ns:h.Ns1 dx mA
 ne:dx≠x
theorem y7{h:Heap}{dx:Addr}{mA:Str->[26]}(n:h.Ns1 dx mA):∃od,h.get? dx=(6,od)/\∀name,PySem.W.lookIn name od=(6,mA name):=by
 obtain⟨o,es,ep,ho,hd,hk,_,hm⟩:=n;refine(12,o,ho,λname=>?_);have e:=hm name;unfold nsFind findBy at e;rw[←Array.find?_toList] at e;unfold PySem.W.lookIn;rw[hd];dsimp only;split
 ·rename_i y q;rw[q] at e;exact congrArg some e
 ·rename_i q;rw[q] at e;have a:es.toList.any (·.refKey)=false:=by
   rw[List.any_eq_false];intro y hy;obtain⟨z,t,hkey⟩:=hk y (Array.mem_toList_iff.mp hy);simp[DictEntry.refKey,hkey]
  have a':¬es.toList.any (·.refKey)=true:=by rw[a];exact Bool.false_ne_true
  rw[(42,a')];exact congrArg some e
theorem F5.look{h:Heap}{x dx C:Addr}{mA:Str->[26]}(I:F5 h x dx C mA):∃od,PySem.W.InstAt h x (instObj C dx) C (6,od)/\∀name,PySem.W.lookIn name od=(6,mA name):=
 let ⟨od,ho,hl⟩:=y7 I.ns
 (12,od,(9,I.obj,rfl,rfl,ho),hl)
section
variable{prog:Program}{w:World}{A:Around}{E:Value->Shared->Prop}{s:Shared}{K:Frag}{x dx C f:Addr}{mA:Str->Option Value}{name:Str}{v:Value}
theorem M7{expr:Bool}{Q:Value->Shared->Prop}(X:K.In s.heap)(I:F5 s.heap x dx C mA)(hg:plainGet K C name=true)(hh:PySem.W.hasDictIn K C=true)
  (ha:(4,K,C,name)=(6,none)) (hv:mA name=(6,v)) (hv':PySem.W.handedIn v=true) (h:Q v {s with toks:=s.toks+1}):
  (1,prog,w,A,getAttr (10,x) name expr,Q,E,s):=by
 obtain⟨od,J,hl⟩:=I.look;exact PySem.W.get_value X J (plainGet_of hg).1 (PySem.W.findObj_own hh ha rfl (by rw[hl,hv])) hv' h
theorem JU{pl:Sem Bool}{Q:Value×([19])->Shared->Prop}(X:K.In s.heap)(I:F5 s.heap x dx C mA)(hg:plainGet K C name=true)
  (hf:(4,K,C,name)=(27,f)) (ht:isFn K (10,f)=true) (hv:mA name=none) (h:Q ((10,f),[(10,x)]) s):
  (1,prog,w,A,getMethod (10,x) name pl,Q,E,s):=by
 obtain⟨od,J,hl⟩:=I.look;exact PySem.W.method_fn X J (plainGet_of hg).1 (plainGet_of hg).2 hf (beq_iff_eq.mp ht) (by show(PySem.W.lookIn name od).map (·.isSome)=(6,false);rw[hl,hv];rfl) h
theorem set_map{ns:[16]}{Q:Unit->Shared->Prop}(X:K.In s.heap)(I:F5 s.heap x dx C mA)
  (hs:(4,K,C,"__setattr__") = (21,(40,"object.__setattr__"))) (hp:plainOver K C=true) (ht:takerIn K C name=(6,none)) (hh:PySem.W.hasDictIn K C=true)
  (hw:PySem.Within mA ns) (hsz:ns.length<=sizeLine)
  (h:∀h',F5 h' x dx C (λy=>if y=name then(6,v) else mA y)->Heap.SameBut dx s.heap h'->Q () {s with heap:=h',toks:=s.toks+2}):
  (1,prog,w,A,setAttr (10,x) name v,Q,E,s):=by
 obtain⟨od,J,hl⟩:=I.look;refine PySem.W.set_plain X J hs (PySem.W.osa_open (s:=[36]) (r:=none) X J hp ht λb=>?_);obtain⟨cd,hc,hd'⟩:=PySem.W.any_some hh;have hx:(25,x)=(6,(9,(10,C),(6,dx),.plain,#[])):=I.obj;refine(3,(8,(3,(3,wpAny_loadPart hx (3,PySem.W.Looks.here (s:=[36]) (PySem.W.looks_clsIn X hc) ?_)))));rw[hd'];refine wpAny_pure (a:=(6,dx)) (3,(8,(3,?_)));refine wpAny_nsSet1 (s:=[36]) I.ns λh' hn2 hs2=>?_;obtain⟨oD,esD,epD,hoD,hdD,hcD⟩:=hn2.count (PySem.Within.cons name v hw);refine(3,wpAny_lookBehind hoD (by rw[hdD];exact pastItsLine_dict (le_trans hcD (by rw[length_cons];omega))) ?_)
 exact(8,h _ (12,(hs2.2 _ (Ne.symm I.ne)).trans I.obj,hn2,I.ne) hs2)
theorem Js{R:Result->Shared->Prop}{vs:[19]}{kw:List (Str×Value)}(X:K.In s.heap)(hm:makesIn K C=true)
  (hi:(4,K,C,"__init__") = (27,f)) (hf:PySem.W.typeIn K (10,f)=(6,(52,"function")))
  (h:codeAny (model prog w) (A.under (.builtin "type.__call__" (5,(10,C)::vs,kw))) (.call (10,f) (5,(10,(s.heap.objs.size+1))::vs,kw)) (PySem.W.InitBack (s.heap.objs.size+1) R)
   {s with heap:=(s.heap.push PySem.W.emptyDict).push (instObj C s.heap.objs.size)}):
  codeAny (model prog w) A (.call (10,C) (5,vs,kw)) R s:=by
 obtain⟨hh,g,d,t,os⟩:=s;exact PySem.W.make_core (PySem.W.makes_of X hm) (PySem.W.looks_findIn X hi) (λself=>PySem.W.bind_fn X self hf) (.inl rfl) h
end
def mQ(f:Str)(v:V):List (Str×V)->List (Str×V)
 |[]=>[(f,v)]
 | (g,x)::r=>if g=f then(g,v)::r else(g,x)::mQ f v r
theorem sr(f g:Str)(v:V):∀fs:List (Str×V),(mQ f v fs).lookup g=if g=f then(6,v) else fs.lookup g
 |[]=>by
  show List.lookup g [(f,v)]=_;by_cases h:g=f
  ·have hb:(g == f)=true:=beq_iff_eq.mpr h;simp only[List.lookup,hb,(39,h)]
  ·have hb:(g == f)=false:=beq_eq_false_iff_ne.mpr h;simp only[List.lookup,hb,(42,h)]
 | (k,x)::r=>by
  have ih:=sr f g v r;rw[show mQ f v ((k,x)::r)=(if k=f then(k,v)::r else(k,x)::mQ f v r) from rfl];by_cases hk:k=f
  ·rw[(39,hk)];by_cases h:g=k
   ·have hb:(g == k)=true:=beq_iff_eq.mpr h;simp only[List.lookup,hb,(39,h.trans hk)]
   ·have hb:(g == k)=false:=beq_eq_false_iff_ne.mpr h;simp only[List.lookup,hb,if_neg (λe:g=f=>h (e.trans hk.symm))]
  ·rw[(42,hk)];by_cases h:g=k
   ·have hb:(g == k)=true:=beq_iff_eq.mpr h;simp only[List.lookup,hb,if_neg (λe:g=f=>hk (h.symm.trans e))]
   ·have hb:(g == k)=false:=beq_eq_false_iff_ne.mpr h;simp only[List.lookup,hb];exact ih
theorem rN(f:Str)(v:V):∀fs:List (Str×V),f∈(mQ f v fs).map (·.1)/\∀g,g∈fs.map (·.1)->g∈(mQ f v fs).map (·.1)
 |[]=>(5,by simp[mQ],λg h=>by simp at h)
 | (k,x)::r=>by
  obtain⟨i1,i2⟩:=rN f v r;rw[show mQ f v ((k,x)::r)=(if k=f then(k,v)::r else(k,x)::mQ f v r) from rfl];by_cases hk:k=f
  ·rw[(39,hk)];subst hk;exact(5,by simp,λg h=>by simpa using h)
  ·rw[(42,hk)];refine(5,?_,λg h=>?_)
   ·rw[map_cons];exact(31,i1)
   ·rw[map_cons] at h ⊢;rcases mem_cons.mp h with e|e
    ·exact mem_cons.mpr (.inl e)
    ·exact(31,i2 g e)
theorem sv(f:Str)(v:V):∀fs:List (Str×V),(mQ f v fs).length<=fs.length+1
 |[]=>by simp[mQ]
 | (k,x)::r=>by
  have ih:=sv f v r;rw[show mQ f v ((k,x)::r)=(if k=f then(k,v)::r else(k,x)::mQ f v r) from rfl];by_cases hk:k=f
  ·rw[(39,hk),length_cons,length_cons];omega
  ·rw[(42,hk),length_cons,length_cons];omega
theorem RelO.some_of{v:V}{o:[26]}(r:RelO (6,v) o):∃u,o=(6,u)/\bV v u:=by
 cases o with
 |none=>exact(show False from r).elim
 |some u=>exact(12,u,rfl,r)
theorem RelO.none_of{o:[26]}(r:RelO none o):o=none:=by
 cases o with
 |none=>rfl
 |some u=>exact(show False from r).elim
theorem ya{v:V}{u:Value}(r:bV v u):PySem.W.handedIn u=true:=by
 cases v with
 |non=>cases (show u=Value.none from r);rfl
 |bl b=>cases (show u=Value.bool b from r);rfl
 |int i=>obtain⟨t,e⟩:=(show ∃t,u=Value.int i t from r);cases e;rfl
 |str x=>obtain⟨t,e⟩:=(show ∃t,u=Value.str x t from r);cases e;rfl
 |byt b=>obtain⟨t,e⟩:=(show ∃t,u=Value.bytes b t from r);cases e;rfl
 |flt b=>obtain⟨t,e⟩:=(show ∃t,u=Value.float b t from r);cases e;rfl
 |ref a=>cases (show u=Value.ref a from r);rfl
 |ty n=>cases (show u=Value.type n from r);rfl
section
variable{P:Program}{w:World}{H H':Hp}{h h':Heap}{a C dx:Addr}{fs fs':List (Str×V)}
theorem tU(hok:rm P w H h)(e:H a=(6,.ins C dx fs)):∃mA,F5 h a dx C mA/\(∀f,RelO (fs.lookup f) (mA f))/\PySem.Within mA (fs.map (·.1))/\fs.length<=1000/\H dx=(6,(49,a)):=by
 obtain⟨d,z,ne,ob,mA,n,r,q⟩:=(show cF P w H h a (.ins C dx fs) from hok a _ e);exact⟨mA,(12,ob,n,ne),r,q,z,d⟩
end
structure l3(K:Frag)(C:Addr):Prop where
 pg:plainGet K C Str.empty=true
 hd:PySem.W.hasDictIn K C=true
 po:plainOver K C=true
 sa:(4,K,C,"__setattr__") = (21,(40,"object.__setattr__"))
theorem l3.get{K:Frag}{C:Addr}(c:l3 K C)(f:Str):plainGet K C f=true:=c.pg
def cL(K:Frag)(C:Addr)(f:Str):Prop:=(4,K,C,f)=(6,none)
theorem cL.taker{K:Frag}{C:Addr}{f:Str}(n:cL K C f):takerIn K C f=(6,none):=by
 unfold takerIn;rw[show(4,K,C,f)=(6,none) from n];rfl
structure OX(K:Frag)(C:Addr)(m:Str)(f:Addr):Prop where
 at_:(4,K,C,m)=(27,f)
 fn:isFn K (10,f)=true
 kp:(7,K,f)=true
section
variable{X:Cx}{pins:List (Addr×Obj)}{σ:St}{H:Hp}{s:Shared}{a C dx:Addr}{fs:List (Str×V)}{f:Str}{v:V}{A:Around}{E:Value->Shared->Prop}
theorem EE{b:Bool}{Q:Value->Shared->Prop}(I:(20,H,s))(e:H a=(6,.ins C dx fs))(c:l3 X.K C)(n:cL X.K C f)(l:fs.lookup f=(6,v))
  (h:∀u s',(20,H,s')->bV v u->Q u s'):(1,X.prog,X.w,A,getAttr (10,a) f b,Q,E,s):=by
 obtain⟨mA,O,r,_,_,_⟩:=tU I.hok e;obtain⟨u,hu,ru⟩:=RelO.some_of (v:=v) (o:=mA f) (by rw[←l];exact r f)
 exact M7 I.kIn O (c.get f) c.hd n hu (ya ru) (h u _ (I.tok _) ru)
theorem vr{m:Str}{g:Addr}{pl:Sem Bool}{Q:Value×([19])->Shared->Prop}(I:(20,H,s))(e:H a=(6,.ins C dx fs))(c:l3 X.K C)(k:OX X.K C m g)(l:fs.lookup m=none)
  (h:Q ((10,g),[(10,a)]) s):(1,X.prog,X.w,A,getMethod (10,a) m pl,Q,E,s):=by
 obtain⟨mA,O,r,_,_,_⟩:=tU I.hok e;have hn:mA m=none:=RelO.none_of (by rw[←l];exact r m)
 exact JU I.kIn O (c.get m) k.at_ k.fn hn h
theorem Dy{y:V}{u:Value}{Q:Unit->Shared->Prop}(I:(20,H,s))(e:H a=(6,.ins C dx fs))(c:l3 X.K C)(n:cL X.K C f)(hl:fs.length<1000)(ry:bV y u)
  (h:∀s',(20,cA H a (.ins C dx (mQ f y fs)),s')->Q () s'):(1,X.prog,X.w,A,setAttr (10,a) f u,Q,E,s):=by
 obtain⟨mA,O,r,wi,_,ho⟩:=tU I.hok e;have hz:(fs.map (·.1)).length<=sizeLine:=by rw[length_map,sizeLine_eq];omega
 refine set_map I.kIn O c.sa c.po n.taker c.hd wi hz λh' O' sb=>h _ ?_;have hd:∃o,h'.get? dx=(6,o):=let ⟨o,_,_,e',_⟩:=O'.ns;(5,o,e');refine I.write (x:=a) (e:=dx) (by rw[e];exact True.intro) (.inr ho) (λb q hb z=>(sb.2 b hb).trans z) hd ?_
 refine⟨by rw[aE O.ne];exact ho,?_,O.ne,O'.obj,_,O'.ns,λg=>?_,λg hg=>?_⟩
 ·have:=sv f y fs;omega
 ·show RelO ((mQ f y fs).lookup g) (if g=f then(6,u) else mA g);rw[sr];by_cases q:g=f
  ·rw[(39,q),(39,q)];exact ry
  ·rw[(42,q),(42,q)];exact r g
 ·by_cases q:g=f
  ·rw[q];exact(rN f y fs).1
  ·refine(rN f y fs).2 g (wi g λz=>hg ?_);show(if g=f then(6,u) else mA g)=none;rw[(42,q)];exact z
theorem aR.made(I:(20,H,s)):aR X pins σ (cA (cA H [15] (49,(s.heap.objs.size+1))) (s.heap.objs.size+1) (.ins C [15] []))
  {s with heap:=(s.heap.push PySem.W.emptyDict).push (instObj C s.heap.objs.size)}:=by
 have e1:(s.heap.push PySem.W.emptyDict).get? s.heap.objs.size=(6,PySem.W.emptyDict):=(35,s.heap);have e2:((s.heap.push PySem.W.emptyDict).push (instObj C [15])).get? (s.heap.objs.size+1)=(6,instObj C [15]):=by
  have:=get?_push_size (s.heap.push PySem.W.emptyDict) (o:=instObj C [15]) rfl;rwa[size_push] at this
 have e3:(s.heap.push PySem.W.emptyDict).Ns s.heap.objs.size (λ_=>none):=⟨PySem.W.emptyDict,#[],_,e1,rfl,(λe he=>absurd he [20]),λ_=>rfl⟩
 have I1:=I.laid (a:=[15]) (o:=(49,(s.heap.objs.size+1))) (h':=s.heap.push PySem.W.emptyDict) (t':=s.toks) (λb u q=>(14,q)) [23] (5,_,e1);refine I1.laid (a:=s.heap.objs.size+1) (o:=.ins C [15] []) (t':=s.toks) (λb u q=>(14,q)) (le_of_eq (size_push _ _)) ?_;have ne:s.heap.objs.size≠s.heap.objs.size+1:=ne_of_lt (lt_succ_self _);refine⟨by rw[aE ne,aH],zero_le _,ne,e2,λ_=>none,(Heap.Ns1.of_empty e3).at λo q=>(14,q),λ_=>True.intro,λy hy=>absurd rfl hy⟩
theorem FX{prog:Program}{w:World}{env:Env}{e:Expr}{f:Str}{pos:Pos}{s:Shared}{Q:Value->Shared->Prop}(hb:attributeBase e f env (eval e env)=eval e env)
  (h:(1,prog,w,A,eval e env,(λo s₁=>(1,prog,w,A,getAttr o f true,Q,E,s₁)),E,s)):(1,prog,w,A,eval (.Attribute e f pos) env,Q,E,s):=
 Attribute_any_ h (by rw[arm_eval_Attribute,hb])
end
def Qz(K:Frag)(ta:TE)(f:Str):TE:=λσ H Q=>ta σ H λx H1=>∃a C dx fs v,x=(10,a)/\H1 a=(6,.ins C dx fs)/\l3 K C/\cL K C f/\fs.lookup f=(6,v)/\Q v H1
def QE(K:Frag)(ta tv:TE)(f:Str):TS:=λD σ H=>tv σ H λy H1=>ta σ H1 λx H2=>∃a C dx fs,x=(10,a)/\H2 a=(6,.ins C dx fs)/\l3 K C/\cL K C f/\fs.length<1000/\
 D.nx σ (cA H2 a (.ins C dx (mQ f y fs)))
section
variable{X:Cx}{o e value:Expr}{f:Str}{pos pos' tpos:Pos}{ta tv:TE}
theorem NS(he:PE X e ta)(hb:attributeBase e f X.env (16,e)=(16,e)):PE X (.Attribute e f pos) (Qz X.K ta f):=by
 intro pins s σ H Q I h;refine FX hb (df (he pins s σ H _ I h) λu s1 ⟨x,H1,I1,rx,a,C,dx,fs,v,ex,ea,c,n,l,q⟩=>?_);subst ex;obtain rfl:u=Value.ref a:=rx;exact EE I1 ea c n l λu' s2 I2 ru=>⟨v,H1,I2,ru,q⟩
theorem NI(ha:PE X o ta)(hv:PE X value tv)(hs:(21,value,(6,.Attribute o f pos'),pos.line)=pure false):PS X (.Assign [.Attribute o f pos'] value pos) (QE X.K ta tv f):=by
 intro pins s σ H D I h;refine plainObj_wpAny_Assign_Attribute (df (hv pins s σ H _ I h) λu s1 ⟨y,H1,I1,ry,q⟩=>df (ha pins s1 σ H1 _ I1 q) λov s2 ⟨x,H2,I2,rx,a,C,dx,fs,ex,ea,c,n,l,q2⟩=>?_) hs;subst ex;obtain rfl:ov=Value.ref a:=rx;exact Dy I2 ea c n l ry λs3 I3=>(9,σ,_,I3,q2)
end
section
variable{X:Cx}{pins:List (Addr×Obj)}{σ:St}{H:Hp}{s:Shared}{A:Around}{E:Value->Shared->Prop}{Q:Value->Shared->Prop}{c:Value}{b:Bool}
inductive q8(K:Frag)(H:Hp):V->Value->Prop where
 |non:q8 K H .non (52,"NoneType")
 |bl (x:Bool):q8 K H (.bl x) (52,"bool")
 |int (i:Int):q8 K H (4,i) (52,"int")
 |str (x:Str):q8 K H (.str x) (52,"str")
 |flt (x:UInt64):q8 K H (.flt x) (52,"float")
 |lst {a:Addr} {xs:List V} (e:H a=(6,(13,xs))):q8 K H (10,a) (52,"list")
 |frz {a:Addr} {o:Obj} {xs:List V} (e:H a=(6,.frz o (13,xs))):q8 K H (10,a) (52,"list")
 |tup {a:Addr} {xs:List V} (e:H a=(6,(20,xs))):q8 K H (10,a) (52,"tuple")
 |dK {a:Addr} {kvs:List (Key×V)} (e:H a=(6,.dK kvs)):q8 K H (10,a) (52,"dict")
 |dT {a:Addr} {kvs:List (List Key×V)} (e:H a=(6,.dT kvs)):q8 K H (10,a) (52,"dict")
 |ins {a C dx:Addr} {fs:List (Str×V)} (e:H a=(6,.ins C dx fs)) (cl:l3 K C) (ha:(4,K,C,"__class__") = (21,(40,"object.__class__")))
   (hn:specialIn K (40,"object.__class__") "__get__" = (21,(40,"getset_descriptor.__get__"))) (htk:PySem.W.takesIn K (40,"object.__class__")=(6,true))
   (hm:PySem.W.mroIn K C (52,"object")=(6,true)):q8 K H (10,a) (10,C)
theorem Hm{x:V}{u t:Value}(I:(20,H,s))(rx:bV x u)(ty:q8 X.K H x t)(e:kitOne X.K t c=(6,b))(h:∀tk,Q (.bool b) {s with toks:=tk}):
  (1,X.prog,X.w,A,call (40,"isinstance") [u,c],Q,E,s):=by
 cases ty with
 |non=>cases (show u=Value.none from rx);exact(2,PySem.W.kitx_none,I.kIn,True.intro,e,h)
 |bl y=>cases (show u=Value.bool y from rx);exact(2,PySem.W.kitx_bool,I.kIn,True.intro,e,h)
 |int i=>obtain⟨t,q⟩:=(show ∃t,u=Value.int i t from rx);cases q;exact(2,PySem.W.kitx_int,I.kIn,True.intro,e,h)
 |str y=>obtain⟨t,q⟩:=(show ∃t,u=Value.str y t from rx);cases q;exact(2,PySem.W.kitx_str,I.kIn,True.intro,e,h)
 |flt y=>obtain⟨t,q⟩:=(show ∃t,u=Value.float y t from rx);cases q;exact(2,PySem.W.kitx_float,I.kIn,True.intro,e,h)
 |@lst a xs ea=>
  cases (show u=Value.ref a from rx);obtain⟨_,_,n,_,h1⟩:=(show cF X.prog X.w H s.heap a (13,xs) from I.hok a _ ea);exact(2,kitx_list,I.kIn,(14,_,h1),e,h)
 |@frz a ob xs ea=>
  cases (show u=Value.ref a from rx);obtain⟨_,_,_,n,_,h1⟩:=(show cF X.prog X.w H s.heap a (.frz ob (13,xs)) from I.hok a _ ea);exact(2,kitx_list,I.kIn,(14,_,h1),e,h)
 |@tup a xs ea=>
  cases (show u=Value.ref a from rx);obtain⟨_,_,_,p⟩:=(show cF X.prog X.w H s.heap a (20,xs) from I.hok a _ ea);obtain⟨o,h1,h2,_⟩:=p;exact(2,PySem.W.kitx_tuple,I.kIn,(12,o,h1,h2),e,h)
 |@dK a kvs ea=>
  cases (show u=Value.ref a from rx);obtain⟨_,_,vs,_,p⟩:=(show cF X.prog X.w H s.heap a (.dK kvs) from I.hok a _ ea);obtain⟨o,es,ep,h1,h2,_⟩:=p;exact(2,kitx_dict,I.kIn,(12,o,h1,h2.1),e,h)
 |@dT a kvs ea=>
  cases (show u=Value.ref a from rx);obtain⟨_,_,xs,_,o,es,ep,h1,h2,_⟩:=(show cF X.prog X.w H s.heap a (.dT kvs) from I.hok a _ ea);exact(2,kitx_dict,I.kIn,(12,o,h1,h2.1),e,h)
 |@ins a C dx fs ea cl ha hn htk hm=>
  cases (show u=Value.ref a from rx);obtain⟨mA,O,_⟩:=tU I.hok ea;obtain⟨od,J,_⟩:=O.look;exact(2,PySem.W.kitx_own (cl.get _) cl.hd ha hn htk hm,I.kIn,J,e,h)
end
structure cG(k:Nat)(A:Around):Prop where
 hd:A.handled=none
 dp:A.depth+3 * k+5<recursionLimit
 un:A.units+16 * k+200<cLine
theorem cG.mono{j k:Nat}{A:Around}(r:cG k A)(h:j<=k):cG j A:=(12,r.hd,by have:=r.dp;omega,by have:=r.un;omega)
theorem cG.deeper{k:Nat}{A:Around}(r:cG (k+1) A)(env:Env):cG k (A.deeper env):=
 (12,r.hd,by have:=r.dp;show A.depth+1+3 * k+5<_;omega,by have:=r.un;show A.units+3+16 * k+200<_;omega)
theorem cG.in1{k:Nat}{A:Around}(r:cG (k+1) A):cG k A.in1:=
 (12,r.hd,by have:=r.dp;show A.depth+3 * k+5<_;omega,by have:=r.un;show A.units+1+16 * k+200<_;omega)
theorem Ek{A:Around}{C:Addr}{us:[19]}{kw:List (Str×Value)}:(A.under (.builtin "type.__call__" (5,(10,C)::us,kw))).depth=A.depth+1:=by
 first|rfl|simp[Around.under,Code.weight,Code.isCreation,Code.isGuard,Code.isCaller,Code.frames,Code.isFrame,guardIds]
theorem Ej{A:Around}{C:Addr}{us:[19]}{kw:List (Str×Value)}:(A.under (.builtin "type.__call__" (5,(10,C)::us,kw))).units=A.units+1:=by
 first|rfl|simp[Around.under,Code.cUnits,Code.frames,Code.isFrame]
theorem cG.make{k:Nat}{A:Around}(r:cG (k+1) A)(C:Addr)(us:[19])(kw:List (Str×Value)):cG k (A.under (.builtin "type.__call__" (5,(10,C)::us,kw))):=
 (12,r.hd,by have:=r.dp;rw[Ek];omega,by have:=r.un;rw[Ej];omega)
theorem cG.depth{k:Nat}{A:Around}(r:cG k A):A.depth<recursionLimit:=by have:=r.dp;omega
theorem cG.units{k:Nat}{A:Around}(r:cG k A):A.units+64<cLine:=by have:=r.un;omega
def L5:TA:=λ_ H Q=>Q [] H
def B4(ta:TE)(tr:TA):TA:=λσ H Q=>ta σ H λx H1=>tr σ H1 λxs H2=>Q (x::xs) H2
section
variable{X:Cx}{e:Expr}{es:List Expr}{te:TE}{t:TA}{pos:Pos}
theorem iu:PA X [] L5:=λ_ _ _ _ H Q I h=>Calls.spliced_nil ⟨[],H,I,.nil,h⟩
theorem cS(ha:PE X e te)(hr:PA X es t)(hs:(7,(e::es))=(false,(16,e))::(7,es):=by rfl):PA X (e::es) (B4 te t):=by
 intro pos pins s σ H Q I h;rw[hs];show wpAny _ _ (spliced ((false,(16,e))::(10,pos,es))) _ _ s;refine Calls.spliced_cons (df (ha pins s σ H _ I h) λu s1 ⟨x,H1,I1,r1,q1⟩=>?_);exact df (hr pos pins s1 σ H1 _ I1 q1) λus s2 ⟨xs,H2,I2,r2,q2⟩=>⟨x::xs,H2,I2,.cons r1 r2,q2⟩
def Qr(t:TA):TE:=λσ H Q=>t σ H λxs H1=>xs.length<=sizeLine/\∀p,H1 p=none->Q (10,p) (cA H1 p (20,xs))
def Qw(t:TA):TE:=λσ H Q=>t σ H λxs H1=>xs.length<=sizeLine/\∀p,H1 p=none->Q (10,p) (cA H1 p (13,xs))
theorem NN{x1}(h:PA X es t):PE X (.Tuple es x1 pos) (Qr t):=by
 intro pins s σ H Q I hq;refine wpAny_Tuple_spliced (df (h pos pins s σ H _ I hq) λus s1 ⟨xs,H1,I1,r,z,q⟩=>(5,by rw[←r.length];exact z,?_))
 have hf:H1 s1.heap.objs.size=none:=I1.hok.fresh [23];refine⟨(10,s1.heap.objs.size),cA H1 s1.heap.objs.size (20,xs),I1.laid (t':=s1.toks) (λb u e=>(14,e)) [23] ?_,rfl,q _ hf⟩;exact(9,z,us,r,⟨_,(35,_),rfl,_,rfl⟩)
theorem NR(h:PA X es t):PE X (.List es pos) (Qw t):=by
 intro pins s σ H Q I hq;refine wpAny_List_spliced (df (h pos pins s σ H _ I hq) λus s1 ⟨xs,H1,I1,r,z,q⟩=>(5,by rw[←r.length];exact z,?_))
 have hf:H1 s1.heap.objs.size=none:=I1.hok.fresh [23];refine⟨(10,s1.heap.objs.size),cA H1 s1.heap.objs.size (13,xs),I1.laid (t':=s1.toks) (λb u e=>(14,e)) [23] ?_,rfl,q _ hf⟩;exact⟨z,us,0,r,(35,_)⟩
end
abbrev Sp:=List V->Hp->VK->XK->Prop
abbrev G0:=List Env->Hp->Shared->XK->Value->Shared->Prop
structure xw(P:Program)(w:World)(K:Frag)(mg:Str->Option Value)(base:Heap)(A:Around)(outer:List Env)(s:Shared)(H:Hp):Prop where
 frames:A.frames=(6,outer)
 mod:Mod K mg base
 bs:∀b o,base.get? b=(6,o)->(25,b)=(6,o)/\H b=none
 bsz:base.objs.size<=s.heap.objs.size
 funs:s.heap.FunFrames base outer
 frf:∀b∈frs outer,H b=none
 hok:rm P w H s.heap
 bare:AllBare s.gens
def CE(outer:List Env)(P:Program)(w:World)(H:Hp)(s:Shared)(Q:VK)(u:Value)(s':Shared):Prop:=
 ∃v H',s'.os=s.os/\AllBare s'.gens/\Un (frs outer) [] H H' s.heap s'.heap/\rm P w H' s'.heap/\bV v u/\Q v H'
def CR(CX:G0)(outer:List Env)(P:Program)(w:World)(H:Hp)(s:Shared)(Q:VK)(E:XK)(r:Result)(s':Shared):Prop:=
 match r with
 |.ok (.ret u)=>CE outer P w H s Q u s'
 |.ok _=>False
 |.error e=>CX outer H s E e s'
structure dE(P:Program)(w:World)(K:Frag)(mg:Str->Option Value)(base:Heap)(CX:G0)(k:Nat)(f:Addr)(fd:FuncData)(ps:List Str)(sp:Sp):Prop where
 len:∀vs H Q E,sp vs H Q E->vs.length=ps.length
 run:∀(A:Around)(outer:List Env)(s:Shared)(H:Hp)(args:Args)(us:[19])(vs:List V)(Q:VK)(E:XK),cG k A->xw P w K mg base A outer s H->BindsTo s fd args (ps.zip us)->Vals vs us->sp vs H Q E->
  codeAny (model P w) A (.call (10,f) args) (CR CX outer P w H s Q E) s
theorem dE.mono{P:Program}{w:World}{K:Frag}{mg:Str->[26]}{base:Heap}{CX:G0}{j k:Nat}{f:Addr}{fd:FuncData}{ps:[16]}{sp:Sp}(F:dE P w K mg base CX j f fd ps sp)(h:j<=k):
  dE P w K mg base CX k f fd ps sp:=(5,F.len,λA outer s H args us vs Q E hr=>F.run A outer s H args us vs Q E (hr.mono h))
theorem dE.imp{P:Program}{w:World}{K:Frag}{mg:Str->[26]}{base:Heap}{CX:G0}{k:Nat}{f:Addr}{fd:FuncData}{ps:[16]}{sp sp':Sp}(F:dE P w K mg base CX k f fd ps sp)
  (h:∀vs H Q E,sp' vs H Q E->sp vs H Q E):dE P w K mg base CX k f fd ps sp':=
 (5,λvs H Q E q=>F.len vs H Q E (h _ _ _ _ q),λA outer s H args us vs Q E hr he hb hv hs=>F.run A outer s H args us vs Q E hr he hb hv (h _ _ _ _ hs))
theorem xw.make{P:Program}{w:World}{K:Frag}{mg:Str->[26]}{base:Heap}{A:Around}{outer:List Env}{s:Shared}{H:Hp}(e:xw P w K mg base A outer s H)(C:Addr)(us:[19])(kw:List (Str×Value)):
  xw P w K mg base (A.under (.builtin "type.__call__" (5,(10,C)::us,kw))) outer s H:=⟨by first|exact e.frames|(simpa [Around.under,Code.envs,Code.isFrame,pushEnvs] using e.frames),e.mod,e.bs,e.bsz,e.funs,e.frf,e.hok,e.bare⟩
theorem xw.in1{P:Program}{w:World}{K:Frag}{mg:Str->[26]}{base:Heap}{A:Around}{outer:List Env}{s:Shared}{H:Hp}(e:xw P w K mg base A outer s H):
  xw P w K mg base A.in1 outer s H:=⟨e.frames,e.mod,e.bs,e.bsz,e.funs,e.frf,e.hok,e.bare⟩
section
variable{X:Cx}{pins:List (Addr×Obj)}{σ:St}{H:Hp}{s s':Shared}
theorem aR.env0(I:(20,H,s)):xw X.prog X.w X.K X.mg X.base X.A X.stack s H:=
 ⟨I.ok.frames,I.ok.mod,I.bs,le_trans I.ok.bsz I.sz,I.stack,I.stkFree,I.hok,I.bare⟩
theorem aR.after{Q:VK}{u:Value}(I:(20,H,s))(h:CE X.stack X.prog X.w H s Q u s'):EP X pins σ Q u s':=by
 obtain⟨v,H',os,bare,un,hok,r,q⟩:=h;obtain⟨hh,g,d,t,os'⟩:=s';obtain rfl:os'=s.os:=os;exact⟨v,H',I.call (h':=hh) (g':=g) (d':=d) (t':=t) (ch:=[]) un hok bare (λb z=>absurd z [20]),r,q⟩
end
def MR(sp:Sp)(dvs:List V)(E:XK)(t:TA):TE:=λσ H Q=>t σ H λvs H1=>sp (vs++dvs) H1 Q E
def MQ(C:Addr)(sp:Sp)(dvs:List V)(E:XK)(t:TA):TE:=λσ H Q=>t σ H λvs H1=>∀x dx,H1 x=none->H1 dx=none->dx≠x->
 sp ((10,x)::(vs++dvs)) (cA (cA H1 dx (49,x)) x (.ins C dx [])) (λv H2=>v=.non/\Q (10,x) H2) E
def dj(K:Frag)(fd:FuncData)(ps:[16])(ds:[19]):Prop:=
 ∀(s:Shared)(us:[19]),K.In s.heap->(us++ds).length=ps.length->BindsTo s fd (5,us,[]) (ps.zip (us++ds))
theorem dj.all{K:Frag}{fd:FuncData}{ps:[16]}(h:∀us:List Value,us.length=ps.length->bindArgs fd (5,us,[])=pure (ps.zip us)):dj K fd ps []:=λs us _ hl=>by
 rw[append_nil] at hl ⊢;exact .of_eq (h us hl)
def nJ(CX:G0)(X:Cx)(E:XK):Prop:=∀(pins:[18])(σ:St)(H:Hp)(s:Shared)(e:Value)(s':Shared),(20,H,s)->CX X.stack H s E e s'->X.xe e s'
section
variable{X:Cx}{CX:G0}{k:Nat}{f C:Addr}{fd:FuncData}{ps:List Str}{sp:Sp}{dvs:List V}{ds:List Value}{E:XK}{x m:Str}{p pos apos:Pos}{e o:Expr}{es:List Expr}{ta:TE}{t:TA}
theorem yX{pins:[18]}{σ:St}{H:Hp}{s:Shared}{Q:VK}{us:[19]}{vs:List V}(F:dE X.prog X.w X.K X.mg X.base CX k f fd ps sp)(hr:cG k X.A)(hb:dj X.K fd ps ds)(hd:Vals dvs ds)(hx:nJ CX X E)
  (I:(20,H,s)) (r:Vals vs us) (h:sp (vs++dvs) H Q E):(1,X.prog,X.w,X.A,call (10,f) us,EP X pins σ Q,X.xe,s):=by
 have r2:Vals (vs++dvs) (us++ds):=r.append hd;have hl:(us++ds).length=ps.length:=by rw[←r2.length];exact F.len _ _ _ _ h
 refine wpAny_call (codeAny_mono (F.run X.A X.stack s H (5,us,[]) (us++ds) (vs++dvs) Q E hr I.env0 (hb s us I.kIn hl) r2 h) λr s' hq=>?_);cases r with
 |error e=>exact hx pins σ H s e s' I hq
 |ok fl=>
  cases fl with
  |ret u=>exact I.after hq
  |next=>exact False.elim hq
  |brk=>exact False.elim hq
  |cont=>exact False.elim hq
theorem Fv(F:dE X.prog X.w X.K X.mg X.base CX k f fd ps sp)(hr:cG k X.A)(hg:Gl X x)(hm:X.mg x=(6,(10,f)))(hk:(7,X.K,f)=true)(hb:dj X.K fd ps ds)(hd:Vals dvs ds)(hx:nJ CX X E)
  (ha:PA X (e::es) t) (hdb:(x == ("__debug__":Str))=false:=by decide) (he:(7,(e::es))=(false,(16,e))::(7,es):=by rfl) (hpl:(10,pos,es).any (·.1)=false:=by rfl):
  PE X (15,(6,x,p),(e::es),pos) (MR sp dvs E t):=by
 intro pins s σ H Q I h;refine wpAny_Call_Name_kw (mh I hg hm ?_ hdb);refine PySem.W.callWith_K (h₀:=X.base) I.ok.mod.kin hk (df (ha pos pins s σ H _ I h) λus s1 ⟨vs,H1,I1,r,q⟩=>(5,I1.kIn,?_)) he hpl;exact yX F hr hb hd hx I1 r q
structure Mk(K:Frag)(C f:Addr):Prop where
 makes:makesIn K C=true
 init:(4,K,C,"__init__") = (27,f)
 fn:isFn K (10,f)=true
 kp:(7,K,C)=true
theorem Be{pins:[18]}{σ:St}{H:Hp}{s:Shared}{Q:VK}{us:[19]}{vs:List V}(M:Mk X.K C f)(F:dE X.prog X.w X.K X.mg X.base CX k f fd ps sp)(hr:cG (k+1) X.A)(hb:dj X.K fd ps ds)(hd:Vals dvs ds)
  (hx:nJ CX X E) (I:(20,H,s)) (r:Vals vs us)
  (h:∀x dx,H x=none->H dx=none->dx≠x->sp ((10,x)::(vs++dvs)) (cA (cA H dx (49,x)) x (.ins C dx [])) (λv H2=>v=.non/\Q (10,x) H2) E):
  (1,X.prog,X.w,X.A,call (10,C) us,EP X pins σ Q,X.xe,s):=by
 have hq:=h (s.heap.objs.size+1) [15] (I.hok.fresh (le_succ _)) (I.hok.fresh [23]) (ne_of_lt (lt_succ_self _));have I2:=aR.made (C:=C) I;have r2:Vals (V.ref (s.heap.objs.size+1)::(vs++dvs)) (Value.ref (s.heap.objs.size+1)::(us++ds)):=.cons rfl (r.append hd);have hl:(Value.ref (s.heap.objs.size+1)::us++ds).length=ps.length:=by
  have e:=r2.length;rw[F.len _ _ _ _ hq] at e;exact e.symm
 refine wpAny_call (Js (f:=f) I.kIn M.makes M.init (beq_iff_eq.mp M.fn) (codeAny_mono (F.run _ X.stack _ _ (5,Value.ref (s.heap.objs.size+1)::us,[]) (Value.ref (s.heap.objs.size+1)::(us++ds)) _ _ E (hr.make C us [])
  (I2.env0.make C us []) (hb _ (Value.ref (s.heap.objs.size+1)::us) I2.kIn hl) r2 hq) λr s' hq'=>?_))
 cases r with
 |error e=>exact hx pins σ _ _ e s' I2 hq'
 |ok fl=>
  cases fl with
  |ret u=>
   obtain⟨v,H',I3,rv,ev,q3⟩:=I2.after hq';subst ev;exact(5,rv,⟨V.ref (s.heap.objs.size+1),H',I3,rfl,q3⟩)
  |next=>exact False.elim hq'
  |brk=>exact False.elim hq'
  |cont=>exact False.elim hq'
theorem Lp(M:Mk X.K C f)(F:dE X.prog X.w X.K X.mg X.base CX k f fd ps sp)(hr:cG (k+1) X.A)(hg:Gl X x)(hm:X.mg x=(6,(10,C)))(hb:dj X.K fd ps ds)(hd:Vals dvs ds)(hx:nJ CX X E)
  (ha:PA X (e::es) t) (hdb:(x == ("__debug__":Str))=false:=by decide) (he:(7,(e::es))=(false,(16,e))::(7,es):=by rfl) (hpl:(10,pos,es).any (·.1)=false:=by rfl):
  PE X (15,(6,x,p),(e::es),pos) (MQ C sp dvs E t):=by
 intro pins s σ H Q I h;refine wpAny_Call_Name_kw (mh I hg hm ?_ hdb);refine PySem.W.callWith_K (h₀:=X.base) I.ok.mod.kin M.kp (df (ha pos pins s σ H _ I h) λus s1 ⟨vs,H1,I1,r,q⟩=>(5,I1.kIn,?_)) he hpl;exact Be M F hr hb hd hx I1 r q
theorem IM(M:Mk X.K C f)(F:dE X.prog X.w X.K X.mg X.base CX k f fd ps sp)(hr:cG (k+1) X.A)(hg:Gl X x)(hm:X.mg x=(6,(10,C)))(hb:dj X.K fd ps ds)(hd:Vals dvs ds)(hx:nJ CX X E)
  (hdb:(x == ("__debug__":Str))=false:=by decide):PE X (15,(6,x,p),[],pos) (MQ C sp dvs E L5):=by
 intro pins s σ H Q I h;refine wpAny_Call_Name_kw (mh I hg hm ?_ hdb);exact PySem.W.callWith_K0 I.kIn M.kp (Be (us:=[]) M F hr hb hd hx I .nil h)
end
structure aw(N P:List Str)(sc:Scope):Prop where
 kind:sc.kind=.function
 co:sc.isCoroutine=false
 gen:sc.isGenerator=false
 nd:N.Nodup
 pre:N.take P.length=P
 par:∀x∈P,sc.names.lookup x=(6,.local)\/sc.names.lookup x=(6,.cell)
 nofree:∀y∈sc.names,y.2≠.free
theorem yn{kindOf:Str->(9,NameKind)}{x:Str}:∀{binds:List (Str×Value)}{m:Str->[26]},(∀v,(x,v)∉binds)->bindL kindOf binds m x=m x
 |[],_,_=>rfl
 | (n,v)::r,m,h=>by
  unfold bindL;rw[yn λw hw=>h w (31,hw)];split
  ·have:x≠n:=by rintro rfl;exact h v mem_cons_self
   simp[this]
  ·rfl
theorem yp{kindOf:Str->(9,NameKind)}{x:Str}:∀{binds:List (Str×Value)}{m:Str->[26]},(∀v,(x,v)∉binds)->bindC kindOf binds m x=m x
 |[],_,_=>rfl
 | (n,v)::r,m,h=>by
  unfold bindC;rw[yp λw hw=>h w (31,hw)];split
  ·rfl
  ·have:x≠n:=by rintro rfl;exact h v mem_cons_self
   simp[this]
theorem yo{kindOf:Str->(9,NameKind)}{x:Str}{v:Value}:∀{P:[16]}{vs:[19]}{i:Nat}{m:Str->[26]},P.Nodup->P[i]?=(6,x)->vs[i]?=(6,v)->kindOf x=(6,.local)->
  bindL kindOf (P.zip vs) m x=(6,v)
 |[],_,_,_,_,h,_,_=>by simp at h
 |_::_,[],_,_,_,_,h,_=>by simp at h
 |p::P,w::vs,0,m,nd,h1,h2,hk=>by
  simp at h1 h2;subst h1;subst h2;show bindL kindOf ((p,w)::P.zip vs) m p=_;unfold bindL;rw[yn λv hv=>(nodup_cons.mp nd).1 (of_mem_zip hv).1,(39,hk)];simp
 |p::P,w::vs,i+1,m,nd,h1,h2,hk=>by
  show bindL kindOf ((p,w)::P.zip vs) m x=_;unfold bindL;exact yo (i:=i) (nodup_cons.mp nd).2 (by simpa using h1) (by simpa using h2) hk
theorem yq{kindOf:Str->(9,NameKind)}{x:Str}{v:Value}:∀{P:[16]}{vs:[19]}{i:Nat}{m:Str->[26]},P.Nodup->P[i]?=(6,x)->vs[i]?=(6,v)->kindOf x≠(6,.local)->
  bindC kindOf (P.zip vs) m x=(6,v)
 |[],_,_,_,_,h,_,_=>by simp at h
 |_::_,[],_,_,_,_,h,_=>by simp at h
 |p::P,w::vs,0,m,nd,h1,h2,hk=>by
  simp at h1 h2;subst h1;subst h2;show bindC kindOf ((p,w)::P.zip vs) m p=_;unfold bindC;rw[yp λv hv=>(nodup_cons.mp nd).1 (of_mem_zip hv).1,(42,hk)];simp
 |p::P,w::vs,i+1,m,nd,h1,h2,hk=>by
  show bindC kindOf ((p,w)::P.zip vs) m x=_;unfold bindC;exact yq (i:=i) (nodup_cons.mp nd).2 (by simpa using h1) (by simpa using h2) hk
def start(N:[16])(vs:List V):St:=vs.map some++replicate (N.length - vs.length) none
def pU(CX:G0)(P:Program)(w:World)(K:Frag)(mg:Str->[26])(base:Heap)(N:[16])(qual:Str)(scope:Scope)(f:Addr)(cd:Value)(A:Around)(outer:List Env)(s:Shared)(H:Hp)(E:XK):Cx where
 prog:=P
 w:=w
 K:=K
 mg:=mg
 base:=base
 A:=A.deeper (envOfC qual scope [15] f cd)
 N:=N
 s₀:=s
 H₀:=H
 env:=envOfC qual scope [15] f cd
 outer:=outer
 stack:=envOfC qual scope [15] f cd::outer
 ex:=[]
 calm:=true
 fn:=λ_=>true
 pn:=[]
 xe:=λe s'=>(1,P,w,A.deeper (envOfC qual scope [15] f cd),leaving (envOfC qual scope [15] f cd) e,(λ_ s''=>CX outer H s E e s''),(λe' s''=>CX outer H s E e' s''),s')
theorem CU{sc:Scope}{n:Nat}{x:Str}(h:sc.names.lookup x=(6,.cell)):∃c,(cellsFrom n sc.names []).lookup x=(6,c):=by
 have q:=PySem.W.cellsFrom_some sc.names n [] (.inl h);exact Option.isSome_iff_exists.mp q
theorem Ho{CX:G0}{P:Program}{w:World}{K:Frag}{mg:Str->[26]}{base:Heap}{N ps:[16]}{qual:Str}{scope:Scope}{f:Addr}{cd:Value}{A:Around}{outer:List Env}{s s1:Shared}{H:Hp}{E:XK}{us:[19]}{vs:List V}
  (S:aw N ps scope) (hd:A.handled=none) (e0:xw P w K mg base A outer s H) (hl:vs.length=ps.length) (r:Vals vs us)
  (x:InCallC s [15] (bindL (envOfC qual scope [15] f cd).kindOf (ps.zip us) λ_=>none) (cellsFrom (s.heap.objs.size+1) scope.names []) (bindC (envOfC qual scope [15] f cd).kindOf (ps.zip us) λ_=>none) s1):
  aR (pU CX P w K mg base N qual scope f cd A outer s H E) [] (start N vs) H s1:=by
 have hpl:ps.length<=N.length:=by have:=congrArg List.length S.pre;rw[length_take] at this;omega
 obtain⟨h1,tk,rfl,hk⟩:=x.done;have noA:∀b:Addr,b∉(pU CX P w K mg base N qual scope f cd A outer s H E).ex:=λb z=>absurd (show b∈([]:List Addr) from z) [20]
 refine⟨⟨e0.mod,S.kind,rfl,rfl,[23],λy z c h1 h2=>?_,λy hy=>?_,λy c _ h=>?_,λ_=>hd,Around.frames_deeper e0.frames,.inr (5,rfl,rfl),λb z=>absurd z (noA b),e0.bs,e0.bsz,λb _ _=>noA b,λb z=>absurd z (noA b),e0.funs,e0.frf⟩,
  rfl,e0.bare,Un.kept hk,(12,_,x.toInCall.ns,λi y v h1 h2 h3=>?_),λy c h=>(5,_,x.cell y c h),e0.hok.fresh [23],λy c h=>?_,λp hp=>absurd (show p∈([]:[18]) from hp) [20],e0.hok.kept hk,?_⟩
 ·exact name_of_addr x.apart (PySem.mem_of_lookup h1) (PySem.mem_of_lookup h2)
 ·have hy:scope.names.lookup y=(6,.cell)\/scope.names.lookup y=(6,.free):=hy;rcases hy with hy|hy
  ·exact CU hy
  ·exact absurd rfl (S.nofree _ (PySem.mem_of_lookup hy))
 ·exact le_of_lt (x.above y c (PySem.mem_of_lookup h))
 ·have hi:i<vs.length:=by
   unfold start at h2;by_cases hi:i<vs.length
   ·exact hi
   ·rw[(47,by simpa using hi)] at h2
    rw[getElem?_replicate] at h2;split at h2 <;> cases h2
  have ha:vs[i]?=(6,v):=by
   unfold start at h2;rw[(44,by simpa using hi),getElem?_map] at h2
   cases e:vs[i]? with
   |none=>rw[e] at h2;cases h2
   |some a=>rw[e] at h2;cases h2;rfl
  obtain⟨u,hu,rv⟩:=r.get ha;have hp:ps[i]?=(6,y):=by
   rw[←S.pre,List.getElem?_take_of_lt [11]];exact h1
  have ndP:ps.Nodup:=by rw[←S.pre];exact S.nd.sublist (List.take_sublist _ _)
  refine(12,u,rv,?_);rcases S.par y (mem_of_getElem? hp) with k|k
  ·exact .inl (5,k,yo ndP hp hu k)
  ·obtain⟨c,e⟩:=CU (n:=s.heap.objs.size+1) k;refine .inr (9,.inl k,c,e,?_);have q:=x.cell y c e;rw[yq ndP hp hu (by show scope.names.lookup y≠_;rw[k];decide)] at q
   exact q
 ·exact e0.hok.fresh (le_of_lt (x.above y c (PySem.mem_of_lookup h)))
 ·unfold start;show _=N.length;rw[length_append,length_map,length_replicate];omega
theorem K3{CX:G0}{P:Program}{w:World}{K:Frag}{mg:Str->[26]}{base:Heap}{k:Nat}{f:Addr}{name qual:Str}{params:Arguments}{body:List Stmt}{scope:Scope}{dV kV doc pm cdv ct oc:Value}{an od:(9,Addr)}
  {osl:Array [26]} {N ps:[16]} {sp:Sp} (lk:K.lookup f=(6,(9,oc,od,.func (1,name,qual,params,body,scope,dV,kV,pm,an,cdv,ct),osl))) (hcd:codeIn K cdv qual=true) (S:aw N ps scope)
  (len:∀vs H Q E,sp vs H Q E->vs.length=ps.length)
  (hbody:∀(A:Around)(outer:List Env)(s:Shared)(H:Hp)(vs:List V)(Q:VK)(E:XK),cG k (A.deeper (envOfC qual scope [15] f cdv))->sp vs H Q E->
   ∃t,sI (pU CX P w K mg base N qual scope f cdv A outer s H E) body t/\t {nx:=λ_ H'=>Q .non H',rt:=Q} (start N vs) H):
  dE P w K mg base CX (k+1) f (1,name,qual,params,body,scope,dV,kV,pm,an,cdv,ct) ps sp:=by
 refine(5,len,λA outer s H args us vs Q E hr e0 hb r hsp=>?_);have hl:=len _ _ _ _ hsp;have KX:K.In s.heap:=e0.mod.kin.keeps λb o e=>(e0.bs b o e).1;have lim:s.heap.NoLimit:=e0.mod.nolimit.keeps λb o e=>(e0.bs b o e).1;have hkind:∀y∈ps.zip us,scope.names.lookup y.1=(6,.local)\/(scope.names.lookup y.1=(6,.cell)/\((cellsFrom (s.heap.objs.size+1) scope.names []).lookup y.1).isSome=true):=λ⟨n,v⟩ hy=>by
  rcases S.par n (of_mem_zip hy).1 with q|q
  ·exact .inl q
  ·exact .inr (5,q,PySem.W.cellsFrom_some _ _ _ (.inl q))
 refine codeAny_call_function hr.depth (KX _ _ lk) rfl S.co S.gen rfl (PySem.W.codeRec_of KX hcd) (hb _ _ _ _ ?_);refine wpAny_newFunctionEnv_cells S.kind hkind λenv he s1 x=>?_;subst he;refine(5,lim.keeps x.toInCall.keep,codeAny_func ?_);obtain⟨t,ht,hq⟩:=hbody A outer s H vs Q E (hr.deeper _) hsp;have I:aR (pU CX P w K mg base N qual scope f cdv A outer s H E) [] (start N vs) H s1:=Ho S hr.hd e0 hl r x;refine wpAny_mono (ht [] s1 (start N vs) H _ I hq) (λfl s' hs=>?_) λe s' hs=>hs;have fin:∀{σ':St}{H':Hp}{v:V}{u:Value},aR (pU CX P w K mg base N qual scope f cdv A outer s H E) [] σ' H' s'->bV v u->Q v H'->CE outer P w H s Q u s':=
  λ{σ' H' v u} J rv q=>⟨v,H',J.os,J.bare,J.base,J.hok,rv,q⟩
 cases fl with
 |ret u=>
  obtain⟨v,σ',H',J,rv,q⟩:=hs;exact fin J rv q
 |next=>
  obtain⟨σ',H',J,q⟩:=hs;exact fin (v:=V.non) (u:=Value.none) J rfl q
 |brk=>
  obtain⟨_,_,_,q⟩:=hs;exact False.elim q
 |cont=>
  obtain⟨_,_,_,q⟩:=hs;exact False.elim q
section
variable{X:Cx}{x:Str}{p pos:Pos}{e:Expr}{es:List Expr}{t:TA}{id T:String}{r:List V->Hp->VK->Prop}
def R9(r:List V->Hp->VK->Prop)(t:TA):TE:=λσ H Q=>t σ H λvs H1=>r vs H1 Q
theorem mS(hc:dh X (40,id) r)(hg:Gl X x)(hm:X.mg x=none)(hv:bootBuiltins x=(6,(40,id)))(ha:PA X (e::es) t)(hn:x ≠ "__name__" := by decide)(hdb:(x == ("__debug__":Str))=false:=by decide)
  (he:(7,(e::es))=(false,(16,e))::(7,es):=by rfl) (hpl:(10,pos,es).any (·.1)=false:=by rfl):PE X (15,(6,x,p),(e::es),pos) (R9 r t):=by
 intro pins s σ H Q I h;refine wpAny_Call_Name_kw (pO I hg hm hv ?_ hn hdb);exact PyProof.Rows.callWith_builtin1 (df (ha pos pins s σ H _ I h) λus s1 ⟨vs,H1,I1,r1,q1⟩=>hc pins s1 σ H1 vs us Q I1 r1 q1) he hpl
theorem o7(hc:dh X (52,T) r)(hg:Gl X x)(hm:X.mg x=none)(hv:bootBuiltins x=(6,(52,T)))(ha:PA X (e::es) t)(hn:x ≠ "__name__" := by decide)(hdb:(x == ("__debug__":Str))=false:=by decide)
  (he:(7,(e::es))=(false,(16,e))::(7,es):=by rfl) (hpl:(10,pos,es).any (·.1)=false:=by rfl):PE X (15,(6,x,p),(e::es),pos) (R9 r t):=by
 intro pins s σ H Q I h;refine wpAny_Call_Name_kw (pO I hg hm hv ?_ hn hdb);exact PyProof.Rows.callWith_type1 (df (ha pos pins s σ H _ I h) λus s1 ⟨vs,H1,I1,r1,q1⟩=>hc pins s1 σ H1 vs us Q I1 r1 q1) he hpl
end
end L2
namespace HT
open PySem PyProof.Rows
section
open PySem.SeqAt
open PySem.AutoSeq1 (wpAny_loadPart')
open PySem.MeetsSeq PySem.MeetsSeq2 PySem.MeetsSeq3
end
section
variable{prog:Program}{w:World}{A:Around}{E:Value->Shared->Prop}{s:Shared}
theorem cat_tup{t b:Addr}{vs ws:[19]}{Q:Value->Shared->Prop}(ht:IsTup s.heap t vs.toArray)(hb:IsTup s.heap b ws.toArray)(hv:vs≠[])
  (h1:ws=[]->Q (10,t) s) (h2:ws≠[]->Q (10,[15]) {s with heap:=s.heap.push {cls:=.type "tuple",data:=.seq (vs++ws).toArray}})
  (hsz:vs.length+ws.length<=sizeLine):(1,prog,w,A,binaryOp .Add (10,t) (10,b),Q,E,s):=by
 obtain⟨⟨cls,dd,data,sl⟩,ho,hc,n,hd⟩:=id ht;obtain⟨⟨cls2,dd2,data2,sl2⟩,ho2,hc2,n2,hd2⟩:=id hb;simp only at hc hd hc2 hd2;subst hc hd hc2 hd2;have e:vs.toArray++ws.toArray=(vs++ws).toArray:=by simp
 by_cases hw:ws=[]
 ·exact concat_meets (14,_,ho) (14,_,ho2) noFill_tuple_add seq_tuple_add PySem.F.slot_tuple_add PySem.F.entry_tuple_add (PySem.F.args_tuple_add_2 _ _)
   (tuple_addW1 t b vs.toArray ws.toArray n n2 dd dd2 sl sl2 (by simpa using hv) (by simp[hw])) (12,ho,ho2,h1 hw)
 ·refine concat_meets (14,_,ho) (14,_,ho2) noFill_tuple_add seq_tuple_add PySem.F.slot_tuple_add PySem.F.entry_tuple_add (PySem.F.args_tuple_add_2 _ _)
   (tuple_addW2 t b vs.toArray ws.toArray n n2 dd dd2 sl sl2 (by simpa using hv) (by simpa using hw) (by rw[size_toArray,size_toArray];exact hsz)) (12,ho,ho2,?_)
  rw[e];exact h2 hw
noncomputable def sIx(n d:Nat):(9,Int)->Nat
 |none=>d
 |some v=>if v<0 then(v+(n:Int)).toNat else min v.toNat n
theorem Nv(n d:Nat)(hd:d<=n)(o:(9,Int)):sIx n d o<=n:=by
 cases o with
 |none=>exact hd
 |some v=>
  show(if v<0 then(v+(n:Int)).toNat else min v.toNat n)<=n;by_cases hv:v<0
  ·rw[(39,hv)];omega
  ·rw[(42,hv)];exact Nat.min_le_right _ _
theorem FU(v:Int)(n d:Nat):(if v<0 then max (v+(n:Int)) 0 else min v (n:Int))=((sIx n d (6,v):Nat):Int):=by
 show(if v<0 then max (v+(n:Int)) 0 else min v (n:Int))=(((if v<0 then(v+(n:Int)).toNat else min v.toNat n):Nat):Int);by_cases hv:v<0
 ·simp only[(39,hv)];omega
 ·simp only[(42,hv)];omega
theorem F0(lo hi:(9,Int))(n:Nat):Builtin.Slice.sliceAdjust lo hi 1 (n:Int)=(((sIx n 0 lo:Nat):Int),((sIx n n hi:Nat):Int)):=by
 have h1:¬((1:Int)<0):=by omega
 unfold Builtin.Slice.sliceAdjust;simp only[h1,if_false];refine Prod.ext ?_ ?_
 ·cases lo with
  |none=>rfl
  |some v=>exact FU v n 0
 ·cases hi with
  |none=>rfl
  |some v=>exact FU v n n
theorem DT(i j:Nat):Builtin.Slice.slicePlaces (i:Int) (j:Int) 1=j - i:=by
 unfold Builtin.Slice.slicePlaces;have h1:(1:Int) > 0:=by omega
 simp only[h1,if_true,Int.ediv_one];split <;> omega
theorem uD{v:Value}{o:(9,Int)}{Q:(9,Int)->Shared->Prop}(p:IsPart v o)(h:Q o s):(1,prog,w,A,Builtin.Slice.slicePartIndex v,Q,E,s):=by
 cases p with
 |none=>exact slicePart_none h
 |int i t=>exact slicePart_int h
theorem rB{sl:Addr}{vl vu:Value}{lo hi:(9,Int)}{n:Nat}{Q:Int×Int×Nat->Shared->Prop}(hs:s.heap.IsSliceOf sl vl vu .none)(pl:IsPart vl lo)(pu:IsPart vu hi)
  (h:Q (((sIx n 0 lo:Nat):Int),1,sIx n n hi - sIx n 0 lo) s):(1,prog,w,A,Builtin.Slice.sliceApplied (10,sl) (pure (n:Int)),Q,E,s):=by
 obtain⟨os,hos,hcs,hds⟩:=id hs;unfold Builtin.Slice.sliceApplied Builtin.Slice.sliceFields;refine(3,(3,wpAny_field hos hds (x:=vl) rfl (3,wpAny_field hos hds (x:=vu) rfl (3,wpAny_field hos hds (x:=.none) rfl (8,?_)))));refine(3,slicePart_none ?_);show wpAny _ _ (if((1:Int) == 0)=true then _ else _) _ _ s;rw[(42,[12])]
 refine(3,uD pl (3,uD pu (3,(8,?_))));show wpAny _ _ (match Builtin.Slice.sliceAdjust lo hi 1 (n:Int) with|(lo,hi)=>pure (lo,(1:Int),Builtin.Slice.slicePlaces lo hi 1)) _ _ s
 rw[F0 lo hi n];show wpAny _ _ (pure (((sIx n 0 lo:Nat):Int),(1:Int),Builtin.Slice.slicePlaces ((sIx n 0 lo:Nat):Int) ((sIx n n hi:Nat):Int) 1)) _ _ s;rw[DT];exact(8,h)
theorem IK(xs:Array Value)(i k:Nat):((23,k).filterMap λ(m:Nat)=>xs[((i:Int)+(m:Int) * 1).toNat]?).toArray=((xs.toList.drop i).take k).toArray:=by
 have e:(λ(m:Nat)=>xs[((i:Int)+(m:Int) * 1).toNat]?)=λm=>xs[i+m]?:=by
  funext m;have:((i:Int)+(m:Int) * 1).toNat=i+m:=by omega
  rw[this]
 rw[e];have:=pick_run xs i k;rw[List.filterMap_map] at this;have e2:((λx=>xs[x]?) ∘ λx=>i+x)=λm=>xs[i+m]?:=rfl;rw[e2] at this;rw[this]
theorem getItem_tuple_cut{t sl:Addr}{items:Array Value}{vl vu:Value}{lo hi:(9,Int)}{Q:Value->Shared->Prop}(ht:IsTup s.heap t items)(hs:s.heap.IsSliceOf sl vl vu .none)(pl:IsPart vl lo)(pu:IsPart vu hi)
  (hw:¬(sIx items.size 0 lo=0/\sIx items.size items.size hi=items.size))
  (h:Q (10,[15]) {s with heap:=s.heap.push {cls:=.type "tuple",data:=.seq ((items.toList.drop (sIx items.size 0 lo)).take (sIx items.size items.size hi - sIx items.size 0 lo)).toArray}})
  (hsz:items.size<=sizeLine):(1,prog,w,A,getItem (10,t) (10,sl),Q,E,s):=by
 have htake:sizeOk (.seq ((items.toList.drop (sIx items.size 0 lo)).take (sIx items.size items.size hi - sIx items.size 0 lo)).toArray):=by
  show((items.toList.drop (sIx items.size 0 lo)).take (sIx items.size items.size hi - sIx items.size 0 lo)).toArray.size<=sizeLine;rw[size_toArray,length_take,length_drop,length_toList];omega
 have hj:sIx items.size items.size hi<=items.size:=Nv _ _ [23] hi;obtain⟨os,hos,hcs,hds⟩:=id hs;have hTs:s.TypeIs (10,sl) "slice" := (12,os,hos,hcs);unfold getItem
 try with_reducible refine wpAny_holding ?_
 first|refine(3,(8,?_))|skip
 refine(3,wpAny_sequenceKey ht.typeIs [12] ?_)
 refine wpAny_bind (wpAny_callSpecial?_slot (name:=(26,"__getitem__")) ht.typeIs PyProof.Rows.slot_tuple_getitem
  (wpAny_call_entry PyProof.Rows.slot_tuple_getitem ht.typeIs entry_tuple_getitem ?_ (args_tuple_getitem _ _)))
 show wpAny _ _ (Builtin.Tuple.tupleItemsOf (10,t) >>= _) _ _ s;refine(3,tupleItemsOf_ ht ?_);refine(3,wpAny_typeOf hTs ?_);rw[(39,[12])]
 refine(3,rB hs pl pu ?_);have hno:¬((((sIx items.size 0 lo:Nat):Int) == 0 && (1:Int) == 1 && (sIx items.size items.size hi - sIx items.size 0 lo) == items.size)=true):=by
  intro q;rw[Bool.and_eq_true,Bool.and_eq_true] at q;have q1:((sIx items.size 0 lo:Nat):Int)=0:=eq_of_beq q.1.1;have q2:sIx items.size items.size hi - sIx items.size 0 lo=items.size:=eq_of_beq q.2;exact hw (53,by omega)
 show wpAny _ _ (if(((sIx items.size 0 lo:Nat):Int) == 0 && (1:Int) == 1 && (sIx items.size items.size hi - sIx items.size 0 lo) == items.size)=true then _ else _) _ _ s;rw[(42,hno),IK]
 first
  |exact(18,Builtin.Tuple.tupleExact _,wpAny_newObj_type (8,(12,_,rfl,(8,h))) htake)
  |exact(18,Builtin.Tuple.tupleExact _,wpAny_newObj_type (3,(8,(8,(12,_,rfl,(8,h))))) htake)
  |exact(3,(18,Builtin.Tuple.tupleExact _,wpAny_newObj_type (8,(8,(12,_,rfl,(8,h)))) htake))
  |exact(3,(18,Builtin.Tuple.tupleExact _,wpAny_newObj_type (8,(12,_,rfl,(8,h))) htake))
end
end HT
namespace L2
open PySem PySem.Spec PyProof.Rows
abbrev TO:=St->Hp->((9,Int)->Hp->Prop)->Prop
def PO(X:Cx)(e:(9,Expr))(t:TO):Prop:=
 ∀(pins:[18])(s:Shared)(σ:St)(H:Hp)(Q:(9,Int)->Hp->Prop),(20,H,s)->t σ H Q->
  (1,X.prog,X.w,X.A,evalPart e X.env,(λu s'=>∃o H',(20,H',s')/\IsPart u o/\Q o H'),X.xe,s)
def Fg:TO:=λ_ H Q=>Q none H
def MO(t:TE):TO:=λσ H Q=>t σ H λx H1=>∃i,x=(4,i)/\Q (6,i) H1
theorem Ew{ns:[22]}:∀{us:[19]},Vals (ns.map V.int) us->IntsAre us ns:=by
 induction ns with
 |nil=>intro us r;rw[map_nil] at r;cases r;exact .nil
 |cons n ns ih=>
  intro us r;rw[map_cons] at r;cases r with
  |cons r1 r2=>
   obtain⟨t,e⟩:=r1;subst e;exact .cons n t (ih r2)
section
variable{X:Cx}{e:Expr}{te:TE}{lo hi:Option Expr}{tl th:TO}{pos p2:Pos}
theorem Ln:PO X none Fg:=by
 intro pins s σ H Q I h;rw[evalPart_none];exact(8,⟨none,H,I,.none,h⟩)
theorem Lm(h:PE X e te):PO X (6,e) (MO te):=by
 intro pins s σ H Q I hw;rw[evalPart_some];refine df (h pins s σ H _ I hw) λu s1 ⟨x,H1,I1,r1,q1⟩=>?_;obtain⟨i,rfl,q⟩:=q1;obtain⟨t,rfl⟩:=r1;exact⟨(6,i),H1,I1,.int i t,q⟩
def Nd(X:Cx)(r:V->(9,Int)->(9,Int)->Hp->VK->Prop):Prop:=
 ∀(pins:[18])(s:Shared)(σ:St)(H:Hp)(x:V)(v vl vu:Value)(lo hi:(9,Int))(sl:Addr)(Q:VK),(20,H,s)->bV x v->s.heap.IsSliceOf sl vl vu .none->IsPart vl lo->IsPart vu hi->r x lo hi H Q->
  ∃T id,typeLookup (52,T) "__getitem__" = pure (6,(40,id))/\s.TypeIs v T/\(1,X.prog,X.w,X.A,getItem v (10,sl),EP X pins σ Q,X.xe,s)
theorem Nd.or{r r':V->(9,Int)->(9,Int)->Hp->VK->Prop}(h:Nd X r)(h':Nd X r'):Nd X (λx lo hi H Q=>r x lo hi H Q\/r' x lo hi H Q):=by
 intro pins s σ H x v vl vu lo hi sl Q I rx hs pl pu q;rcases q with q|q
 ·exact h pins s σ H x v vl vu lo hi sl Q I rx hs pl pu q
 ·exact h' pins s σ H x v vl vu lo hi sl Q I rx hs pl pu q
def Rh(r:V->(9,Int)->(9,Int)->Hp->VK->Prop)(te:TE)(tl th:TO):TE:=λσ H Q=>te σ H λx H1=>tl σ H1 λl H2=>th σ H2 λu H3=>r x l u H3 Q
theorem IL{r:V->(9,Int)->(9,Int)->Hp->VK->Prop}(hr:Nd X r)(he:PE X e te)(hl:PO X lo tl)(hu:PO X hi th):PE X (.Subscript e (.Slice lo hi none p2) pos) (Rh r te tl th):=by
 intro pins s σ H Q I h;refine Subscript_ (df (he pins s σ H _ I h) λv s1 ⟨x,H1,I1,r1,q1⟩=>?_);refine wpAny_Slice (df (hl pins s1 σ H1 _ I1 q1) λvl s2 ⟨l,H2,I2,pl,q2⟩=>df (hu pins s2 σ H2 _ I2 q2) λvu s3 ⟨u,H3,I3,pu,q3⟩=>?_);rw[evalPart_none];refine(8,?_);have I4:aR X pins σ H3 {s3 with heap:=s3.heap.push {cls:=.type "slice",data:=.fields #[vl,vu,.none]}}:=I3.kept (t':=s3.toks) λb ob q=>(14,q);obtain⟨T,id,hT,ht,hg⟩:=hr pins {s3 with heap:=s3.heap.push {cls:=.type "slice",data:=.fields #[vl,vu,.none]}} σ H3 x v vl vu l u s3.heap.objs.size Q I4 r1 (Heap.IsSliceOf.new ..) pl pu q3;show wpAny (model X.prog X.w) X.A (subscriptTail e (.Slice lo hi none p2) v (10,s3.heap.objs.size)) (EP X pins σ Q) X.xe {s3 with heap:=s3.heap.push {cls:=.type "slice",data:=.fields #[vl,vu,.none]}};exact tail_any (ops:=[(10,s3.heap.objs.size),v]) ht hT hg (by with_unfolding_all rfl)
def CP(xs:List V)(lo hi:(9,Int)):List V:=(xs.drop (HT.sIx xs.length 0 lo)).take (HT.sIx xs.length xs.length hi - HT.sIx xs.length 0 lo)
theorem sC(xs:List V)(lo hi:(9,Int)):(CP xs lo hi).length<=xs.length:=by
 unfold CP;rw[length_take,length_drop];omega
def QF(K:Frag):V->(9,Int)->(9,Int)->Hp->VK->Prop:=λx lo hi H Q=>∃a xs,x=(10,a)/\rh K H a xs/\
 ¬(HT.sIx xs.length 0 lo=0/\HT.sIx xs.length xs.length hi=xs.length)/\∀p,H p=none->Q (10,p) (cA H p (20,CP xs lo hi))
theorem Nt:Nd X (QF X.K):=by
 intro pins s σ H x v vl vu lo hi sl Q I rx hs pl pu h;obtain⟨a,xs,rfl,hx,hw,q⟩:=h;cases rx;obtain⟨its,r,ht,hz⟩:=I.tuple hx;have hlen:its.toArray.size=xs.length:=by rw[size_toArray];exact r.length.symm
 refine⟨"tuple",_,PyProof.Rows.slot_tuple_getitem.lookup,ht.typeIs,?_⟩;refine HT.getItem_tuple_cut ht hs pl pu (by rw[hlen];exact hw) ?_ (by rw[hlen];exact hz)
 rw[hlen];refine⟨(10,[15]),_,I.laid (t':=s.toks) (o:=.tup (CP xs lo hi)) (λb ob q=>(14,q)) [23] ?_,rfl,q _ (I.hok.fresh [23])⟩;exact(9,le_trans (sC xs lo hi) hz,_,(r.drop (HT.sIx xs.length 0 lo)).take (HT.sIx xs.length xs.length hi - HT.sIx xs.length 0 lo),IsTup.new _ _)
def Pm(K:Frag):R2:=λx y H Q=>∃a b xs ys,x=(10,a)/\y=(10,b)/\rh K H a xs/\rh K H b ys/\xs≠[]/\xs.length+ys.length<=sizeLine/\
 (ys=[]->Q (10,a) H)/\(ys≠[]->∀p,H p=none->Q (10,p) (cA H p (20,(xs++ys))))
theorem Vals.nil_iff{xs:List V}{us:[19]}(r:Vals xs us):us=[]↔xs=[]:=by
 cases r with
 |_=>simp
theorem LA:(18,X,.Add,Pm X.K):=by
 intro pins s σ H x y v u Q I rx ry h;obtain⟨a,b,xs,ys,rfl,rfl,ha,hb,hx,hz,q1,q2⟩:=h;cases rx;cases ry;obtain⟨its,r1,p1,_⟩:=I.tuple ha;obtain⟨its2,r2,p2,_⟩:=I.tuple hb;refine HT.cat_tup p1 p2 (λz=>hx (r1.nil_iff.mp z)) (λz=>⟨(10,a),H,I,rfl,q1 (r2.nil_iff.mp z)⟩) (λz=>?_) (by rw[←r1.length,←r2.length];exact hz)
 refine⟨(10,[15]),_,I.laid (t':=s.toks) (o:=.tup (xs++ys)) (λb ob q=>(14,q)) [23] ?_,rfl,q2 (λw=>z (r2.nil_iff.mpr w)) _ (I.hok.fresh [23])⟩;exact(9,by rw[length_append];exact hz,_,r1.append r2,IsTup.new _ _)
end
def Ou(n:Nat)(i:Int):(9,Nat):=if 0<=i then(if i<n then(6,i.toNat) else none) else if -(n:Int)<=i then(6,(i+n).toNat) else none
def OP{α:Type}(xs:List α)(i:Int):(9,α):=(Ou xs.length i).bind λj=>xs[j]?
theorem FI{n:Nat}{i:Int}{j:Nat}(h:Ou n i=(6,j)):seqIndex? i n=(6,j)/\j<n/\-(n:Int)<=i/\i<n:=by
 unfold Ou at h;by_cases h0:0<=i
 ·rw[(39,h0)] at h;by_cases h1:i<n
  ·rw[(39,h1)] at h;have e:i.toNat=j:=Option.some.inj h;exact(9,by rw[seqIndex_of h0 h1,e],by omega,by omega,h1)
  ·rw[(42,h1)] at h;cases h
 ·rw[(42,h0)] at h;by_cases h1:-(n:Int)<=i
  ·rw[(39,h1)] at h;have e:(i+n).toNat=j:=Option.some.inj h;exact(9,by rw[seqIndex_neg [11] h1,e],by omega,h1,by omega)
  ·rw[(42,h1)] at h;cases h
theorem Aq{α:Type}{xs:List α}{i:Int}{v:α}(h:OP xs i=(6,v)):∃j,seqIndex? i xs.length=(6,j)/\xs[j]?=(6,v)/\j<xs.length/\-(xs.length:Int)<=i/\i<xs.length:=by
 unfold OP at h;cases e:Ou xs.length i with
 |none=>rw[e] at h;cases h
 |some j=>
  rw[e] at h;obtain⟨h1,h2,h3,h4⟩:=FI e;exact⟨j,h1,h,h2,h3,h4⟩
def Au(b:Expr):Prop:=∀o i,subscripted b false o i=operate [o,i] (getItem o i)
def KG(X:Cx)(r:R2):Prop:=
 ∀(value slice:Expr)(pins:[18])(s:Shared)(σ:St)(H:Hp)(x y:V)(v u:Value)(Q:VK),(20,H,s)->bV x v->bV y u->r x y H Q->
  subscripted slice false v u=operate [v,u] (getItem v u)->(1,X.prog,X.w,X.A,subscriptTail value slice v u,EP X pins σ Q,X.xe,s)
def P4(X:Cx)(id:String)(r:V->List V->Hp->VK->Prop):Prop:=
 ∀(pins:[18])(s:Shared)(σ:St)(H:Hp)(x:V)(xs:List V)(v:Value)(us:[19])(Q:VK),(20,H,s)->bV x v->Vals xs us->r x xs H Q->
  (1,X.prog,X.w,X.A,call (40,id) (v::us),EP X pins σ Q,X.xe,s)
section
variable{X:Cx}{a b:Expr}{ta tb:TE}{pos:Pos}
theorem KG.or{r r':R2}(h:KG X r)(h':KG X r'):KG X (λx y H Q=>r x y H Q\/r' x y H Q):=by
 intro value slice pins s σ H x y v u Q I rx ry q hs;rcases q with q|q
 ·exact h value slice pins s σ H x y v u Q I rx ry q hs
 ·exact h' value slice pins s σ H x y v u Q I rx ry q hs
theorem P4.or{id:String}{r r':V->List V->Hp->VK->Prop}(h:P4 X id r)(h':P4 X id r'):P4 X id (λx xs H Q=>r x xs H Q\/r' x xs H Q):=by
 intro pins s σ H x xs v us Q I rx rs q;rcases q with q|q
 ·exact h pins s σ H x xs v us Q I rx rs q
 ·exact h' pins s σ H x xs v us Q I rx rs q
theorem MX{r:R2}(hr:KG X r)(ha:PE X a ta)(hb:PE X b tb)(hs:Au b):PE X (.Subscript a b pos) (Pa r ta tb):=by
 intro pins s σ H Q I h;exact Subscript_ (ON ha hb I h λv u s2 x y H2 I2 rx ry q=>hr a b pins s2 σ H2 x y v u Q I2 rx ry q (hs _ _))
def QK(K:Frag):R2:=λx y H Q=>∃p xs i v,x=(10,p)/\y=(4,i)/\pA K H p xs/\OP xs i=(6,v)/\Q v H
def QI(K:Frag):R2:=λx y H Q=>∃p xs i v,x=(10,p)/\y=(4,i)/\rh K H p xs/\OP xs i=(6,v)/\Q v H
def QJ:R2:=λx y H Q=>∃z i c,x=.str z/\y=(4,i)/\z.length<=sizeLine/\OP z.cps.toList i=(6,c)/\Q (.str ⟨#[c]⟩) H
theorem M1:KG X (QK X.K):=by
 intro value slice pins s σ H x y v u Q I rx ry h hs;obtain⟨p,xs,i,z,rfl,rfl,hq,he,q⟩:=h;cases rx;obtain⟨t,rfl⟩:=ry;obtain⟨its,r,pl,hz⟩:=I.list hq;obtain⟨j,h1,h2,h3,h4,h5⟩:=Aq he;obtain⟨w,ew,rw'⟩:=r.get h2;have hl:=r.length;have hn:=rK;have fin:EP X pins σ Q w s:=⟨z,H,I,rw',q⟩;by_cases h0:0<=i
 ·have hj:i.toNat=j:=by
   rw[seqIndex_of h0 h5] at h1;exact Option.some.inj h1
  exact item_listR pl.isList h0 [11] (by rw[hj];simpa using ew) fin hs
 ·have hj:(i+(its.toArray.size:Int)).toNat=j:=by
   rw[seqIndex_neg [11] h4] at h1
   rw[size_toArray,←hl];exact Option.some.inj h1
  exact subscriptTail_builtinR (x:=w) pl.isList.typeIs slot_list_getitem.lookup
   (wpAny_getItem_list_neg (Q:=λr s'=>r=w/\EP X pins σ Q r s') pl.isList [11] (by rw[size_toArray] <;> omega) [11] (by rw[hj];simpa using ew) (5,rfl,fin)) hs
theorem ix_tup:KG X (QI X.K):=by
 intro value slice pins s σ H x y v u Q I rx ry h hs;obtain⟨p,xs,i,z,rfl,rfl,hq,he,q⟩:=h;cases rx;obtain⟨t,rfl⟩:=ry;obtain⟨its,r,pl,hz⟩:=I.tuple hq;obtain⟨j,h1,h2,h3,h4,h5⟩:=Aq he;obtain⟨w,ew,rw'⟩:=r.get h2;have hl:=r.length;have hn:=rK;have fin:EP X pins σ Q w s:=⟨z,H,I,rw',q⟩;exact subscriptTail_builtinR (x:=w) pl.typeIs slot_tuple_getitem.lookup
  (getItem_tuple (j:=j) (Q:=λr s'=>r=w/\EP X pins σ Q r s') pl [11] [11] (by rw[size_toArray,←hl];exact h1) (by simpa using ew) (5,rfl,fin)) hs
theorem Ot:KG X QJ:=by
 intro value slice pins s σ H x y v u Q I rx ry h hs;obtain⟨z,i,c,rfl,rfl,hz,he,q⟩:=h;obtain⟨t,rfl⟩:=rx;obtain⟨t',rfl⟩:=ry;obtain⟨j,h1,h2,h3,h4,h5⟩:=Aq he;have hl:z.cps.toList.length=z.length:=by simp[Str.length]
 rw[hl] at h1 h4 h5;have hn:=rK;exact tail_any (typeIs_str s z t) slot_str_getitem.lookup (getItem_str (c:=c) (by
  have e1:decide (i < -(2 ^ 63:Int))=false:=(50,[11])
  have e2:decide (i ≥ 2 ^ 63)=false:=(50,[11])
  rw[e1,e2,Bool.or_false]) (by rw[h1];simpa using h2) ⟨.str ⟨#[c]⟩,H,I.tok _,(5,_,rfl),q⟩) hs
theorem Ei(its:[19])(n j:Nat)(u:Value):Obj.mapSeq (·.setIfInBounds j u) {cls:=.type "list",data:=.seq its.toArray n}={cls:=.type "list",data:=.seq (its.set j u).toArray n}:=by
 simp[Obj.mapSeq]
theorem aR.lst{pins:[18]}{σ:St}{H:Hp}{s:Shared}{p:Addr}{xs:List V}(I:(20,H,s))(h:H p=(6,(13,xs))):
  ∃(its:[19])(n:Nat),Vals xs its/\(25,p)=some {cls:=.type "list",data:=.seq its.toArray n}/\xs.length<=sizeLine:=by
 obtain⟨z,its,n,r,e⟩:=I.hok p _ h;exact⟨its,n,r,e,z⟩
theorem aR.lstUpd{pins:[18]}{σ:St}{H:Hp}{s:Shared}{p:Addr}{xs ys:List V}{its its':[19]}{n n':Nat}{f:Obj->Obj}(I:(20,H,s))(h:H p=(6,(13,xs)))
  (ho:(25,p)=some {cls:=.type "list",data:=.seq its.toArray n}) (hf:f {cls:=.type "list",data:=.seq its.toArray n}={cls:=.type "list",data:=.seq its'.toArray n'}) (r:Vals ys its') (hz:ys.length<=sizeLine) (t:Nat):
  aR X pins σ (cA H p (13,ys)) {s with heap:=s.heap.update p f,toks:=t}:=by
 have e:(s.heap.update p f).get? p=some {cls:=.type "list",data:=.seq its'.toArray n'}:=by
  rw[get?_update_self f ho (by rw[hf] <;> rfl),hf]
 refine I.write (x:=p) (e:=p) (by rw[h];trivial) (.inl rfl) (λb u hb q=>(17,_,_,hb).trans q) (5,_,e) ?_
 exact⟨hz,its',n',r,e⟩
def Pk:V->V->V->Hp->(Hp->Prop)->Prop:=λo i v H Q=>∃p xs k j,o=(10,p)/\i=(4,k)/\H p=(6,(13,xs))/\Ou xs.length k=(6,j)/\Q (cA H p (13,xs.set j v))
theorem Ir:Qf X Pk:=by
 intro pins s σ H o i v ov iv u Q I ro ri rv h;obtain⟨p,xs,k,j,rfl,rfl,hp,hj,q⟩:=h;cases ro;obtain⟨t,rfl⟩:=ri;obtain⟨its,n,r,ho,hz⟩:=I.lst hp;obtain⟨h1,h2,h3,h4⟩:=FI hj;have hl:=r.length;have hn:=rK;have I':aR X pins σ (cA H p (13,xs.set j v)) {s with heap:=s.heap.update p (Obj.mapSeq (·.setIfInBounds j u))}:=
  I.lstUpd hp ho (Ei its n j u) (r.set rv j) (by rw[length_set];exact hz) s.toks
 by_cases h0:0<=k
 ·have hk:k.toNat=j:=by
   rw[seqIndex_of h0 h4] at h1;exact Option.some.inj h1
  exact PySem.W.ki_setAt ho h0 [11] (by rw[size_toArray,←hl];exact h4) (by rw[hk];exact(12,_,I',q))
 ·have hk:(k+(its.toArray.size:Int)).toNat=j:=by
   rw[seqIndex_neg [11] h3] at h1
   rw[size_toArray,←hl];exact Option.some.inj h1
  exact PySem.W.ki_setBack ho [11] (by rw[size_toArray,←hl];exact h3) [11] (by rw[hk];exact(12,_,I',q))
theorem yQ(lo hi:(9,Int))(n:Nat):(sliceBounds lo hi none n).1=((HT.sIx n 0 lo:Nat):Int)/\(sliceBounds lo hi none n).2.1=((HT.sIx n n hi:Nat):Int)/\(sliceBounds lo hi none n).2.2=1:=by
 refine(14,?_,?_)
 ·cases lo with
  |none=>simp[sliceBounds,HT.sIx]
  |some i=>
   simp only[sliceBounds,HT.sIx,Option.getD_none,show(1:Int) > 0 by decide,if_true]
   by_cases h:i<0
   ·simp only[h,if_true] <;> omega
   ·simp only[h,if_false] <;> omega
 ·cases hi with
  |none=>simp[sliceBounds,HT.sIx]
  |some i=>
   simp only[sliceBounds,HT.sIx,Option.getD_none,show(1:Int) > 0 by decide,if_true]
   by_cases h:i<0
   ·simp only[h,if_true] <;> omega
   ·simp only[h,if_false] <;> omega
theorem wG(its:[19])(lo hi:(9,Int)):slicePick its.toArray lo hi none=((its.drop (HT.sIx its.length 0 lo)).take (HT.sIx its.length its.length hi - HT.sIx its.length 0 lo)).toArray:=by
 obtain⟨h1,h2,h3⟩:=yQ lo hi its.toArray.size;unfold slicePick;rw[h1,h2,h3];simp only[sliceRange_one,pick_run,size_toArray] <;> rfl
def QG(K:Frag):V->(9,Int)->(9,Int)->Hp->VK->Prop:=λx lo hi H Q=>∃a xs,x=(10,a)/\pA K H a xs/\∀p,H p=none->Q (10,p) (cA H p (13,CP xs lo hi))
theorem L8:Nd X (QG X.K):=by
 intro pins s σ H x v vl vu lo hi sl Q I rx hs pl pu h;obtain⟨a,xs,rfl,hx,q⟩:=h;cases rx;obtain⟨its,r,ht,hz⟩:=I.list hx;have hlen:=r.length;refine⟨"list",_,slot_list_getitem.lookup,ht.isList.typeIs,?_⟩;refine wpAny_getItem_list_slice ht.isList hs pl pu .none [20] ?_ (by rw[size_toArray] <;> omega)
 rw[wG,←hlen];refine⟨(10,[15]),_,I.laid (t':=s.toks) (o:=.lst (CP xs lo hi)) (λb ob q=>(14,q)) [23] ?_,rfl,q _ (I.hok.fresh [23])⟩;exact⟨le_trans (sC xs lo hi) hz,_,0,(r.drop (HT.sIx xs.length 0 lo)).take (HT.sIx xs.length xs.length hi - HT.sIx xs.length 0 lo),(35,_)⟩
theorem qZ:dh X (40,"len") (λxs H Q=>∃p ys,xs=[(10,p)]/\(pA X.K H p ys\/rh X.K H p ys)/\Q (4,ys.length) H):=by
 intro pins s σ H xs us Q I r h;obtain⟨p,ys,rfl,hq,q⟩:=h;obtain⟨u,rfl,rx⟩:=mx r;cases rx;have hn:=rK;rcases hq with hq|hq
 ·obtain⟨its,r',pl,hz⟩:=I.list hq;have hlen:=r'.length;exact Calls.call_len_list pl.isList (by simp only[size_toArray] <;> omega) ⟨(4,ys.length),H,I.tok _,(5,s.toks+1,by rw[size_toArray,hlen]),q⟩
 ·obtain⟨its,r',pl,hz⟩:=I.tuple hq;have hlen:=r'.length;exact len_tuple pl (by simp only[size_toArray] <;> omega) ⟨(4,ys.length),H,I.tok _,(5,s.toks+1,by rw[size_toArray,hlen]),q⟩
theorem Ao:dh X (40,"len") (λxs H Q=>∃z,xs=[.str z]/\z.length<=sizeLine/\Q (4,z.length) H):=by
 intro pins s σ H xs us Q I r h;obtain⟨z,rfl,hz,q⟩:=h;obtain⟨u,rfl,t,rfl⟩:=mx r;have hn:=rK;exact len_str [11] ⟨(4,z.length),H,I.tok _,(5,_,rfl),q⟩
theorem dh.or{f:Value}{r r':List V->Hp->VK->Prop}(h:dh X f r)(h':dh X f r'):dh X f (λxs H Q=>r xs H Q\/r' xs H Q):=by
 intro pins s σ H xs us Q I rs q;rcases q with q|q
 ·exact h pins s σ H xs us Q I rs q
 ·exact h' pins s σ H xs us Q I rs q
theorem qY:dh X (52,"list") (λxs H Q=>∃p ys,xs=[(10,p)]/\(pA X.K H p ys\/rh X.K H p ys)/\∀l,H l=none->Q (10,l) (cA H l (13,ys))):=by
 intro pins s σ H xs us Q I r h;obtain⟨p,ys,rfl,hq,q⟩:=h;obtain⟨u,rfl,rx⟩:=mx r;cases rx;have fin:∀(its:[19]),Vals ys its->ys.length<=sizeLine->∀(h':Heap)(c':Nat),(∀b o',(25,b)=(6,o')->h'.get? b=(6,o'))->
   h'.get? [15]=some {cls:=.type "list",dict:=none,data:=.seq its.toArray c',slots:=#[]}->EP X pins σ Q (10,[15]) {s with heap:=h'}:=λits r' hz h' c' kp e=>
  ⟨(10,[15]),_,I.laid (t':=s.toks) kp [23] (show cF X.prog X.w _ h' _ (13,ys) from⟨hz,its,c',r',e⟩),rfl,q _ (I.hok.fresh [23])⟩
 rcases hq with hq|hq
 ·obtain⟨its,r',pl,hz⟩:=I.list hq;have hlen:=r'.length;obtain⟨o,ho,hc,n,hd⟩:=pl.isList;exact call_list_seq p (.inl rfl) ho hc hd (λh' c' kp e=>fin its r' hz h' c' kp e) (by simp only[size_toArray] <;> omega)
 ·obtain⟨its,r',pl,hz⟩:=I.tuple hq;have hlen:=r'.length;obtain⟨o,ho,hc,n,hd⟩:=pl;exact call_list_seq p (.inr rfl) ho hc hd (λh' c' kp e=>fin its r' hz h' c' kp e) (by simp only[size_toArray] <;> omega)
theorem pd:dh X (52,"tuple") (λxs H Q=>∃p ys,xs=[(10,p)]/\((pA X.K H p ys/\∀l,H l=none->Q (10,l) (cA H l (20,ys)))\/(rh X.K H p ys/\Q (10,p) H))):=by
 intro pins s σ H xs us Q I r h;obtain⟨p,ys,rfl,h⟩:=h;obtain⟨u,rfl,rx⟩:=mx r;cases rx;rcases h with⟨hq,q⟩|⟨hq,q⟩
 ·obtain⟨its,r',pl,hz⟩:=I.list hq;have hlen:=r'.length;refine call_tuple_list pl.isList (λh' kp=>?_) (by simp only[size_toArray] <;> omega)
  have I1:aR X pins σ H {s with heap:=h'}:=I.kept (t':=s.toks) kp;have I2:aR X pins σ (cA H h'.objs.size (20,ys)) {s with heap:=h'.push {cls:=.type "tuple",data:=.seq its.toArray}}:=
   I1.laid (t':=s.toks) (λb o e=>(14,e)) [23] (show cF X.prog X.w _ _ _ (20,ys) from(9,hz,its,r',IsTup.new _ _))
  exact⟨(10,h'.objs.size),_,I2,rfl,q _ (I1.hok.fresh [23])⟩
 ·obtain⟨its,r',pl,hz⟩:=I.tuple hq;exact call_tuple_same pl ⟨(10,p),H,I,rfl,q⟩
def R8(K:Frag)(T:String)(x:V)(H:Hp):Prop:=match x with
 |.str _=>T = "str"
 |.int _=>T = "int"
 |.ref p=>(T = "list" /\ ∃xs,pA K H p xs)\/(T = "tuple" /\ ∃o,K.lookup p=(6,o)/\o.cls=(52,"tuple") /\ o.dict=none)\/
   (T = "dict" /\ ((∃kvs,H p=(6,.dK kvs))\/∃kvs,H p=(6,.dT kvs)))\/(T = "set" /\ ∃S n,H p=(6,.set S n))
 |_=>False
theorem Nl{pins:[18]}{σ:St}{H:Hp}{s:Shared}{T:String}{x:V}{v:Value}(I:(20,H,s))(r:bV x v)(ty:R8 X.K T x H):
  s.TypeIs v T/\∀a,v=(10,a)->∃ob,(25,a)=(6,ob)/\ob.dict=none:=by
 cases x with
 |str z=>
  obtain⟨t,rfl⟩:=r;cases (show T = "str" from ty);exact(5,typeIs_str s z t,λ_ e=>nomatch e)
 |int i=>
  obtain⟨t,rfl⟩:=r;cases (show T = "int" from ty);exact(5,typeIs_int s i t,λ_ e=>nomatch e)
 |ref p=>
  cases r;rcases ty with⟨rfl,xs,hq⟩|⟨rfl,o,hk,hc,hd⟩|⟨rfl,hk⟩|⟨rfl,S,n,hk⟩
  ·obtain⟨its,_,pl,_⟩:=I.list hq;refine(5,pl.isList.typeIs,λa e=>?_);cases e;obtain⟨o,n,e,c,hd,_⟩:=pl;exact(12,o,e,hd)
  ·refine(5,(12,o,I.kIn p o hk,hc),λa e=>?_);cases e;exact(12,o,I.kIn _ o hk,hd)
  ·have z:∃o,(25,p)=(6,o)/\o.ExactDict:=by
    rcases hk with⟨kvs,hk⟩|⟨kvs,hk⟩
    ·obtain⟨_,_,_,_,o,_,_,e,ex,_⟩:=I.hok p _ hk;exact(12,o,e,ex)
    ·obtain⟨_,_,_,_,o,_,_,e,ex,_⟩:=I.hok p _ hk;exact(12,o,e,ex)
   obtain⟨o,e,ex⟩:=z;refine(5,(12,o,e,ex.1),λa e2=>?_);cases e2;exact(12,o,e,ex.2.1)
  ·obtain⟨o,_,_,_,e,ex,_⟩:=I.hok p _ hk;refine(5,(12,o,e,ex.1),λa e2=>?_);cases e2;exact(12,o,e,ex.2.1)
 |_=>exact False.elim ty
def Rl(K:Frag)(T:String)(r:V->List V->Hp->VK->Prop)(to:TE)(t:TA):TE:=λσ H Q=>to σ H λx H1=>R8 K T x H1/\t σ H1 λxs H2=>r x xs H2 Q
variable{o e:Expr}{es:List Expr}{to:TE}{t:TA}{name:Str}{apos cpos:Pos}{T id:String}{r:V->List V->Hp->VK->Prop}
theorem MY(pa:PlainAttrs T)(slot:Slot T name id)(hty:typeOf (40,id)=pure (52,"method_descriptor"))(hm:P4 X id r)(ho:PE X o to)(ha:PA X (e::es) t)
  (hbase:attributeBase o name X.env (16,o)=(16,o):=by rfl)
  (hfew:((10,cpos,(e::es)).all (λx=>!x.1) && (backToKw cpos (keywordEach [] X.env)).all (λx=>x.1.isSome)
   && decide ((e::es).length+([]:List Keyword).length+(if([]:List Keyword).isEmpty then 0 else 1)<30))=true:=by rfl)
  (hline:(apos.endLine == cpos.line)=true:=by rfl) (hs:(7,(e::es))=(false,(16,e))::(7,es):=by rfl) (hplain:(10,cpos,es).any (·.1)=false:=by rfl):
  PE X (15,.Attribute o name apos,(e::es),cpos) (Rl X.K T r to t):=by
 intro pins s σ H Q I h;refine wpAny_Call_method_late hbase hfew hline rfl (df (ho pins s σ H _ I h) λv s1 ⟨x,H1,I1,r1,ty,q1⟩=>?_);obtain⟨h1,h2⟩:=Nl I1 r1 ty;refine⟨T,id,pa,slot,hty,h1,h2,?_⟩;have hA:=ha cpos pins s1 σ H1 _ I1 q1;rw[hs] at hA ⊢;refine Calls.callWith_builtin (by show(false || (10,cpos,es).any (·.1))=false;rw[hplain] <;> rfl) (Calls.evalArgs_plain ?_)
 exact df hA λus s2 ⟨vs,H2,I2,r2,q2⟩=>hm pins s2 σ H2 x vs v us Q I2 r1 r2 q2
end
def QZ(X:Cx)(id:String)(r:V->List V->Hp->VK->Prop):Prop:=
 ∀(pins:[18])(s:Shared)(σ:St)(H:Hp)(x:V)(xs:List V)(v:Value)(us:[19])(Q:VK),(20,H,s)->bV x v->Vals xs us->r x xs H Q->
  (1,X.prog,X.w,X.A,call (40,id) (v::us),EP X pins σ Q,X.xe,s)
theorem Vals.one:∀{x:V}{us:[19]},Vals [x] us->∃u,us=[u]/\bV x u
 |_,_,.cons r .nil=>(12,_,rfl,r)
theorem Vals.two:∀{x y:V}{us:[19]},Vals [x,y] us->∃u v,us=[u,v]/\bV x u/\bV y v
 |_,_,_,.cons r (.cons q .nil)=>⟨_,_,rfl,r,q⟩
theorem Vals.zero:∀{us:[19]},Vals [] us->us=[]
 |_,.nil=>rfl
theorem Vals.dropLast{xs:List V}{us:[19]}(h:Vals xs us):Vals xs.dropLast us.dropLast:=by
 induction h with
 |nil=>exact .nil
 |cons r t ih=>
  cases t with
  |nil=>exact .nil
  |cons q t'=>exact .cons r ih
theorem Vals.reverse{xs:List V}{us:[19]}(h:Vals xs us):Vals xs.reverse us.reverse:=by
 induction h with
 |nil=>exact .nil
 |cons r t ih=>rw[reverse_cons,reverse_cons];exact Vals.append ih (.cons r .nil)
theorem Vals.rep{xs:List V}{us:[19]}(h:Vals xs us):∀k:Nat,Vals (replicate k xs).flatten (replicate k us).flatten
 |0=>.nil
 |k+1=>by
  rw[replicate_succ,replicate_succ,flatten_cons,flatten_cons];exact Vals.append h (Vals.rep h k)
theorem yc(its:[19]):∀(k:Nat)(acc:[19]),
  List.foldl (λx1 x2=>x1++x2) acc.toArray (replicate k its.toArray)=(acc++(replicate k its).flatten).toArray
 |0,acc=>by simp
 |k+1,acc=>by
  have e:acc.toArray++its.toArray=(acc++its).toArray:=by simp
  have e2:(acc++its)++(replicate k its).flatten=acc++(replicate (k+1) its).flatten:=by
   rw[replicate_succ,flatten_cons,append_assoc]
  rw[←e2,←yc its k (acc++its),←e,replicate_succ,foldl_cons]
section
variable{X:Cx}{pins:List (Addr×Obj)}{σ:St}{H:Hp}{s:Shared}{l b:Addr}{xs ys zs:List V}
theorem aR.lset{its its':[19]}{n:Nat}{f:Array Value->Array Value}{t':Nat}(I:(20,H,s))(hH:H l=(6,(13,xs)))
  (e:(25,l)=some {cls:=.type "list",data:=.seq its.toArray n}) (hf:f its.toArray=its'.toArray) (hv:Vals ys its') (hz:ys.length<=sizeLine):
  aR X pins σ (cA H l (13,ys)) {s with heap:=s.heap.update l (Obj.mapSeq f),toks:=t'}:=by
 have q:=PySem.IsL.update e f;rw[hf] at q;refine I.write (x:=l) (e:=l) (by rw[hH];exact trivial) (.inl rfl) (λb' u hb hu=>(17,s.heap,Obj.mapSeq f,hb).trans hu) (5,_,q) ?_
 exact⟨hz,its',_,hv,q⟩
theorem aR.lnew{its:[19]}{t':Nat}(I:(20,H,s))(hv:Vals ys its)(hz:ys.length<=sizeLine):
  aR X pins σ (cA H [15] (13,ys)) {s with heap:=s.heap.push {cls:=.type "list",data:=.seq its.toArray},toks:=t'}:=
 I.laid (λ_ _ q=>(14,q)) [23] ⟨hz,its,0,hv,(35,_)⟩
theorem aR.fresh(I:(20,H,s)):H [15]=none:=I.hok.fresh [23]
theorem aR.lstM(I:(20,H,s))(hH:H l=(6,(13,xs))):xs.length<=sizeLine/\∃(its:[19])(n:Nat),Vals xs its/\xs.length=its.length/\(25,l)=some {cls:=.type "list",data:=.seq its.toArray n}:=by
 obtain⟨z,its,n,r,e⟩:=I.hok l _ hH;exact⟨z,its,n,r,r.length,e⟩
theorem vh{n:Nat}(h:n<=sizeLine):Builtin.List.listTooLong n=false:=by
 unfold Builtin.List.listTooLong;exact(50,[11])
end
section
variable{X:Cx}
def Lg:V->List V->Hp->VK->Prop:=λx vs H Q=>∃l xs y,x=(10,l)/\vs=[y]/\H l=(6,(13,xs))/\xs.length<sizeLine/\Q .non (cA H l (13,(xs++[y])))
theorem y0:QZ X "list.append" Lg:=by
 intro pins s σ H x vs v us Q I rx rv h;obtain⟨l,xs,y,rfl,rfl,hH,hz,q⟩:=h;cases rx;obtain⟨u,rfl,ru⟩:=rv.one;obtain⟨z,its,n,r,hl,e⟩:=I.lstM hH;refine call_meets F.slot_list_append (14,_,e) F.entry_list_append (F.args_list_append_2 _ _) (PySem.list_append l its.toArray n u (by rw[size_toArray];omega)) (5,e,?_)
 refine⟨.non,_,I.lset (its':=its++[u]) hH e [20] (r.append (.cons ru .nil)) ?_,rfl,q⟩
 rw[length_append,length_singleton];omega
def QH:R2:=λx y H Q=>∃l k xs,x=(10,l)/\y=(4,k)/\H l=(6,(13,xs))/\-(2 ^ 63)<=k/\k<2 ^ 63/\xs.length * k.toNat<=sizeLine/\
 ∀p,H p=none->Q (10,p) (cA H p (13,(replicate k.toNat xs).flatten))
theorem LY{α:Type}(xs:List α)(k:Nat):(replicate k xs).flatten.length=k * xs.length:=by
 induction k with
 |zero=>simp
 |succ k ih=>rw[replicate_succ,flatten_cons,length_append,ih,Nat.succ_mul,Nat.add_comm]
theorem NZ:(18,X,.Mult,QH):=by
 intro pins s σ H x y v u Q I rx ry h;obtain⟨l,k,xs,rfl,rfl,hH,h1,h2,hz,q⟩:=h;cases rx;obtain⟨t,rfl⟩:=ry;obtain⟨z,its,n,r,hl,e⟩:=I.lstM hH;have hlen:its.toArray.size * k.toNat<=sizeLine:=by rw[size_toArray,←hl];exact hz
 have hcap:¬its.toArray.size * k.toNat > (2 ^ 63 - 1) / 8:=by
  have:(sizeLine:Nat)<=(2 ^ 63 - 1) / 8:=by decide
  omega
 have hfit:¬(!Builtin.List.listFitsIndex k)=true:=by
  rw[fitsIndex_both h1 h2];exact Bool.false_ne_true
 have hlong:¬Builtin.List.listTooLong (its.toArray.size * k.toNat)=true:=by
  rw[vh hlen];exact Bool.false_ne_true
 have hnew:List.foldl (λx1 x2=>x1++x2) #[] (replicate (if its.toArray.isEmpty=true then 0 else k.toNat) its.toArray)=(replicate k.toNat its).flatten.toArray:=by
  have f0:∀m:Nat,List.foldl (λx1 x2=>x1++x2) #[] (replicate m its.toArray)=(replicate m its).flatten.toArray:=λm=>by
   have:=yc its m [];rw[nil_append] at this;exact this
  rw[f0];cases its with
  |nil=>simp
  |cons a r'=>rw[(42,[20])]
 refine wpAny_binaryOp_repeat_ref (T := "list") (U := "int") [12] (14,_,e) (λs'=>typeIs_int s' k t) noFill_list_mul F.fills_int_mul F.slot_int_rmul repeat_list F.slot_int_index.lookup
  (call_meets F.slot_int_rmul (typeIs_int s k t) F.entry_int_rmul (F.args_int_rmul_2 _ _) (int___rmul___int_list k t l its.toArray n)
   (9,e,rfl,(14,_,e),call_meets F.slot_list_mul (14,_,e) F.entry_list_mul (F.args_list_mul_2 _ _) (AutoListH.list___mul___list_int_3 l its.toArray n k t hfit hcap hlong) (5,e,?_)))
 rw[hnew];exact⟨(10,_),_,I.lnew (t':=s.toks) (r.rep k.toNat) (by rw[LY,Nat.mul_comm];exact hz),rfl,q _ I.fresh⟩
end
end L2
namespace Att
open PySem PySem.W PySem.Calls PyProof.Rows
theorem sV{P:Params}{h:Heap}:∀(ns:[22])(vs:[19]),WellAll P h vs (ns.map WData.int)->IntsAre vs ns:=by
 intro ns
 induction ns with
 |nil=>
  intro vs w;rw[map_nil] at w;cases w;exact .nil
 |cons n ns ih=>
  intro vs w;rw[map_cons] at w;cases w with
  |cons a b=>
   cases a;exact .cons _ _ (ih _ b)
theorem Gm{l:OpenLaw}{n:Nat}(hn:l.most=(6,n)){P:Params}{h:Heap}{args:List WData}{vals:[19]}
  (hpre:l.row.toRowW.claim.pre args=true) (hwl:WellAll P h vals args):
  ∃a vs ns,vals=[Value.ref a]/\args=[WData.list (ns.map WData.int)]/\h.get? a=some {cls:=.type "list",data:=.seq vs.toArray}/\IntsAre vs ns/\ns.length<=n:=by
 have hsh:WShape.hasAll [] args [.list .int]=true:=(pre_splitW hpre).1;have hc:l.pre.holds [] {args:=args}=true:=(pre_splitW hpre).2;obtain⟨d,r,rfl,h1,h2⟩:=hasAllW_cons hsh;obtain rfl:=hasAllW_nil h2;obtain⟨xs,rfl,h3⟩:=hasW_list h1;obtain⟨ns,rfl⟩:=items_int h3;have hlen:ns.length<=n:=by
  unfold OpenLaw.pre at hc;have h4:(WTm.not (.lt (.lit (.int (n:Int))) (.len (.arg 0)))).holds [] {args:=[.list (ns.map .int)]}=true:=by
   have h4:=(holds_andW hc).1;rw[hn] at h4;exact h4
  have h5:=condW_of h4 (w_not (w_lt w_lit (w_len_list (w_arg rfl))));rw[length_map] at h5;refine Nat.le_of_not_lt λq=>?_;have q':(n:Int)<((ns.length:Nat):Int):=by omega
  first
   | (rw[decide_eq_true q'] at h5;exact absurd h5 [12])
   | (simp at h5;omega)
 cases hwl with
 |cons w1 w2=>
  cases w2;cases w1 with
  |list ho hall=>exact⟨_,_,ns,rfl,rfl,ho,sV ns _ hall,hlen⟩
theorem GB(l:OpenLaw)(args:List WData):l.row.toRowW.claim.post args (.bool true) args=true:=
 postW_of (r:=l.row.toRowW) (X:=(true == true))
  (show WShape.has [] (.bool true) .bool=true by first|rfl|decide|simp[WShape.has,WShape.arms,WShape.armsAll])
  (show(WTm.eq .res (.lit (.bool true))).value [] {args:=args,res:=some (.bool true),after:=args}=(6,.bool (true == true)) from w_eq_bool (w_res rfl) w_lit) rfl
theorem attach_call{l:OpenLaw}{n:Nat}{q:Program}{loose:[16]}{XP:(Str->[26])->Heap->Prop}{YP:World->Heap->Prop}{d:DefRec}
  (hn:l.most=(6,n)) (hdf:d.params.defaults=[])
  (call:∀(w:World)(s₀ s₁:Shared)(mg mb:Str->[26])(fa:Addr)(o:Obj)(pm cd doc:Value)(a:Addr)(vs:[19])(ns:[22]),
   Ground q loose [] XP w s₀ mg mb s₁.heap->YP w s₁.heap->
   s₁.heap.get? fa=(6,o)->o.data=.func (docDef d.name d.params d.body d.scope pm cd doc)->s₁.heap.CodeRec cd d.name->mg d.name=(6,(10,fa))->
   s₁.heap.get? a=some {cls:=.type "list",data:=.seq vs.toArray}->IntsAre vs ns->ns.length<=n->s₁.gens=#[]->
   codeAny (model l.prog w) callerA (.call (10,fa) (5,[(10,a)],[])) (λr s'=>r=.ok (.ret (.bool true))/\OldK s₁.heap s'.heap/\s'.os=s₁.os/\AllBare s'.gens) s₁):
  WalkO q loose XP YP l.row.toRowW d [] (λf vs=>PySem.call f vs):=by
 intro w s₀ s₁ mg mb G Y fa o pm cd doc dV kV ho hd hcd hD hmg hg args vals as hpre hlay hrd hwl hlo;obtain rfl:dV=.none:=Dflts.none hD hdf;obtain rfl:kV=.none:=Dflts.noKw hD;obtain⟨a,vs,ns,rfl,rfl,hobj,hints,hlen⟩:=Gm hn hpre hwl;refine enter_call (codeAny_mono (call w s₀ s₁ mg mb fa o pm cd doc a vs ns G Y ho (fd_plain hd) hcd hmg hobj hints hlen hg) λr s' hq=>?_);obtain⟨rfl,h2,h3,h4⟩:=hq;exact(9,.inl ⟨.bool true,.bool true,[],rfl,λ_=>rfl,.bool true,GB l _,λ_=>(5,List.Pairwise.nil,λ_ hm=>(nomatch hm))⟩,h2,h3,h4)
section
variable{prog:Program}{w:World}{A:Around}{E:Value->Shared->Prop}{s:Shared}{K:Frag}
def QP(h:Heap)(L d:Addr):[18]:=(23,h.objs.size).filterMap λa=>if a=L\/a=d then none else(h.get? a).map λo=>(a,o)
end
end Att
namespace L2
open PySem PySem.Spec PyProof.Rows
theorem xB:∀{vs:[19]}{ns:[22]},IntsAre vs ns->Vals (ns.map V.int) vs
 |_,_,.nil=>.nil
 |_,_,.cons n t h=>.cons (5,t,rfl) (xB h)
def OW(H:Hp):Prop:=∀b,H b=none\/∃o xs,H b=(6,.frz o (13,xs))
theorem Jz{P:Program}{w:World}{K:Frag}{mg mb:Str->[26]}{CX:G0}{k:Nat}{fa a:Addr}{fd:FuncData}{x:Str}{sp:Sp}{s₁:Shared}{vs:[19]}{ns:[22]}
  (KX:K.In s₁.heap) (hns:s₁.heap.Ns mainGlobals mg) (hb:s₁.heap.Ns builtinsNs mb) (hbb:∀x:Str,x ≠ "__name__" -> mb x=bootBuiltins x) (hlim:s₁.heap.NoLimit) (hg:s₁.gens=#[])
  (ha:s₁.heap.get? a=some {cls:=.type "list",data:=.seq vs.toArray}) (hi:IntsAre vs ns) (hl:ns.length<=sizeLine) (hr:cG k callerA)
  (F:∀base:Heap,K.In base->base.Ns mainGlobals mg->dE P w K mg base CX k fa fd [x] sp) (hbind:∀(s:Shared)(u:Value),BindsTo s fd (5,[u],[]) [(x,u)])
  (hsp:∀H:Hp,OW H->pA K H a (ns.map V.int)->sp [(10,a)] H (λv _=>v=.bl true) λ_ _ _=>False)
  (hCX:∀H e s',CX [] H s₁ (λ_ _ _=>False) e s'->False):
  codeAny (model P w) callerA (.call (10,fa) (5,[(10,a)],[])) (λr s'=>r=.ok (.ret (.bool true))/\OldK s₁.heap s'.heap/\s'.os=s₁.os/\AllBare s'.gens) s₁:=by
 have rv:=xB hi;have lenV:=hi.length;have core:∀H:Hp,OW H->pA K H a (ns.map V.int)->rm P w H s₁.heap->(∀b,H b≠none->b=a)->(H a≠none->K.lookup a=none)->
   codeAny (model P w) callerA (.call (10,fa) (5,[(10,a)],[])) (λr s'=>r=.ok (.ret (.bool true))/\OldK s₁.heap s'.heap/\s'.os=s₁.os/\AllBare s'.gens) s₁:=by
  intro H hO hS hok hA hK;have base_of:∀{b:Addr}{o:Obj},s₁.heap.get? b=(6,o)->H b=none->(Ac s₁.heap H).get? b=(6,o):=λe n=>JR e n;have noA:∀{b:Addr}{o:Obj}{es:Array DictEntry}{ep:Nat},s₁.heap.get? b=(6,o)->o.data=.dict es ep->H b=none:=λ{b o es ep} e d=>by
   cases q:H b with
   |none=>rfl
   |some u=>
    have e':b=a:=hA b (by rw[q];simp)
    subst e';rw[ha] at e;cases e;have d':Data.seq vs.toArray _=Data.dict es ep:=d;cases d'
  have nsK:∀{b:Addr}{m:Str->[26]},s₁.heap.Ns b m->(Ac s₁.heap H).Ns b m:=λ{b m} ⟨o,es,ep,e,d,r⟩=>⟨o,es,ep,base_of e (noA e d),d,r⟩;have hKb:K.In (Ac s₁.heap H):=λb o e=>base_of (KX b o e) (by
   cases q:H b with
   |none=>rfl
   |some u=>
    have e':b=a:=hA b (by rw[q];simp)
    subst e';rw[hK (by rw[q];simp)] at e;cases e)
  have hM:Mod K mg (Ac s₁.heap H):=(9,hKb,nsK hns,(12,mb,nsK hb,hbb),let ⟨mc,h1,h2⟩:=hlim;(12,mc,nsK h1,h2));have e0:xw P w K mg (Ac s₁.heap H) callerA [] s₁ H:=⟨rfl,hM,λb o e=>LG e,le_of_eq (Hq _ _),trivial,λb hb=>absurd (show b∈([]:List Addr) from hb) [20],hok,.of_eq hg⟩
  refine codeAny_mono ((F _ hKb (nsK hns)).run callerA [] s₁ H (5,[(10,a)],[]) [(10,a)] [(10,a)] _ _ hr e0 (hbind s₁ (10,a)) (.cons rfl .nil) (hsp H hO hS)) λr s' h=>?_;cases r with
  |error e=>exact(hCX H e s' h).elim
  |ok fl=>
   cases fl with
   |next=>exact False.elim h
   |brk=>exact False.elim h
   |cont=>exact False.elim h
   |ret u=>
    obtain⟨v,H',os,bare,un,hok',r',q⟩:=h;have q':v=.bl true:=q;subst q';obtain rfl:u=Value.bool true:=r';refine(9,rfl,OldK.of_keep λb o e=>?_,os,bare);cases q:H b with
    |none=>exact un.keep b o e q (by intro z;exact absurd (show b∈([]:List Addr) from z) [20]) [20]
    |some u=>
     rcases hO b with z|⟨ob,xs,z⟩
     ·rw[q] at z;cases z
     ·have z2:=un.frzs b ob _ z;obtain⟨e1,_⟩:=hok b _ z;obtain⟨e2,_⟩:=hok' b _ z2;rw[e] at e1;cases e1;exact e2
 cases hk:K.lookup a with
 |some o=>
  have e:=KX a o hk;rw[ha] at e;cases e;refine core (λ_=>none) (λ_=>.inl rfl) (.inr ⟨_,vs.toArray,_,hk,rfl,rfl,rfl,by rw[size_toArray,lenV];exact hl,by simpa using rv⟩) (λb u z=>by have z':(none:(9,HO))=(6,u):=z;cases z') (λb z=>absurd rfl z) λz=>absurd rfl z
 |none=>
  refine core (λb=>if b=a then(6,(.frz {cls:=.type "list",data:=.seq vs.toArray} (13,ns.map V.int))) else none) (λb=>?_) (.inl (.inr (5,{cls:=.type "list",data:=.seq vs.toArray},(39,rfl)))) (λb u z=>?_) (λb z=>?_) λ_=>hk
  ·by_cases hb:b=a
   ·exact .inr (12,_,_,(39,hb))
   ·exact .inl (42,hb)
  ·by_cases hb:b=a
   ·have z':=(39,hb).symm.trans z;cases z';subst hb;exact⟨ha,by rw[length_map];exact hl,vs,_,rv,ha⟩
   ·have z':=(42,hb).symm.trans z;cases z'
  ·by_cases hb:b=a
   ·exact hb
   ·exact absurd (42,hb) z
abbrev Rt{K:Frag}{h:Heap}(_:K.In h):Frag:=K
theorem walk_of{l:PySem.W.OpenLaw}{n k:Nat}{q:Program}{loose:[16]}{XP:(Str->[26])->Heap->Prop}{YP:World->Heap->Prop}{d:DefRec}{K:Params->Frag}{CX:World->G0}{sp:World->Sp}{x:Str}
  (hn:l.most=(6,n)) (hn2:n<=sizeLine) (hdf:d.params.defaults=[]) (hr:cG k callerA)
  (hY:∀(w:World)(h:Heap),YP w h->(K w.params).In h)
  (F:∀(w:World)(mg:Str->[26])(fa:Addr)(h:Heap),(K w.params).In h->h.Ns mainGlobals mg->mg d.name=(6,(10,fa))->
   ∃fd:FuncData,(∀(s:Shared)(u:Value),BindsTo s fd (5,[u],[]) [(x,u)])/\
    ∀base:Heap,(K w.params).In base->base.Ns mainGlobals mg->dE l.prog w (K w.params) mg base (CX w) k fa fd [x] (sp w))
  (hsp:∀(w:World)(H:Hp)(a:Addr)(ns:[22]),ns.length<=n->OW H->pA (K w.params) H a (ns.map V.int)->sp w [(10,a)] H (λv _=>v=.bl true) λ_ _ _=>False)
  (hCX:∀(w:World)(H:Hp)(s:Shared)(e:Value)(s':Shared),CX w [] H s (λ_ _ _=>False) e s'->False):
  PySem.W.WalkO q loose XP YP l.row.toRowW d [] (λf vs=>PySem.call f vs):=by
 refine Att.attach_call hn hdf λw s₀ s₁ mg mb fa o pm cd doc a vs ns G Y ho hd hcd hmg hobj hints hlen hg=>?_;have KX:=hY w _ Y;obtain⟨fd,hb,hF⟩:=F w mg fa _ KX G.T.g hmg;exact Jz KX G.T.g G.T.b G.T.builtins G.T.nolimit hg hobj hints (le_trans hlen hn2) hr hF hb (λH hO hS=>hsp w H a ns hlen hO hS) λH e s'=>hCX w H s₁ e s'
def bO(s:Stmt)(j:Nat):Stmt:=match s with
 |.ClassDef _ _ _ body _ _ _ _ _ _ _=>body.getD j (.Pass (9,0,0,0,0))
 |_=>.Pass (9,0,0,0,0)
def bL(s:Stmt):Arguments:=match s with
 |.FunctionDef _ a _ _ _ _ _ _ _ _=>a
 |_=>{posonlyargs:=[],args:=[],vararg:=none,kwonlyargs:=[],kw_defaults:=[],kwarg:=none,defaults:=[]}
def b9(s:Stmt):List Stmt:=match s with
 |.FunctionDef _ _ b _ _ _ _ _ _ _=>b
 |_=>[]
def ag(s:Stmt):Scope:=match s with
 |.FunctionDef _ _ _ _ _ _ sc _ _ _=>sc
 |_=>{kind:=.function,names:=[],isGenerator:=false,isCoroutine:=false}
abbrev rn:G0:=λ_ _ _ _ _ _=>False
abbrev E0:XK:=λ_ _ _=>False
theorem xW{X:Cx}:nJ rn X E0:=λ_ _ _ _ _ _ _ h=>h.elim
structure D9(K:Frag)(x qual:Str)(st:Stmt)(f:Addr)(fd:FuncData):Prop where
 ex:∃(oc:Value)(od:(9,Addr))(kV doc pm:Value)(an:(9,Addr))(cdv ct:Value)(osl:Array [26]),
  fd=(1,x,qual,bL st,b9 st,ag st,.none,kV,pm,an,cdv,ct)/\K.lookup f=(6,(9,oc,od,.func fd,osl))/\codeIn K cdv qual=true
 kp:(7,K,f)=true
section
variable{P:Program}{w:World}{K:Frag}{mg:Str->Option Value}{base:Heap}
theorem D9.ok{x qual:Str}{st:Stmt}{f:Addr}{fd:FuncData}{N ps:[16]}{k:Nat}{sp:Sp}(F:D9 K x qual st f fd)(S:aw N ps (ag st))(len:∀vs H Q E,sp vs H Q E->vs.length=ps.length)
  (hbody:∀(cdv:Value)(A:Around)(outer:List Env)(s:Shared)(H:Hp)(vs:List V)(Q:VK)(E:XK),cG k (A.deeper (envOfC qual (ag st) [15] f cdv))->sp vs H Q E->
   ∃t,sI (pU rn P w K mg base N qual (ag st) f cdv A outer s H E).nox (b9 st) t/\t {nx:=λ_ H'=>Q .non H',rt:=Q} (start N vs) H):dE P w K mg base rn (k+1) f fd ps sp:=by
 obtain⟨oc,od,kV,doc,pm,an,cdv,ct,osl,rfl,lk,hcd⟩:=F.ex;refine K3 lk hcd S len λA outer s H vs Q E hr hsp=>?_;obtain⟨t,h,q⟩:=hbody cdv A outer s H vs Q E hr hsp;exact(12,t,h.nox,q)
theorem D9.binds{x qual:Str}{st:Stmt}{f:Addr}{fd:FuncData}{ps:[16]}(F:D9 K x qual st f fd)
  (h:∀(kV doc pm:Value)(an:(9,Addr))(cdv ct:Value)(us:[19]),us.length=ps.length->bindArgs (1,x,qual,bL st,b9 st,ag st,.none,kV,pm,an,cdv,ct) (5,us,[])=pure (ps.zip us)):dj K fd ps []:=by
 obtain⟨oc,od,kV,doc,pm,an,cdv,ct,osl,rfl,lk,hcd⟩:=F.ex;exact .all (h kV doc pm an cdv ct)
theorem nt{x qual:Str}{st:Stmt}{f:Addr}{oc:Value}{od an:(9,Addr)}{osl:Array [26]}{kV doc pm cdv ct:Value}(l:K.lookup f=(6,(9,oc,od,.func (1,x,qual,bL st,b9 st,ag st,.none,kV,pm,an,cdv,ct),osl)))
  (c:codeIn K cdv qual=true) (k:(7,K,f)=true):D9 K x qual st f (1,x,qual,bL st,b9 st,ag st,.none,kV,pm,an,cdv,ct):=(5,⟨oc,od,kV,doc,pm,an,cdv,ct,osl,rfl,l,c⟩,k)
end
section
variable{X:Cx}
theorem pv(i:Nat){x:Str}{pos:Pos}(hN:X.N[i]?=(6,x):=by rfl)(hv:HQ X.env.scope x:=by first|exact Or.inl rfl|exact Or.inr (Or.inl rfl)|exact Or.inr (Or.inr rfl))(hd:(x == ("__debug__":Str))=false:=by decide)
  (hcd:(x == ("__classdict__":Str))=false:=by decide):PE X (6,x,pos) (lL i):=zc hN hv hd hcd
end
theorem PX{A B:Prop}(h:B):if false=true then A else B:=by
 rw[(42,[33])];exact h
theorem PV{A B:Prop}(h:A):if true=true then A else B:=by
 rw[(39,rfl)];exact h
def ba(H H':Hp):Prop:=∀b o,H b=(6,o)->H' b=(6,o)
theorem ba.refl(H:Hp):ba H H:=λ_ _ h=>h
theorem ba.trans{H H1 H2:Hp}(a:ba H H1)(b:ba H1 H2):ba H H2:=λc o h=>b c o (a c o h)
theorem ba.free{H H':Hp}(e:ba H H'){l:Addr}(h:H' l=Option.none):H l=Option.none:=by
 cases q:H l with
 |none=>rfl
 |some o=>
  rw[e l o q] at h;cases h
theorem ba.seq{K:Frag}{H H':Hp}{a:Addr}{xs:List V}(e:ba H H')(h:pA K H a xs):pA K H' a xs:=by
 rcases h with(h|⟨o,h⟩)|h
 ·exact .inl (.inl (e _ _ h))
 ·exact .inl (.inr (5,o,e _ _ h))
 ·exact .inr h
section
variable{κ:Type}[DecidableEq κ]
def sL(kvs:List (κ×V))(k:κ):(9,V):=(kvs.find? λkv=>decide (kv.1=k)).map (·.2)
def Bj(kvs:List (κ×V))(k:κ)(v:V):List (κ×V):=
 if(kvs.any λkv=>decide (kv.1=k))=true then kvs.map (λkv=>if kv.1=k then(kv.1,v) else kv) else kvs++[(k,v)]
def Na(kvs:List (κ×V))(k:κ):List (κ×V):=kvs.filter λkv=>decide (kv.1≠k)
theorem u0{p:κ×V}{r:List (κ×V)}{k:κ}(e:p.1=k):sL (p::r) k=(6,p.2):=by simp[sL,find?_cons,e]
theorem u5{p:κ×V}{r:List (κ×V)}{k:κ}(e:¬p.1=k):sL (p::r) k=sL r k:=by simp[sL,find?_cons,e]
theorem Az(k:κ):∀kvs:List (κ×V),(kvs.any λkv=>decide (kv.1=k))=(sL kvs k).isSome
 |[]=>rfl
 |p::r=>by
  rw[any_cons];by_cases e:p.1=k
  ·simp only[u0 e,decide_eq_true e,Bool.true_or,Option.isSome_some]
  ·rw[u5 e,(50,e),Bool.false_or];exact Az k r
theorem RelO.isSome_eq{o:(9,V)}{u:[26]}(r:RelO o u):o.isSome=u.isSome:=by
 cases o with
 |none=>cases u with
  |none=>rfl
  |some _=>exact(show False from r).elim
 |some _=>cases u with
  |none=>exact(show False from r).elim
  |some _=>rfl
theorem RelO.getD{o:(9,V)}{u:[26]}{d:V}{d':Value}(r:RelO o u)(rd:bV d d'):bV (o.getD d) (u.getD d'):=by
 cases o with
 |none=>cases u with
  |none=>exact rd
  |some _=>exact(show False from r).elim
 |some _=>cases u with
  |none=>exact(show False from r).elim
  |some _=>exact r
theorem KV.val{kvs:List (κ×V)}{vs:List (κ×Value)}(r:KV kvs vs)(k:κ):RelO (sL kvs k) (valueAt vs k):=by
 unfold KV at r
 induction r with
 |nil=>exact True.intro
 |@cons p q ps qs h t ih=>
  obtain⟨h1,h2⟩:=h;by_cases e:p.1=k
  ·have e':q.1=k:=h1.symm.trans e;have b:valueAt (q::qs) k=(6,q.2):=by simp[valueAt,find?_cons,e']
   rw[u0 e,b];exact h2
  ·have e':¬q.1=k:=λz=>e (h1.trans z);have b:valueAt (q::qs) k=valueAt qs k:=by simp[valueAt,find?_cons,e']
   rw[u5 e,b];exact ih
theorem KV.any{kvs:List (κ×V)}{vs:List (κ×Value)}(r:KV kvs vs)(k:κ):(kvs.any λkv=>decide (kv.1=k))=vs.any λkv=>decide (kv.1=k):=by
 unfold KV at r
 induction r with
 |nil=>rfl
 |cons h t ih=>rw[any_cons,any_cons,ih,h.1]
theorem KV.repl{kvs:List (κ×V)}{vs:List (κ×Value)}(r:KV kvs vs)(k:κ){y:V}{u:Value}(ry:bV y u):
  KV (kvs.map λkv=>if kv.1=k then(kv.1,y) else kv) (vs.map λkv=>if kv.1=k then(kv.1,u) else kv):=by
 unfold KV at r ⊢
 induction r with
 |nil=>exact .nil
 |@cons p q ps qs h t ih=>
  rw[map_cons,map_cons];refine .cons ?_ ih;obtain⟨h1,h2⟩:=h;by_cases e:p.1=k
  ·rw[(39,e),(39,h1.symm.trans e)];exact(5,h1,ry)
  ·rw[(42,e),(42,(λz=>e (h1.trans z)))];exact(5,h1,h2)
theorem KV.put{kvs:List (κ×V)}{vs:List (κ×Value)}(r:KV kvs vs)(k:κ){y:V}{u:Value}(ry:bV y u):KV (Bj kvs k y) (stored vs k u):=by
 unfold Bj stored;rw[r.any k];by_cases e:(vs.any λkv=>decide (kv.1=k))=true
 ·rw[(39,e),(39,e)];exact r.repl k ry
 ·rw[(42,e),(42,e)];exact Paired.snoc r (5,rfl,ry)
theorem KV.drop{kvs:List (κ×V)}{vs:List (κ×Value)}(r:KV kvs vs)(k:κ):KV (Na kvs k) (without vs k):=by
 unfold KV at r ⊢;unfold Na without
 induction r with
 |nil=>exact .nil
 |@cons p q ps qs h t ih=>
  obtain⟨h1,h2⟩:=h;rw[List.filter_cons,List.filter_cons];by_cases e:p.1=k
  ·have a:¬decide (p.1≠k)=true:=by simp[e]
   have b:¬decide (q.1≠k)=true:=by simp[h1.symm.trans e]
   rw[(42,a),(42,b)];exact ih
  ·have e':¬q.1=k:=λz=>e (h1.trans z);have a:decide (p.1≠k)=true:=by simp[e]
   have b:decide (q.1≠k)=true:=by simp[e']
   rw[(39,a),(39,b)];exact .cons (5,h1,h2) ih
theorem KV.keys{kvs:List (κ×V)}{vs:List (κ×Value)}(r:KV kvs vs):kvs.map (·.1)=vs.map (·.1):=by
 unfold KV at r
 induction r with
 |nil=>rfl
 |cons h t ih=>rw[map_cons,map_cons,ih,h.1]
theorem KV.length{kvs:List (κ×V)}{vs:List (κ×Value)}(r:KV kvs vs):kvs.length=vs.length:=Paired.length r
end
abbrev KT(H:Hp):List (List Key×V)->List (List Key×Addr×Value)->Prop:=Paired λp q=>p.1=q.1/\H q.2.1=(6,(20,p.1.map kV))/\bV p.2 q.2.2
theorem KT.val{H:Hp}{kvs:List (List Key×V)}{xs:List (List Key×Addr×Value)}(r:KT H kvs xs)(k:List Key):RelO (sL kvs k) ((atKey xs k).map (·.2)):=by
 induction r with
 |nil=>exact True.intro
 |@cons p q ps qs h t ih=>
  obtain⟨h1,_,h2⟩:=h;by_cases e:p.1=k
  ·have e':q.1=k:=h1.symm.trans e;have b:atKey (q::qs) k=(6,q.2):=by simp[atKey,find?_cons,e']
   rw[u0 e,b];exact h2
  ·have e':¬q.1=k:=λz=>e (h1.trans z);have b:atKey (q::qs) k=atKey qs k:=by simp[atKey,find?_cons,e']
   rw[u5 e,b];exact ih
theorem KT.repl{H:Hp}{kvs:List (List Key×V)}{xs:List (List Key×Addr×Value)}(r:KT H kvs xs)(k:List Key){y:V}{u:Value}(ry:bV y u):
  KT H (kvs.map λkv=>if kv.1=k then(kv.1,y) else kv) (xs.map (putAt k u)):=by
 induction r with
 |nil=>exact .nil
 |@cons p q ps qs h t ih=>
  rw[map_cons,map_cons];refine .cons ?_ ih;obtain⟨h1,h2,h3⟩:=h;unfold putAt;by_cases e:p.1=k
  ·rw[(39,e),(39,h1.symm.trans e)];exact(12,h1,h2,ry)
  ·rw[(42,e),(42,(λz=>e (h1.trans z)))];exact(12,h1,h2,h3)
theorem KT.put{H:Hp}{kvs:List (List Key×V)}{xs:List (List Key×Addr×Value)}(r:KT H kvs xs)(k:List Key){b:Addr}{y:V}{u:Value}(hb:H b=(6,(20,k.map kV)))(ry:bV y u):
  KT H (Bj kvs k y) (storedH xs k b u):=by
 have e:(kvs.any λkv=>decide (kv.1=k))=(atKey xs k).isSome:=by
  rw[Az,(r.val k).isSome_eq,Option.isSome_map]
 unfold Bj storedH;rw[e];by_cases q:(atKey xs k).isSome=true
 ·rw[(39,q),(39,q)];exact r.repl k ry
 ·rw[(42,q),(42,q)];exact Paired.snoc r (12,rfl,hb,ry)
theorem KT.keeps{H H':Hp}{kvs:List (List Key×V)}{xs:List (List Key×Addr×Value)}(r:KT H kvs xs)(ht:∀b ys,H b=(6,(20,ys))->H' b=(6,(20,ys))):KT H' kvs xs:=
 Paired.mapP r λ_ _ z=>(12,z.1,ht _ _ z.2.1,z.2.2)
def ML(H:Hp)(a:Addr)(y:V)(r:(9,V)):Prop:=
 (∃kvs k,Rd H a (.dK kvs)/\y=kV k/\r=sL kvs k)\/∃kvs k b,Rd H a (.dT kvs)/\y=(10,b)/\H b=(6,(20,k.map kV))/\r=sL kvs k
def MK(H:Hp)(a:Addr)(y v:V)(H':Hp):Prop:=
 (∃kvs k,H a=(6,.dK kvs)/\y=kV k/\kvs.length<sizeLine/\H'=cA H a (.dK (Bj kvs k v)))\/
 ∃kvs k b,H a=(6,.dT kvs)/\y=(10,b)/\H b=(6,(20,k.map kV))/\kvs.length<sizeLine/\H'=cA H a (.dT (Bj kvs k v))
theorem ML.k{H:Hp}{a:Addr}{kvs:List (Key×V)}{k:Key}(e:H a=(6,.dK kvs)):ML H a (kV k) (sL kvs k):=.inl ⟨kvs,k,.inl e,rfl,rfl⟩
theorem ML.t{H:Hp}{a b:Addr}{kvs:List (List Key×V)}{k:List Key}(e:H a=(6,.dT kvs))(eb:H b=(6,(20,k.map kV))):ML H a (10,b) (sL kvs k):=.inr ⟨kvs,k,b,.inl e,rfl,eb,rfl⟩
theorem MK.k{H:Hp}{a:Addr}{kvs:List (Key×V)}{k:Key}{v:V}(e:H a=(6,.dK kvs))(hl:kvs.length<sizeLine):MK H a (kV k) v (cA H a (.dK (Bj kvs k v))):=.inl ⟨kvs,k,e,rfl,hl,rfl⟩
theorem MK.t{H:Hp}{a b:Addr}{kvs:List (List Key×V)}{k:List Key}{v:V}(e:H a=(6,.dT kvs))(eb:H b=(6,(20,k.map kV)))(hl:kvs.length<sizeLine):
  MK H a (10,b) v (cA H a (.dT (Bj kvs k v))):=.inr ⟨kvs,k,b,e,rfl,eb,hl,rfl⟩
section
variable{X:Cx}{pins:List (Addr×Obj)}{σ:St}{H:Hp}{s:Shared}{a:Addr}{y v:V}{u r:Value}{o:Option V}{A:Around}{E:Value->Shared->Prop}
theorem aR.big(I:(20,H,s)):sysModules<s.heap.objs.size:=by
 have h:mainGlobals<s.heap.objs.size:=(I.mod.glob.keeps I.bk).lt;exact lt_trans [12] h
theorem FR{h':Heap}{t':Nat}{ob:HO}(I:(20,H,s))(mu:Qh (H a))(hs:Heap.SameBut a s.heap h')(he:∃q,h'.get? a=(6,q))(new:cF X.prog X.w (cA H a ob) h' a ob):
  aR X pins σ (cA H a ob) {s with heap:=h',toks:=t'}:=
 I.write (x:=a) (e:=a) mu (.inl rfl) (λb q hb z=>(hs.2 b hb).trans z) he new
end
structure M2(X:Cx)(o:Expr)(m:Str)(apos:Pos)(e f:Expr)(cpos:Pos):Prop where
 base:attributeBase o m X.env (16,o)=(16,o)
 few:((10,cpos,[e,f]).all (λx=>!x.1) && (backToKw cpos (keywordEach [] X.env)).all (λx=>x.1.isSome)
  && decide (([e,f]:List Expr).length+([]:List Keyword).length+(if([]:List Keyword).isEmpty then 0 else 1)<30))=true
 line:(apos.endLine == cpos.line)=true
 trees:(10,cpos,[e,f])=[(false,(16,e)),(false,(16,f))]
end L2
namespace L3
open PySem
inductive D where
 |non|bl (b:Bool)|int (i:Int)|str (x:Str)|tup (ds:[21])|lst (ds:[21])|obj (c:String) (ns:[16]) (ds:[21])|fn (k:Nat) (ds:[21])
inductive O where
 |lst (ds:[21])|obj (c:String) (ns:[16]) (ds:[21])|dic (kvs:List ([22]×Int))|par (a:Nat) (o:O)|fdic (kvs:List ([22]×Int))|tab (kvs:List (D×D))|dik (kvs:List (Int×Int))
abbrev NV:Nat:=1000000
noncomputable instance decD:DecidableEq D:=λa b=>Classical.propDecidable (a=b)
noncomputable def O.val:O->D
 |.lst ds=>(13,ds)
 |.obj c ns ds=>.obj c ns ds
 |.dic _=>.non
 |.par _ _=>.non
 |.fdic _=>.non
 |.tab _=>.non
 |.dik _=>.fn NV []
def vg:Nat->D->Bool
 |_,.int _=>true
 |n+1,.tup ds=>ds.all (vg n)
 |_,_=>false
def zC:D->Bool
 |.tup ds=>ds.all (vg 5)
 |_=>false
inductive S where
 |sh (d:D)|own (o:O)|two (d:D) (a:Nat) (o:O)
def S.val:S->D
 |.sh d=>d
 |.own o=>o.val
 |.two d _ _=>d
def S.nd:S->Bool
 |.own (.dic _)=>false
 |.own (.par _ _)=>false
 |.own (.fdic _)=>false
 |.own (.tab _)=>false
 |.two _ _ _=>false
 |_=>true
inductive R where
 |ok (s:S)|exc (x:D)
abbrev MEnv:=List (9,S)
inductive mI where
 |next (ρ:MEnv)|brk (ρ:MEnv)|cont (ρ:MEnv)|ret (s:S)|exc (x:D)
abbrev ME:=MEnv->(9,R)
abbrev MC:=MEnv->(9,mI)
inductive RI where
 |ok (ds:[21])|exc (x:D)
abbrev MI:=MEnv->(9,RI)
abbrev MB:=D->MEnv->(9,MEnv)
@[reducible] def okD (d:D):(9,R):=(36,.sh d)
@[reducible] def okI (i:Int):(9,R):=okD (4,i)
@[reducible] def okB (b:Bool):(9,R):=okD (.bl b)
@[reducible] def okL (ds:[21]):(9,R):=(36,(38,ds))
def bw(r:(9,R))(k:D->(9,R)):(9,R):=match r with
 |some (.ok s)=>k s.val
 |some (.exc x)=>(6,.exc x)
 |none=>none
def j8(r:(9,R))(k:S->(9,mI)):(9,mI):=match r with
 |some (.ok s)=>k s
 |some (.exc x)=>(6,.exc x)
 |none=>none
@[simp] theorem bindV_ok (s:S) (k:D->(9,R)):bw (36,s) k=k s.val:=rfl
@[simp] theorem bindV_exc (x:D) (k:D->(9,R)):bw (6,.exc x) k=(6,.exc x):=rfl
@[simp] theorem bindV_none (k:D->(9,R)):bw none k=none:=rfl
@[simp] theorem bindO_ok (s:S) (k:S->(9,mI)):j8 (36,s) k=k s:=rfl
@[simp] theorem bindO_exc (x:D) (k:S->(9,mI)):j8 (6,.exc x) k=(6,.exc x):=rfl
@[simp] theorem bindO_none (k:S->(9,mI)):j8 none k=none:=rfl
@[simp] theorem S.val_sh (d:D):(S.sh d).val=d:=rfl
@[simp] theorem S.val_own (o:O):(S.own o).val=o.val:=rfl
@[simp] theorem O.val_lst (ds:[21]):(O.lst ds).val=(13,ds):=rfl
@[simp] theorem O.val_obj (c:String) (ns:[16]) (ds:[21]):(O.obj c ns ds).val=.obj c ns ds:=rfl
noncomputable def eVar(i:Nat):ME:=λρ=>match ρ[i]? with
 |some (some (.sh d))=>okD d
 |_=>none
noncomputable def dI(i:Nat):ME:=λρ=>match ρ[i]? with
 |some (some (.own (.dic _)))=>none
 |some (some (.own (.par _ _)))=>none
 |some (some (.own (.fdic _)))=>none
 |some (some (.own (.tab _)))=>none
 |some (some (.two _ _ _))=>none
 |some (some s)=>okD s.val
 |_=>none
noncomputable def eC(d:D):ME:=λ_=>okD d
noncomputable def kj(f:D->(9,R))(a:ME):ME:=λρ=>bw (a ρ) f
noncomputable def eBin(f:D->D->(9,R))(a b:ME):ME:=λρ=>bw (a ρ) λx=>bw (b ρ) λy=>f x y
def bx:List ME->MEnv->(([21])->(9,R))->(9,R)
 |[],_,k=>k []
 |e::es,ρ,k=>bw (e ρ) λd=>bx es ρ λds=>k (d::ds)
def aj(f:([21])->(9,R))(as:List ME):ME:=λρ=>bx as ρ f
def flat:D->Bool
 |.non=>true|.bl _=>true|.int _=>true|.str _=>true|_=>false
def vv:(9,R)->(9,R)
 |some (.ok s)=>if flat s.val then okD s.val else none
 |_=>none
def aK(f:([21])->(9,R))(as:List ME):ME:=λρ=>vv (bx as ρ f)
def lim:Nat:=1000000
def aG(as:List ME):ME:=aj (λds=>if ds.length<=lim then okD (20,ds) else none) as
def eLst(as:List ME):ME:=aj (λds=>if ds.length<=lim then okL ds else none) as
def asB:D->(Bool->(9,R))->(9,R)
 |.bl b,k=>k b
 |_,_=>none
def eAnd(a b:ME):ME:=λρ=>bw (a ρ) λx=>asB x λc=>if c=true then b ρ else okB false
def eOr(a b:ME):ME:=λρ=>bw (a ρ) λx=>asB x λc=>if c=true then okB true else b ρ
def Q7(x:D):(9,R):=asB x λc=>okB (!c)
def oJ(a:ME):ME:=kj Q7 a
def OC(c a b:ME):ME:=λρ=>bw (c ρ) λx=>asB x λt=>if t=true then a ρ else b ρ
def az(a b:MC):MC:=λρ=>match a ρ with
 |some (.next ρ')=>b ρ'
 |o=>o
def aX:MC:=λρ=>(30,ρ)
def sSet(i:Nat)(e:ME):MC:=λρ=>j8 (e ρ) λs=>(30,ρ.set i (6,s))
def aU(e:ME):MC:=λρ=>j8 (e ρ) λs=>(6,.ret s)
def asBO:D->(Bool->(9,mI))->(9,mI)
 |.bl b,k=>k b
 |_,_=>none
def sIf(c:ME)(a b:MC):MC:=λρ=>j8 (c ρ) λs=>asBO s.val λt=>if t=true then a ρ else b ρ
def dem(i:Nat)(ρ:MEnv):MEnv:=match ρ[i]? with
 |some (some (.own (.dic _)))=>ρ
 |some (some (.own (.par _ _)))=>ρ
 |some (some (.own (.fdic _)))=>ρ
 |some (some (.own (.tab _)))=>ρ
 |some (some (.own o))=>ρ.set i (1,o.val)
 |_=>ρ
def dF(i:Nat)(c:MC):MC:=λρ=>c (dem i ρ)
def Br(i:Nat)(ρ:MEnv)(k:([21])->(9,mI)):(9,mI):=match ρ[i]? with
 |some (some (.own (.lst ds)))=>k ds
 |_=>none
def lY(i:Nat)(e:ME):MC:=λρ=>Br i ρ λds=>j8 (e ρ) λs=>if ds.length<lim then(30,ρ.set i (6,(38,(ds++[s.val])))) else none
def qQ:D->(9,[21])
 |.lst ds=>(6,ds)
 |.tup ds=>(6,ds)
 |_=>none
def o5(i:Nat)(e:ME):MC:=λρ=>Br i ρ λds=>j8 (e ρ) λs=>match qQ s.val with
 |some es=>if ds.length+es.length<=lim then(30,ρ.set i (6,(38,(ds++es)))) else none
 |none=>none
def KD(n:Nat)(i:Int):(9,Nat):=if 0<=i then(if i<n then(6,i.toNat) else none) else if -(n:Int)<=i then(6,(i+n).toNat) else none
def iS(i:Nat)(k e:ME):MC:=λρ=>j8 (e ρ) λs=>Br i ρ λds=>j8 (k ρ) λz=>match z.val with
 |.int j=>(match KD ds.length j with
  |some n=>(30,ρ.set i (6,(38,ds.set n s.val)))
  |none=>none)
 |_=>none
def aM(j:Nat):MB:=λd ρ=>(6,ρ.set j (1,d))
def fQ(bd:MB)(body:MC):([21])->MEnv->(9,mI)
 |[],ρ=>(30,ρ)
 |d::ds,ρ=>match bd d ρ with
  |none=>none
  |some ρ1=>match body ρ1 with
   |some (.next ρ2)=>fQ bd body ds ρ2
   |some (.cont ρ2)=>fQ bd body ds ρ2
   |some (.brk ρ2)=>(30,ρ2)
   |o=>o
def kS(it:MI)(bd:MB)(body:MC):MC:=λρ=>match it ρ with
 |some (.ok ds)=>fQ bd body ds ρ
 |some (.exc x)=>(6,.exc x)
 |none=>none
def hV(e:ME):MI:=λρ=>match e ρ with
 |some (.ok s)=>(qQ s.val).map .ok
 |some (.exc x)=>(6,.exc x)
 |none=>none
def rng(lo hi:Int):[21]:=(23,(hi - lo).toNat).map λ(k:Nat)=>D.int (lo+k)
def jh(i:Int):Bool:=decide (-(2 ^ 62)<=i) && decide (i<2 ^ 62)
def EC(e:ME)(ρ:MEnv)(k:D->(9,RI)):(9,RI):=match e ρ with
 |some (.ok s)=>k s.val
 |some (.exc x)=>(6,.exc x)
 |none=>none
def bP(e:ME):MI:=λρ=>EC e ρ λx=>match x with
 |.int hi=>if jh hi=true then(36,rng 0 hi) else none
 |_=>none
def kG(a b:ME):MI:=λρ=>EC a ρ λx=>EC b ρ λy=>match x,y with
 |.int lo,.int hi=>if jh lo=true/\jh hi=true then(36,rng lo hi) else none
 |_,_=>none
def ip(bd:MB)(cond elt:ME)(ρ:MEnv):([21])->([21])->(9,R)
 |[],acc=>if acc.length<=lim then okL acc else none
 |d::ds,acc=>match bd d ρ with
  |none=>none
  |some ρ1=>bw (cond ρ1) λc=>asB c λt=>if t=true then bw (elt ρ1) λx=>ip bd cond elt ρ ds (acc++[x]) else ip bd cond elt ρ ds acc
def bZ(js:List Nat)(ρ:MEnv):MEnv:=js.foldl (λρ j=>ρ.set j none) ρ
def bN(js:List Nat)(it:MI)(bd:MB)(cond elt:ME):ME:=λρ=>match it ρ with
 |some (.ok ds)=>if ds.length<=lim then ip bd cond elt (bZ js ρ) ds [] else none
 |some (.exc x)=>(6,.exc x)
 |none=>none
def cO(c:ME)(body:MC):Nat->MEnv->(9,mI)
 |0,_=>none
 |n+1,ρ=>j8 (c ρ) λs=>asBO s.val λt=>if t=true then(match body ρ with
   |some (.next ρ2)=>cO c body n ρ2
   |some (.cont ρ2)=>cO c body n ρ2
   |some (.brk ρ2)=>(30,ρ2)
   |o=>o) else(30,ρ)
def DF(fuel:MEnv->Nat)(c:ME)(body:MC):MC:=λρ=>cO c body (fuel ρ) ρ
def bX(n:Nat)(ds:[21]):MEnv:=ds.map (λd=>(1,d))++replicate (n - ds.length) none
def GG:(9,mI)->(9,R)
 |some (.ret s)=>(36,s)
 |some (.next _)=>okD .non
 |some (.exc x)=>(6,.exc x)
 |_=>none
noncomputable def gu(np n:Nat)(g:MC):([21])->(9,R):=λds=>if ds.length=np then GG (g (bX n ds)) else none
def dAdd:D->D->(9,R)
 |.int i,.int j=>okI (i+j)
 |.str x,.str y=>if x.length+y.length<=lim then okD (.str (x++y)) else none
 |.tup xs,.tup ys=>if xs.length+ys.length<=lim then okD (20,(xs++ys)) else none
 |.lst xs,.lst ys=>if xs.length+ys.length<=lim then okL (xs++ys) else none
 |_,_=>none
def vC:D->D->(9,R)
 |.int i,.int j=>okI (i - j)
 |_,_=>none
def kQ(i:Int):Bool:=decide (-(2 ^ 64)<i) && decide (i<2 ^ 64)
def lH:D->D->(9,R)
 |.int i,.int j=>if(kQ i || kQ j)=true then okI (i * j) else none
 |_,_=>none
def Q6(ds:[21]):D->(9,R)
 |.int k=>if -(2 ^ 60)<=k/\k<2 ^ 60/\ds.length * k.toNat<=lim then okL (replicate k.toNat ds).flatten else none
 |_=>none
def K9(a b:ME):ME:=λρ=>match a ρ with
 |some (.ok (.own (.lst ds)))=>bw (b ρ) (Q6 ds)
 |some (.exc x)=>(6,.exc x)
 |_=>none
def dMod:D->D->(9,R)
 |.int i,.int j=>if 0<j then okI (i % j) else none
 |_,_=>none
def j7:D->D->(9,R)
 |.int i,.int j=>if 0<j/\j<1073741824 then okI (i / j) else none
 |_,_=>none
def OG(p:Int->Int->Bool):D->D->(9,R)
 |.int i,.int j=>okB (p i j)
 |_,_=>none
def dLt:=OG λi j=>decide (i<j)
def KF:=OG λi j=>decide (i<=j)
def dGt:=OG λi j=>decide (j<i)
def OB:D->D->(9,Bool)
 |.int i,.int j=>(6,(decide (i=j)))
 |.str x,.str y=>(6,(decide (x=y)))
 |.bl x,.bl y=>(6,(decide (x=y)))
 |.non,.non=>(6,true)
 |.non,.int _=>(6,false)|.int _,.non=>(6,false)|.non,.str _=>(6,false)|.str _,.non=>(6,false)|.non,.bl _=>(6,false)|.bl _,.non=>(6,false)
 |.int _,.str _=>(6,false)|.str _,.int _=>(6,false)|.bl _,.str _=>(6,false)|.str _,.bl _=>(6,false)
 |_,_=>none
def dEq(x y:D):(9,R):=match OB x y with
 |some b=>okB b
 |none=>none
def Ag(x y:D):(9,R):=match OB x y with
 |some b=>okB (!b)
 |none=>none
def lG:D->(9,R)
 |.non=>okB false
 |_=>okB true
def EY{α:Type}(xs:List α)(i:Int):(9,α):=(KD xs.length i).bind λj=>xs[j]?
def dIx:D->D->(9,R)
 |.tup ds,.int i=>(EY ds i).bind okD
 |.lst ds,.int i=>(EY ds i).bind okD
 |.str x,.int i=>if x.length<=lim then(EY x.cps.toList i).bind λc=>okD (.str ⟨#[c]⟩) else none
 |_,_=>none
def bM:D->(9,R)
 |.tup ds=>okI ds.length
 |.lst ds=>okI ds.length
 |.str x=>if x.length<=lim then okI x.length else none
 |_=>none
def intsOf:([21])->(9,[22])
 |[]=>(6,[])
 |.int i::r=>(intsOf r).map (i::·)
 |_::_=>none
def HA:D->(9,R)
 |.lst ds=>(intsOf ds).bind λns=>okI ns.sum
 |_=>none
def jf:D->(9,R)
 |.lst ds=>okD (20,ds)
 |.tup ds=>okD (20,ds)
 |_=>none
def CL:D->(9,R)
 |.lst ds=>okL ds
 |.tup ds=>okL ds
 |_=>none
def nz:D->D->(9,R)
 |.int lo,.int hi=>if jh lo=true/\jh hi=true/\(hi - lo).toNat<=lim then okL (rng lo hi) else none
 |_,_=>none
def N5:D->String
 |.non => "NoneType" | .bl _ => "bool" | .int _ => "int" | .str _ => "str" | .tup _ => "tuple" | .lst _ => "list" | .obj c _ _=>c|.fn _ _ => "function"
def vG(T:String):D->(9,R)
 |.obj _ _ _=>none
 |.fn _ _=>none
 |d=>okB (N5 d == T || (N5 d == "bool" && T == "int"))
def f1(F:D->(9,R)):([21])->(9,R)
 |[d]=>F d
 |_=>none
def f2(F:D->D->(9,R)):([21])->(9,R)
 |[d,e]=>F d e
 |_=>none
def da:ME:=eC (.bl true)
def CK:D->D->(9,R)
 |.int i,.int j=>if 0<=j/\j<=1000000/\i.natAbs<2 ^ 64 then okI (i * 2 ^ j.toNat) else none
 |_,_=>none
def Kc:D->D->(9,R)
 |.int i,.int j=>if 0<=j then okI (i / 2 ^ j.toNat) else none
 |_,_=>none
def CM:D->D->(9,R)
 |.int i,.int j=>if 0<=i/\0<=j then okI ((i.toNat &&& j.toNat:Nat):Int) else none
 |_,_=>none
def Mo:D->D->(9,R)
 |.int i,.int j=>if 0<=i/\0<=j then okI ((i.toNat ||| j.toNat:Nat):Int) else none
 |_,_=>none
def Kd:D->D->(9,R)
 |.int i,.int j=>if 0<=j/\j<=1000000/\i.natAbs<2 ^ 64 then okI (i ^ j.toNat) else none
 |_,_=>none
def OF:D->(9,R)
 |.int i=>okI (-i)
 |_=>none
def Q8:D->(9,R)
 |.int i=>okI (if i<0 then -i else i)
 |_=>none
def FS:D->D->(9,R)
 |.int i,.int j=>okI (if j<i then j else i)
 |_,_=>none
def dInt:D->(9,R)
 |.int i=>okI i
 |.bl b=>okI (if b then 1 else 0)
 |_=>none
def vB(f g:D->D->(9,R))(a b c:ME):ME:=λρ=>bw (a ρ) λx=>bw (b ρ) λy=>bw (f x y) λz=>asB z λt=>if t=true then bw (c ρ) λw=>g y w else okB false
def jb(n d:Nat):(9,Int)->Nat
 |none=>d
 |some v=>if v<0 then(v+(n:Int)).toNat else min v.toNat n
def CS(ds:[21])(lo hi:(9,Int)):[21]:=(ds.drop (jb ds.length 0 lo)).take (jb ds.length ds.length hi - jb ds.length 0 lo)
def kb(x:D)(lo hi:(9,Int)):(9,R):=match x with
 |.tup ds=>if jb ds.length 0 lo=0/\jb ds.length ds.length hi=ds.length then none else okD (20,CS ds lo hi)
 |.lst ds=>okL (CS ds lo hi)
 |_=>none
def J0(o:(9,ME))(ρ:MEnv)(k:(9,Int)->(9,R)):(9,R):=match o with
 |none=>k none
 |some e=>bw (e ρ) λd=>match d with
  |.int i=>k (6,i)
  |_=>none
def cZ(e:ME)(lo hi:(9,ME)):ME:=λρ=>bw (e ρ) λx=>J0 lo ρ λl=>J0 hi ρ λh=>kb x l h
def rP(k:Int):([22])->[22]
 |[]=>[k]
 |x::r=>if k<x then k::x::r else if k=x then x::r else x::rP k r
def mL(ns:[22]):[22]:=ns.foldr rP []
def fewD(ns:[22]):Bool:=decide (ns.length<=4) && ns.all λn=>decide (0<=n) && decide (n<32)
def vE:D->(9,R)
 |.lst ds=>(intsOf ds).bind λns=>if fewD ns=true then okL ((mL ns).map D.int) else none
 |_=>none
def Ae(f:Str):([16])->([21])->(9,D)
 |n::ns,d::ds=>if f == n then(6,d) else Ae f ns ds
 |_,_=>none
def qV(cs:List String)(f:Str):D->(9,R)
 |.obj c ns ds=>if cs.contains c=true then(Ae f ns ds).bind okD else none
 |_=>none
def eh(m:Str)(tb:String->(9,(([21])->(9,R))))(o:ME)(as:List ME):ME:=λρ=>bw (o ρ) λx=>match x with
 |.obj c ns ds=>if ns.contains m=true then none else(match tb c with
  |some F=>bx as ρ λvs=>F (.obj c ns ds::vs)
  |none=>none)
 |_=>none
abbrev i9:=O->([21])->(9,O)
abbrev MG:=MEnv->O->(9,O)
def bF:List ME->MEnv->(9,[21])
 |[],_=>(6,[])
 |e::es,ρ=>match e ρ with
  |some (.ok s)=>(bF es ρ).map (s.val::·)
  |_=>none
def putN(f:Str):([16])->[16]
 |[]=>[f]
 |n::r=>if n=f then n::r else n::putN f r
def Gx(f:Str)(d:D):([16])->([21])->[21]
 |[],_=>[d]
 |n::ns,x::ds=>if n=f then d::ds else x::Gx f d ns ds
 |_::_,[]=>[]
def mB:MG:=λ_ o=>(6,o)
def hU(g h:MG):MG:=λρ o=>(g ρ o).bind (h ρ)
def oX(cs:List String)(f:Str)(e:ME):MG:=λρ o=>match e ρ,o with
 |some (.ok s),.obj c ns ds=>if cs.contains c=true/\ns.length=ds.length/\ns.length<900 then(6,.obj c (putN f ns) (Gx f s.val ns ds)) else none
 |_,_=>none
def ji(F:i9)(as:List ME):MG:=λρ o=>(bF as ρ).bind (F o)
noncomputable def Cw(np n:Nat)(g:MG):i9:=λo ds=>if ds.length+1=np then g (none::bX (n - 1) ds) o else none
def ic(c:String)(F:i9)(as:List ME):ME:=λρ=>bx as ρ λds=>match F (.obj c [] []) ds with
 |some o=>(36,(49,o))
 |none=>none
end L3
namespace L3
end L3
namespace L3
open PySem
abbrev Tb:=List ([22]×Int)
def O.core:O->O
 |.par _ o=>o
 |o=>o
def O.put:O->O->O
 |.par a _,o'=>.par a o'
 |_,o'=>o'
abbrev MF:=O->([21])->([21])->(9,(D×O))
def pH(n a:Nat)(o:O)(ds es:[21]):MEnv:=(bX n (ds++.non::es)).set ds.length (6,(49,.par a o))
def outP(j a:Nat):(9,mI)->(9,(D×O))
 |some (.ret (.two d b o))=>if b=a then(6,(d,o)) else none
 |some (.next ρ)=>match ρ[j]? with
  |some (some (.own (.par b o)))=>if b=a then(6,(.non,o)) else none
  |_=>none
 |_=>none
open Classical in
abbrev MP:=MEnv->(9,(D×MEnv))
abbrev Td:=List (D×D)
noncomputable section
def gF(kvs:Td)(k:D):(9,D):=(kvs.find? λp=>decide (p.1=k)).map (·.2)
def z9(kvs:Td)(k v:D):Td:=if(gF kvs k).isSome=true then kvs.map (λp=>if p.1=k then(p.1,v) else p) else kvs++[(k,v)]
def kd(i:Nat)(ρ:MEnv):(9,(O×Td)):=match ρ[i]? with
 |some (some (.own o))=>(match o.core with
  |.tab kvs=>(6,(o,kvs))
  |_=>none)
 |_=>none
theorem iE{i:Nat}{ρ:MEnv}{o:O}{kvs:Td}(h:kd i ρ=(6,(o,kvs))):ρ[i]?=(21,(49,o))/\o.core=.tab kvs:=by
 unfold kd at h;split at h
 ·rename_i u hu;split at h
  ·rename_i k hk;cases h;exact(5,hu,hk)
  ·cases h
 ·cases h
def xl(r:(9,R)):(9,D):=match r with
 |some (.ok (.sh k))=>if zC k=true then(6,k) else none
 |_=>none
theorem oi{r:(9,R)}{k:D}(h:xl r=(6,k)):r=okD k/\zC k=true:=by
 unfold xl at h;split at h
 ·split at h
  ·rename_i hk;cases h;exact(5,rfl,hk)
  ·cases h
 ·cases h
def Bc(i:Nat):MC:=λρ=>(30,ρ.set i (6,(49,.tab [])))
def gH(neg:Bool)(i:Nat)(g:ME):ME:=λρ=>(kd i ρ).bind λp=>(xl (g ρ)).bind λk=>okB (neg != (gF p.2 k).isSome)
def l8(i:Nat)(gk ge:ME):MC:=λρ=>match ge ρ with
 |some (.ok (.sh v))=>(kd i ρ).bind λp=>(xl (gk ρ)).bind λk=>if p.2.length<lim then(30,ρ.set i (6,(49,p.1.put (.tab (z9 p.2 k v))))) else none
 |_=>none
def oY(i:Nat):ME:=λρ=>(kd i ρ).bind λp=>okI p.2.length
def rS(i:Nat):ME:=λρ=>(kd i ρ).bind λp=>okL (p.2.map λq=>D.tup [q.1,q.2])
theorem A7{k:D}(h:zC k=true):xl (okD k)=(6,k):=by unfold xl okD;dsimp only;rw[(39,h)]
theorem oy{i:Nat}{ρ:MEnv}{o:O}{kvs:Td}(h:ρ[i]?=(21,(49,o)))(hc:o.core=.tab kvs):kd i ρ=(6,(o,kvs)):=by unfold kd;rw[h];dsimp only;rw[hc]
theorem nq{n:Bool}{i:Nat}{g:ME}{ρ:MEnv}{o:O}{kvs:Td}{k:D}(h:ρ[i]?=(21,(49,o)))(hc:o.core=.tab kvs)(hk:g ρ=okD k)(ok:zC k=true):gH n i g ρ=okB (n != (gF kvs k).isSome):=by
 unfold gH;rw[oy h hc,hk];dsimp only[Option.bind_some];rw[A7 ok];rfl
theorem uS{i:Nat}{gk ge:ME}{ρ:MEnv}{o:O}{kvs:Td}{k v:D}(h:ρ[i]?=(21,(49,o)))(hc:o.core=.tab kvs)(hk:gk ρ=okD k)(hv:ge ρ=okD v)(ok:zC k=true)(hl:kvs.length<lim):l8 i gk ge ρ=(30,ρ.set i (6,(49,o.put (.tab (z9 kvs k v))))):=by
 unfold l8;rw[hv];dsimp only[okD];rw[oy h hc];dsimp only[Option.bind_some];rw[hk,A7 ok];dsimp only[Option.bind_some];rw[(39,hl)]
theorem rM{i:Nat}{ρ:MEnv}{o:O}{kvs:Td}(h:ρ[i]?=(21,(49,o)))(hc:o.core=.tab kvs):oY i ρ=okI kvs.length:=by unfold oY;rw[oy h hc];rfl
theorem M4{i:Nat}{ρ:MEnv}{o:O}{kvs:Td}(h:ρ[i]?=(21,(49,o)))(hc:o.core=.tab kvs):rS i ρ=okL (kvs.map λq=>D.tup [q.1,q.2]):=by unfold rS;rw[oy h hc];rfl
theorem getD_none{kvs:Td}{k:D}(h:∀p∈kvs,p.1≠k):gF kvs k=none:=by
 unfold gF;rw[List.find?_eq_none.mpr λp hp=>by simpa using h p hp];rfl
theorem qG{kvs:Td}{k:D}(v:D)(h:∀p∈kvs,p.1≠k):z9 kvs k v=kvs++[(k,v)]:=by
 unfold z9;rw[getD_none h];exact(42,[12])
end
end L3
namespace L3
open PySem PySem.SeqAt
mutual
def ib(h:Heap):D->Value->Prop
 |.int i,v=>∃t,v=.int i t
 |.tup ds,v=>∃a items,v=(10,a)/\h.IsTuple a items/\ia h ds items.toList
 |.non,_=>False
 |.bl _,_=>False
 |.str _,_=>False
 |.lst _,_=>False
 |.obj _ _ _,_=>False
 |.fn _ _,_=>False
def ia(h:Heap):([21])->([19])->Prop
 |[],vs=>vs=[]
 |d::ds,vs=>∃v r,vs=v::r/\ib h d v/\ia h ds r
end
mutual
def Cn:D->Int
 |.int i=>hashInt i
 |.tup ds=>reduceHash (Builtin.Tuple.tupleHashOf (rQ ds))
 |_=>0
def rQ:([21])->[22]
 |[]=>[]
 |d::ds=>Cn d::rQ ds
end
mutual
def yf:D->Nat
 |.tup ds=>pT ds+1
 |_=>1
def pT:([21])->Nat
 |[]=>0
 |d::ds=>yf d+pT ds
end
mutual
def qU:D->Nat
 |.tup ds=>ik ds+1
 |_=>0
def ik:([21])->Nat
 |[]=>0
 |d::ds=>max (qU d) (ik ds)
end
theorem g9{h:Heap}{i:Int}{v:Value}:ib h (4,i) v↔∃t,v=.int i t:=by unfold ib;exact Iff.rfl
theorem gZ{h:Heap}{ds:[21]}{v:Value}:ib h (20,ds) v↔∃a items,v=(10,a)/\h.IsTuple a items/\ia h ds items.toList:=by
 constructor
 ·intro x;unfold ib at x;exact x
 ·intro x;unfold ib;exact x
theorem fP{h:Heap}{vs:[19]}:ia h [] vs↔vs=[]:=by unfold ia;exact Iff.rfl
theorem dS{h:Heap}{d:D}{ds:[21]}{vs:[19]}:ia h (d::ds) vs↔∃v r,vs=v::r/\ib h d v/\ia h ds r:=by
 constructor
 ·intro x;unfold ia at x;exact x
 ·intro x;unfold ia;exact x
theorem sA{h:Heap}{a:Addr}{xs ys:Array Value}(x:h.IsTuple a xs)(y:h.IsTuple a ys):xs=ys:=by
 obtain⟨o,ho,_,n,hd⟩:=x;obtain⟨o',ho',_,n',hd'⟩:=y;obtain rfl:o=o':=Option.some.inj (ho.symm.trans ho');rw[hd] at hd';injection hd'
mutual
theorem ib.inj{h:Heap}:∀{x y:D}{v:Value},ib h x v->ib h y v->x=y
 |.int i,y,v,hx,hy=>by
  obtain⟨t,rfl⟩:=g9.mp hx;cases y with
  |int j=>obtain⟨u,e⟩:=g9.mp hy;cases e;rfl
  |tup ds=>obtain⟨a,its,e,_⟩:=gZ.mp hy;cases e
  |_=>unfold ib at hy;exact hy.elim
 |.tup ds,y,v,hx,hy=>by
  obtain⟨a,its,rfl,t1,k1⟩:=gZ.mp hx;cases y with
  |int j=>obtain⟨u,e⟩:=g9.mp hy;cases e
  |tup es=>
   obtain⟨b,its',e,t2,k2⟩:=gZ.mp hy;cases e;rw[sA t2 t1] at k2;rw[ia.inj k1 k2]
  |_=>unfold ib at hy;exact hy.elim
 |.non,_,_,hx,_=>by unfold ib at hx;exact hx.elim
 |.bl _,_,_,hx,_=>by unfold ib at hx;exact hx.elim
 |.str _,_,_,hx,_=>by unfold ib at hx;exact hx.elim
 |.lst _,_,_,hx,_=>by unfold ib at hx;exact hx.elim
 |.obj _ _ _,_,_,hx,_=>by unfold ib at hx;exact hx.elim
 |.fn _ _,_,_,hx,_=>by unfold ib at hx;exact hx.elim
theorem ia.inj{h:Heap}:∀{xs ys:[21]}{vs:[19]},ia h xs vs->ia h ys vs->xs=ys
 |[],ys,vs,hx,hy=>by
  cases ys with
  |nil=>rfl
  |cons y ys=>obtain⟨v,r,e,_⟩:=dS.mp hy;rw[fP.mp hx] at e;cases e
 |x::xs,ys,vs,hx,hy=>by
  obtain⟨v,r,rfl,k1,t1⟩:=dS.mp hx;cases ys with
  |nil=>cases fP.mp hy
  |cons y ys=>
   obtain⟨v',r',e,k2,t2⟩:=dS.mp hy;cases e;rw[ib.inj k1 k2,ia.inj t1 t2]
end
theorem IsTuple.keepK{h h':Heap}{d a:Addr}{o:Obj}{es ep}{items:Array Value}(x:h.IsTuple a items)(ho:h.get? d=(6,o))(hd:o.data=.dict es ep)(hs:Heap.SameBut d h h'):h'.IsTuple a items:=by
 obtain⟨o',ho',hc,n,hd'⟩:=x;have hne:a≠d:=by
  rintro rfl
  obtain rfl:o'=o:=Option.some.inj (ho'.symm.trans ho);rw[hd] at hd';exact nomatch hd'
 exact⟨o',(hs.2 a hne).trans ho',hc,n,hd'⟩
mutual
theorem ib.keeps{h h':Heap}(k:∀a items,h.IsTuple a items->h'.IsTuple a items):∀{x:D}{v:Value},ib h x v->ib h' x v
 |.int i,v,hx=>g9.mpr (g9.mp hx)
 |.tup ds,v,hx=>by
  obtain⟨a,its,e,t,q⟩:=gZ.mp hx;exact gZ.mpr ⟨a,its,e,k _ _ t,ia.keeps k q⟩
 |.non,_,hx=>by unfold ib at hx;exact hx.elim
 |.bl _,_,hx=>by unfold ib at hx;exact hx.elim
 |.str _,_,hx=>by unfold ib at hx;exact hx.elim
 |.lst _,_,hx=>by unfold ib at hx;exact hx.elim
 |.obj _ _ _,_,hx=>by unfold ib at hx;exact hx.elim
 |.fn _ _,_,hx=>by unfold ib at hx;exact hx.elim
theorem ia.keeps{h h':Heap}(k:∀a items,h.IsTuple a items->h'.IsTuple a items):∀{xs:[21]}{vs:[19]},ia h xs vs->ia h' xs vs
 |[],vs,hx=>fP.mpr (fP.mp hx)
 |x::xs,vs,hx=>by
  obtain⟨v,r,e,k1,t1⟩:=dS.mp hx;exact dS.mpr ⟨v,r,e,ib.keeps k k1,ia.keeps k t1⟩
end
section
variable{prog:Program}{w:World}{E:Value->Shared->Prop}
theorem ED{a:Addr}{s:Shared}{A:Around}{Q:Int->Shared->Prop}(hT:s.TypeIs (10,a) "tuple")(hu:A.units<cLine)
  (body:(1,prog,w,A.in1,Builtin.«tuple.__hash__» (5,[(10,a)],[]),(λfin s'=>∃n t,fin=.done (.ret (.int n t))/\Q (reduceHash n) s'),E,s)):(1,prog,w,A,pyHash (10,a),Q,E,s):=by
 unfold pyHash
 first|unfold pyHashByItsType|skip
 first|refine(3,wpAny_cRoomFor_or (.inr hu) ?_)|skip
 refine(3,wpAny_specialOf hT F.slot_tuple_hash.lookup ?_);show wpAny _ _ (if((6,Value.builtin "tuple.__hash__") == (6,Value.none))=true then _ else _) Q E s;rw[(42,(by rw[beq_builtin_none];exact Bool.false_ne_true))]
 refine(3,wpAny_specialOf hT F.slot_tuple_hash.lookup ?_);show wpAny _ _ (callSpecialIfBoundUnlessNone? (10,a) "__hash__" _ >>= _) Q E s;refine(3,wpAny_callSpecialIfBoundUnlessNone?_slot hT F.slot_tuple_hash (wpAny_call_entry F.slot_tuple_hash hT F.entry_tuple_hash (wpAny_mono body ?_ λ_ _ x=>x) (F.args_tuple_hash_1 _)))
 rintro fin s' ⟨n,t,rfl,h⟩
 refine(12,_,rfl,?_);show wpAny _ _ (if(decide (-(2:Int) ^ 63<=n) && decide (n<2 ^ 63))=true then _ else _) Q E _;unfold reduceHash at h;by_cases hr:(decide (-(2:Int) ^ 63<=n) && decide (n<2 ^ 63))=true
 ·rw[(39,hr)];rw[(39,hr)] at h;exact(8,h)
 ·rw[(42,hr)];rw[(42,hr)] at h;exact(3,wpAny_rule (8,h))
mutual
theorem Cm:∀(k:D)(v:Value)(A:Around)(s:Shared)(Q:Int->Shared->Prop),ib s.heap k v->A.units+qU k<cLine->Q (Cn k) {s with toks:=s.toks+yf k}->(1,prog,w,A,pyHash v,Q,E,s)
 |.int i,v,A,s,Q,x,hu,h=>by
  obtain⟨t,rfl⟩:=g9.mp x;exact wpAny_pyHash_int h
 |.tup ds,v,A,s,Q,x,hu,h=>by
  obtain⟨a,items,rfl,tu,ks⟩:=gZ.mp x;obtain⟨o,ho,hc,n,hd⟩:=id tu;refine ED (12,o,ho,hc) [11] ?_
  show wpAny _ _ (Builtin.Tuple.tupleItemsOf (10,a) >>= _) _ _ s;refine(3,wpAny_tupleItemsOf ho hd ?_);refine(3,?_);rw[←Array.forIn_toList];have hu':A.units+(ik ds+1)<cLine:=hu;refine vq ds items.toList A.in1 s #[] _ ks (by show A.units+1+ik ds<cLine;omega) λb hb=>?_
  show wpAny _ _ (retInt (Builtin.Tuple.tupleHashOf b.toList)) _ _ _;rw[hb];refine(3,wpAny_mkInt (8,(9,_,_,rfl,?_)));have h':Q (reduceHash (Builtin.Tuple.tupleHashOf (rQ ds))) {s with toks:=s.toks+(pT ds+1)}:=h;simpa [Nat.add_assoc] using h'
 |.non,_,_,_,_,x,_,_=>by unfold ib at x;exact x.elim
 |.bl _,_,_,_,_,x,_,_=>by unfold ib at x;exact x.elim
 |.str _,_,_,_,_,x,_,_=>by unfold ib at x;exact x.elim
 |.lst _,_,_,_,_,x,_,_=>by unfold ib at x;exact x.elim
 |.obj _ _ _,_,_,_,_,x,_,_=>by unfold ib at x;exact x.elim
 |.fn _ _,_,_,_,_,x,_,_=>by unfold ib at x;exact x.elim
theorem vq:∀(ds:[21])(vs:[19])(A:Around)(s:Shared)(b:Array Int)(Q:Array Int->Shared->Prop),ia s.heap ds vs->A.units+ik ds<cLine->
  (∀b',b'.toList=b.toList++rQ ds->Q b' {s with toks:=s.toks+pT ds})->
  (1,prog,w,A,(forIn vs b λx r=>do let h ←pyHash x;pure PUnit.unit;pure (ForInStep.yield (r.push h))),Q,E,s)
 |[],vs,A,s,b,Q,x,hu,h=>by
  rw[fP.mp x];exact(8,h b (by simp[rQ]))
 |d::ds,vs,A,s,b,Q,x,hu,h=>by
  obtain⟨v,r,rfl,k1,t1⟩:=dS.mp x;have hu':A.units+max (qU d) (ik ds)<cLine:=hu;rw[List.forIn_cons];refine(3,(3,Cm d v A s _ k1 [11] ?_))
  refine(3,(8,(8,?_)));refine vq ds r A {s with toks:=s.toks+yf d} _ Q t1 [11] λb' hb=>?_
  have:=h b' (by rw[hb];simp[rQ])
  have e:s.toks+pT (d::ds)=s.toks+yf d+pT ds:=by show s.toks+(yf d+pT ds)=_;omega
  rw[e] at this;exact this
end
theorem ia.length{h:Heap}:∀{ds:[21]}{vs:[19]},ia h ds vs->ds.length=vs.length
 |[],vs,x=>by rw[fP.mp x];rfl
 |d::ds,vs,x=>by obtain⟨v,r,e,_,t⟩:=dS.mp x;rw[e,length_cons,length_cons,ia.length t]
mutual
theorem K8:∀(x y:D)(v u:Value)(A:Around)(s:Shared),ib s.heap x v->ib s.heap y u->A.units+qU x<cLine->A.units+qU y<cLine->EqAt A s v u (decide (x=y))
 |.int i,y,v,u,A,s,hx,hy,h1,h2=>by
  obtain⟨t,rfl⟩:=g9.mp hx;cases y with
  |int j=>
   obtain⟨t',rfl⟩:=g9.mp hy;have e:decide ((D.int i)=D.int j)=(i == j):=by
    rw[Bool.eq_iff_iff,beq_iff_eq,decide_eq_true_eq];exact(5,λz=>by injection z,λz=>by rw[z])
   rw[e];exact EqAt.int_int i t j t'
  |tup es=>
   obtain⟨b,its,rfl,tu,_⟩:=gZ.mp hy;rw[(50,(λz=>by cases z))]
   exact EqAt.int_tuple i t tu [11]
  |_=>unfold ib at hy;exact hy.elim
 |.tup ds,y,v,u,A,s,hx,hy,h1,h2=>by
  obtain⟨a,its,rfl,tu,ks⟩:=gZ.mp hx;have h1':A.units+(ik ds+1)<cLine:=h1;cases y with
  |int j=>
   obtain⟨t',rfl⟩:=g9.mp hy;rw[(50,(λz=>by cases z))]
   exact EqAt.tuple_int j t' tu [11]
  |tup es=>
   obtain⟨b,its2,rfl,tu2,ks2⟩:=gZ.mp hy;have h2':A.units+(ik es+1)<cLine:=h2;by_cases c:a=b
   ·subst c;rw[sA tu2 tu] at ks2;rw[ks.inj ks2,decide_eq_true rfl];exact EqAt.same _
   ·have e:=RcAt.tuples tu tu2 (A:=A) [11] (e:=λj=>decide (ds[j]?=es[j]?)) λj l1 l2=>by
     have q:=FN ds es its.toList its2.toList A.in1 s ks ks2 (by show A.units+1+_<_;omega) (by show A.units+1+_<_;omega) j (by simpa using l1) (by simpa using l2)
     simpa using q
    refine EqAt.of_refs c ?_;have l1:ds.length=its.size:=by rw[ia.length ks,length_toList]
    have l2:es.length=its2.size:=by rw[ia.length ks2,length_toList]
    have eb:((23,min its.size its2.size).all (λj=>decide (ds[j]?=es[j]?)) && its.size == its2.size)=decide (D.tup ds=D.tup es):=by
     rw[Bool.eq_iff_iff,Bool.and_eq_true,all_eq_true,beq_iff_eq,decide_eq_true_eq];constructor
     ·rintro ⟨q1,q2⟩
      rw[show ds=es from List.ext_getElem? λj=>by
       by_cases hj:j<its.size
       ·exact of_decide_eq_true (q1 j (mem_range.mpr [11]))
       ·rw[getElem?_eq_none [11],getElem?_eq_none [11]]]
     ·intro z;injection z with z;subst z;exact(53,λj _=>decide_eq_true rfl)
    rw[eb] at e;exact e
  |_=>unfold ib at hy;exact hy.elim
 |.non,_,_,_,_,_,x,_,_,_=>by unfold ib at x;exact x.elim
 |.bl _,_,_,_,_,_,x,_,_,_=>by unfold ib at x;exact x.elim
 |.str _,_,_,_,_,_,x,_,_,_=>by unfold ib at x;exact x.elim
 |.lst _,_,_,_,_,_,x,_,_,_=>by unfold ib at x;exact x.elim
 |.obj _ _ _,_,_,_,_,_,x,_,_,_=>by unfold ib at x;exact x.elim
 |.fn _ _,_,_,_,_,_,x,_,_,_=>by unfold ib at x;exact x.elim
theorem FN:∀(ds es:[21])(vs us:[19])(A:Around)(s:Shared),ia s.heap ds vs->ia s.heap es us->A.units+ik ds<cLine->A.units+ik es<cLine->∀(j:Nat)(h1:j<vs.length)(h2:j<us.length),EqAt A s vs[j] us[j] (decide (ds[j]?=es[j]?))
 |[],es,vs,us,A,s,x,y,hu1,hu2,j,h1,h2=>by rw[fP.mp x] at h1;cases h1
 |d::ds,[],vs,us,A,s,x,y,hu1,hu2,j,h1,h2=>by rw[fP.mp y] at h2;cases h2
 |d::ds,e::es,vs,us,A,s,x,y,hu1,hu2,j,h1,h2=>by
  obtain⟨v,r,rfl,k1,t1⟩:=dS.mp x;obtain⟨u,q,rfl,k2,t2⟩:=dS.mp y;have hu1':A.units+max (qU d) (ik ds)<cLine:=hu1;have hu2':A.units+max (qU e) (ik es)<cLine:=hu2;cases j with
  |zero=>
   have z:=K8 d e v u A s k1 k2 [11] [11]
   have ee:decide ((d::ds)[0]?=(e::es)[0]?)=decide (d=e):=by
    rw[Bool.eq_iff_iff,decide_eq_true_eq,decide_eq_true_eq];exact(5,λz=>Option.some.inj z,λz=>congrArg some z)
   rw[ee];exact z
  |succ j=>
   have z:=FN ds es r q A s t1 t2 [11] [11] j (by simpa using h1) (by simpa using h2)
   simpa using z
end
mutual
theorem xQ:∀(k:D)(v:Value)(n:Nat)(A:Around)(s:Shared)(Q:Bool->Shared->Prop),ib s.heap k v->qU k<=n->Q true s->(1,prog,w,A,eqIsQuiet n v,Q,E,s)
 |.int i,v,n,A,s,Q,x,hn,h=>by
  obtain⟨t,rfl⟩:=g9.mp x;rw[eqIsQuiet_byValue n (v:=.int i t) rfl];exact(8,h)
 |.tup ds,v,n,A,s,Q,x,hn,h=>by
  obtain⟨a,items,rfl,tu,ks⟩:=gZ.mp x;obtain⟨o,ho,hc,m,hd⟩:=id tu;have hn':ik ds+1<=n:=hn;cases n with
  |zero=>omega
  |succ n=>
   have hT:s.TypeIs (10,a) "tuple" := (12,o,ho,hc);unfold eqIsQuiet;refine(3,wpAny_specialOf hT F.slot_tuple_eq.lookup ?_);show wpAny _ _ (isInstance (10,a) (52,"tuple") >>= _) _ _ s;refine(3,wpAny_isInstance hT isSubtype_tuple_tuple ?_);simp only[Bool.not_true,Bool.false_eq_true,if_false];refine(3,wpAny_seqItems ho hd ?_);refine(3,?_);show wpAny _ _ (forIn items _ _) _ _ s;rw[←Array.forIn_toList];refine wpAny_forIn_list _ (λrest r s'=>r.1=none/\s'=s/\∃ds',ia s.heap ds' rest/\ik ds'<=n/\∀d∈ds',d∈ds) _ ?_ ?_ _ _ ⟨rfl,rfl,ds,ks,by omega,λ_ z=>z⟩
   ·rintro v rest r s' ⟨hr,rfl,ds',hall,hdep,hsub⟩
    cases ds' with
    |nil=>cases fP.mp hall
    |cons d ds'=>
     obtain⟨v',r',e,k1,t1⟩:=dS.mp hall;cases e;have hd1:max (qU d) (ik ds')<=n:=hdep;refine(3,xP ds d (hsub d mem_cons_self) v n A s' _ k1 [11] ?_)
     simp only[Bool.not_true,Bool.false_eq_true,if_false];exact(8,⟨rfl,rfl,ds',t1,by omega,λz hz=>hsub z (31,hz)⟩)
   ·rintro ⟨r1,r2⟩ s' ⟨hr,rfl,_⟩
    simp only at hr;subst hr;exact(8,h)
 |.non,_,_,_,_,_,x,_,_=>by unfold ib at x;exact x.elim
 |.bl _,_,_,_,_,_,x,_,_=>by unfold ib at x;exact x.elim
 |.str _,_,_,_,_,_,x,_,_=>by unfold ib at x;exact x.elim
 |.lst _,_,_,_,_,_,x,_,_=>by unfold ib at x;exact x.elim
 |.obj _ _ _,_,_,_,_,_,x,_,_=>by unfold ib at x;exact x.elim
 |.fn _ _,_,_,_,_,_,x,_,_=>by unfold ib at x;exact x.elim
theorem xP:∀(ds:[21])(d:D),d∈ds->∀(v:Value)(n:Nat)(A:Around)(s:Shared)(Q:Bool->Shared->Prop),ib s.heap d v->qU d<=n->Q true s->(1,prog,w,A,eqIsQuiet n v,Q,E,s)
 |[],d,hd,_,_,_,_,_,_,_,_=>nomatch hd
 |e::ds,d,hd,v,n,A,s,Q,x,hn,h=>by
  by_cases c:d=e
  ·exact xQ e v n A s Q (c▸x) (c▸hn) h
  ·exact xP ds d ((mem_cons.mp hd).resolve_left c) v n A s Q x hn h
end
end
noncomputable def j6(prog:Program)(w:World):HeapKind prog w D where
 is:=λh d a=>ib h d (10,a)/\qU d<=6
 hash:=Cn
 draws:=yf
 room:=λA=>A.units+6<cLine
 inj:=λhx hy=>hx.1.inj hy.1
 keeps:=λx ho hd hs=>(5,x.1.keeps λa items t=>IsTuple.keepK t ho hd hs,x.2)
 pyHash:=λhu hk h=>Cm _ _ _ _ _ hk.1 (by have:=hk.2;omega) h
 eqBool:=λhu hx hy h=>K8 _ _ _ _ _ _ hx.1 hy.1 (by have:=hx.2;omega) (by have:=hy.2;omega) _ _ _ _ h
 quiet:=λhk h=>xQ _ _ _ _ _ _ hk.1 (by have:=hk.2;omega) h
def fY(a:Addr)(xs:List (D×Addr×Value))(h:Heap):Prop:=((a == sysModules)=false/\xs.length<=sizeLine/\(xs.map (·.1)).Nodup)/\∃o es ep,h.get? a=(6,o)/\o.ExactDict/\o.data=.dict es ep/\es.toList=xs.map λx=>((12,Cn x.1,(10,x.2.1),x.2.2):DictEntry)
theorem fY.stay{a:Addr}{xs:List (D×Addr×Value)}{h h':Heap}(x:fY a xs h)(k:∀o,h.get? a=(6,o)->h'.get? a=(6,o)):fY a xs h':=by
 obtain⟨x1,o,es,ep,e,r⟩:=x;exact⟨x1,o,es,ep,k o e,r⟩
end L3
namespace L2
open PySem PySem.Spec PyProof.Rows
section
variable{X:Cx}{tg:Expr}
def Rr(K:Frag)(tl:TE):TI:=λσ H R=>tl σ H λx H1=>∃a,x=(10,a)/\(((∃xs,pA K H1 a xs)/\R (R3 K a) H1)\/((∃xs,rh K H1 a xs)/\R (R1 K a) H1))
theorem NL{l:Expr}{tl:TE}(hl:PE X l tl):PI X tg l (Rr X.K tl):=by
 intro pins s σ H R I h;refine df (hl pins s σ H _ I h) λv s1 ⟨x,H1,I1,r1,a,e,q1⟩=>?_;subst e;cases r1;have f1:∀b∈[s1.heap.objs.size],FpOk X pins H1 b:=λb hb=>by
  rw[(37,hb)];exact I1.fpOk [23] (I1.hok.fresh [23])
 rcases q1 with⟨⟨xs,hq⟩,q⟩|⟨⟨xs,hq⟩,q⟩
 ·obtain⟨its,rv,p,hz⟩:=I1.list hq;exact wpAny_pyIter_list p.isList ⟨s1.heap.objs.size,[s1.heap.objs.size],_,_,H1,rfl,I1.kept (t':=s1.toks) (λb o e=>(14,e)),G5 a _,(9,_,(35,_),rfl,rfl),f1,q⟩
 ·obtain⟨its,rv,p,hz⟩:=I1.tuple hq;exact wpAny_pyIter_tuple (show s1.heap.IsTuple a its.toArray from p) ⟨s1.heap.objs.size,[s1.heap.objs.size],_,_,H1,rfl,I1.kept (t':=s1.toks) (λb o e=>(14,e)),Dg a _,(9,_,(35,_),rfl,rfl),f1,q⟩
end
def Ai(scope:Scope)(env:PySem.Env):List (Str×Addr):=scope.names.foldl (λcs x=>if x.2 == .free then(x.1,(env.cells.lookup x.1).getD 0)::cs else cs) []
def dN(sc psc:Scope)(vars:[16]):Bool:=
 (sc.kind == .function) && sc.names.all λy=>(sc.names.lookup y.1 == (6,y.2)) && (match y.2 with
  |.local=>vars.contains y.1
  |.cell=>false
  |.free=>psc.names.lookup y.1 == (6,.cell) || psc.names.lookup y.1 == (6,.free)
  |_=>true)
def km(N vars:[16])(js:List Nat):Bool:=(23,N.length).all λi=>js.contains i || !(vars.contains (N.getD i (26,"")))
def iL(js:List Nat)(σ:St):St:=js.foldl (λσ j=>σ.set j none) σ
theorem nu(js:List Nat):∀σ:St,(iL js σ).length=σ.length:=by
 induction js with
 |nil=>intro σ;rfl
 |cons j js ih=>intro σ;show(iL js (σ.set j none)).length=_;rw[ih,length_set]
theorem Cu(js:List Nat):∀(σ:St)(i:Nat)(v:V),(iL js σ)[i]?=(21,v)->i∉js/\σ[i]?=(21,v):=by
 induction js with
 |nil=>intro σ i v h;exact(5,by simp,h)
 |cons j js ih=>
  intro σ i v h;obtain⟨h1,h2⟩:=ih (σ.set j none) i v h;by_cases hj:j=i
  ·subst hj;by_cases hl:j<σ.length
   ·rw[(32,hl)] at h2;cases h2
   ·rw[getElem?_eq_none (by rw[length_set];omega)] at h2;cases h2
  ·rw[(34,hj)] at h2;exact(5,by simp[h1,Ne.symm hj],h2)
section
variable{sc psc:Scope}{vars:List Str}
theorem qX(h:dN sc psc vars=true):sc.kind=.function:=by
 unfold dN at h;exact eq_of_beq (Bool.and_eq_true_iff.mp h).1
theorem pW(h:dN sc psc vars=true):∀y∈sc.names,sc.names.lookup y.1=(6,y.2)/\(y.2=.local->y.1∈vars)/\y.2≠.cell/\(y.2=.free->psc.names.lookup y.1=(6,.cell)\/psc.names.lookup y.1=(6,.free)):=by
 intro y hy;unfold dN at h;have h2:=all_eq_true.mp (Bool.and_eq_true_iff.mp h).2 y hy;obtain⟨h3,h4⟩:=Bool.and_eq_true_iff.mp h2;refine(9,eq_of_beq h3,λe=>?_,λe=>?_,λe=>?_)
 ·rw[e] at h4;exact List.contains_iff_mem.mp h4
 ·rw[e] at h4;cases h4
 ·rw[e] at h4;rcases Bool.or_eq_true_iff.mp h4 with z|z
  ·exact .inl (eq_of_beq z)
  ·exact .inr (eq_of_beq z)
theorem gC{α β:Type}[BEq α][LawfulBEq α]:∀{l:List (α×β)}{x:α}{v:β},l.lookup x=(6,v)->(x,v)∈l
 |[],_,_,h=>by cases h
 | (y,w)::l,x,v,h=>by
  rw[lookup_cons] at h;cases hb:x == y with
  |true=>
   rw[hb] at h;cases h;rw[eq_of_beq hb];exact mem_cons_self
  |false=>
   rw[hb] at h;exact(31,gC h)
end
theorem Ms(scope:Scope)(env:PySem.Env):∀(l:List (Str×NameKind))(acc:List (Str×Addr)),(∀p∈acc,env.cells.lookup p.1=(6,p.2))->(∀y∈l,y.2=.free->∃c,env.cells.lookup y.1=(6,c))->
  ∀p∈l.foldl (λcs x=>if x.2 == .free then(x.1,(env.cells.lookup x.1).getD 0)::cs else cs) acc,env.cells.lookup p.1=(6,p.2):=by
 intro l
 induction l with
 |nil=>intro acc h _;exact h
 |cons y l ih=>
  intro acc h hf;rw[foldl_cons];refine ih _ ?_ λz hz=>hf z (31,hz);split
  ·rename_i hb;intro p hp;rcases mem_cons.mp hp with e|hp
   ·obtain⟨c,hc⟩:=hf y mem_cons_self (eq_of_beq hb);rw[e,hc];rfl
   ·exact h p hp
  ·exact h
theorem Kk(scope:Scope)(env:PySem.Env):∀(l:List (Str×NameKind))(acc:List (Str×Addr))(x:Str),((x,NameKind.free)∈l\/∃c,(x,c)∈acc)->
  ∃c,(x,c)∈l.foldl (λcs x=>if x.2 == .free then(x.1,(env.cells.lookup x.1).getD 0)::cs else cs) acc:=by
 intro l
 induction l with
 |nil=>
  intro acc x h;rcases h with h|h
  ·cases h
  ·exact h
 |cons y l ih=>
  intro acc x h;rw[foldl_cons];refine ih _ x ?_;rcases h with h|⟨c,h⟩
  ·rcases mem_cons.mp h with e|h
   ·subst e;exact .inr (5,_,by rw[(39,by rfl)];exact mem_cons_self)
   ·exact .inl h
  ·refine .inr (5,c,?_);split
   ·exact(31,h)
   ·exact h
theorem oZ{scope:Scope}{env:PySem.Env}(hf:∀y∈scope.names,y.2=.free->∃c,env.cells.lookup y.1=(6,c)):closureFor scope env=pure (Ai scope env):=by
 have go:∀(l:List (Str×NameKind))(acc:List (Str×Addr)),(∀y∈l,y.2=.free->∃c,env.cells.lookup y.1=(6,c))->
   (forIn l acc λx cs=>do
    if x.2 == .free then pure (ForInStep.yield ((x.1,←cellOf env x.1)::cs)) else pure (ForInStep.yield cs):Sem (List (Str×Addr)))=
   pure (l.foldl (λcs x=>if x.2 == .free then(x.1,(env.cells.lookup x.1).getD 0)::cs else cs) acc):=by
  intro l
  induction l with
  |nil=>intro acc _;rfl
  |cons y l ih=>
   intro acc h;rw[List.forIn_cons,foldl_cons];cases hb:y.2 == NameKind.free with
   |true=>
    obtain⟨c,hc⟩:=h y mem_cons_self (eq_of_beq hb);have e1:cellOf env y.1=pure c:=by unfold cellOf;rw[hc]
    simp only[if_true,e1,pure_bind,hc,Option.getD_some];exact ih _ λz hz=>h z (31,hz)
   |false=>
    simp only[Bool.false_eq_true,if_false,pure_bind];exact ih _ λz hz=>h z (31,hz)
 have:=go scope.names [] hf;unfold closureFor;simpa [Ai] using this
def dm(X:Cx)(scope:Scope)(fp:List Addr)(s:Shared)(H:Hp)(C:Addr):Cx:=
 {X with s₀:=s,H₀:=H,env:=compEnvC scope (Ai scope X.env) C X.env,outer:=X.stack,ex:=fp,fn:=λ_=>false,pn:=[],xe:=λ_ _=>False}
theorem su(f:Str->NameKind->NameKind):∀(l:List (Str×NameKind))(x:Str),(l.map λy=>(y.1,f y.1 y.2)).lookup x=(l.lookup x).map (f x)
 |[],_=>rfl
 | (n,k)::l,x=>by
  rw[map_cons,lookup_cons,lookup_cons];cases hb:x == n with
  |true=>rw[eq_of_beq hb];rfl
  |false=>exact su f l x
theorem mP(scope:Scope)(env:PySem.Env)(x:Str):(relabel scope env).names.lookup x=(scope.names.lookup x).map λk=>if(k == NameKind.free && env.scope.kind == .function && env.kindOf x == (6,.cell))=true then NameKind.cell else k:=by
 rw[←su (λn k=>if(k == NameKind.free && env.scope.kind == .function && env.kindOf n == (6,.cell))=true then NameKind.cell else k)];unfold relabel;dsimp only;congr 1;refine map_congr_left λy _=>?_;obtain⟨n,k⟩:=y;dsimp only;split <;> rfl
theorem lZ{scope psc:Scope}{env:PySem.Env}{vars:[16]}{x:Str}(hc:dN scope psc vars=true)(h:(relabel scope env).names.lookup x=(6,.cell)\/(relabel scope env).names.lookup x=(6,.free)):scope.names.lookup x=(6,.free):=by
 rw[mP] at h;cases hl:scope.names.lookup x with
 |none=>rw[hl] at h;simp at h
 |some k=>
  obtain⟨_,h2,h3,_⟩:=pW hc _ (gC hl);rw[hl] at h;cases k with
  |free=>rfl
  |cell=>exact absurd rfl h3
  |_=>simp at h
theorem Bh{scope psc:Scope}{env:PySem.Env}{vars:[16]}{x:Str}(hc:dN scope psc vars=true)(h:HQ (relabel scope env) x):
  (x∈vars)\/(scope.names.lookup x=(6,.free)/\((relabel scope env).names.lookup x=(6,.cell)\/(relabel scope env).names.lookup x=(6,.free))):=by
 rcases h with h|h|h
 ·rw[mP] at h;cases hl:scope.names.lookup x with
  |none=>rw[hl] at h;simp at h
  |some k=>
   obtain⟨_,h2,h3,_⟩:=pW hc _ (gC hl);rw[hl] at h;cases k with
   |«local»=>exact .inl (h2 rfl)
   |cell=>exact absurd rfl h3
   |free=>
    simp only[Option.map_some] at h;split at h <;> simp at h
   |_=>simp at h
 ·exact .inr (5,lZ hc (.inl h),.inl h)
 ·exact .inr (5,lZ hc (.inr h),.inr h)
theorem CT{scope psc:Scope}{env:PySem.Env}{vars:[16]}(hc:dN scope psc vars=true)(hf:∀y∈scope.names,y.2=.free->∃c,env.cells.lookup y.1=(6,c)):
  (∀x c,(Ai scope env).lookup x=(6,c)->env.cells.lookup x=(6,c))/\∀x,scope.names.lookup x=(6,.free)->∃c,(Ai scope env).lookup x=(6,c)/\env.cells.lookup x=(6,c):=by
 have h1:∀x c,(Ai scope env).lookup x=(6,c)->env.cells.lookup x=(6,c):=λx c e=>Ms scope env scope.names [] (λ_ z=>nomatch z) hf (x,c) (gC e)
 refine(5,h1,λx e=>?_);obtain⟨c,hm⟩:=Kk scope env scope.names [] x (.inl (gC e));cases q:(Ai scope env).lookup x with
 |some d=>exact(12,d,rfl,h1 x d q)
 |none=>
  have:=List.lookup_eq_none_iff.mp q _ hm;simp at this
section
variable{X:Cx}{pins:List (Addr×Obj)}{σ:St}{H:Hp}{s:Shared}{scope:Scope}{vars:List Str}{js:List Nat}{fp:List Addr}{C:Addr}{h₁:Heap}{tk:Nat}
theorem rT(I:(20,H,s))(hc:dN scope X.env.scope vars=true):∀y∈scope.names,y.2=.free->∃c,(54,y.1)=(6,c):=λy hy e=>by
 obtain⟨_,_,_,h⟩:=pW hc y hy;exact I.ok.has y.1 (h e)
theorem JO(I:(20,H,s))(hc:dN scope X.env.scope vars=true)(hj:km X.N vars js=true)(hC:C=s.heap.objs.size)(hfp:∀b∈fp,FpOk X pins H b)(hfo:∀b∈fp,b<s.heap.objs.size)
  {m:Str->[26]} (hns:h₁.Ns C m) (keep:∀b o,(25,b)=(6,o)->h₁.get? b=(6,o)):
  aR (dm X scope fp s H C) [] (iL js σ) H {s with heap:=h₁,toks:=tk}:=by
 have hf:=rT I hc;obtain⟨cl1,cl2⟩:=CT hc hf;have ok:(dm X scope fp s H C).Ok:=by
  refine⟨I.ok.mod,?_,I.ok.glob,I.ok.blt,le_of_eq hC.symm,λx y c h1 h2=>I.ok.inj x y c (cl1 x c h1) (cl1 y c h2),λx hx=>?_,(λx c z=>nomatch z),I.ok.hd,I.ok.frames,Or.inl rfl,λb hb=>?_,I.bs,le_trans I.ok.bsz I.sz,λb o e hb=>?_,λb hb z=>?_,I.stack,I.stkFree⟩
  ·show scope.kind=.function;exact qX hc
  ·obtain⟨c,z,_⟩:=cl2 x (lZ hc hx);exact(5,c,z)
  ·obtain⟨_,_,_,_,f4,_⟩:=hfp b hb;refine(5,λz=>?_,λx c e=>f4 x c (cl1 x c e));have h1:=hfo b hb;have h2:b=C:=z;rw[h2,hC] at h1;exact lt_irrefl _ h1
  ·obtain⟨_,_,_,f3,_⟩:=hfp b hb;rcases f3 with z|z
   ·exact I.ok.noex b o e z
   ·exact absurd (11,(51,(I.ok.bs b o e).1),z) (lt_irrefl _)
  ·obtain⟨_,f1,f2,_⟩:=hfp b hb;rcases mem_cons.mp (I.stkSub b z) with e|e
   ·exact f1 e
   ·exact f2 e
 refine⟨ok,rfl,I.bare,Un.kept keep,(12,m,hns,λi x v e1 e2 e3=>?_),λx c e=>?_,?_,λx c e=>I.freeC x c (cl1 x c e),(λp hp=>nomatch hp),I.hok.kept keep,?_⟩
 ·obtain⟨nj,e2⟩:=Cu js σ i v e2;rcases Bh hc e3 with hm|⟨ef,hk⟩
  ·exfalso;have hi:i<X.N.length:=(12,e1).1;have hq:=all_eq_true.mp hj i (mem_range.mpr hi);rcases Bool.or_eq_true_iff.mp hq with z|z
   ·exact nj (List.contains_iff_mem.mp z)
   ·rw[getD_eq_getElem?_getD,show X.N[i]?=(6,x) from e1] at z;have hm':vars.contains x=true:=List.contains_iff_mem.mpr hm;rw[Option.getD_some,hm'] at z;cases z
  ·obtain⟨c,z1,z2⟩:=cl2 x ef;obtain⟨m0,_,hl⟩:=I.loc;obtain⟨_,_,_,hp⟩:=pW hc _ (gC ef);have hv:HQ X.env.scope x:=(hp rfl).elim (λz=>.inr (.inl z)) λz=>.inr (.inr z);obtain⟨u,r,l⟩:=hl i x v e1 e2 hv;refine(12,u,r,.inr (9,hk,c,z1,?_));rcases l with⟨k,_⟩|⟨_,c',e,q⟩
   ·have k':(24,x)=(6,.local):=k;rcases hp rfl with z|z
    ·have z':(24,x)=(6,.cell):=z;rw[k'] at z';cases z'
    ·have z':(24,x)=(6,.free):=z;rw[k'] at z';cases z'
   ·rw[z2] at e;cases e;obtain⟨o,ho,hd⟩:=q;exact(12,o,keep _ o ho,hd)
 ·obtain⟨v,o,ho,hd⟩:=I.cell x c (cl1 x c e);exact(9,v,o,keep _ o ho,hd)
 ·exact I.hok.fresh (le_of_eq hC.symm)
 ·rw[nu];exact I.len
end
abbrev Fl:Value->Shared->Prop:=λ_ _=>False
theorem fl{α:Type}{M:Model}{A:Around}{t:Sem α}{Q Q':α->Shared->Prop}{E:Value->Shared->Prop}{s:Shared}(h:wpAny M A t Q Fl s)(k:∀a s,Q a s->Q' a s):wpAny M A t Q' E s:=wpAny_mono h k λ_ _ z=>z.elim
def FT(ifs:List Expr)(env:PySem.Env):Sem Bool:=forIn ifs true λc r=>if r=true then do let ok ←isTrue c env (eval c env);pure (ForInStep.yield ok) else pure (ForInStep.yield r)
theorem HB{prog:Program}{w:World}{A:Around}{R:Result->Shared->Prop}{s:Shared}{elt target iter:Expr}{ifs:List Expr}{scope:Scope}{pos:Pos}{it acc:Value}{env:PySem.Env}(Iv:Nat->Shared->Prop)
  (turn:∀n s,Iv n s->wpAny (model prog w) A (pyNext it) (λr s₁=>match r with
   |none=>R (.ok .next) s₁
   |some v=>wpAny (model prog w) A (letOwnedTupleGo target it v) (λ_ s₂=>wpAny (model prog w) A (assign target env v) (λ_ s₃=>wpAny (model prog w) A (FT ifs env) (λok s₄=>
     if ok=true then(1,prog,w,A,eval elt env,(λx s₅=>(1,prog,w,A,call (40,"list.append") [acc,x],(λ_ s₆=>∃m,m<n/\Iv m s₆),Fl,s₅)),Fl,s₄)
     else ∃m,m<n/\Iv m s₄) Fl s₃) Fl s₂) Fl s₁) Fl s)
  (n:Nat) (h:Iv n s):codeAny (model prog w) A (.compLoop (.ListComp elt [(9,target,iter,ifs,0)] scope pos) 0 it acc env) R s:=by
 refine codeAny_loop rfl Iv (λn s hI=>?_) n h;show wpAny _ A ((compTurn (.ListComp elt [(9,target,iter,ifs,0)] scope pos) 0 it acc env).onRaise _) _ _ s;refine wpAny_noted ?_;rw[compTurn_list];refine(3,wpAny_standAt (3,(fl (turn n s hI) λr s₁ h₁=>?_)));cases r with
 |none=>exact(8,h₁)
 |some v=>
  refine(3,(fl h₁ λ_ s₂ h₂=>(3,(fl h₂ λ_ s₃ h₃=>(3,(fl h₃ λok s₄ h₄=>?_))))));cases ok with
  |false=>exact(8,(5,rfl,h₄))
  |true=>exact(3,(3,(fl h₄ λx s₅ h₅=>(3,(fl h₅ λ_ s₆ h₆=>(8,(8,(5,rfl,h₆))))))))
def P3(X:Cx)(ifs:List Expr)(t:TT):Prop:=∀(pins:[18])(s:Shared)(σ:St)(H:Hp)(Q:Bool->Hp->Prop),(20,H,s)->t σ H Q->(1,X.prog,X.w,X.A,FT ifs X.env,TP X pins σ Q,X.xe,s)
def MN:TT:=λ_ H Q=>Q true H
theorem Ft{X:Cx}:P3 X [] MN:=λpins s σ H Q I h=>wpAny_tests_nil (12,H,I,h)
theorem Fs{X:Cx}{c:Expr}{t:TT}(h:PT X c t):P3 X [c] t:=λpins s σ H Q I q=>wpAny_tests_one (h pins s σ H Q I q)
def Ng(J:It)(g:TG)(tt:TT)(te:TE)(a:Addr)(Q:VK)(W:Nat->Nat->St->List V->Hp->Prop):Prop:=∀i m σ ys H,W i m σ ys H->H a=(6,(13,ys))/\
 ((J.stop i H/\Q (10,a) H)\/(J.go i H/\∀x H1,J.yld i H x H1->g x σ H1 λσ2 H2=>tt σ2 H2 λb H3=>
  if b=true then te σ2 H3 λy H4=>H4 a=(6,(13,ys))/\ys.length<sizeLine/\∃m',m'<m/\W (i+1) m' σ2 (ys++[y]) (cA H4 a (13,(ys++[y]))) else ∃m',m'<m/\W (i+1) m' σ2 ys H3))
def Ii(js:List Nat)(wi:TI)(g:TG)(tt:TT)(te:TE):TE:=λσ H Q=>wi σ H λJ H1=>∀a,H1 a=none->∃W,(∃m,W 0 m (iL js σ) [] (cA H1 a (13,[])))/\Ng J g tt te a Q W
section
variable{X:Cx}{scope:Scope}{vars:List Str}{js:List Nat}{elt tg iter:Expr}{ifs:List Expr}{pos:Pos}{wi:TI}{g:TG}{tt:TT}{te:TE}
theorem yh{pins:[18]}{s:Shared}{σ:St}{H:Hp}{it:Addr}{fp:List Addr}{tn:Nat->Heap->Prop}{J:It}{Q:VK}{E:Value->Shared->Prop}{RR:Value->Addr->Result->Shared->Prop}(hc:dN scope X.env.scope vars=true)(hj:km X.N vars js=true)(hcalm:X.calm=true)
  (hg:∀fp s H C,PG (dm X scope fp s H C) tg g) (ht:∀fp s H C,P3 (dm X scope fp s H C) ifs tt) (he:∀fp s H C,PE (dm X scope fp s H C) elt te)
  (I:(20,H,s)) (T:Ku X.prog X.w X.K tg J fp it tn) (st:tn 0 s.heap) (hfp:∀b∈fp,FpOk X pins H b) (q:∀a,H a=none->∃W,(∃m,W 0 m (iL js σ) [] (cA H a (13,[])))/\Ng J g tt te a Q W)
  (fin:∀a C H' s' m,(20,H',s')->s'.heap.Ns C m->H' C=none->C≠X.env.locals->X.s₀.heap.objs.size<=C->(∀x c,(54,x)=(6,c)->c≠C)->(∀p∈X.pn++pins,p.1≠C)->Q (10,a) H'->RR (10,a) C (.ok .next) s'):
  wpAny (model X.prog X.w) X.A (newList []) (λacc s₃=>wpAny (model X.prog X.w) X.A (newFunctionEnv scope X.env.globals (Ai scope X.env) [] X.env.qual none .none (6,X.env)) (λcenv s₄=>
   codeAny (model X.prog X.w) X.A (.compStart (.ListComp elt [(9,tg,iter,ifs,0)] scope pos) 0 (10,it) acc {cenv with scope:=relabel scope X.env}) (RR acc cenv.locals) s₄) E s₃) E s:=by
 have nocell:∀y∈scope.names,y.2≠.cell:=λy hy=>(pW hc y hy).2.2.1;refine wpAny_newObj_type (wpAny_newFunctionEnv nocell (by intro y hy;simp at hy) (λh₁ hns hsb=>?_) (qX hc))
 dsimp only at hns hsb ⊢;generalize hA:s.heap.objs.size=a at *;have fa:H a=none:=by rw[←hA];exact I.fresh
 obtain⟨W,⟨m0,w0⟩,hW⟩:=q a fa;have I3:aR X pins σ (cA H a (13,[])) {s with heap:=s.heap.push {cls:=.type "list",data:=.seq ([]:List Value).toArray}}:=by
  rw[←hA];exact I.lnew (t':=s.toks) (ys:=[]) (its:=[]) .nil (zero_le _)
 generalize hB:s.heap.push {cls:=.type "list",dict:=none,data:=.seq ([]:List Value).toArray}=hp at *;have szp:hp.objs.size=a+1:=by rw[←hB,size_push,hA]
 have keep:∀b o,hp.get? b=(6,o)->h₁.get? b=(6,o):=λb o e=>(hsb.2 b (ne_of_lt (51,e))).trans (14,e);have up:∀b o,(25,b)=(6,o)->hp.get? b=(6,o):=λb o e=>by rw[←hB];exact(14,e)
 have lo:∀b∈fp,b<a:=λb hb=>by
  obtain⟨o,e,_⟩:=T.obj 0 _ st b hb;rw[←hA];exact(51,e)
 have hfp3:∀b∈fp,FpOk X pins (cA H a (13,[])) b:=λb hb=>(5,by rw[aE (ne_of_lt (lo b hb))];exact(hfp b hb).1,(hfp b hb).2)
 have I4:=JO (tk:=s.toks+([]:List (Str×Value)).length) I3 hc hj rfl hfp3 (λb hb=>by show b<hp.objs.size;rw[szp];exact lt_succ_of_lt (lo b hb)) hns keep
 generalize hX:dm X scope fp {s with heap:=hp} (cA H a (.lst [])) hp.objs.size=X' at I4;have eP:X'.prog=X.prog:=by rw[←hX];rfl
 have eW:X'.w=X.w:=by rw[←hX];rfl
 have eK:X'.K=X.K:=by rw[←hX];rfl
 have eA:X'.A=X.A:=by rw[←hX];rfl
 have eC:X'.calm=true:=by rw[←hX];exact hcalm
 have eL:X'.env.locals=hp.objs.size:=by rw[←hX];rfl
 have eE:X'.env=compEnvC scope (Ai scope X.env) hp.objs.size X.env:=by rw[←hX];rfl
 have eX:X'.ex=fp:=by rw[←hX];rfl
 have exe:X'.xe=Fl:=by rw[←hX];rfl
 have epn:X'.pn=[]:=by rw[←hX];rfl
 have hg':PG X' tg g:=by rw[←hX];exact hg _ _ _ _
 have ht':P3 X' ifs tt:=by rw[←hX];exact ht _ _ _ _
 have he':PE X' elt te:=by rw[←hX];exact he _ _ _ _
 have stat:∀{H':Hp},(∀b∈fp,H' b=none)->∀b∈fp,FpOk X' [] H' b:=λhn b hb=>by
  have hb':b∈X'.ex:=by rw[eX];exact hb
  exact⟨hn b hb,(I4.ok.exf b hb').1,I4.ok.exfs b hb',.inl hb',(I4.ok.exf b hb').2,λp hp=>by rw[epn] at hp;cases hp⟩
 have back:∀{σ':St}{H':Hp}{s':Shared},aR X' [] σ' H' s'->Q (10,a) H'->RR (10,a) hp.objs.size (.ok .next) s':=λ{σ' H' s'} J qf=>by
  obtain⟨m,hn,_⟩:=J.loc;rw[eL] at hn;have hfree:=J.free;rw[eL] at hfree;have jos:=J.os;have jbase:=J.base;have jhok:=J.hok;rw[←hX] at jos jbase jhok;refine fin a _ H' s' m (I3.call' (ch:=fp) jos jbase jhok J.bare λb hb=>(9,(hfp b hb).2.2.2.1,(hfp b hb).2.1,(hfp b hb).2.2.2.2.1,(hfp b hb).2.2.2.2.2)) hn hfree (ne_of_gt I3.lt) I3.sz (λx c e z=>?_) (λp hp' z=>?_) qf
  ·obtain⟨v,o,ho,_⟩:=I3.cell x c e;have:=(51,ho);rw[z] at this;exact lt_irrefl _ this
  ·have:=(51,(I3.pin p hp').1);rw[z] at this;exact lt_irrefl _ this
 have st1:tn 0 h₁:=T.keep 0 _ _ st λb hb o e=>keep b o (up b o e);have loop:codeAny (model X.prog X.w) X.A (.compLoop (.ListComp elt [(9,tg,iter,ifs,0)] scope pos) 0 (10,it) (10,a) X'.env) (RR (10,a) hp.objs.size) {s with heap:=h₁,toks:=s.toks+([]:List (Str×Value)).length}:=by
  refine HB (λn s'=>∃i σ' ys H',aR X' [] σ' H' s'/\tn i s'.heap/\(∀b∈fp,H' b=none)/\W i n σ' ys H') ?_ m0 ⟨0,_,[],_,I4,st1,λb hb=>(hfp3 b hb).1,w0⟩
  rintro n s3 ⟨i,σ3,ys,H3,J3,st3,fr3,w3⟩
  obtain⟨ha,hw⟩:=hW i n σ3 ys H3 w3;rcases hw with⟨stop,qn⟩|⟨go,step⟩
  ·have z:=T.done X' eP eW eK eC i [] s3 σ3 H3 Fl J3 (stat fr3) st3 stop;rw[eA] at z;refine df z λr s4 ⟨hr,J4⟩=>?_;subst hr;exact back J4 qn
  ·have z:=T.item X' eP eW eK eC i [] s3 σ3 H3 Fl J3 (stat fr3) st3 go;rw[eA] at z;refine df z λr s4 ⟨u,hr,h4⟩=>?_;subst hr;refine df h4 λ_ s5 ⟨x,H5,J5,r5,y5,st5,fr5⟩=>?_;have J5':=J5.pinned (stat fr5) (T.obj _ _ st5);have z5:=hg' _ s5 σ3 H5 x u _ J5' r5 (step x H5 y5);rw[eP,eW,eA,exe] at z5;refine df z5 λ_ s6 ⟨σ6,H6,J6,q6⟩=>?_;have z6:=ht' _ s6 σ6 H6 _ J6 q6;rw[eP,eW,eA,exe] at z6;refine df z6 λok s7 ⟨H7,J7,q7⟩=>?_;have again:∀{σ8:St}{H8:Hp}{s8:Shared}{ys8:List V}{m':Nat},aR X' ([]++uY fp s5.heap) σ8 H8 s8->m'<n->W (i+1) m' σ8 ys8 H8->∃m,m<n/\∃i σ' ys H',aR X' [] σ' H' s8/\tn i s8.heap/\(∀b∈fp,H' b=none)/\W i m σ' ys H':=λ{σ8 H8 s8 ys8 m'} J8 hm w8=>by
    refine⟨m',hm,i+1,σ8,ys8,H8,J8.unpinned,T.keep _ _ _ st5 λb hb o e=>(J8.pin (b,o) (41,(41,md hb e))).1,λb hb=>?_,w8⟩;obtain⟨o,e,d⟩:=T.obj _ _ st5 b hb;exact(J8.pin (b,o) (41,(41,md hb e))).2.1
   cases ok with
   |false=>
    rw[(42,[33])] at q7 ⊢;obtain⟨m',hm,w7⟩:=q7;exact again J7 hm w7
   |true=>
    rw[(39,rfl)] at q7 ⊢;have z7:=he' _ s7 σ6 H7 _ J7 q7;rw[eP,eW,eA,exe] at z7;refine df z7 λv s8 ⟨y,H8,J8,r8,h8,hl8,m',hm,w8⟩=>?_;have z8:=y0 _ s8 σ6 H8 (10,a) [y] (10,a) [v] (λ_ H9=>H9=cA H8 a (13,(ys++[y]))) J8 rfl (.cons r8 .nil) ⟨a,ys,y,rfl,rfl,h8,hl8,rfl⟩;rw[eP,eW,eA,exe] at z8;refine df z8 λ_ s9 ⟨_,H9,J9,_,q9⟩=>?_;subst q9;exact again J9 hm w8
 rw[eE] at loop;exact codeAny_compStart_list loop (T.self _ 0 _ _ _ st1 loop)
theorem Fu(hc:dN scope X.env.scope vars=true)(hj:km X.N vars js=true)(hcalm:X.calm=true)(hi:PI X tg iter wi)
  (hg:∀fp s H C,PG (dm X scope fp s H C) tg g) (ht:∀fp s H C,P3 (dm X scope fp s H C) ifs tt) (he:∀fp s H C,PE (dm X scope fp s H C) elt te) (hs:∀x,foldedSetIterable iter X.env x=pure x:=by intro _;rfl):
  PE X (.ListComp elt [(9,tg,iter,ifs,0)] scope pos) (Ii js wi g tt te):=by
 intro pins s σ H Q I h;rw[eval_ListComp];refine wpAny_comprehension_free (use:=none) rfl hs (oZ (rT I hc)) (qX hc) (λy hy e=>by rw[(pW hc y hy).1,e]) (df (hi pins s σ H _ I h) λv s1 h1=>df h1 λitv s2 h2=>?_)
 obtain⟨it,fp,tn,J,H2,e,I2,T,st2,f2,q⟩:=h2;subst e;refine yh (RR:=λacc C=>compPost (model X.prog X.w) X.A X.xe none (EP X pins σ Q) acc C) hc hj hcalm hg ht he I2 T st2 f2 q ?_;intro a C H' s' m J' hn hC hL hS hcell hpin q';exact(12,m,hn,λh' sb=>⟨(10,a),H',J'.turned (t':=s'.toks) (λb o hb e=>(sb.2 b hb).trans e) hC hL (.inr hS) hcell hpin,rfl,q'⟩)
theorem uV{i:Nat}{x:Str}{pos' spos:Pos}(hN:X.N.Nodup)(hi':X.N[i]?=(6,x))(hx:HM X.env.scope x)(hc:dN scope X.env.scope vars=true)(hj:km X.N vars js=true)(hcalm:X.calm=true)(hi:PI X tg iter wi)
  (hg:∀fp s H C,PG (dm X scope fp s H C) tg g) (ht:∀fp s H C,P3 (dm X scope fp s H C) ifs tt) (he:∀fp s H C,PE (dm X scope fp s H C) elt te)
  (hsw:(21,.ListComp elt [(9,tg,iter,ifs,0)] scope pos,(6,(6,x,pos')),spos.line)=pure true:=by rfl) (hs:∀x,foldedSetIterable iter X.env x=pure x:=by intro _;rfl)
  (hf:X.fn x=true\/(24,x)=(6,.local):=by first|exact .inl rfl|exact .inr rfl|assumption):
  PS X (.Assign [(6,x,pos')] (.ListComp elt [(9,tg,iter,ifs,0)] scope pos) spos) (Ik (Ii js wi g tt te) (Cq i)):=by
 intro pins s σ H D I h;rw[exec_Assign_Name_used _ _ _ _ hsw];refine(3,wpAny_standAt (3,?_));show wpAny _ X.A (do let _ ←comprehension (.ListComp elt [⟨tg,iter,ifs,0⟩] scope pos) scope X.env _ (newList []) false (eval iter X.env) (some (assign (.Name x pos') X.env))) _ _ s
 refine wpAny_bind (wpAny_mono (wpAny_comprehension_free (use:=(6,assign (6,x,pos') X.env)) (Q:=λ_ s'=>SP X pins D .next s') rfl hs (oZ (rT I hc)) (qX hc) (λy hy e=>by rw[(pW hc y hy).1,e])
  (df (hi pins s σ H _ I h) λv s1 h1=>df h1 λitv s2 h2=>?_)) (λ_ s' hq=>(8,(8,hq))) λ_ _ e=>e)
 obtain⟨it,fp,tn,J,H2,e,I2,T,st2,f2,q⟩:=h2;subst e;refine yh (RR:=λacc C=>compPost (model X.prog X.w) X.A X.xe (6,assign (6,x,pos') X.env) (λ_ s'=>SP X pins D .next s') acc C) hc hj hcalm hg ht he I2 T st2 f2 q ?_;intro a C H' s' m J' hn hC hL hS hcell hpin q';refine wpAny_assign_Name (xF J' hN hi' hx (v:=(10,a)) rfl (λs'' J2 ⟨b,sb,hb⟩=>?_) hf);have hCb:C≠b:=by
  rcases hb with z|z
  ·rw[z];exact hL
  ·exact(hcell x b z).symm
 exact(12,m,hn.sameBut sb hCb,λh' sb'=>(9,_,H',J2.turned (t':=s''.toks) (λb o hb e=>(sb'.2 b hb).trans e) hC hL (.inr hS) hcell hpin,q'))
end
section
variable{X:Cx}{pins:List (Addr×Obj)}{σ:St}{H:Hp}{s:Shared}{l:Addr}{xs:List V}
def Pn(K:Frag):R2:=λx y H Q=>∃l b xs zs,x=(10,l)/\y=(10,b)/\pA K H l xs/\pA K H b zs/\xs.length+zs.length<=sizeLine/\∀p,H p=none->Q (10,p) (cA H p (13,(xs++zs)))
theorem LB:(18,X,.Add,Pn X.K):=λpins s σ H x y v u Q I rx ry ⟨l,b,xs,zs,ex,ey,hH,hB,hz,q⟩=>by
 subst ex ey;cases rx;cases ry;obtain⟨i1,r1,p1,_⟩:=I.list hH;obtain⟨i2,r2,p2,_⟩:=I.list hB;obtain⟨⟨c1,d1,t1,s1⟩,o1,k1,n1,g1⟩:=p1.isList;obtain⟨⟨c2,d2,t2,s2⟩,o2,k2,n2,g2⟩:=p2.isList;simp only at k1 g1 k2 g2;subst k1 g1 k2 g2;have l1:=r1.length;have l2:=r2.length;have ea:i1.toArray++i2.toArray=(i1++i2).toArray:=by simp
 refine concat_meets (14,_,o1) (14,_,o2) noFill_list_add seq_list_add PySem.F.slot_list_add PySem.F.entry_list_add (PySem.F.args_list_add_2 _ _) (list_addW l b _ _ n1 n2 d1 d2 s1 s2 (by rw[size_toArray,size_toArray,←l1,←l2];exact hz)) (12,o1,o2,?_)
 rw[ea];exact⟨(10,_),_,I.lnew (t':=s.toks) (r1.append r2) (by rw[length_append];exact hz),rfl,q _ I.fresh⟩
theorem Ja:(18,X,.Add,(λx y H Q=>∃a b ys,x=(10,a)/\y=(10,b)/\rh X.K H a []/\rh X.K H b ys/\Q (10,b) H)):=λpins s σ H x y v u Q I rx ry ⟨a,b,ys,ex,ey,ha,hb,q⟩=>by
 subst ex ey;cases rx;cases ry;obtain⟨i1,r1,⟨⟨c1,d1,t1,s1⟩,o1,k1,n1,g1⟩,_⟩:=I.tuple ha;obtain⟨i2,r2,⟨⟨c2,d2,t2,s2⟩,o2,k2,n2,g2⟩,_⟩:=I.tuple hb;cases r1;simp only at k1 g1 k2 g2;subst k1 g1 k2 g2;exact concat_meets (14,_,o1) (14,_,o2) noFill_tuple_add seq_tuple_add PySem.F.slot_tuple_add PySem.F.entry_tuple_add (PySem.F.args_tuple_add_2 _ _)
  (tuple_addW0 a b _ _ n1 n2 d1 d2 s1 s2 (by rfl)) (12,o1,o2,⟨(10,b),H,I,rfl,q⟩)
theorem uW(ns:[22]):∀k,k<=ns.length->preSum (λi=>(ns[i]?).getD 0) k=(ns.take k).sum
 |0,_=>by simp[preSum]
 |k+1,h=>by
  have hk:k<ns.length:=h;rw[List.take_add_one,(19,hk),List.sum_append,←uW ns k (le_of_lt hk)];simp[preSum,(19,hk)]
theorem HD(hc:X.calm=true):dh X (40,"sum") (λxs H Q=>∃(p:Addr)(ns:[22]),xs=[(10,p)]/\pA X.K H p (ns.map V.int)/\Q (4,ns.sum) H):=λpins s σ H xs us Q I r ⟨p,ns,ex,hq,q⟩=>by
 subst ex;obtain⟨u,rfl,rx⟩:=mx r;cases rx;obtain⟨its,rv,pl,hz⟩:=I.list hq;have hlt:p<s.heap.objs.size:=by obtain⟨_,e,_⟩:=pl.isList;exact(51,e)
 have hlen:its.length=ns.length:=by rw[←rv.length,length_map]
 have up:∀b o,(25,b)=(6,o)->(s.heap.push {cls:=.type "list_iterator",data:=.fields #[.ref p,.int 0 0]}).get? b=(6,o):=λb o e=>(14,e);refine call_sum_walkG (wpAny_pyIter_list pl.isList ⟨_,_,_,_,_,_,λi=>(ns[i]?).getD 0,rfl,Walks.list (A:=X.A.in1) (I.ok.hd hc) [15] p (ne_of_lt hlt) its.toArray,(5,(9,_,(35,_),rfl,rfl),pl.isList.push _),λb hb=>?_,λi v hv=>?_,λh' tk t' hk=>?_⟩)
 ·rw[show({s with heap:=s.heap.push {cls:=.type "list_iterator",data:=.fields #[.ref p,.int 0 0]}}:Shared).heap.objs.size=s.heap.objs.size+1 from size_push ..];rcases mem_cons.mp hb with e|e
  ·rw[e];exact lt_succ_self _
  ·rw[(37,e)];exact lt_succ_of_lt hlt
 ·have hv':its[i]?=(6,v):=by simpa using hv
  have hi:i<ns.length:=by rw[←hlen];exact(12,hv').1
  obtain⟨u,e,ru⟩:=rv.get (i:=i) (x:=(4,ns[i])) (by rw[getElem?_map,(19,hi)];rfl)
  rw[hv'] at e;cases e;obtain⟨t,e⟩:=ru;exact(5,t,by show v=Value.int ((ns[i]?).getD 0) t;rw[e,(19,hi)];rfl)
 ·have es:preSum (λi=>(ns[i]?).getD 0) its.toArray.size=ns.sum:=by rw[size_toArray,hlen,uW ns _ [23],List.take_length]
  refine⟨(4,ns.sum),H,I.kept (t':=tk) λb o e=>hk b o (by simpa using ne_of_lt (51,e)) (up b o e),(5,t',by rw[es]),q⟩
theorem K5(l:Addr)(items:Array Value)(n:Nat)(b:Addr)(items2:Array Value)(n2:Nat)(dd:(9,Addr))(sl:Array [26])(h0:¬(!items.isEmpty && Builtin.List.listTooLong (items.size+items2.size))=true)(h1:items.size<=sizeLine)(h2:items.size+items2.size<=sizeLine+1):
  Meets (Builtin.«list.extend» (5,[(10,l),(10,b)],[])) (λ_ R s=>(25,l)=some {cls:=.type "list",dict:=none,data:=.seq items n,slots:=#[]}/\(25,b)=(6,(9,(52,"tuple"),dd,.seq items2 n2,sl))/\R (.ok (.ret Value.none)) {s with heap:=s.heap.update l (Obj.mapSeq λx=>x++items2),toks:=s.toks}):=
 .of_wp λprog w A R s h=>by
  obtain⟨hp,g,d,tk,os⟩:=s;obtain⟨hl,hb,h⟩:=h;have f1:=AutoSeq1.idx_int;have f2:=AutoSeq1.sub_tuple_tuple;have f3:=AutoSeq1.sub_list_list;have f4:=AutoSeq1.sub_tuple_list;have f5:=AutoSeq1.sub_list_tuple;have hz':(items++items2).size<=sizeLine+1:=by rw[Array.size_append];exact h2
  wp_walk using(wpAny_updateSeq hl rfl (hz:=h1) (_hz':=hz')),AutoSeq1.wpAny_loadPart' hl,AutoSeq1.wpAny_loadPart' hb
  exact(12,_,rfl,h)
theorem Ef:QZ X "list.extend" (λx vs H Q=>∃l b xs zs,x=(10,l)/\vs=[(10,b)]/\H l=(6,(13,xs))/\rh X.K H b zs/\xs.length+zs.length<=sizeLine/\Q .non (cA H l (13,(xs++zs)))):=
 λpins s σ H x vs v us Q I rx rv ⟨l,b,xs,zs,ex,ev,hH,hB,hz,q⟩=>by
 subst ex ev;cases rx;obtain⟨u,rfl,ru⟩:=rv.one;cases ru;obtain⟨z,its,n,r,hl,e⟩:=I.lstM hH;obtain⟨i2,r2,⟨⟨c2,d2,t2,s2⟩,o2,k2,n2,g2⟩,_⟩:=I.tuple hB;simp only at k2 g2;subst k2 g2;have hl2:=r2.length;have hsz:its.toArray.size+i2.toArray.size<=sizeLine:=by rw[size_toArray,size_toArray,←hl,←hl2];exact hz
 refine call_meets F.slot_list_extend (14,_,e) F.entry_list_extend (F.args_list_extend_2 _ _) (K5 l its.toArray n b i2.toArray n2 d2 s2 (by rw[vh hsz,Bool.and_false];exact Bool.false_ne_true) (by rw[size_toArray,←hl];exact z) (Nat.le_succ_of_le hsz)) (12,e,o2,?_)
 exact⟨.non,_,I.lset (its':=its++i2) hH e [20] (r.append r2) (by rw[length_append];exact hz),rfl,q⟩
theorem K6(l:Addr)(items:Array Value)(n:Nat)(b:Addr)(items2:Array Value)(n2:Nat)(dd:(9,Addr))(sl:Array [26])(h0:¬(!items.isEmpty && Builtin.List.listTooLong (items.size+items2.size))=true)(h1:items.size<=sizeLine)(h2:items.size+items2.size<=sizeLine+1):
  Meets (Builtin.«list.extend» (5,[(10,l),(10,b)],[])) (λ_ R s=>(25,l)=some {cls:=.type "list",dict:=none,data:=.seq items n,slots:=#[]}/\(25,b)=(6,(9,(52,"list"),dd,.seq items2 n2,sl))/\R (.ok (.ret Value.none)) {s with heap:=s.heap.update l (Obj.mapSeq λx=>x++items2),toks:=s.toks}):=
 .of_wp λprog w A R s h=>by
  obtain⟨hp,g,d,tk,os⟩:=s;obtain⟨hl,hb,h⟩:=h;have f1:=AutoSeq1.idx_int;have f2:=AutoSeq1.sub_tuple_tuple;have f3:=AutoSeq1.sub_list_list;have f4:=AutoSeq1.sub_tuple_list;have f5:=AutoSeq1.sub_list_tuple;have hz':(items++items2).size<=sizeLine+1:=by rw[Array.size_append];exact h2
  wp_walk using(wpAny_updateSeq hl rfl (hz:=h1) (_hz':=hz')),AutoSeq1.wpAny_loadPart' hl,AutoSeq1.wpAny_loadPart' hb
  exact(12,_,rfl,h)
theorem Eg:QZ X "list.extend" (λx vs H Q=>∃l b xs zs,x=(10,l)/\vs=[(10,b)]/\H l=(6,(13,xs))/\pA X.K H b zs/\xs.length+zs.length<=sizeLine/\Q .non (cA H l (13,(xs++zs)))):=
 λpins s σ H x vs v us Q I rx rv ⟨l,b,xs,zs,ex,ev,hH,hB,hz,q⟩=>by
 subst ex ev;cases rx;obtain⟨u,rfl,ru⟩:=rv.one;cases ru;obtain⟨z,its,n,r,hl,e⟩:=I.lstM hH;obtain⟨i2,r2,p2,_⟩:=I.list hB;obtain⟨⟨c2,d2,t2,s2⟩,o2,k2,n2,g2⟩:=p2.isList;simp only at k2 g2;subst k2 g2;have hl2:=r2.length;have hsz:its.toArray.size+i2.toArray.size<=sizeLine:=by rw[size_toArray,size_toArray,←hl,←hl2];exact hz
 refine call_meets F.slot_list_extend (14,_,e) F.entry_list_extend (F.args_list_extend_2 _ _) (K6 l its.toArray n b i2.toArray n2 d2 s2 (by rw[vh hsz,Bool.and_false];exact Bool.false_ne_true) (by rw[size_toArray,←hl];exact z) (Nat.le_succ_of_le hsz)) (12,e,o2,?_)
 exact⟨.non,_,I.lset (its':=its++i2) hH e [20] (r.append r2) (by rw[length_append];exact hz),rfl,q⟩
theorem Fb:∀{xs:List V}{us:[19]},xs.length=us.length->(∀(i:Nat) x u,xs[i]?=(6,x)->us[i]?=(6,u)->bV x u)->Vals xs us
 |[],[],_,_=>.nil
 |x::xs,u::us,hl,h=>.cons (h 0 x u rfl rfl) (Fb (by simpa using hl) λi x' u' e1 e2=>h (i+1) x' u' (by simpa using e1) (by simpa using e2))
 |[],_::_,hl,_=>by simp at hl
 |_::_,[],hl,_=>by simp at hl
theorem I9{lo:Int}{acc:Array Value}{n:Nat}(h:ItemsOf (λi v=>∃t,v=.int (lo+i * 1) t) acc n):Vals ((23,n).map λk:Nat=>V.int (lo+k)) acc.toList:=by
 refine Fb (by rw[length_map,length_range,←h.1,length_toList]) λi x u e1 e2=>?_
 obtain⟨t,rfl⟩:=h.2 i u (by rw[←getElem?_toList];exact e2)
 rw[getElem?_map] at e1;cases q:(List.range n)[i]? with
 |none=>rw[q] at e1;cases e1
 |some k=>
  rw[q] at e1;cases e1;have hk:i<n:=by
   have:=(12,q).1;rwa[length_range] at this
  rw[getElem?_range hk] at q;cases q;exact(5,t,by rw[Int.mul_one])
theorem CV:dh X (52,"range") (λxs H Q=>∃lo hi,xs=[(4,lo),(4,hi)]/\∀p,H p=none->Q (10,p) (cA H p (.rng lo hi))):=λpins s σ H xs us Q I r ⟨lo,hi,ex,q⟩=>by
 subst ex;obtain⟨u,w,rfl,⟨t,rfl⟩,⟨t',rfl⟩⟩:=Ia r;refine call_range_2 ⟨(10,[15]),_,I.laid (t':=s.toks+1) (o:=.rng lo hi) (λb o e=>(14,e)) [23] (9,_,_,_,(35,_)),rfl,q _ I.fresh⟩
theorem An(hc:X.calm=true):dh X (52,"list") (λxs H Q=>∃p lo hi,xs=[(10,p)]/\H p=(6,.rng lo hi)/\(-(2 ^ 62)<=lo/\lo<2 ^ 62/\-(2 ^ 62)<=hi/\hi<2 ^ 62)/\(hi - lo).toNat<=sizeLine/\
  ∀l,H l=none->Q (10,l) (cA H l (13,((23,(hi - lo).toNat).map λk:Nat=>V.int (lo+k))))):=λpins s σ H xs us Q I r ⟨p,lo,hi,ex,hp,⟨b1,b2,b3,b4⟩,hz,q⟩=>by
 subst ex;obtain⟨u,rfl,ru⟩:=mx r;cases ru;obtain⟨t,u,v,e⟩:=I.hok p _ hp;refine call_list_range (n:=(hi - lo).toNat) (I.ok.hd hc) (show IsRange s.heap p lo hi 1 t u v from e) (small_one b1 b2 b3 b4) (by rw[rangeSize_one];split <;> omega) hz λh' tk acc c kp e' it=>?_
 exact⟨(10,[15]),_,I.laid (t':=tk) (o:=.lst ((List.range (hi - lo).toNat).map λk:Nat=>V.int (lo+k))) kp [23] ⟨by rw[length_map,length_range];exact hz,acc.toList,c,I9 it,by simpa using e'⟩,rfl,q _ I.fresh⟩
theorem Eu{x:V}{u:Value}{t:String}{T:String}{b:Bool}(I:(20,H,s))(rx:bV x u)(ty:q8 X.K H x (52,t)\/(t = "tuple" /\ ∃a xs,x=(10,a)/\rh X.K H a xs)\/(t = "list" /\ ∃a xs,x=(10,a)/\pA X.K H a xs))(e:kitOne X.K (52,t) (52,T)=(6,b)){Q:Value->Shared->Prop}{E:Value->Shared->Prop}{A:Around}
  (h:∀tk,Q (.bool b) {s with toks:=tk}):(1,X.prog,X.w,A,call (40,"isinstance") [u,(52,T)],Q,E,s):=by
 rcases ty with ty|⟨rfl,a,xs,rfl,hq⟩|⟨rfl,a,xs,rfl,hq⟩
 ·exact Hm I rx ty e h
 ·cases (show u=Value.ref a from rx);obtain⟨its,_,⟨o,h1,h2,_⟩,_⟩:=I.tuple hq;exact(2,PySem.W.kitx_tuple,I.kIn,(12,o,h1,h2),e,h)
 ·cases (show u=Value.ref a from rx);obtain⟨its,_,pl,_⟩:=I.list hq;obtain⟨o,h1,h2,_⟩:=pl.isList;exact(2,kitx_list,I.kIn,(12,o,h1,h2),e,h)
theorem CW:dh X (40,"isinstance") (λxs H Q=>∃x t T b,xs=[x,.ty T]/\(q8 X.K H x (52,t)\/(t = "tuple" /\ ∃a xs,x=(10,a)/\rh X.K H a xs)\/(t = "list" /\ ∃a xs,x=(10,a)/\pA X.K H a xs))/\kitOne X.K (52,t) (52,T)=(6,b)/\Q (.bl b) H):=λpins s σ H xs us Q I r ⟨x,t,T,b,ex,ty,e,q⟩=>by
 subst ex;obtain⟨u,w,rfl,ru,rw'⟩:=Ia r;cases (show w=Value.type T from rw');exact Eu I ru ty e λtk=>⟨.bl b,H,I.tok tk,rfl,q⟩
end
end L2
namespace L2
open PySem
abbrev HL(xs:Array Nat):Prop:=xs.toList.Pairwise (· < ·)
theorem tJ{xs:Array Nat}(h:HL xs){i k:Nat}(hik:i<k)(hk:k<xs.size):xs[i]'[11]<xs[k]:=by
 have:=List.pairwise_iff_getElem.mp h i k (by simpa using(by omega:i<xs.size)) (by simpa using hk) hik
 simpa using this
theorem vO{xs:Array Nat}(h:HL xs)(j:Nat):∀(fuel lo hi:Nat),lo<=hi->hi<=xs.size->hi - lo<=fuel->(∀i (hi':i<xs.size),i<lo->xs[i]<j)->(∀i (hi':i<xs.size),hi<=i->j<=xs[i])->
  SetTable.below.go xs j fuel lo hi<=xs.size/\(∀i (hi':i<xs.size),i<SetTable.below.go xs j fuel lo hi->xs[i]<j)/\∀i (hi':i<xs.size),SetTable.below.go xs j fuel lo hi<=i->j<=xs[i]
 |0,lo,hi,h1,h2,h3,h4,h5=>by
  have e:lo=hi:=by omega
  subst e;exact(12,h2,h4,h5)
 |fuel+1,lo,hi,h1,h2,h3,h4,h5=>by
  unfold SetTable.below.go;by_cases hl:lo<hi
  ·rw[(39,hl)];have hm:(lo+hi) / 2<xs.size:=by omega
   have hg:xs.getD ((lo+hi) / 2) j=xs[(lo+hi) / 2]:=by simp[hm]
   dsimp only;rw[hg];by_cases hc:xs[(lo+hi) / 2]<j
   ·rw[(39,hc)];refine vO h j fuel _ _ [11] h2 [11] (λi hi' hlt=>?_) h5
    by_cases e:i=(lo+hi) / 2
    ·subst e;exact hc
    ·exact lt_trans (tJ h [11] hm) hc
   ·rw[(42,hc)];refine vO h j fuel _ _ [11] [11] [11] h4 (λi hi' hle=>?_)
    by_cases e:i=(lo+hi) / 2
    ·subst e;omega
    ·have:=tJ h (show(lo+hi) / 2<i by omega) hi';omega
  ·rw[(42,hl)];have e:lo=hi:=by omega
   subst e;exact(12,h2,h4,h5)
theorem mr{xs:Array Nat}(h:HL xs)(j:Nat):SetTable.below xs j<=xs.size/\(∀i (hi':i<xs.size),i<SetTable.below xs j->xs[i]<j)/\∀i (hi':i<xs.size),SetTable.below xs j<=i->j<=xs[i]:=by
 unfold SetTable.below;exact vO h j xs.size 0 xs.size (zero_le _) [23] [11] (λ_ _ z=>absurd z (Nat.not_lt_zero _)) (λi hi' z=>absurd hi' [11])
theorem EW{xs:Array Nat}(h:HL xs):SetTable.below xs 0=0:=by
 obtain⟨h1,h2,_⟩:=mr h 0;by_cases e:SetTable.below xs 0=0
 ·exact e
 ·have:=h2 0 [11] [11]
  omega
theorem EX{xs:Array Nat}(h:HL xs){i:Nat}(hi:i<xs.size):SetTable.below xs (xs[i]+1)=i+1:=by
 obtain⟨h1,h2,h3⟩:=mr h (xs[i]+1);by_cases l:SetTable.below xs (xs[i]+1)<=i
 ·have:=h3 i hi l;omega
 ·by_cases e:SetTable.below xs (xs[i]+1)=i+1
  ·exact e
  ·have hi1:i+1<xs.size:=by omega
   have a:=h2 (i+1) hi1 [11]
   have b:=tJ h (i:=i) (k:=i+1) [11] hi1
   omega
theorem oW{α:Type}(xs:Array α)(p:Nat)(x:α)(hp:p<=xs.size):(SetTable.insertAt xs p x).toList=xs.toList.take p++x::xs.toList.drop p:=by
 unfold SetTable.insertAt;simp[Array.toList_extract];rw[List.take_of_length_le [20]]
theorem kX{α:Type}(xs:Array α)(p:Nat)(x:α)(hp:p<=xs.size):(SetTable.insertAt xs p x).toList.Perm (x::xs.toList):=by
 rw[oW xs p x hp];refine List.perm_middle.trans ?_;rw[List.take_append_drop]
theorem oV{α:Type}(xs:Array α)(p:Nat)(x:α)(hp:p<=xs.size):(SetTable.insertAt xs p x).size=xs.size+1:=by
 rw[←length_toList,(kX xs p x hp).length_eq];simp
structure Tb(t:SetTable)(m:Nat):Prop where
 mask:t.mask=7
 dum:t.dummies=#[]
 plain:t.plain=true
 size:t.place.size=m
 rise:HL t.place
 le:∀j∈t.place.toList,j<=7
theorem Tb.fits{t:SetTable}{m:Nat}(T:Tb t m)(hm:m<=7):t.fits m=true:=by
 unfold SetTable.fits SetTable.fill;rw[T.size,T.dum,T.mask];simp;omega
theorem Tb.notFull{t:SetTable}{m:Nat}(T:Tb t m)(hm:m<=4):t.tooFull=false:=by
 unfold SetTable.tooFull SetTable.fill;rw[T.size,T.dum,T.mask];simp;omega
theorem Tb.slot{t:SetTable}{m:Nat}(T:Tb t m)(j:Nat):(t.slot j=.empty/\j∉t.place.toList)\/(∃i,t.slot j=.live i)/\j∈t.place.toList:=by
 unfold SetTable.slot;dsimp only;by_cases h:(t.place[(46,j)]? == (6,j))=true
 ·rw[(39,h)];have e:t.place[(46,j)]?=(6,j):=eq_of_beq h;rw[←getElem?_toList] at e;exact .inr (5,(5,_,rfl),mem_of_getElem? e)
 ·rw[(42,h)];have hd:SetTable.has t.dummies j=false:=by rw[T.dum];rfl
  rw[(42,(by rw[hd];exact Bool.false_ne_true))]
  refine .inl (5,rfl,λhm=>h ?_);obtain⟨i,hi,e⟩:=List.getElem_of_mem hm;have hi':i<t.place.size:=by simpa using hi
  have e':t.place[i]=j:=by simpa using e
  obtain⟨h1,h2,h3⟩:=mr T.rise j;have hb:(46,j)=i:=by
   by_cases l:(46,j)<=i
   ·by_cases l2:(46,j)=i
    ·exact l2
    ·have hlt:(46,j)<t.place.size:=by omega
     have a:=h3 _ hlt [23];have b:=tJ T.rise (show(46,j)<i by omega) hi'
     omega
   ·have:=h2 i hi' [11];omega
  rw[hb,(48,hi'),e'];exact beq_self_eq_true _
theorem EV{h:Int}(h0:0<=h)(h1:h<32):SetTable.bits h=h.toNat:=by
 unfold SetTable.bits;rw[Int.emod_eq_of_lt h0 [11]]
theorem M9{l:List Nat}{a b c d:Nat}(hl:l.length<=3)(h1:a∈l)(h2:b∈l)(h3:c∈l)(h4:d∈l)(n:[a,b,c,d].Nodup):False:=by
 have hs:[a,b,c,d] ⊆ l:=by
  intro x hx;simp at hx;rcases hx with rfl|rfl|rfl|rfl <;> assumption
 have:=List.Nodup.length_le_of_subset n hs;simp at this;omega
theorem Tb.free{t:SetTable}{m:Nat}(T:Tb t m)(hm:m<=3){h:Int}(h0:0<=h)(h1:h<32):∃j,t.freeSlot h=(6,(j,false))/\j<=7/\j∉t.place.toList:=by
 obtain⟨n,rfl⟩:∃n:Nat,h=n:=(53,h.toNat)
 have hb:SetTable.bits (n:Int)=n:=by rw[EV h0 h1];rfl
 have hn:n<32:=by omega
 have hl:t.place.toList.length<=3:=by rw[length_toList,T.size];exact hm
 have run:∀(i:Nat),SetTable.runEnd t.mask i=i\/7<i:=λi=>by
  unfold SetTable.runEnd;rw[T.mask];by_cases q:i+9<=7
  ·omega
  ·rw[(42,q)];exact .inl rfl
 have hrun:∀i,SetTable.runEnd t.mask i - i=0:=λi=>by
  unfold SetTable.runEnd;rw[T.mask,(42,[11])]
  omega
 have adv:∀(i p:Nat),p / 32=0->t.advance ⟨i,0,i,p,none⟩=⟨(i * 5+1) % 8,0,(i * 5+1) % 8,0,none⟩:=λi p hp=>by
  unfold SetTable.advance SetTable.leap;rw[(42,lt_irrefl 0)];dsimp only;rw[hp,hrun,T.mask]
 have step:∀(fuel i p:Nat),p / 32=0->(∃r,SetTable.probe.go t (λ_=>(n:Int)+1) n (fuel+1) ⟨i,0,i,p,none⟩=(6,r)/\r=.empty i none/\i∉t.place.toList)\/(i∈t.place.toList/\SetTable.probe.go t (λ_=>(n:Int)+1) n (fuel+1) ⟨i,0,i,p,none⟩=SetTable.probe.go t (λ_=>(n:Int)+1) n fuel ⟨(i * 5+1) % 8,0,(i * 5+1) % 8,0,none⟩):=λfuel i p hp=>by
  rcases T.slot i with⟨e,ni⟩|⟨⟨k,e⟩,hi⟩
  ·refine .inl (9,.empty i none,?_,rfl,ni);unfold SetTable.probe.go;dsimp only;rw[e]
  ·refine .inr (5,hi,?_)
   conv=>lhs;unfold SetTable.probe.go
   dsimp only;rw[e];dsimp only;rw[(42,(by simp;omega)),adv i p hp]
 have hps:t.probeStart (n:Int)=⟨n % 8,0,n % 8,n,none⟩:=by
  unfold SetTable.probeStart;dsimp only;rw[hb,hrun,T.mask]
 have fin:∀{j:Nat}{r:SetTable.Met},j<8->SetTable.probe.go t (λ_=>(n:Int)+1) n (10 * SetTable.turns t.mask) ⟨n % 8,0,n % 8,n,none⟩=(6,r)->r=.empty j none->j∉t.place.toList->∃j,t.freeSlot (n:Int)=(6,(j,false))/\j<=7/\j∉t.place.toList:=λ{j r} hj e er nj=>by
  refine(9,j,?_,by omega,nj)
  unfold SetTable.freeSlot SetTable.probe;rw[hps,e,er];rfl
 have hf:10 * SetTable.turns t.mask=216+1+1+1+1:=by unfold SetTable.turns;rw[T.mask]
 rw[hf] at fin;have h8:n % 8<8:=Nat.mod_lt _ [12]
 rcases step (216+1+1+1) (n % 8) n (by omega) with⟨r,e,er,nj⟩|⟨i1,e1⟩
 ·exact fin h8 e er nj
 rcases step (216+1+1) ((n % 8 * 5+1) % 8) 0 rfl with⟨r,e,er,nj⟩|⟨i2,e2⟩
 ·exact fin [11] (e1.trans e) er nj
 rcases step (216+1) (((n % 8 * 5+1) % 8 * 5+1) % 8) 0 rfl with⟨r,e,er,nj⟩|⟨i3,e3⟩
 ·exact fin [11] ((e1.trans e2).trans e) er nj
 rcases step 216 ((((n % 8 * 5+1) % 8 * 5+1) % 8 * 5+1) % 8) 0 rfl with⟨r,e,er,nj⟩|⟨i4,e4⟩
 ·exact fin [11] (((e1.trans e2).trans e3).trans e) er nj
 exact(M9 hl i1 i2 i3 i4 (by
  have:n % 8=0\/n % 8=1\/n % 8=2\/n % 8=3\/n % 8=4\/n % 8=5\/n % 8=6\/n % 8=7:=by omega
  rcases this with h|h|h|h|h|h|h|h <;> rw[h] <;> decide)).elim
theorem Tb.put{t:SetTable}{m:Nat}(T:Tb t m){j:Nat}(hj:j<=7)(nj:j∉t.place.toList):Tb (t.put j).1 (m+1)/\(t.put j).2<=m/\(t.put j).1.led=t.led:=by
 obtain⟨h1,h2,h3⟩:=mr T.rise j;have hd:SetTable.has t.dummies j=false:=by rw[T.dum];rfl
 have hz:(46,j)<=m:=by rw[←T.size];exact h1
 unfold SetTable.put;dsimp only;rw[(42,(by rw[hd];exact Bool.false_ne_true))]
 refine(14,⟨T.mask,T.dum,T.plain,?_,?_,λk hk=>?_⟩,hz)
 ·show(SetTable.insertAt t.place (46,j) j).size=_;rw[oV _ _ _ h1,T.size]
 ·show(SetTable.insertAt t.place (46,j) j).toList.Pairwise (· < ·);rw[oW _ _ _ h1];refine List.pairwise_append.mpr (12,List.Pairwise.sublist (List.take_sublist _ _) T.rise,pairwise_cons.mpr (5,λk hk=>?_,List.Pairwise.sublist (List.drop_sublist _ _) T.rise),λa ha b hb=>?_)
  ·obtain⟨i,hi,e⟩:=List.getElem_of_mem hk;rw[List.getElem_drop] at e;rw[length_drop,length_toList] at hi;have a:=h3 ((46,j)+i) [11] [11]
   have e':t.place[(46,j)+i]'[11]=k:=by simpa using e
   have:k≠j:=λz=>nj (by rw[←z];exact List.mem_of_mem_drop hk)
   omega
  ·obtain⟨i,hi,e⟩:=List.getElem_of_mem ha;rw[List.getElem_take] at e;rw[length_take,length_toList] at hi;have a1:=h2 i [11] [11]
   have e':t.place[i]'[11]=a:=by simpa using e
   rcases mem_cons.mp hb with rfl|hb
   ·omega
   ·obtain⟨i2,hi2,e2⟩:=List.getElem_of_mem hb;rw[List.getElem_drop] at e2;rw[length_drop,length_toList] at hi2;have a2:=h3 ((46,j)+i2) [11] [11]
    have e3:t.place[(46,j)+i2]'[11]=b:=by simpa using e2
    omega
 ·have hk':k∈(SetTable.insertAt t.place (46,j) j).toList:=hk;have:=(kX _ _ j h1).mem_iff.mp hk';rcases mem_cons.mp this with rfl|z
  ·exact hj
  ·exact T.le k z
theorem Tb.lay{t:SetTable}{m:Nat}(T:Tb t m)(hm:m<=3){h:Int}(h0:0<=h)(h1:h<32)(es:Array (Int×Value))(he:es.size=m)(x:Value):∃es' t',layNew t es h x=(es',t',false,false)/\Tb t' (m+1)/\t'.led=t.led/\es'.toList.Perm ((h,x)::es.toList)/\es'.size=m+1:=by
 obtain⟨j,ej,hj,nj⟩:=T.free hm h0 h1;obtain⟨T',hp,hled⟩:=T.put hj nj;have hsz:(SetTable.insertAt es (t.put j).2 (h,x)).size=m+1:=by rw[oV _ _ _ [11],he]
 have hfit:=T'.fits [11]
 refine⟨SetTable.insertAt es (t.put j).2 (h,x),(t.put j).1,?_,T',hled,kX _ _ _ [11],hsz⟩
 unfold layNew;rw[ej];dsimp only;rw[hsz,hfit];unfold SetTable.orStandIn;rw[hfit];rfl
theorem xU{α:Type}(next:Nat->Nat):∀(fuel k:Nat)(left:List α)(out:Array α),left.length=fuel->(pickOrder.go next fuel k left out).toList.Perm (out.toList++left)
 |0,k,left,out,h=>by
  have:left=[]:=List.length_eq_zero_iff.mp h;subst this;unfold pickOrder.go;simp
 |fuel+1,k,left,out,h=>by
  unfold pickOrder.go;have hlt:next k % left.length<left.length:=Nat.mod_lt _ [11]
  rw[(19,hlt)];dsimp only;refine(xU next fuel (k+1) _ _ (by rw[List.length_eraseIdx_of_lt hlt];omega)).trans ?_
  rw[Array.toList_push,append_assoc];refine List.Perm.append_left _ ?_;have e:left=left.take (next k % left.length)++left[next k % left.length]::left.drop (next k % left.length+1):=by
   rw[←List.drop_eq_getElem_cons hlt,List.take_append_drop]
  rw[List.eraseIdx_eq_take_drop_succ]
  conv=>rhs;rw[e]
  rw[List.singleton_append];exact List.perm_middle.symm
theorem uZ{α:Type}(next:Nat->Nat)(xs:Array α):(pickOrder next xs).toList.Perm xs.toList:=by
 have:=xU next xs.size 0 xs.toList #[] (by simp)
 simpa [pickOrder] using this
end L2
namespace L2
open PySem PySem.Spec PyProof.Rows
inductive EsK:List (Int×Value)->List Int->Prop
 |nil:EsK [] []
 |cons (k:Int) (tk:Tok) {es ks}:EsK es ks->EsK ((hashInt k,.int k tk)::es) (k::ks)
theorem EsK.length{es:List (Int×Value)}{ks:[22]}(h:EsK es ks):es.length=ks.length:=by
 induction h with
 |nil=>rfl
 |cons k tk _ ih=>rw[length_cons,length_cons,ih]
theorem EsK.perm{es es':List (Int×Value)}(p:es'.Perm es):∀{ks:[22]},EsK es ks->∃ks',EsK es' ks'/\ks'.Perm ks:=by
 have q:=p.symm;clear p
 induction q with
 |nil=>intro ks h;cases h;exact(12,[],.nil,.refl _)
 |cons x _ ih=>
  intro ks h;cases h with
  |cons k tk t=>obtain⟨ks',e,p⟩:=ih t;exact(12,k::ks',.cons k tk e,p.cons k)
 |swap x y l=>
  intro ks h;cases h with
  |cons k tk t=>cases t with
   |cons k2 tk2 t2=>exact(12,k2::k::_,.cons k2 tk2 (.cons k tk t2),List.Perm.swap _ _ _)
 |trans _ _ ih1 ih2=>
  intro ks h;obtain⟨k1,e1,p1⟩:=ih1 h;obtain⟨k2,e2,p2⟩:=ih2 e1;exact(12,k2,e2,p2.trans p1)
theorem EsK.elems{prog:Program}{w:World}{es:List (Int×Value)}{ks:[22]}(h:EsK es ks):ElemsOf (intKind prog w) es:=by
 induction h with
 |nil=>intro e he;cases he
 |cons k tk _ ih=>
  intro e he;rcases mem_cons.mp he with rfl|he
  ·exact(5,(14,k,by simp[intKind,Value.isInt]),rfl)
  ·exact ih e he
theorem EsK.find{es:List (Int×Value)}{ks:[22]}(h:EsK es ks)(k:Int):(es.findIdx? λe=>Value.isInt k e.2).isSome=decide (k∈ks):=by
 induction h with
 |nil=>rfl
 |cons k' tk _ ih=>
  rw[List.findIdx?_cons];by_cases e:k=k'
  ·subst e;simp[Value.isInt]
  ·have:Value.isInt k (Value.int k' tk)=false:=by simp[Value.isInt,Ne.symm e,e]
   simp only[this];rw[(42,[33]),Option.isSome_map,ih];simp[e]
theorem EsK.ints{es:List (Int×Value)}{ks:[22]}(h:EsK es ks):IntsAre (es.map (·.2)) ks:=by
 induction h with
 |nil=>exact .nil
 |cons k tk _ ih=>exact .cons k tk ih
def SetX(w:World)(h:Heap)(a:Addr)(ks:[22]):Prop:=∃o es ep t ks',h.get? a=(6,o)/\o.ExactSet/\o.data=.set es ep t/\EsK es.toList ks'/\ks'.Perm ks/\Tb t es.size/\t.led=![27]
theorem SetX.at{w:World}{h h':Heap}{a:Addr}{ks:[22]}(S:SetX w h a ks)(k:∀o,h.get? a=(6,o)->h'.get? a=(6,o)):SetX w h' a ks:=by
 obtain⟨o,es,ep,t,ks',ho,r⟩:=S;exact⟨o,es,ep,t,ks',k o ho,r⟩
theorem JS:∀n:Fin 32,hashInt ((n.val:Nat):Int)=((n.val:Nat):Int):=by decide +kernel
theorem vp{k:Int}(h0:0<=k)(h1:k<32):hashInt k=k:=by
 have h:=JS (53,k.toNat)
 rwa[show((((53,k.toNat):Fin 32).val:Nat):Int)=k from Int.toNat_of_nonneg h0] at h
section
variable{prog:Program}{w:World}{A:Around}{E:Value->Shared->Prop}{s:Shared}
theorem Iq{a:Addr}{ks:[22]}{k:Int}{tk:Tok}{Q:Bool->Shared->Prop}(S:SetX w s.heap a ks)(h0:0<=k)(h1:k<32)(hl:ks.length<=4)(hl2:k∉ks->ks.length<=3)
  (h:∀h' b,Heap.SameBut a s.heap h'->SetX w h' a (if k∈ks then ks else k::ks)->Q b {s with heap:=h',toks:=s.toks+1}):(1,prog,w,A,setAdd a (.int k tk),Q,E,s):=by
 obtain⟨o,es,ep,t,ks',ho,hex,hd,hes,hp,T,hled⟩:=S;have hsz:es.size=ks.length:=by rw[←length_toList,hes.length,hp.length_eq]
 have hf:=T.fits [11]
 have hel:ElemsOf (intKind prog w) es.toList:=hes.elems;have hkey:(intKind prog w).is k (.int k tk)=true:=by simp[intKind,Value.isInt]
 unfold setAdd;refine wpAny_holding (3,((intKind prog w).pyHash hkey ?_));unfold setAddHashed setAddHashedIn;refine wpAny_holding (3,wpAny_setState_of ho hd hf ?_);dsimp only;rw[byScan_of (knd:=intKind prog w) rfl (by unfold scanBound;omega) hel,(39,rfl)]
 unfold setAddByScan;refine(3,(3,wpAny_rule (3,wpAny_setScan_of (s:=[36]) hkey ho hd hf hel ?_)));have hfi:=hes.find k;have hfi':∀r,es.toList.findIdx? (λe=>(intKind prog w).is k e.2)=r->r.isSome=decide (k∈ks'):=λr e=>by rw[←e];exact hfi
 have hmem:k∈ks'↔k∈ks:=hp.mem_iff;cases hr:es.toList.findIdx? (λe=>(intKind prog w).is k e.2) with
 |some j=>
  have hk:k∈ks:=hmem.mp (by have:=hfi' _ hr;simpa using this.symm)
  dsimp only;refine(8,(8,h s.heap false (Heap.SameBut.refl a s.heap) ?_));rw[(39,hk)];exact⟨o,es,ep,t,ks',ho,hex,hd,hes,hp,T,hled⟩
 |none=>
  have hk:k∉ks:=λz=>by have:=hfi' _ hr;rw[decide_eq_true (hmem.mpr z)] at this;cases this
  have h3:=hl2 hk;obtain⟨es',t',el,T',hl',hpm,hsz'⟩:=T.lay [11] (h:=hashInt k) (by rw[vp h0 h1];exact h0) (by rw[vp h0 h1];exact h1) es rfl (.int k tk)
  have el':layNew t es ((intKind prog w).hash k) (.int k tk)=(es',t',false,false):=el;dsimp only;rw[el'];dsimp only;refine(3,?_);show wpAny _ _ (pure ()) _ _ _;refine(8,?_);rw[T'.plain,(39,rfl),hashByValue_scannable 8 rfl];refine(3,(8,?_));rw[(39,(show plainKind (Value.int k tk)=true from rfl))];refine(3,wpAny_storeSet_of (s:=[36]) ho hd ?_ (by rw[hsz',sizeLine_eq];omega))
  rw[T'.notFull [11]]
  simp only[Bool.not_false,Bool.and_false,Bool.false_eq_true,if_false];refine(8,(8,h _ true (Heap.SameBut.update s.heap a (Obj.putSet es' t')) ?_));rw[(42,hk)];obtain⟨ks2,e2,p2⟩:=EsK.perm hpm (.cons k tk hes);have hg:(s.heap.update a (Obj.putSet es' t')).get? a=some {o with data:=.set es' (ep+1) t'}:=by
   have z:=get?_update_self (Obj.putSet es' t') ho (by rw[putSet_of es' t' hd];rfl)
   rw[putSet_of es' t' hd] at z;exact z
  exact⟨_,es',ep+1,t',ks2,hg,hex,rfl,e2,p2.trans (hp.cons k),by rw[hsz'];exact T',by rw[hl'];exact hled⟩
end
section
variable{prog:Program}{w:World}{A:Around}{E:Value->Shared->Prop}{s:Shared}
theorem Gh{R:Result->Shared->Prop}{S I l:Addr}{items:Array Value}{ns:[22]}(hh:A.in1.handled=none)(hli:l≠I)(hSI:S≠I)(hSl:S≠l)(hi:IntsAre items.toList ns)(hr:∀n∈ns,0<=n/\n<32)(h4:ns.length<=4):
  ∀(k i:Nat)(s:Shared)(ks:[22]),items.size - i=k->i<=items.size->s.heap.IsListIter I l i->s.heap.IsList l items->SetX w s.heap S ks->ks.length<=i->(∀n,n∈ks↔n∈ns.take i)->ks.Nodup->
   (∀h' tk ks',(∀b o,b≠S->b≠I->(25,b)=(6,o)->h'.get? b=(6,o))->SetX w h' S ks'->(∀n,n∈ks'↔n∈ns)->ks'.Nodup->R (.ok (.ret .none)) {s with heap:=h',toks:=tk})->
   codeAny (model prog w) A (.builtin "set.update.loop" (5,[(10,S),(10,I)],[])) R s:=by
 have hlen:items.size=ns.length:=by rw[←length_toList];exact hi.length
 have W:=Walks.list (prog:=prog) (w:=w) hh I l hli items;intro k
 induction k with
 |zero=>
  intro i s ks hk hile st hl S1 hkl hm nd hR;obtain rfl:i=items.size:=by omega
  refine codeAny_builtin PyProof.Rows.F.entry_set_update_loop ?_;rw[Around.under_plainId PyProof.Rows.F.plain_set_update_loop _];refine(18,pyNext (10,I),(W.done s _ _ (5,st,hl) λh' tk kp=>?_));refine(8,hR h' tk ks (λb o _ hb e=>kp b o (by simpa using hb) e) (S1.at λo e=>kp S o (by simpa using hSI) e) (λn=>?_) nd)
  rw[hm n,hlen,List.take_length]
 |succ k ih=>
  intro i s ks hk hile st hl S1 hkl hm nd hR;have hlt:i<items.size:=by omega
  refine codeAny_builtin PyProof.Rows.F.entry_set_update_loop ?_;rw[Around.under_plainId PyProof.Rows.F.plain_set_update_loop _];refine(18,pyNext (10,I),(W.item i s _ _ hlt (5,st,hl) λv h' tk hv st' kp=>?_));obtain⟨t,rfl⟩:=PyProof.Rows.IntsAre.int_at hi i v (by rw[getElem?_toList];exact hv)
  have hmem:ns.getD i 0∈ns:=by rw[getD_eq_getElem?_getD,(19,[11])];exact getElem_mem _
  have S2:SetX w h' S ks:=S1.at λo e=>kp S o (by simpa using hSI) e
  obtain⟨r0,r1⟩:=hr _ hmem;refine(18,holding _ _,wpAny_holding (Iq (s:={s with heap:=h',toks:=tk}) S2 r0 r1 [11] (λ_=>by omega) λh2 b sb S3=>?_))
  refine(8,(5,plainId_quiet PyProof.Rows.F.plain_set_update_loop _,ih (i+1) _ _ [11] hlt ?_ ?_ S3 ?_ ?_ ?_ λh3 tk3 ks3 kp3 S4 m4 n4=>?_))
  ·exact st'.1.extBut sb.extBut (Ne.symm hSI)
  ·exact st'.2.extBut sb.extBut (Ne.symm hSl)
  ·split
   ·omega
   ·rw[length_cons];omega
  ·intro n;have htake:ns.take (i+1)=ns.take i++[ns.getD i 0]:=by
    rw[List.take_add_one,(19,[11]),getD_eq_getElem?_getD,(19,[11])]
    rfl
   rw[htake,mem_append,mem_singleton,←hm n];split
   ·rename_i hin;constructor
    ·exact .inl
    ·rintro (z|rfl)
     ·exact z
     ·exact hin
   ·rw[mem_cons,or_comm]
  ·split
   ·exact nd
   ·rename_i hin;exact nodup_cons.mpr (5,hin,nd)
  ·refine hR h3 tk3 ks3 (λb o hb1 hb2 e=>kp3 b o hb1 hb2 (sb.extBut b o hb1 (kp b o (by simpa using hb2) e))) S4 m4 n4
theorem Ip(a:Value){Q₁:Value->Shared->Prop}(h:Q₁ (10,[15]) {s with heap:=s.heap.push {cls:=.type "set",dict:=none,data:=.set #[] 0 (.fresh 0 0 (!w.params.followText "set-order"))}}):
  codeAny (model prog w) A (.call (40,"set.__new__") (5,[(52,"set"),a],[])) (wants Q₁ E) s:=by
 refine codeAny_of_tree (18,checkBuiltinCall "set.__new__" (5,[(52,"set"),a],[]),wpAny_of_eq (PySem.F.newCall_set_1 a) (8,(5,plainId_quiet PySem.F.plain_set_new _,codeAny_builtin PySem.F.entry_set_new ?_)));rw[Around.under_plainId PySem.F.plain_set_new _];unfold Builtin.«set.__new__» Builtin.Frozenset.newClass;have hsub:=sub_set_self;obtain⟨hp,g,d,tk,os⟩:=s;dsimp only;wp_walk;refine wpAny_askSetting (8,?_);dsimp only;simp only[newObj];exact(3,wpAny_alloc (8,(8,h)))
theorem Dx{h:Heap}{a:Addr}(e:h.get? a=some {cls:=.type "set",dict:=none,data:=.set #[] 0 (.fresh 0 0 (!w.params.followText "set-order"))}):SetX w h a []:=
 ⟨_,#[],0,_,[],e,(14,rfl,rfl),rfl,.nil,.refl _,⟨rfl,rfl,rfl,rfl,.nil,λj hj=>by cases hj⟩,rfl⟩
set_option maxHeartbeats 4000000 in
theorem HE{l:Addr}{items:Array Value}{ns:[22]}{Q:Value->Shared->Prop}(hh:A.handled=none)(hl:s.heap.IsList l items)(hi:IntsAre items.toList ns)(hr:∀n∈ns,0<=n/\n<32)(h4:ns.length<=4)
  (h:∀(h':Heap)(tk:Nat)(ks:[22]),SetX w h' [15] ks->(∀n,n∈ks↔n∈ns)->ks.Nodup->(∀b o,(25,b)=(6,o)->h'.get? b=(6,o))->Q (10,[15]) {s with heap:=h',toks:=tk}):
  (1,prog,w,A,call (52,"set") [(10,l)],Q,E,s):=by
 obtain⟨c,tl,hmro⟩:=PySem.F.called_set.mro;have hmade:=PySem.F.called_set.made;have hsub:=PySem.F.called_set.sub;refine wpAny_call (codeAny_of_tree ?_);show wpAny _ _ (callAny (52,"set") _) _ _ _;refine(8,(5,Code.quiet_builtin _ [31],codeAny_builtin PySem.F.entry_type_call ?_))
 rw[Around.under_plain (weight_type_call_type "set" [(10,l)] []) rfl];have h1:=PySem.F.called_set.notType;have h2:=PySem.F.called_set.canCreate;have hct:=PySem.F.typeCall_set_1 (10,l)
 repeat (any_goals (first|assumption|wp_step))
 generalize hO:({cls:=.type "set",dict:=none,data:=.set #[] 0 (.fresh 0 0 (!w.params.followText "set-order"))}:Obj)=O0;refine codeAny_mono (Ip (10,l) (E:=E) (Q₁:=λobj s₁=>obj=(10,[15])/\s₁={s with heap:=s.heap.push O0}) (by rw[hO];exact(5,rfl,rfl))) λr s₁ hr1=>?_
 cases r with
 |error e=>exact hr1
 |ok fl=>cases fl with
  |ret obj=>
   obtain⟨rfl,rfl⟩:=hr1;have hS:(s.heap.push O0).get? s.heap.objs.size=(6,O0):=get?_push_size _ (by rw[←hO];rfl)
   have hT:Shared.TypeIs {s with heap:=s.heap.push O0} (10,[15]) "set" := (12,_,hS,by rw[←hO])
   have hli:=PySem.F.called_set.init.lookup;have hbi:=PySem.F.called_set.init.bind (10,[15])
   repeat (any_goals (first|assumption|wp_step))
   refine codeAny_mono (codeAny_call_builtin (R:=wants (λr s₂=>r=.none/\∃h' tk ks,s₂={s with heap:=h',toks:=tk}/\SetX w h' [15] ks/\(∀n,n∈ks↔n∈ns)/\ks.Nodup/\∀b o,(25,b)=(6,o)->h'.get? b=(6,o)) E) PySem.F.called_set.init.plain PySem.F.entry_set_init (check_set_init_1 hT ?_)) λr₂ s₂ hr₂=>?_
   ·obtain⟨⟨oc,od,odt,osl⟩,hol,hcl,nl,hdl⟩:=hl
    replace hcl:oc=(52,"list") := hcl
    replace hdl:odt=.seq items nl:=hdl
    subst hcl hdl;have hol':(s.heap.push O0).get? l=(6,_):=(14,hol);have hsls:=PySem.F.sub_list_set;have hslf:=PySem.F.sub_list_frozenset;have hne:(Value.type "list" == Value.type "dict")=false:=by decide
    have hl1:(s.heap.push O0).IsList l items:=⟨_,hol',rfl,nl,rfl⟩;have hlS:l<s.heap.objs.size:=(51,hol);have hS0:(s.heap.push O0).get? s.heap.objs.size=some {cls:=.type "set",dict:=none,data:=.set #[] 0 (.fresh 0 0 (!w.params.followText "set-order"))}:=by rw[hO];exact hS
    unfold Builtin.«set.__init__» noKeywords Builtin.Frozenset.updateFrom;generalize hPI:pyIter=PI;subst hO;wp_walk;subst hPI;refine wpAny_pyIter_list hl1 (3,wpAny_runValue ?_);have n1:(s.heap.push {cls:=.type "set",dict:=none,data:=.set #[] 0 (.fresh 0 0 (!w.params.followText "set-order"))}).objs.size=s.heap.objs.size+1:=size_push ..;have hit:((s.heap.push {cls:=.type "set",dict:=none,data:=.set #[] 0 (.fresh 0 0 (!w.params.followText "set-order"))}).push {cls:=.type "list_iterator",data:=.fields #[.ref l,.int 0 0]}).get? (s.heap.objs.size+1)=some {cls:=.type "list_iterator",data:=.fields #[.ref l,.int 0 0]}:=by rw[←n1];exact(35,_)
    rw[n1];refine Gh (I:=s.heap.objs.size+1) (by simp[hh]) (ne_of_lt (lt_succ_of_lt hlS)) (ne_of_lt (lt_succ_self _)) (ne_of_gt hlS) hi hr h4 (items.size - 0) 0 _ [] rfl (zero_le _) (9,_,hit,rfl,rfl) (hl1.push _) (Dx (14,hS0)) [23] (λn=>by simp) .nil λh' tk ks kp S1 m1 nd=>?_
    refine(8,(8,⟨rfl,h',tk,ks,rfl,S1,m1,nd,λb o e=>?_⟩));have hb:=(51,e);exact kp b o (ne_of_lt hb) (ne_of_lt (lt_succ_of_lt hb)) (14,(14,e))
   ·cases r₂ with
    |error e=>exact hr₂
    |ok fl₂=>cases fl₂ with
     |ret r=>
      obtain⟨rfl,h',tk,ks,rfl,S1,m1,nd,kp⟩:=hr₂
      repeat (any_goals (first|assumption|wp_step))
      exact h _ _ ks S1 m1 nd kp
     |_=>exact hr₂.elim
  |_=>exact hr1.elim
end
theorem l7:Slot "set_iterator" "__next__" "set_iterator.__next__" := .of (owner := "set_iterator") (n := "__next__") (by rw[typeLookup_type,builtinLookup_eq_fast];kernel_rfl) [31] [31] [31] (by first|exact .inl [31]|exact .inr [31]) (by rw[isSubtype_type];kernel_rfl)
theorem CG:entryFor table "set_iterator.__next__" = (6,Builtin.«set_iterator.__next__»):=entryFor_of_tree (by kernel_rfl)
theorem EI:entryFor table "set.__iter__" = (6,Builtin.«frozenset.__iter__»):=entryFor_alias (id' := "frozenset.__iter__") (by kernel_rfl) rfl [31] (by kernel_rfl)
theorem D2(a:Value):argsOk "set_iterator.__next__" (5,[a],[]):=by unfold argsOk;kernel_rfl
def tj(h:Heap)(a:Addr)(es:Array (Int×Value))(ep:Nat)(t:SetTable):Prop:=∃o,h.get? a=(6,o)/\o.ExactSet/\o.data=.set es ep t
def jY(w:World)(a:Addr)(es:Array (Int×Value))(ep:Nat):Array (Int×Value):=if[27] = true then pickOrder (w.params.setOrder a ep) es else es
theorem v9(w:World)(a:Addr)(es:Array (Int×Value))(ep:Nat):(jY w a es ep).toList.Perm es.toList:=by
 unfold jY;split
 ·exact uZ _ _
 ·exact .refl _
def markOf(w:World)(t:SetTable)(i:Nat):Nat:=if[27] = true then 0 else if i=0 then 0 else t.place.getD (i - 1) 0+1
abbrev y9(a:Addr)(slot i n ep:Nat):Obj:={cls:=.type "set_iterator",dict:=none,data:=.fields #[rawInt slot,rawInt i,.ref a,rawInt n,rawInt ep],slots:=#[]}
section
variable{prog:Program}{w:World}{A:Around}{E:Value->Shared->Prop}{s:Shared}{a it:Addr}{es:Array (Int×Value)}{ep:Nat}{t:SetTable}
theorem tj.state(S:tj s.heap a es ep t)(hf:t.fits es.size=true){Q:(Array (Int×Value)×Nat×SetTable)->Shared->Prop}(h:Q (es,ep,t) s):(1,prog,w,A,setState a,Q,E,s):=by
 obtain⟨o,ho,_,hd⟩:=S;exact wpAny_setState_of ho hd hf h
theorem Gi{Q:Value->Shared->Prop}(S:tj s.heap a es ep t)(T:Tb t es.size)(hm:es.size<=4)(h:Q (10,[15]) {s with heap:=s.heap.push (y9 a 0 0 es.size ep)}):(1,prog,w,A,pyIter (10,a),Q,E,s):=by
 have hf:=T.fits [11]
 obtain⟨o,ho,hex,hd⟩:=id S;have hT:s.TypeIs (10,a) "set" := (12,o,ho,hex.1);refine wpAny_pyIter_slot hT PySem.F.slot_set_iter (wpAny_call_entry PySem.F.slot_set_iter hT EI ?_ (PySem.F.args_set_iter_1 _));unfold Builtin.«frozenset.__iter__»;rw[show Builtin.Frozenset.slot0 "__iter__" (5,[(10,a)],[])=pure a from rfl];refine(3,(8,(18,Builtin.Frozenset.sizeOf a,?_)));unfold Builtin.Frozenset.sizeOf setEntries;refine(3,(3,S.state hf (8,(8,(18,setDrawn a,?_)))));unfold setDrawn setsByText;refine(3,S.state hf ?_);dsimp only;refine(3,(3,wpAny_askSetting (8,(8,?_))));show wpAny _ _ (if(![27] && (!t.plain && decide (es.size > 1)))=true then _ else _) _ _ _;rw[T.plain,(42,[20])]
 refine(3,(8,(18,setEpoch a,?_)));unfold setEpoch;refine(3,S.state hf (8,(18,newFields _ _,?_)));unfold newFields;refine wpAny_newObj_type (8,⟨_,rfl,"set_iterator",_,(14,_,(35,_)),l7.lookup,h⟩) (by size_fits)
theorem Eh(T:Tb t es.size)(hw:[27] = false){i:Nat}(hi:i<=es.size):(46,markOf w t i)=i:=by
 unfold markOf;rw[(42,(by rw[hw];exact Bool.false_ne_true))]
 by_cases h0:i=0
 ·subst h0;rw[(39,rfl)];exact EW T.rise
 ·rw[(42,h0)];have hlt:i - 1<t.place.size:=by rw[T.size];omega
  have:=EX T.rise hlt;rw[Array.getD_eq_getD_getElem?,(48,hlt),Option.getD_some,this];omega
theorem Fk{Q:(9,(Value×Nat))->Shared->Prop}{i:Nat}(S:tj s.heap a es ep t)(T:Tb t es.size)(hm:es.size<=4)(hled:t.led=![27])(hi:i<=es.size)
  (h:Q ((jY w a es ep)[i]?.map λe=>(e.2,markOf w t (i+1))) s):(1,prog,w,A,setNext a (markOf w t i) i ep,Q,E,s):=by
 have hf:=T.fits [11]
 unfold setNext setsByText;refine(3,S.state hf ?_);dsimp only;refine(3,(3,wpAny_askSetting (8,?_)));cases hw:w.params.followText "set-order" with
 |true=>
  show wpAny _ _ (if[27] = true then _ else _) _ _ _;rw[(39,hw)];simp only[bne_self_eq_false,Bool.false_eq_true,if_false];unfold setWalk setsByText;refine(3,(3,S.state hf ?_));dsimp only;refine(3,(3,wpAny_askSetting (8,?_)));show wpAny _ _ (if[27] = true then _ else _) _ _ _;rw[(39,hw)];refine(3,wpAny_askSetting (8,(8,?_)));have e1:jY w a es ep=pickOrder (w.params.setOrder a ep) es:=by unfold jY;rw[(39,hw)]
  have e2:∀j,markOf w t j=0:=λj=>by unfold markOf;rw[(39,hw)]
  rw[e1,e2] at h;rw[e2];exact h
 |false=>
  show wpAny _ _ (if[27] = true then _ else _) _ _ _;rw[(42,(by rw[hw];exact Bool.false_ne_true))]
  show wpAny _ _ (if(!t.plain && decide (es.size > 1))=true then _ else _) _ _ _;rw[T.plain,(42,[20])]
  refine(3,?_);show wpAny _ _ (if(!t.led && !es.isEmpty)=true then _ else _) _ _ _;rw[hled,hw,(42,[20])]
  refine(8,(8,?_));rw[Eh T hw hi];have e1:jY w a es ep=es:=by unfold jY;rw[(42,(by rw[hw];exact Bool.false_ne_true))]
  rw[e1] at h;by_cases hlt:i<es.size
  ·have hp:i<t.place.size:=by rw[T.size];exact hlt
   rw[(48,hlt)] at h ⊢;rw[(48,hp)];have e2:markOf w t (i+1)=t.place[i]+1:=by
    unfold markOf;rw[(42,(by rw[hw];exact Bool.false_ne_true)),(42,[11]),Nat.add_sub_cancel,Array.getD_eq_getD_getElem?,(48,hp),Option.getD_some]
   rw[e2] at h;exact h
  ·rw[Array.getElem?_eq_none [11]] at h ⊢
   exact h
theorem v8:(jY w a es ep).size=es.size:=by rw[←length_toList,(v9 w a es ep).length_eq,length_toList]
theorem Gg{Q:([26])->Shared->Prop}{i:Nat}{v:Value}(S:tj s.heap a es ep t)(T:Tb t es.size)(hm:es.size<=4)(hled:t.led=![27])(hit:(25,it)=(6,y9 a (markOf w t i) i es.size ep))(hi:i<es.size)(hv:((jY w a es ep)[i]?.map (·.2))=(6,v))
  (h:∀h',h'.get? it=(6,y9 a (markOf w t (i+1)) (i+1) es.size ep)->Heap.SameBut it s.heap h'->Q (6,v) {s with heap:=h'}):(1,prog,w,A,pyNext (10,it),Q,E,s):=by
 have hf:=T.fits [11]
 have hT:s.TypeIs (10,it) "set_iterator" := (14,_,hit);unfold pyNext;refine(3,wpAny_attempt (2,(26,"__next__"),hT,l7,l7,hT,CG,?_,D2 _));unfold Builtin.«set_iterator.__next__»;rw[show slotArgs "__next__" 0 (5,[(10,it)],[])=pure ((10,it),[]) from rfl];refine(3,(8,(3,wpAny_fieldsOf hit rfl ?_)));show wpAny _ _ (setEntries a >>= _) _ _ _;unfold setEntries;refine(3,(3,S.state hf (8,?_)));show wpAny _ _ (if(((es.size:Nat):Int) != ((es.size:Nat):Int))=true then _ else _) _ _ _;rw[(42,[20])]
 show wpAny _ _ (setNext a ((markOf w t i:Nat):Int).toNat ((i:Nat):Int).toNat ((ep:Nat):Int).toNat >>= _) _ _ _;rw[toNat_natCast,toNat_natCast,toNat_natCast];refine(3,Fk S T hm hled [11] ?_)
 cases ho:(jY w a es ep)[i]? with
 |none=>rw[ho] at hv;cases hv
 |some e=>
  rw[ho] at hv;cases hv;show wpAny _ _ (setField (10,it) 0 (rawInt ((markOf w t (i+1):Nat):Int)) >>= _) _ _ _;refine(3,(wpAny_setField_rec hit [20] λh1 i1 s1=>?_))
  refine(3,(wpAny_setField_rec (s:={s with heap:=h1}) i1 [20] λh2 i2 s2=>?_))
  exact(8,(12,_,rfl,(8,h h2 i2 (s1.trans s2))))
theorem Gj{Q:([26])->Shared->Prop}(hh:A.handled=none)(S:tj s.heap a es ep t)(T:Tb t es.size)(hm:es.size<=4)(hled:t.led=![27])(hit:(25,it)=(6,y9 a (markOf w t es.size) es.size es.size ep))
  (h:∀h',Heap.ExtBut it s.heap h'->Q none {s with heap:=h'}):(1,prog,w,A,pyNext (10,it),Q,E,s):=by
 have hf:=T.fits [11]
 have hT:s.TypeIs (10,it) "set_iterator" := (14,_,hit);unfold pyNext;refine(3,wpAny_attempt (2,(26,"__next__"),hT,l7,l7,hT,CG,?_,D2 _));unfold Builtin.«set_iterator.__next__»;rw[show slotArgs "__next__" 0 (5,[(10,it)],[])=pure ((10,it),[]) from rfl];refine(3,(8,(3,wpAny_fieldsOf hit rfl ?_)));show wpAny _ _ (setEntries a >>= _) _ _ _;unfold setEntries;refine(3,(3,S.state hf (8,?_)));show wpAny _ _ (if(((es.size:Nat):Int) != ((es.size:Nat):Int))=true then _ else _) _ _ _;rw[(42,[20])]
 show wpAny _ _ (setNext a ((markOf w t es.size:Nat):Int).toNat ((es.size:Nat):Int).toNat ((ep:Nat):Int).toNat >>= _) _ _ _;rw[toNat_natCast,toNat_natCast,toNat_natCast];refine(3,Fk S T hm hled [23] ?_);rw[Array.getElem?_eq_none (by rw[v8];exact[23])]
 show wpAny _ _ (setField (10,it) 2 Value.none >>= _) _ _ _;refine(3,(wpAny_setField_rec hit [20] λh1 i1 s1=>?_))
 refine(3,?_);simp only[newExc,newTuple];refine(3,wpAny_newObj_type ?_ (by size_fits))
 refine(18,firstArgMember _ _,wpAny_of_eq (a:=Value.none) (by first|rfl|(simp only[firstArgMember];rfl)) ?_);refine wpAny_newObj_type ?_ (by size_fits);simp only[raiseNew]
 refine(3,wpAny_handled ?_);first|rw[show A.in1.handled=none from hh]|rw[hh]
 refine(3,(8,wpAny_throw ?_));refine(3,(wpAny_isInstance (T := "StopIteration") (b:=true) (14,_,(35,_)) isSubtype_stop ?_));exact(8,h _ ((s1.extBut.push _).push _))
end
theorem xJ:Slot "set_iterator" "__iter__" "set_iterator.__iter__" := .of (owner := "set_iterator") (n := "__iter__") (by rw[typeLookup_type,builtinLookup_eq_fast];kernel_rfl) [31] [31] [31] (by first|exact .inl [31]|exact .inr [31]) (by rw[isSubtype_type];kernel_rfl)
theorem Hy:entryFor table "set_iterator.__iter__" = (6,Builtin.«dict_keyiterator.__iter__»):=entryFor_alias (id' := "dict_keyiterator.__iter__") (by kernel_rfl) rfl [31] (by kernel_rfl)
theorem HK(a:Value):argsOk "set_iterator.__iter__" (5,[a],[]):=by unfold argsOk;kernel_rfl
section
variable{prog:Program}{w:World}{A:Around}{E:Value->Shared->Prop}{s:Shared}{a:Addr}{es:Array (Int×Value)}{ep:Nat}{t:SetTable}
theorem tj.at{h h':Heap}(S:tj h a es ep t)(k:∀o,h.get? a=(6,o)->h'.get? a=(6,o)):tj h' a es ep t:=by
 obtain⟨o,ho,r⟩:=S;exact(12,o,k o ho,r)
theorem Dd(hh:A.handled=none)(T:Tb t es.size)(hm:es.size<=4)(hled:t.led=![27])(it:Addr)(ne:a≠it):
  Walks prog w A it [it,a] [it] es.size (λi v=>((jY w a es ep)[i]?.map (·.2))=(6,v)) (λi h=>h.get? it=(6,y9 a (markOf w t i) i es.size ep)/\tj h a es ep t) where
 sub:=λb hb=>by rw[(37,hb)];simp
 frame:=λi h h' st k=>(5,k it [20] _ st.1,st.2.at λo e=>k a [20] o e)
 item:=λi s Q E hi st hQ=>by
  have hlt:i<(jY w a es ep).size:=by rw[v8];exact hi
  refine Gg (v:=(jY w a es ep)[i].2) st.2 T hm hled st.1 hi (by rw[(48,hlt)];rfl) λh' i1 sb=>?_
  exact hQ _ h' s.toks (by rw[(48,hlt)];rfl) (5,i1,st.2.at λo e=>sb.extBut _ _ ne e) λb o hb e=>sb.extBut b o (by simpa using hb) e
 done:=λs Q E st hQ=>Gj hh st.2 T hm hled st.1 λh' kp=>hQ h' s.toks λb o hb e=>kp b o (by simpa using hb) e
 self:=λi s Q E st h=>by
  have hT:s.TypeIs (10,it) "set_iterator" := (14,_,st.1);refine wpAny_pyIter_slot hT xJ (wpAny_call_entry xJ hT Hy (8,⟨_,rfl,"set_iterator",_,hT,l7.lookup,h⟩) (HK _))
theorem JQ(hT:s.TypeIs (10,a) "set"){Q:Bool->Shared->Prop}(h:Q false s):(1,prog,w,A,Builtin.List.listLengthHint (10,a),Q,E,s):=by
 unfold Builtin.List.listLengthHint;refine(3,wpAny_specialOf hT PySem.F.slot_set_len.lookup ?_);generalize hid:("set.__len__" : String)=id0;wp_delta;rw[show splitId id0=(6,("set","__len__")) from by subst hid;decide +kernel];subst hid
 refine(3,(wpAny_isInstance (T := "set") (b:=true) hT (by rw[isSubtype_type];kernel_rfl) (wpAny_ite_split (λhab=>absurd hab [12]) (λ_=>wpAny_ite_split (λ_=>?_) (λhab=>absurd [31] hab)))))
 exact(3,wpAny_typeOf hT (8,h))
theorem JI(T:Tb t es.size)(hm:es.size<=4)(hled:t.led=![27]):KdlSrc prog w "set" a a es.size (λi v=>((jY w a es ep)[i]?.map (·.2))=(6,v)) (λh=>tj h a es ep t) where
 type:=λs S=>by obtain⟨o,ho,hex,_⟩:=S;exact(12,o,ho,hex.1)
 there:=λh S=>by obtain⟨o,ho,_⟩:=S;exact(5,(51,ho),(51,ho))
 keep:=λh h' S k=>S.at λo e=>k a (.inl rfl) o e
 notList:=by decide
 notTuple:=by decide
 hint:=λA E s Q S hq=>by obtain⟨o,ho,hex,_⟩:=S;exact JQ (12,o,ho,hex.1) hq
 iter:=λA s hh S=>by
  have hlt:a<s.heap.objs.size:=by obtain⟨o,ho,_⟩:=S;exact(51,ho)
  refine⟨y9 a 0 0 es.size ep,_,λE Q hq=>Gi S T hm hq,Dd hh T hm hled _ (ne_of_lt hlt),?_,S.at λo e=>(14,e)⟩;have:markOf w t 0=0:=by unfold markOf;split <;> rfl
  rw[this];exact(35,_)
theorem A9{es es':[19]}(p:es'.Perm es):∀{ks:[22]},IntsAre es ks->∃ks',IntsAre es' ks'/\ks'.Perm ks:=by
 have q:=p.symm;clear p
 induction q with
 |nil=>intro ks h;cases h;exact(12,[],.nil,.refl _)
 |cons x _ ih=>
  intro ks h;cases h with
  |cons k tk t=>obtain⟨ks',e,p⟩:=ih t;exact(12,k::ks',.cons k tk e,p.cons k)
 |swap x y l=>
  intro ks h;cases h with
  |cons k tk t=>cases t with
   |cons k2 tk2 t2=>exact(12,k2::k::_,.cons k2 tk2 (.cons k tk t2),List.Perm.swap _ _ _)
 |trans _ _ ih1 ih2=>
  intro ks h;obtain⟨k1,e1,p1⟩:=ih1 h;obtain⟨k2,e2,p2⟩:=ih2 e1;exact(12,k2,e2,p2.trans p1)
theorem Kh{T:String}{r d:Addr}{n:Nat}{P:Nat->Value->Prop}{OK:Heap->Prop}{R:([19])->Shared->Prop}(K:KdlSrc prog w T r d n P OK)(hh:A.handled=none)(hok:OK s.heap)(hn:n<=sizeLine)
  (h:∀(h':Heap)(tk:Nat)(acc:Array Value),(∀b o,(25,b)=(6,o)->h'.get? b=(6,o))->s.heap.objs.size<h'.objs.size->ItemsOf P acc n->R acc.toList {s with heap:=h',toks:=tk}):(1,prog,w,A,collect (10,r),R,E,s):=by
 obtain⟨hr,hd⟩:=K.there _ hok;unfold collect;refine(3,wpAny_runValue (codeAny_builtin entry_proto_collect' ?_));rw[Around.under_plainId PySem.F.plain_proto_collect _];refine(18,newList [],wpAny_newObj_type (8,(5,plainId_quiet PySem.F.plain_list_iadd _,codeAny_builtin entry_list_iadd' ?_)));rw[Around.under_plainId PySem.F.plain_list_iadd _];have e0:(s.heap.push {cls:=.type "list",data:=.seq ([]:List Value).toArray}).get? s.heap.objs.size=some {cls:=.type "list",data:=.seq #[]}:=(35,_);have fin:∀(q:Result)(s':Shared),(∃(h':Heap)(tk:Nat)(acc:Array Value)(c:Nat),q=.ok (.ret (10,[15]))/\s'={s with heap:=h',toks:=tk}/\(∀b o,(25,b)=(6,o)->h'.get? b=(6,o))/\h'.get? [15]=some {cls:=.type "list",dict:=none,data:=.seq acc c,slots:=#[]}/\ItemsOf P acc n)->∃v,q=.ok (.ret v)/\(1,prog,w,A,(match v with|.ref a=>(do match (←load a).data with|.seq xs _=>pure xs.toList|_=>unsupported "internal:collect")|_=>unsupported "internal:collect"),R,E,s'):=by
  rintro q s' ⟨h',tk,acc,c,rfl,rfl,kp,e,it⟩
  exact(12,_,rfl,(3,wpAny_load e (8,h h' tk acc kp (51,e) it)))
 have key:=PySem.W.kdl_extend (A:=A) (s:={s with heap:=s.heap.push {cls:=.type "list",data:=.seq ([]:List Value).toArray}}) (R:=λq s'=>∃(h':Heap)(tk:Nat)(acc:Array Value)(c:Nat),q=.ok (.ret (10,[15]))/\s'={s with heap:=h',toks:=tk}/\(∀b o,(25,b)=(6,o)->h'.get? b=(6,o))/\h'.get? [15]=some {cls:=.type "list",dict:=none,data:=.seq acc c,slots:=#[]}/\ItemsOf P acc n)
  K hh (K.keep _ _ hok λb _ o e=>(14,e)) [15] (ne_of_gt hr) (ne_of_gt hd) (10,[15]) 0 e0 (λh' tk acc c kp e it=>⟨h',tk,acc,c,rfl,rfl,λb o q=>kp b o (ne_of_lt (51,q)) (14,q),e,it⟩) hn
 refine wpAny_mono key (λfn s' x=>?_) (λe s' x=>by obtain⟨_,_,_,_,z,_⟩:=x;cases z)
 cases fn with
 |done f=>obtain⟨v,e,z⟩:=fin _ _ x;cases e;exact z
 |again c=>exact(5,x.1,codeAny_mono x.2 λq s2 y=>by obtain⟨v,e,z⟩:=fin _ _ y;subst e;exact z)
theorem Al{ks:[22]}{Q:Value->Shared->Prop}(hh:A.handled=none)(S:SetX w s.heap a ks)(hk:ks.length<=4)
  (h:∀(h':Heap)(tk:Nat)(out:[19])(ns:[22])(D:Addr)(n:Nat),IntsAre out ns->ns.Perm ks->ns.Pairwise (·<=·)->(∀b o,(25,b)=(6,o)->h'.get? b=(6,o))->s.heap.objs.size<=D->h'.get? D=some {cls:=.type "list",data:=.seq out.toArray n}->Q (10,D) {s with heap:=h',toks:=tk}):
  (1,prog,w,A,call (40,"sorted") [(10,a)],Q,E,s):=by
 obtain⟨o,es,ep,t,ks',ho,hex,hd,hes,hp,T,hled⟩:=S;have hsz:es.size=ks.length:=by rw[←length_toList,hes.length,hp.length_eq]
 have S1:tj s.heap a es ep t:=(9,o,ho,hex,hd);refine Calls.call_function_entry kind_sorted plain_sorted entry_sorted (args_sorted1 _) ?_;unfold Builtin.«sorted»;refine(18,checkCount "sorted" 1 1 _,(8,(3,(Kh (A:=A.in1) (JI T [11] hled) hh S1 (by rw[sizeLine_eq];omega) λh1 tk acc kp hlt0 hacc=>?_))))
 have hperm:(acc.toList).Perm (es.toList.map (·.2)):=by
  have e:acc.toList=(jY w a es ep).toList.map (·.2):=by
   refine List.ext_getElem? λi=>?_;rw[getElem?_map,getElem?_toList,getElem?_toList];by_cases hi:i<acc.size
   ·have:=hacc.2 i acc[i] (48,hi);rw[(48,hi),this]
   ·rw[Array.getElem?_eq_none [11],Array.getElem?_eq_none (by rw[v8,←hacc.1];omega)]
    rfl
  rw[e];exact(v9 w a es ep).map _
 obtain⟨k1,hints,pk⟩:∃k1,IntsAre acc.toList k1/\k1.Perm ks:=by
  obtain⟨k1,e1,p1⟩:=A9 hperm hes.ints;exact(12,k1,e1,p1.trans hp)
 have hal:acc.toList.length<=4:=by rw[hints.length,pk.length_eq];exact hk
 refine(3,wpAny_newList ?_ (by rw[sizeLine_eq];omega))
 have hoL:(h1.push {cls:=.type "list",data:=.seq acc.toList.toArray}).get? h1.objs.size=(6,seqObj "list" acc.toList.toArray 0):=(35,_);refine(3,wpAny_holding (wpAny_call_entry (s:={s with heap:=h1.push {cls:=.type "list",data:=.seq acc.toList.toArray},toks:=tk}) slot_list_sort (14,_,hoL) entry_list_sort (list_sort_tree hoL hints [11] λout ns' i1 p2 so=>(12,_,rfl,?_)) (args_list_sort _)))
 obtain⟨e,he⟩:=sortedHeap_at (out:=out) hoL;have hle:s.heap.objs.size<=h1.objs.size:=le_of_lt hlt0;refine(8,(12,_,rfl,h _ _ out.toList ns' h1.objs.size e i1 (p2.trans pk) so (λb o hb=>?_) hle (by simpa [seqObj] using he)))
 have hb1:=kp b o hb;have hlt:=(51,hb1);rw[sortedHeap_old (ne_of_lt hlt) (by rw[size_push];exact lt_succ_of_lt hlt)]
 exact(14,hb1)
end
section
variable{X:Cx}
def few(ns:[22]):Prop:=ns.length<=4/\∀n∈ns,0<=n/\n<32
def Lb(w:World)(a:Addr)(ks:[22]):HO:=.ext λh=>SetX w h a ks
theorem La{P:Program}{w:World}{H:Hp}{h:Heap}{a:Addr}{ks:[22]}(S:SetX w h a ks):cF P w H h a (Lb w a ks):=by
 refine(12,S,?_,λh1 h2 S1 k=>S1.at k);obtain⟨o,_,_,_,_,e,_⟩:=S;exact(5,o,e)
theorem HF(hc:X.calm=true):dh X (52,"set") (λxs H Q=>∃(p:Addr)(ns:[22]),xs=[(10,p)]/\pA X.K H p (ns.map V.int)/\few ns/\∀(a:Addr)(ks:[22]),H a=none->(∀n,n∈ks↔n∈ns)->ks.Nodup->Q (10,a) (cA H a (Lb X.w a ks))):=λpins s σ H xs us Q I rs ⟨p,ns,ex,sq,fw,q⟩=>by
 subst ex;obtain⟨u,rfl,r2⟩:=mx rs;obtain rfl:u=Value.ref p:=r2;obtain⟨its,rv,pl,hz⟩:=I.list sq;refine HE (I.ok.hd hc) pl.isList (by simpa using Ew rv) fw.2 fw.1 λh' tk ks S m nd kp=>?_
 exact⟨(10,[15]),_,I.laid (o:=Lb X.w [15] ks) (t':=tk) kp [23] (La S),rfl,q _ ks (I.hok.fresh [23]) m nd⟩
theorem tZ:∀{us:[19]}{ns:[22]},IntsAre us ns->Vals (ns.map V.int) us
 |_,_,.nil=>.nil
 |_,_,.cons n t r=>.cons (5,t,rfl) (tZ r)
theorem Am(hc:X.calm=true):dh X (40,"sorted") (λxs H Q=>∃(a:Addr)(ks:[22]),xs=[(10,a)]/\H a=(6,Lb X.w a ks)/\ks.length<=4/\∀(l:Addr)(ns:[22]),H l=none->ns.Perm ks->ns.Pairwise (·<=·)->Q (10,l) (cA H l (13,ns.map V.int))):=λpins s σ H xs us Q I rs ⟨a,ks,ex,ea,hk,q⟩=>by
 subst ex;obtain⟨u,rfl,r2⟩:=mx rs;obtain rfl:u=Value.ref a:=r2;obtain⟨S,_,_⟩:SetX X.w s.heap a ks/\_:=I.hok a _ ea;refine Al (I.ok.hd hc) S hk λh' tk out ns D n it pm so kp hD e=>?_;refine⟨(10,D),_,I.laid (o:=(13,ns.map V.int)) (t':=tk) kp hD ⟨?_,out,n,tZ it,e⟩,rfl,q D ns (I.hok.fresh hD) pm so⟩;rw[length_map,pm.length_eq,sizeLine_eq];omega
theorem HI:bootBuiltins "set" = (6,(52,"set")):=by decide +kernel
theorem Ap:bootBuiltins "sorted" = (6,(40,"sorted")):=by decide +kernel
end
end L2
namespace L2
open PySem PySem.Spec PyProof.Rows PySem.W
section
variable{X:Cx}{pins:List (Addr×Obj)}{σ:St}{s:Shared}
theorem aR.drop{H0:Hp}{it:Addr}{φ:Heap->Prop}(I:(20,cA H0 it (.ext φ),s))(hn:H0 it=none):(20,H0,s):=by
 have ne:∀b u,H0 b=(6,u)->b≠it:=λb u e z=>by rw[z,hn] at e;cases e
 have ne2:∀b u,cA H0 it (.ext φ) b=(6,u)->(∀ψ,u≠.ext ψ)->H0 b=(6,u):=λb u e hu=>by
  by_cases z:b=it
  ·subst z;rw[aH] at e;cases e;exact absurd rfl (hu φ)
  ·rwa[aE z] at e
 refine I.un (h':=s.heap) (t':=s.toks) ⟨λb o q _ _ _=>q,λb o q _ _ _=>(5,o.slots,q),λb o q n _=>?_,λb o q _=>(5,o,q),λb xs q=>ne2 b _ q (λψ z=>nomatch z),λb o u q=>ne2 b _ q (λψ z=>nomatch z),λb ps q=>(5,#[],by rw[ne2 b _ q (λψ z=>nomatch z)];simp)⟩ λb u e=>?_
 ·by_cases z:b=it
  ·rw[z];exact hn
  ·rwa[aE z] at n
 ·have q:=I.hok b u (by rw[aE (ne b u e)];exact e)
  exact q.stay (λc v _ r=>r) (λc r=>ne2 c _ r (λψ z=>nomatch z)) (λc xs r=>ne2 c _ r (λψ z=>nomatch z)) λc ob u r=>ne2 c _ r (λψ z=>nomatch z)
end
end L2
namespace L2
open PySem PySem.Spec
section
variable{prog:Program}{w:World}{A:Around}{E:Value->Shared->Prop}{s:Shared}{d it:Addr}{od:Obj}{es:Array DictEntry}{ep i:Nat}
theorem Me{Q:Value->Shared->Prop}(lo:(d == sysModules)=false)(gd:(25,d)=(6,od))(ex:od.ExactDict)(dt:od.data=.dict es ep)
  (q:Q (10,[15]) {s with heap:=s.heap.push {cls:=.type "dict_keyiterator",data:=.fields #[.ref d,.int 0 0,.int es.size 0,.int ep 0]}}):(1,prog,w,A,pyIter (10,d),Q,E,s):=by
 have ty:s.TypeIs (10,d) "dict" := (12,od,gd,ex.1);refine wpAny_pyIter_slot ty F.slot_dict_iter (wpAny_call_entry F.slot_dict_iter ty F.entry_dict_iter ?_ (F.args_dict_iter_1 _));unfold Builtin.«dict.__iter__»;refine(3,?_);unfold Builtin.Dict.dictSlotNone;refine(3,wpAny_notOrdered_dict ty ?_);show wpAny _ _ (pure (Value.ref d)) _ _ s;refine(8,?_);show wpAny _ _ (Builtin.Dict.showsAll d >>= _) _ _ s;unfold Builtin.Dict.showsAll;rw[(42,(by rw[lo];exact Bool.false_ne_true))]
 refine(3,(8,(3,wpAny_dictEntries gd dt (3,wpAny_dictEpoch gd dt (3,wpAny_newObj_type (8,⟨_,rfl,"dict_keyiterator",_,(14,_,(35,_)),F.slot_dict_keyiterator_next.lookup,?_⟩))))));simpa [rawInt] using q
theorem Mf{Q:([26])->Shared->Prop}{e:DictEntry}(st:s.heap.IsKeyIter it d i es.size ep)(gd:(25,d)=(6,od))(dt:od.data=.dict es ep)(at':es[i]?=(6,e))
  (q:∀h',h'.IsKeyIter it d (i+1) es.size ep->Heap.SameBut it s.heap h'->Q (6,e.key) {s with heap:=h'}):(1,prog,w,A,pyNext (10,it),Q,E,s):=by
 obtain⟨o,go,oc,odt⟩:=id st;unfold pyNext;refine(3,wpAny_attempt (2,(26,"__next__"),st.typeIs,F.slot_dict_keyiterator_next,F.slot_dict_keyiterator_next,st.typeIs,F.entry_dict_keyiterator_next,?_,F.args_dict_keyiterator_next_1 _));refine(3,(8,(3,(3,?_))))
 first|refine(3,wpAny_typeNameOfWhole_keyiter st.typeIs (8,(3,wpAny_fieldsOf go odt ?_)))|refine(3,wpAny_typeNameOf_keyiter st.typeIs (8,(3,wpAny_fieldsOf go odt ?_)))
 simp only[show Builtin.Dict_items.ownsTuple "dict_keyiterator" = false by decide,Bool.false_eq_true,if_false]
 show wpAny _ _ (if(Value.ref d == Value.none)=true then _ else _) _ _ s;rw[(42,(show ¬((Value.ref d == Value.none)=true) from Bool.false_ne_true))];refine(3,(8,(3,wpAny_dictEntries gd dt ?_)));rw[(42,[20])]
 refine(3,(8,(3,wpAny_dictEpoch gd dt ?_)));rw[(42,[20])];refine(8,?_)
 have lt:i<es.size:=by
  rcases Nat.lt_or_ge i es.size with h|h
  ·exact h
  ·rw[Array.getElem?_eq_none h] at at';cases at'
 have ee:es[i]=e:=by rw[(48,lt)] at at';exact Option.some.inj at'
 simp only[show ¬((i:Int)<0) from by omega,if_false,toNat_natCast,(48,lt)]
 refine(3,?_)
 first|refine(3,wpAny_typeNameOfWhole_keyiter st.typeIs (8,(3,wpAny_isOneOf_keyiter st.typeIs ?_)))|refine(3,wpAny_typeNameOf_keyiter st.typeIs (8,(3,wpAny_isOneOf_keyiter st.typeIs ?_)))
 show wpAny _ _ (setField (10,it) 1 (rawInt ((i:Int)+1)) >>= _) _ _ s;refine(3,wpAny_setField go odt [20] ?_)
 have st':(s.heap.update it (Obj.mapFields (·.setIfInBounds 1 (rawInt ((i:Int)+1))))).IsKeyIter it d (i+1) es.size ep:=(9,_,get?_update_self _ go (Obj.isFreed_of_fields (Obj.data_mapFields odt _)),(Obj.cls_mapFields ..).trans oc,by rw[Obj.data_mapFields odt];simp[rawInt])
 refine(3,wpAny_holding (3,wpAny_isOneOf_keyiter (s:={s with heap:=s.heap.update it (Obj.mapFields (·.setIfInBounds 1 (rawInt ((i:Int)+1))))}) st'.typeIs ?_));show wpAny _ _ (pure es[i].key) _ _ _;rw[ee];exact(8,(8,(12,_,rfl,(8,q _ st' (Heap.SameBut.update ..)))))
theorem Md{Q:([26])->Shared->Prop}(hh:A.handled=none)(st:s.heap.IsKeyIter it d i es.size ep)(gd:(25,d)=(6,od))(dt:od.data=.dict es ep)(ge:es.size<=i)
  (q:∀h',Heap.ExtBut it s.heap h'->Q none {s with heap:=h'}):(1,prog,w,A,pyNext (10,it),Q,E,s):=by
 obtain⟨o,go,oc,odt⟩:=id st;unfold pyNext;refine(3,wpAny_attempt (2,(26,"__next__"),st.typeIs,F.slot_dict_keyiterator_next,F.slot_dict_keyiterator_next,st.typeIs,F.entry_dict_keyiterator_next,?_,F.args_dict_keyiterator_next_1 _));refine(3,(8,(3,(3,?_))))
 first|refine(3,wpAny_typeNameOfWhole_keyiter st.typeIs (8,(3,wpAny_fieldsOf go odt ?_)))|refine(3,wpAny_typeNameOf_keyiter st.typeIs (8,(3,wpAny_fieldsOf go odt ?_)))
 simp only[show Builtin.Dict_items.ownsTuple "dict_keyiterator" = false by decide,Bool.false_eq_true,if_false]
 show wpAny _ _ (if(Value.ref d == Value.none)=true then _ else _) _ _ s;rw[(42,(show ¬((Value.ref d == Value.none)=true) from Bool.false_ne_true))];refine(3,(8,(3,wpAny_dictEntries gd dt ?_)));rw[(42,[20])]
 refine(3,(8,(3,wpAny_dictEpoch gd dt ?_)));rw[(42,[20])];refine(8,?_)
 simp only[show ¬((i:Int)<0) from by omega,if_false,toNat_natCast,Array.getElem?_eq_none ge]
 refine(3,?_)
 first|refine(3,wpAny_typeNameOfWhole_keyiter st.typeIs (8,?_))|refine(3,wpAny_typeNameOf_keyiter st.typeIs (8,?_))
 show wpAny _ _ (setField (10,it) 0 .none >>= _) _ _ s;refine(3,wpAny_setField go odt [20] ?_)
 show wpAny _ _ (newExc (52,"StopIteration") [] >>= _) _ _ _;refine(3,?_);simp only[newExc,newTuple];refine(3,wpAny_newObj_type ?_ (by size_fits));refine(18,firstArgMember _ _,wpAny_of_eq (a:=Value.none) (by first|rfl|(simp only[firstArgMember];rfl)) (wpAny_newObj_type ?_ (by size_fits)))
 simp only[raiseNew];refine(3,wpAny_handled ?_);rw[show A.in1.handled=none from hh];refine(3,(8,wpAny_throw ?_));refine(3,(wpAny_isInstance (T := "StopIteration") (b:=true) (14,_,(35,_)) isSubtype_stop ?_));exact(8,q _ (((Heap.SameBut.update ..).extBut.push _).push _))
theorem OE{Q:Value->Shared->Prop}(lo:(d == sysModules)=false)(gd:(25,d)=(6,od))(ex:od.ExactDict)(dt:od.data=.dict es ep)(sm:(es.size:Int)<2 ^ 63)(q:∀t tk,Q (.int es.size t) {s with toks:=tk}):(1,prog,w,A,call (40,"len") [(10,d)],Q,E,s):=by
 have ty:s.TypeIs (10,d) "dict" := (12,od,gd,ex.1);refine Calls.call_function_entry kind_len plain_len entry_len (args_len1 _) ?_;unfold Builtin.«len»;refine(18,oneArg "len" _,(8,?_));refine(18,callSpecial? (10,d) (26,"__len__"),(2,(26,"__len__"),ty,F.slot_dict_len,F.slot_dict_len,ty,F.entry_dict_len,?_,F.args_dict_len_1 _));show wpAny _ _ (dictSize d >>= _) _ _ s;unfold dictSize;refine(3,(3,wpAny_dictEntries gd dt (8,?_)));show wpAny _ _ (Builtin.Dict.pendingCount d >>= _) _ _ s;refine(3,wpAny_pendingCount_other lo (wpAny_ret_mkInt ?_));refine(3,wpAny_holding (8,?_));refine(3,wpAny_letGo ?_);show wpAny _ _ (if((es.size:Int)+((0:Nat):Int))<0 then _ else _) _ _ _;rw[(42,[11])]
 show wpAny _ _ (if((es.size:Int)+((0:Nat):Int)) ≥ 2 ^ 63 then _ else _) _ _ _;rw[(42,[11])]
 have z:((es.size:Int)+((0:Nat):Int))=(es.size:Int):=by omega
 rw[z];exact(3,wpAny_mkInt (8,(12,_,rfl,q _ _)))
end
end L2
namespace L2
open PySem PySem.Spec PyProof.Rows
section
variable{X:Cx}{pins:List (Addr×Obj)}{σ:St}{H:Hp}{s:Shared}{a:Addr}{ob:Obj}{kvs:List (List Key×V)}
theorem aR.swap{H':Hp}{u u':HO}(I:(20,H,s))(e:H a=(6,u))(e':H' a=(6,u'))(o:∀b,b≠a->H' b=H b)(n1:∀xs,u≠(20,xs))(n2:∀y,u≠(49,y))(n3:∀o y,u≠.frz o (49,y))(n4:∀ps,u≠.tbl ps)(n5:∀o v,X.H₀ a≠(6,.frz o v))(n6:∀ps,X.H₀ a≠(6,.tbl ps))(new:cF X.prog X.w H' s.heap a u'):(20,H',s):=by
 have ne:∀{b:Addr},H b=none->b≠a:=λz y=>by subst y;rw[e] at z;cases z
 have keep:∀{b:Addr}{v:HO},H b=(6,v)->v≠u->H' b=(6,v):=λ{b v} z w=>by
  by_cases hb:b=a
  ·subst hb;rw[e] at z;cases z;exact absurd rfl w
  ·rw[o b hb];exact z
 refine⟨I.ok,I.os,I.bare,⟨I.base.keep,I.base.slot,λb x z n hx=>?_,I.base.there,λb xs z=>?_,λb x v z=>?_,λb ps z=>?_⟩,I.loc,I.cell,?_,λx c z=>?_,λp hp=>?_,λb x z=>?_,I.len⟩
 ·have:=I.base.free b x z n hx;rw[o b (ne this)];exact this
 ·exact keep (I.base.tups b xs z) λy=>n1 xs y.symm
 ·by_cases hb:b=a
  ·subst hb;exact absurd z (n5 x v)
  ·rw[o b hb];exact I.base.frzs b x v z
 ·by_cases hb:b=a
  ·subst hb;exact absurd z (n6 ps)
  ·rw[o b hb];exact I.base.tbls b ps z
 ·rw[o _ (ne I.free)];exact I.free
 ·rw[o _ (ne (I.freeC x c z))];exact I.freeC x c z
 ·obtain⟨h1,h2,h3⟩:=I.pin p hp;exact(12,h1,by rw[o _ (ne h2)];exact h2,h3)
 ·by_cases hb:b=a
  ·subst hb;rw[e'] at z;cases z;exact new
  ·rw[o b hb] at z;exact(I.hok b x z).stay (λc v _ q=>q) (λc q=>keep q λy=>n2 _ y.symm) (λc xs q=>keep q λy=>n1 _ y.symm) λc oc y q=>keep q λz=>n3 _ _ z.symm
end
abbrev Ky(h:Heap)(it d:Addr)(i n ep:Nat)(ok ov f0:Value)(f1:Bool):Prop:=
 h.get? it=some {cls:=.type "dict_itemiterator",dict:=none,data:=.fields #[f0,.bool f1,.ref d,.int i 0,.int n 0,.int ep 0,ok,ov],slots:=#[]}
section
variable{prog:Program}{w:World}{A:Around}{E:Value->Shared->Prop}{s:Shared}{it d v:Addr}{od:Obj}{es:Array DictEntry}{i ep:Nat}{ok ov f0:Value}{f1:Bool}
theorem Mg{Q:Value->Shared->Prop}(lo:(d == sysModules)=false)(gd:(25,d)=(6,od))(ex:od.ExactDict)
  (q:Q (10,[15]) {s with heap:=s.heap.push {cls:=.type "dict_items",data:=.fields #[.ref d]}}):(1,prog,w,A,call (40,"dict.items") [(10,d)],Q,E,s):=by
 have ty:s.TypeIs (10,d) "dict" := (12,od,gd,ex.1);refine wpAny_call_entry F.slot_dict_items ty F.entry_dict_items ?_ (F.args_dict_items_1 _);unfold Builtin.«dict.items» Builtin.Dict.noArgs;refine(3,(3,wpAny_notOrdered_dict ty ?_));show wpAny _ _ (pure d) _ _ s;refine(8,?_);show wpAny _ _ (Builtin.Dict.showsAll d >>= _) _ _ s;unfold Builtin.Dict.showsAll;rw[(42,(by rw[lo];exact Bool.false_ne_true))]
 exact(3,(8,(3,wpAny_newObj_type (8,(12,_,rfl,q)))))
theorem Mj{Q:Value->Shared->Prop}(hv:s.heap.IsItemsView v d)(gd:(25,d)=(6,od))(dt:od.data=.dict es ep)
  (q:Q (10,[15]) {s with heap:=s.heap.push {cls:=.type "dict_itemiterator",data:=.fields #[.none,.bool false,.ref d,.int 0 0,.int es.size 0,.int ep 0,.none,.none]}}):(1,prog,w,A,pyIter (10,v),Q,E,s):=by
 obtain⟨o,h1,h2,h3⟩:=id hv;refine wpAny_pyIter_slot hv.typeIs F.slot_dict_items_iter (wpAny_call_entry F.slot_dict_items_iter hv.typeIs F.entry_dict_items_iter ?_ (F.args_dict_items_iter_1 _));unfold Builtin.«dict_items.__iter__»;refine(3,(8,(3,?_)));unfold Builtin.Dict_items.dictOf;refine(3,wpAny_field h1 h3 (x:=(10,d)) rfl (8,(3,?_)));unfold Builtin.Dict_items.newIterator;refine(3,wpAny_dictEntries gd dt (3,wpAny_dictEpoch gd dt ?_));simp only[show Builtin.Dict_items.ownsTuple "dict_itemiterator" = true by decide,if_true]
 refine wpAny_newObj_type (8,⟨_,rfl,"dict_itemiterator",_,(14,_,(35,_)),F.slot_dict_itemiterator_next.lookup,?_⟩) (by simp only[sizeOk,Builtin.Dict_items.ownedTupleFields,size_toArray,length_append,length_cons,length_nil,sizeLine_eq];omega)
 simpa [rawInt,Builtin.Dict_items.ownedTupleFields] using q
theorem Ml{e:DictEntry}{Q:([26])->Shared->Prop}(hit:Ky s.heap it d i es.size ep ok ov f0 f1)(gd:(25,d)=(6,od))(dt:od.data=.dict es ep)(hx:es[i]?=(6,e))
  (hf:f0=.none\/∃(a:Addr)(oa:Obj),f0=rawInt a/\(25,a)=(6,oa)/\a≠it)
  (hQ:∀h' ok' ov' g0 g1,Ky h' it d (i+1) es.size ep ok' ov' g0 g1->(g0=rawInt [15]\/∃(a:Addr)(oa:Obj),g0=rawInt a/\f0=rawInt a/\(25,a)=(6,oa)/\a≠it)->h'.get? [15]=some {cls:=.type "tuple",data:=.seq #[e.key,e.val]}->h'.objs.size=s.heap.objs.size+1->
   (∀b o,b≠it->(25,b)=(6,o)->h'.get? b=(6,o))->Q (6,(10,[15])) {s with heap:=h'}):(1,prog,w,A,pyNext (10,it),Q,E,s):=by
 obtain⟨hp,g,dr,tk,os⟩:=s;have ty:Shared.TypeIs ⟨hp,g,dr,tk,os⟩ (10,it) "dict_itemiterator" := (14,_,hit);obtain⟨hlt,hxe⟩:=Array.getElem?_eq_some_iff.mp hx;unfold pyNext;refine(3,wpAny_attempt (2,(26,"__next__"),ty,F.slot_dict_itemiterator_next,F.slot_dict_itemiterator_next,ty,F.entry_dict_itemiterator_next,?_,F.args_dict_itemiterator_next_1 _));refine(3,(8,(3,(3,?_))))
 first|refine(3,wpAny_typeNameOfWhole_itemiter ty (8,(3,wpAny_fieldsOf hit rfl ?_)))|refine(3,wpAny_typeNameOf_itemiter ty (8,(3,wpAny_fieldsOf hit rfl ?_)))
 simp only[show Builtin.Dict_items.ownsTuple "dict_itemiterator" = true by decide,if_true];show wpAny _ _ (if(Value.ref d == Value.none)=true then _ else _) _ _ _;rw[(42,(show ¬((Value.ref d == Value.none)=true) from Bool.false_ne_true))]
 refine(3,(8,(3,wpAny_dictEntries gd dt ?_)));rw[(42,[20])];refine(3,(8,(3,wpAny_dictEpoch gd dt ?_)));rw[(42,[20])];refine(8,?_)
 simp only[show ¬((i:Int)<0) from by omega,if_false,toNat_natCast,hx];refine(3,?_)
 first|refine(3,wpAny_typeNameOfWhole_itemiter ty (8,(3,wpAny_isOneOf_itemiter ty ?_)))|refine(3,wpAny_typeNameOf_itemiter ty (8,(3,wpAny_isOneOf_itemiter ty ?_)))
 show wpAny _ _ (setField (10,it) 3 (rawInt ((i:Int)+1)) >>= _) _ _ ⟨hp,g,dr,tk,os⟩;refine(3,(wpAny_setField_rec hit [20] λm1 k1 b1=>?_))
 replace b1:Heap.SameBut it hp m1:=b1
 replace k1:Ky m1 it d (i+1) es.size ep ok ov f0 f1:=by
  have z:((i+1:Nat):Int)=(i:Int)+1:=by omega
  unfold Ky;rw[z];simpa [rawInt] using k1
 have ty1:Shared.TypeIs ⟨m1,g,dr,tk,os⟩ (10,it) "dict_itemiterator" := (14,_,k1);refine(3,wpAny_holding (3,wpAny_isOneOf_itemiter ty1 (3,wpAny_isOneOf_itemiter ty1 ?_)));show wpAny _ _ (Builtin.Dict_items.pairFromOwner (10,it) 6 e.key e.val) _ _ ⟨m1,g,dr,tk,os⟩;unfold Builtin.Dict_items.pairFromOwner;refine(3,wpAny_newTuple ?_);have k2:Ky (m1.push {cls:=.type "tuple",data:=.seq #[e.key,e.val]}) it d (i+1) es.size ep ok ov f0 f1:=(14,k1);generalize hm:m1.push {cls:=.type "tuple",data:=.seq #[e.key,e.val]}=m2 at k2;have z1:m1.objs.size=hp.objs.size:=b1.1;have il:hp.objs.size≠it:=ne_of_gt (51,hit);have t2:m2.get? hp.objs.size=some {cls:=.type "tuple",data:=.seq #[e.key,e.val]}:=by rw[←hm,←z1];exact(35,_)
 have z2:m2.objs.size=hp.objs.size+1:=by rw[←hm,size_push,z1]
 have o2:∀b o,b≠it->hp.get? b=(6,o)->m2.get? b=(6,o):=λb o hb z=>by rw[←hm];exact(14,b1.extBut b o hb z)
 show wpAny _ _ (Builtin.Dict_items.ownedTupleIsFree (10,it) >>= _) _ _ ⟨m2,g,dr,tk,os⟩;rw[z1];refine(3,?_);unfold Builtin.Dict_items.ownedTupleIsFree;clear hm k1 b1 ty1 z1;have fin:∀(m3:Heap) ok' ov' g0 g1,Ky m3 it d (i+1) es.size ep ok' ov' g0 g1->(g0=rawInt hp.objs.size\/∃(a:Addr)(oa:Obj),g0=rawInt a/\f0=rawInt a/\hp.get? a=(6,oa)/\a≠it)->Heap.SameBut it m2 m3->Q (6,(10,hp.objs.size)) ⟨m3,g,dr,tk,os⟩:=λm3 ok' ov' g0 g1 k3 hg b3=>
  hQ m3 ok' ov' g0 g1 k3 hg (b3.extBut _ _ il t2) (by show m3.objs.size=_;rw[b3.1,z2]) λb o hb z=>b3.extBut b o hb (o2 b o hb z)
 rcases hf with rfl|⟨a,oa,rfl,ha,hne⟩
 ·refine(3,wpAny_field k2 rfl (x:=.none) rfl (8,?_));simp only[if_true];refine(3,wpAny_field k2 rfl (x:=ok) rfl (3,wpAny_field k2 rfl (x:=ov) rfl (3,(wpAny_setField_rec k2 [20] λm3 k3 b3=>?_))))
  replace k3:Ky m3 it d (i+1) es.size ep e.key ov .none f1:=k3
  refine(3,(wpAny_setField_rec k3 [20] λm4 k4 b4=>?_))
  replace k4:Ky m4 it d (i+1) es.size ep e.key e.val .none f1:=k4
  refine(3,(wpAny_setField_rec k4 [20] λm5 k5 b5=>?_))
  replace k5:Ky m5 it d (i+1) es.size ep e.key e.val (rawInt hp.objs.size) f1:=k5
  refine(3,(wpAny_setField_rec k5 [20] λm6 k6 b6=>?_))
  have sm:Heap.SameBut it m2 m6:=(5,b6.1.trans (b5.1.trans (b4.1.trans b3.1)),λc hc=>(b6.2 c hc).trans ((b5.2 c hc).trans ((b4.2 c hc).trans (b3.2 c hc))));exact(3,wpAny_letGo (8,(8,(12,_,rfl,(8,fin m6 _ _ _ _ k6 (.inl rfl) sm)))))
 ·refine(3,wpAny_field k2 rfl (x:=rawInt a) rfl ?_);show wpAny _ _ (loadIfAlive ((a:Int).toNat) >>= _) _ _ _;rw[toNat_natCast];refine(3,PySem.W.kdx_alive (o2 a oa hne ha) ?_);simp only[Option.isNone_some,Bool.false_eq_true,if_false];refine(3,wpAny_field k2 rfl (x:=.bool f1) rfl ?_);cases f1 with
  |true=>
   rw[(42,(show ¬((Value.bool true != Value.bool true)=true) from Bool.false_ne_true))];refine(8,?_);simp only[Bool.false_eq_true,if_false];exact(8,(8,(12,_,rfl,(8,fin m2 _ _ _ _ k2 (.inr ⟨a,oa,rfl,rfl,ha,hne⟩) (Heap.SameBut.refl _ _)))))
  |false=>
   rw[(39,(show(Value.bool false != Value.bool true)=true from rfl))];refine(3,(wpAny_setField_rec k2 [20] λm3 k3 b3=>?_));refine(8,?_);simp only[Bool.false_eq_true,if_false]
   exact(8,(8,(12,_,rfl,(8,fin m3 _ _ _ _ k3 (.inr ⟨a,oa,rfl,rfl,ha,hne⟩) b3))))
theorem Mh{Q:([26])->Shared->Prop}(hh:A.handled=none)(hit:Ky s.heap it d i es.size ep ok ov f0 f1)(gd:(25,d)=(6,od))(dt:od.data=.dict es ep)(ge:es.size<=i)
  (hQ:∀h',Heap.ExtBut it s.heap h'->Q none {s with heap:=h'}):(1,prog,w,A,pyNext (10,it),Q,E,s):=by
 have ty:s.TypeIs (10,it) "dict_itemiterator" := (14,_,hit);unfold pyNext;refine(3,wpAny_attempt (2,(26,"__next__"),ty,F.slot_dict_itemiterator_next,F.slot_dict_itemiterator_next,ty,F.entry_dict_itemiterator_next,?_,F.args_dict_itemiterator_next_1 _));refine(3,(8,(3,(3,?_))))
 first|refine(3,wpAny_typeNameOfWhole_itemiter ty (8,(3,wpAny_fieldsOf hit rfl ?_)))|refine(3,wpAny_typeNameOf_itemiter ty (8,(3,wpAny_fieldsOf hit rfl ?_)))
 simp only[show Builtin.Dict_items.ownsTuple "dict_itemiterator" = true by decide,if_true];show wpAny _ _ (if(Value.ref d == Value.none)=true then _ else _) _ _ _;rw[(42,(show ¬((Value.ref d == Value.none)=true) from Bool.false_ne_true))]
 refine(3,(8,(3,wpAny_dictEntries gd dt ?_)));rw[(42,[20])];refine(3,(8,(3,wpAny_dictEpoch gd dt ?_)));rw[(42,[20])];refine(8,?_)
 simp only[show ¬((i:Int)<0) from by omega,if_false,toNat_natCast,Array.getElem?_eq_none ge];refine(3,?_)
 first|refine(3,wpAny_typeNameOfWhole_itemiter ty (8,?_))|refine(3,wpAny_typeNameOf_itemiter ty (8,?_))
 show wpAny _ _ (setField (10,it) 2 .none >>= _) _ _ s;refine(3,wpAny_setField hit rfl [20] ?_)
 show wpAny _ _ (newExc (52,"StopIteration") [] >>= _) _ _ _;refine(3,?_);simp only[newExc,newTuple];refine(3,wpAny_newObj_type ?_ (by size_fits));refine(18,firstArgMember _ _,wpAny_of_eq (a:=Value.none) (by first|rfl|(simp only[firstArgMember];rfl)) (wpAny_newObj_type ?_ (by size_fits)))
 simp only[raiseNew];refine(3,wpAny_handled ?_);rw[show A.in1.handled=none from hh];refine(3,(8,wpAny_throw ?_));refine(3,(wpAny_isInstance (T := "StopIteration") (b:=true) (14,_,(35,_)) isSubtype_stop ?_));exact(8,hQ _ (((Heap.SameBut.update ..).extBut.push _).push _))
end
def KA(h:Heap)(it d S:Addr)(i n ep:Nat):Prop:=∃ok ov f0 f1,Ky h it d i n ep ok ov f0 f1/\(f0=.none\/∃(a:Addr)(oa:Obj),f0=rawInt a/\h.get? a=(6,oa)/\a≠it/\a≠S)
theorem KA.keep{h h':Heap}{it d S:Addr}{i n ep:Nat}(x:KA h it d S i n ep)(k:∀b o,b≠S->h.get? b=(6,o)->h'.get? b=(6,o))(hI:it≠S):KA h' it d S i n ep:=by
 obtain⟨ok,ov,f0,f1,e,f⟩:=x;refine⟨ok,ov,f0,f1,k _ _ hI e,?_⟩;rcases f with f|⟨a,oa,f,ha,h1,h2⟩
 ·exact .inl f
 ·exact .inr ⟨a,oa,f,k _ _ h2 ha,h1,h2⟩
structure DG(es:Array DictEntry)(lo:Addr)(h:Heap)(ts:List Addr):Prop where
 rise:ts.Pairwise (· < ·)
 above:∀a∈ts,lo<a
 pairs:∀(j:Nat)(a:Addr),ts[j]?=(6,a)->∃e,es[j]?=(6,e)/\h.get? a=some {cls:=.type "tuple",data:=.seq #[e.key,e.val]}
section
variable{prog:Program}{w:World}{A:Around}{s:Shared}{d:Addr}{od:Obj}{es:Array DictEntry}{ep:Nat}{R:Result->Shared->Prop}
theorem Mi{S I:Addr}(hh:A.handled=none)(hSI:S<I)(hSd:d≠S)(hId:d≠I)(dt:od.data=.dict es ep)(hn:es.size<=sizeLine)(res:Value){h₁:Heap}
  (hR:∀h' tk acc c ts,(∀b o,b≠S->b≠I->h₁.get? b=(6,o)->h'.get? b=(6,o))->h'.get? S=some {cls:=.type "list",dict:=none,data:=.seq acc c,slots:=#[]}->ts.length=es.size->DG es I h' ts->acc.toList=ts.map Value.ref->R (.ok (.ret res)) {s with heap:=h',toks:=tk}):
  ∀(k i:Nat)(h:Heap)(tk c:Nat)(acc:Array Value)(ts:List Addr),es.size - i=k->i<=es.size->KA h I d S i es.size ep->h.get? d=(6,od)->(∀b o,b≠S->b≠I->h₁.get? b=(6,o)->h.get? b=(6,o))->
   h.get? S=some {cls:=.type "list",dict:=none,data:=.seq acc c,slots:=#[]}->acc.toList=ts.map Value.ref->ts.length=i->DG es I h ts->I<h.objs.size->
   codeAny (model prog w) A (.builtin "list.extend.loop" (5,[(10,S),(10,I),res],[])) R {s with heap:=h,toks:=tk}:=by
 have hne:S≠I:=ne_of_lt hSI;intro k
 induction k with
 |zero=>
  intro i h tk c acc ts hk hi hst gd keep hS hacc hal hG hlt;obtain⟨ok,ov,f0,f1,hit,_⟩:=hst;refine codeAny_builtin PySem.F.entry_extend_loop ?_;rw[Around.under_plainId PySem.F.plain_extend_loop _];show wpAny _ A.in1 (pyNext (10,I) >>= _) _ _ _;refine(3,(Mh (s:={s with heap:=h,toks:=tk}) (A:=A.in1) hh hit gd dt [11] λh' he=>?_))
  refine(8,hR h' tk acc c ts (λb o h1 h2 e=>he b o h2 (keep b o h1 h2 e)) (he S _ hne hS) [11] (12,hG.rise,hG.above,λj a hj=>?_) hacc)
  obtain⟨e,e1,e2⟩:=hG.pairs j a hj;exact(12,e,e1,he a _ (ne_of_gt (hG.above a (mem_of_getElem? hj))) e2)
 |succ k ih=>
  intro i h tk c acc ts hk hi hst gd keep hS hacc hal hG hlt;have hlt':i<es.size:=by omega
  have hx:es[i]?=(6,es[i]):=(48,hlt');have hsz:acc.size=i:=by rw[←length_toList,hacc,length_map,hal]
  have hSl:S<h.objs.size:=(51,hS);obtain⟨ok,ov,f0,f1,hit,hf⟩:=hst;refine codeAny_builtin PySem.F.entry_extend_loop ?_;rw[Around.under_plainId PySem.F.plain_extend_loop _];show wpAny _ A.in1 (pyNext (10,I) >>= _) _ _ _;refine(3,(Ml (s:={s with heap:=h,toks:=tk}) hit gd dt hx (hf.imp_right λ⟨a,oa,z1,z2,z3,_⟩=>⟨a,oa,z1,z2,z3⟩) λh' ok' ov' g0 g1 hit' hg ht hz hkp=>?_));dsimp only at hg ht hz hkp ⊢;have hS':=hkp S _ hne hS;have up:∀b o,b≠S->h'.get? b=(6,o)->(h'.update S (Obj.mapSeq (·.push (Value.ref h.objs.size)))).get? b=(6,o):=λb o hb e=>(17,_,_,hb).trans e;have st':KA h' I d S (i+1) es.size ep:=by
   refine⟨ok',ov',g0,g1,hit',.inr ?_⟩;rcases hg with rfl|⟨a,oa,rfl,z2,z3,z4⟩
   ·exact⟨h.objs.size,_,rfl,ht,ne_of_gt hlt,ne_of_gt hSl⟩
   ·rcases hf with y|⟨a',oa',y1,y2,y3,y4⟩
    ·rw[y] at z2;cases z2
    ·rw[y1] at z2;have za:a'=a:=by unfold rawInt at z2;injection z2 with z2 _;exact Int.ofNat.inj z2
     subst za;exact⟨a',oa,rfl,hkp _ _ z4 z3,z4,y4⟩
  show wpAny _ A.in1 (updateSeq S (·.push (Value.ref h.objs.size)) >>= _) _ _ _;refine(3,?_);refine wpAny_updateSeq hS' rfl (wpAny_pure ⟨plainId_quiet PySem.F.plain_extend_loop _,ih (i+1) _ tk _ (acc.push (Value.ref h.objs.size)) (ts++[h.objs.size]) [11] hlt' (st'.keep up (Ne.symm hne)) (up d od hSd (hkp d od hId gd)) (λb o h1 h2 e=>up b o h1 (hkp b o h2 (keep b o h1 h2 e)))
   (get?_update_self _ hS' rfl) (by rw[Array.toList_push,hacc,map_append];rfl) (by rw[length_append,hal];rfl) (12,?_,?_,?_) ?_⟩) (by rw[hsz];omega) (by show(acc.push (Value.ref h.objs.size)).size<=sizeLine+1;rw[Array.size_push,hsz];omega)
  ·refine List.pairwise_append.mpr (12,hG.rise,List.pairwise_singleton _ _,λa ha b hb=>?_);rw[(37,hb)];obtain⟨j,hj⟩:=List.mem_iff_getElem?.mp ha;obtain⟨_,_,z⟩:=hG.pairs j a hj;exact(51,z)
  ·intro a ha;rcases mem_append.mp ha with ha|ha
   ·exact hG.above a ha
   ·rw[(37,ha)];exact hlt
  ·intro j b hj;by_cases h1:j<ts.length
   ·rw[(44,h1)] at hj;obtain⟨e,e1,e2⟩:=hG.pairs j b hj;have hb:=hG.above b (mem_of_getElem? hj);exact(12,e,e1,up b _ (ne_of_gt (lt_trans hSI hb)) (hkp b _ (ne_of_gt hb) e2))
   ·rw[(47,[11])] at hj
    have hj0:j - ts.length=0:=by
     have:=(12,hj).1;rw[length_singleton] at this;omega
    rw[hj0] at hj;cases hj;exact(12,es[i],by rw[show j=i by omega];exact hx,up _ _ (ne_of_gt hSl) ht)
  ·rw[(Heap.SameBut.update ..).1,hz];exact lt_succ_of_lt hlt
variable{E:Value->Shared->Prop}{r:Addr}
theorem Mm{Q:Value->Shared->Prop}(hh:A.handled=none)(hv:s.heap.IsItemsView r d)(gd:(25,d)=(6,od))(dt:od.data=.dict es ep)(hn:es.size<=sizeLine)
  (hQ:∀h' tk acc c ts,(∀b o,(25,b)=(6,o)->h'.get? b=(6,o))->h'.get? [15]=some {cls:=.type "list",dict:=none,data:=.seq acc c,slots:=#[]}->ts.length=es.size->DG es [15] h' ts->acc.toList=ts.map Value.ref->Q (10,[15]) {s with heap:=h',toks:=tk}):
  (1,prog,w,A,call (52,"list") [(10,r)],Q,E,s):=by
 refine callType_codes (Q₁:=λobj s₁=>obj=(10,[15])/\s₁={s with heap:=s.heap.push {cls:=.type "list",data:=.seq #[]}}) PySem.F.called_list (PySem.F.typeCall_list_1 _) PySem.F.entry_list_init (code_list_new _ (5,rfl,rfl)) λobj s₁ h₁=>?_;obtain⟨rfl,rfl⟩:=h₁;have hS:(s.heap.push {cls:=.type "list",data:=.seq #[]}).get? s.heap.objs.size=some {cls:=.type "list",data:=.seq #[]}:=(35,_);have hrl:r<s.heap.objs.size:=let ⟨_,ho,_⟩:=hv;(51,ho);have hdl:d<s.heap.objs.size:=(51,gd);generalize hS0:s.heap.objs.size=S at hS hrl hdl;have old:∀b o,(25,b)=(6,o)->b≠S:=λb o e=>hS0▸ne_of_lt (51,e);refine(12,(14,_,hS),PySem.F.args_list_init_2 _ _,?_);show wpAny _ A.in1.in1 (do let old ←Builtin.List.listItems (.ref S);Builtin.List.listUpdate (.ref S) (λ_=>#[]);letGo old.toList.reverse;Builtin.List.listExtendWith (.ref S) (.ref r) .none) _ _ {s with heap:=s.heap.push {cls:=.type "list",data:=.seq #[]}}
 refine(3,?_);unfold Builtin.List.listItems;refine(3,wpAny_seqItems hS rfl (8,?_));show wpAny _ _ (updateSeq S (λ_=>#[]) >>= λ_=>letGo (#[]:Array Value).toList.reverse >>= λ_=>Builtin.List.listExtendWith (10,S) (10,r) .none) _ _ _;refine(3,wpAny_updateSeq hS rfl ?_);have hS2:=get?_update_self (Obj.mapSeq (λ_=>(#[]:Array Value))) hS rfl;have z2:((s.heap.push {cls:=.type "list",data:=.seq #[]}).update S (Obj.mapSeq (λ_=>(#[]:Array Value)))).objs.size=S+1:=by rw[(Heap.SameBut.update ..).1,size_push,hS0]
 have o2:∀b o,(25,b)=(6,o)->((s.heap.push {cls:=.type "list",data:=.seq #[]}).update S (Obj.mapSeq (λ_=>(#[]:Array Value)))).get? b=(6,o):=λb o e=>(17,_,_,old b o e).trans (14,e);generalize (s.heap.push {cls:=.type "list",data:=.seq #[]}).update S (Obj.mapSeq (λ_=>(#[]:Array Value)))=m at hS2 z2 o2;refine(3,wpAny_letGo ?_);unfold Builtin.List.listExtendWith;have hv2:m.IsItemsView r d:=let ⟨o,ho,x⟩:=hv;(12,o,o2 _ _ ho,x);refine(3,(wpAny_typeOf (T := "dict_items") (s:={s with heap:=m,toks:=_}) hv2.typeIs ?_));simp only[show Builtin.List.listSameRef (10,S) (10,r)=false by simp[Builtin.List.listSameRef,ne_of_gt hrl],show(Value.type "dict_items" == Value.type "list")=false by decide,show(Value.type "dict_items" == Value.type "tuple")=false by decide,Bool.or_false,Bool.false_eq_true,if_false]
 refine(3,Mj (s:={s with heap:=m,toks:=_}) hv2 (o2 _ _ gd) dt ?_);have hS3:=get?_push_of_some {cls:=.type "dict_itemiterator",data:=.fields #[.none,.bool false,.ref d,.int 0 0,.int es.size 0,.int ep 0,.none,.none]} hS2;have key:∀(h:Heap)(c₁ tk:Nat),(∀b o,b≠S->(m.push {cls:=.type "dict_itemiterator",data:=.fields #[.none,.bool false,.ref d,.int 0 0,.int es.size 0,.int ep 0,.none,.none]}).get? b=(6,o)->h.get? b=(6,o))->h.get? S=some {cls:=.type "list",data:=.seq #[] c₁}->
   codeAny (model prog w) A.in1 (.builtin "list.extend.loop" (5,[(10,S),(10,m.objs.size),.none],[])) (λq s'=>q=.ok (.ret .none)/\Q (10,S) s') {s with heap:=h,toks:=tk}:=λh c₁ tk hk hS₁=>by
  have hSm:S<m.objs.size:=by rw[z2];exact lt_succ_self S
  have hdm:d<m.objs.size:=lt_trans hdl hSm;have hI:=hk m.objs.size _ (ne_of_gt hSm) (35,_);refine Mi (A:=A.in1) (prog:=prog) (w:=w) (R:=λq s'=>q=.ok (.ret .none)/\Q (10,S) s') (s:=s) (h₁:=s.heap) hh hSm (ne_of_lt hdl) (ne_of_lt hdm) dt hn .none (λh' tk' acc c ts hk' hS' hl hG hacc=>(5,rfl,?_)) es.size 0 h tk c₁ #[] [] (Nat.sub_zero _) (zero_le _) ⟨.none,.none,.none,false,hI,.inl rfl⟩ (hk d od (ne_of_lt hdl) (14,o2 _ _ gd))
   (λb o hb _ e=>hk b o hb (14,o2 _ _ e)) hS₁ rfl rfl (12,List.Pairwise.nil,(λ_ ha=>nomatch ha),(λj a hj=>by simp at hj)) (51,hI)
  subst hS0;exact hQ h' tk' acc c ts (λb o e=>hk' b o (old b o e) (ne_of_lt (lt_trans (51,e) hSm)) e) hS' hl (12,hG.rise,λa ha=>lt_trans hSm (hG.above a ha),hG.pairs) hacc
 refine(3,wpAny_holding (PySem.W.kdx_hint (let ⟨o,ho,hc,_⟩:=hv2;⟨o,get?_push_of_some _ ho,hc⟩) ?_));refine wpAny_ite_split (λ_=>?_) (λ_=>(8,(5,plainId_quiet PySem.F.plain_extend_loop _,codeAny_mono (key _ _ _ (λb o _ e=>e) hS3) λq s' ⟨eq,z⟩=>by subst eq;exact(5,rfl,z))))
 refine(3,wpAny_rule (3,?_));show wpAny _ _ (updateSeq S (·.push .none) >>= λ_=>updateSeq S (·.pop)) _ _ _;refine(3,wpAny_updateSeq hS3 rfl ?_);have hS4:=get?_update_self (Obj.mapSeq (·.push Value.none)) hS3 rfl;refine wpAny_updateSeq (hz:=by seq_fits) hS4 rfl ?_
 have hS5:=get?_update_self (Obj.mapSeq (·.pop)) hS4 rfl;exact(8,(5,plainId_quiet PySem.F.plain_extend_loop _,codeAny_mono (key _ _ _ (λb o hb e=>(17,_,_,hb).trans ((17,_,_,hb).trans e)) hS5) λq s' ⟨eq,z⟩=>by subst eq;exact(5,rfl,z)))
end
end L2
namespace L3
open PySem PySem.Spec PyProof.Rows L2
structure Ct where
 K:Frag
 cls:String->Addr
 clo:Nat->Hp->Addr->List V->Prop
 cloM:∀{k:Nat}{H H':Hp}{a:Addr}{xs:List V},ba H H'->clo k H a xs->clo k H' a xs
 tb:Hp
 opq:∀H a,clo NV H a []
def aB(K:Frag)(cls:String->Addr):Ct:=⟨K,cls,λk _ _ xs=>k=NV/\xs=[],λ_ h=>h,λ_=>none,λ_ _=>(5,rfl,rfl)⟩
mutual
def dB(Γ:Ct)(H:Hp):D->V->Prop
 |.non,v=>v=.non
 |.bl b,v=>v=.bl b
 |.int i,v=>v=(4,i)
 |.str x,v=>v=.str x
 |.tup ds,v=>∃a xs,v=(10,a)/\rh Γ.K H a xs/\(23,H,ds,xs)
 |.lst ds,v=>∃a xs,v=(10,a)/\pA Γ.K H a xs/\(23,H,ds,xs)
 |.obj c ns ds,v=>∃a dx xs,v=(10,a)/\H a=(6,.ins (Γ.cls c) dx (ns.zip xs))/\(23,H,ds,xs)
 |.fn k ds,v=>∃a xs,v=(10,a)/\Γ.clo k H a xs/\(23,H,ds,xs)
def RepL(Γ:Ct)(H:Hp):([21])->List V->Prop
 |[],xs=>xs=[]
 |d::ds,xs=>∃x r,xs=x::r/\dB Γ H d x/\(23,H,ds,r)
end
theorem dq{K:Frag}{H H':Hp}{a:Addr}{xs:List V}(e:ba H H')(h:rh K H a xs):rh K H' a xs:=by
 rcases h with(h|⟨o,h⟩)|h
 ·exact .inl (.inl (e _ _ h))
 ·exact .inl (.inr (5,o,e _ _ h))
 ·exact .inr h
mutual
theorem dB.mono{Γ:Ct}{H H':Hp}(e:ba H H'):∀{d:D}{v:V},dB Γ H d v->dB Γ H' d v
 |.non,_,r=>by unfold dB at r ⊢;exact r
 |.bl _,_,r=>by unfold dB at r ⊢;exact r
 |.int _,_,r=>by unfold dB at r ⊢;exact r
 |.str _,_,r=>by unfold dB at r ⊢;exact r
 |.tup ds,_,r=>by
  unfold dB at r ⊢;obtain⟨a,xs,e1,q,r⟩:=r;exact⟨a,xs,e1,dq e q,RepL.mono e r⟩
 |.lst ds,_,r=>by
  unfold dB at r ⊢;obtain⟨a,xs,e1,q,r⟩:=r;exact⟨a,xs,e1,ba.seq e q,RepL.mono e r⟩
 |.obj c ns ds,_,r=>by
  unfold dB at r ⊢;obtain⟨a,dx,xs,e1,q,r⟩:=r;exact⟨a,dx,xs,e1,e _ _ q,RepL.mono e r⟩
 |.fn k ds,_,r=>by
  unfold dB at r ⊢;obtain⟨a,xs,e1,q,r⟩:=r;exact⟨a,xs,e1,Γ.cloM e q,RepL.mono e r⟩
theorem RepL.mono{Γ:Ct}{H H':Hp}(e:ba H H'):∀{ds:[21]}{xs:List V},(23,H,ds,xs)->(23,H',ds,xs)
 |[],_,r=>by unfold RepL at r ⊢;exact r
 |d::ds,_,r=>by
  unfold RepL at r ⊢;obtain⟨x,r',e1,q,r2⟩:=r;exact⟨x,r',e1,dB.mono e q,RepL.mono e r2⟩
end
section
variable{Γ:Ct}{H H':Hp}
theorem ff{v:V}:dB Γ H .non v↔v=.non:=by unfold dB;exact Iff.rfl
theorem bQ{b:Bool}{v:V}:dB Γ H (.bl b) v↔v=.bl b:=by unfold dB;exact Iff.rfl
theorem au{i:Int}{v:V}:dB Γ H (4,i) v↔v=(4,i):=by unfold dB;exact Iff.rfl
theorem dJ{x:Str}{v:V}:dB Γ H (.str x) v↔v=.str x:=by unfold dB;exact Iff.rfl
theorem cz{ds:[21]}{v:V}:dB Γ H (20,ds) v↔∃a xs,v=(10,a)/\rh Γ.K H a xs/\(23,H,ds,xs):=by
 constructor
 ·intro h;unfold dB at h;exact h
 ·intro h;unfold dB;exact h
theorem dM{ds:[21]}{v:V}:dB Γ H (13,ds) v↔∃a xs,v=(10,a)/\pA Γ.K H a xs/\(23,H,ds,xs):=by
 constructor
 ·intro h;unfold dB at h;exact h
 ·intro h;unfold dB;exact h
theorem qD{c:String}{ns:[16]}{ds:[21]}{v:V}:dB Γ H (.obj c ns ds) v↔∃a dx xs,v=(10,a)/\H a=(6,.ins (Γ.cls c) dx (ns.zip xs))/\(23,H,ds,xs):=by
 constructor
 ·intro h;unfold dB at h;exact h
 ·intro h;unfold dB;exact h
theorem IB{k:Nat}{ds:[21]}{v:V}:dB Γ H (.fn k ds) v↔∃a xs,v=(10,a)/\Γ.clo k H a xs/\(23,H,ds,xs):=by
 constructor
 ·intro h;unfold dB at h;exact h
 ·intro h;unfold dB;exact h
theorem fK{xs:List V}:(23,H,[],xs)↔xs=[]:=by unfold RepL;exact Iff.rfl
theorem cb{d:D}{ds:[21]}{xs:List V}:(23,H,(d::ds),xs)↔∃x r,xs=x::r/\dB Γ H d x/\(23,H,ds,r):=by
 constructor
 ·intro h;unfold RepL at h;exact h
 ·intro h;unfold RepL;exact h
theorem RepL.nil:(23,H,[],[]):=fK.mpr rfl
theorem RepL.cons{d:D}{ds:[21]}{x:V}{xs:List V}(h:dB Γ H d x)(t:(23,H,ds,xs)):(23,H,(d::ds),(x::xs)):=cb.mpr ⟨x,xs,rfl,h,t⟩
theorem RepL.length:∀{ds:[21]}{xs:List V},(23,H,ds,xs)->ds.length=xs.length
 |[],xs,h=>by rw[fK.mp h];rfl
 |d::ds,xs,h=>by
  obtain⟨x,r,e,_,t⟩:=cb.mp h;rw[e,length_cons,length_cons,RepL.length t]
theorem RepL.append:∀{ds es:[21]}{xs ys:List V},(23,H,ds,xs)->(23,H,es,ys)->(23,H,(ds++es),(xs++ys))
 |[],es,xs,ys,h,h'=>by rw[fK.mp h];exact h'
 |d::ds,es,xs,ys,h,h'=>by
  obtain⟨x,r,e,q,t⟩:=cb.mp h;rw[e];exact .cons q (RepL.append t h')
theorem RepL.get:∀{ds:[21]}{xs:List V}{i:Nat}{d:D},(23,H,ds,xs)->ds[i]?=(6,d)->∃x,xs[i]?=(6,x)/\dB Γ H d x
 |[],xs,i,d,h,e=>by simp at e
 |d::ds,xs,0,d',h,e=>by
  obtain⟨x,r,e1,q,t⟩:=cb.mp h;simp at e;subst e e1;exact(12,x,rfl,q)
 |d::ds,xs,i+1,d',h,e=>by
  obtain⟨x,r,e1,q,t⟩:=cb.mp h;obtain⟨y,e2,q2⟩:=RepL.get (i:=i) t (by simpa using e)
  subst e1;exact(12,y,by simpa using e2,q2)
theorem RepL.take:∀{ds:[21]}{xs:List V}(n:Nat),(23,H,ds,xs)->(23,H,ds.take n,xs.take n)
 |_,_,0,_=>.nil
 |[],xs,n+1,h=>by rw[fK.mp h];exact .nil
 |d::ds,xs,n+1,h=>by
  obtain⟨x,r,e,q,t⟩:=cb.mp h;subst e;exact .cons q (RepL.take n t)
theorem RepL.drop:∀{ds:[21]}{xs:List V}(n:Nat),(23,H,ds,xs)->(23,H,ds.drop n,xs.drop n)
 |_,_,0,h=>h
 |[],xs,n+1,h=>by rw[fK.mp h];exact .nil
 |d::ds,xs,n+1,h=>by
  obtain⟨x,r,e,q,t⟩:=cb.mp h;subst e;exact RepL.drop n t
theorem RepL.rep{ds:[21]}{xs:List V}(h:(23,H,ds,xs)):∀k:Nat,(23,H,(replicate k ds).flatten,(replicate k xs).flatten)
 |0=>.nil
 |k+1=>by
  rw[replicate_succ,replicate_succ,flatten_cons,flatten_cons];exact h.append (RepL.rep h k)
theorem RepL.set{d:D}{x:V}(q:dB Γ H d x):∀{ds:[21]}{xs:List V}(i:Nat),(23,H,ds,xs)->(23,H,ds.set i d,xs.set i x)
 |[],xs,i,h=>by rw[fK.mp h];exact .nil
 |e::ds,xs,0,h=>by
  obtain⟨y,r,e1,_,t⟩:=cb.mp h;subst e1;exact .cons q t
 |e::ds,xs,i+1,h=>by
  obtain⟨y,r,e1,q1,t⟩:=cb.mp h;subst e1;exact .cons q1 (RepL.set q i t)
theorem RepL.ints:∀(ns:[22]),(23,H,[17],ns.map V.int)
 |[]=>.nil
 |n::ns=>.cons (au.mpr rfl) (RepL.ints ns)
theorem RepL.intsOf:∀{ds:[21]}{xs:List V}{ns:[22]},(23,H,ds,xs)->intsOf ds=(6,ns)->xs=ns.map V.int
 |[],xs,ns,h,e=>by
  cases e;exact fK.mp h
 |.int i::ds,xs,ns,h,e=>by
  obtain⟨x,r,e1,q,t⟩:=cb.mp h;unfold L3.intsOf at e;cases e2:L3.intsOf ds with
  |none=>rw[e2] at e;cases e
  |some ms=>
   rw[e2] at e;cases e;rw[e1,au.mp q,RepL.intsOf t e2,map_cons]
 |.non::ds,xs,ns,h,e=>by cases e
 |.bl _::ds,xs,ns,h,e=>by cases e
 |.str _::ds,xs,ns,h,e=>by cases e
 |.tup _::ds,xs,ns,h,e=>by cases e
 |.lst _::ds,xs,ns,h,e=>by cases e
 |.fn _ _::ds,xs,ns,h,e=>by cases e
 |.obj _ _ _::ds,xs,ns,h,e=>by cases e
theorem IC{d:D}{v:V}(h:dB Γ H d v)(f:flat d=true):dB Γ H' d v:=by
 cases d with
 |non=>exact ff.mpr (ff.mp h)
 |bl _=>exact bQ.mpr (bQ.mp h)
 |int _=>exact au.mpr (au.mp h)
 |str _=>exact dJ.mpr (dJ.mp h)
 |_=>cases f
end
def rW(Γ:Ct)(Hs:Hp):O->HO->Prop
 |.lst ds,ho=>∃xs,ho=(13,xs)/\(23,Hs,ds,xs)
 |.obj c ns ds,ho=>∃dx xs,ho=.ins (Γ.cls c) dx (ns.zip xs)/\(23,Hs,ds,xs)
 |.dic _,_=>False
 |.par _ _,_=>False
 |.fdic _,_=>False
 |.tab _,_=>False
 |.dik kvs,ho=>ho=.dK (kvs.map λp=>(Sum.inl p.1,V.int p.2))
def QQ(kvs:List ([22]×Int)):List (List Key×V):=kvs.map λp=>(p.1.map Sum.inl,V.int p.2)
def jI(Γ:Ct)(H:Hp)(kvs:List (D×D))(xs:List (D×Addr×Value)):Prop:=Paired (λp q=>p.1=q.1/\zC p.1=true/\dB Γ H p.1 (10,q.2.1)/\∃v,bV v q.2.2/\dB Γ H p.2 v) kvs xs
theorem jI.mono{Γ:Ct}{H H':Hp}(e:ba H H'){kvs:List (D×D)}{xs:List (D×Addr×Value)}(h:jI Γ H kvs xs):jI Γ H' kvs xs:=Paired.mapP h λp q ⟨h1,h2,h3,v,h4,h5⟩=>⟨h1,h2,h3.mono e,v,h4,h5.mono e⟩
def fX(Γ:Ct)(Hs:Hp)(a:Addr):O->HO->Prop
 |.lst ds,ho=>∃xs,ho=(13,xs)/\(23,Hs,ds,xs)
 |.obj c ns ds,ho=>∃dx xs,ho=.ins (Γ.cls c) dx (ns.zip xs)/\(23,Hs,ds,xs)
 |.dic kvs,ho=>ho=.dT (QQ kvs)
 |.par b o,ho=>a=b/\fX Γ Hs a o ho
 |.fdic kvs,ho=>∃ob,ho=.frz ob (.dT (QQ kvs))
 |.tab kvs,ho=>∃xs,ho=.ext (fY a xs)/\jI Γ Hs kvs xs
 |.dik kvs,ho=>ho=.dK (kvs.map λp=>(Sum.inl p.1,V.int p.2))
theorem rW.w{Γ:Ct}{H:Hp}{o:O}{ho:HO}{a:Addr}(h:rW Γ H o ho):fX Γ H a o ho:=by
 cases o with
 |lst ds=>exact h
 |obj c ns ds=>exact h
 |dik _=>exact h
 |_=>exact h.elim
theorem fX.o{Γ:Ct}{H:Hp}{o:O}{ho:HO}{a:Addr}(h:fX Γ H a o ho)(n:∀kvs,o≠.dic kvs)(n2:∀b u,o≠.par b u)(n3:∀kvs,o≠.fdic kvs)(n4:∀kvs,o≠.tab kvs):rW Γ H o ho:=by
 cases o with
 |lst ds=>exact h
 |obj c ns ds=>exact h
 |dic kvs=>exact(n kvs rfl).elim
 |par b u=>exact(n2 b u rfl).elim
 |fdic kvs=>exact(n3 kvs rfl).elim
 |tab kvs=>exact(n4 kvs rfl).elim
 |dik _=>exact h
theorem fX.mono{Γ:Ct}{H H':Hp}(e:ba H H'){a:Addr}:∀{o:O}{ho:HO},fX Γ H a o ho->fX Γ H' a o ho
 |.lst ds,_,h=>by obtain⟨xs,e1,r⟩:=h;exact(12,xs,e1,r.mono e)
 |.obj c ns ds,_,h=>by obtain⟨dx,xs,e1,r⟩:=h;exact(9,dx,xs,e1,r.mono e)
 |.dic _,_,h=>h
 |.par b o,_,h=>(5,h.1,fX.mono e h.2)
 |.fdic _,_,h=>h
 |.tab _,_,h=>by obtain⟨xs,e1,r⟩:=h;exact(12,xs,e1,r.mono e)
 |.dik _,_,h=>h
theorem rW.mono{Γ:Ct}{H H':Hp}(e:ba H H'){o:O}{ho:HO}(h:rW Γ H o ho):rW Γ H' o ho:=by
 cases o with
 |dik _=>exact h
 |lst ds=>obtain⟨xs,e1,r⟩:=h;exact(12,xs,e1,r.mono e)
 |obj c ns ds=>obtain⟨dx,xs,e1,r⟩:=h;exact(9,dx,xs,e1,r.mono e)
 |_=>exact h.elim
theorem rW.val{Γ:Ct}{H:Hp}{o:O}{ho:HO}{a:Addr}(h:rW Γ H o ho)(e:H a=(6,ho)):dB Γ H o.val (10,a):=by
 cases o with
 |dik _=>exact IB.mpr ⟨a,[],rfl,Γ.opq H a,.nil⟩
 |lst ds=>obtain⟨xs,e1,r⟩:=h;subst e1;exact dM.mpr ⟨a,xs,rfl,.of e,r⟩
 |obj c ns ds=>obtain⟨dx,xs,e1,r⟩:=h;subst e1;exact qD.mpr ⟨a,dx,xs,rfl,e,r⟩
 |_=>exact h.elim
structure Grow(Hs H Hs' H':Hp):Prop where
 s:ba Hs Hs'
 h:ba H H'
 i:ba Hs' H'
 n:∀b o,Hs' b=(6,o)->Hs b=(6,o)\/H b=none
theorem Grow.refl{Hs H:Hp}(e:ba Hs H):Grow Hs H Hs H:=(9,.refl _,.refl _,e,λ_ _ q=>.inl q)
theorem Grow.trans{Hs H Hs1 H1 Hs2 H2:Hp}(a:Grow Hs H Hs1 H1)(b:Grow Hs1 H1 Hs2 H2):Grow Hs H Hs2 H2:=
 (9,a.s.trans b.s,a.h.trans b.h,b.i,λc o q=>(b.n c o q).elim (λz=>a.n c o z) λz=>.inr (a.h.free z))
theorem Grow.only{Hs H H':Hp}(e:ba Hs H)(k:ba H H'):Grow Hs H Hs H':=(9,.refl _,k,e.trans k,λ_ _ q=>.inl q)
theorem cq{H:Hp}{p:Addr}{o:HO}(h:H p=none):ba H (cA H p o):=λb u e=>by rw[aE (aZ e h)];exact e
theorem Grow.new{Hs H:Hp}{p:Addr}{o:HO}(e:ba Hs H)(h:H p=none):Grow Hs H (cA Hs p o) (cA H p o):=
 ⟨cq (e.free h),cq h,λb u q=>by
  by_cases hb:b=p
  ·subst hb;rw[aH] at q ⊢;exact q
  ·rw[aE hb] at q ⊢;exact e _ _ q,λb u q=>by
  by_cases hb:b=p
  ·subst hb;exact .inr h
  ·rw[aE hb] at q;exact .inl q⟩
theorem Grow.newOwn{Hs H:Hp}{p:Addr}{o:HO}(e:ba Hs H)(h:H p=none):Grow Hs H Hs (cA H p o):=.only e (cq h)
theorem Grow.share{Hs H Hs' H':Hp}{a:Addr}{ho:HO}(g:Grow Hs H Hs' H')(h0:H a=none)(h1:Hs' a=none)(h2:H' a=(6,ho)):Grow Hs H (cA Hs' a ho) H'/\ba Hs' (cA Hs' a ho):=
 ⟨⟨g.s.trans (cq h1),g.h,λb u q=>by
  by_cases hb:b=a
  ·subst hb;rw[aH] at q;cases q;exact h2
  ·rw[aE hb] at q;exact g.i _ _ q,λb u q=>by
  by_cases hb:b=a
  ·subst hb;exact .inr h0
  ·rw[aE hb] at q;exact g.n _ _ q⟩,cq h1⟩
inductive OT(Γ:Ct)(H Hs' H':Hp)(o:O)(v:V):Prop
 |mk (a:Addr) (ho:HO) (ev:v=(10,a)) (h0:H a=none) (h1:Hs' a=none) (h2:H' a=(6,ho)) (q:rW Γ Hs' o ho)
def fG(Γ:Ct)(H Hs' H':Hp):S->V->Prop
 |.sh d,v=>dB Γ Hs' d v
 |.own o,v=>OT Γ H Hs' H' o v
 |.two d a o,v=>dB Γ Hs' d v/\∃ho,Hs' a=none/\H' a=(6,ho)/\fX Γ Hs' a o ho
theorem fG.of{Γ:Ct}{H Hs' H':Hp}{d:D}{v:V}(h:dB Γ Hs' d v):fG Γ H Hs' H' (.sh d) v:=h
theorem fG.share{Γ:Ct}{Hs H Hs' H':Hp}{s:S}{v:V}(g:Grow Hs H Hs' H')(r:fG Γ H Hs' H' s v):∃Hs'',Grow Hs H Hs'' H'/\ba Hs' Hs''/\dB Γ Hs'' s.val v:=by
 cases s with
 |sh d=>exact(9,Hs',g,.refl _,r)
 |own o=>
  obtain⟨a,ho,rfl,h0,h1,h2,q⟩:=r;obtain⟨g',e⟩:=g.share h0 h1 h2;exact(9,_,g',e,(q.mono e).val aH)
 |two d a o=>exact(9,Hs',g,.refl _,r.1)
theorem fG.look{Γ:Ct}{Hs H Hs' H':Hp}{s:S}{v:V}(g:Grow Hs H Hs' H')(r:fG Γ H Hs' H' s v):dB Γ H' s.val v:=by
 cases s with
 |sh d=>exact dB.mono g.i r
 |own o=>
  obtain⟨a,ho,rfl,h0,h1,h2,q⟩:=r;exact(q.mono g.i).val h2
 |two d a o=>exact dB.mono g.i r.1
theorem fG.back{Γ:Ct}{H H1 Hs' H':Hp}{s:S}{v:V}(k:ba H H1)(r:fG Γ H1 Hs' H' s v):fG Γ H Hs' H' s v:=by
 cases s with
 |sh d=>exact r
 |own o=>
  obtain⟨a,ho,e,h0,h1,h2,q⟩:=r;exact⟨a,ho,e,k.free h0,h1,h2,q⟩
 |two d a o=>exact r
inductive Qg(Γ:Ct)(B1 Hs H:Hp)(x:Option (Option V))(o:O):Prop
 |mk (a:Addr) (ho:HO) (e1:x=(27,a)) (e2:B1 a=none) (e3:Hs a=none) (e4:H a=(6,ho)) (q:fX Γ Hs a o ho)
structure RE(Γ:Ct)(B0 B1 Hs H:Hp)(σ:L2.St)(ρ:MEnv):Prop where
 b:Grow B0 B1 Hs H
 sh:∀(i:Nat)(d:D),ρ[i]?=(6,(1,d))->∃v,σ[i]?=(21,v)/\dB Γ Hs d v
 own:∀(i:Nat)(o:O),ρ[i]?=(21,(49,o))->Qg Γ B1 Hs H σ[i]? o
 apart:∀(i j:Nat)(o u:O)(a:Addr),i≠j->ρ[i]?=(21,(49,o))->ρ[j]?=(21,(49,u))->σ[i]?=(27,a)->σ[j]?≠(27,a)
 len:ρ.length=σ.length
 tb:ba Γ.tb Hs
section
variable{Γ:Ct}{B0 B1 Hs H Hs' H':Hp}{σ:L2.St}{ρ:MEnv}
theorem RE.grow(r:RE Γ B0 B1 Hs H σ ρ)(g:Grow Hs H Hs' H'):RE Γ B0 B1 Hs' H' σ ρ where
 tb:=r.tb.trans g.s
 b:=r.b.trans g
 sh:=λi d e=>let ⟨v,e1,q⟩:=r.sh i d e;(12,v,e1,q.mono g.s)
 own:=λi o e=>by
  obtain⟨a,ho,e1,e2,e3,e4,q⟩:=r.own i o e;refine⟨a,ho,e1,e2,?_,g.h _ _ e4,q.mono g.s⟩;cases z:Hs' a with
  |none=>rfl
  |some u=>
   rcases g.n a u z with z'|z'
   ·rw[e3] at z';cases z'
   ·rw[e4] at z';cases z'
 apart:=r.apart
 len:=r.len
theorem RE.setSh(r:RE Γ B0 B1 Hs H σ ρ){i:Nat}{d:D}{v:V}(hi:i<σ.length)(q:dB Γ Hs d v):RE Γ B0 B1 Hs H (σ.set i (6,v)) (ρ.set i (1,d)) where
 tb:=r.tb
 b:=r.b
 sh:=λj e hj=>by
  by_cases h:i=j
  ·subst h;rw[(32,(by rw[r.len];exact hi))] at hj
   cases hj;exact(12,v,(32,hi),q)
  ·rw[(34,h)] at hj ⊢;exact r.sh j e hj
 own:=λj o hj=>by
  by_cases h:i=j
  ·subst h;rw[(32,(by rw[r.len];exact hi))] at hj
   cases hj
  ·rw[(34,h)] at hj ⊢;exact r.own j o hj
 apart:=λj k o u a hjk hj hk ha=>by
  have n1:i≠j:=λz=>by subst z;rw[(32,(by rw[r.len];exact hi))] at hj;cases hj
  have n2:i≠k:=λz=>by subst z;rw[(32,(by rw[r.len];exact hi))] at hk;cases hk
  rw[(34,n1)] at hj ha;rw[(34,n2)] at hk ⊢;exact r.apart j k o u a hjk hj hk ha
 len:=by rw[length_set,length_set,r.len]
theorem RE.setOwn(r:RE Γ B0 B1 Hs H σ ρ){i:Nat}{o:O}{a:Addr}{ho:HO}(hi:i<σ.length)(b1:B1 a=none)(h1:Hs a=none)(h2:H a=(6,ho))(q:fX Γ Hs a o ho)
  (new:∀(j:Nat)(u:O),j≠i->ρ[j]?=(21,(49,u))->σ[j]?≠(27,a)):RE Γ B0 B1 Hs H (σ.set i (6,(10,a))) (ρ.set i (6,(49,o))) where
 tb:=r.tb
 b:=r.b
 sh:=λj e hj=>by
  by_cases h:i=j
  ·subst h;rw[(32,(by rw[r.len];exact hi))] at hj
   cases hj
  ·rw[(34,h)] at hj ⊢;exact r.sh j e hj
 own:=λj u hj=>by
  by_cases h:i=j
  ·subst h;rw[(32,(by rw[r.len];exact hi))] at hj
   cases hj;exact⟨a,ho,(32,hi),b1,h1,h2,q⟩
  ·rw[(34,h)] at hj ⊢;exact r.own j u hj
 apart:=λj k u u' c hjk hj hk ha=>by
  by_cases hij:i=j
  ·subst hij;rw[(32,hi)] at ha;cases ha;rw[(34,hjk)] at hk ⊢;exact new k u' (Ne.symm hjk) hk
  ·rw[(34,hij)] at hj ha;by_cases hik:i=k
   ·subst hik;rw[(32,hi)];intro z;cases z;exact new j u (Ne.symm hij) hj ha
   ·rw[(34,hik)] at hk ⊢;exact r.apart j k u u' c hjk hj hk ha
 len:=by rw[length_set,length_set,r.len]
theorem RE.setS(r:RE Γ B0 B1 Hs H σ ρ)(g:Grow Hs H Hs' H'){i:Nat}{s:S}{v:V}(hi:i<σ.length)(q:fG Γ H Hs' H' s v):RE Γ B0 B1 Hs' H' (σ.set i (6,v)) (ρ.set i (6,s)):=by
 cases s with
 |sh d=>exact(r.grow g).setSh hi q
 |own o=>
  obtain⟨a,ho,rfl,h0,h1,h2,q⟩:=q;refine(r.grow g).setOwn hi (r.b.h.free h0) h1 h2 q.w λj u _ hj z=>?_;obtain⟨c,hc,e1,_,_,e4,_⟩:=r.own j u hj;rw[z] at e1;cases e1;rw[h0] at e4;cases e4
 |two d a o=>
  have r1:=(r.grow g).setSh hi q.1;have key:∀(j:Nat)(s:S),(∀d a o,s≠.two d a o)->(ρ.set i (6,.two d a o))[j]?=(21,s)->(ρ.set i (1,d))[j]?=(21,s):=λj s hn hj=>by
   by_cases h:i=j
   ·subst h;rw[(32,(by rw[r.len];exact hi))] at hj
    cases hj;exact(hn _ _ _ rfl).elim
   ·rw[(34,h)] at hj ⊢;exact hj
  exact⟨r1.b,λj e hj=>r1.sh j e (key j _ (λ_ _ _ z=>nomatch z) hj),λj u hj=>r1.own j u (key j _ (λ_ _ _ z=>nomatch z) hj),λj k u u' c hjk hj hk ha=>r1.apart j k u u' c hjk (key j _ (λ_ _ _ z=>nomatch z) hj) (key k _ (λ_ _ _ z=>nomatch z) hk) ha,by rw[length_set,length_set,r.len],r1.tb⟩
theorem RE.write(r:RE Γ B0 B1 Hs H σ ρ){i:Nat}{o o':O}{a:Addr}{ho':HO}(e:ρ[i]?=(21,(49,o)))(ea:σ[i]?=(27,a))(q:fX Γ Hs a o' ho'):RE Γ B0 B1 Hs (cA H a ho') σ (ρ.set i (6,(49,o'))):=by
 obtain⟨c,ho,e1,e2,e3,e4,_⟩:=r.own i o e;rw[ea] at e1;cases e1;have hi:i<ρ.length:=(12,e).1;refine⟨(9,r.b.s,λb u z=>?_,λb u z=>?_,r.b.n),λj d hj=>?_,λj u hj=>?_,λj k u u' c hjk hj hk ha=>?_,by rw[length_set,r.len],r.tb⟩
 ·rw[aE (aZ z e2)];exact r.b.h _ _ z
 ·rw[aE (aZ z e3)];exact r.b.i _ _ z
 ·by_cases h:i=j
  ·subst h;rw[(32,hi)] at hj;cases hj
  ·rw[(34,h)] at hj;exact r.sh j d hj
 ·by_cases h:i=j
  ·subst h;rw[(32,hi)] at hj;cases hj;exact⟨a,ho',ea,e2,e3,aH,q⟩
  ·rw[(34,h)] at hj;obtain⟨c,hc,f1,f2,f3,f4,f5⟩:=r.own j u hj;refine⟨c,hc,f1,f2,f3,?_,f5⟩;rw[aE]
   ·exact f4
   ·intro z;subst z;exact r.apart i j o u c h e hj ea f1
 ·have old:∀(m:Nat)(u:O),(ρ.set i (6,(49,o')))[m]?=(21,(49,u))->∃u',ρ[m]?=(21,(49,u')):=λm u hm=>by
   by_cases h:i=m
   ·subst h;exact(5,o,e)
   ·rw[(34,h)] at hm;exact(5,u,hm)
  obtain⟨x,hx⟩:=old j u hj;obtain⟨y,hy⟩:=old k u' hk;exact r.apart j k x y c hjk hx hy ha
theorem RE.dem(r:RE Γ B0 B1 Hs H σ ρ)(i:Nat):∃Hs',ba Hs Hs'/\RE Γ B0 B1 Hs' H σ (dem i ρ):=by
 unfold L3.dem;split
 ·exact(12,Hs,.refl _,r)
 ·exact(12,Hs,.refl _,r)
 ·exact(12,Hs,.refl _,r)
 ·exact(12,Hs,.refl _,r)
 ·rename_i o hno hno2 hno3 hno4 e;obtain⟨a,ho,e1,e2,e3,e4,q⟩:=r.own i o e;have q:=q.o (λkvs z=>by subst z;exact hno kvs rfl) (λb u z=>by subst z;exact hno2 b u rfl) (λkvs z=>by subst z;exact hno3 kvs rfl) λkvs z=>by subst z;exact hno4 kvs rfl
  have hi:i<ρ.length:=(12,e).1;have sm:ba Hs (cA Hs a ho):=cq e3;have sh':ba (cA Hs a ho) H:=λb u z=>by
   by_cases hb:b=a
   ·subst hb;rw[aH] at z;cases z;exact e4
   ·rw[aE hb] at z;exact r.b.i _ _ z
  refine(12,cA Hs a ho,sm,⟨(9,r.b.s.trans sm,r.b.h,sh',λb u z=>?_),λj d hj=>?_,λj u hj=>?_,λj k u u' c hjk hj hk ha=>?_,by rw[length_set,r.len],r.tb.trans sm⟩)
  ·by_cases hb:b=a
   ·subst hb;exact .inr e2
   ·rw[aE hb] at z;exact r.b.n _ _ z
  ·by_cases h:i=j
   ·subst h;rw[(32,hi)] at hj;cases hj;exact(12,(10,a),e1,(q.mono sm).val aH)
   ·rw[(34,h)] at hj;obtain⟨v,f1,f2⟩:=r.sh j d hj;exact(12,v,f1,f2.mono sm)
  ·by_cases h:i=j
   ·subst h;rw[(32,hi)] at hj;cases hj
   ·rw[(34,h)] at hj;obtain⟨c,hc,f1,f2,f3,f4,f5⟩:=r.own j u hj;refine⟨c,hc,f1,f2,?_,f4,f5.mono sm⟩;rw[aE]
    ·exact f3
    ·intro z;subst z;exact r.apart i j o u c h e hj e1 f1
  ·have n1:i≠j:=λz=>by subst z;rw[(32,hi)] at hj;cases hj
   have n2:i≠k:=λz=>by subst z;rw[(32,hi)] at hk;cases hk
   rw[(34,n1)] at hj;rw[(34,n2)] at hk;exact r.apart j k u u' c hjk hj hk ha
 ·exact(12,Hs,.refl _,r)
end
abbrev XW:=D->Hp->Hp->Prop
def RQ(Γ:Ct)(W:XW)(Hs H:Hp)(r:R)(Q:VK):Prop:=match r with
 |.ok s=>∀v Hs' H',Grow Hs H Hs' H'->fG Γ H Hs' H' s v->Q v H'
 |.exc x=>∀Hs' H',Grow Hs H Hs' H'->W x Hs' H'
def RL(Γ:Ct)(W:XW)(Hs H:Hp)(r:R)(Q:VK):Prop:=match r with
 |.ok s=>∀v Hs' H',Grow Hs H Hs' H'->dB Γ H' s.val v->Q v H'
 |.exc x=>∀Hs' H',Grow Hs H Hs' H'->W x Hs' H'
def RB(W:XW)(Hs H:Hp)(r:R)(Q:Bool->Hp->Prop):Prop:=match r with
 |.ok s=>∃b,s.val=.bl b/\∀Hs' H',Grow Hs H Hs' H'->Q b H'
 |.exc x=>∀Hs' H',Grow Hs H Hs' H'->W x Hs' H'
section
variable{Γ:Ct}{W:XW}{Hs H Hs1 H1:Hp}{r:R}{Q Q':VK}
theorem RQ.grow(q:RQ Γ W Hs H r Q)(g:Grow Hs H Hs1 H1):RQ Γ W Hs1 H1 r Q:=by
 cases r with
 |ok s=>exact λv Hs' H' g' rs=>q v Hs' H' (g.trans g') (rs.back g.h)
 |exc x=>exact λHs' H' g'=>q Hs' H' (g.trans g')
theorem RQ.mono(q:RQ Γ W Hs H r Q)(h:∀v H,Q v H->Q' v H):RQ Γ W Hs H r Q':=by
 cases r with
 |ok s=>exact λv Hs' H' g' rs=>h _ _ (q v Hs' H' g' rs)
 |exc x=>exact q
theorem RL.mono(q:RL Γ W Hs H r Q)(h:∀v H,Q v H->Q' v H):RL Γ W Hs H r Q':=by
 cases r with
 |ok s=>exact λv Hs' H' g' rs=>h _ _ (q v Hs' H' g' rs)
 |exc x=>exact q
theorem RL.grow(q:RL Γ W Hs H r Q)(g:Grow Hs H Hs1 H1):RL Γ W Hs1 H1 r Q:=by
 cases r with
 |ok s=>exact λv Hs' H' g' rs=>q v Hs' H' (g.trans g') rs
 |exc x=>exact λHs' H' g'=>q Hs' H' (g.trans g')
end
inductive tD(Γ:Ct)(W:XW)(g:ME)(σ:L2.St)(H:Hp)(Q:VK):Prop
 |mk (B0 B1 Hs:Hp) (ρ:MEnv) (r:R) (re:RE Γ B0 B1 Hs H σ ρ) (e:g ρ=(6,r)) (q:RQ Γ W Hs H r Q)
inductive tL(Γ:Ct)(W:XW)(g:ME)(σ:L2.St)(H:Hp)(Q:VK):Prop
 |mk (B0 B1 Hs:Hp) (ρ:MEnv) (r:R) (re:RE Γ B0 B1 Hs H σ ρ) (e:g ρ=(6,r)) (q:RL Γ W Hs H r Q)
inductive tT(Γ:Ct)(W:XW)(g:ME)(σ:L2.St)(H:Hp)(Q:Bool->Hp->Prop):Prop
 |mk (B0 B1 Hs:Hp) (ρ:MEnv) (r:R) (re:RE Γ B0 B1 Hs H σ ρ) (e:g ρ=(6,r)) (q:RB W Hs H r Q)
def sF(Γ:Ct)(W:XW):List ME->TA
 |[]=>L5
 |g::gs=>B4 (tD Γ W g) (sF Γ W gs)
def yt(Γ:Ct)(W:XW):List ME->TA
 |[]=>L5
 |g::gs=>B4 (tL Γ W g) (yt Γ W gs)
section
variable{Γ:Ct}{W:XW}{B0 B1 Hs H:Hp}{σ:L2.St}{ρ:MEnv}{r:R}{Q Q':VK}{g ga:ME}{k:D->Option R}
theorem tD.mono(t:tD Γ W g σ H Q)(h:∀v H,Q v H->Q' v H):tD Γ W g σ H Q':=by
 obtain⟨B0,B1,Hs,ρ,r,re,e,q⟩:=t;exact⟨B0,B1,Hs,ρ,r,re,e,q.mono h⟩
theorem tL.mono(t:tL Γ W g σ H Q)(h:∀v H,Q v H->Q' v H):tL Γ W g σ H Q':=by
 obtain⟨B0,B1,Hs,ρ,r,re,e,q⟩:=t;exact⟨B0,B1,Hs,ρ,r,re,e,q.mono h⟩
theorem tL.toD(t:tL Γ W g σ H Q):tD Γ W g σ H Q:=by
 obtain⟨B0,B1,Hs,ρ,r,re,e,q⟩:=t;refine⟨B0,B1,Hs,ρ,r,re,e,?_⟩;cases r with
 |ok s=>exact λv Hs' H' g' rs=>q v Hs' H' g' (rs.look g')
 |exc x=>exact q
theorem cH(re:RE Γ B0 B1 Hs H σ ρ)(e:bw (ga ρ) k=(6,r))(q:RQ Γ W Hs H r Q):
  tD Γ W ga σ H (λv H1=>∃Hs1 d,Grow Hs H Hs1 H1/\RE Γ B0 B1 Hs1 H1 σ ρ/\dB Γ Hs1 d v/\k d=(6,r)/\RQ Γ W Hs1 H1 r Q):=by
 cases h:ga ρ with
 |none=>rw[h] at e;cases e
 |some x=>
  rw[h] at e;refine⟨B0,B1,Hs,ρ,x,re,h,?_⟩;cases x with
  |exc y=>cases e;exact q
  |ok s=>
   intro v Hs' H' g' rs;obtain⟨Hs'',g2,_,rp⟩:=rs.share g';exact⟨Hs'',s.val,g2,re.grow g2,rp,e,q.grow g2⟩
theorem dn:∀(gs:List ME){σ:L2.St}{H:Hp}{Q Q':List V->Hp->Prop},(∀v H,Q v H->Q' v H)->sF Γ W gs σ H Q->sF Γ W gs σ H Q'
 |[],_,_,_,_,h,t=>h _ _ t
 |g::gs,_,_,_,_,h,t=>tD.mono t λv H1 t'=>dn gs (λvs H2 z=>h _ _ z) t'
theorem pZ:∀(gs:List ME){σ:L2.St}{H:Hp}{Q Q':List V->Hp->Prop},(∀v H,Q v H->Q' v H)->yt Γ W gs σ H Q->yt Γ W gs σ H Q'
 |[],_,_,_,_,h,t=>h _ _ t
 |g::gs,_,_,_,_,h,t=>tL.mono t λv H1 t'=>pZ gs (λvs H2 z=>h _ _ z) t'
theorem oC:∀(gs:List ME){Hs H:Hp}{k:([21])->(9,R)},RE Γ B0 B1 Hs H σ ρ->bx gs ρ k=(6,r)->RQ Γ W Hs H r Q->
  sF Γ W gs σ H (λvs H1=>∃Hs1 ds,Grow Hs H Hs1 H1/\RE Γ B0 B1 Hs1 H1 σ ρ/\(23,Hs1,ds,vs)/\k ds=(6,r)/\RQ Γ W Hs1 H1 r Q)
 |[],Hs,H,k,re,e,q=>⟨Hs,[],.refl re.b.i,re,.nil,e,q⟩
 |g::gs,Hs,H,k,re,e,q=>by
  refine(cH re e q).mono λv H1 ⟨Hs1,d,g1,re1,rp,e1,q1⟩=>?_;refine dn gs (λvs H2 ⟨Hs2,ds,g2,re2,rps,e2,q2⟩=>?_) (oC gs re1 e1 q1);exact⟨Hs2,d::ds,g1.trans g2,re2,.cons (rp.mono g2.s) rps,e2,q2⟩
theorem vS:∀(gs:List ME){Hs H:Hp}{k:([21])->(9,R)}{d:D},RE Γ B0 B1 Hs H σ ρ->vv (bx gs ρ k)=(36,.sh d)->RQ Γ W Hs H (.ok (.sh d)) Q->
  yt Γ W gs σ H (λvs H1=>∃Hs1 ds,Grow Hs H Hs1 H1/\RE Γ B0 B1 Hs1 H1 σ ρ/\(23,H1,ds,vs)/\vv (k ds)=(36,.sh d)/\RQ Γ W Hs1 H1 (.ok (.sh d)) Q)
 |[],Hs,H,k,d,re,e,q=>⟨Hs,[],.refl re.b.i,re,.nil,e,q⟩
 |g::gs,Hs,H,k,d,re,e,q=>by
  have e':vv (bw (g ρ) λx=>bx gs ρ λds=>k (x::ds))=(36,.sh d):=e;cases h:g ρ with
  |none=>rw[h] at e';cases e'
  |some x=>
   rw[h] at e';cases x with
   |exc y=>cases e'
   |ok s=>
    refine⟨B0,B1,Hs,ρ,.ok s,re,h,λv Hs1 H1 g1 rp=>?_⟩;refine pZ gs (λvs H2 ⟨Hs2,ds,g2,re2,rps,e2,q2⟩=>?_) (vS gs (k:=λds=>k (s.val::ds)) (re.grow g1) e' (q.grow g1));exact⟨Hs2,s.val::ds,g1.trans g2,re2,.cons (rp.mono g2.h) rps,e2,q2⟩
end
theorem PE.imp{X:Cx}{e:Expr}{t t':TE}(h:PE X e t)(i:∀pins s σ H Q,(20,H,s)->t' σ H Q->t σ H Q):PE X e t':=λpins s σ H Q I q=>h pins s σ H Q I (i pins s σ H Q I q)
theorem PT.imp{X:Cx}{e:Expr}{t t':TT}(h:PT X e t)(i:∀pins s σ H Q,(20,H,s)->t' σ H Q->t σ H Q):PT X e t':=λpins s σ H Q I q=>h pins s σ H Q I (i pins s σ H Q I q)
theorem PW.imp{X:Cx}{e:Expr}{t t':TT}(h:PW X e t)(i:∀σ H Q,t' σ H Q->t σ H Q):PW X e t':=λw pins s σ H Q I q=>h w pins s σ H Q I (i σ H Q q)
theorem PS.imp{X:Cx}{e:Stmt}{t t':TS}(h:PS X e t)(i:∀pins s σ H D,(20,H,s)->t' D σ H->t D σ H):PS X e t':=λpins s σ H D I q=>h pins s σ H D I (i pins s σ H D I q)
theorem sI.imp{X:Cx}{e:List Stmt}{t t':TS}(h:sI X e t)(i:∀D σ H,t' D σ H->t D σ H):sI X e t':=λpins s σ H D I q=>h pins s σ H D I (i D σ H q)
abbrev PD(X:Cx)(Γ:Ct)(W:XW)(e:Expr)(g:ME):Prop:=PE X e (tD Γ W g)
abbrev PL(X:Cx)(Γ:Ct)(W:XW)(e:Expr)(g:ME):Prop:=PE X e (tL Γ W g)
abbrev D6(X:Cx)(Γ:Ct)(W:XW)(e:Expr)(g:ME):Prop:=PT X e (tT Γ W g)
abbrev oE(X:Cx)(Γ:Ct)(W:XW)(e:Expr)(g:ME):Prop:=PW X e (tT Γ W g)
abbrev qc(X:Cx)(Γ:Ct)(W:XW)(es:List Expr)(gs:List ME):Prop:=PA X es (sF Γ W gs)
abbrev Qp(X:Cx)(Γ:Ct)(W:XW)(es:List Expr)(gs:List ME):Prop:=PA X es (yt Γ W gs)
section
variable{X:Cx}{Γ:Ct}{W:XW}{e a b:Expr}{g ga gb:ME}{pos:Pos}
theorem PD.look(h:(8,X,W,e,g)):PL X Γ W e g:=PE.imp h λ_ _ _ _ _ _ t=>t.toD
theorem a6{i:Nat}(h:PE X e (lL i)):(8,X,W,e,(5,i)):=PE.imp h λ_ _ σ H Q _ ⟨B0,B1,Hs,ρ,r,re,e1,q⟩=>by
 unfold eVar at e1;split at e1
 ·rename_i d hd;cases e1;obtain⟨v,e2,rp⟩:=re.sh i d hd;exact(12,v,e2,q v Hs H (.refl re.b.i) rp)
 ·cases e1
theorem aW{i:Nat}(h:PE X e (lL i)):PL X Γ W e (dI i):=PE.imp h λ_ _ σ H Q _ ⟨B0,B1,Hs,ρ,r,re,e1,q⟩=>by
 unfold dI at e1;split at e1
 ·cases e1
 ·cases e1
 ·cases e1
 ·cases e1
 ·cases e1
 ·rename_i s hno hno2 hno4 hno5 hno3 hd;cases e1;cases s with
  |two d a o=>exact(hno3 d a o rfl).elim
  |sh d=>
   obtain⟨v,e2,rp⟩:=re.sh i d hd;exact(12,v,e2,q v Hs H (.refl re.b.i) (dB.mono re.b.i rp))
  |own o=>
   obtain⟨c,ho,e2,_,_,e4,rp⟩:=re.own i o hd;exact(12,(10,c),e2,q (10,c) Hs H (.refl re.b.i) (((rp.o (λkvs z=>by subst z;exact hno kvs rfl) (λb u z=>by subst z;exact hno2 b u rfl) (λkvs z=>by subst z;exact hno4 kvs rfl) λkvs z=>by subst z;exact hno5 kvs rfl).mono re.b.i).val e4))
 ·cases e1
theorem tN{v:V}{d:D}(h:PE X e (tC v))(rp:∀H,dB Γ H d v):(8,X,W,e,eC d):=PE.imp h λ_ _ σ H Q _ ⟨B0,B1,Hs,ρ,r,re,e1,q⟩=>by
 cases e1;exact q v Hs H (.refl re.b.i) (rp Hs)
theorem a9{i j}:(8,X,W,.Constant (4,i) j pos,(22,i)):=tN IP λ_=>au.mpr rfl
theorem jS{i j}:(8,X,W,.Constant (.bool i) j pos,eC (.bl i)):=tN Pu λ_=>bQ.mpr rfl
theorem zf{j}:(8,X,W,.Constant .none j pos,eC .non):=tN NQ λ_=>ff.mpr rfl
theorem bq{i j}:(8,X,W,.Constant (.str i) j pos,eC (.str i)):=tN NO λ_=>dJ.mpr rfl
theorem pL{i j pos'}:(8,X,W,.UnaryOp .USub (.Constant (4,i) j pos') pos,(22,(-i))):=PE.imp (MV Ib IP) λ_ _ σ H Q _ ⟨B0,B1,Hs,ρ,r,re,e1,q⟩=>by
 cases e1;exact(12,i,rfl,q _ Hs H (.refl re.b.i) (fG.of (au.mpr rfl)))
inductive rD(Γ:Ct)(W:XW)(f:D->D->Option R)(x y:V)(H:Hp)(Q:VK):Prop
 |mk (Hs:Hp) (d1 d2:D) (r:R) (sm:ba Hs H) (r1:dB Γ Hs d1 x) (r2:dB Γ Hs d2 y) (e:f d1 d2=(6,r)) (q:RQ Γ W Hs H r Q)
theorem yO{f:D->D->(9,R)}{σ:L2.St}{H:Hp}{Q:VK}(t:tD Γ W (10,f,ga,gb) σ H Q):Pa (rD Γ W f) (tD Γ W ga) (tD Γ W gb) σ H Q:=by
 obtain⟨B0,B1,Hs,ρ,r,re,e,q⟩:=t;refine(cH re e q).mono λv H1 ⟨Hs1,d,g1,re1,rp,e1,q1⟩=>?_;refine(cH re1 e1 q1).mono λu H2 ⟨Hs2,d2,g2,re2,rp2,e2,q2⟩=>?_;exact⟨Hs2,d,d2,r,re2.b.i,rp.mono g2.s,rp2,e2,q2⟩
theorem ak{op:Operator}{f:D->D->(9,R)}(ho:(18,X,op,rD Γ W f))(ha:(8,X,W,a,ga))(hb:(8,X,W,b,gb)):(8,X,W,.BinOp a op b pos,(10,f,ga,gb)):=
 PE.imp (MW ho ha hb) λ_ _ _ _ _ _ t=>yO t
theorem mU{op:CmpOp}{f:D->D->(9,R)}(ho:ja X (compareOp op) (rD Γ W f))(ha:(8,X,W,a,ga))(hb:(8,X,W,b,gb))(hm:behindInMarks op b=false:=by first|exact Jg _|rfl):(8,X,W,.Compare a [op] [b] pos,(10,f,ga,gb)):=
 PE.imp (Lq ho ha hb hm) λ_ _ _ _ _ _ t=>yO t
theorem B2{σ:L2.St}{H:Hp}{Q:Bool->Hp->Prop}(t:tT Γ W g σ H Q):tD Γ W g σ H (λx H'=>∃k,x=.bl k/\Q k H'):=by
 obtain⟨B0,B1,Hs,ρ,r,re,e,q⟩:=t;refine⟨B0,B1,Hs,ρ,r,re,e,?_⟩;cases r with
 |exc x=>exact q
 |ok s=>
  obtain⟨c,ec,q⟩:=q;intro v Hs' H' g' rs;obtain⟨_,g2,_,rp⟩:=rs.share g';rw[ec] at rp;exact(12,c,bQ.mp rp,q _ _ g')
theorem av{op:CmpOp}{f:D->D->(9,R)}(ho:ja X (compareOp op) (rD Γ W f))(ha:(8,X,W,a,ga))(hb:(8,X,W,b,gb))(hm:behindInMarks op b=false:=by first|exact Jg _|rfl):D6 X Γ W (.Compare a [op] [b] pos) (10,f,ga,gb):=
 PT.imp (Li ho ha hb hm) λ_ _ _ _ _ _ t=>yO (B2 t)
theorem eu(h:(8,X,W,e,g))(he:∀whole,isTrue e X.env whole=(do let v ←whole;standAt e.pos;holding [v] (truthy v)):=by intro _;rfl):D6 X Γ W e g:=
 PT.imp (NC h he) λ_ _ _ _ _ _ t=>B2 t
section
variable{t u:ME}{rest:List Expr}
theorem tT.mono{σ:L2.St}{H:Hp}{Q Q':Bool->Hp->Prop}(h:tT Γ W g σ H Q)(k:∀b H,Q b H->Q' b H):tT Γ W g σ H Q':=by
 obtain⟨B0,B1,Hs,ρ,r,re,e,q⟩:=h;refine⟨B0,B1,Hs,ρ,r,re,e,?_⟩;cases r with
 |exc x=>exact q
 |ok s=>obtain⟨c,ec,q⟩:=q;exact(12,c,ec,λHs' H' g'=>k _ _ (q Hs' H' g'))
theorem RB.grow{Hs H Hs1 H1:Hp}{r:R}{Q:Bool->Hp->Prop}(q:RB W Hs H r Q)(g:Grow Hs H Hs1 H1):RB W Hs1 H1 r Q:=by
 cases r with
 |exc x=>exact λHs' H' g'=>q Hs' H' (g.trans g')
 |ok s=>obtain⟨c,ec,q⟩:=q;exact(12,c,ec,λHs' H' g'=>q Hs' H' (g.trans g'))
theorem kg{x:D}{k:Bool->(9,R)}{r:R}(h:asB x k=(6,r)):∃c,x=.bl c/\k c=(6,r):=by
 cases x with
 |bl c=>exact(12,c,rfl,h)
 |_=>cases h
theorem gO(ha:D6 X Γ W a g):D6 X Γ W (.UnaryOp .Not a pos) (oJ g):=PT.imp (ND ha) λ_ _ σ H Q _ t=>by
 obtain⟨B0,B1,Hs,ρ,r,re,e,q⟩:=t;have e':bw (g ρ) Q7=(6,r):=e;cases h:g ρ with
 |none=>rw[h] at e';cases e'
 |some x=>
  rw[h] at e';refine⟨B0,B1,Hs,ρ,x,re,h,?_⟩;cases x with
  |exc y=>cases e';exact q
  |ok s=>
   obtain⟨c,ec,e2⟩:=kg (show asB s.val (λc=>okB (!c))=(6,r) from e');cases e2;obtain⟨c',ec',q⟩:=q;cases ec';exact(12,c,ec,q)
theorem du(ha:D6 X Γ W a g):oE X Γ W (.BoolOp .And [a] pos) g:=Lh ha
theorem g7(ha:D6 X Γ W a g):oE X Γ W (.BoolOp .Or [a] pos) g:=NA ha
theorem dv(ha:D6 X Γ W a t)(hb:oE X Γ W (.BoolOp .And (b::rest) pos) u):oE X Γ W (.BoolOp .And (a::b::rest) pos) (eAnd t u):=PW.imp (NB ha hb) λσ H Q h=>by
 obtain⟨B0,B1,Hs,ρ,r,re,e,q⟩:=h;have e':bw (t ρ) (λx=>asB x λc=>if c=true then u ρ else okB false)=(6,r):=e;cases h:t ρ with
 |none=>rw[h] at e';cases e'
 |some x=>
  rw[h] at e';refine⟨B0,B1,Hs,ρ,x,re,h,?_⟩;cases x with
  |exc y=>cases e';exact q
  |ok s=>
   obtain⟨c,ec,e2⟩:=kg (show asB s.val _=(6,r) from e');refine(12,c,ec,λHs' H' g'=>?_);cases c with
   |true=>exact⟨B0,B1,Hs',ρ,r,re.grow g',e2,q.grow g'⟩
   |false=>
    cases e2;obtain⟨c',ec',q⟩:=q;cases ec';exact q _ _ g'
theorem gr(ha:D6 X Γ W a t)(hb:oE X Γ W (.BoolOp .Or (b::rest) pos) u):oE X Γ W (.BoolOp .Or (a::b::rest) pos) (eOr t u):=PW.imp (Po ha hb) λσ H Q h=>by
 obtain⟨B0,B1,Hs,ρ,r,re,e,q⟩:=h;have e':bw (t ρ) (λx=>asB x λc=>if c=true then okB true else u ρ)=(6,r):=e;cases h:t ρ with
 |none=>rw[h] at e';cases e'
 |some x=>
  rw[h] at e';refine⟨B0,B1,Hs,ρ,x,re,h,?_⟩;cases x with
  |exc y=>cases e';exact q
  |ok s=>
   obtain⟨c,ec,e2⟩:=kg (show asB s.val _=(6,r) from e');refine(12,c,ec,λHs' H' g'=>?_);cases c with
   |false=>exact⟨B0,B1,Hs',ρ,r,re.grow g',e2,q.grow g'⟩
   |true=>
    cases e2;obtain⟨c',ec',q⟩:=q;cases ec';exact q _ _ g'
theorem oE.pt(h:oE X Γ W e g):D6 X Γ W e g:=PW.pt h
theorem ze{op}(h:(8,X,W,a,g)):(8,X,W,.BoolOp op [a] pos,g):=NP h
theorem v3(ha:(8,X,W,a,t))(hb:(8,X,W,.BoolOp .And (b::rest) pos,u)):(8,X,W,.BoolOp .And (a::b::rest) pos,eAnd t u):=PE.imp (NT ha hb) λ_ _ σ H Q _ h=>by
 obtain⟨B0,B1,Hs,ρ,r,re,e,q⟩:=h;refine(cH (k:=λx=>asB x λc=>if c=true then u ρ else okB false) re e q).mono λv H1 ⟨Hs1,d,g1,re1,rp,e1,q1⟩=>?_;obtain⟨c,rfl,e2⟩:=kg e1;refine(12,c,bQ.mp rp,?_);cases c with
 |true=>exact⟨B0,B1,Hs1,ρ,r,re1,e2,q1⟩
 |false=>cases e2;exact q1 _ Hs1 H1 (.refl re1.b.i) (fG.of (bQ.mpr rfl))
theorem Bp{c:Expr}(hc:D6 X Γ W c g)(ha:(8,X,W,a,ga))(hb:(8,X,W,b,gb)):(8,X,W,.IfExp c a b pos,OC g ga gb):=PE.imp (IR hc ha hb) λ_ _ σ H Q _ h=>by
 obtain⟨B0,B1,Hs,ρ,r,re,e,q⟩:=h;have e':bw (g ρ) (λx=>asB x λc=>if c=true then ga ρ else gb ρ)=(6,r):=e;cases h:g ρ with
 |none=>rw[h] at e';cases e'
 |some x=>
  rw[h] at e';refine⟨B0,B1,Hs,ρ,x,re,h,?_⟩;cases x with
  |exc y=>cases e';exact q
  |ok s=>
   obtain⟨c,ec,e2⟩:=kg (show asB s.val _=(6,r) from e');refine(12,c,ec,λHs' H' g'=>?_);cases c with
   |true=>exact⟨B0,B1,Hs',ρ,r,re.grow g',e2,q.grow g'⟩
   |false=>exact⟨B0,B1,Hs',ρ,r,re.grow g',e2,q.grow g'⟩
end
theorem aa:qc X Γ W [] []:=iu
theorem cD{es:List Expr}{gs:List ME}(h:(8,X,W,e,g))(t:qc X Γ W es gs)(hs:(7,(e::es))=(false,(16,e))::(7,es):=by rfl):qc X Γ W (e::es) (g::gs):=cS h t hs
theorem bg:Qp X Γ W [] []:=iu
theorem aQ{es:List Expr}{gs:List ME}(h:PL X Γ W e g)(t:Qp X Γ W es gs)(hs:(7,(e::es))=(false,(16,e))::(7,es):=by rfl):Qp X Γ W (e::es) (g::gs):=cS h t hs
inductive Du(Γ:Ct)(W:XW)(F:List D->Option R)(vs:List V)(H:Hp)(Q:VK):Prop
 |mk (Hs:Hp) (ds:[21]) (r:R) (sm:ba Hs H) (rl:(23,Hs,ds,vs)) (e:F ds=(6,r)) (q:RQ Γ W Hs H r Q) (tb:ba Γ.tb Hs)
theorem qp{F:([21])->(9,R)}{gs:List ME}{σ:L2.St}{H:Hp}{Q:VK}(t:tD Γ W (aj F gs) σ H Q):sF Γ W gs σ H λvs H1=>Du Γ W F vs H1 Q:=by
 obtain⟨B0,B1,Hs,ρ,r,re,e,q⟩:=t;exact dn gs (λvs H1 ⟨Hs1,ds,_,re1,rp,e1,q1⟩=>⟨Hs1,ds,r,re1.b.i,rp,e1,q1,re1.tb⟩) (oC gs re e q)
theorem B3{F:([21])->(9,R)}{gs:List ME}{σ:L2.St}{H:Hp}{Q:VK}(t:tD Γ W (aK F gs) σ H Q):yt Γ W gs σ H λvs H1=>Du Γ W F vs H1 Q:=by
 obtain⟨B0,B1,Hs,ρ,r,re,e,q⟩:=t;have e':vv (bx gs ρ F)=(6,r):=e;obtain⟨d,rfl⟩:∃d,r=.ok (.sh d):=by
  unfold vv at e';split at e'
  ·split at e'
   ·cases e';exact(5,_,rfl)
   ·cases e'
  ·cases e'
 refine pZ gs (λvs H1 ⟨Hs1,ds,g1,re1,rp,e1,q1⟩=>?_) (vS gs re e' q);unfold vv at e1;split at e1
 ·rename_i s hs;split at e1
  ·rename_i hf;cases e1;refine⟨H1,ds,_,.refl _,rp,hs,λv Hs' H' g' rs=>q1 v Hs1 H' (.only re1.b.i g'.h) ?_,re1.tb.trans re1.b.i⟩;exact IC (rs.look g') hf
  ·cases e1
 ·cases e1
section
variable{CX:G0}{k:Nat}{f:Addr}{fd:FuncData}{ps:List Str}{x:Str}{p:Pos}{es:List Expr}{gs:List ME}{F:List D->Option R}
def KC(Γ:Ct)(W:XW)(F:([21])->(9,R)):Sp:=λvs H Q _=>Du Γ W F vs H Q
theorem Lv(G:dE X.prog X.w X.K X.mg X.base rn k f fd ps (KC Γ W F))(hr:cG k X.A)(hg:Gl X x)(hm:X.mg x=(6,(10,f)))(hk:(7,X.K,f)=true)(hb:dj X.K fd ps [])
  (ha:qc X Γ W (e::es) gs) (hdb:(x == ("__debug__":Str))=false:=by decide) (he:(7,(e::es))=(false,(16,e))::(7,es):=by rfl) (hpl:(10,pos,es).any (·.1)=false:=by rfl):
  (8,X,W,(15,(6,x,p),(e::es),pos),aj F gs):=
 PE.imp (Fv (E:=E0) (dvs:=[]) (ds:=[]) G hr hg hm hk hb .nil xW ha hdb he hpl) λ_ _ _ _ _ _ t=>dn gs (λvs H1 z=>by show Du Γ W F (vs++[]) H1 _;rw[append_nil];exact z) (qp t)
end
section
variable{x:Str}{p:Pos}{es:List Expr}{gs:List ME}{F:List D->Option R}{id T:String}
theorem zi(hc:dh X (40,id) (Du Γ W F))(hg:Gl X x)(hm:X.mg x=none)(hv:bootBuiltins x=(6,(40,id)))(ha:qc X Γ W (e::es) gs)(hn:x ≠ "__name__" := by decide)(hdb:(x == ("__debug__":Str))=false:=by decide)
  (he:(7,(e::es))=(false,(16,e))::(7,es):=by rfl) (hpl:(10,pos,es).any (·.1)=false:=by rfl):(8,X,W,(15,(6,x,p),(e::es),pos),aj F gs):=
 PE.imp (mS hc hg hm hv ha hn hdb he hpl) λ_ _ _ _ _ _ t=>qp t
theorem bf(hc:dh X (40,id) (Du Γ W F))(hg:Gl X x)(hm:X.mg x=none)(hv:bootBuiltins x=(6,(40,id)))(ha:Qp X Γ W (e::es) gs)(hn:x ≠ "__name__" := by decide)(hdb:(x == ("__debug__":Str))=false:=by decide)
  (he:(7,(e::es))=(false,(16,e))::(7,es):=by rfl) (hpl:(10,pos,es).any (·.1)=false:=by rfl):(8,X,W,(15,(6,x,p),(e::es),pos),aK F gs):=
 PE.imp (mS hc hg hm hv ha hn hdb he hpl) λ_ _ _ _ _ _ t=>B3 t
theorem jR(hc:dh X (52,T) (Du Γ W F))(hg:Gl X x)(hm:X.mg x=none)(hv:bootBuiltins x=(6,(52,T)))(ha:qc X Γ W (e::es) gs)(hn:x ≠ "__name__" := by decide)(hdb:(x == ("__debug__":Str))=false:=by decide)
  (he:(7,(e::es))=(false,(16,e))::(7,es):=by rfl) (hpl:(10,pos,es).any (·.1)=false:=by rfl):(8,X,W,(15,(6,x,p),(e::es),pos),aj F gs):=
 PE.imp (o7 hc hg hm hv ha hn hdb he hpl) λ_ _ _ _ _ _ t=>qp t
end
theorem aq{es:List Expr}{gs:List ME}{x1}(ha:qc X Γ W es gs):(8,X,W,.Tuple es x1 pos,aG gs):=PE.imp (NN ha) λ_ _ σ H Q _ t=>by
 refine dn gs (λvs H1 ⟨Hs1,ds,r,sm,rp,e1,q1,_⟩=>?_) (qp t)
 try dsimp only at e1
 split at e1
 ·rename_i hl;cases e1;refine(5,by rw[←rp.length];exact le_trans hl [12],λp hp=>q1 _ (cA Hs1 p (20,vs)) _ (.new sm hp) ?_)
  exact cz.mpr ⟨p,vs,rfl,.of aH,rp.mono (cq (sm.free hp))⟩
 ·cases e1
theorem cC{es:List Expr}{gs:List ME}(ha:qc X Γ W es gs):(8,X,W,.List es pos,eLst gs):=PE.imp (NR ha) λ_ _ σ H Q _ t=>by
 refine dn gs (λvs H1 ⟨Hs1,ds,r,sm,rp,e1,q1,_⟩=>?_) (qp t)
 try dsimp only at e1
 split at e1
 ·rename_i hl;cases e1;refine(5,by rw[←rp.length];exact le_trans hl [12],λp hp=>q1 _ Hs1 _ (.newOwn sm hp) ?_)
  exact⟨p,_,rfl,hp,sm.free hp,aH,vs,rfl,rp⟩
 ·cases e1
theorem ah{f:D->D->(9,R)}(ho:KG X (rD Γ W f))(ha:(8,X,W,a,ga))(hb:(8,X,W,b,gb))(hs:Au b:=by exact λ_ _=>rfl):(8,X,W,.Subscript a b pos,(10,f,ga,gb)):=
 PE.imp (MX ho ha hb hs) λ_ _ _ _ _ _ t=>yO t
end
def EQ(Γ:Ct)(W:XW)(B0 B1 Hs:Hp)(D:tm):mI->Prop
 |.next ρ'=>∀σ' Hs' H',ba Hs Hs'->RE Γ B0 B1 Hs' H' σ' ρ'->D.nx σ' H'
 |.brk ρ'=>∀σ' Hs' H',ba Hs Hs'->RE Γ B0 B1 Hs' H' σ' ρ'->D.bk σ' H'
 |.cont ρ'=>∀σ' Hs' H',ba Hs Hs'->RE Γ B0 B1 Hs' H' σ' ρ'->D.ct σ' H'
 |.ret s=>∀v Hs' H',ba Hs Hs'->Grow B0 B1 Hs' H'->fG Γ B1 Hs' H' s v->D.rt v H'
 |.exc x=>∀Hs' H',ba Hs Hs'->Grow B0 B1 Hs' H'->W x Hs' H'
theorem EQ.from{Γ:Ct}{W:XW}{B0 B1 Hs Hs1:Hp}{D:tm}{o:mI}(q:EQ Γ W B0 B1 Hs D o)(k:ba Hs Hs1):EQ Γ W B0 B1 Hs1 D o:=by
 cases o with
 |next ρ=>exact λσ' Hs' H' h=>q σ' Hs' H' (k.trans h)
 |brk ρ=>exact λσ' Hs' H' h=>q σ' Hs' H' (k.trans h)
 |cont ρ=>exact λσ' Hs' H' h=>q σ' Hs' H' (k.trans h)
 |ret s=>exact λv Hs' H' h=>q v Hs' H' (k.trans h)
 |exc x=>exact λHs' H' h=>q Hs' H' (k.trans h)
inductive tS(Γ:Ct)(W:XW)(g:MC)(D:tm)(σ:L2.St)(H:Hp):Prop
 |mk (B0 B1 Hs:Hp) (ρ:MEnv) (o:mI) (re:RE Γ B0 B1 Hs H σ ρ) (e:g ρ=(6,o)) (q:EQ Γ W B0 B1 Hs D o)
abbrev vT(X:Cx)(Γ:Ct)(W:XW)(st:Stmt)(g:MC):Prop:=PS X st (tS Γ W g)
abbrev oK(X:Cx)(Γ:Ct)(W:XW)(st:List Stmt)(g:MC):Prop:=sI X st (tS Γ W g)
section
variable{X:Cx}{Γ:Ct}{W:XW}{st:Stmt}{rest a b:List Stmt}{g g1 g2:MC}{ge gc:ME}{e c:Expr}{pos:Pos}
theorem ay:oK X Γ W [] aX:=sI.imp Fp λD σ H ⟨B0,B1,Hs,ρ,o,re,e,q⟩=>by
 cases e;exact q σ Hs H (.refl _) re
theorem ae(h1:vT X Γ W st g1)(h2:oK X Γ W rest g2):oK X Γ W (st::rest) (az g1 g2):=sI.imp (Bl h1 h2) λD σ H ⟨B0,B1,Hs,ρ,o,re,e,q⟩=>by
 unfold az at e;cases h:g1 ρ with
 |none=>rw[h] at e;cases e
 |some u=>
  rw[h] at e;refine⟨B0,B1,Hs,ρ,u,re,h,?_⟩;cases u with
  |next ρ'=>exact λσ' Hs' H' sm re'=>⟨B0,B1,Hs',ρ',o,re',e,q.from sm⟩
  |brk ρ'=>cases e;exact q
  |cont ρ'=>cases e;exact q
  |ret s=>cases e;exact q
  |exc x=>cases e;exact q
theorem af(h:vT X Γ W st g):oK X Γ W [st] g:=Fo h
theorem aL{i:Nat}(h:oK X Γ W rest g):oK X Γ W rest (dF i g):=sI.imp h λD σ H ⟨B0,B1,Hs,ρ,o,re,e,q⟩=>by
 obtain⟨Hs',sm,re'⟩:=re.dem i;exact⟨B0,B1,Hs',dem i ρ,o,re',e,q.from sm⟩
theorem Dr{B0 B1 Hs H:Hp}{σ:L2.St}{ρ:MEnv}{o:mI}{D:tm}{k:S->(9,mI)}(re:RE Γ B0 B1 Hs H σ ρ)(e:j8 (ge ρ) k=(6,o))(q:EQ Γ W B0 B1 Hs D o):
  tD Γ W ge σ H (λv H1=>∃Hs1 s,Grow Hs H Hs1 H1/\fG Γ H Hs1 H1 s v/\k s=(6,o)):=by
 cases h:ge ρ with
 |none=>rw[h] at e;cases e
 |some x=>
  rw[h] at e;refine⟨B0,B1,Hs,ρ,x,re,h,?_⟩;cases x with
  |exc y=>cases e;exact λHs' H' g'=>q Hs' H' g'.s (re.b.trans g')
  |ok s=>exact λv Hs' H' g' rs=>⟨Hs',s,g',rs,e⟩
theorem DM{i:Nat}{t:TE}(h:PS X st (Ik (tD Γ W ge) (Cq i)))(hi:i<X.N.length):vT X Γ W st (sSet i ge):=PS.imp h λpins s σ H D I ⟨B0,B1,Hs,ρ,o,re,e,q⟩=>by
 refine(Dr re e q).mono λv H1 ⟨Hs1,s,g1,rs,e1⟩=>?_;cases e1;exact q _ Hs1 H1 g1.s (re.setS g1 (by rw[I.len];exact hi) rs)
theorem Lk{i:Nat}{x:Str}{pos':Pos}(hN:X.N.Nodup)(hi:X.N[i]?=(6,x))(hx:HM X.env.scope x)(he:(8,X,W,e,ge))(hs:(21,e,(6,(6,x,pos')),pos.line)=pure false:=by rfl)
  (hf:X.fn x=true\/(24,x)=(6,.local):=by first|exact .inl rfl|exact .inr rfl|assumption):vT X Γ W (.Assign [(6,x,pos')] e pos) (sSet i ge):=
 DM (t:=tD Γ W ge) (DN hN hi hx he hs hf) (12,hi).1
theorem ai(he:(8,X,W,e,ge)):vT X Γ W (.Return (6,e) pos) (aU ge):=PS.imp (NG he) λpins s σ H D I ⟨B0,B1,Hs,ρ,o,re,e,q⟩=>by
 refine(Dr re e q).mono λv H1 ⟨Hs1,s,g1,rs,e1⟩=>?_;cases e1;exact q v Hs1 H1 g1.s (re.b.trans g1) (rs.back re.b.h)
theorem yr{x:D}{k:Bool->(9,mI)}{o:mI}(h:asBO x k=(6,o)):∃c,x=.bl c/\k c=(6,o):=by
 cases x with
 |bl c=>exact(12,c,rfl,h)
 |_=>cases h
theorem aJ(hc:D6 X Γ W c gc)(ha:oK X Γ W a g1)(hb:oK X Γ W b g2):vT X Γ W (.If c a b pos) (sIf gc g1 g2):=PS.imp (Pp hc ha hb) λpins s σ H D I ⟨B0,B1,Hs,ρ,o,re,e,q⟩=>by
 have e':j8 (gc ρ) (λs=>asBO s.val λt=>if t=true then g1 ρ else g2 ρ)=(6,o):=e;cases h:gc ρ with
 |none=>rw[h] at e';cases e'
 |some x=>
  rw[h] at e';refine⟨B0,B1,Hs,ρ,x,re,h,?_⟩;cases x with
  |exc y=>cases e';exact λHs' H' g'=>q Hs' H' g'.s (re.b.trans g')
  |ok s=>
   obtain⟨t,et,e2⟩:=yr (show asBO s.val _=(6,o) from e');refine(12,t,et,λHs' H' g'=>?_);cases t with
   |true=>exact⟨B0,B1,Hs',ρ,o,re.grow g',e2,q.from g'.s⟩
   |false=>exact⟨B0,B1,Hs',ρ,o,re.grow g',e2,q.from g'.s⟩
structure Walk(Γ:Ct)(Hs0:Hp)(J:It)(ds:List D):Prop where
 go:∀i Hs H,i<ds.length->ba Hs0 Hs->ba Hs H->J.go i H
 stop:∀Hs H,ba Hs0 Hs->ba Hs H->J.stop ds.length H
 yld:∀i Hs H x H',i<ds.length->ba Hs0 Hs->ba Hs H->J.yld i H x H'->∃d Hs',ds[i]?=(6,d)/\Grow Hs H Hs' H'/\dB Γ Hs' d x
def IQ(Γ:Ct)(W:XW)(Hs H:Hp)(r:RI)(Q:It->Hp->Prop):Prop:=match r with
 |.ok ds=>∀J Hs' H',Grow Hs H Hs' H'->Walk Γ Hs' J ds->Q J H'
 |.exc x=>∀Hs' H',Grow Hs H Hs' H'->W x Hs' H'
inductive tI(Γ:Ct)(W:XW)(gi:MI)(σ:L2.St)(H:Hp)(Q:It->Hp->Prop):Prop
 |mk (B0 B1 Hs:Hp) (ρ:MEnv) (r:RI) (re:RE Γ B0 B1 Hs H σ ρ) (e:gi ρ=(6,r)) (q:IQ Γ W Hs H r Q)
abbrev Nf(X:Cx)(Γ:Ct)(W:XW)(tg iter:Expr)(gi:MI):Prop:=PI X tg iter (tI Γ W gi)
theorem PI.imp{X:Cx}{tg e:Expr}{t t':TI}(h:PI X tg e t)(i:∀pins s σ H Q,(20,H,s)->t' σ H Q->t σ H Q):PI X tg e t':=λpins s σ H Q I q=>h pins s σ H Q I (i pins s σ H Q I q)
inductive QA(Γ:Ct)(js:List Nat)(bd:MB)(v:V)(σ:L2.St)(H:Hp)(Q:L2.St->Hp->Prop):Prop
 |mk (B0 B1 Hs:Hp) (ρ:MEnv) (d:D) (ρ':MEnv) (re:RE Γ B0 B1 Hs H σ ρ) (rp:dB Γ Hs d v) (e:bd d ρ=(6,ρ')) (q:∀σ':L2.St,RE Γ B0 B1 Hs H σ' ρ'->(∀j:Nat,j∉js->σ'[j]?=σ[j]?)->Q σ' H)
abbrev OV(X:Cx)(Γ:Ct)(tg:Expr)(js:List Nat)(bd:MB):Prop:=PG X tg (QA Γ js bd)
theorem PG.imp{X:Cx}{tg:Expr}{t t':TG}(h:PG X tg t)(i:∀pins s v σ H Q,(20,H,s)->t' v σ H Q->t v σ H Q):PG X tg t':=λpins s σ H v u Q I r q=>h pins s σ H v u Q I r (i pins s v σ H Q I q)
theorem IZ{j:Nat}{x:Str}(hN:X.N.Nodup)(hi:X.N[j]?=(6,x))(hx:HM X.env.scope x)(hf:X.fn x=true\/(24,x)=(6,.local):=by first|exact .inl rfl|exact .inr rfl|assumption):OV X Γ (6,x,pos) [j] (aM j):=
 PG.imp (Lo hN hi hx hf) λpins s v σ H Q I ⟨B0,B1,Hs,ρ,d,ρ',re,rp,e,q⟩=>by
  cases e;exact q _ (re.setSh (by rw[I.len];exact(12,hi).1) rp) λi hi=>getElem?_set_ne λz=>hi (by simp[z])
theorem K0{js:List Nat}{bd:MB}{body:MC}{ds:[21]}{J:It}{D:tm}{B0 B1 Hs0:Hp}{o:mI}(w:Walk Γ Hs0 J ds)(q:EQ Γ W B0 B1 Hs0 D o){σ:L2.St}{H:Hp}{ρ:MEnv}(re:RE Γ B0 B1 Hs0 H σ ρ)(e:fQ bd body ds ρ=(6,o)):
  ∃Wv:Nat->Nat->L2.St->Hp->Prop,(∃m,Wv 0 m σ H)/\∀i m σ H,Wv i m σ H->
   (J.stop i H/\D.nx σ H)\/(J.go i H/\∃N:L2.St->Hp->Prop,(∀σ' H',N σ' H'->∃m',m'<m/\Wv (i+1) m' σ' H')/\∀x H',J.yld i H x H'->QA Γ js bd x σ H' λσ2 H2=>tS Γ W body {D with nx:=N,ct:=N,bk:=D.nx} σ2 H2):=by
 refine⟨λi m σ H=>m=ds.length - i/\i<=ds.length/\∃Hs ρ,ba Hs0 Hs/\RE Γ B0 B1 Hs H σ ρ/\fQ bd body (ds.drop i) ρ=(6,o),⟨_,rfl,zero_le _,Hs0,ρ,.refl _,re,e⟩,?_⟩
 rintro i m σ H ⟨rfl,hi,Hs,ρ,sm,re,e⟩
 by_cases hlt:i<ds.length
 ·refine .inr ⟨w.go i Hs H hlt sm re.b.i,λσ' H'=>∃Hs' ρ',ba Hs0 Hs'/\RE Γ B0 B1 Hs' H' σ' ρ'/\fQ bd body (ds.drop (i+1)) ρ'=(6,o),λσ' H' ⟨Hs',ρ',s',r',e'⟩=>⟨_,by omega,rfl,hlt,Hs',ρ',s',r',e'⟩,λx H' y=>?_⟩
  obtain⟨d,Hs',ed,g',rp⟩:=w.yld i Hs H x H' hlt sm re.b.i y;have hd:ds.drop i=d::ds.drop (i+1):=by
   rw[List.drop_eq_getElem_cons hlt];congr 1;rw[(19,hlt)] at ed;exact Option.some.inj ed
  rw[hd] at e;unfold fQ at e;cases h:bd d ρ with
  |none=>rw[h] at e;cases e
  |some ρ1=>
   rw[h] at e;dsimp only at e;refine⟨B0,B1,Hs',ρ,d,ρ1,re.grow g',rp,h,λσ2 re2 _=>?_⟩;cases hb:body ρ1 with
   |none=>rw[hb] at e;cases e
   |some u=>
    rw[hb] at e;refine⟨B0,B1,Hs',ρ1,u,re2,hb,?_⟩;have s1:ba Hs0 Hs':=sm.trans g'.s;cases u with
    |next ρ2=>exact λσ' Hs2 H2 s2 re3=>⟨Hs2,ρ2,s1.trans s2,re3,e⟩
    |cont ρ2=>exact λσ' Hs2 H2 s2 re3=>⟨Hs2,ρ2,s1.trans s2,re3,e⟩
    |brk ρ2=>cases e;exact λσ' Hs2 H2 s2 re3=>q σ' Hs2 H2 (s1.trans s2) re3
    |ret s=>cases e;exact λv Hs2 H2 s2=>q v Hs2 H2 (s1.trans s2)
    |exc x=>cases e;exact λHs2 H2 s2=>q Hs2 H2 (s1.trans s2)
 ·have ei:i=ds.length:=by omega
  subst ei;rw[List.drop_length] at e;cases e;exact .inl (5,w.stop Hs H sm re.b.i,q σ Hs H sm re)
theorem dw{tg iter:Expr}{gi:MI}{js:List Nat}{bd:MB}{body:List Stmt}(hp:PassesOwn (model X.prog X.w) X.A X.env X.xe)(hc:X.calm=true)(hi:Nf X Γ W tg iter gi)(hg:OV X Γ tg js bd)(hb:oK X Γ W body g)
  (hs:∀x,foldedSetIterable iter X.env x=pure x:=by intro _;rfl):vT X Γ W (.For tg iter body [] pos) (kS gi bd g):=PS.imp (NH hp hc hi hg hb hs) λpins s σ H D I ⟨B0,B1,Hs,ρ,o,re,e,q⟩=>by
 unfold kS at e;cases h:gi ρ with
 |none=>rw[h] at e;cases e
 |some r=>
  rw[h] at e;refine⟨B0,B1,Hs,ρ,r,re,h,?_⟩;cases r with
  |exc x=>cases e;exact λHs' H' g'=>q Hs' H' g'.s (re.b.trans g')
  |ok ds=>exact λJ Hs' H' g' w=>K0 w (q.from g'.s) (re.grow g') e
theorem Dc{body:MC}{D:tm}{B0 B1 Hs0:Hp}{o:mI}(q:EQ Γ W B0 B1 Hs0 D o)(n:Nat){σ:L2.St}{H:Hp}{ρ:MEnv}(re:RE Γ B0 B1 Hs0 H σ ρ)(e:cO gc body n ρ=(6,o)):Ig (tT Γ W gc) (tS Γ W body) D σ H:=by
 refine⟨λm σ H=>∃Hs ρ,ba Hs0 Hs/\RE Γ B0 B1 Hs H σ ρ/\cO gc body m ρ=(6,o),⟨n,Hs0,ρ,.refl _,re,e⟩,?_⟩
 rintro m σ H ⟨Hs,ρ,sm,re,e⟩
 cases m with
 |zero=>cases e
 |succ m=>
  have e':j8 (gc ρ) (λs=>asBO s.val λt=>if t=true then(match body ρ with
   |some (.next ρ2)=>cO gc body m ρ2
   |some (.cont ρ2)=>cO gc body m ρ2
   |some (.brk ρ2)=>(30,ρ2)
   |o=>o) else(30,ρ))=(6,o):=e
  cases h:gc ρ with
  |none=>rw[h] at e';cases e'
  |some x=>
   rw[h] at e';refine⟨B0,B1,Hs,ρ,x,re,h,?_⟩;cases x with
   |exc y=>cases e';exact λHs' H' g'=>q Hs' H' (sm.trans g'.s) (re.b.trans g')
   |ok s=>
    obtain⟨t,et,e2⟩:=yr (show asBO s.val _=(6,o) from e');refine(12,t,et,λHs' H' g'=>?_);have s1:ba Hs0 Hs':=sm.trans g'.s;cases t with
    |false=>
     cases e2;exact q σ Hs' H' s1 (re.grow g')
    |true=>
     refine⟨λσ' H'=>∃Hs' ρ',ba Hs0 Hs'/\RE Γ B0 B1 Hs' H' σ' ρ'/\cO gc body m ρ'=(6,o),λσ' H' z=>(12,m,lt_succ_self _,z),?_⟩;have e3:=e2;rw[(39,rfl)] at e3;cases hb:body ρ with
     |none=>rw[hb] at e3;cases e3
     |some u=>
      rw[hb] at e3;refine⟨B0,B1,Hs',ρ,u,re.grow g',hb,?_⟩;cases u with
      |next ρ2=>exact λσ' Hs2 H2 s2 re3=>⟨Hs2,ρ2,s1.trans s2,re3,e3⟩
      |cont ρ2=>exact λσ' Hs2 H2 s2 re3=>⟨Hs2,ρ2,s1.trans s2,re3,e3⟩
      |brk ρ2=>cases e3;exact λσ' Hs2 H2 s2 re3=>q σ' Hs2 H2 (s1.trans s2) re3
      |ret s=>cases e3;exact λv Hs2 H2 s2=>q v Hs2 H2 (s1.trans s2)
      |exc x=>cases e3;exact λHs2 H2 s2=>q Hs2 H2 (s1.trans s2)
theorem xR{body:List Stmt}(fuel:MEnv->Nat)(hp:PassesOwn (model X.prog X.w) X.A X.env X.xe)(hc:D6 X Γ W c gc)(hb:oK X Γ W body g):vT X Γ W (.While c body [] pos) (DF fuel gc g):=
 PS.imp (IH hp hc hb) λpins s σ H D I ⟨B0,B1,Hs,ρ,o,re,e,q⟩=>Dc q (fuel ρ) re e
theorem G2{Hs0:Hp}{a:Addr}{xs:List V}{ds:[21]}{K:Frag}(h:pA K Hs0 a xs)(r:(23,Hs0,ds,xs)):Walk Γ Hs0 (R3 K a) ds where
 go:=λi Hs H hi s1 s2=>(9,xs,xs[i]'(by rw[←r.length];exact hi),ba.seq (s1.trans s2) h,by rw[getElem?_eq_getElem])
 stop:=λHs H s1 s2=>(12,xs,ba.seq (s1.trans s2) h,le_of_eq r.length.symm)
 yld:=λi Hs H x H' hi s1 s2 ⟨e,y⟩=>by
  subst e;obtain⟨z,e1,q⟩:=r.get (19,hi);have e2:=y xs (ba.seq (s1.trans s2) h);rw[e1] at e2;cases e2;exact⟨_,Hs,(19,hi),.refl s2,q.mono s1⟩
theorem HY{Hs0:Hp}{a:Addr}{xs:List V}{ds:[21]}{K:Frag}(h:rh K Hs0 a xs)(r:(23,Hs0,ds,xs)):Walk Γ Hs0 (R1 K a) ds where
 go:=λi Hs H hi s1 s2=>(9,xs,xs[i]'(by rw[←r.length];exact hi),dq (s1.trans s2) h,by rw[getElem?_eq_getElem])
 stop:=λHs H s1 s2=>(12,xs,dq (s1.trans s2) h,le_of_eq r.length.symm)
 yld:=λi Hs H x H' hi s1 s2 ⟨e,y⟩=>by
  subst e;obtain⟨z,e1,q⟩:=r.get (19,hi);have e2:=y xs (dq (s1.trans s2) h);rw[e1] at e2;cases e2;exact⟨_,Hs,(19,hi),.refl s2,q.mono s1⟩
theorem Ay{Hs0:Hp}(lo hi:Int):Walk Γ Hs0 (Qi lo (hi - lo).toNat) (rng lo hi) where
 go:=λi Hs H h s1 s2=>by
  unfold rng at h;rw[length_map,length_range] at h;exact h
 stop:=λHs H s1 s2=>by
  unfold rng;rw[length_map,length_range];exact[23]
 yld:=λi Hs H x H' h s1 s2 ⟨e,y⟩=>by
  subst e y;unfold rng at h ⊢;rw[length_map,length_range] at h;exact⟨(4,(lo+i)),Hs,by rw[getElem?_map,getElem?_range h];rfl,.refl s2,au.mpr rfl⟩
end
theorem xp(js:List Nat):∀ρ:MEnv,(bZ js ρ).length=ρ.length:=by
 induction js with
 |nil=>intro ρ;rfl
 |cons j js ih=>intro ρ;show(bZ js (ρ.set j none)).length=_;rw[ih,length_set]
theorem pQ(js:List Nat):∀(ρ:MEnv)(i:Nat)(v:S),(bZ js ρ)[i]?=(21,v)->i∉js/\ρ[i]?=(21,v):=by
 induction js with
 |nil=>intro ρ i v h;exact(5,by simp,h)
 |cons j js ih=>
  intro ρ i v h;obtain⟨h1,h2⟩:=ih (ρ.set j none) i v h;by_cases hj:j=i
  ·subst hj;by_cases hl:j<ρ.length
   ·rw[(32,hl)] at h2;cases h2
   ·rw[getElem?_eq_none (by rw[length_set];omega)] at h2;cases h2
  ·rw[(34,hj)] at h2;exact(5,by simp[h1,Ne.symm hj],h2)
theorem Cs(js:List Nat):∀(σ:L2.St)(i:Nat),i∉js->(iL js σ)[i]?=σ[i]?:=by
 induction js with
 |nil=>intro σ i _;rfl
 |cons j js ih=>
  intro σ i h;have h':i≠j/\i∉js:=by simpa using h
  show(iL js (σ.set j none))[i]?=_;rw[ih _ _ h'.2,(34,Ne.symm h'.1)]
section
variable{Γ:Ct}{B0 B1 Hs H:Hp}{σ σ':L2.St}{ρ ρ':MEnv}
theorem RE.sub(r:RE Γ B0 B1 Hs H σ ρ)(hl:ρ'.length=σ'.length)(h:∀(i:Nat)(s:S),ρ'[i]?=(21,s)->ρ[i]?=(21,s)/\σ'[i]?=σ[i]?):RE Γ B0 B1 Hs H σ' ρ' where
 tb:=r.tb
 b:=r.b
 sh:=λi d e=>by
  obtain⟨e1,e2⟩:=h i _ e;obtain⟨v,e3,q⟩:=r.sh i d e1;exact(12,v,e2.trans e3,q)
 own:=λi o e=>by
  obtain⟨e1,e2⟩:=h i _ e;obtain⟨a,ho,e3,f1,f2,f3,q⟩:=r.own i o e1;exact⟨a,ho,e2.trans e3,f1,f2,f3,q⟩
 apart:=λi j o u a hij hi hj ha=>by
  obtain⟨e1,e2⟩:=h i _ hi;obtain⟨e3,e4⟩:=h j _ hj;rw[e4];exact r.apart i j o u a hij e1 e3 (e2.symm.trans ha)
 len:=hl
theorem RE.other(r:RE Γ B0 B1 Hs H σ ρ){a:Addr}{ho:HO}(h1:Hs a=none)(h2:B1 a=none)(h3:∀(i:Nat)(o:O),ρ[i]?=(21,(49,o))->σ[i]?≠(27,a)):RE Γ B0 B1 Hs (cA H a ho) σ ρ where
 tb:=r.tb
 b:=(9,r.b.s,λb u z=>by rw[aE (aZ z h2)];exact r.b.h _ _ z,λb u z=>by rw[aE (aZ z h1)];exact r.b.i _ _ z,r.b.n)
 sh:=r.sh
 own:=λi o e=>by
  obtain⟨c,hc,f1,f2,f3,f4,f5⟩:=r.own i o e;refine⟨c,hc,f1,f2,f3,?_,f5⟩;rw[aE]
  ·exact f4
  ·intro z;subst z;exact h3 i o e f1
 apart:=r.apart
 len:=r.len
end
theorem Grow.other{Hs H Hs' H':Hp}{a:Addr}{ho:HO}(g:Grow Hs H Hs' H')(h0:H a=none)(h1:Hs' a=none):Grow Hs H Hs' (cA H' a ho):=
 (9,g.s,λb u z=>by rw[aE (aZ z h0)];exact g.h _ _ z,λb u z=>by rw[aE (aZ z h1)];exact g.i _ _ z,g.n)
theorem Grow.none{Hs H Hs' H':Hp}{a:Addr}{ho:HO}(g:Grow Hs H Hs' H')(h:Hs a=Option.none)(h':H a=(6,ho)):Hs' a=Option.none:=by
 cases z:Hs' a with
 |none=>rfl
 |some u=>
  rcases g.n a u z with w|w
  ·rw[h] at w;cases w
  ·rw[h'] at w;cases w
def HP(js:List Nat)(bd:MB):Prop:=∀d ρ ρ',bd d ρ=(6,ρ')->ρ'.length=ρ.length/\∀i:Nat,i∉js->ρ'[i]?=ρ[i]?
theorem bH(j:Nat):HP [j] (aM j):=λd ρ ρ' e=>by
 cases e;exact(5,by rw[length_set],λi hi=>getElem?_set_ne λz=>hi (by simp[z]))
section
variable{Γ:Ct}{W:XW}{js:List Nat}{gi:MI}{bd:MB}{cond elt:ME}
theorem tx{tt:TT}(ht:∀σ H Q,tT Γ W cond σ H Q->tt σ H Q)(hb:HP js bd){σ:L2.St}{H:Hp}{Q:VK}(t:tD Γ W (bN js gi bd cond elt) σ H Q):
  Ii js (tI Γ W gi) (QA Γ js bd) tt (tD Γ W elt) σ H Q:=by
 obtain⟨B0,B1,Hs,ρ,r,re,e,q⟩:=t;unfold bN at e;cases h:gi ρ with
 |none=>rw[h] at e;cases e
 |some x=>
  rw[h] at e;refine⟨B0,B1,Hs,ρ,x,re,h,?_⟩;cases x with
  |exc y=>cases e;exact q
  |ok ds=>
   intro J Hs1 H1 g1 w a ha;dsimp only at e;have hlim:ds.length<=lim:=by
    by_cases z:ds.length<=lim
    ·exact z
    ·rw[(42,z)] at e;cases e
   rw[(39,hlim)] at e;have hs1:Hs1 a=none:=g1.i.free ha;have h0:H a=none:=g1.h.free ha;have hb1:B1 a=none:=re.b.h.free h0;have re1:RE Γ B0 B1 Hs1 H1 (iL js σ) (bZ js ρ):=(re.grow g1).sub (by rw[xp,nu,re.len]) λi s z=>by
    obtain⟨z1,z2⟩:=pQ js ρ i s z;exact(5,z2,Cs js σ i z1)
   have ap1:∀(i:Nat)(o:O),(bZ js ρ)[i]?=(21,(49,o))->(iL js σ)[i]?≠(27,a):=λi o z z'=>by
    obtain⟨c,hc,f1,_,_,f4,_⟩:=re1.own i o z;rw[z'] at f1;cases f1;rw[ha] at f4;cases f4
   refine⟨λi m σ2 ys H2=>m=ds.length - i/\i<=ds.length/\∃Hs2 acc,ba Hs1 Hs2/\Grow Hs H Hs2 H2/\RE Γ B0 B1 Hs2 H2 σ2 (bZ js ρ)/\Hs2 a=none/\
    (∀(i:Nat)(o:O),(bZ js ρ)[i]?=(21,(49,o))->σ2[i]?≠(27,a))/\H2 a=(6,(13,ys))/\(23,Hs2,acc,ys)/\ip bd cond elt (bZ js ρ) (ds.drop i) acc=(6,r)/\acc.length<=i,⟨_,rfl,zero_le _,Hs1,[],.refl _,g1.other h0 hs1,re1.other hs1 hb1 ap1,hs1,ap1,aH,.nil,e,zero_le _⟩,?_⟩
   rintro i m σ2 ys H2 ⟨rfl,hi,Hs2,acc,sm,g2,re2,ha2,ap,hy,rl,ec,hacc⟩
   refine(5,hy,?_);by_cases hlt:i<ds.length
   ·refine .inr (5,w.go i Hs2 H2 hlt sm re2.b.i,λx H3 y=>?_);obtain⟨d,Hs3,ed,g3,rp⟩:=w.yld i Hs2 H2 x H3 hlt sm re2.b.i y;have hd:ds.drop i=d::ds.drop (i+1):=by
     rw[List.drop_eq_getElem_cons hlt];congr 1;rw[(19,hlt)] at ed;exact Option.some.inj ed
    rw[hd] at ec;unfold ip at ec;cases hbd:bd d (bZ js ρ) with
    |none=>rw[hbd] at ec;cases ec
    |some ρ1=>
     rw[hbd] at ec;dsimp only at ec;obtain⟨bl,bo⟩:=hb d _ ρ1 hbd;refine⟨B0,B1,Hs3,bZ js ρ,d,ρ1,re2.grow g3,rp,hbd,λσ4 re4 hσ=>?_⟩;have low:∀{Hs5 H5:Hp},RE Γ B0 B1 Hs5 H5 σ4 ρ1->RE Γ B0 B1 Hs5 H5 σ4 (bZ js ρ):=λr5=>r5.sub (by rw[←bl,r5.len]) λk s z=>by
      obtain⟨z1,_⟩:=pQ js ρ k s z;exact(5,(bo k z1).trans z,rfl)
     have ap4:∀(k:Nat)(o:O),(bZ js ρ)[k]?=(21,(49,o))->σ4[k]?≠(27,a):=λk o z=>by
      obtain⟨z1,_⟩:=pQ js ρ k _ z;rw[hσ k z1];exact ap k o z
     have ha3:=g3.none ha2 hy;have hy3:=g3.h _ _ hy;refine ht _ _ _ ?_;cases hcv:cond ρ1 with
     |none=>rw[hcv] at ec;cases ec
     |some c=>
      rw[hcv] at ec;refine⟨B0,B1,Hs3,ρ1,c,re4,hcv,?_⟩;cases c with
      |exc x=>
       cases ec;exact λHs' H' g'=>q Hs' H' ((g2.trans g3).trans g')
      |ok s=>
       obtain⟨b,eb,ec2⟩:=kg (show asB s.val _=(6,r) from ec);refine(12,b,eb,λHs5 H5 g5=>?_);have ha5:=g5.none ha3 hy3;have hy5:=g5.h _ _ hy3;have re5:=re4.grow g5;cases b with
       |false=>
        rw[(42,[33])] at ec2;refine PX ?_;exact⟨_,by omega,rfl,hlt,Hs5,acc,(sm.trans g3.s).trans g5.s,(g2.trans g3).trans g5,low re5,ha5,ap4,hy5,rl.mono (g3.s.trans g5.s),ec2,by omega⟩
       |true=>
        rw[(39,rfl)] at ec2;refine PV ?_;refine(cH (k:=λx=>ip bd cond elt (bZ js ρ) (ds.drop (i+1)) (acc++[x])) re5 ec2 ((q.grow (g2.trans g3)).grow g5)).mono λv H6 ⟨Hs6,z,g6,re6,rp6,ec6,q6⟩=>?_;have ha6:=g6.none ha5 hy5;have hy6:=g6.h _ _ hy5;have hlen:acc.length=ys.length:=rl.length;have hbig:ys.length<sizeLine:=lt_of_lt_of_le (by omega:ys.length<lim) [12]
        refine⟨hy6,hbig,_,by omega,rfl,hlt,Hs6,acc++[z],((sm.trans g3.s).trans g5.s).trans g6.s,(((g2.trans g3).trans g5).trans g6).other h0 ha6,(low re6).other ha6 hb1 ap4,ha6,ap4,aH,(rl.mono ((g3.s.trans g5.s).trans g6.s)).append (.cons rp6 .nil),ec6,by rw[length_append,length_singleton];omega⟩
   ·have ei:i=ds.length:=by omega
    subst ei;rw[List.drop_length] at ec;unfold ip at ec;split at ec
    ·cases ec;exact .inl (5,w.stop Hs2 H2 sm re2.b.i,q _ Hs2 H2 g2 ⟨a,_,rfl,h0,ha2,hy,ys,rfl,rl⟩)
    ·cases ec
end
section
variable{X:Cx}{Γ:Ct}{W:XW}{scope:Scope}{vars:List Str}{js:List Nat}{elt tg iter c:Expr}{pos:Pos}{gi:MI}{bd:MB}{cond ge:ME}
theorem Ff{σ:L2.St}{H:Hp}{Q:Bool->Hp->Prop}(t:tT Γ W da σ H Q):MN σ H Q:=by
 obtain⟨B0,B1,Hs,ρ,r,re,e,q⟩:=t;cases e;obtain⟨b,eb,q⟩:=q;cases eb;exact q Hs H (.refl re.b.i)
theorem eB(hb:HP js bd)(hc:dN scope X.env.scope vars=true)(hj:km X.N vars js=true)(hcalm:X.calm=true)(hi:Nf X Γ W tg iter gi)
  (hg:∀fp s H a,OV (dm X scope fp s H a) Γ tg js bd) (he:∀fp s H a,(8,dm X scope fp s H a,W,elt,ge)) (hs:∀x,foldedSetIterable iter X.env x=pure x:=by intro _;rfl):
  (8,X,W,.ListComp elt [(9,tg,iter,[],0)] scope pos,bN js gi bd da ge):=
 PE.imp (Fu hc hj hcalm hi hg (λ_ _ _ _=>Ft) he hs) λ_ _ _ _ _ _ t=>tx (λ_ _ _ z=>Ff z) hb t
theorem xV(hb:HP js bd)(hc:dN scope X.env.scope vars=true)(hj:km X.N vars js=true)(hcalm:X.calm=true)(hi:Nf X Γ W tg iter gi)
  (hg:∀fp s H a,OV (dm X scope fp s H a) Γ tg js bd) (ht:∀fp s H a,D6 (dm X scope fp s H a) Γ W c cond) (he:∀fp s H a,(8,dm X scope fp s H a,W,elt,ge)) (hs:∀x,foldedSetIterable iter X.env x=pure x:=by intro _;rfl):
  (8,X,W,.ListComp elt [(9,tg,iter,[c],0)] scope pos,bN js gi bd cond ge):=
 PE.imp (Fu hc hj hcalm hi hg (λfp s H a=>Fs (ht fp s H a)) he hs) λ_ _ _ _ _ _ t=>tx (λ_ _ _ z=>z) hb t
variable{i:Nat}{x:Str}{pos' spos:Pos}
theorem si{st:Stmt}{t:TE}{ge:ME}(h:PS X st (Ik t (Cq i)))(ht:∀σ H Q,tD Γ W ge σ H Q->t σ H Q)(hi:i<X.N.length):vT X Γ W st (sSet i ge):=PS.imp h λpins s σ H D I ⟨B0,B1,Hs,ρ,o,re,e,q⟩=>by
 refine ht _ _ _ ((Dr re e q).mono λv H1 ⟨Hs1,s,g1,rs,e1⟩=>?_);cases e1;exact q _ Hs1 H1 g1.s (re.setS g1 (by rw[I.len];exact hi) rs)
theorem IG(hN:X.N.Nodup)(hi':X.N[i]?=(6,x))(hx:HM X.env.scope x)(hb:HP js bd)(hc:dN scope X.env.scope vars=true)(hj:km X.N vars js=true)(hcalm:X.calm=true)(hi:Nf X Γ W tg iter gi)
  (hg:∀fp s H a,OV (dm X scope fp s H a) Γ tg js bd) (he:∀fp s H a,(8,dm X scope fp s H a,W,elt,ge))
  (hsw:(21,.ListComp elt [(9,tg,iter,[],0)] scope pos,(6,(6,x,pos')),spos.line)=pure true:=by rfl) (hs:∀x,foldedSetIterable iter X.env x=pure x:=by intro _;rfl)
  (hf:X.fn x=true\/(24,x)=(6,.local):=by first|exact .inl rfl|exact .inr rfl|assumption):
  vT X Γ W (.Assign [(6,x,pos')] (.ListComp elt [(9,tg,iter,[],0)] scope pos) spos) (sSet i (bN js gi bd da ge)):=
 si (uV hN hi' hx hc hj hcalm hi hg (λ_ _ _ _=>Ft) he hsw hs hf) (λ_ _ _ t=>tx (λ_ _ _ z=>Ff z) hb t) (12,hi').1
theorem uU(hN:X.N.Nodup)(hi':X.N[i]?=(6,x))(hx:HM X.env.scope x)(hb:HP js bd)(hc:dN scope X.env.scope vars=true)(hj:km X.N vars js=true)(hcalm:X.calm=true)(hi:Nf X Γ W tg iter gi)
  (hg:∀fp s H a,OV (dm X scope fp s H a) Γ tg js bd) (ht:∀fp s H a,D6 (dm X scope fp s H a) Γ W c cond) (he:∀fp s H a,(8,dm X scope fp s H a,W,elt,ge))
  (hsw:(21,.ListComp elt [(9,tg,iter,[c],0)] scope pos,(6,(6,x,pos')),spos.line)=pure true:=by rfl) (hs:∀x,foldedSetIterable iter X.env x=pure x:=by intro _;rfl)
  (hf:X.fn x=true\/(24,x)=(6,.local):=by first|exact .inl rfl|exact .inr rfl|assumption):
  vT X Γ W (.Assign [(6,x,pos')] (.ListComp elt [(9,tg,iter,[c],0)] scope pos) spos) (sSet i (bN js gi bd cond ge)):=
 si (uV hN hi' hx hc hj hcalm hi hg (λfp s H a=>Fs (ht fp s H a)) he hsw hs hf) (λ_ _ _ t=>tx (λ_ _ _ z=>z) hb t) (12,hi').1
theorem cR{l:Expr}{g:ME}(hK:X.K=Γ.K)(h:(8,X,W,l,g)):Nf X Γ W tg l (hV g):=PI.imp (NL h) λ_ _ σ H Q _ ⟨B0,B1,Hs,ρ,r,re,e,q⟩=>by
 unfold hV at e;cases hg:g ρ with
 |none=>rw[hg] at e;cases e
 |some y=>
  rw[hg] at e;cases y with
  |exc z=>
   cases e;exact⟨B0,B1,Hs,ρ,_,re,hg,q⟩
  |ok s=>
   refine⟨B0,B1,Hs,ρ,.ok s,re,hg,λv Hs' H' g' rs=>?_⟩;obtain⟨Hs2,g2,_,rp⟩:=rs.share g';dsimp only at e;cases hv:s.val with
   |lst ds=>
    rw[hv] at e rp;cases e;obtain⟨a,xs,rfl,rd,rl⟩:=dM.mp rp;rw[←hK] at rd;exact(12,a,rfl,.inl (5,(5,xs,ba.seq g2.i rd),q _ Hs2 H' g2 (G2 rd rl)))
   |tup ds=>
    rw[hv] at e rp;cases e;obtain⟨a,xs,rfl,sq,rl⟩:=cz.mp rp;rw[←hK] at sq;exact(12,a,rfl,.inr (5,(5,xs,dq g2.i sq),q _ Hs2 H' g2 (HY sq rl)))
   |non=>rw[hv] at e;cases e
   |bl _=>rw[hv] at e;cases e
   |int _=>rw[hv] at e;cases e
   |str _=>rw[hv] at e;cases e
   |fn _ _=>rw[hv] at e;cases e
   |obj _ _ _=>rw[hv] at e;cases e
theorem Nq{B0 B1 Hs H:Hp}{σ:L2.St}{ρ:MEnv}{g:ME}{k:D->(9,RI)}{r:RI}{Q:It->Hp->Prop}(re:RE Γ B0 B1 Hs H σ ρ)(e:EC g ρ k=(6,r))(q:IQ Γ W Hs H r Q):
  tD Γ W g σ H (λv H1=>∃Hs1 d,Grow Hs H Hs1 H1/\RE Γ B0 B1 Hs1 H1 σ ρ/\dB Γ Hs1 d v/\k d=(6,r)/\IQ Γ W Hs1 H1 r Q):=by
 unfold EC at e;cases h:g ρ with
 |none=>rw[h] at e;cases e
 |some x=>
  rw[h] at e;refine⟨B0,B1,Hs,ρ,x,re,h,?_⟩;cases x with
  |exc y=>cases e;exact q
  |ok s=>
   intro v Hs' H' g' rs;obtain⟨Hs'',g2,_,rp⟩:=rs.share g';refine⟨Hs'',s.val,g2,re.grow g2,rp,e,?_⟩;cases r with
   |ok ds=>exact λJ Hs3 H3 g3 w=>q J Hs3 H3 (g2.trans g3) w
   |exc y=>exact λHs3 H3 g3=>q Hs3 H3 (g2.trans g3)
theorem k8{i:Int}(h:jh i=true):-(2 ^ 62)<=i/\i<2 ^ 62:=by
 unfold jh at h;simpa using h
theorem bY{a:Expr}{g:ME}{p p':Pos}(hg:Gl X "range")(hm:X.mg "range" = none)(h:(8,X,W,a,g))(hst:(7,(a::[]))=(false,(16,a))::(7,[]):=by rfl)(hs:(7,[a])=[(false,(16,a))]:=by rfl):
  Nf X Γ W tg (15,(6,"range",p),[a],p') (bP g):=PI.imp (GD hg hm (cS h iu hst) hs) λ_ _ σ H Q _ ⟨B0,B1,Hs,ρ,r,re,e,q⟩=>by
 refine(Nq re e q).mono λv H1 ⟨Hs1,d,g1,re1,rp,e1,q1⟩=>?_;cases d with
 |int hi=>
  dsimp only at e1;split at e1
  ·rename_i hr;cases e1;obtain⟨h1,h2⟩:=k8 hr;refine⟨hi,by rw[au.mp rp],h1,h2,q1 _ Hs1 H1 (.refl re1.b.i) ?_⟩
   have w:=Ay (Γ:=Γ) (Hs0:=Hs1) 0 hi;rw[Int.sub_zero] at w;exact w
  ·cases e1
 |_=>cases e1
theorem pK{a b:Expr}{ga gb:ME}{p p':Pos}(hg:Gl X "range")(hm:X.mg "range" = none)(ha:(8,X,W,a,ga))(hb:(8,X,W,b,gb))(hst:(7,[a,b])=(false,(16,a))::(7,[b]):=by rfl)(hst2:(7,[b])=(false,(16,b))::(7,[]):=by rfl)
  (hs:(7,[a,b])=[(false,(16,a)),(false,(16,b))]:=by rfl) (hs2:(7,[b])=[(false,(16,b))]:=by rfl):
  Nf X Γ W tg (15,(6,"range",p),[a,b],p') (kG ga gb):=PI.imp (GC hg hm (cS ha (cS hb iu hst2) hst) hs hs2) λ_ _ σ H Q _ ⟨B0,B1,Hs,ρ,r,re,e,q⟩=>by
 refine(Nq re e q).mono λv H1 ⟨Hs1,d,g1,re1,rp,e1,q1⟩=>?_;refine(Nq re1 e1 q1).mono λu H2 ⟨Hs2,d2,g2,re2,rp2,e2,q2⟩=>?_;cases d with
 |int lo=>
  cases d2 with
  |int hi=>
   dsimp only at e2;split at e2
   ·rename_i hr;cases e2;obtain⟨h1,h2⟩:=k8 hr.1;obtain⟨h3,h4⟩:=k8 hr.2;exact⟨lo,hi,by rw[au.mp rp,au.mp rp2],(9,h1,h2,h3,h4),q2 _ Hs2 H2 (.refl re2.b.i) (Ay lo hi)⟩
   ·cases e2
  |non=>cases e2
  |bl _=>cases e2
  |str _=>cases e2
  |tup _=>cases e2
  |lst _=>cases e2
  |fn _ _=>cases e2
  |obj _ _ _=>cases e2
 |_=>cases e2
end
section
variable{X:Cx}{Γ:Ct}{W:XW}
theorem gq{Hs H:Hp}{Q:VK}{d:D}(sm:ba Hs H)(q:RQ Γ W Hs H (.ok (.sh d)) Q){v:V}(rp:dB Γ Hs d v):Q v H:=q v Hs H (.refl sm) rp
theorem yZ{Hs H:Hp}{Q:VK}{ds:[21]}{xs:List V}(sm:ba Hs H)(q:RQ Γ W Hs H (.ok (.sh (20,ds))) Q)(rl:(23,Hs,ds,xs)){p:Addr}(hp:H p=none):Q (10,p) (cA H p (20,xs)):=
 q _ (cA Hs p (20,xs)) _ (.new sm hp) (fG.of (cz.mpr ⟨p,xs,rfl,.of aH,rl.mono (cq (sm.free hp))⟩))
theorem qC{Hs H:Hp}{Q:VK}{ds:[21]}{xs:List V}(sm:ba Hs H)(q:RQ Γ W Hs H (.ok (38,ds)) Q)(rl:(23,Hs,ds,xs)){p:Addr}(hp:H p=none):Q (10,p) (cA H p (13,xs)):=
 q _ Hs _ (.newOwn sm hp) ⟨p,_,rfl,hp,sm.free hp,aH,xs,rfl,rl⟩
theorem me{n:Nat}(h:n<=lim):n<=sizeLine:=le_trans h [12]
theorem cf{α:Type}{c:Prop}[Decidable c]{a r:α}(h:(if c then(6,a) else none)=(6,r)):c/\a=r:=by
 by_cases z:c
 ·rw[(39,z)] at h;exact(5,z,Option.some.inj h)
 ·rw[(42,z)] at h;cases h
theorem ax(hK:X.K=Γ.K):(18,X,.Add,rD Γ W dAdd):=λpins s σ H x y v u Q I rx ry ⟨Hs,d1,d2,r,sm,r1,r2,e,q⟩=>by
 cases d1 with
 |int i=>
  cases d2 with
  |int j=>cases e;exact O7 pins s σ H x y v u Q I rx ry ⟨i,j,au.mp r1,au.mp r2,gq sm q (au.mpr rfl)⟩
  |non=>cases e
  |bl _=>cases e
  |str _=>cases e
  |tup _=>cases e
  |lst _=>cases e
  |fn _ _=>cases e
  |obj _ _ _=>cases e
 |str i=>
  cases d2 with
  |str j=>
   obtain⟨hl,rfl⟩:=cf (c:=i.length+j.length<=lim) e;exact DU pins s σ H x y v u Q I rx ry ⟨i,j,dJ.mp r1,dJ.mp r2,me hl,gq sm q (dJ.mpr rfl)⟩
  |non=>cases e
  |bl _=>cases e
  |int _=>cases e
  |tup _=>cases e
  |lst _=>cases e
  |fn _ _=>cases e
  |obj _ _ _=>cases e
 |tup ds=>
  cases d2 with
  |tup es=>
   obtain⟨hl,rfl⟩:=cf (c:=ds.length+es.length<=lim) e;obtain⟨a,xs,rfl,qa,la⟩:=cz.mp r1;obtain⟨b,ys,rfl,qb,lb⟩:=cz.mp r2;have qa':rh X.K H a xs:=by rw[hK];exact dq sm qa
   have qb':rh X.K H b ys:=by rw[hK];exact dq sm qb
   by_cases h0:xs=[]
   ·subst h0;have e0:ds=[]:=List.length_eq_zero_iff.mp la.length;subst e0;exact Ja pins s σ H _ _ v u Q I rx ry ⟨a,b,ys,rfl,rfl,qa',qb',gq sm q (cz.mpr ⟨b,ys,rfl,qb,lb⟩)⟩
   ·refine LA pins s σ H _ _ v u Q I rx ry ⟨a,b,xs,ys,rfl,rfl,qa',qb',h0,by rw[←la.length,←lb.length];exact me hl,λz=>?_,λz p hp=>yZ sm q (la.append lb) hp⟩
    subst z;have e0:es=[]:=List.length_eq_zero_iff.mp lb.length;subst e0;rw[append_nil] at q;exact gq sm q (cz.mpr ⟨a,xs,rfl,qa,la⟩)
  |non=>cases e
  |bl _=>cases e
  |int _=>cases e
  |str _=>cases e
  |lst _=>cases e
  |fn _ _=>cases e
  |obj _ _ _=>cases e
 |lst ds=>
  cases d2 with
  |lst es=>
   obtain⟨hl,rfl⟩:=cf (c:=ds.length+es.length<=lim) e;obtain⟨a,xs,rfl,qa,la⟩:=dM.mp r1;obtain⟨b,ys,rfl,qb,lb⟩:=dM.mp r2;exact LB pins s σ H _ _ v u Q I rx ry ⟨a,b,xs,ys,rfl,rfl,by rw[hK];exact ba.seq sm qa,by rw[hK];exact ba.seq sm qb,by rw[←la.length,←lb.length];exact me hl,λp hp=>qC sm q (la.append lb) hp⟩
  |non=>cases e
  |bl _=>cases e
  |int _=>cases e
  |str _=>cases e
  |tup _=>cases e
  |fn _ _=>cases e
  |obj _ _ _=>cases e
 |_=>cases e
theorem dU{f:Int->Int->(9,R)}{g:D->D->(9,R)}(hg:∀d1 d2,g d1 d2=match d1,d2 with|.int i,.int j=>f i j|_,_=>none){d1 d2:D}{r:R}(e:g d1 d2=(6,r)):∃i j,d1=(4,i)/\d2=(4,j)/\f i j=(6,r):=by
 rw[hg] at e;cases d1 with
 |int i=>
  cases d2 with
  |int j=>exact⟨i,j,rfl,rfl,e⟩
  |non=>cases e
  |bl _=>cases e
  |str _=>cases e
  |tup _=>cases e
  |lst _=>cases e
  |fn _ _=>cases e
  |obj _ _ _=>cases e
 |_=>cases e
theorem o8:(18,X,.Sub,rD Γ W vC):=λpins s σ H x y v u Q I rx ry ⟨Hs,d1,d2,r,sm,r1,r2,e,q⟩=>by
 obtain⟨i,j,rfl,rfl,e⟩:=dU (f:=λi j=>okI (i - j)) (λ_ _=>rfl) e;cases e;exact NW pins s σ H x y v u Q I rx ry ⟨i,j,au.mp r1,au.mp r2,gq sm q (au.mpr rfl)⟩
theorem xH{i:Int}(h:kQ i=true):-(2 ^ 64)<i/\i<2 ^ 64:=by
 unfold kQ at h;simpa using h
theorem bB:(18,X,.Mod,rD Γ W dMod):=λpins s σ H x y v u Q I rx ry ⟨Hs,d1,d2,r,sm,r1,r2,e,q⟩=>by
 obtain⟨i,j,rfl,rfl,e⟩:=dU (f:=λi j=>if 0<j then okI (i % j) else none) (λ_ _=>rfl) e;obtain⟨h,rfl⟩:=cf e;exact O5 pins s σ H x y v u Q I rx ry ⟨i,j,au.mp r1,au.mp r2,h,gq sm q (au.mpr rfl)⟩
theorem j5:(18,X,.FloorDiv,rD Γ W j7):=λpins s σ H x y v u Q I rx ry ⟨Hs,d1,d2,r,sm,r1,r2,e,q⟩=>by
 obtain⟨i,j,rfl,rfl,e⟩:=dU (f:=λi j=>if 0<j/\j<1073741824 then okI (i / j) else none) (λ_ _=>rfl) e;obtain⟨h,rfl⟩:=cf e;exact Lz pins s σ H x y v u Q I rx ry ⟨i,j,au.mp r1,au.mp r2,h,gq sm q (au.mpr rfl)⟩
theorem pM:ja X (compareOp .Lt) (rD Γ W dLt):=λpins s σ H x y v u Q I rx ry ⟨Hs,d1,d2,r,sm,r1,r2,e,q⟩=>by
 obtain⟨i,j,rfl,rfl,e⟩:=dU (f:=λi j=>okB (decide (i<j))) (λ_ _=>rfl) e;cases e;exact Py pins s σ H x y v u Q I rx ry ⟨i,j,au.mp r1,au.mp r2,gq sm q (bQ.mpr rfl)⟩
theorem va:ja X (compareOp .LtE) (rD Γ W KF):=λpins s σ H x y v u Q I rx ry ⟨Hs,d1,d2,r,sm,r1,r2,e,q⟩=>by
 obtain⟨i,j,rfl,rfl,e⟩:=dU (f:=λi j=>okB (decide (i<=j))) (λ_ _=>rfl) e;cases e;exact Pz pins s σ H x y v u Q I rx ry ⟨i,j,au.mp r1,au.mp r2,gq sm q (bQ.mpr rfl)⟩
theorem jc:ja X (compareOp .Gt) (rD Γ W dGt):=λpins s σ H x y v u Q I rx ry ⟨Hs,d1,d2,r,sm,r1,r2,e,q⟩=>by
 obtain⟨i,j,rfl,rfl,e⟩:=dU (f:=λi j=>okB (decide (j<i))) (λ_ _=>rfl) e;cases e;exact PB pins s σ H x y v u Q I rx ry ⟨i,j,au.mp r1,au.mp r2,gq sm q (bQ.mpr rfl)⟩
theorem gW:(18,X,.Mult,rD Γ W lH):=λpins s σ H x y v u Q I rx ry ⟨Hs,d1,d2,r,sm,r1,r2,e,q⟩=>by
 cases d1 with
 |int i=>
  cases d2 with
  |int j=>
   obtain⟨hl,rfl⟩:=cf (c:=(kQ i || kQ j)=true) e;refine O4 pins s σ H x y v u Q I rx ry ⟨i,j,au.mp r1,au.mp r2,?_,gq sm q (au.mpr rfl)⟩;rcases Bool.or_eq_true_iff.mp hl with h|h
   ·exact .inl (xH h)
   ·exact .inr (xH h)
  |non=>cases e
  |bl _=>cases e
  |str _=>cases e
  |tup _=>cases e
  |lst _=>cases e
  |fn _ _=>cases e
  |obj _ _ _=>cases e
 |_=>cases e
theorem CB{d1 d2:D}{b:Bool}{x y:V}{H:Hp}(e:OB d1 d2=(6,b))(r1:dB Γ H d1 x)(r2:dB Γ H d2 y):Nu x y=true/\decide (x=y)=b:=by
 cases d1 with
 |non=>
  rw[ff.mp r1];cases d2 with
  |non=>rw[ff.mp r2];cases e;exact(5,rfl,rfl)
  |bl _=>rw[bQ.mp r2];cases e;exact(5,rfl,rfl)
  |int _=>rw[au.mp r2];cases e;exact(5,rfl,rfl)
  |str _=>rw[dJ.mp r2];cases e;exact(5,rfl,rfl)
  |tup _=>cases e
  |lst _=>cases e
  |fn _ _=>cases e
  |obj _ _ _=>cases e
 |bl c=>
  rw[bQ.mp r1];cases d2 with
  |non=>rw[ff.mp r2];cases e;exact(5,rfl,rfl)
  |bl c'=>rw[bQ.mp r2];cases e;exact(5,rfl,by rw[Bool.eq_iff_iff];simp)
  |int _=>cases e
  |str _=>rw[dJ.mp r2];cases e;exact(5,rfl,rfl)
  |tup _=>cases e
  |lst _=>cases e
  |fn _ _=>cases e
  |obj _ _ _=>cases e
 |int c=>
  rw[au.mp r1];cases d2 with
  |non=>rw[ff.mp r2];cases e;exact(5,rfl,rfl)
  |bl _=>cases e
  |int c'=>rw[au.mp r2];cases e;exact(5,rfl,by rw[Bool.eq_iff_iff];simp)
  |str _=>rw[dJ.mp r2];cases e;exact(5,rfl,rfl)
  |tup _=>cases e
  |lst _=>cases e
  |fn _ _=>cases e
  |obj _ _ _=>cases e
 |str c=>
  rw[dJ.mp r1];cases d2 with
  |non=>rw[ff.mp r2];cases e;exact(5,rfl,rfl)
  |bl _=>rw[bQ.mp r2];cases e;exact(5,rfl,rfl)
  |int _=>rw[au.mp r2];cases e;exact(5,rfl,rfl)
  |str c'=>rw[dJ.mp r2];cases e;exact(5,rfl,by rw[Bool.eq_iff_iff];simp)
  |tup _=>cases e
  |lst _=>cases e
  |fn _ _=>cases e
  |obj _ _ _=>cases e
 |_=>cases e
theorem aV:ja X (compareOp .Eq) (rD Γ W dEq):=λpins s σ H x y v u Q I rx ry ⟨Hs,d1,d2,r,sm,r1,r2,e,q⟩=>by
 unfold dEq at e;cases h:OB d1 d2 with
 |none=>rw[h] at e;cases e
 |some b=>
  rw[h] at e;cases e;obtain⟨h1,h2⟩:=CB h r1 r2;exact PF pins s σ H x y v u Q I rx ry (5,h1,by rw[h2];exact gq sm q (bQ.mpr rfl))
theorem ma:ja X (compareOp .NotEq) (rD Γ W Ag):=λpins s σ H x y v u Q I rx ry ⟨Hs,d1,d2,r,sm,r1,r2,e,q⟩=>by
 unfold Ag at e;cases h:OB d1 d2 with
 |none=>rw[h] at e;cases e
 |some b=>
  rw[h] at e;cases e;obtain⟨h1,h2⟩:=CB h r1 r2;exact Px pins s σ H x y v u Q I rx ry (5,h1,by rw[h2];exact gq sm q (bQ.mpr rfl))
theorem NU{a b:Expr}{ga gb:ME}{pos:Pos}(ha:(8,X,W,a,ga))(hb:(8,X,W,b,gb)):(8,X,W,.BinOp a .Mult b pos,K9 ga gb):=PE.imp (MW NZ ha hb) λ_ _ σ H Q _ ⟨B0,B1,Hs,ρ,r,re,e,q⟩=>by
 unfold K9 at e;cases h:ga ρ with
 |none=>rw[h] at e;cases e
 |some x=>
  rw[h] at e;refine⟨B0,B1,Hs,ρ,x,re,h,?_⟩;cases x with
  |exc y=>cases e;exact q
  |ok s=>
   cases s with
   |sh d=>cases e
   |two _ _ _=>cases e
   |own o=>
    cases o with
    |obj _ _ _=>cases e
    |dic _=>cases e
    |par _ _=>cases e
    |fdic _=>cases e
    |tab _=>cases e
    |dik _=>cases e
    |lst ds=>
     intro v Hs1 H1 g1 rs;obtain⟨p,ho,rfl,h0,h1,h2,xs,rfl,rl⟩:=rs;refine(cH (k:=Q6 ds) (re.grow g1) e (q.grow g1)).mono λu H2 ⟨Hs2,d2,g2,re2,rp2,e2,q2⟩=>?_;cases d2 with
     |int k=>
      obtain⟨hl,rfl⟩:=cf (c:=-(2 ^ 60)<=k/\k<2 ^ 60/\ds.length * k.toNat<=lim) e2;exact⟨p,k,xs,rfl,au.mp rp2,g2.h _ _ h2,by omega,by omega,by rw[←rl.length];exact me hl.2.2,λp hp=>qC re2.b.i q2 ((rl.mono g2.s).rep _) hp⟩
     |non=>cases e2
     |bl _=>cases e2
     |str _=>cases e2
     |tup _=>cases e2
     |lst _=>cases e2
     |fn _ _=>cases e2
     |obj _ _ _=>cases e2
theorem ID{α:Type}{H:Hp}{f:α->D}{g:α->V}(l:List α)(h:∀k,dB Γ H (f k) (g k)):(23,H,l.map f,l.map g):=by
 induction l with
 |nil=>exact .nil
 |cons a l ih=>exact .cons (h a) ih
theorem FY{H:Hp}{ds:[21]}{xs:List V}{i:Int}{d:D}(rl:(23,H,ds,xs))(e:EY ds i=(6,d)):∃x,OP xs i=(6,x)/\dB Γ H d x:=by
 unfold EY at e;unfold OP;have hl:=rl.length;have e0:Ou xs.length i=KD ds.length i:=by rw[hl];rfl
 rw[e0];cases h:KD ds.length i with
 |none=>rw[h] at e;cases e
 |some j=>
  rw[h] at e;exact rl.get e
theorem ixd(hK:X.K=Γ.K):KG X (rD Γ W dIx):=λvalue slice pins s σ H x y v u Q I rx ry ⟨Hs,d1,d2,r,sm,r1,r2,e,q⟩ hs=>by
 cases d2 with
 |int i=>
  have ey:=au.mp r2;cases d1 with
  |tup ds=>
   have e:(EY ds i).bind okD=(6,r):=e;cases h:EY ds i with
   |none=>rw[h] at e;cases e
   |some d=>
    rw[h] at e;cases e;obtain⟨a,xs,rfl,qa,la⟩:=cz.mp r1;obtain⟨z,ez,rz⟩:=FY la h;exact ix_tup value slice pins s σ H _ _ v u Q I rx ry ⟨a,xs,i,z,rfl,ey,by rw[hK];exact dq sm qa,ez,gq sm q rz⟩ hs
  |lst ds=>
   have e:(EY ds i).bind okD=(6,r):=e;cases h:EY ds i with
   |none=>rw[h] at e;cases e
   |some d=>
    rw[h] at e;cases e;obtain⟨a,xs,rfl,qa,la⟩:=dM.mp r1;obtain⟨z,ez,rz⟩:=FY la h;exact M1 value slice pins s σ H _ _ v u Q I rx ry ⟨a,xs,i,z,rfl,ey,by rw[hK];exact ba.seq sm qa,ez,gq sm q rz⟩ hs
  |str z=>
   have e':(if z.length<=lim then(EY z.cps.toList i).bind (λc=>okD (.str ⟨#[c]⟩)) else none)=(6,r):=e;by_cases hl:z.length<=lim
   ·rw[(39,hl)] at e';cases h:EY z.cps.toList i with
    |none=>rw[h] at e';cases e'
    |some c=>
     rw[h] at e';cases e';exact Ot value slice pins s σ H _ _ v u Q I rx ry ⟨z,i,c,dJ.mp r1,ey,me hl,h,gq sm q (dJ.mpr rfl)⟩ hs
   ·rw[(42,hl)] at e';cases e'
  |non=>cases e
  |bl _=>cases e
  |int _=>cases e
  |fn _ _=>cases e
  |obj _ _ _=>cases e
 |_=>cases d1 <;> cases e
theorem ox{F:D->(9,R)}{ds:[21]}{r:R}(h:f1 F ds=(6,r)):∃d,ds=[d]/\F d=(6,r):=by
 match ds,h with
 |[d],h=>exact(12,d,rfl,h)
theorem FM{F:D->D->(9,R)}{ds:[21]}{r:R}(h:f2 F ds=(6,r)):∃d e,ds=[d,e]/\F d e=(6,r):=by
 match ds,h with
 |[d,e],h=>exact(9,d,e,rfl,h)
theorem sg{H:Hp}{d:D}{xs:List V}(h:(23,H,[d],xs)):∃x,xs=[x]/\dB Γ H d x:=by
 obtain⟨x,r,e,q,t⟩:=cb.mp h;rw[fK.mp t] at e;exact(12,x,e,q)
theorem bG(hK:X.K=Γ.K):dh X (40,"len") (Du Γ W (f1 bM)):=λpins s σ H xs us Q I rs ⟨Hs,ds,r,sm,rl,e,q,tb⟩=>by
 obtain⟨d,rfl,e⟩:=ox e;obtain⟨x,rfl,rp⟩:=sg rl;cases d with
 |tup ds=>
  cases e;obtain⟨a,ys,rfl,qa,la⟩:=cz.mp rp;exact qZ pins s σ H _ us Q I rs ⟨a,ys,rfl,.inr (by rw[hK];exact dq sm qa),by rw[←la.length];exact gq sm q (au.mpr rfl)⟩
 |lst ds=>
  cases e;obtain⟨a,ys,rfl,qa,la⟩:=dM.mp rp;exact qZ pins s σ H _ us Q I rs ⟨a,ys,rfl,.inl (by rw[hK];exact ba.seq sm qa),by rw[←la.length];exact gq sm q (au.mpr rfl)⟩
 |str z=>
  obtain⟨hl,rfl⟩:=cf (c:=z.length<=lim) e;rw[dJ.mp rp] at rs;exact Ao pins s σ H _ us Q I rs (9,z,rfl,me hl,gq sm q (au.mpr rfl))
 |_=>cases e
theorem Kl(hK:X.K=Γ.K)(hc:X.calm=true):dh X (40,"sum") (Du Γ W (f1 HA)):=λpins s σ H xs us Q I rs ⟨Hs,ds,r,sm,rl,e,q,tb⟩=>by
 obtain⟨d,rfl,e⟩:=ox e;obtain⟨x,rfl,rp⟩:=sg rl;cases d with
 |lst ds=>
  have e:(intsOf ds).bind (λns=>okI ns.sum)=(6,r):=e;cases h:intsOf ds with
  |none=>rw[h] at e;cases e
  |some ns=>
   rw[h] at e;cases e;obtain⟨a,ys,rfl,qa,la⟩:=dM.mp rp;have ey:=la.intsOf h;subst ey;exact HD hc pins s σ H _ us Q I rs ⟨a,ns,rfl,by rw[hK];exact ba.seq sm qa,gq sm q (au.mpr rfl)⟩
 |_=>cases e
theorem i7(hK:X.K=Γ.K):dh X (52,"tuple") (Du Γ W (f1 jf)):=λpins s σ H xs us Q I rs ⟨Hs,ds,r,sm,rl,e,q,tb⟩=>by
 obtain⟨d,rfl,e⟩:=ox e;obtain⟨x,rfl,rp⟩:=sg rl;cases d with
 |tup ds=>
  cases e;obtain⟨a,ys,rfl,qa,la⟩:=cz.mp rp;exact pd pins s σ H _ us Q I rs (9,a,ys,rfl,.inr (5,by rw[hK];exact dq sm qa,gq sm q rp))
 |lst ds=>
  cases e;obtain⟨a,ys,rfl,qa,la⟩:=dM.mp rp;exact pd pins s σ H _ us Q I rs (9,a,ys,rfl,.inl (5,by rw[hK];exact ba.seq sm qa,λp hp=>yZ sm q la hp))
 |_=>cases e
theorem tW(hK:X.K=Γ.K):dh X (52,"list") (Du Γ W (f1 CL)):=λpins s σ H xs us Q I rs ⟨Hs,ds,r,sm,rl,e,q,tb⟩=>by
 obtain⟨d,rfl,e⟩:=ox e;obtain⟨x,rfl,rp⟩:=sg rl;cases d with
 |tup ds=>
  cases e;obtain⟨a,ys,rfl,qa,la⟩:=cz.mp rp;exact qY pins s σ H _ us Q I rs ⟨a,ys,rfl,.inr (by rw[hK];exact dq sm qa),λp hp=>qC sm q la hp⟩
 |lst ds=>
  cases e;obtain⟨a,ys,rfl,qa,la⟩:=dM.mp rp;exact qY pins s σ H _ us Q I rs ⟨a,ys,rfl,.inl (by rw[hK];exact ba.seq sm qa),λp hp=>qC sm q la hp⟩
 |_=>cases e
def nK(K:Frag)(T:String):Prop:=∀t∈["NoneType","bool","int","str","tuple","list"],kitOne K (52,t) (52,T)=(6,(t == T || (t == "bool" && T == "int")))
theorem Np{T:String}{g:ME}(hK:X.K=Γ.K)(h:nK X.K T){σ:L2.St}{H:Hp}{Q:VK}(t:tD Γ W (kj (vG T) g) σ H Q):
  tD Γ W g σ H λx H1=>∃y t U b,[x,V.ty T]=[y,V.ty U]/\(q8 X.K H1 y (52,t)\/(t = "tuple" /\ ∃a xs,y=(10,a)/\rh X.K H1 a xs)\/(t = "list" /\ ∃a xs,y=(10,a)/\pA X.K H1 a xs))/\kitOne X.K (52,t) (52,U)=(6,b)/\Q (.bl b) H1:=by
 obtain⟨B0,B1,Hs,ρ,r,re,e,q⟩:=t;refine(cH re e q).mono λv H1 ⟨Hs1,d,g1,re1,rp,e1,q1⟩=>?_;have fin:∀t:String,vG T d=okB (t == T || (t == "bool" && T == "int"))->Q (.bl (t == T || (t == "bool" && T == "int"))) H1:=λt z=>by
  rw[z] at e1;cases e1;exact q1 _ Hs1 H1 (.refl re1.b.i) (fG.of (bQ.mpr rfl))
 cases d with
 |non=>rw[ff.mp rp];exact⟨_,"NoneType",T,_,rfl,.inl .non,h _ [20],fin _ rfl⟩
 |bl _=>rw[bQ.mp rp];exact⟨_,"bool",T,_,rfl,.inl (.bl _),h _ [20],fin _ rfl⟩
 |int _=>rw[au.mp rp];exact⟨_,"int",T,_,rfl,.inl (4,_),h _ [20],fin _ rfl⟩
 |str _=>rw[dJ.mp rp];exact⟨_,"str",T,_,rfl,.inl (.str _),h _ [20],fin _ rfl⟩
 |tup _=>obtain⟨a,xs,rfl,qa,_⟩:=cz.mp rp;exact⟨_,"tuple",T,_,rfl,.inr (.inl ⟨rfl,a,xs,rfl,by rw[hK];exact dq re1.b.i qa⟩),h _ [20],fin _ rfl⟩
 |lst _=>
  obtain⟨a,xs,rfl,qa,_⟩:=dM.mp rp;exact⟨_,"list",T,_,rfl,.inr (.inr ⟨rfl,a,xs,rfl,by rw[hK];exact ba.seq re1.b.i qa⟩),h _ [20],fin _ rfl⟩
 |fn _ _=>cases e1
 |obj _ _ _=>cases e1
theorem mT{a:Expr}{g:ME}{T:String}{tn:Str}{p p' pos:Pos}(hK:X.K=Γ.K)(hk:nK X.K T)(hg:Gl X "isinstance")(hm:X.mg "isinstance" = none)(hg2:Gl X tn)(hm2:X.mg tn=none)(hb:bootBuiltins tn=(6,(52,T)))(h:(8,X,W,a,g))
  (hn:tn ≠ "__name__" := by decide) (hdb:(tn == ("__debug__":Str))=false:=by decide) (hs1:(7,[a,(6,tn,p')])=(false,(16,a))::(7,[(6,tn,p')]):=by rfl) (hs2:(7,[(6,tn,p')])=(false,(16,(6,tn,p')))::(7,[]):=by rfl)
  (hpl:(10,pos,[(6,tn,p')]).any (·.1)=false:=by rfl):(8,X,W,(15,(6,"isinstance",p),[a,(6,tn,p')],pos),kj (vG T) g):=
 PE.imp (mS CW hg hm boot_isinstance (cS h (cS (Lr (v:=.ty T) hg2 hm2 hb rfl hn hdb) iu hs2) hs1) [12] [12] hs1 hpl) λ_ _ _ _ _ _ t=>Np hK hk t
theorem zh{a b:Expr}{ga gb:ME}{p p' pos' pos:Pos}(hc:X.calm=true)(hg:Gl X "list")(hm:X.mg "list" = none)(hg2:Gl X "range")(hm2:X.mg "range" = none)(ha:(8,X,W,a,ga))(hb:(8,X,W,b,gb))
  (hs1:(7,[a,b])=(false,(16,a))::(7,[b]):=by rfl) (hs2:(7,[b])=(false,(16,b))::(7,[]):=by rfl) (hpl:(10,pos',[b]).any (·.1)=false:=by rfl)
  (hs3:(7,[(15,(6,"range",p'),[a,b],pos')])=(false,(16,(15,(6,"range",p'),[a,b],pos')))::(7,[]):=by rfl) (hpl2:(10,pos,[]).any (·.1)=false:=by rfl):
  (8,X,W,(15,(6,"list",p),[(15,(6,"range",p'),[a,b],pos')],pos),(10,nz,ga,gb)):=
 PE.imp (o7 (An hc) hg hm boot_list (cS (o7 CV hg2 hm2 boot_range (cS ha (cS hb iu hs2) hs1) [12] [12] hs1 hpl) iu hs3) [12] [12] hs3 hpl2) λ_ _ σ H Q _ ⟨B0,B1,Hs,ρ,r,re,e,q⟩=>by
  refine(cH re e q).mono λv H1 ⟨Hs1,d,g1,re1,rp,e1,q1⟩=>?_;refine(cH re1 e1 q1).mono λu H2 ⟨Hs2,d2,g2,re2,rp2,e2,q2⟩=>?_;obtain⟨lo,hi,rfl,rfl,e2⟩:=dU (f:=λlo hi=>if jh lo=true/\jh hi=true/\(hi - lo).toNat<=lim then okL (rng lo hi) else none) (λ_ _=>rfl) e2;obtain⟨⟨h1,h2,h3⟩,rfl⟩:=cf e2;refine(9,lo,hi,by rw[au.mp rp,au.mp rp2],λp hp=>?_)
  have sm:=re2.b.i;refine⟨p,lo,hi,rfl,aH,(9,(k8 h1).1,(k8 h1).2,(k8 h2).1,(k8 h2).2),me h3,λl hl=>?_⟩;have hp2:=sm.free hp;have g3:Grow Hs2 H2 Hs2 (cA (cA H2 p (.rng lo hi)) l (13,((23,(hi - lo).toNat).map λk:Nat=>V.int (lo+k)))):=.only sm ((cq hp).trans (cq hl));have hl2:H2 l=none:=(cq hp).free hl;refine q2 _ Hs2 _ g3 ⟨l,_,rfl,hl2,sm.free hl2,aH,_,rfl,?_⟩;unfold rng;exact ID _ λk=>au.mpr rfl
end
section
variable{X:Cx}{Γ:Ct}{W:XW}{i:Nat}{x:Str}{e ex:Expr}{ge gx:ME}{px apos cpos pos:Pos}
theorem rF{i:Nat}{ρ:MEnv}{k:([21])->(9,mI)}{o:mI}(h:Br i ρ k=(6,o)):∃ds,ρ[i]?=(21,(38,ds))/\k ds=(6,o):=by
 unfold Br at h;split at h
 ·rename_i ds hd;exact(12,ds,hd,h)
 ·cases h
theorem m8(hv:PE X (6,x,px) (lL i))(he:(8,X,W,e,ge))(hs:(7,[e])=(false,(16,e))::(7,[]):=by rfl)
  (hbase:attributeBase (6,x,px) "append" X.env (16,(6,x,px))=(16,(6,x,px)):=by rfl)
  (hfew:((10,cpos,[e]).all (λx=>!x.1) && (backToKw cpos (keywordEach [] X.env)).all (λx=>x.1.isSome) && decide ([e].length+([]:List Keyword).length+(if([]:List Keyword).isEmpty then 0 else 1)<30))=true:=by rfl)
  (hline:(apos.endLine == cpos.line)=true:=by rfl) (hplain:(10,cpos,[]).any (·.1)=false:=by rfl) (hsw:(21,(15,(6,x,px,"append",apos),[e],cpos),none,pos.line)=pure false:=by rfl):
  vT X Γ W (.Expr (15,(6,x,px,"append",apos),[e],cpos) pos) (lY i ge):=
 PS.imp (tK (MY PySem.F.plainAttrs_list PySem.F.slot_list_append PySem.F.type_list_append y0 hv (cS he iu hs) hbase hfew hline hs hplain) hsw) λpins s σ H En I ⟨B0,B1,Hs,ρ,o,re,eo,q⟩=>by
  obtain⟨ds,hd,eo⟩:=rF eo;obtain⟨a,ho,e1,e2,e3,e4,xs,rfl,rl⟩:=re.own i _ hd;refine(9,(10,a),e1,.inl (12,rfl,xs,.of e4),(Dr re eo q).mono λy H1 ⟨Hs1,s,g1,rs,e5⟩=>?_);obtain⟨hl,rfl⟩:=cf e5;obtain⟨Hs2,g2,_,rp⟩:=rs.share g1;refine⟨a,xs,y,rfl,rfl,g2.h _ _ e4,by rw[←rl.length];exact(11,hl,[12]),q σ Hs2 _ g2.s ((re.grow g2).write hd e1 (12,_,rfl,(rl.mono g2.s).append (.cons rp .nil)))⟩
theorem uT(hK:X.K=Γ.K)(hv:PE X (6,x,px) (lL i))(he:(8,X,W,e,ge))(hs:(7,[e])=(false,(16,e))::(7,[]):=by rfl)
  (hbase:attributeBase (6,x,px) "extend" X.env (16,(6,x,px))=(16,(6,x,px)):=by rfl)
  (hfew:((10,cpos,[e]).all (λx=>!x.1) && (backToKw cpos (keywordEach [] X.env)).all (λx=>x.1.isSome) && decide ([e].length+([]:List Keyword).length+(if([]:List Keyword).isEmpty then 0 else 1)<30))=true:=by rfl)
  (hline:(apos.endLine == cpos.line)=true:=by rfl) (hplain:(10,cpos,[]).any (·.1)=false:=by rfl) (hsw:(21,(15,(6,x,px,"extend",apos),[e],cpos),none,pos.line)=pure false:=by rfl):
  vT X Γ W (.Expr (15,(6,x,px,"extend",apos),[e],cpos) pos) (o5 i ge):=
 PS.imp (tK (MY PySem.F.plainAttrs_list PySem.F.slot_list_extend PySem.F.type_list_extend (P4.or Eg Ef) hv (cS he iu hs) hbase hfew hline hs hplain) hsw) λpins s σ H En I ⟨B0,B1,Hs,ρ,o,re,eo,q⟩=>by
  obtain⟨ds,hd,eo⟩:=rF eo;obtain⟨a,ho,e1,e2,e3,e4,xs,rfl,rl⟩:=re.own i _ hd;refine(9,(10,a),e1,.inl (12,rfl,xs,.of e4),(Dr re eo q).mono λy H1 ⟨Hs1,s,g1,rs,e5⟩=>?_);obtain⟨Hs2,g2,_,rp⟩:=rs.share g1;have wr:∀{es:[21]}{ys:List V},(23,Hs2,es,ys)->o=.next (ρ.set i (6,(38,(ds++es))))->En.nx σ (cA H1 a (13,(xs++ys))):=λ{es ys} rl2 eo=>by
   subst eo;exact q σ Hs2 _ g2.s ((re.grow g2).write hd e1 (12,_,rfl,(rl.mono g2.s).append rl2))
  cases hv:s.val with
  |lst es=>
   rw[hv] at e5 rp;obtain⟨hl,eo⟩:=cf (c:=ds.length+es.length<=lim) e5;obtain⟨b,ys,rfl,rd,rl2⟩:=dM.mp rp;exact .inl ⟨a,b,xs,ys,rfl,rfl,g2.h _ _ e4,by rw[hK];exact ba.seq g2.i rd,by rw[←rl.length,←rl2.length];exact me hl,wr rl2 eo.symm⟩
  |tup es=>
   rw[hv] at e5 rp;obtain⟨hl,eo⟩:=cf (c:=ds.length+es.length<=lim) e5;obtain⟨b,ys,rfl,sq,rl2⟩:=cz.mp rp;exact .inr ⟨a,b,xs,ys,rfl,rfl,g2.h _ _ e4,by rw[hK];exact dq g2.i sq,by rw[←rl.length,←rl2.length];exact me hl,wr rl2 eo.symm⟩
  |_=>rw[hv] at e5;cases e5
end
def W0:XW:=λ_ _ _=>False
theorem qF{Γ:Ct}{Hs H:Hp}(sm:ba Hs H){N:[16]}{ds:[21]}{vs:List V}(rl:(23,Hs,ds,vs))(tb:ba Γ.tb Hs):RE Γ Hs H Hs H (L2.start N vs) (bX N.length ds):=by
 have hl:=rl.length;have at':∀(i:Nat)(s:S),(bX N.length ds)[i]?=(21,s)->∃d,s=.sh d/\ds[i]?=(6,d):=λi s e=>by
  unfold bX at e;by_cases hi:i<ds.length
  ·rw[(44,by simpa using hi),getElem?_map,(19,hi)] at e
   cases e;exact(12,ds[i],rfl,(19,hi))
  ·rw[(47,by simpa using hi),getElem?_replicate] at e
   split at e <;> cases e
 refine⟨.refl sm,λi d e=>?_,λi o e=>?_,λi j o u a _ e=>?_,?_,tb⟩
 ·obtain⟨d',e1,e2⟩:=at' i _ e;cases e1;obtain⟨v,e3,q⟩:=rl.get e2;refine(12,v,?_,q);have hi:i<vs.length:=(12,e3).1;unfold L2.start;rw[(44,by simpa using hi),getElem?_map,e3]
  rfl
 ·obtain⟨_,e1,_⟩:=at' i _ e;cases e1
 ·obtain⟨_,e1,_⟩:=at' i _ e;cases e1
 ·unfold bX L2.start;rw[length_append,length_append,length_map,length_map,length_replicate,length_replicate,hl]
section
variable{P:Program}{w:World}{K:Frag}{mg:Str->Option Value}{base:Heap}{Γ:Ct}
theorem qS{np n:Nat}{g:MC}{ds:[21]}{r:R}(h:gu np n g ds=(6,r)):ds.length=np/\GG (g (bX n ds))=(6,r):=by
 unfold gu at h;by_cases z:ds.length=np
 ·rw[(39,z)] at h;exact(5,z,h)
 ·rw[(42,z)] at h;cases h
theorem Ox{x qual:Str}{st:Stmt}{f:Addr}{fd:FuncData}{N ps:[16]}{k:Nat}{g:MC}(F:D9 K x qual st f fd)(S:aw N ps (ag st))
  (body:∀(cdv:Value)(A:Around)(outer:List PySem.Env)(s:Shared)(H:Hp)(E:XK),cG k (A.deeper (envOfC qual (ag st) [15] f cdv))->oK (pU rn P w K mg base N qual (ag st) f cdv A outer s H E).nox Γ W0 (b9 st) g):
  dE P w K mg base rn (k+1) f fd ps (KC Γ W0 (gu ps.length N.length g)):=by
 refine F.ok S (λvs H Q E ⟨Hs,ds,r,sm,rl,e,q,tb⟩=>?_) (λcdv A outer s H vs Q E hr ⟨Hs,ds,r,sm,rl,e,q,tb⟩=>?_)
 ·rw[←rl.length];exact(qS e).1
 ·obtain⟨_,e⟩:=qS e;refine(12,tS Γ W0 g,body cdv A outer s H E hr,?_);cases h:g (bX N.length ds) with
  |none=>rw[h] at e;cases e
  |some o=>
   rw[h] at e;refine⟨Hs,H,Hs,bX N.length ds,o,qF sm rl tb,h,?_⟩;cases o with
   |next ρ'=>cases e;exact λσ' Hs' H' _ re=>q .non Hs' H' re.b (fG.of (ff.mpr rfl))
   |brk ρ'=>cases e
   |cont ρ'=>cases e
   |ret s=>cases e;exact λv Hs' H' _ g' rs=>q v Hs' H' g' rs
   |exc x=>cases e;exact λHs' H' _ g'=>q Hs' H' g'
theorem dE.le{f:Addr}{fd:FuncData}{ps:[16]}{k:Nat}{F G:([21])->(9,R)}(h:dE P w K mg base rn k f fd ps (KC Γ W0 F))(l:∀ds r,G ds=(6,r)->F ds=(6,r)):dE P w K mg base rn k f fd ps (KC Γ W0 G):=
 h.imp λvs H Q E ⟨Hs,ds,r,sm,rl,e,q,tb⟩=>⟨Hs,ds,r,sm,rl,l _ _ e,q,tb⟩
end
theorem A6(K:Frag):nK K "tuple" /\ nK K "list" /\ nK K "bool" /\ nK K "int" /\ nK K "str" := by
 refine⟨?_,?_,?_,?_,?_⟩ <;>
 ·intro t ht;have:t = "NoneType" \/ t = "bool" \/ t = "int" \/ t = "str" \/ t = "tuple" \/ t = "list" := by simpa using ht
  rcases this with rfl|rfl|rfl|rfl|rfl|rfl <;> rfl
def cX(P:Program)(w:World)(K:Frag)(mg:Str->[26])(base:Heap)(Γ:Ct)(k:Nat)(x:Str)(ps:[16])(F:([21])->(9,R)):Prop:=
 ∃f fd,dE P w K mg base rn k f fd ps (KC Γ W0 F)/\mg x=(6,(10,f))/\(7,K,f)=true/\dj K fd ps []
section
variable{X:Cx}{Γ:Ct}{k:Nat}{ps:List Str}{x:Str}{p pos:Pos}{e:Expr}{es:List Expr}{gs:List ME}{F:List D->Option R}
theorem aN(h:cX X.prog X.w X.K X.mg X.base Γ k x ps F)(hr:cG k X.A)(hg:Gl X x)(ha:qc X Γ W0 (e::es) gs)(hdb:(x == ("__debug__":Str))=false:=by decide)(he:(7,(e::es))=(false,(16,e))::(7,es):=by rfl)(hpl:(10,pos,es).any (·.1)=false:=by rfl):
  (8,X,W0,(15,(6,x,p),(e::es),pos),aj F gs):=by
 obtain⟨f,fd,G,hm,hk,hb⟩:=h;exact Lv G hr hg hm hk hb ha hdb he hpl
end
structure bC(K:Frag)(mg:Str->Option Value)(x:Str)(st:Stmt)(ps:List Str):Prop where
 ex:∃f fd,D9 K x x st f fd/\mg x=(6,(10,f))/\dj K fd ps []
section
variable{P:Program}{w:World}{K:Frag}{mg:Str->Option Value}{base:Heap}{Γ:Ct}
theorem bj{x:Str}{st:Stmt}{N ps:[16]}{k:Nat}{g:MC}(L:bC K mg x st ps)(S:aw N ps (ag st))
  (body:∀(f:Addr)(cdv:Value)(A:Around)(outer:List PySem.Env)(s:Shared)(H:Hp)(E:XK),cG k (A.deeper (envOfC x (ag st) [15] f cdv))->oK (pU rn P w K mg base N x (ag st) f cdv A outer s H E).nox Γ W0 (b9 st) g):
  (1,P,w,K,mg,Γ,(k+1),x,ps,gu ps.length N.length g):=by
 obtain⟨f,fd,F,hm,hb⟩:=L.ex;exact⟨f,fd,Ox F S (body f),hm,F.kp,hb⟩
theorem cX.mono{j k:Nat}{x:Str}{ps:[16]}{F:([21])->(9,R)}(h:(1,P,w,K,mg,Γ,j,x,ps,F))(l:j<=k):(1,P,w,K,mg,Γ,k,x,ps,F):=by
 obtain⟨f,fd,G,r⟩:=h;exact(9,f,fd,G.mono l,r)
theorem cX.le{k:Nat}{x:Str}{ps:[16]}{F G:([21])->(9,R)}(h:(1,P,w,K,mg,Γ,k,x,ps,F))(l:∀ds r,G ds=(6,r)->F ds=(6,r)):(1,P,w,K,mg,Γ,k,x,ps,G):=by
 obtain⟨f,fd,o,r⟩:=h;exact(9,f,fd,dE.le o l,r)
theorem LZ{h:Heap}(X:K.In h)(G:h.Ns mainGlobals mg){x:Str}{st:Stmt}{ps:[16]}{f:Addr}{oc:Value}{od an:(9,Addr)}{osl:Array [26]}{kV doc pm cdv ct:Value}(a:(4,K,x)=(27,f))
  (l:K.lookup f=(6,(9,oc,od,.func (1,x,x,bL st,b9 st,ag st,.none,kV,pm,an,cdv,ct),osl))) (c:codeIn K cdv x=true) (k:(7,K,f)=true)
  (hb:∀(kV doc pm:Value)(an:(9,Addr))(cdv ct:Value)(us:[19]),us.length=ps.length->bindArgs (1,x,x,bL st,b9 st,ag st,.none,kV,pm,an,cdv,ct) (5,us,[])=pure (ps.zip us)):bC K mg x st ps:=
 ⟨f,_,nt l c k,mg_of X G a,(nt l c k).binds hb⟩
end
theorem lA(K:Frag):nK K "tuple" := (A6 K).1
theorem JF(K:Frag):nK K "list" := (A6 K).2.1
theorem JG(K:Frag):nK K "bool" := (A6 K).2.2.1
theorem M0(K:Frag):nK K "int" := (A6 K).2.2.2.1
theorem dA:bootBuiltins "tuple" = (6,(52,"tuple")):=by decide +kernel
theorem r6:bootBuiltins "list" = (6,(52,"list")):=by decide +kernel
theorem Mw:bootBuiltins "bool" = (6,(52,"bool")):=by decide +kernel
theorem ET:bootBuiltins "int" = (6,(52,"int")):=by decide +kernel
theorem Ko:bootBuiltins "sum" = (6,(40,"sum")):=by decide +kernel
def Im(K:Frag):Sp:=λvs H Q _=>∃(a:Addr)(ns:[22]),vs=[(10,a)]/\pA K H a (ns.map V.int)/\ns.length<=63/\∀H',Q (.bl true) H'
theorem Ol{P:Program}{w:World}{K:Frag}{mg:Str->[26]}{base:Heap}{Γ:Ct}{k:Nat}{f:Addr}{fd:FuncData}{x:Str}{F:([21])->(9,R)}(h:dE P w K mg base rn k f fd [x] (KC Γ W0 F))(hK:Γ.K=K)(htb:Γ.tb=λ_=>none)
  (T:∀ns:List Int,ns.length<=63->F [[30]]=(36,.sh (.bl true))):dE P w K mg base rn k f fd [x] (Im K):=
 h.imp λvs H Q E ⟨a,ns,ev,hS,hl,q⟩=>by
  subst hK;subst ev;refine⟨H,[[30]],_,.refl _,.cons (dM.mpr ⟨a,_,rfl,hS,RepL.ints ns⟩) .nil,T ns hl,λv Hs' H' g rs=>?_,λb o z=>by rw[htb] at z;cases z⟩
  have rs':dB Γ Hs' (.bl true) v:=rs;rw[bQ.mp rs'];exact q H'
theorem Jy{l:PySem.W.OpenLaw}{q:Program}{loose:[16]}{XP:(Str->[26])->Heap->Prop}{YP:World->Heap->Prop}{d:DefRec}{K:Params->Frag}{k:Nat}{x:Str}(hk:k<=60)(hn:l.most=(6,63))(hdf:d.params.defaults=[])
  (hY:∀(w:World)(h:Heap),YP w h->(K w.params).In h)
  (F:∀(w:World)(mg:Str->[26])(fa:Addr)(h:Heap),(K w.params).In h->h.Ns mainGlobals mg->mg d.name=(6,(10,fa))->
   ∃fd:FuncData,(∀(s:Shared)(u:Value),BindsTo s fd (5,[u],[]) [(x,u)])/\∀base:Heap,dE l.prog w (K w.params) mg base rn k fa fd [x] (Im (K w.params))):
  PySem.W.WalkO q loose XP YP l.row.toRowW d [] (λf vs=>PySem.call f vs):=
 L2.walk_of (n:=63) (k:=k) (x:=x) (CX:=λ_=>rn) (sp:=λw=>Im (K w.params)) hn [12] hdf (cG.mono (k:=60) (12,rfl,by decide,by decide) hk) hY (λw mg fa h KX G hm=>by
  obtain⟨fd,hb,ok⟩:=F w mg fa h KX G hm;exact(12,fd,hb,λbase _ _=>ok base)) (λ_ _ a ns hl _ hS=>⟨a,ns,rfl,hS,hl,λ_=>rfl⟩) λ_ _ _ _ _ z=>z
section
variable{X:Cx}{Γ:Ct}{W:XW}
theorem Fz:(18,X,.LShift,rD Γ W CK):=λpins s σ H x y v u Q I rx ry ⟨Hs,d1,d2,r,sm,r1,r2,e,q⟩=>by
 obtain⟨i,j,rfl,rfl,e⟩:=dU (f:=λi j=>if 0<=j/\j<=1000000/\i.natAbs<2 ^ 64 then okI (i * 2 ^ j.toNat) else none) (λ_ _=>rfl) e;obtain⟨h,rfl⟩:=cf e;exact NY pins s σ H x y v u Q I rx ry ⟨i,j,au.mp r1,au.mp r2,h,gq sm q (au.mpr rfl)⟩
theorem Ly:(18,X,.RShift,rD Γ W Kc):=λpins s σ H x y v u Q I rx ry ⟨Hs,d1,d2,r,sm,r1,r2,e,q⟩=>by
 obtain⟨i,j,rfl,rfl,e⟩:=dU (f:=λi j=>if 0<=j then okI (i / 2 ^ j.toNat) else none) (λ_ _=>rfl) e;obtain⟨h,rfl⟩:=cf e;exact NX pins s σ H x y v u Q I rx ry ⟨i,j,au.mp r1,au.mp r2,h,gq sm q (au.mpr rfl)⟩
theorem zk:(18,X,.Pow,rD Γ W Kd):=λpins s σ H x y v u Q I rx ry ⟨Hs,d1,d2,r,sm,r1,r2,e,q⟩=>by
 obtain⟨i,j,rfl,rfl,e⟩:=dU (f:=λi j=>if 0<=j/\j<=1000000/\i.natAbs<2 ^ 64 then okI (i ^ j.toNat) else none) (λ_ _=>rfl) e;obtain⟨h,rfl⟩:=cf e;exact O3 pins s σ H x y v u Q I rx ry ⟨i,j,au.mp r1,au.mp r2,h,gq sm q (au.mpr rfl)⟩
theorem My{x y:Int}(hx:0<=x)(hy:0<=y):Builtin.bitAnd x y=((x.toNat &&& y.toNat:Nat):Int):=by simp[Builtin.bitAnd,hx,hy]
theorem OO{x y:Int}(hx:0<=x)(hy:0<=y):Builtin.bitOr x y=((x.toNat ||| y.toNat:Nat):Int):=by
 obtain⟨a,rfl⟩:∃a:Nat,x=a:=(53,x.toNat)
 obtain⟨b,rfl⟩:∃b:Nat,y=b:=(53,y.toNat)
 have h1:¬(0:Int)<=Builtin.bitNot (a:Int):=by unfold Builtin.bitNot;omega
 have h2:¬(0:Int)<=Builtin.bitNot (b:Int):=by unfold Builtin.bitNot;omega
 unfold Builtin.bitOr Builtin.bitAnd;rw[(50,h1),(50,h2)];dsimp only;have e1:Builtin.bitNot (Builtin.bitNot (a:Int))=a:=by unfold Builtin.bitNot;omega
 have e2:Builtin.bitNot (Builtin.bitNot (b:Int))=b:=by unfold Builtin.bitNot;omega
 rw[e1,e2];simp only[toNat_natCast];unfold Builtin.bitNot;omega
theorem J1:(18,X,.BitAnd,rD Γ W CM):=λpins s σ H x y v u Q I rx ry ⟨Hs,d1,d2,r,sm,r1,r2,e,q⟩=>by
 obtain⟨i,j,rfl,rfl,e⟩:=dU (f:=λi j=>if 0<=i/\0<=j then okI ((i.toNat &&& j.toNat:Nat):Int) else none) (λ_ _=>rfl) e;obtain⟨h,rfl⟩:=cf e;exact O6 pins s σ H x y v u Q I rx ry ⟨i,j,au.mp r1,au.mp r2,by dsimp only;rw[My h.1 h.2];exact gq sm q (au.mpr rfl)⟩
theorem FB:(18,X,.BitOr,rD Γ W Mo):=λpins s σ H x y v u Q I rx ry ⟨Hs,d1,d2,r,sm,r1,r2,e,q⟩=>by
 obtain⟨i,j,rfl,rfl,e⟩:=dU (f:=λi j=>if 0<=i/\0<=j then okI ((i.toNat ||| j.toNat:Nat):Int) else none) (λ_ _=>rfl) e;obtain⟨h,rfl⟩:=cf e;exact Pw pins s σ H x y v u Q I rx ry ⟨i,j,au.mp r1,au.mp r2,by dsimp only;rw[OO h.1 h.2];exact gq sm q (au.mpr rfl)⟩
section
variable{a b c:Expr}{ga gb gc:ME}{pos:Pos}
theorem Pv{op:UnaryOp}{f:D->(9,R)}{rr:V->Hp->VK->Prop}(ho:Qn X (unaryOp op) rr)(hf:∀d v Hs H r Q,ba Hs H->dB Γ Hs d v->f d=(6,r)->RQ Γ W Hs H r Q->rr v H Q)(ha:(8,X,W,a,ga)):(8,X,W,.UnaryOp op a pos,kj f ga):=
 PE.imp (MV ho ha) λ_ _ σ H Q _ t=>by
  obtain⟨B0,B1,Hs,ρ,r,re,e,q⟩:=t;exact(cH re e q).mono λv H1 ⟨Hs1,d,g1,re1,rp,e1,q1⟩=>hf d v Hs1 H1 r Q re1.b.i rp e1 q1
theorem Lu(ha:(8,X,W,a,ga)):(8,X,W,.UnaryOp .USub a pos,kj OF ga):=Pv Ib (λd v Hs H r Q sm rp e q=>by
 cases d with
 |int i=>cases e;exact(12,i,au.mp rp,gq sm q (au.mpr rfl))
 |non=>cases e
 |bl _=>cases e
 |str _=>cases e
 |tup _=>cases e
 |lst _=>cases e
 |fn _ _=>cases e
 |obj _ _ _=>cases e) ha
theorem Ih{f g:D->D->(9,R)}{σ:L2.St}{H:Hp}{Q:VK}(t:tD Γ W (vB f g ga gb gc) σ H Q):Ij (rD Γ W f) (rD Γ W g) (tD Γ W ga) (tD Γ W gb) (tD Γ W gc) σ H Q:=by
 obtain⟨B0,B1,Hs,ρ,r,re,e,q⟩:=t;refine(cH re e q).mono λv H1 ⟨Hs1,d,g1,re1,rp,e1,q1⟩=>?_;refine(cH re1 e1 q1).mono λu H2 ⟨Hs2,d2,g2,re2,rp2,e2,q2⟩=>?_;cases h:f d d2 with
 |none=>rw[h] at e2;cases e2
 |some x=>
  rw[h] at e2;refine⟨Hs2,d,d2,x,re2.b.i,rp.mono g2.s,rp2,h,?_⟩;cases x with
  |exc y=>cases e2;exact q2
  |ok s=>
   intro z Hs3 H3 g3 rs;obtain⟨Hs4,g4,sm4,rp4⟩:=rs.share g3;obtain⟨k,ek,e3⟩:=kg (show asB s.val _=(6,r) from e2);rw[ek] at rp4;refine(12,k,bQ.mp rp4,?_);cases k with
   |false=>
    rw[(42,[33])] at e3;cases e3;exact PX (q2 _ Hs4 H3 g4 (fG.of (bQ.mpr rfl)))
   |true=>
    rw[(39,rfl)] at e3;refine PV ?_;refine(cH (re2.grow g4) e3 (q2.grow g4)).mono λw H5 ⟨Hs5,d5,g5,re5,rp5,e5,q5⟩=>?_;exact⟨Hs5,d2,d5,r,re5.b.i,(rp2.mono g4.s).mono g5.s,rp5,e5,q5⟩
theorem IX{op op':CmpOp}{f g:D->D->(9,R)}(ho:ja X (compareOp op) (rD Γ W f))(ho':ja X (compareOp op') (rD Γ W g))(ha:(8,X,W,a,ga))(hb:(8,X,W,b,gb))(hc:(8,X,W,c,gc))
  (hm:lastMarks [op,op'] [b,c]=false:=by with_unfolding_all rfl):(8,X,W,.Compare a [op,op'] [b,c] pos,vB f g ga gb gc):=
 PE.imp (IS ho ho' ha hb hc hm) λ_ _ _ _ _ _ t=>Ih t
end
theorem Pj{H:Hp}{d e:D}{xs:List V}(h:(23,H,[d,e],xs)):∃x y,xs=[x,y]/\dB Γ H d x/\dB Γ H e y:=by
 obtain⟨x,r,e1,q,t⟩:=cb.mp h;obtain⟨y,rfl,q2⟩:=sg t;exact⟨x,y,e1,q,q2⟩
theorem Mu(hc:X.calm=true):dh X (40,"min") (Du Γ W (f2 FS)):=λpins s σ H xs us Q I rs ⟨Hs,ds,r,sm,rl,e,q,tb⟩=>by
 obtain⟨d1,d2,rfl,e⟩:=FM e;obtain⟨x,y,rfl,r1,r2⟩:=Pj rl;obtain⟨i,j,rfl,rfl,e⟩:=dU (f:=λi j=>okI (if j<i then j else i)) (λ_ _=>rfl) e;cases e;exact HG hc pins s σ H _ us Q I rs (9,i,j,by rw[au.mp r1,au.mp r2],gq sm q (au.mpr rfl))
theorem OJ:dh X (40,"abs") (Du Γ W (f1 Q8)):=λpins s σ H xs us Q I rs ⟨Hs,ds,r,sm,rl,e,q,tb⟩=>by
 obtain⟨d,rfl,e⟩:=ox e;obtain⟨x,rfl,rp⟩:=sg rl;cases d with
 |int i=>cases e;exact Kn pins s σ H _ us Q I rs (12,i,by rw[au.mp rp],gq sm q (au.mpr rfl))
 |_=>cases e
theorem Km:dh X (52,"int") (Du Γ W (f1 dInt)):=λpins s σ H xs us Q I rs ⟨Hs,ds,r,sm,rl,e,q,tb⟩=>by
 obtain⟨d,rfl,e⟩:=ox e;obtain⟨x,rfl,rp⟩:=sg rl;cases d with
 |int i=>cases e;exact ym pins s σ H _ us Q I rs (.inl (12,i,by rw[au.mp rp],gq sm q (au.mpr rfl)))
 |bl b=>cases e;exact ym pins s σ H _ us Q I rs (.inr (12,b,by rw[bQ.mp rp],gq sm q (au.mpr rfl)))
 |_=>cases e
theorem OL:bootBuiltins "min" = (6,(40,"min")):=by decide +kernel
theorem OM:bootBuiltins "abs" = (6,(40,"abs")):=by decide +kernel
end
section
variable{X:Cx}{Γ:Ct}{W:XW}
theorem tH(n d:Nat)(o:(9,Int)):HT.sIx n d o=jb n d o:=by cases o <;> rfl
theorem CQ{H:Hp}{ds:[21]}{xs:List V}(rl:(23,H,ds,xs))(lo hi:(9,Int)):(23,H,CS ds lo hi,CP xs lo hi):=by
 unfold CS CP;rw[tH,tH,←rl.length];exact(rl.drop _).take _
def Ny(Γ:Ct)(W:XW):V->(9,Int)->(9,Int)->Hp->VK->Prop:=λv lo hi H Q=>∃Hs d r,ba Hs H/\dB Γ Hs d v/\kb d lo hi=(6,r)/\RQ Γ W Hs H r Q
theorem Ro(hK:X.K=Γ.K):Nd X (Ny Γ W):=λpins s σ H x v vl vu lo hi sl Q I rx hs pl pu ⟨Hs,d,r,sm,rp,e,q⟩=>by
 cases d with
 |tup ds=>
  obtain⟨a,xs,rfl,sq,rl⟩:=cz.mp rp;have e':(if jb ds.length 0 lo=0/\jb ds.length ds.length hi=ds.length then none else okD (20,CS ds lo hi))=(6,r):=e;by_cases hw:jb ds.length 0 lo=0/\jb ds.length ds.length hi=ds.length
  ·rw[(39,hw)] at e';cases e'
  ·rw[(42,hw)] at e';cases e';exact Nt pins s σ H _ v vl vu lo hi sl Q I rx hs pl pu ⟨a,xs,rfl,by rw[hK];exact dq sm sq,by rw[tH,tH,←rl.length];exact hw,λp hp=>yZ sm q (CQ rl lo hi) hp⟩
 |lst ds=>
  obtain⟨a,xs,rfl,sq,rl⟩:=dM.mp rp;cases e;exact L8 pins s σ H _ v vl vu lo hi sl Q I rx hs pl pu ⟨a,xs,rfl,by rw[hK];exact ba.seq sm sq,λp hp=>qC sm q (CQ rl lo hi) hp⟩
 |_=>cases e
def tP(Γ:Ct)(W:XW)(o:(9,ME)):TO:=match o with
 |none=>Fg
 |some g=>MO (tD Γ W g)
abbrev Qo(X:Cx)(Γ:Ct)(W:XW)(e:(9,Expr))(o:(9,ME)):Prop:=PO X e (tP Γ W o)
theorem iU:Qo X Γ W none none:=Ln
theorem iT{e:Expr}{g:ME}(h:(8,X,W,e,g)):Qo X Γ W (6,e) (6,g):=Lm h
theorem xX{o:(9,ME)}{B0 B1 Hs H:Hp}{σ:L2.St}{ρ:MEnv}{k:(9,Int)->(9,R)}{r:R}{Q:VK}(re:RE Γ B0 B1 Hs H σ ρ)(e:J0 o ρ k=(6,r))(q:RQ Γ W Hs H r Q){Q':(9,Int)->Hp->Prop}
  (h:∀i H1 Hs1,Grow Hs H Hs1 H1->RE Γ B0 B1 Hs1 H1 σ ρ->k i=(6,r)->RQ Γ W Hs1 H1 r Q->Q' i H1):tP Γ W o σ H Q':=by
 cases o with
 |none=>exact h none H Hs (.refl re.b.i) re e q
 |some g=>
  have e':bw (g ρ) (λd=>match d with|.int i=>k (6,i)|_=>none)=(6,r):=e
  refine(cH re e' q).mono λv H1 ⟨Hs1,d,g1,re1,rp,e1,q1⟩=>?_;cases d with
  |int i=>exact(12,i,au.mp rp,h (6,i) H1 Hs1 g1 re1 e1 q1)
  |non=>cases e1
  |bl _=>cases e1
  |str _=>cases e1
  |tup _=>cases e1
  |lst _=>cases e1
  |fn _ _=>cases e1
  |obj _ _ _=>cases e1
theorem iV{e:Expr}{g:ME}{lo hi:(9,Expr)}{gl gh:(9,ME)}{pos p2:Pos}(hK:X.K=Γ.K)(he:(8,X,W,e,g))(hl:Qo X Γ W lo gl)(hh:Qo X Γ W hi gh):(8,X,W,.Subscript e (.Slice lo hi none p2) pos,cZ g gl gh):=
 PE.imp (IL (Ro hK) he hl hh) λ_ _ σ H Q _ ⟨B0,B1,Hs,ρ,r,re,e,q⟩=>by
  refine(cH re e q).mono λv H1 ⟨Hs1,d,g1,re1,rp,e1,q1⟩=>?_;refine xX re1 e1 q1 λl H2 Hs2 g2 re2 e2 q2=>?_;refine xX re2 e2 q2 λu H3 Hs3 g3 re3 e3 q3=>?_;exact⟨Hs3,d,r,re3.b.i,(rp.mono g2.s).mono g3.s,e3,q3⟩
theorem qH{a:Expr}{g:ME}{j pos pos'}(h:(8,X,W,a,g)):D6 X Γ W (.Compare a [.IsNot] [.Constant .none j pos'] pos) (kj lG g):=PT.imp (DK (Lw h)) λ_ _ σ H Q _ t=>by
 have t':=B2 t;obtain⟨B0,B1,Hs,ρ,r,re,e,q⟩:=t';refine(cH re e q).mono λv H1 ⟨Hs1,d,g1,re1,rp,e1,q1⟩=>?_;cases d with
 |non=>cases e1;rw[ff.mp rp];exact q1 _ Hs1 H1 (.refl re1.b.i) (fG.of (bQ.mpr rfl))
 |bl _=>cases e1;rw[bQ.mp rp];exact q1 _ Hs1 H1 (.refl re1.b.i) (fG.of (bQ.mpr rfl))
 |int _=>cases e1;rw[au.mp rp];exact q1 _ Hs1 H1 (.refl re1.b.i) (fG.of (bQ.mpr rfl))
 |str _=>cases e1;rw[dJ.mp rp];exact q1 _ Hs1 H1 (.refl re1.b.i) (fG.of (bQ.mpr rfl))
 |tup _=>cases e1;obtain⟨a,_,rfl,_⟩:=cz.mp rp;exact q1 _ Hs1 H1 (.refl re1.b.i) (fG.of (bQ.mpr rfl))
 |lst _=>cases e1;obtain⟨a,_,rfl,_⟩:=dM.mp rp;exact q1 _ Hs1 H1 (.refl re1.b.i) (fG.of (bQ.mpr rfl))
 |fn _ _=>cases e1;obtain⟨a,_,rfl,_⟩:=IB.mp rp;exact q1 _ Hs1 H1 (.refl re1.b.i) (fG.of (bQ.mpr rfl))
 |obj _ _ _=>cases e1;obtain⟨a,_,_,rfl,_⟩:=qD.mp rp;exact q1 _ Hs1 H1 (.refl re1.b.i) (fG.of (bQ.mpr rfl))
end
theorem insD_mem(k x:Int):∀l:List Int,x∈rP k l↔x=k\/x∈l
 |[]=>by simp[rP]
 |y::r=>by
  unfold rP;split
  ·simp
  ·split
   ·rename_i h;subst h;simp
   ·rw[mem_cons,insD_mem k x r,mem_cons];constructor
    ·rintro (h|h|h) <;> simp[h]
    ·rintro (h|h|h) <;> simp[h]
theorem FK(k:Int):∀l:List Int,l.Pairwise (· < ·)->(rP k l).Pairwise (· < ·)
 |[],_=>by simp[rP]
 |y::r,h=>by
  obtain⟨h1,h2⟩:=pairwise_cons.mp h;unfold rP;split
  ·rename_i hk;refine pairwise_cons.mpr (5,λz hz=>?_,h);rcases mem_cons.mp hz with rfl|hz
   ·exact hk
   ·have:=h1 z hz;omega
  ·split
   ·exact h
   ·refine pairwise_cons.mpr (5,λz hz=>?_,FK k r h2);rcases(insD_mem k z r).mp hz with rfl|hz
    ·omega
    ·exact h1 z hz
theorem sortD_mem(x:Int):∀l:List Int,x∈mL l↔x∈l
 |[]=>by simp[mL]
 |y::r=>by
  show x∈rP y (mL r)↔_;rw[insD_mem,sortD_mem x r,mem_cons]
theorem B5:∀l:List Int,(mL l).Pairwise (· < ·)
 |[]=>by simp[mL]
 |y::r=>FK y _ (B5 r)
theorem y6:∀{l m:[22]},l.Pairwise (· < ·)->m.Pairwise (· < ·)->(∀x,x∈l↔x∈m)->l=m
 |[],[],_,_,_=>rfl
 |[],y::m,_,_,h=>by have:=(h y).mpr (mem_cons_self);cases this
 |x::l,[],_,_,h=>by have:=(h x).mp (mem_cons_self);cases this
 |x::l,y::m,h1,h2,h=>by
  obtain⟨a1,a2⟩:=pairwise_cons.mp h1;obtain⟨b1,b2⟩:=pairwise_cons.mp h2;have e:x=y:=by
   have p:=(h x).mp mem_cons_self;have q:=(h y).mpr mem_cons_self;rcases mem_cons.mp p with e|p
   ·exact e
   ·rcases mem_cons.mp q with e|q
    ·exact e.symm
    ·have:=b1 x p;have:=a1 y q;omega
  subst e;congr 1;refine y6 a2 b2 λz=>(5,λhz=>?_,λhz=>?_)
  ·rcases mem_cons.mp ((h z).mp (mem_cons_of_mem _ hz)) with rfl|q
   ·have:=a1 z hz;omega
   ·exact q
  ·rcases mem_cons.mp ((h z).mpr (mem_cons_of_mem _ hz)) with rfl|q
   ·have:=b1 z hz;omega
   ·exact q
theorem Gf{ns ks l:[22]}(hm:∀n,n∈ks↔n∈ns)(nd:ks.Nodup)(pm:l.Perm ks)(so:l.Pairwise (·<=·)):l=mL ns:=by
 refine y6 ?_ (B5 ns) λx=>by rw[sortD_mem,←hm,pm.mem_iff]
 have nd':l.Nodup:=pm.nodup_iff.mpr nd;have h:=List.Pairwise.and so nd';exact h.imp λ{a b} ⟨h1,h2⟩=>by omega
section
variable{X:Cx}{Γ:Ct}{W:XW}
theorem Ma{ns:[22]}(h:fewD ns=true):few ns:=by
 unfold fewD at h;simp only[Bool.and_eq_true,decide_eq_true_eq,all_eq_true] at h;exact(5,h.1,λn hn=>by simpa using h.2 n hn)
theorem zd{a:Expr}{g:ME}{p p' pos' pos:Pos}(hK:X.K=Γ.K)(hc:X.calm=true)(hg:Gl X "sorted")(hm:X.mg "sorted" = none)(hg2:Gl X "set")(hm2:X.mg "set" = none)(ha:(8,X,W,a,g))
  (hs1:(7,[a])=(false,(16,a))::(7,[]):=by rfl) (hpl:(10,pos',[]).any (·.1)=false:=by rfl)
  (hs3:(7,[(15,(6,"set",p'),[a],pos')])=(false,(16,(15,(6,"set",p'),[a],pos')))::(7,[]):=by rfl) (hpl2:(10,pos,[]).any (·.1)=false:=by rfl):
  (8,X,W,(15,(6,"sorted",p),[(15,(6,"set",p'),[a],pos')],pos),kj vE g):=
 PE.imp (mS (Am hc) hg hm Ap (cS (o7 (HF hc) hg2 hm2 HI (cS ha iu hs1) [12] [12] hs1 hpl) iu hs3) [12] [12] hs3 hpl2) λ_ _ σ H Q _ ⟨B0,B1,Hs,ρ,r,re,e,q⟩=>by
  refine(cH re e q).mono λv H1 ⟨Hs1,d,g1,re1,rp,e1,q1⟩=>?_;cases d with
  |lst ds=>
   have e1:(intsOf ds).bind (λns=>if fewD ns=true then okL ((mL ns).map D.int) else none)=(6,r):=e1;cases hi:intsOf ds with
   |none=>rw[hi] at e1;cases e1
   |some ns=>
    rw[hi] at e1;obtain⟨hf,rfl⟩:=cf (c:=fewD ns=true) e1;obtain⟨b,xs,rfl,sq,rl⟩:=dM.mp rp;have ex:=rl.intsOf hi;subst ex;have fw:=Ma hf;have sm:=re1.b.i;refine⟨b,ns,rfl,by rw[hK];exact ba.seq sm sq,fw,λa ks ha hm nd=>?_⟩
    refine⟨a,ks,rfl,aH,?_,λl ms hl pm so=>?_⟩
    ·have:ks.length<=ns.length:=List.Nodup.length_le_of_subset nd λx hx=>(hm x).mp hx;have:=fw.1;omega
    ·have hl1:H1 l=none:=(cq ha).free hl;have ems:=Gf hm nd pm so;subst ems;exact q1 _ Hs1 _ (.only sm ((cq ha).trans (cq hl))) ⟨l,_,rfl,hl1,sm.free hl1,aH,_,rfl,RepL.ints _⟩
  |_=>cases e1
end
theorem Cy{Γ:Ct}{H:Hp}{f:Str}:∀{ns:[16]}{ds:[21]}{xs:List V}{d:D},(23,H,ds,xs)->Ae f ns ds=(6,d)->∃v,(ns.zip xs).lookup f=(6,v)/\dB Γ H d v
 |[],ds,xs,d,_,e=>by cases ds <;> cases e
 |n::ns,[],xs,d,_,e=>by cases e
 |n::ns,d0::ds,xs,d,r,e=>by
  obtain⟨x,r',rfl,q,t⟩:=cb.mp r;unfold Ae at e;rw[zip_cons_cons,lookup_cons];cases h:(f == n) with
  |true=>rw[h] at e;rw[(39,rfl)] at e;cases e;exact(12,x,rfl,q)
  |false=>rw[h] at e;rw[(42,[33])] at e;exact Cy t e
theorem jd{m:Str}:∀{ns:[16]}{xs:List V},ns.contains m=false->(ns.zip xs).lookup m=none
 |[],xs,_=>by cases xs <;> rfl
 |n::ns,[],_=>rfl
 |n::ns,x::xs,h=>by
  rw[List.contains_cons,Bool.or_eq_false_iff] at h;rw[zip_cons_cons,lookup_cons,h.1];exact jd h.2
section
variable{X:Cx}{Γ:Ct}{W:XW}{e o:Expr}{es:List Expr}{g go:ME}{gs:List ME}{f m x:Str}{p pos apos:Pos}
theorem kT{cs:List String}(hK:X.K=Γ.K)(hC:∀c∈cs,l3 Γ.K (Γ.cls c)/\cL Γ.K (Γ.cls c) f)(he:(8,X,W,e,g))(hb:attributeBase e f X.env (16,e)=(16,e):=by rfl):(8,X,W,.Attribute e f pos,kj (qV cs f) g):=
 PE.imp (NS he hb) λ_ _ σ H Q _ ⟨B0,B1,Hs,ρ,r,re,e,q⟩=>by
  refine(cH (k:=qV cs f) re e q).mono λv H1 ⟨Hs1,d,g1,re1,rp,e1,q1⟩=>?_;cases d with
  |obj c ns ds=>
   unfold qV at e1;by_cases hc:cs.contains c=true
   ·simp only[(39,hc)] at e1;cases hf:Ae f ns ds with
    |none=>rw[hf] at e1;cases e1
    |some d'=>
     rw[hf] at e1;cases e1;obtain⟨a,dx,xs,rfl,ea,rl⟩:=qD.mp rp;obtain⟨v',hl,rv⟩:=Cy rl hf;obtain⟨c1,c2⟩:=hC c (by simpa using hc)
     exact⟨a,_,dx,_,v',rfl,re1.b.i _ _ ea,hK▸c1,hK▸c2,hl,q1 v' Hs1 H1 (.refl re1.b.i) (fG.of rv)⟩
   ·simp only[(42,hc)] at e1;cases e1
  |_=>cases e1
end
def cM(P:Program)(w:World)(K:Frag)(mg:Str->[26])(base:Heap)(Γ:Ct)(k:Nat)(m:Str)(ps:[16])(F:([21])->(9,R))(cs:List String):Prop:=
 ∃f fd,dE P w K mg base rn k f fd ps (KC Γ W0 F)/\dj K fd ps []/\∀c∈cs,l3 K (Γ.cls c)/\OX K (Γ.cls c) m f
def D4(X:Cx)(Γ:Ct)(m:Str)(tb:String->(9,(([21])->(9,R)))):Prop:=
 ∀c F,tb c=(6,F)->∃k ps cs,c∈cs/\cM X.prog X.w X.K X.mg X.base Γ k m ps F cs/\cG k X.A
def u9:String->(9,(([21])->(9,R))):=λ_=>none
def Av(cs:List String)(F:([21])->(9,R))(t:String->(9,(([21])->(9,R)))):String->(9,(([21])->(9,R))):=λc=>if cs.contains c=true then(6,F) else t c
section
variable{X:Cx}{Γ:Ct}{e o:Expr}{es:List Expr}{g go:ME}{gs:List ME}{f m x:Str}{p pos apos:Pos}{tb:String->Option (List D->Option R)}
theorem fb:D4 X Γ m u9:=λ_ _ h=>nomatch h
theorem ck{k:Nat}{ps:[16]}{F:([21])->(9,R)}{cs:List String}(h:cM X.prog X.w X.K X.mg X.base Γ k m ps F cs)(r:cG k X.A)(t:D4 X Γ m tb):D4 X Γ m (Av cs F tb):=λc G e=>by
 unfold Av at e;by_cases hc:cs.contains c=true
 ·rw[(39,hc)] at e;cases e;exact⟨k,ps,cs,by simpa using hc,h,r⟩
 ·rw[(42,hc)] at e;exact t c G e
theorem vx{d:D}{ρ:MEnv}{r:R} (h:(match d with
 |.obj c ns ds=>if ns.contains m=true then none else(match tb c with
  |some F=>bx gs ρ λvs=>F (.obj c ns ds::vs)
  |none=>none)
 |_=>none)=(6,r)):∃c ns ds F,d=.obj c ns ds/\ns.contains m=false/\tb c=(6,F)/\bx gs ρ (λvs=>F (.obj c ns ds::vs))=(6,r):=by
 cases d with
 |obj c ns ds=>
  dsimp only at h;cases hn:ns.contains m with
  |true=>rw[hn,(39,rfl)] at h;cases h
  |false=>
   rw[hn,(42,[33])] at h;cases ht:tb c with
   |none=>rw[ht] at h;cases h
   |some F=>rw[ht] at h;exact⟨c,ns,ds,F,rfl,hn,ht,h⟩
 |_=>cases h
theorem g8{pl:Sem Bool}(T:D4 X Γ m tb)(he:(8,X,W0,o,go))(ha:qc X Γ W0 (e::es) gs)
  (hst:(7,(e::es))=(false,(16,e))::(7,es):=by rfl) (hpl:(10,pos,es).any (·.1)=false:=by rfl)
  (ht:(16,(15,.Attribute o m apos,(e::es),pos))=(do
   let ov ←eval o X.env
   standAt apos.atName
   let (f,first) ←holding [ov] (getMethod ov m pl)
   callWith pos f first (10,pos,(e::es)) (backToKw pos (keywordEach [] X.env))):=by rfl):
  (8,X,W0,(15,.Attribute o m apos,(e::es),pos),eh m tb go gs):=by
 intro pins s σ H Q I ⟨B0,B1,Hs,ρ,r,re,e0,q⟩;refine methodCall_KW (pl:=pl) (df (he pins s σ H _ I (cH re e0 q)) λu s1 ⟨x,H1,I1,rx,Hs1,d,g1,re1,rp,e1,q1⟩=>?_) ht;obtain⟨c,ns,ds,F,rfl,hn,htb,e2⟩:=vx e1;obtain⟨a,dx,xs,rfl,ea,rl⟩:=qD.mp rp;obtain rfl:u=Value.ref a:=rx;obtain⟨k,ps,cs,hc,⟨f,fd,G,hb,hcs⟩,hr⟩:=T c F htb;obtain⟨c1,c2⟩:=hcs c hc;refine vr I1 (re1.b.i _ _ ea) c1 c2 (jd hn) ?_;refine PySem.W.callWith_K (first:=[(10,a)]) (h₀:=X.base) I.ok.mod.kin c2.kp (df (ha pos pins s1 σ H1 _ I1 (oC gs re1 e2 q1)) λus s2 ⟨vs,H2,I2,rr,Hs2,ds2,g2,re2,rps,e3,q2⟩=>(5,I2.kIn,?_)) hst hpl
 exact yX (E:=E0) (dvs:=[]) (us:=(10,a)::us) (vs:=(10,a)::vs) G hr hb .nil xW I2 (.cons rfl rr) ⟨Hs2,.obj c ns ds::ds2,r,re2.b.i,by rw[append_nil];exact .cons (rp.mono g2.s) rps,e3,q2,re2.tb⟩
theorem Bn{pl:Sem Bool}(T:D4 X Γ m tb)(he:(8,X,W0,o,go))
  (ht:(16,(15,.Attribute o m apos,[],pos))=(do
   let ov ←eval o X.env
   standAt apos.atName
   let (f,first) ←holding [ov] (getMethod ov m pl)
   callWith pos f first (10,pos,[]) (backToKw pos (keywordEach [] X.env))):=by rfl):
  (8,X,W0,(15,.Attribute o m apos,[],pos),eh m tb go []):=by
 intro pins s σ H Q I ⟨B0,B1,Hs,ρ,r,re,e0,q⟩;refine methodCall_KW (pl:=pl) (df (he pins s σ H _ I (cH re e0 q)) λu s1 ⟨x,H1,I1,rx,Hs1,d,g1,re1,rp,e1,q1⟩=>?_) ht;obtain⟨c,ns,ds,F,rfl,hn,htb,e2⟩:=vx e1;obtain⟨a,dx,xs,rfl,ea,rl⟩:=qD.mp rp;obtain rfl:u=Value.ref a:=rx;obtain⟨k,ps,cs,hc,⟨f,fd,G,hb,hcs⟩,hr⟩:=T c F htb;obtain⟨c1,c2⟩:=hcs c hc;refine vr I1 (re1.b.i _ _ ea) c1 c2 (jd hn) ?_;exact PySem.W.callWith_K0 (first:=[(10,a)]) I1.kIn c2.kp (yX (E:=E0) (dvs:=[]) (us:=[(10,a)]) (vs:=[(10,a)]) G hr hb .nil xW I1 (.cons rfl .nil) ⟨Hs1,[.obj c ns ds],r,re1.b.i,.cons rp .nil,e2,q1,re1.tb⟩)
end
structure kh(a:Addr)(Hs H Hs' H':Hp):Prop where
 s:ba Hs Hs'
 h:∀b o,b≠a->H b=(6,o)->H' b=(6,o)
 i:ba Hs' H'
 n:∀b o,Hs' b=(6,o)->Hs b=(6,o)\/H b=none
theorem Grow.x{a:Addr}{Hs H Hs' H':Hp}(g:Grow Hs H Hs' H'):kh a Hs H Hs' H':=(9,g.s,λb o _ e=>g.h b o e,g.i,g.n)
theorem kh.trans{a:Addr}{Hs H Hs1 H1 Hs2 H2:Hp}(x:kh a Hs H Hs1 H1)(y:kh a Hs1 H1 Hs2 H2)(ha:Hs1 a=none)(hb:∃o,H1 a=(6,o)):kh a Hs H Hs2 H2:=
 ⟨x.s.trans y.s,λb o hb e=>y.h b o hb (x.h b o hb e),y.i,λb o e=>by
  rcases y.n b o e with z|z
  ·exact x.n b o z
  ·by_cases hba:b=a
   ·subst hba;obtain⟨o',ho'⟩:=hb;rw[ho'] at z;cases z
   ·right;cases q:H b with
    |none=>rfl
    |some u=>rw[x.h b u hba q] at z;cases z⟩
theorem kh.none{a:Addr}{Hs H Hs' H':Hp}(g:kh a Hs H Hs' H'){ho:HO}(h:Hs a=Option.none)(h':H a=(6,ho)):Hs' a=Option.none:=by
 cases q:Hs' a with
 |none=>rfl
 |some u=>
  rcases g.n a u q with z|z
  ·rw[h] at z;cases z
  ·rw[h'] at z;cases z
inductive QC(Γ:Ct)(F:i9)(vs:List V)(H:Hp)(Q:VK)(E:XK):Prop
 |mk (a:Addr) (xs:List V) (Hs:Hp) (o:O) (ho:HO) (ds:[21]) (o':O) (ev:vs=(10,a)::xs) (sm:ba Hs H) (hs:Hs a=none) (hh:H a=(6,ho)) (ro:rW Γ Hs o ho) (rl:(23,Hs,ds,xs)) (e:F o ds=(6,o'))
  (q:∀Hs' H' ho',kh a Hs H Hs' H'->H' a=(6,ho')->rW Γ Hs' o' ho'->Q .non H') (tb:ba Γ.tb Hs)
structure cN(P:Program)(w:World)(K:Frag)(mg:Str->Option Value)(base:Heap)(Γ:Ct)(k:Nat)(c:String)(x:Str)(ps:List Str)(F:i9):Prop where
 ex:∃f fd,dE P w K mg base rn k f fd ps (QC Γ F)/\dj K fd ps []/\(7,K,f)=true/\Mk K (Γ.cls c) f/\findCls K (10,Γ.cls c) (52,"type") "__init__" = (6,.val (10,f))
 at_:mg x=(6,(10,Γ.cls c))
 sp:specialIn K (10,Γ.cls c) "__getattribute__" = (21,(40,"type.__getattribute__"))
 rd:readsIn K (Γ.cls c) (52,"type")=true
section
variable{X:Cx}{Γ:Ct}{e o:Expr}{es:List Expr}{g go:ME}{gs:List ME}{f m x:Str}{p pos apos:Pos}{k:Nat}{c:String}{ps:List Str}{F:i9}
theorem EK{ds:[21]}{r:R} (h:(match F (.obj c [] []) ds with
 |some o=>(6,R.ok (49,o))
 |none=>none)=(6,r)):∃o,F (.obj c [] []) ds=(6,o)/\r=.ok (49,o):=by
 cases q:F (.obj c [] []) ds with
 |none=>rw[q] at h;cases h
 |some o=>rw[q] at h;cases h;exact(14,o,rfl)
theorem FF{Hs H:Hp}{ds:[21]}{vs:List V}{r:R}{Q:VK}(sm:ba Hs H)(rl:(23,Hs,ds,vs)) (e:(match F (.obj c [] []) ds with
 |some o=>(6,R.ok (49,o))
 |none=>none)=(6,r)) (q:RQ Γ W0 Hs H r Q) (tb:ba Γ.tb Hs):∀x dx,H x=none->H dx=none->dx≠x->
  QC Γ F ((10,x)::(vs++[])) (cA (cA H dx (49,x)) x (.ins (Γ.cls c) dx [])) (λv H2=>v=.non/\Q (10,x) H2) E0:=by
 intro x dx hx hd ne;obtain⟨o,eo,rfl⟩:=EK e;have hxs:Hs x=none:=sm.free hx;have hds:Hs dx=none:=sm.free hd;refine⟨x,vs,Hs,.obj c [] [],_,ds,o,by rw[append_nil],λb u z=>?_,hxs,aH,(9,dx,[],rfl,.nil),rl,eo,λHs' H' ho' gx e' ro=>(5,rfl,?_),tb⟩
 ·rw[aE (aZ z hxs),aE (aZ z hds)];exact sm _ _ z
 ·have g:Grow Hs H Hs' H':=⟨gx.s,λb u z=>gx.h b u (aZ z hx) (by rw[aE (aZ z hx),aE (aZ z hd)];exact z),gx.i,λb u z=>by
   rcases gx.n b u z with y|y
   ·exact .inl y
   ·right;by_cases hb:b=x
    ·subst hb;exact hx
    ·rw[aE hb] at y;by_cases hb':b=dx
     ·subst hb';exact hd
     ·rw[aE hb'] at y;exact y⟩
  exact q (10,x) Hs' H' g ⟨x,ho',rfl,hx,gx.none hxs aH,e',ro⟩
theorem m9(h:cN X.prog X.w X.K X.mg X.base Γ k c x ps F)(hr:cG (k+1) X.A)(hg:Gl X x)(ha:qc X Γ W0 (e::es) gs)(hdb:(x == ("__debug__":Str))=false:=by decide)(he:(7,(e::es))=(false,(16,e))::(7,es):=by rfl)
  (hpl:(10,pos,es).any (·.1)=false:=by rfl):(8,X,W0,(15,(6,x,p),(e::es),pos),ic c F gs):=by
 obtain⟨f,fd,G,hb,_,M,_⟩:=h.ex;exact PE.imp (Lp (E:=E0) (dvs:=[]) (ds:=[]) M G hr hg h.at_ hb .nil xW ha hdb he hpl) λ_ _ σ H Q _ ⟨B0,B1,Hs,ρ,r,re,e,q⟩=>by
  exact dn gs (λvs H1 ⟨Hs1,ds,_,re1,rp,e1,q1⟩=>FF re1.b.i rp e1 q1 re1.tb) (oC gs re e q)
theorem IT(h:cN X.prog X.w X.K X.mg X.base Γ k c x ps F)(hr:cG (k+1) X.A)(hg:Gl X x)(hdb:(x == ("__debug__":Str))=false:=by decide):(8,X,W0,(15,(6,x,p),[],pos),ic c F []):=by
 obtain⟨f,fd,G,hb,_,M,_⟩:=h.ex;exact PE.imp (IM (E:=E0) (dvs:=[]) (ds:=[]) M G hr hg h.at_ hb .nil xW hdb) λ_ _ σ H Q _ ⟨B0,B1,Hs,ρ,r,re,e,q⟩=>by
  exact FF re.b.i .nil e q re.tb
end
inductive tX(Γ:Ct)(g:MG)(D:tm)(σ:L2.St)(H:Hp):Prop
 |mk (a:Addr) (B0 B1 Hs:Hp) (ρ:MEnv) (o:O) (ho:HO) (o':O) (re:RE Γ B0 B1 Hs H σ ρ) (hb:B1 a=none) (no:∀(i:Nat)(u:O),ρ[i]?≠(21,(49,u))) (h0:σ[0]?=(27,a)) (hs:Hs a=none) (hh:H a=(6,ho)) (ro:rW Γ Hs o ho) (e:g ρ o=(6,o'))
  (q:∀Hs' H' ho',kh a Hs H Hs' H'->H' a=(6,ho')->rW Γ Hs' o' ho'->D.nx σ H')
abbrev QY(X:Cx)(Γ:Ct)(st:Stmt)(g:MG):Prop:=PS X st (tX Γ g)
abbrev Kw(X:Cx)(Γ:Ct)(st:List Stmt)(g:MG):Prop:=sI X st (tX Γ g)
theorem RE.growX{Γ:Ct}{B0 B1 Hs H Hs' H':Hp}{σ:L2.St}{ρ:MEnv}{a:Addr}(r:RE Γ B0 B1 Hs H σ ρ)(g:kh a Hs H Hs' H')(hb:B1 a=none)(no:∀(i:Nat)(u:O),ρ[i]?≠(21,(49,u)))(hs:Hs a=none):RE Γ B0 B1 Hs' H' σ ρ where
 tb:=r.tb.trans g.s
 b:=⟨r.b.s.trans g.s,λb o e=>g.h b o (aZ e hb) (r.b.h b o e),g.i,λb o e=>by
  rcases g.n b o e with z|z
  ·exact r.b.n b o z
  ·exact .inr (r.b.h.free z)⟩
 sh:=λi d e=>let ⟨v,e1,q⟩:=r.sh i d e;(12,v,e1,q.mono g.s)
 own:=λi o e=>absurd e (no i o)
 apart:=r.apart
 len:=r.len
section
variable{X:Cx}{Γ:Ct}{st:Stmt}{rest:List Stmt}{g h:MG}{e o:Expr}{es:List Expr}{ge:ME}{gs:List ME}{f m x y:Str}{p px pos pos' apos cpos:Pos}{k:Nat}{c:String}{ps:List Str}{F:i9}
theorem gN:Kw X Γ [] mB:=sI.imp Fp λD σ H ⟨a,B0,B1,Hs,ρ,o,ho,o',re,hb,no,h0,hs,hh,ro,e,q⟩=>by
 cases e;exact q Hs H ho (Grow.x (.refl re.b.i)) hh ro
theorem cY(h1:QY X Γ st g)(h2:Kw X Γ rest h):Kw X Γ (st::rest) (hU g h):=sI.imp (Bl h1 h2) λD σ H ⟨a,B0,B1,Hs,ρ,o,ho,o',re,hb,no,h0,hs,hh,ro,e,q⟩=>by
 unfold hU at e;cases z:g ρ o with
 |none=>rw[z] at e;cases e
 |some o1=>
  rw[z] at e;refine⟨a,B0,B1,Hs,ρ,o,ho,o1,re,hb,no,h0,hs,hh,ro,z,λHs' H' ho' gx hh' ro'=>?_⟩;exact⟨a,B0,B1,Hs',ρ,o1,ho',o',re.growX gx hb no hs,hb,no,h0,gx.none hs hh,hh',ro',e,λHs2 H2 ho2 gx2 hh2 ro2=>q Hs2 H2 ho2 (gx.trans gx2 (gx.none hs hh) (5,_,hh')) hh2 ro2⟩
theorem Bk{H:Hp}{y:V}{d:D}(q:dB Γ H d y):∀{ns:[16]}{ds:[21]}{xs:List V},ns.length=ds.length->(23,H,ds,xs)->∃xs',mQ f y (ns.zip xs)=(putN f ns).zip xs'/\(23,H,Gx f d ns ds,xs')
 |[],ds,xs,hl,r=>by
  refine(12,[y],?_,.cons q .nil);cases xs <;> rfl
 |n::ns,[],xs,hl,r=>by cases hl
 |n::ns,d0::ds,xs,hl,r=>by
  obtain⟨x,r',rfl,qx,t⟩:=cb.mp r;unfold putN Gx;rw[zip_cons_cons];by_cases hn:n=f
  ·rw[(39,hn),(39,hn)];refine(12,y::r',?_,.cons q t);show(if n=f then _ else _)=_;rw[(39,hn)];rfl
  ·rw[(42,hn),(42,hn)];obtain⟨xs',e1,e2⟩:=Bk q (Nat.succ.inj hl) t;refine(12,x::xs',?_,.cons qx e2);show(if n=f then _ else _)=_;rw[(42,hn),e1];rfl
theorem EB{cs:List String}{ρ:MEnv}{o o':O}(h:oX cs f ge ρ o=(6,o')):∃s c ns ds,ge ρ=(36,s)/\o=.obj c ns ds/\c∈cs/\ns.length=ds.length/\ns.length<900/\o'=.obj c (putN f ns) (Gx f s.val ns ds):=by
 unfold oX at h;split at h
 ·rename_i s c ns ds e1;obtain⟨⟨h1,h2,h3⟩,h4⟩:=cf h;exact⟨s,c,ns,ds,e1,rfl,by simpa using h1,h2,h3,h4.symm⟩
 ·cases h
theorem uR{cs:List String}(hK:X.K=Γ.K)(hC:∀c∈cs,l3 Γ.K (Γ.cls c)/\cL Γ.K (Γ.cls c) f)(hv:PE X (6,x,px) (lL 0))(he:(8,X,W0,e,ge))(hs:(21,e,(6,(6,x,px,f,pos')),pos.line)=pure false:=by rfl):QY X Γ (.Assign [(6,x,px,f,pos')] e pos) (oX cs f ge):=
 PS.imp (NI hv he hs) λ_ _ σ H En _ ⟨a,B0,B1,Hs,ρ,o,ho,o',re,hb,no,h0,hs0,hh,ro,e,q⟩=>by
  obtain⟨s,c,ns,ds,e1,rfl,hc,hl,h9,rfl⟩:=EB e;refine⟨B0,B1,Hs,ρ,_,re,e1,λv Hs' H' g' rs=>?_⟩;obtain⟨Hs2,g2,_,rp⟩:=rs.share g';obtain⟨dx,xs,rfl,rl⟩:=ro;obtain⟨c1,c2⟩:=hC c hc;obtain⟨xs',e2,r2⟩:=Bk (f:=f) rp hl (rl.mono g2.s);have hs2:Hs2 a=none:=g2.none hs0 hh;refine⟨(10,a),h0,a,_,dx,_,rfl,g2.h _ _ hh,hK▸c1,hK▸c2,?_,?_⟩
  ·rw[List.length_zip];exact Nat.lt_of_le_of_lt (Nat.min_le_left _ _) (lt_trans h9 [12])
  ·refine q Hs2 _ _ (9,g2.s,λb u hb e=>?_,λb u e=>?_,g2.n) aH (9,dx,xs',by rw[e2],r2)
   ·rw[aE hb];exact g2.h _ _ e
   ·rw[aE (aZ e hs2)];exact g2.i _ _ e
theorem mv:∀(gs:List ME){B0 B1 Hs H:Hp}{σ:L2.St}{ρ:MEnv}{ds:[21]},RE Γ B0 B1 Hs H σ ρ->bF gs ρ=(6,ds)->sF Γ W0 gs σ H (λvs H1=>∃Hs1,Grow Hs H Hs1 H1/\(23,Hs1,ds,vs))
 |[],B0,B1,Hs,H,σ,ρ,ds,re,e=>by
  cases e;exact(12,Hs,.refl re.b.i,.nil)
 |g::gs,B0,B1,Hs,H,σ,ρ,ds,re,e=>by
  unfold bF at e;split at e
  ·rename_i s hs;cases z:bF gs ρ with
   |none=>rw[z] at e;cases e
   |some ds'=>
    rw[z] at e;cases e;refine⟨B0,B1,Hs,ρ,_,re,hs,λv Hs' H' g' rs=>?_⟩;obtain⟨Hs2,g2,_,rp⟩:=rs.share g';refine dn gs (λvs H2 ⟨Hs3,g3,rl⟩=>?_) (mv gs (re.grow g2) z);exact(12,Hs3,g2.trans g3,.cons (rp.mono g3.s) rl)
  ·cases e
theorem Ls{t:TA}{pl:Sem Bool}{fa:Addr}{fd:FuncData}{sp:Sp}{C:Addr}(G:dE X.prog X.w X.K X.mg X.base rn k fa fd ps sp)(hb:dj X.K fd ps [])(hk:(7,X.K,fa)=true)(hf:findCls X.K (10,C) (52,"type") m=(6,.val (10,fa)))
  (hm:X.mg x=(6,(10,C))) (hsp:specialIn X.K (10,C) "__getattribute__" = (21,(40,"type.__getattribute__"))) (hrd:readsIn X.K C (52,"type")=true) (hr:cG k X.A) (hg:Gl X x) (ha:PA X (e::es) t)
  (hdb:(x == ("__debug__":Str))=false:=by decide) (hst:(7,(e::es))=(false,(16,e))::(7,es):=by rfl) (hpl:(10,pos,es).any (·.1)=false:=by rfl)
  (ht:(16,(15,(6,x,p,m,apos),(e::es),pos))=(do
   let ov ←eval (.Name x p) X.env
   standAt apos.atName
   let (f,first) ←holding [ov] (getMethod ov m pl)
   callWith pos f first (10,pos,(e::es)) (backToKw pos (keywordEach [] X.env))):=by rfl):
  PE X (15,(6,x,p,m,apos),(e::es),pos) (MR sp [] E0 t):=by
 intro pins s σ H Q I h;refine methodCall_KW (pl:=pl) (mh I hg hm ?_ hdb) ht;refine PySem.W.method_cls I.kIn hsp (PySem.W.cls_value I.kIn hrd hf (by rfl) ?_)
 have I1:=I.tok (s.toks+1);refine PySem.W.callWith_K (first:=[]) (h₀:=X.base) I.ok.mod.kin hk (df (ha pos pins _ σ H _ I1 h) λus s2 ⟨vs,H2,I2,rr,q2⟩=>(5,I2.kIn,?_)) hst hpl
 exact yX (E:=E0) (ds:=[]) (dvs:=[]) G hr hb .nil xW I2 rr q2
theorem iK{pl:Sem Bool}(h:cN X.prog X.w X.K X.mg X.base Γ k c x ps F)(hr:cG k X.A)(hg:Gl X x)(hv:PE X (6,y,px) (lL 0))(ha:qc X Γ W0 es gs)
  (hsw:(21,(15,(6,x,p,"__init__",apos),((6,y,px)::es),cpos),none,pos.line)=pure false:=by rfl)
  (hdb:(x == ("__debug__":Str))=false:=by decide) (hst:(7,((6,y,px)::es))=(false,(16,(6,y,px)))::(7,es):=by rfl) (hpl:(10,cpos,es).any (·.1)=false:=by rfl)
  (ht:(16,(15,(6,x,p,"__init__",apos),((6,y,px)::es),cpos))=(do
   let ov ←eval (.Name x p) X.env
   standAt apos.atName
   let (f,first) ←holding [ov] (getMethod ov "__init__" pl)
   callWith cpos f first (10,cpos,((6,y,px)::es)) (backToKw cpos (keywordEach [] X.env))):=by rfl):
  QY X Γ (.Expr (15,(6,x,p,"__init__",apos),((6,y,px)::es),cpos) pos) (ji F gs):=by
 obtain⟨fa,fd,G,hb,hk,M,hf⟩:=h.ex;exact PS.imp (tK (Ls (pl:=pl) G hb hk hf h.at_ h.sp h.rd hr hg (cS hv ha hst) hdb hst hpl ht) hsw) λ_ _ σ H En _ ⟨a,B0,B1,Hs,ρ,o,ho,o',re,hb,no,h0,hs0,hh,ro,e,q⟩=>by
  unfold ji at e;cases z:bF gs ρ with
  |none=>rw[z] at e;cases e
  |some ds=>
   rw[z] at e;refine(12,(10,a),h0,dn gs (λvs H1 ⟨Hs1,g1,rl⟩=>?_) (mv gs re z));refine⟨a,vs,Hs1,o,ho,ds,o',by rw[append_nil],g1.i,g1.none hs0 hh,g1.h _ _ hh,ro.mono g1.s,rl,e,λHs' H' ho' gx hh' ro'=>?_,re.tb.trans g1.s⟩
   exact q Hs' H' ho' (kh.trans (Grow.x g1) gx (g1.none hs0 hh) (5,_,g1.h _ _ hh)) hh' ro'
end
theorem Gv{Γ:Ct}{Hs H:Hp}(sm:ba Hs H){N:[16]}{ds:[21]}{vs:List V}{v0:V}(hN:0<N.length)(rl:(23,Hs,ds,vs))(tb:ba Γ.tb Hs):RE Γ Hs Hs Hs H (L2.start N (v0::vs)) (none::bX (N.length - 1) ds):=by
 have q:=qF (Γ:=Γ) sm (N:=N.tail) rl tb;have e1:L2.start N (v0::vs)=(6,v0)::L2.start N.tail vs:=by
  unfold L2.start;rw[map_cons,length_cons,List.length_tail,cons_append];congr 3;omega
 have e2:N.tail.length=N.length - 1:=List.length_tail;rw[e2] at q;rw[e1];refine⟨(9,.refl _,sm,sm,λ_ _ z=>.inl z),λi d e=>?_,λi o e=>?_,λi j o u a ij e f=>?_,by rw[length_cons,length_cons,q.len],tb⟩
 ·cases i with
  |zero=>cases e
  |succ i=>exact q.sh i d e
 ·cases i with
  |zero=>cases e
  |succ i=>
   obtain⟨a,ho,f1,f2,f3,f4,f5⟩:=q.own i o e;exact⟨a,ho,f1,sm.free f2,f3,f4,f5⟩
 ·cases i with
  |zero=>cases e
  |succ i=>
   cases j with
   |zero=>cases f
   |succ j=>exact q.apart i j o u a (λz=>ij (by rw[z])) e f
theorem Ge(n:Nat)(ds:[21])(i:Nat)(u:O):(none::bX n ds)[i]?≠(21,(49,u)):=by
 cases i with
 |zero=>intro e;cases e
 |succ i=>
  intro e;have e:(bX n ds)[i]?=(21,(49,u)):=e;unfold bX at e;by_cases hi:i<ds.length
  ·rw[(44,by simpa using hi),getElem?_map,(19,hi)] at e
   cases e
  ·rw[(47,by simpa using hi),getElem?_replicate] at e
   split at e <;> cases e
theorem QU{P:Program}{w:World}{K:Frag}{mg:Str->[26]}{base:Heap}{Γ:Ct}{x qual:Str}{st:Stmt}{f:Addr}{fd:FuncData}{N ps:[16]}{k:Nat}{g:MG}(F:D9 K x qual st f fd)(S:aw N ps (ag st))(hN:0<N.length)
  (body:∀(cdv:Value)(A:Around)(outer:List PySem.Env)(s:Shared)(H:Hp)(E:XK),cG k (A.deeper (envOfC qual (ag st) [15] f cdv))->Kw (pU rn P w K mg base N qual (ag st) f cdv A outer s H E).nox Γ (b9 st) g):
  dE P w K mg base rn (k+1) f fd ps (QC Γ (Cw ps.length N.length g)):=by
 refine F.ok S (λvs H Q E ⟨a,xs,Hs,o,ho,ds,o',ev,sm,hs,hh,ro,rl,e,q,tb⟩=>?_) (λcdv A outer s H vs Q E hr ⟨a,xs,Hs,o,ho,ds,o',ev,sm,hs,hh,ro,rl,e,q,tb⟩=>?_)
 ·subst ev;unfold Cw at e;obtain⟨h1,_⟩:ds.length+1=ps.length/\True:=by
   by_cases z:ds.length+1=ps.length
   ·exact(5,z,trivial)
   ·rw[(42,z)] at e;cases e
  rw[length_cons,←rl.length,h1]
 ·subst ev;unfold Cw at e;by_cases z:ds.length+1=ps.length
  ·rw[(39,z)] at e;refine⟨tX Γ g,body cdv A outer s H E hr,a,Hs,Hs,Hs,_,o,ho,o',Gv sm hN rl tb,hs,Ge _ _,?_,hs,hh,ro,e,q⟩;rfl
  ·rw[(42,z)] at e;cases e
section
variable{X:Cx}{Γ:Ct}{W:XW}{i:Nat}{x:Str}{e ek:Expr}{ge gk:ME}{px tpos pos:Pos}
theorem PU{n j:Nat}{k:Int}(h:KD n k=(6,j)):Ou n k=(6,j):=h
theorem kE(hv:PE X (6,x,px) (lL i))(hk:(8,X,W,ek,gk))(he:(8,X,W,e,ge))
  (ha:∀v,assign (.Subscript (6,x,px) ek tpos) X.env v=(do
   let ov ←holding [v] (eval (.Name x px) X.env);let iv ←holding [v,ov] (eval ek X.env)
   standAt tpos
   holding [v,ov,iv] (setItem ov iv v)
   release [v,ov,iv] []):=by intro _;rfl)
  (hs:swapsWithSole [.Subscript (6,x,px) ek tpos] e pos.line X.env=pure false:=by rfl) (hw:swappedStores [.Subscript (6,x,px) ek tpos] e X.env=pure none:=by rfl)
  (h1:(assignEach [.Subscript (6,x,px) ek tpos] X.env).map (·.2)=[assign (.Subscript (6,x,px) ek tpos) X.env]:=by rfl):vT X Γ W (.Assign [.Subscript (6,x,px) ek tpos] e pos) (iS i gk ge):=
 PS.imp (NJ he (NM hv hk Ir ha) hs hw h1) λpins s σ H En I ⟨B0,B1,Hs,ρ,o,re,eo,q⟩=>by
  refine(Dr re eo q).mono λy H1 ⟨Hs1,s,g1,rs,e5⟩=>?_;obtain⟨Hs2,g2,_,rp⟩:=rs.share g1;obtain⟨ds,hd,e6⟩:=rF e5;have re2:=re.grow g2;obtain⟨a,ho,f1,f2,f3,f4,xs,rfl,rl⟩:=re2.own i _ hd;refine(12,(10,a),f1,(Dr re2 e6 (q.from g2.s)).mono λz H3 ⟨Hs3,sz,g3,rz,e7⟩=>?_);obtain⟨Hs4,g4,_,rzp⟩:=rz.share g3;cases hz:sz.val with
  |int j=>
   rw[hz] at e7 rzp;dsimp only at e7;cases hx:KD ds.length j with
   |none=>rw[hx] at e7;cases e7
   |some n=>
    rw[hx] at e7;cases e7;refine⟨a,xs,j,n,rfl,au.mp rzp,g4.h _ _ f4,by rw[←rl.length];exact PU hx,?_⟩
    exact q σ Hs4 _ (g2.s.trans g4.s) ((re2.grow g4).write hd f1 (12,_,rfl,(rl.mono g4.s).set (rp.mono g4.s) n))
  |_=>rw[hz] at e7;cases e7
theorem IU{a b:Expr}{ga gb:ME}{pos:Pos}(hK:X.K=Γ.K)(ha:PL X Γ W a ga)(hb:PL X Γ W b gb)(hs:Au b:=by exact λ_ _=>rfl):(8,X,W,.Subscript a b pos,aK (f2 dIx) [ga,gb]):=
 PE.imp (MX (ixd (W:=W) hK) ha hb hs) λ_ _ σ H Q _ t=>by
  refine tL.mono (B3 t) λx H1 t1=>tL.mono t1 λy H2 t2=>?_;obtain⟨Hs,ds,r,sm,rl,e,q,tb⟩:=t2;obtain⟨d,d',rfl,e'⟩:=FM e;obtain⟨x1,r1,e1,q1,t1⟩:=cb.mp rl;obtain⟨y1,e2,q2⟩:=sg t1;subst e2;cases e1;exact⟨Hs,d,d',r,sm,q1,q2,e',q⟩
end
structure eS(K:Frag)(cls:String->Addr)(m qual:Str)(st:Stmt)(ps:List Str)(cs:List String):Prop where
 ex:∃f fd,D9 K m qual st f fd/\dj K fd ps []/\∀c∈cs,l3 K (cls c)/\OX K (cls c) m f
structure eU(K:Frag)(mg:Str->Option Value)(cls:String->Addr)(c:String)(x qual:Str)(st:Stmt)(ps:List Str):Prop where
 ex:∃f fd,D9 K "__init__" qual st f fd/\dj K fd ps []/\Mk K (cls c) f/\findCls K (10,cls c) (52,"type") "__init__" = (6,.val (10,f))
 at_:mg x=(6,(10,cls c))
 sp:specialIn K (10,cls c) "__getattribute__" = (21,(40,"type.__getattribute__"))
 rd:readsIn K (cls c) (52,"type")=true
section
variable{P:Program}{w:World}{K:Frag}{mg:Str->Option Value}{base:Heap}{Γ:Ct}
theorem dR{x qual:Str}{st:Stmt}{N ps:[16]}{k:Nat}{g:MC}{cs:List String}(L:eS K Γ.cls x qual st ps cs)(S:aw N ps (ag st))
  (body:∀(f:Addr)(cdv:Value)(A:Around)(outer:List PySem.Env)(s:Shared)(H:Hp)(E:XK),cG k (A.deeper (envOfC qual (ag st) [15] f cdv))->oK (pU rn P w K mg base N qual (ag st) f cdv A outer s H E).nox Γ W0 (b9 st) g):
  cM P w K mg base Γ (k+1) x ps (gu ps.length N.length g) cs:=by
 obtain⟨f,fd,F,hb,hc⟩:=L.ex;exact⟨f,fd,Ox F S (body f),hb,hc⟩
theorem dW{x qual:Str}{c:String}{st:Stmt}{N ps:[16]}{k:Nat}{g:MG}(L:eU K mg Γ.cls c x qual st ps)(S:aw N ps (ag st))(hN:0<N.length)
  (body:∀(f:Addr)(cdv:Value)(A:Around)(outer:List PySem.Env)(s:Shared)(H:Hp)(E:XK),cG k (A.deeper (envOfC qual (ag st) [15] f cdv))->Kw (pU rn P w K mg base N qual (ag st) f cdv A outer s H E).nox Γ (b9 st) g):
  cN P w K mg base Γ (k+1) c x ps (Cw ps.length N.length g):=by
 obtain⟨f,fd,F,hb,hm,hf⟩:=L.ex;exact(9,⟨f,fd,QU F S hN (body f),hb,F.kp,hm,hf⟩,L.at_,L.sp,L.rd)
theorem JC{cls:String->Addr}{x qual:Str}{st:Stmt}{ps:[16]}{f:Addr}{oc:Value}{od an:(9,Addr)}{osl:Array [26]}{kV doc pm cdv ct:Value}{cs:List String}
  (l:K.lookup f=(6,(9,oc,od,.func (1,x,qual,bL st,b9 st,ag st,.none,kV,pm,an,cdv,ct),osl))) (c:codeIn K cdv qual=true) (k:(7,K,f)=true) (i:isFn K (10,f)=true)
  (hb:∀(kV doc pm:Value)(an:(9,Addr))(cdv ct:Value)(us:[19]),us.length=ps.length->bindArgs (1,x,qual,bL st,b9 st,ag st,.none,kV,pm,an,cdv,ct) (5,us,[])=pure (ps.zip us))
  (hc:∀c∈cs,l3 K (cls c)/\(4,K,cls c,x)=(27,f)):eS K cls x qual st ps cs:=
 ⟨f,_,nt l c k,(nt l c k).binds hb,λc h=>(9,(hc c h).1,(hc c h).2,i,k)⟩
theorem JD{h:Heap}(X:K.In h)(G:h.Ns mainGlobals mg){cls:String->Addr}{cn:String}{C:Addr}(ec:cls cn=C){x qual:Str}{st:Stmt}{ps:[16]}{f:Addr}{oc:Value}{od an:(9,Addr)}{osl:Array [26]}{kV doc pm cdv ct:Value}
  (a:(4,K,x)=(27,C)) (fi:(4,K,C,"__init__") = (27,f))
  (l:K.lookup f=(6,(9,oc,od,.func (1,"__init__",qual,bL st,b9 st,ag st,.none,kV,pm,an,cdv,ct),osl))) (c:codeIn K cdv qual=true) (k:(7,K,f)=true) (i:isFn K (10,f)=true)
  (mk:makesIn K C=true) (kc:(7,K,C)=true) (fc:findCls K (10,C) (52,"type") "__init__" = (6,.val (10,f)))
  (sp:specialIn K (10,C) "__getattribute__" = (21,(40,"type.__getattribute__"))) (rd:readsIn K C (52,"type")=true)
  (hb:∀(kV doc pm:Value)(an:(9,Addr))(cdv ct:Value)(us:[19]),us.length=ps.length->bindArgs (1,"__init__",qual,bL st,b9 st,ag st,.none,kV,pm,an,cdv,ct) (5,us,[])=pure (ps.zip us)):eU K mg cls cn x qual st ps:=by
 subst ec;exact(9,⟨f,_,nt l c k,(nt l c k).binds hb,(9,mk,fi,i,kc),fc⟩,mg_of X G a,sp,rd)
end
theorem all_nil{α:Type}{p:α->Prop}:∀c∈([]:List α),p c:=λ_ h=>nomatch h
theorem all_cons{α:Type}{p:α->Prop}{a:α}{l:List α}(h:p a)(t:∀c∈l,p c):∀c∈a::l,p c:=λc hc=>by
 rcases mem_cons.mp hc with rfl|h'
 ·exact h
 ·exact t c h'
def clsF:List (String×Addr)->String->Addr
 |[],_=>0
 | (c,a)::r,s=>if s=c then a else clsF r s
section
variable{X:Cx}{Γ:Ct}{W:XW}{es:List Expr}{gs:List ME}{g:ME}{pos:Pos}
theorem bU{c j}(h:(8,X,W,.Constant c j pos,g))(t:qc X Γ W es gs):qc X Γ W (.Constant c j pos::es) (g::gs):=cD h t rfl
theorem padN{x}(h:(8,X,W,(6,x,pos),g))(t:qc X Γ W es gs):qc X Γ W ((6,x,pos)::es) (g::gs):=cD h t rfl
theorem eN{a op b}(h:(8,X,W,.BinOp a op b pos,g))(t:qc X Γ W es gs):qc X Γ W (.BinOp a op b pos::es) (g::gs):=cD h t rfl
theorem padS{a b}(h:(8,X,W,.Subscript a b pos,g))(t:qc X Γ W es gs):qc X Γ W (.Subscript a b pos::es) (g::gs):=cD h t rfl
theorem kU{f as ks}(h:(8,X,W,.Call f as ks pos,g))(t:qc X Γ W es gs):qc X Γ W (.Call f as ks pos::es) (g::gs):=cD h t rfl
theorem dD{xs c}(h:(8,X,W,.Tuple xs c pos,g))(t:qc X Γ W es gs):qc X Γ W (.Tuple xs c pos::es) (g::gs):=cD h t rfl
theorem QL{op a}(h:(8,X,W,.UnaryOp op a pos,g))(t:qc X Γ W es gs):qc X Γ W (.UnaryOp op a pos::es) (g::gs):=cD h t rfl
end
def Ah:PySem.Expr->(9,D)
 |.Constant (.str s) _ _=>(6,.str s)
 |.Constant (.int i) _ _=>(6,(4,i))
 |_=>none
def Mb:List PySem.Expr->(9,[21])
 |[]=>(6,[])
 |e::es=>match Ah e,Mb es with
  |some d,some ds=>(6,(d::ds))
  |_,_=>none
theorem IW{X:Cx}{Γ:Ct}{W:XW}{e:PySem.Expr}{d:D}(h:Ah e=(6,d)):(8,X,W,e,eC d)/\∀es:List PySem.Expr,(7,(e::es))=(false,(16,e))::(7,es):=by
 unfold Ah at h;split at h
 ·cases h;exact(5,bq,λ_=>rfl)
 ·cases h;exact(5,a9,λ_=>rfl)
 ·cases h
theorem v5{X:Cx}{Γ:Ct}{W:XW}:∀{es:List PySem.Expr}{ds:[21]},Mb es=(6,ds)->qc X Γ W es (ds.map eC)
 |[],ds,h=>by cases h;exact aa
 |e::es,ds,h=>by
  unfold Mb at h;cases h1:Ah e with
  |none=>rw[h1] at h;cases h
  |some d=>
   cases h2:Mb es with
   |none=>rw[h1,h2] at h;cases h
   |some ds'=>
    rw[h1,h2] at h;cases h;obtain⟨p,st⟩:=IW (X:=X) (Γ:=Γ) (W:=W) h1;exact cD p (v5 h2) (st es)
section
variable{X:Cx}{Γ:Ct}{W:XW}
theorem dG{i:Nat}{x:Str}{pos' pos:Pos}{e:Expr}{ge:ME}(hN:X.N.Nodup)(hi:X.N[i]?=(6,x))(he:(8,X,W,e,ge))(hx:HM X.env.scope x:=by first|exact Or.inl rfl|exact Or.inr rfl)(hs:(21,e,(6,(6,x,pos')),pos.line)=pure false:=by rfl)
  (hf:X.fn x=true\/(24,x)=(6,.local):=by first|exact .inl rfl|exact .inr rfl|assumption):vT X Γ W (.Assign [(6,x,pos')] e pos) (sSet i ge):=Lk hN hi hx he hs hf
theorem mG{j:Nat}{x:Str}{pos:Pos}(hN:X.N.Nodup)(hi:X.N[j]?=(6,x))(hx:HM X.env.scope x:=by first|exact Or.inl rfl|exact Or.inr rfl)(hf:X.fn x=true\/(24,x)=(6,.local):=by first|exact .inl rfl|exact .inr rfl|assumption):OV X Γ (6,x,pos) [j] (aM j):=IZ hN hi hx hf
end
end L3
namespace L3
open PySem PySem.Spec PyProof.Rows L2 PySem.SeqAt
section
variable{X:Cx}{Γ:Ct}{W:XW}
theorem k9{A:Around}{k n:Nat}(hr:cG k A)(hn:n<=9:=by decide):A.units+n<cLine:=by
 have:=hr.un;omega
variable{i:Nat}{x:Str}{px apos cpos pos:Pos}
end
end L3
namespace L3
open PySem PySem.Spec PyProof.Rows L2
section
variable{X:Cx}{Γ:Ct}{W:XW}
theorem RepL.reverse{H:Hp}:∀{ds:[21]}{xs:List V},(23,H,ds,xs)->(23,H,ds.reverse,xs.reverse)
 |[],xs,h=>by rw[fK.mp h];exact .nil
 |d::ds,xs,h=>by
  obtain⟨x,r,rfl,q,t⟩:=cb.mp h;rw[reverse_cons,reverse_cons];exact(RepL.reverse t).append (.cons q .nil)
variable{i:Nat}{x:Str}{px apos cpos pos pos' zpos:Pos}{k:Expr}{gk:ME}
end
section
variable{Γ:Ct}{B0 B1 Hs H Hs' H':Hp}{σ:L2.St}{ρ:MEnv}{a:Addr}{o o':O}{ho ho':HO}
theorem fX.core(h:fX Γ Hs a o ho):fX Γ Hs a o.core ho:=by
 cases o with
 |par b u=>exact h.2
 |_=>exact h
theorem fX.put(h:fX Γ Hs a o ho)(h':fX Γ Hs' a o' ho'):fX Γ Hs' a (o.put o') ho':=by
 cases o with
 |par b u=>exact(5,h.1,h')
 |_=>exact h'
theorem RE.called(r:RE Γ B0 B1 Hs H σ ρ){i:Nat}(e:ρ[i]?=(21,(49,o)))(ea:σ[i]?=(27,a))(g:kh a Hs H Hs' H')(hs:Hs' a=none)(hh:H' a=(6,ho'))(q:fX Γ Hs' a o' ho'):RE Γ B0 B1 Hs' H' σ (ρ.set i (6,(49,o'))):=by
 obtain⟨c,hc,e1,e2,e3,e4,_⟩:=r.own i o e;rw[ea] at e1;cases e1;have hi:i<ρ.length:=(12,e).1;have old:∀(j:Nat)(u:O),(ρ.set i (6,(49,o')))[j]?=(21,(49,u))->∃u',ρ[j]?=(21,(49,u')):=λj u hj=>by
  by_cases h:i=j
  ·subst h;exact(5,o,e)
  ·rw[(34,h)] at hj;exact(5,u,hj)
 refine⟨(9,r.b.s.trans g.s,λb u z=>g.h b u (aZ z e2) (r.b.h b u z),g.i,λb u z=>?_),λj d hj=>?_,λj u hj=>?_,λj k u u' c hjk hj hk ha=>?_,by rw[length_set,r.len],r.tb.trans g.s⟩
 ·rcases g.n b u z with z|z
  ·exact r.b.n b u z
  ·exact .inr (r.b.h.free z)
 ·by_cases h:i=j
  ·subst h;rw[(32,hi)] at hj;cases hj
  ·rw[(34,h)] at hj;obtain⟨v,f1,f2⟩:=r.sh j d hj;exact(12,v,f1,f2.mono g.s)
 ·by_cases h:i=j
  ·subst h;rw[(32,hi)] at hj;cases hj;exact⟨a,ho',ea,e2,hs,hh,q⟩
  ·rw[(34,h)] at hj;obtain⟨c,hc,f1,f2,f3,f4,f5⟩:=r.own j u hj;have hne:c≠a:=λz=>by subst z;exact r.apart i j o u c h e hj ea f1
   refine⟨c,hc,f1,f2,?_,g.h c hc hne f4,f5.mono g.s⟩;cases z:Hs' c with
   |none=>rfl
   |some w=>
    rcases g.n c w z with z'|z'
    ·rw[f3] at z';cases z'
    ·rw[f4] at z';cases z'
 ·obtain⟨w,hj'⟩:=old j u hj;obtain⟨w',hk'⟩:=old k u' hk;exact r.apart j k w w' c hjk hj' hk' ha
end
inductive tM(Γ:Ct)(g:MP)(σ:L2.St)(H:Hp)(Q:VK):Prop
 |mk (B0 B1 Hs:Hp) (ρ:MEnv) (d:D) (ρ':MEnv) (re:RE Γ B0 B1 Hs H σ ρ) (e:g ρ=(6,(d,ρ'))) (q:∀v Hs' H',ba Hs Hs'->RE Γ B0 B1 Hs' H' σ ρ'->dB Γ Hs' d v->Q v H')
inductive Rm(Γ:Ct)(F:MF)(vs:List V)(H:Hp)(Q:VK):Prop
 |mk (a:Addr) (xs ys:List V) (Hs:Hp) (o:O) (ho:HO) (ds es:[21]) (d:D) (o':O) (ev:vs=xs++(10,a)::ys) (sm:ba Hs H) (hs:Hs a=none) (hh:H a=(6,ho)) (ro:fX Γ Hs a o ho) (r1:(23,Hs,ds,xs)) (r2:(23,Hs,es,ys)) (e:F o ds es=(6,(d,o')))
  (q:∀v Hs' H' ho',kh a Hs H Hs' H'->Hs' a=none->H' a=(6,ho')->fX Γ Hs' a o' ho'->dB Γ Hs' d v->Q v H') (tb:ba Γ.tb Hs)
def Rn(Γ:Ct)(F:MF):Sp:=λvs H Q _=>Rm Γ F vs H Q
def sG(Γ:Ct)(i:Nat)(hs:List ME):List ME->TA
 |[]=>B4 (lL i) (sF Γ W0 hs)
 |g::gs=>B4 (tD Γ W0 g) (sG Γ i hs gs)
section
variable{X:Cx}{Γ:Ct}{i:Nat}{e:Expr}{es:List Expr}{g:ME}{gs hs:List ME}
theorem Bq(hv:PE X e (lL i))(h:qc X Γ W0 es hs)(hst:(7,(e::es))=(false,(16,e))::(7,es):=by rfl):PA X (e::es) (sG Γ i hs []):=cS hv h hst
theorem iW(h:(8,X,W0,e,g))(t:PA X es (sG Γ i hs gs))(hst:(7,(e::es))=(false,(16,e))::(7,es):=by rfl):PA X (e::es) (sG Γ i hs (g::gs)):=cS h t hst
theorem pY:∀(gs:List ME){σ:L2.St}{H:Hp}{Q Q':List V->Hp->Prop},(∀v H,Q v H->Q' v H)->sG Γ i hs gs σ H Q->sG Γ i hs gs σ H Q'
 |[],_,_,_,_,h,⟨v,e,t⟩=>(12,v,e,dn hs (λvs H z=>h _ _ z) t)
 |g::gs,_,_,_,_,h,t=>tD.mono t λv H1 t'=>pY gs (λvs H2 z=>h _ _ z) t'
theorem vR{a:Addr}{es:[21]}:∀(gs:List ME){B0 B1 Hs H:Hp}{σ:L2.St}{ρ:MEnv}{ds:[21]},RE Γ B0 B1 Hs H σ ρ->bF gs ρ=(6,ds)->bF hs ρ=(6,es)->σ[i]?=(27,a)->
  sG Γ i hs gs σ H (λvs H1=>∃Hs1 xs ys,Grow Hs H Hs1 H1/\vs=xs++(10,a)::ys/\(23,Hs1,ds,xs)/\(23,Hs1,es,ys))
 |[],B0,B1,Hs,H,σ,ρ,ds,re,e,e2,hσ=>by
  cases e;exact(12,(10,a),hσ,dn hs (λvs H1 ⟨Hs1,g1,rl⟩=>⟨Hs1,[],vs,g1,rfl,.nil,rl⟩) (mv hs re e2))
 |g::gs,B0,B1,Hs,H,σ,ρ,ds,re,e,e2,hσ=>by
  unfold bF at e;split at e
  ·rename_i s hs';cases z:bF gs ρ with
   |none=>rw[z] at e;cases e
   |some ds'=>
    rw[z] at e;cases e;refine⟨B0,B1,Hs,ρ,_,re,hs',λv Hs' H' g' rs=>?_⟩;obtain⟨Hs2,g2,_,rp⟩:=rs.share g';refine pY gs (λvs H2 ⟨Hs3,xs,ys,g3,ev,r1,r2⟩=>?_) (vR gs (re.grow g2) z e2 hσ);exact⟨Hs3,v::xs,ys,g2.trans g3,by rw[ev];rfl,.cons (rp.mono g3.s) r1,r2⟩
  ·cases e
end
def R6(P:Program)(w:World)(K:Frag)(mg:Str->[26])(base:Heap)(Γ:Ct)(k:Nat)(x:Str)(ps:[16])(F:MF):Prop:=
 ∃f fd,dE P w K mg base rn k f fd ps (Rn Γ F)/\mg x=(6,(10,f))/\(7,K,f)=true/\dj K fd ps []
theorem R6.mono{P:Program}{w:World}{K:Frag}{mg:Str->[26]}{base:Heap}{Γ:Ct}{j k:Nat}{x:Str}{ps:[16]}{F:MF}(h:R6 P w K mg base Γ j x ps F)(l:j<=k):R6 P w K mg base Γ k x ps F:=by
 obtain⟨f,fd,G,r⟩:=h;exact(9,f,fd,G.mono l,r)
def DJ(H:Hp)(a:Addr):Hp:=λb=>if b=a then none else H b
theorem xO{H:Hp}{a:Addr}:DJ H a a=none:=(39,rfl)
theorem qE{H:Hp}{a b:Addr}(h:b≠a):DJ H a b=H b:=(42,h)
theorem Il{N:[16]}{xs ys:List V}{u v:V}:(L2.start N (xs++u::ys)).set xs.length (6,v)=L2.start N (xs++v::ys):=by
 unfold L2.start;rw[map_append,map_append,map_cons,map_cons,append_assoc,append_assoc];have:(List.map some xs).length=xs.length:=length_map ..;rw[←this,List.set_append_right _ _ [23],sub_self];simp
theorem Gu{Γ:Ct}{Hs H:Hp}{N:[16]}{a:Addr}{o:O}{ho:HO}{ds es:[21]}{xs ys:List V}(sm:ba Hs H)(hs:Hs a=none)(hh:H a=(6,ho))(ro:fX Γ Hs a o ho)(r1:(23,Hs,ds,xs))(r2:(23,Hs,es,ys))(tb:ba Γ.tb Hs)(hN:ds.length<N.length):
  RE Γ Hs (DJ H a) Hs H (L2.start N (xs++(10,a)::ys)) (pH N.length a o ds es):=by
 have rl:(23,Hs,(ds++.non::es),(xs++.non::ys)):=r1.append (.cons (ff.mpr rfl) r2);have r0:=qF (N:=N) sm rl tb;have no:∀(i:Nat)(u:O),(bX N.length (ds++.non::es))[i]?≠(21,(49,u)):=λi u e=>by
  unfold bX at e;by_cases hi:i<(ds++D.non::es).length
  ·rw[(44,by simpa using hi),getElem?_map,(19,hi)] at e
   cases e
  ·rw[(47,by simpa using hi),getElem?_replicate] at e
   split at e <;> cases e
 have r1':RE Γ Hs (DJ H a) Hs H (L2.start N (xs++.non::ys)) (bX N.length (ds++.non::es)):=by
  refine⟨(9,.refl _,λb u z=>?_,sm,λb u z=>.inl z),r0.sh,λi u e=>absurd e (no i u),r0.apart,r0.len,r0.tb⟩;by_cases hb:b=a
  ·subst hb;rw[xO] at z;cases z
  ·rw[qE hb] at z;exact z
 have hl:ds.length<(L2.start N (xs++.non::ys)).length:=by
  rw[←r0.len];unfold bX;rw[length_append,length_map,length_append,length_cons];omega
 have r2':=r1'.setOwn (i:=ds.length) (o:=.par a o) (a:=a) (ho:=ho) hl xO hs hh (5,rfl,ro) λj u _ e=>absurd e (no j u);rw[r1.length,Il,←r1.length] at r2';exact r2'
section
variable{P:Program}{w:World}{K:Frag}{mg:Str->Option Value}{base:Heap}{Γ:Ct}
theorem Co{Hs H Hs' H':Hp}{a:Addr}(g:Grow Hs (DJ H a) Hs' H')(hs:Hs' a=none):kh a Hs H Hs' H':=
 ⟨g.s,λb u hb z=>g.h b u (by rw[qE hb];exact z),g.i,λb u z=>by
  have hb:b≠a:=aZ z hs;rcases g.n b u z with y|y
  ·exact .inl y
  ·rw[qE hb] at y;exact .inr y⟩
end
theorem RE.adopt'{Γ:Ct}{B0 B1 Hs H:Hp}{σ:L2.St}{ρ:MEnv}(r:RE Γ B0 B1 Hs H σ ρ){a:Addr}{ho:HO}(h1:Hs a=none)(h2:B1 a=none)(h4:H a=(6,ho))(h3:∀(i:Nat)(o:O),ρ[i]?=(21,(49,o))->σ[i]?≠(27,a)):RE Γ B0 B1 (cA Hs a ho) H σ ρ:=by
 have sm:ba Hs (cA Hs a ho):=cq h1;have sh':ba (cA Hs a ho) H:=λb u z=>by
  by_cases hb:b=a
  ·subst hb;rw[aH] at z;cases z;exact h4
  ·rw[aE hb] at z;exact r.b.i _ _ z
 refine⟨(9,r.b.s.trans sm,r.b.h,sh',λb u z=>?_),λj d hj=>?_,λj u hj=>?_,r.apart,r.len,r.tb.trans sm⟩
 ·by_cases hb:b=a
  ·subst hb;exact .inr h2
  ·rw[aE hb] at z;exact r.b.n _ _ z
 ·obtain⟨v,f1,f2⟩:=r.sh j d hj;exact(12,v,f1,f2.mono sm)
 ·obtain⟨c,hc,f1,f2,f3,f4,f5⟩:=r.own j u hj;refine⟨c,hc,f1,f2,?_,f4,f5.mono sm⟩;rw[aE]
  ·exact f3
  ·intro z;subst z;exact h3 j u hj f1
inductive Rj(Γ:Ct)(g:MP)(σ:L2.St)(H:Hp)(Q:VK):Prop
 |mk (B0 B1 Hs:Hp) (ρ:MEnv) (d:D) (ρ':MEnv) (re:RE Γ B0 B1 Hs H σ ρ) (e:g ρ=(6,(d,ρ'))) (q:∀a ys ds Hs' H',ba Hs Hs'->RE Γ B0 B1 Hs' H' σ ρ'->d=(13,ds)->Hs' a=none->B1 a=none->H' a=(6,(13,ys))->(∀(i:Nat)(o:O),ρ'[i]?=(21,(49,o))->σ[i]?≠(27,a))->(23,Hs',ds,ys)->Q (10,a) H')
theorem tM.l{Γ:Ct}{g:MP}{σ:L2.St}{H:Hp}{Q:VK}(t:tM Γ g σ H Q):Rj Γ g σ H Q:=by
 obtain⟨B0,B1,Hs,ρ,d,ρ',re,e,q⟩:=t;exact⟨B0,B1,Hs,ρ,d,ρ',re,e,λa ys ds Hs' H' sm re' hd ha hb hh ap rl=>q (10,a) (cA Hs' a (13,ys)) H' (sm.trans (cq ha)) (re'.adopt' ha hb hh ap) (hd▸dM.mpr ⟨a,ys,rfl,.of aH,rl.mono (cq ha)⟩)⟩
section
variable{X:Cx}{Γ:Ct}{W:XW}{i:Nat}{x:Str}{px apos cpos pos pos' zpos:Pos}{k:Expr}{gk:ME}
theorem fX.dic{Hs:Hp}{a:Addr}{o:O}{ho:HO}{kvs:Tb}(h:fX Γ Hs a o ho)(e:o.core=.dic kvs):ho=.dT (QQ kvs):=by
 have h:=h.core;rw[e] at h;exact h
end
theorem CI{n:Nat}:∀{ds:[21]},(∀d∈ds,qU d<=n)->ik ds<=n
 |[],_=>zero_le _
 |d::ds,h=>by
  have h1:=h d mem_cons_self;have h2:=CI (ds:=ds) λe he=>h e (31,he);show max (qU d) (ik ds)<=n;omega
theorem FC:∀(n:Nat)(d:D),vg n d=true->qU d<=n
 |0,d,h=>by cases d <;> first|exact[23]|cases h
 |n+1,d,h=>by
  cases d with
  |tup ds=>
   have h:ds.all (vg n)=true:=h;have:=CI (n:=n) (ds:=ds) λe he=>FC n e (all_eq_true.mp h e he);show ik ds+1<=n+1;omega
  |int i=>exact zero_le _
  |_=>cases h
section
variable{X:Cx}{Γ:Ct}{W:XW}{pins:List (Addr×Obj)}{σ:L2.St}{H:Hp}{s:Shared}
theorem FJ{n:Nat}(ih:∀(d:D)(v:V)(u:Value),vg n d=true->dB Γ H d v->bV v u->ib s.heap d u):∀{ds:[21]}{vs:List V}{us:[19]},(∀d∈ds,vg n d=true)->(23,H,ds,vs)->Vals vs us->ia s.heap ds us
 |[],vs,us,_,r,q=>by
  rw[fK.mp r] at q;cases q;exact fP.mpr rfl
 |d::ds,vs,us,h,r,q=>by
  obtain⟨x,y,rfl,r1,r2⟩:=cb.mp r;cases q with
  |cons q1 q2=>exact dS.mpr ⟨_,_,rfl,ih d x _ (h d mem_cons_self) r1 q1,FJ ih (λe he=>h e (31,he)) r2 q2⟩
theorem JM(hK:X.K=Γ.K)(I:(20,H,s)):∀(n:Nat)(d:D)(v:V)(u:Value),vg n d=true->dB Γ H d v->bV v u->ib s.heap d u
 |0,d,v,u,ok,r,q=>by
  cases d with
  |int i=>
   rw[au.mp r] at q;obtain⟨t,rfl⟩:=q;exact g9.mpr (5,t,rfl)
  |_=>cases ok
 |n+1,d,v,u,ok,r,q=>by
  cases d with
  |int i=>
   rw[au.mp r] at q;obtain⟨t,rfl⟩:=q;exact g9.mpr (5,t,rfl)
  |tup ds=>
   obtain⟨a,vs,rfl,sq,l⟩:=cz.mp r;cases q;obtain⟨its,v1,p1,_⟩:=I.tuple (by rw[hK];exact sq)
   exact gZ.mpr ⟨a,its.toArray,rfl,p1,FJ (JM hK I n) (λe he=>all_eq_true.mp (show ds.all (vg n)=true from ok) e he) l v1⟩
  |_=>cases ok
theorem rO(hK:X.K=Γ.K)(I:(20,H,s)){d:D}{a:Addr}(ok:zC d=true)(r:dB Γ H d (10,a)):(j6 X.prog X.w).is s.heap d a:=by
 cases d with
 |tup ds=>exact(5,JM hK I 6 (20,ds) (10,a) (10,a) ok r rfl,FC 6 (20,ds) ok)
 |_=>cases ok
theorem AJ{kvs:List (D×D)}{xs:List (D×Addr×Value)}(r:jI Γ H kvs xs):∀x∈xs,zC x.1=true/\dB Γ H x.1 (10,x.2.1):=by
 unfold jI at r
 induction r with
 |nil=>intro x hx;exact nomatch hx
 |@cons p q ps qs h t ih=>
  intro x hx;rcases mem_cons.mp hx with rfl|hx
  ·obtain⟨h1,h2,h3,_⟩:=h;exact(5,h1▸h2,h1▸h3)
  ·exact ih x hx
theorem ub(hK:X.K=Γ.K)(I:(20,H,s)){a:Addr}{kvs:List (D×D)}{xs:List (D×Addr×Value)}(e:H a=(6,.ext (fY a xs)))(r:jI Γ H kvs xs):
  s.heap.DictOfH (j6 X.prog X.w) a xs/\(a == sysModules)=false/\xs.length<=sizeLine:=by
 obtain⟨⟨⟨x1,x2,x3⟩,o,es,ep,h1,h2,h3,h4⟩,_,_⟩:=(show cF X.prog X.w H s.heap a (.ext (fY a xs)) from I.hok a _ e);exact(12,⟨o,es,ep,h1,h2,h3,h4,λx hx=>rO hK I (AJ r x hx).1 (AJ r x hx).2,x3⟩,x1,x2)
theorem jI.length{kvs:List (D×D)}{xs:List (D×Addr×Value)}(r:jI Γ H kvs xs):kvs.length=xs.length:=Paired.length r
theorem jI.some_eq{kvs:List (D×D)}{xs:List (D×Addr×Value)}(r:jI Γ H kvs xs)(k:D):(gF kvs k).isSome=(atKey xs k).isSome:=by
 unfold jI at r
 induction r with
 |nil=>rfl
 |@cons p q ps qs h t ih=>
  unfold gF atKey at ih ⊢;rw[find?_cons,find?_cons,←h.1];by_cases e:p.1=k
  ·rw[decide_eq_true e];rfl
  ·rw[(50,e)];exact ih
theorem jI.put{kvs:List (D×D)}{xs:List (D×Addr×Value)}(r:jI Γ H kvs xs){k d:D}{b:Addr}{v:V}{u:Value}(ok:zC k=true)(rk:dB Γ H k (10,b))(rv:bV v u)(rd:dB Γ H d v):jI Γ H (z9 kvs k d) (storedH xs k b u):=by
 unfold z9 storedH;rw[r.some_eq k];by_cases c:(atKey xs k).isSome=true
 ·rw[(39,c),(39,c)];unfold jI at r ⊢;clear c
  induction r with
  |nil=>exact .nil
  |@cons p q ps qs h t ih=>
   rw[map_cons,map_cons];refine .cons ?_ ih;obtain⟨h1,h2,h3,h4⟩:=h;unfold putAt;by_cases e:p.1=k
   ·rw[(39,e),(39,h1.symm.trans e)];exact⟨h1,h2,h3,v,rv,rd⟩
   ·rw[(42,e),(42,(λz=>e (h1.trans z)))];exact(9,h1,h2,h3,h4)
 ·rw[(42,c),(42,c)];exact Paired.snoc r ⟨rfl,ok,rk,v,rv,rd⟩
theorem Af{P:Program}{w:World}{H':Hp}{h:Heap}{a:Addr}{xs:List (D×Addr×Value)}(x:fY a xs h):cF P w H' h a (.ext (fY a xs)):=
 (12,x,let ⟨_,o,_,_,e,_⟩:=x;(5,o,e),λ_ _ x k=>x.stay k)
variable{i:Nat}{x:Str}{px apos cpos pos pos' zpos:Pos}{k:Expr}{gk:ME}
theorem fX.tab{Hs:Hp}{a:Addr}{o:O}{ho:HO}{kvs:Td}(h:fX Γ Hs a o ho)(e:o.core=.tab kvs):∃xs,ho=.ext (fY a xs)/\jI Γ Hs kvs xs:=by
 have h:=h.core;rw[e] at h;exact h
theorem rE(hN:X.N.Nodup)(hi:X.N[i]?=(6,x))(hx:HM X.env.scope x)(hs:(21,.Dict [] [] zpos,(6,(6,x,pos')),pos.line)=pure false:=by rfl)
  (hf:X.fn x=true\/(24,x)=(6,.local):=by first|exact .inl rfl|exact .inr rfl|assumption):vT X Γ W (.Assign [(6,x,pos')] (.Dict [] [] zpos) pos) (Bc i):=
 PS.imp (DN (te:=λ_ H Q=>∀p,H p=none->Q (10,p) (cA H p (.ext (fY p [])))) hN hi hx (λpins s σ H Q I h=>wpAny_Dict_empty ⟨(10,[15]),_,I.laid (a:=[15]) (o:=.ext (fY [15] [])) (t':=s.toks) (λ_ _ q=>(14,q)) [23]
   (Af ⟨(12,beq_eq_false_iff_ne.mpr (Ne.symm (ne_of_lt I.big)),zero_le _,nodup_nil),_,#[],0,(35,_),(14,rfl,rfl),rfl,rfl⟩),rfl,h _ (I.hok.fresh [23])⟩) hs hf) λpins s σ H En I ⟨B0,B1,Hs,ρ,o,re,eo,q⟩=>by
  cases eo;intro p hp;refine q _ Hs _ (.refl _) ((re.grow (.newOwn re.b.i hp)).setOwn (by rw[I.len];exact(12,hi).1) (re.b.h.free hp) (re.b.i.free hp) aH (12,[],rfl,.nil) λj u _ hj z=>?_)
  obtain⟨c,hc,f1,_,_,f4,_⟩:=re.own j u hj;rw[z] at f1;cases f1;rw[hp] at f4;cases f4
theorem gD{B0 B1 Hs:Hp}{ρ:MEnv}{d:D}(re:RE Γ B0 B1 Hs H σ ρ)(e:gk ρ=okD d):tD Γ W gk σ H (λv H1=>∃Hs1,Grow Hs H Hs1 H1/\dB Γ Hs1 d v):=
 ⟨B0,B1,Hs,ρ,_,re,e,λv Hs1 H1 g rs=>(12,Hs1,g,rs)⟩
theorem vz{n:Bool}{ρ:MEnv}{r:R}(h:gH n i gk ρ=(6,r)):∃o kvs d,ρ[i]?=(21,(49,o))/\o.core=.tab kvs/\gk ρ=okD d/\zC d=true/\r=.ok (.sh (.bl (n != (gF kvs d).isSome))):=by
 unfold gH at h;cases h1:kd i ρ with
 |none=>rw[h1] at h;cases h
 |some p=>
  rw[h1] at h;dsimp only[Option.bind_some] at h;obtain⟨e1,e2⟩:=iE (o:=p.1) (kvs:=p.2) h1;cases h2:xl (gk ρ) with
  |none=>rw[h2] at h;cases h
  |some d=>rw[h2] at h;cases h;obtain⟨k1,k2⟩:=oi h2;exact⟨p.1,p.2,d,e1,e2,k1,k2,rfl⟩
theorem IY(hK:X.K=Γ.K)(hu:X.A.units+8<cLine)(hv:PE X (6,x,px) (lL i))(hk:(8,X,W,k,gk)):PC X .In k (6,x,px) (tD Γ W (gH false i gk))/\PC X .NotIn k (6,x,px) (tD Γ W (gH true i gk)):=by
 constructor
 ·intro pins s σ H Q I ⟨B0,B1,Hs,ρ,r,re,e,q⟩;obtain⟨o,kvs,d,hd,ec,eg,ok,rfl⟩:=vz e;refine df (hk pins s σ H _ I (gD re eg)) λiv s1 ⟨y,H1,I1,ry,Hs1,g1,rp⟩=>?_;obtain⟨a,ho,e1,e2,e3,e4,hq⟩:=(re.grow g1).own i _ hd;obtain⟨xs,rfl,tr⟩:=hq.tab ec;refine df (hv pins s1 σ H1 (λv H2=>v=(10,a)/\H2=H1) I1 (9,_,e1,rfl,rfl)) λu s2 ⟨z,H2,I2,rz,e5,e6⟩=>?_;subst e5 e6;cases rz;obtain⟨dd,lo,_⟩:=ub hK I2 e4 (tr.mono g1.i);cases d with
  |tup ds=>
   obtain⟨b,vs,rfl,sq,l⟩:=cz.mp rp;cases ry;refine wpAny_in_heap (knd:=j6 X.prog X.w) (show X.A.in1.units+6<cLine from by show X.A.units+1+6<cLine;omega) (rO hK I2 ok (rp.mono g1.i)) lo dd ⟨.bl _,H2,I2.tok _,rfl,?_⟩
   have:=q (.bl (false != (gF kvs (20,ds)).isSome)) Hs1 H2 g1 (fG.of (bQ.mpr rfl));rw[Bool.false_bne,tr.some_eq] at this;exact this
  |_=>cases ok
 ·intro pins s σ H Q I ⟨B0,B1,Hs,ρ,r,re,e,q⟩;obtain⟨o,kvs,d,hd,ec,eg,ok,rfl⟩:=vz e;refine df (hk pins s σ H _ I (gD re eg)) λiv s1 ⟨y,H1,I1,ry,Hs1,g1,rp⟩=>?_;obtain⟨a,ho,e1,e2,e3,e4,hq⟩:=(re.grow g1).own i _ hd;obtain⟨xs,rfl,tr⟩:=hq.tab ec;refine df (hv pins s1 σ H1 (λv H2=>v=(10,a)/\H2=H1) I1 (9,_,e1,rfl,rfl)) λu s2 ⟨z,H2,I2,rz,e5,e6⟩=>?_;subst e5 e6;cases rz;obtain⟨dd,lo,_⟩:=ub hK I2 e4 (tr.mono g1.i);cases d with
  |tup ds=>
   obtain⟨b,vs,rfl,sq,l⟩:=cz.mp rp;cases ry;refine wpAny_notIn_heap (knd:=j6 X.prog X.w) (show X.A.in1.units+6<cLine from by show X.A.units+1+6<cLine;omega) (rO hK I2 ok (rp.mono g1.i)) lo dd ⟨.bl _,H2,I2.tok _,rfl,?_⟩
   have:=q (.bl (true != (gF kvs (20,ds)).isSome)) Hs1 H2 g1 (fG.of (bQ.mpr rfl));rw[Bool.true_bne,tr.some_eq] at this;exact this
  |_=>cases ok
theorem IE(hK:X.K=Γ.K)(hu:X.A.units+8<cLine)(hv:PE X (6,x,px) (lL i))(hk:(8,X,W,k,gk)):D6 X Γ W (.Compare k [.In] [(6,x,px)] pos) (gH false i gk):=PT.imp (DK (IY hK hu hv hk).1) λ_ _ _ _ _ _ t=>B2 t
theorem mR(hK:X.K=Γ.K)(hu:X.A.units+8<cLine)(hv:PE X (6,x,px) (lL i))(hk:(8,X,W,k,gk)):D6 X Γ W (.Compare k [.NotIn] [(6,x,px)] pos) (gH true i gk):=PT.imp (DK (IY hK hu hv hk).2) λ_ _ _ _ _ _ t=>B2 t
theorem DI{ge:ME}{ρ:MEnv}{o:mI}(h:l8 i gk ge ρ=(6,o)):∃v u kvs d,ge ρ=okD v/\ρ[i]?=(21,(49,u))/\u.core=.tab kvs/\gk ρ=okD d/\zC d=true/\kvs.length<lim/\o=.next (ρ.set i (6,(49,u.put (.tab (z9 kvs d v))))):=by
 unfold l8 at h;split at h
 ·rename_i v hv;cases h1:kd i ρ with
  |none=>rw[h1] at h;cases h
  |some p=>
   rw[h1] at h;dsimp only[Option.bind_some] at h;obtain⟨e1,e2⟩:=iE (o:=p.1) (kvs:=p.2) h1;cases h2:xl (gk ρ) with
   |none=>rw[h2] at h;cases h
   |some d=>
    rw[h2] at h;dsimp only[Option.bind_some] at h;obtain⟨hl,e⟩:=cf h;obtain⟨k1,k2⟩:=oi h2;exact⟨v,p.1,p.2,d,hv,e1,e2,k1,k2,hl,e.symm⟩
 ·cases h
theorem l9{e:Expr}{ge:ME}(hK:X.K=Γ.K)(hu:X.A.units+8<cLine)(hv:PE X (6,x,px) (lL i))(hk:(8,X,W,k,gk))(he:(8,X,W,e,ge))(hs:(21,e,(6,.Subscript (6,x,px) k pos'),pos.line)=pure false:=by rfl):
  vT X Γ W (.Assign [.Subscript (6,x,px) k pos'] e pos) (l8 i gk ge):=by
 intro pins s σ H En I ⟨B0,B1,Hs,ρ,o,re,eo,q⟩;obtain⟨v,u,kvs,d,hge,hd,ec,hgk,ok,hl,rfl⟩:=DI eo;refine wpAny_Assign_Subscript (df (he pins s σ H _ I (gD re hge)) λr s1 ⟨y,H1,I1,ry,Hs1,g1,rp⟩=>?_) hs;have re1:=re.grow g1;obtain⟨a,ho,e1,_,_,_,_⟩:=re1.own i _ hd;refine df (hv pins s1 σ H1 (λv H2=>v=(10,a)/\H2=H1) I1 (9,_,e1,rfl,rfl)) λu2 s2 ⟨z,H2,I2,rz,e5,e6⟩=>?_;subst e5 e6;cases rz;refine df (hk pins s2 σ H2 _ I2 (gD re1 hgk)) λiv s3 ⟨y3,H3,I3,ry3,Hs3,g3,rp3⟩=>?_;have re3:=re1.grow g3;obtain⟨a',ho,f1,f2,f3,f4,hq0⟩:=re3.own i _ hd;rw[e1] at f1;cases f1;obtain⟨xs,rfl,tr⟩:=hq0.tab ec;obtain⟨dd,lo,hz⟩:=ub hK I3 f4 (tr.mono g3.i);cases d with
 |tup ds=>
  obtain⟨b,vs,rfl,sq,l⟩:=cz.mp rp3;cases ry3;have tr':=tr.put ok rp3 ry (rp.mono g3.s);have hlen:(storedH xs (20,ds) b r).length<=sizeLine:=by
   have h1:=tr.length;unfold storedH;split
   ·rw[length_map];exact hz
   ·rw[length_append,length_singleton,←h1];exact le_trans (show kvs.length+1<=lim from hl) [12]
  refine wpAny_setItem_heap (knd:=j6 X.prog X.w) (hsz:=hz) (show X.A.in1.units+6<cLine from by show X.A.units+1+6<cLine;omega) (rO hK I3 ok (rp3.mono g3.i)) dd λh' dd' hsb=>?_
  obtain⟨ob,es,ep,h1,h2,h3,h4,_,h5⟩:=dd';refine(9,σ,_,FR I3 (by rw[f4];exact True.intro) hsb (5,ob,h1) (Af (xs:=storedH xs (20,ds) b r) ⟨(12,lo,hlen,h5),ob,es,ep,h1,h2,h3,h4⟩),?_)
  exact q σ Hs3 _ (g1.s.trans g3.s) (re3.write hd e1 (fX.put hq0 (12,_,rfl,tr')))
 |_=>cases ok
theorem EL{ρ:MEnv}{r:R}(h:oY i ρ=(6,r)):∃o kvs,ρ[i]?=(21,(49,o))/\o.core=.tab kvs/\r=.ok (.sh (4,kvs.length)):=by
 unfold oY at h;cases h1:kd i ρ with
 |none=>rw[h1] at h;cases h
 |some p=>
  rw[h1] at h;cases h;obtain⟨e1,e2⟩:=iE (o:=p.1) (kvs:=p.2) h1;exact⟨p.1,p.2,e1,e2,rfl⟩
theorem HH:dh X (40,"len") (λys H Q=>∃a xs,ys=[(10,a)]/\H a=(6,.ext (fY a xs))/\Q (4,xs.length) H):=λpins s σ H ys us Q I r ⟨a,xs,ex,h,q⟩=>by
 subst ex;obtain⟨u,rfl,ru⟩:=mx r;cases ru;obtain⟨⟨⟨x1,x2,x3⟩,o,es,ep,h1,h2,h3,h4⟩,_,_⟩:=(show cF X.prog X.w H s.heap a (.ext (fY a xs)) from I.hok a _ h);have hsz:es.size=xs.length:=by rw[←length_toList,h4,length_map]
 refine OE x1 h1 h2 h3 (by rw[hsz];rw[sizeLine_eq] at x2;omega) λt tk=>?_
 rw[hsz];exact⟨(4,xs.length),H,I.tok tk,(5,t,rfl),q⟩
theorem tO{p:Pos}(hg:Gl X "len")(hm:X.mg "len" = none)(hv:PE X (6,x,px) (lL i))(hs:(7,[(6,x,px)])=(false,(16,(6,x,px)))::(7,[]):=by rfl)(hpl:(10,pos,[]).any (·.1)=false:=by rfl):
  (8,X,W,(15,(6,"len",p),[(6,x,px)],pos),oY i):=
 PE.imp (mS HH hg hm PySem.boot_len (cS hv iu hs) [12] [12] hs hpl) λ_ _ σ H Q _ ⟨B0,B1,Hs,ρ,r,re,e,q⟩=>by
  obtain⟨o,kvs,hd,ec,rfl⟩:=EL e;obtain⟨a,ho,e1,e2,e3,e4,hq⟩:=re.own i _ hd;obtain⟨xs,rfl,tr⟩:=hq.tab ec;refine⟨(10,a),e1,a,xs,rfl,e4,?_⟩;rw[←tr.length];exact q _ Hs H (.refl re.b.i) (fG.of (au.mpr rfl))
end
def my(tp:List (Addr×List V))(H:Hp):Hp:=λb=>match tp.lookup b with
 |some p=>(6,(20,p))
 |none=>H b
theorem Ce{α:Type}:∀{l:List (Addr×α)}{n:Addr},(∀p∈l,p.1≠n)->l.lookup n=none
 |[],_,_=>rfl
 | (k,v)::r,n,h=>by
  rw[lookup_cons,beq_false_of_ne (Ne.symm (h (k,v) mem_cons_self))];exact Ce λp hp=>h p (31,hp)
theorem FG{α:Type}{c:α}:∀{ts:List Addr}{ps:List α}{j:Nat}{t:Addr},ts.Nodup->ts[j]?=(6,t)->ps[j]?=(6,c)->(ts.zip ps).lookup t=(6,c)
 |[],_,_,_,_,h,_=>by simp at h
 |_::_,[],_,_,_,_,h=>by simp at h
 |f::ts,d::ps,0,t,nd,h1,h2=>by
  simp at h1 h2;subst h1;subst h2;simp[lookup_cons]
 |f::ts,d::ps,j+1,t,nd,h1,h2=>by
  have h1':ts[j]?=(6,t):=by simpa using h1
  have ne:(t == f)=false:=beq_false_of_ne (by rintro rfl;exact(nodup_cons.mp nd).1 (mem_of_getElem? h1'))
  rw[zip_cons_cons,lookup_cons,ne];exact FG (nodup_cons.mp nd).2 h1' (by simpa using h2)
theorem nM{ts:List Addr}{ps:List (List V)}{H:Hp}{b:Addr}(h:b∉ts):my (ts.zip ps) H b=H b:=by
 have z:(ts.zip ps).lookup b=none:=Ce λp hp e=>h (e▸(of_mem_zip (show(p.1,p.2)∈_ from hp)).1);unfold my;rw[z]
theorem yA{ts:List Addr}{ps:List (List V)}{H:Hp}{b:Addr}{j:Nat}{p:List V}(nd:ts.Nodup)(h:ts[j]?=(6,b))(h2:ps[j]?=(6,p)):my (ts.zip ps) H b=(6,(20,p)):=by
 unfold my;rw[FG nd h h2]
theorem MU:∀(ts:List Addr),Vals (ts.map V.ref) (ts.map Value.ref)
 |[]=>.nil
 |t::ts=>.cons rfl (MU ts)
section
variable{X:Cx}{Γ:Ct}{W:XW}{pins:List (Addr×Obj)}{σ:L2.St}{H:Hp}{s:Shared}
theorem JN(I:(20,H,s)){h2:Heap}{S:Addr}{acc:Array Value}{c tk:Nat}{ts:List Addr}{ps:List (List V)}(old:∀b o,(25,b)=(6,o)->h2.get? b=(6,o))(fS:s.heap.objs.size<=S)(fT:∀t∈ts,S<t)(nd:ts.Nodup)(hz:ts.length<=sizeLine)(hl:ts.length=ps.length)
  (hS:h2.get? S=some {cls:=.type "list",data:=.seq acc c}) (hacc:acc.toList=ts.map Value.ref) (hp:∀(j:Nat)(b:Addr)(p:List V),ts[j]?=(6,b)->ps[j]?=(6,p)->p.length<=sizeLine/\∃its:List Value,Vals p its/\IsTup h2 b its.toArray):
  aR X pins σ (cA (my (ts.zip ps) H) S (13,ts.map V.ref)) {s with heap:=h2,toks:=tk}:=by
 have tbig:∀t∈ts,s.heap.objs.size<=t:=λt ht=>le_trans fS (le_of_lt (fT t ht));have nS:H S=none:=I.hok.fresh fS;have nT:∀t∈ts,H t=none:=λt ht=>I.hok.fresh (tbig t ht);have at0:∀b,b∉ts->b≠S->cA (my (ts.zip ps) H) S (13,ts.map V.ref) b=H b:=λb h1 h2=>by rw[aE h2,nM h1]
 have sm:ba H (cA (my (ts.zip ps) H) S (13,ts.map V.ref)):=λb o e=>by
  rw[at0 b (λhb=>by rw[nT b hb] at e;cases e) (λhb=>by rw[hb,nS] at e;cases e)];exact e
 have hok:rm X.prog X.w (cA (my (ts.zip ps) H) S (13,ts.map V.ref)) h2:=λb o e=>by
  by_cases hb:b=S
  ·subst hb;rw[aH] at e;cases e;exact⟨by rw[length_map];exact hz,ts.map Value.ref,c,MU ts,by rw[hS,←hacc]⟩
  ·by_cases hbt:b∈ts
   ·obtain⟨j,hj⟩:=List.mem_iff_getElem?.mp hbt;have hjl:j<ps.length:=by rw[←hl];exact(12,hj).1
    have hpj:ps[j]?=(6,ps[j]):=(19,hjl);rw[aE hb,yA nd hj hpj] at e;cases e;obtain⟨z1,its,z2,z3⟩:=hp j b _ hj hpj;exact(9,z1,its,z2,z3)
   ·rw[at0 b hbt hb] at e;exact(I.hok b o e).stay (λd v _ z=>old d v z) (λd z=>sm _ _ z) (λd ws z=>sm _ _ z) λd ob v z=>sm _ _ z
 exact I.un (t':=tk) ⟨λb o e _ _ _=>old b o e,λb o e _ _ _=>(5,o.slots,old b o e),λb o e n _=>by
   have hb:=(51,e);rw[at0 b (λhm=>absurd (11,hb,tbig b hm) (lt_irrefl _)) (λhm=>absurd (11,hb,(hm▸fS)) (lt_irrefl _))];exact n,λb o e _=>(5,o,old b o e),λb ws e=>sm _ _ e,λb o z e=>sm _ _ e,λb ps e=>(5,#[],by rw[sm _ _ e];simp)⟩ hok
theorem xN{H:Hp}:∀{kvs:List (D×D)}{ps:List (List V)}{ts:List Addr},kvs.length=ps.length->ts.length=ps.length->(∀(j:Nat)(p:D×D)(q:List V),kvs[j]?=(6,p)->ps[j]?=(6,q)->∃x y,q=[x,y]/\dB Γ H p.1 x/\dB Γ H p.2 y)->(∀(j:Nat)(t:Addr)(q:List V),ts[j]?=(6,t)->ps[j]?=(6,q)->H t=(6,(20,q)))->
  (23,H,(kvs.map λq=>D.tup [q.1,q.2]),ts.map V.ref)
 |[],ps,ts,h1,h2,_,_=>by
  cases ps with
  |nil=>
   cases ts with
   |nil=>exact .nil
   |cons _ _=>simp at h2
  |cons _ _=>simp at h1
 |p::kvs,ps,ts,h1,h2,h3,h4=>by
  cases ps with
  |nil=>simp at h1
  |cons q ps=>
   cases ts with
   |nil=>simp at h2
   |cons t ts=>
    obtain⟨x,y,rfl,r1,r2⟩:=h3 0 p q rfl rfl;exact .cons (cz.mpr ⟨t,[x,y],rfl,.inl (.inl (h4 0 t _ rfl rfl)),.cons r1 (.cons r2 .nil)⟩) (xN (by simpa using h1) (by simpa using h2) (λj p' q' a b=>h3 (j+1) p' q' (by simpa using a) (by simpa using b)) λj t' q' a b=>h4 (j+1) t' q' (by simpa using a) (by simpa using b))
theorem G7{kvs:List (D×D)}{xs:List (D×Addr×Value)}(r:jI Γ H kvs xs):∃ps:List (List V),ps.length=xs.length/\∀(j:Nat)(q:List V),ps[j]?=(6,q)->∃(k:D)(a:Addr)(u:Value)(v:V)(p:D×D),xs[j]?=(6,(k,a,u))/\kvs[j]?=(6,p)/\q=[(10,a),v]/\bV v u/\dB Γ H p.1 (10,a)/\dB Γ H p.2 v:=by
 unfold jI at r
 induction r with
 |nil=>exact(12,[],rfl,λj q h=>by simp at h)
 |@cons p x ps' xs' h t ih=>
  obtain⟨ps,hl,hp⟩:=ih;obtain⟨h1,h2,h3,v,h4,h5⟩:=h;refine(12,[(10,x.2.1),v]::ps,by rw[length_cons,length_cons,hl],λj q hq=>?_)
  cases j with
  |zero=>cases hq;exact⟨x.1,x.2.1,x.2.2,v,p,rfl,rfl,rfl,h4,h3,h5⟩
  |succ j=>
   obtain⟨k,a,u,v',p',z1,z2,z3⟩:=hp j q (by simpa using hq)
   exact⟨k,a,u,v',p',by simpa using z1,by simpa using z2,z3⟩
theorem CH{i:Nat}{ρ:MEnv}{r:R}(h:rS i ρ=(6,r)):∃o kvs,ρ[i]?=(21,(49,o))/\o.core=.tab kvs/\r=.ok (38,(kvs.map λq=>D.tup [q.1,q.2])):=by
 unfold rS at h;cases h1:kd i ρ with
 |none=>rw[h1] at h;cases h
 |some p=>
  rw[h1] at h;cases h;obtain⟨e1,e2⟩:=iE (o:=p.1) (kvs:=p.2) h1;exact⟨p.1,p.2,e1,e2,rfl⟩
theorem CZ:bootBuiltins "list" = (6,(52,"list")):=by decide +kernel
theorem GE{i:Nat}{x:Str}{px p apos cpos pos:Pos}(hc:X.calm=true)(hg:Gl X "list")(hm:X.mg "list" = none)(hv:PE X (6,x,px) (lL i))
  (hbase:attributeBase (6,x,px) "items" X.env (16,(6,x,px))=(16,(6,x,px)):=by rfl) (hline:(apos.endLine == cpos.line)=true:=by rfl)
  (hs3:(7,[(15,(6,x,px,"items",apos),[],cpos)])=(false,(16,(15,(6,x,px,"items",apos),[],cpos)))::(7,[]):=by rfl) (hs0:(7,[])=[]:=by rfl) (hpl2:(10,pos,[]).any (·.1)=false:=by rfl):
  (8,X,W,(15,(6,"list",p),[(15,(6,x,px,"items",apos),[],cpos)],pos),rS i):=by
 intro pins s σ H Q I ⟨B0,B1,Hs,ρ,r,re,e,q⟩;obtain⟨o,kvs,hd,ec,rfl⟩:=CH e;obtain⟨a,ho,e1,e2,e3,e4,hq⟩:=re.own i _ hd;obtain⟨xs,rfl,tr⟩:=hq.tab ec;refine wpAny_Call_Name_kw (pO I hg hm CZ (PyProof.Rows.callWith_type1 ?_ hs3 hpl2) [12] [12])
 rw[hs3];show wpAny _ _ (spliced ((false,(16,(15,(6,x,px,"items",apos),[],cpos)))::(10,pos,[]))) _ _ s;refine Calls.spliced_cons (wpAny_Call_method0_late hbase hline (df (hv pins s σ H (λv H2=>v=(10,a)/\H2=H) I (9,_,e1,rfl,rfl)) λu s1 ⟨z,H1,I1,rz,z5,z6⟩=>?_));subst z5 z6;cases rz;obtain⟨⟨⟨x1,x2,x3⟩,ob,es,ep,h1,h2,h3,h4⟩,_,_⟩:=(show cF X.prog X.w H1 s1.heap a (.ext (fY a xs)) from I1.hok a _ e4);have hsz:es.size=xs.length:=by rw[←length_toList,h4,length_map]
 refine⟨"dict","dict.items",PySem.F.plainAttrs_dict,PySem.F.slot_dict_items,PySem.F.type_dict_items,(12,ob,h1,h2.1),λb zb=>by cases zb;exact(12,ob,h1,h2.2.1),Calls.callWith_builtin rfl (PySem.evalArgs_none (Mg x1 h1 h2 ?_))⟩
 rw[hs0];refine Calls.spliced_nil ?_;have h1':(s1.heap.push {cls:=.type "dict_items",data:=.fields #[.ref a]}).get? a=(6,ob):=(14,h1);refine Mm (s:={s1 with heap:=s1.heap.push {cls:=.type "dict_items",data:=.fields #[.ref a]}}) (I1.ok.hd hc) (9,_,(35,_),rfl,rfl) h1' h3 (by rw[hsz];exact x2) λh' tk acc c ts hk hS hl hG hacc=>?_
 have hS:h'.get? (s1.heap.objs.size+1)=some {cls:=.type "list",data:=.seq acc c}:=by rw[←size_push];exact hS
 have hG:DG es (s1.heap.objs.size+1) h' ts:=by rw[←size_push];exact hG
 obtain⟨ps,hpl,hps⟩:=G7 tr;have nd:ts.Nodup:=hG.rise.imp λh=>ne_of_lt h;have hlt:ts.length=ps.length:=by rw[hpl,hl,hsz]
 have I2:=JN (tk:=tk) I1 (λb o e=>hk b o (14,e)) (le_succ _) hG.above nd (by rw[hl,hsz];exact x2) hlt hS hacc λj b p hj hpj=>by
  obtain⟨k,a',u,v,kv,z1,z2,rfl,z4,_⟩:=hps j p hpj;obtain⟨e',g1,g2⟩:=hG.pairs j b hj;have ee:e'=(12,Cn k,(10,a'),u):=by
   have:es.toList[j]?=(6,e'):=by rw[getElem?_toList];exact g1
   rw[h4,getElem?_map,z1] at this;exact(Option.some.inj this).symm
  subst ee;exact(9,by show 2<=sizeLine;decide,[(10,a'),u],.cons rfl (.cons z4 .nil),⟨_,g2,rfl,_,rfl⟩)
 have fT:∀t∈ts,H1 t=none:=λt ht=>I1.hok.fresh (le_trans (le_succ _) (le_of_lt (hG.above t ht)));have fS:H1 (s1.heap.objs.size+1)=none:=I1.hok.fresh (le_succ _);have SN:s1.heap.objs.size+1∉ts:=λhm=>absurd (hG.above _ hm) (lt_irrefl _);have sm:=re.b.i;have smP:∀G:Hp,(∀t∈ts,G t=none)->ba G (my (ts.zip ps) G):=λG hG b o e=>by rw[nM λhm=>by rw[hG b hm] at e;cases e];exact e
 have hsN:∀t∈ts,Hs t=none:=λt ht=>sm.free (fT t ht);have sS:=smP Hs hsN;have sH:=smP H1 fT;have fS2:my (ts.zip ps) H1 (s1.heap.objs.size+1)=none:=by rw[nM SN];exact fS
 have fSs:my (ts.zip ps) Hs (s1.heap.objs.size+1)=none:=by rw[nM SN];exact sm.free fS
 refine⟨(10,(s1.heap.objs.size+1)),_,I2,by rw[size_push];rfl,q (10,(s1.heap.objs.size+1)) (my (ts.zip ps) Hs) _ (9,sS,sH.trans (cq fS2),λb o z=>?_,λb o z=>?_) (OT.mk _ _ rfl fS fSs aH (12,_,rfl,xN (by rw[hpl,←tr.length]) hlt (λj p' q' h1 h2=>?_) λj t q' h1 h2=>yA nd h1 h2))⟩
 ·rw[aE (aZ z fSs)];by_cases hb:b∈ts
  ·obtain⟨j,hj⟩:=List.mem_iff_getElem?.mp hb;have hpj:ps[j]?=(6,(ps[j]'(by rw[←hlt];exact(12,hj).1))):=(19,_)
   rw[yA nd hj hpj] at z ⊢;exact z
  ·rw[nM hb] at z ⊢;exact sm _ _ z
 ·by_cases hb:b∈ts
  ·exact .inr (fT b hb)
  ·rw[nM hb] at z;exact .inl z
 ·obtain⟨k,a',u,v,kv,z1,z2,rfl,z4,z5,z6⟩:=hps j q' h2;rw[h1] at z2;cases z2;exact⟨_,_,rfl,z5.mono sS,z6.mono sS⟩
end
structure R4(K:Frag)(x:Str)(st:Stmt)(n:Int)(f:Addr)(fd:FuncData):Prop where
 ex:∃(oc:Value)(od:(9,Addr))(dV kV doc pm:Value)(an:(9,Addr))(cdv ct:Value)(osl:Array [26]),
  fd=(1,x,x,bL st,b9 st,ag st,dV,kV,pm,an,cdv,ct)/\K.lookup f=(6,(9,oc,od,.func fd,osl))/\codeIn K cdv x=true
 kp:(7,K,f)=true
structure FZ(K:Frag)(mg:Str->Option Value)(x:Str)(st:Stmt)(ps:List Str)(n:Int):Prop where
 ex:∃f fd t,R4 K x st n f fd/\mg x=(6,(10,f))/\dj K fd ps []/\dj K fd ps [.int n t]
def Qj(P:Program)(w:World)(K:Frag)(mg:Str->[26])(base:Heap)(Γ:Ct)(k:Nat)(x:Str)(ps:[16])(F:([21])->(9,R))(n:Int):Prop:=
 ∃f fd t,dE P w K mg base rn k f fd ps (KC Γ W0 F)/\mg x=(6,(10,f))/\(7,K,f)=true/\dj K fd ps []/\dj K fd ps [.int n t]
section
variable{P:Program}{w:World}{K:Frag}{mg:Str->Option Value}{base:Heap}{Γ:Ct}
theorem Qj.all{k:Nat}{x:Str}{ps:[16]}{F:([21])->(9,R)}{n:Int}(h:Qj P w K mg base Γ k x ps F n):(1,P,w,K,mg,Γ,k,x,ps,F):=by
 obtain⟨f,fd,t,G,hm,hk,hb,_⟩:=h;exact⟨f,fd,G,hm,hk,hb⟩
theorem JE{h:Heap}(X:K.In h)(G:h.Ns mainGlobals mg){x:Str}{st:Stmt}{ps:[16]}{n:Int}{f td:Addr}{oc tc:Value}{od an te:(9,Addr)}{osl ts:Array [26]}{kV doc pm cdv ct:Value}{tn:Nat}{tt:Tok}(a:(4,K,x)=(27,f))
  (l:K.lookup f=(6,(9,oc,od,.func (1,x,x,bL st,b9 st,ag st,(10,td),kV,pm,an,cdv,ct),osl))) (c:codeIn K cdv x=true) (k:(7,K,f)=true) (t:K.lookup td=(6,(9,tc,te,.seq #[.int n tt] tn,ts)))
  (hb:∀(kV doc pm:Value)(an:(9,Addr))(cdv ct:Value)(us:[19]),us.length=ps.length->∃q,bindArgs (1,x,x,bL st,b9 st,ag st,(10,td),kV,pm,an,cdv,ct) (5,us,[])=(seqItems? (10,td) >>= q)/\q (some #[.int n tt])=pure (ps.zip us))
  (hb2:∀(kV doc pm:Value)(an:(9,Addr))(cdv ct:Value)(us:[19]),us.length+1=ps.length->∃q,bindArgs (1,x,x,bL st,b9 st,ag st,(10,td),kV,pm,an,cdv,ct) (5,us,[])=(seqItems? (10,td) >>= q)/\q (some #[.int n tt])=pure (ps.zip (us++[.int n tt]))):FZ K mg x st ps n:=by
 refine⟨f,_,tt,(5,⟨oc,od,(10,td),kV,doc,pm,an,cdv,ct,osl,rfl,l,c⟩,k),mg_of X G a,λs us hK hl=>?_,λs us hK hl=>?_⟩
 ·rw[append_nil] at hl ⊢;obtain⟨q,h1,h2⟩:=hb kV doc pm an cdv ct us hl;exact .of_defaults rfl (hK td _ t) rfl h1 h2
 ·rw[length_append,length_singleton] at hl;obtain⟨q,h1,h2⟩:=hb2 kV doc pm an cdv ct us hl;exact .of_defaults rfl (hK td _ t) rfl h1 h2
end
end L3
namespace L2
open PySem PySem.Spec PyProof.Rows
section
variable{prog:Program}{w:World}{A:Around}{E:Value->Shared->Prop}{h:Heap}{g:Array GenState}{d:Drawn}{t:Nat}{os:OsState}{C fI:Addr}{bmB:List Value}{B nid iid:String}
structure F1(h:Heap)(C fI:Addr)(bmB:List Value)(nid:String):Prop where
 ex:∃nm q N bs bm hd sn sub ab col dd k0 k1 k2 k3 k5 mN oI,h.get? C=(6,excClassObj nm q C N bs bm hd sn sub ab col dd k0 k1 k2 k3 k5 nid)/\h.Ns N mN/\mN "__init__" = (6,(10,fI))/\h.get? fI=(6,oI)/\oI.cls=(52,"function") /\ OwnTail h bmB bm
theorem F1.keeps{h':Heap}(X:F1 h C fI bmB nid)(k:∀b o,h.get? b=(6,o)->h'.get? b=(6,o)):F1 h' C fI bmB nid:=by
 obtain⟨nm,q,N,bs,bm,hd,sn,sub,ab,col,dd,k0,k1,k2,k3,k5,mN,oI,e1,e2,e3,e4,e5,e6⟩:=X;exact⟨nm,q,N,bs,bm,hd,sn,sub,ab,col,dd,k0,k1,k2,k3,k5,mN,oI,k _ _ e1,e2.keeps k,e3,k _ _ e4,e5,e6.keeps k⟩
theorem KI(F:ExcBaseFacts B nid iid bmB)(X:F1 h C fI bmB nid){us:[19]}{Q:Fin->Shared->Prop}(hu:us.length<=sizeLine)
  (hq:∀h' e,Heap.MadeExcOf h h' e (10,C) us->h.objs.size<=e->(1,prog,w,A,call (10,fI) ((10,e)::us),(λr s'=>r=.none/\Q (.done (.ret (10,e))) s'),E,⟨h',g,d,t,os⟩)):
  (1,prog,w,A,Builtin.«type.__call__» (5,(10,C)::us,[]),Q,E,⟨h,g,d,t,os⟩):=by
 obtain⟨nm,q,N,bs,bm,hd,sn,sub,ab,col,dd,k0,k1,k2,k3,k5,mN,oI,hC,hn,hi,hf,hfc,T⟩:=X
 repeat (first|(with_reducible refine wpAny_loadPart_at hC ?_)|(with_reducible refine wpAny_madeBy_exc hC ?_)|wp_step)
 refine codeAny_call_builtin_code (Code.quiet_builtin _ F.quiet) (wpAny_check_new_subT F T hC (codeAny_exc_new_subT F T hC ?_ hu));show wpAny _ _ _ _ _ _;have up:∀b o,h.get? b=(6,o)->((h.push {cls:=.type "tuple",data:=.seq us.toArray}).push {cls:=.ref C,data:=.fields #[.ref h.objs.size,.none,.none,.none,.bool false,.none]}).get? b=(6,o):=λb o z=>(14,(14,z));have he:((h.push {cls:=.type "tuple",data:=.seq us.toArray}).push {cls:=.ref C,data:=.fields #[.ref h.objs.size,.none,.none,.none,.bool false,.none]}).get? (h.objs.size+1)=some {cls:=.ref C,data:=.fields #[.ref h.objs.size,.none,.none,.none,.bool false,.none]}:=by heap_get
 have hc:(Value.ref C::bm).contains (10,C)=true:=by simp
 unfold isInstance
 repeat (first|(with_reducible refine wpAny_loadPart_at he ?_)|(with_reducible refine wpAny_isSubtype_exc (up _ _ hC) ?_;rw[hc])|wp_step)
 show wpAny _ _ (typeLookup (10,C) _) _ _ _;refine wpAny_typeLookup_tail (up _ _ hC) (hn.keeps up) (T.keeps up) F.mroIs F.init.lookup ?_;rw[hi];refine wpAny_holding (3,?_);unfold bindSpecial;refine(3,(wpAny_typeOf (T := "function") (12,_,up _ _ hf,hfc) ?_));rw[(39,[12])]
 refine(8,(3,(wpAny_mono (hq _ (h.objs.size+1) ⟨up,get?_none_of_le (le_succ _),h.objs.size,he,get?_none_of_le [23],(14,Heap.get?_push_at rfl rfl)⟩ (le_succ _)) (λr s' ⟨z,y⟩=>?_) λ_ _ z=>z)));subst z
 wp_walk
 exact y
theorem Nk(F:ExcBaseFacts B nid iid bmB)(X:F1 h C fI bmB nid){us:[19]}{Q:Value->Shared->Prop}(hu:us.length<=sizeLine)
  (hq:∀h' e,Heap.MadeExcOf h h' e (10,C) us->h.objs.size<=e->(1,prog,w,A.under (.builtin "type.__call__" (5,(10,C)::us,[])),call (10,fI) ((10,e)::us),(λr s'=>r=.none/\Q (10,e) s'),E,⟨h',g,d,t,os⟩)):
  (1,prog,w,A,call (10,C) us,Q,E,⟨h,g,d,t,os⟩):=by
 have X':=X;obtain⟨nm,q,N,bs,bm,hd,sn,sub,ab,col,dd,k0,k1,k2,k3,k5,mN,oI,hC,_⟩:=X';have f1:=tc_lookup;have f2:=tc_bind (10,C);have hT:(⟨h,g,d,t,os⟩:Shared).TypeIs (10,C) "type" := (14,_,hC);refine wpAny_call (codeAny_of_tree ?_);show wpAny _ _ (callAny (10,C) _) _ _ _
 repeat (any_goals (first|assumption|(with_reducible refine wpAny_loadPart_at hC ?_)|wp_step))
 exact(5,rfl,codeAny_call_builtin_at (Code.quiet_builtin _ [31]) entry_typeCall (wpAny_check_type_call_sub hC (KI F X hu hq)))
end
section
variable{M:Model}{A:Around}{E:Value->Shared->Prop}{s:Shared}{base:Heap}{env:Env}{outer l:List Env}{L e:Addr}{cls:Value}{dx:Option Addr}{fl head:Value}{had:Bool}{Q:Unit->Shared->Prop}
def Tr(h base:Heap)(e:Addr)(cls:Value)(dx:(9,Addr))(fl:Value):Prop:=
 ∃oe vs T oT ts,h.get? e=(6,oe)/\(oe.cls=cls/\oe.dict=dx)/\oe.data=.fields vs/\vs[1]?=(6,(10,T))/\base.get? T=none/\T≠e/\h.get? T=(6,oT)/\oT.data=.fields ts/\ts[3]?=(6,fl)
structure F7(base:Heap)(l:List Env)(e:Addr)(cls:Value)(dx:Option Addr)(fl:Value)(h:Heap):Prop where
 st:base.StaysIn h
 nw:base.get? e=none
 fr:h.FunFrames base l
 tr:Tr h base e cls dx fl
theorem Jr(o:Obj)(f:Array Value->Array Value):(Obj.mapFields f o).dict=o.dict:=by unfold Obj.mapFields;split <;> rfl
theorem F9{oe:Obj}{vs:Array Value}(hA:A.frames=(6,(env::outer)))(hl:s.heap.FunFrames base (env::outer))(hf:env.frame=(6,L))(he:(25,e)=(6,oe))(hb:base.StaysIn s.heap)(hn:base.get? e=none)(hd:oe.data=.fields vs)(hz:1<vs.size)
  (h:∀h',F7 base (env::outer) e oe.cls oe.dict (rawInt L) h'->s.heap.UpToSlots h'->Q () {s with heap:=h'}):
  wpAny M A (do let a ←frameOf env;let pl ←entryPlaceOf L had;let b ←EntryCells.newEntry head a .none (rawInt L) .none pl;setField (.ref e) 1 b) Q E s:=by
 have no:e∉(env::outer).filterMap (·.frame):=λhm=>by
  obtain⟨_,o,ho,z⟩:=hl.mem hm;rw[he] at ho;cases ho;exact z vs hd
 refine(3,(wpAny_frameOf_fun hA hl hf λh1 hs=>(3,(wpAny_entryPlaceOf λpl hpl=>?_))));unfold EntryCells.newEntry newFields;refine(3,wpAny_newObj_type ?_ (hpl.sizeOk5 _ _ _ _ _));have e1:h1.get? e=(6,oe):=(hs.2.1 e no).trans he;have b1:base.StaysIn h1:=λb o z=>(hs.2.1 b λhm=>by rw[(hl.mem hm).1] at z;cases z).trans (hb b o z)
 generalize hob:({cls:=.type "traceback",dict:=none,data:=.fields ([head,.ref L,.none,rawInt L,.none]++(if pl.isEmpty then replicate 6 Value.none else pl)).toArray}:Obj)=ob;have e2:=get?_push_of_some (h:=h1) ob e1;refine wpAny_setField e2 hd hz (h _ ?_ ?_)
 all_goals
  have Te:h1.objs.size≠e:=ne_of_gt (51,e1);have keep:∀b o,b≠e->h1.get? b=(6,o)->((h1.push ob).update e (Obj.mapFields (·.setIfInBounds 1 (Value.ref h1.objs.size)))).get? b=(6,o):=λb o hbe hb=>by
   rw[(17,_,_,hbe)];exact(14,hb)
  have nr:∀b o,(25,b)=(6,o)->(∀vs,o.data≠.fields vs)->b≠e:=λb o hb z q=>by
   rw[q,he] at hb;cases hb;exact z vs hd
 ·have d3:=Obj.data_mapFields hd (·.setIfInBounds 1 (Value.ref h1.objs.size));have T3:=(17,h1.push ob,Obj.mapFields (·.setIfInBounds 1 (Value.ref h1.objs.size)),Te).trans (get?_push_size h1 (by rw[←hob];rfl))
  refine⟨λb o z=>keep b o (λq=>by rw[q,hn] at z;cases z) (b1 b o z),hn,hl.of_keeps λb o hb z=>?_,_,_,h1.objs.size,ob,_,get?_update_self _ e2 (Obj.isFreed_of_fields d3),(5,Obj.cls_mapFields _ _,Jr _ _),d3,by simp[hz],b1.fresh,Te,T3,by rw[←hob],?_⟩
  ·obtain⟨sl,q⟩:=hs.2.2 b o hb;exact(14,_,keep b _ (nr b o hb z) q)
  ·first|(simp;done)|(rcases hpl with rfl|⟨_,_,_,_,_,_,_,rfl⟩ <;> simp)
 ·intro b o hb z;obtain⟨sl,q⟩:=hs.2.2 b o hb;exact(5,sl,keep b _ (nr b o hb z) q)
theorem yv(F:F7 base l e cls dx fl s.heap)(h:∀h',F7 base l e cls dx .none h'->s.heap.UpToSlots h'->Q () {s with heap:=h'}):wpAny M A (setFlight (10,e) none) Q E s:=by
 obtain⟨hb,hn,hl,oe,vs,T,oT,ts,he,hc,hd,h1,hT,Te,hT2,hdT,h3⟩:=F;have z3:3<ts.size:=(Array.getElem?_eq_some_iff.mp h3).1;have other:∀b,b≠T->(s.heap.update T (Obj.mapFields (·.setIfInBounds 3 ((none:(9,Addr)).elim Value.none λf=>rawInt f)))).get? b=(25,b):=λb z=>(17,_,_,z);have nr:∀b o,(25,b)=(6,o)->(∀vs,o.data≠.fields vs)->b≠T:=λb o z y q=>by rw[q,hT2] at z;cases z;exact y ts hdT
 unfold setFlight;refine(3,wpAny_field he hd h1 ?_);rw[(39,(show(Value.ref T != Value.none)=true from by simp))]
 refine wpAny_setField hT2 hdT z3 (h _ ⟨λb o z=>(other b λq=>by rw[q,hT] at z;cases z).trans (hb b o z),hn,hl.of_keeps λb o z y=>(14,o,(other b (nr b o z y)).trans z),oe,vs,T,_,_,(other e (Ne.symm Te)).trans he,hc,hd,h1,hT,Te,get?_update_self _ hT2 (Obj.isFreed_of_fields (Obj.data_mapFields hdT _)),Obj.data_mapFields hdT _,by simp[z3]⟩ λb o z y=>(5,o.slots,(other b (nr b o z y)).trans z))
theorem KM{oe:Obj}{vs:Array Value}(hA:A.frames=(6,(env::outer)))(hl:s.heap.FunFrames base (env::outer))(hf:env.frame=(6,L))(he:(25,e)=(6,oe))(hb:base.StaysIn s.heap)(hn:base.get? e=none)(hd:oe.data=.fields vs)(h1:vs[1]?=(6,.none))
  (h:∀h',F7 base (env::outer) e oe.cls oe.dict (rawInt L) h'->s.heap.UpToSlots h'->Q () {s with heap:=h'}):wpAny M A (noteFrame (10,e) env) Q E s:=by
 unfold noteFrame;simp only[hf];refine(3,wpAny_field he hd h1 ?_);rw[(42,[12])]
 exact F9 hA hl hf he hb hn hd (Array.getElem?_eq_some_iff.mp h1).1 h
theorem F8(hA:A.frames=(6,(env::outer)))(hf:env.frame=(6,L))(F:F7 base (env::outer) e cls dx .none s.heap)(h:∀h',F7 base (env::outer) e cls dx (rawInt L) h'->s.heap.UpToSlots h'->Q () {s with heap:=h'}):wpAny M A (noteFrame (10,e) env) Q E s:=by
 obtain⟨hb,hn,hl,oe,vs,T,oT,ts,he,⟨rfl,rfl⟩,hd,h1,hT,Te,hT2,hdT,h3⟩:=F;have other:∀b,b≠T->(s.heap.update T (Obj.mapFields (·.setIfInBounds 3 Value.none))).get? b=(25,b):=λb z=>(17,_,_,z);have nr:∀b o,(25,b)=(6,o)->(∀vs,o.data≠.fields vs)->b≠T:=λb o z y q=>by rw[q,hT2] at z;cases z;exact y ts hdT
 unfold noteFrame;simp only[hf];refine(3,wpAny_field he hd h1 ?_);rw[(39,(show(Value.ref T != Value.none)=true from by simp))]
 refine(3,wpAny_field hT2 hdT h3 ?_);rw[(42,(show ¬((Value.none == rawInt L)=true) from by simp[rawInt]))]
 refine(3,wpAny_setField hT2 hdT (Array.getElem?_eq_some_iff.mp h3).1 ?_);exact F9 hA (hl.of_keeps λb o z y=>(14,o,(other b (nr b o z y)).trans z)) hf ((other e (Ne.symm Te)).trans he) (λb o z=>(other b λq=>by rw[q,hT] at z;cases z).trans (hb b o z)) hn hd (Array.getElem?_eq_some_iff.mp h1).1
  λh' x u=>h h' x λb o z y=>u b o ((other b (nr b o z y)).trans z) y
theorem KL(hf:env.frame=(6,L))(F:F7 base l e cls dx (rawInt L) s.heap)(h:Q () s):wpAny M A (noteFrame (10,e) env) Q E s:=by
 obtain⟨hb,hn,hl,oe,vs,T,oT,ts,he,hc,hd,h1,hT,Te,hT2,hdT,h3⟩:=F;unfold noteFrame;simp only[hf];refine(3,wpAny_field he hd h1 ?_);rw[(39,(show(Value.ref T != Value.none)=true from by simp))]
 refine(3,wpAny_field hT2 hdT h3 ?_);rw[(39,(show(rawInt L == rawInt L)=true from by simp))]
 exact(8,h)
theorem F7.pop{h:Heap}(F:F7 base (env::outer) e cls dx fl h):F7 base outer e cls dx fl h:=(9,F.st,F.nw,F.fr.2.2,F.tr)
end
end L2
namespace L2
open PySem PySem.Spec PyProof.Rows PySem.W
def KB(bm:[19]):([19])->Bool
 |[]=>bm == []
 |v::r=>(v::r) == bm || match v with|.ref _=>KB bm r|_=>false
theorem qg{bm:[19]}{x:Value}(hx:bm.contains x=true):∀{l:[19]},KB bm l=true->l.contains x=true
 |[],e=>by rw[beq_iff_eq.mp e] at hx;exact hx
 |v::r,e=>by
  unfold KB at e;rcases Bool.or_eq_true_iff.mp e with q|q
  ·rw[beq_iff_eq.mp q];exact hx
  ·split at q
   ·rw[List.contains_cons,qg hx q,Bool.or_true]
   ·cases q
theorem uP{bm:[19]}{B sa ow:String}(SF:StoreFacts B bm sa ow)(self:Value):∀{l:[19]},KB bm l=true->refuseLoop self "__setattr__" l=pure ()
 |[],e=>by have:=SF.passes self;rw[beq_iff_eq.mp e] at this;exact this
 |v::r,e=>by
  unfold KB at e;rcases Bool.or_eq_true_iff.mp e with q|q
  ·rw[beq_iff_eq.mp q];exact SF.passes self
  ·split at q
   ·rw[refuseLoop_ref];exact uP SF self q
   ·cases q
section
variable{prog:Program}{w:World}{A:Around}{E:Value->Shared->Prop}{s:Shared}{K:Frag}{C e:Addr}{oe:Obj}{vs:Array Value}{cd:ClassData}{name:Str}{v:Value}{bm:List Value}{B ow:String}
theorem P5{Q:Unit->Shared->Prop}(X:K.In s.heap)(hx:(25,e)=(6,oe))(hc:oe.cls=(10,C))(hd:oe.dict=none)(hv:oe.data=.fields vs)(hC:clsIn K C=(6,cd))(hh:cd.hasDict=true)
  (SF:StoreFacts B bm "object.__setattr__" "object") (ht:KB bm cd.mro=true) (hs:findIn K (10,C) "__setattr__" = (21,(40,"object.__setattr__"))) (hn:findIn K (10,C) name=(6,none))
  (h:∀h',h'.get? e=some {oe with dict:=some s.heap.objs.size}->h'.Ns1 [15] (λy=>if y=name then(6,v) else none)->(∀b o,b≠e->(25,b)=(6,o)->h'.get? b=(6,o))->Q () {s with heap:=h',toks:=s.toks+2}):
  (1,prog,w,A,setAttr (10,e) name v,Q,E,s):=by
 have I:InstAt s.heap e oe C none:=(9,hx,hc,by unfold notCls;rw[hv],by rw[hd];trivial)
 refine set_plain X I hs ?_;have ne:cd.mro.isEmpty=false:=by
  have:=qg SF.hasOwner ht;cases q:cd.mro with
  |nil=>rw[q] at this;cases this
  |cons _ _=>rfl
 have sub:Looks (model prog w) s.heap (isInstance (10,e) (52,"object")) true:=I.type.andThen (looks_mroIn X (by unfold mroIn;rw[hC,Option.bind_some,(42,(by rw[ne];decide)),qg SF.hasOwner ht]))
 refine codeAny_call_builtin SF.slot.plain SF.entry (@check_slot (model prog w) _ _ {s with toks:=s.toks+1} "object.__setattr__" "object" "__setattr__" (10,e) [.str name s.toks,v] [] _ SF.kind SF.split sub (SF.args (10,e) (.str name s.toks) v) ?_);have hm:Looks (model prog w) s.heap (mroOf (10,C)) cd.mro:=(looks_clsIn X hC).andThen .now;rw[osa_eq,refuse_eq];refine(3,(3,Looks.here (s:=[36]) I.type (3,Looks.here (s:=[36]) hm ?_)));rw[uP SF _ ht];refine(8,(3,Looks.here (s:=[36]) I.type (3,Looks.here (s:=[36]) (looks_findIn X hn) (3,Looks.here (s:=[36]) .now ?_))));obtain⟨oc,od,oda,osl⟩:=oe;dsimp only at hc hd hv;subst hc hd hv;refine(3,(8,(3,(3,wpAny_loadPart hx (3,Looks.here (s:=[36]) (looks_clsIn X hC) ?_)))));rw[hh];rw[(42,[12])]
 have ee:(s.heap.push emptyDict).get? e=(6,(9,(10,C),none,.fields vs,osl)):=(14,hx);have de:s.heap.objs.size≠e:=ne_of_gt (51,hx);refine(3,wpAny_alloc (s:=[36]) (o:=emptyDict) (3,wpAny_update (s:={s with heap:=s.heap.push emptyDict,toks:=s.toks+1}) ee ?_));have e2:=get?_update_self (λo:Obj=>{o with dict:=some s.heap.objs.size}) ee rfl;have ot:∀b,b≠e->((s.heap.push emptyDict).update e λo=>{o with dict:=some s.heap.objs.size}).get? b=(s.heap.push emptyDict).get? b:=λb z=>(17,_,_,z);have nd:((s.heap.push emptyDict).update e λo=>{o with dict:=some s.heap.objs.size}).Ns s.heap.objs.size (λ_=>none):=⟨emptyDict,#[],_,(ot _ de).trans (35,s.heap),rfl,(λe he=>absurd he [20]),λ_=>rfl⟩
 refine(8,(3,(8,(3,?_))));refine wpAny_nsSet1 (s:={s with heap:=(s.heap.push emptyDict).update e λo=>{o with dict:=some s.heap.objs.size},toks:=s.toks+1}) (Heap.Ns1.of_empty nd) λh' n2 s2=>?_;obtain⟨oD,esD,epD,hoD,hdD,hcD⟩:=n2.count (ns:=[name]) (PySem.Within.cons name v (ns:=[]) λy hy=>absurd rfl hy);refine(3,wpAny_lookBehind hoD (by rw[hdD];exact pastItsLine_dict (le_trans hcD (Nat.succ_le_succ (zero_le _)))) ?_)
 exact(8,(h h' ((s2.2 e (Ne.symm de)).trans e2) n2 λb o z y=>(s2.2 b (λq=>by subst q;exact absurd (51,y) (lt_irrefl _))).trans ((ot b z).trans (14,y))))
theorem P6{b:Bool}{dx:Addr}{od:Obj}{Q:Value->Shared->Prop}(X:K.In s.heap)(hx:(25,e)=(6,oe))(hc:oe.cls=(10,C))(hd:oe.dict=(6,dx))(ho:(25,dx)=(6,od))(hv:oe.data=.fields vs)(FA:ExcAttrBase B bm)(hC:clsIn K C=(6,cd))(hh:cd.hasDict=true)(ht:KB bm cd.mro=true)
  (hga:findIn K (10,C) "__getattribute__" = (21,(40,"BaseException.__getattribute__"))) (hgg:findIn K (10,C) "__getattr__" = (6,none)) (hn:findIn K (10,C) name=(6,none)) (hl:lookIn name od=(21,v)) (hv':handedIn v=true)
  (h:Q v {s with toks:=s.toks+1}):(1,prog,w,A,getAttr (10,e) name b,Q,E,s):=by
 have I:InstAt s.heap e oe C (6,od):=(9,hx,hc,by unfold notCls;rw[hv],by rw[hd];exact ho)
 obtain⟨hp,g,d,t,os⟩:=s;have L0:=I.type (M:=model prog w);have L1:=looks_findIn (M:=model prog w) X hga;have hh':hasDictIn K C=true:=by unfold hasDictIn;rw[hC];exact hh
 have L2:=looks_find (M:=model prog w) X I (findObj_own hh' hn rfl hl);unfold getAttr getAttrBy;refine(3,wpAny_mkText (wpAny_holding (3,L0.at (3,L1.at ?_))));dsimp only;have z1:(onTheHeap (Value.ref C) && Value.builtin "BaseException.__getattribute__" == Value.builtin "object.__getattribute__")=false:=by
  rw[show(Value.builtin "BaseException.__getattribute__" == Value.builtin "object.__getattribute__")=false from by decide +kernel];exact Bool.and_false _
 have z0:(b && onTheHeap (Value.builtin "BaseException.__getattribute__"))=false:=by cases b <;> rfl
 rw[(42,(by rw[z1];exact Bool.false_ne_true))]
 unfold getAttrByItsOwn;have f3:=FA.ga.bind (10,e);have L3:=looks_findIn (M:=model prog w) X hgg;have ne:cd.mro.isEmpty=false:=by
  have:=qg FA.hasBase ht;cases q:cd.mro with
  |nil=>rw[q] at this;cases this
  |cons _ _=>rfl
 have sub:Looks (model prog w) hp (isInstance (10,e) (52,"BaseException")) true:=I.type.andThen (looks_mroIn X (by unfold mroIn;rw[hC,Option.bind_some,(42,(by rw[ne];decide)),qg FA.hasBase ht]))
 repeat (any_goals (first|assumption|(with_reducible refine L3.at ?_)|wp_step))
 refine codeAny_call_builtin FA.ga.plain PySem.F.entry_bexc_ga (@check_slot (model prog w) _ _ ⟨hp,g,d,t+1,os⟩ "BaseException.__getattribute__" "BaseException" "__getattribute__" (10,e) [.str name t] [] _ [31] [31] sub (PySem.F.args_bexc_ga (10,e) (.str name t)) ?_)
 refine(3,(8,(3,(8,(3,L0.at (3,L2.at (8,?_)))))));show wpAny _ _ (handedOut v) _ _ _;rw[handedOut_of hv'];exact(8,h)
end
theorem rm.onlyT{P:Program}{w:World}{H:Hp}{h h':Heap}(x:rm P w H h)(k:∀b u,(∃o,H b=(6,o))->h.get? b=(6,u)->h'.get? b=(6,u)):rm P w H h':=λa o e=>
 (x a o e).stay (λb u z q=>k b u (z.elim (λy=>(5,o,by rw[y];exact e)) λy=>(5,_,y)) q) (λ_ q=>q) (λ_ _ q=>q) λ_ _ _ q=>q
theorem cF.there{P:Program}{w:World}{H:Hp}{h:Heap}{a:Addr}{o:HO}(x:cF P w H h a o):∃u,h.get? a=(6,u):=by
 cases o with
 |lst xs=>obtain⟨_,_,_,_,e⟩:=x;exact(5,_,e)
 |tup xs=>obtain⟨_,_,_,ob,e,_⟩:=x;exact(5,_,e)
 |dK kvs=>obtain⟨_,_,_,_,ob,_,_,e,_⟩:=x;exact(5,_,e)
 |dT kvs=>obtain⟨_,_,_,_,ob,_,_,e,_⟩:=x;exact(5,_,e)
 |set S n=>obtain⟨ob,_,_,_,e,_⟩:=x;exact(5,_,e)
 |ins C dx fs=>obtain⟨_,_,_,e,_⟩:=x;exact(5,_,e)
 |own y=>exact x
 |xd fs=>obtain⟨_,⟨od,_,_,e,_⟩,_⟩:=x;exact(5,_,e)
 |rng lo hi=>obtain⟨_,_,_,e⟩:=x;exact(5,_,e)
 |frz ob u=>exact(5,_,x.1)
 |tbl ps=>exact(5,_,x)
 |tab good=>obtain⟨_,e,_⟩:=x;exact(5,_,e)
 |fnc c q=>exact x.1
 |met f y=>exact(5,_,x)
 |ext φ=>exact x.2.1
structure Kt(P:Program)(w:World)(fs:List Addr)(l:List Env)(H0:Hp)(h0 base:Heap)(ea:Addr)(H':Hp)(h:Heap):Prop where
 un:Un fs [] H0 H' h0 h
 hok:rm P w H' h
 st:base.StaysIn h
 nw:base.get? ea=none
 fr:h.FunFrames base l
 bk:∀b o,h.get? b=(6,o)->b∉frs l->(∃u,H' b=(6,u))\/(∃o0,h0.get? b=(6,o0))->base.get? b=(6,o)
 hf:∀b∈frs l,H' b=none
 lf:∀b∈frs l,b∈fs\/h0.get? b=none
 fl:∀b∈fs,b∈frs l
section
variable{P:Program}{w:World}{fs:List Addr}{l outer:List Env}{env:Env}{H0 H':Hp}{h0 base h h':Heap}{ea:Addr}
theorem Kt.step(x:Kt P w fs l H0 h0 base ea H' h)(k:base.StaysIn h')(f:h'.FunFrames base l)(u:h.UpToSlots h'):Kt P w fs l H0 h0 base ea H' h':=by
 have old:∀b o,h.get? b=(6,o)->b∉frs l->(∃u,H' b=(6,u))\/(∃o0,h0.get? b=(6,o0))->h'.get? b=(6,o):=λb o e n z=>k _ _ (x.bk b o e n z);have slotF:∀b o,b∈frs l->h.get? b=(6,o)->∃sl,h'.get? b=some {o with slots:=sl}:=λb o hb e=>by
  obtain⟨_,o',e',n⟩:=x.fr.mem hb;rw[e] at e';cases e';exact u b o e n
 refine⟨⟨λb o e n hb hx=>?_,λb o e n hb hx=>?_,x.un.free,λb o e hx=>?_,x.un.tups,x.un.frzs,x.un.tbls⟩,x.hok.onlyT λb v ⟨o,z⟩ e=>?_,k,x.nw,f,λb o e n z=>?_,x.hf,x.lf,x.fl⟩
 ·refine old b o (x.un.keep b o e n hb hx) (λhl=>?_) (.inr (5,o,e));rcases x.lf b hl with q|q
  ·exact hb q
  ·rw[q] at e;cases e
 ·obtain⟨sl,q⟩:=x.un.slot b o e n hb hx;obtain⟨sl',q'⟩:=slotF b _ (x.fl b hb) q;exact(5,sl',q')
 ·obtain⟨o',q⟩:=x.un.there b o e hx;by_cases hl:b∈frs l
  ·obtain⟨sl,z⟩:=slotF b o' hl q;exact(5,_,z)
  ·exact(5,o',old b o' q hl (.inr (5,o,e)))
 ·exact old b v e (λhl=>by rw[x.hf b hl] at z;cases z) (.inl (5,o,z))
 ·
  have:∃o1,h.get? b=(6,o1):=by
   rcases z with⟨v,z⟩|⟨o0,z⟩
   ·exact(x.hok b v z).there
   ·exact x.un.there b o0 z [20]
  obtain⟨o1,e1⟩:=this;have e2:=old b o1 e1 n z;rw[e] at e2;cases e2;exact x.bk b o e1 n z
theorem Kt.pop{L:Addr}(x:Kt P w fs (env::outer) H0 h0 base ea H' h)(e:fs=frs outer)(hf:env.frame=(6,L))(hL:h0.get? L=none):Kt P w (frs outer) outer H0 h0 base ea H' h:=by
 subst e;have up:∀b,b∈frs outer->b∈frs (env::outer):=λb hb=>by unfold frs at hb ⊢;rw[filterMap_cons,hf];exact .tail _ hb
 refine⟨x.un,x.hok,x.st,x.nw,x.fr.2.2,λb o e n z=>x.bk b o e (λhb=>?_) z,λb hb=>x.hf b (up b hb),λb hb=>.inl hb,λb hb=>hb⟩;have hb':b=L\/b∈frs outer:=by unfold frs at hb ⊢;rw[filterMap_cons,hf] at hb;exact mem_cons.mp hb
 rcases hb' with q|q
 ·subst q;rcases z with⟨v,z⟩|⟨o0,z⟩
  ·rw[x.hf b hb] at z;cases z
  ·rw[hL] at z;cases z
 ·exact n q
def XM(h base:Heap)(ea:Addr)(C:Addr)(dx L:Addr):Prop:=
 (∃oe vs,h.get? ea=(6,oe)/\oe.cls=(10,C)/\oe.dict=(6,dx)/\oe.data=.fields vs/\vs[1]?=(6,.none))\/Tr h base ea (10,C) (6,dx) .none\/Tr h base ea (10,C) (6,dx) (rawInt L)
end
def XE(X:Cx)(E:XK)(ev:Value)(s':Shared):Prop:=
 ∃ea C dx H' base,(ev=(10,ea)/\X.A.frames=(6,X.stack))/\s'.os=X.s₀.os/\AllBare s'.gens/\Kt X.prog X.w X.fs X.stack X.H₀ X.s₀.heap base ea H' s'.heap/\XM s'.heap base ea C dx X.env.locals/\E (10,C) (6,dx) H'
def G1(P:Program)(w:World):G0:=λouter H s E ev s'=>
 ∃ea C dx H' base,ev=(10,ea)/\s'.os=s.os/\AllBare s'.gens/\Kt P w (frs outer) outer H s.heap base ea H' s'.heap/\Tr s'.heap base ea (10,C) (6,dx) .none/\E (10,C) (6,dx) H'
section
variable{X:Cx}{E:XK}{pins:List (Addr×Obj)}{σ:St}{H:Hp}{s s':Shared}{ev:Value}
theorem Nj{M:Model}{A:Around}{E:Value->Shared->Prop}{base:Heap}{l:List Env}{e L:Addr}{cls fl:Value}{dx:(9,Addr)}{Q:Unit->Shared->Prop}(F:F7 base l e cls dx fl s.heap)(h:∀h',F7 base l e cls dx (rawInt L) h'->s.heap.UpToSlots h'->Q () {s with heap:=h'}):wpAny M A (setFlight (10,e) (6,L)) Q E s:=by
 obtain⟨hb,hn,hl,oe,vs,T,oT,ts,he,hc,hd,h1,hT,Te,hT2,hdT,h3⟩:=F;have z3:3<ts.size:=(Array.getElem?_eq_some_iff.mp h3).1;have other:∀b,b≠T->(s.heap.update T (Obj.mapFields (·.setIfInBounds 3 ((some L:(9,Addr)).elim Value.none λf=>rawInt f)))).get? b=(25,b):=λb z=>(17,_,_,z);have nr:∀b o,(25,b)=(6,o)->(∀vs,o.data≠.fields vs)->b≠T:=λb o z y q=>by rw[q,hT2] at z;cases z;exact y ts hdT
 unfold setFlight;refine(3,wpAny_field he hd h1 ?_);rw[(39,(show(Value.ref T != Value.none)=true from by simp))]
 refine wpAny_setField hT2 hdT z3 (h _ ⟨λb o z=>(other b λq=>by rw[q,hT] at z;cases z).trans (hb b o z),hn,hl.of_keeps λb o z y=>(14,o,(other b (nr b o z y)).trans z),oe,vs,T,_,_,(other e (Ne.symm Te)).trans he,hc,hd,h1,hT,Te,get?_update_self _ hT2 (Obj.isFreed_of_fields (Obj.data_mapFields hdT _)),Obj.data_mapFields hdT _,by simp[z3]⟩ λb o z y=>(5,o.slots,(other b (nr b o z y)).trans z))
theorem XE.note{M:Model}{E':Value->Shared->Prop}{ea:Addr}{C dx:Addr}{H':Hp}{base:Heap}{Q:Unit->Shared->Prop}(hst:X.stack=X.env::X.outer)(hf:X.env.frame=(6,X.env.locals))(hA:X.A.frames=(6,X.stack))
  (u:Kt X.prog X.w X.fs X.stack X.H₀ X.s₀.heap base ea H' s'.heap) (m:XM s'.heap base ea C dx X.env.locals)
  (h:∀h',Kt X.prog X.w X.fs X.stack X.H₀ X.s₀.heap base ea H' h'->F7 base X.stack ea (10,C) (6,dx) (rawInt X.env.locals) h'->Q () {s' with heap:=h'}):wpAny M X.A (noteFrame (10,ea) X.env) Q E' s':=by
 have go:∀h',F7 base (X.env::X.outer) ea (10,C) (6,dx) (rawInt X.env.locals) h'->s'.heap.UpToSlots h'->Q () {s' with heap:=h'}:=λh' F k=>by
  rw[←hst] at F;exact h h' (u.step F.st F.fr k) F
 have fr:=u.fr;rw[hst] at fr hA;rcases m with⟨oe,vs,e1,e2,e3,e4,e5⟩|m|m
 ·exact KM hA fr hf e1 u.st u.nw e4 e5 λh' F k=>go h' (by rw[e2,e3] at F;exact F) k
 ·exact F8 hA hf (9,u.st,u.nw,fr,m) go
 ·exact KL hf (l:=X.env::X.outer) (9,u.st,u.nw,fr,m) (go s'.heap (9,u.st,u.nw,fr,m) (.refl _))
theorem yu(hst:X.stack=X.env::X.outer)(hf:X.env.frame=(6,X.env.locals)):PassesOwn (model X.prog X.w) X.A X.env (XE X E):=λev s' ⟨ea,C,dx,H',base,⟨e1,hA⟩,e2,e3,u,m,q⟩=>by
 subst e1;refine XE.note hst hf hA u m λh' u' F=>?_;obtain⟨hb,hn,hl,oe,vs,T,oT,ts,he,hc,hd,h1,hT,Te,hT2,hdT,h3⟩:=F;refine(3,wpAny_field (s:={s' with heap:=h'}) he hd h1 ?_);rw[(42,[20]),hf]
 refine Nj (s:={s' with heap:=h'}) (l:=X.stack) ⟨hb,hn,hl,oe,vs,T,oT,ts,he,hc,hd,h1,hT,Te,hT2,hdT,h3⟩ λh2 F k=>?_;exact⟨ea,C,dx,H',base,(5,rfl,hA),e2,e3,u'.step F.st F.fr k,.inr (.inr F.tr),q⟩
theorem HR{M:Model}{E':Value->Shared->Prop}(hst:X.stack=X.env::X.outer)(hf:X.env.frame=(6,X.env.locals))(hL:X.s₀.heap.get? X.env.locals=none)(h:XE X E ev s'):
  wpAny M X.A (leaving X.env ev) (λ_ s2=>G1 X.prog X.w X.outer X.H₀ X.s₀ E ev s2) E' s':=by
 obtain⟨ea,C,dx,H',base,⟨e1,hA⟩,e2,e3,u,m,q⟩:=h;subst e1;unfold leaving;refine(3,(XE.note hst hf hA u m λh' u' F=>yv (s:={s' with heap:=h'}) F λh2 F2 k=>?_));have u2:=u'.step F2.st F2.fr k;rw[hst] at u2;exact⟨ea,C,dx,H',base,rfl,e2,e3,u2.pop rfl hf hL,F2.tr,q⟩
theorem KH(hx:X.ex=[])(hst:X.stack=X.env::X.outer)(hf:X.env.frame=(6,X.env.locals))(I:(20,H,s))(h:G1 X.prog X.w X.stack H s E ev s'):XE X E ev s':=by
 obtain⟨ea,C,dx,H',base,e1,e2,e3,u,m,q⟩:=h;have I':=I.call' (s':=s') e2 u.un u.hok e3 (λb hb=>absurd hb [20])
 have b:=I'.base;rw[hx] at b;have b0:=I.base;rw[hx] at b0;refine⟨ea,C,dx,H',base,(5,e1,I.ok.frames),I'.os,e3,⟨b,u.hok,u.st,u.nw,u.fr,λc o z n y=>u.bk c o z n (y.imp id λ⟨o0,y⟩=>b0.there c o0 y [20]),u.hf,λc hc=>?_,λc hc=>?_⟩,.inr (.inl m),q⟩
 ·rw[hst] at hc;have hb':c=X.env.locals\/c∈frs X.outer:=by unfold frs at hc ⊢;rw[filterMap_cons,hf] at hc;exact mem_cons.mp hc
  rcases hb' with z|z
  ·exact .inr (by rw[z];exact get?_none_of_le I.ok.above)
  ·exact .inl z
 ·rw[hst];unfold Cx.fs at hc;unfold frs at hc ⊢;rw[filterMap_cons,hf];exact .tail _ hc
end
abbrev Qa:[19]:=[(52,"ValueError"),(52,"Exception"),(52,"BaseException"),(52,"object")]
def HS(K:Frag)(C fI:Addr):Bool:=match K.lookup C with
 |some ⟨.type "type",_,.cls cd,sl⟩=>(match cd.mro,sl.toList with
  |.ref C'::bm,[_,_,_,_,some (.builtin n),_]=>C' == C && n == "ValueError.__new__" && !cd.hasDel && tailIn K Qa bm && nsOkIn K cd.ns && nsIn K cd.ns "__init__" == (27,fI) && cd.hasDict && KB Qa bm
  |_,_=>false)
 |_=>false
structure XC(K:Frag)(C fI:Addr)(f:Str):Prop where
 cl:HS K C fI=true
 fn:typeIn K (10,fI)=(6,(52,"function"))
 sa:findIn K (10,C) "__setattr__" = (21,(40,"object.__setattr__"))
 ga:findIn K (10,C) "__getattribute__" = (21,(40,"BaseException.__getattribute__"))
 gg:findIn K (10,C) "__getattr__" = (6,none)
 no:findIn K (10,C) f=(6,none)
 kp:keepIn K (10,C)=true
section
variable{K:Frag}{C fI:Addr}{f:Str}{h:Heap}
theorem XC.cd(x:XC K C fI f):∃cd,clsIn K C=(6,cd)/\cd.hasDict=true/\KB Qa cd.mro=true:=by
 have q:=x.cl;unfold HS at q;split at q
 ·rename_i dd cd sl ho;split at q
  ·rename_i C' bm k0 k1 k2 k3 n k5 hm hs;simp only[Bool.and_eq_true,beq_iff_eq,Bool.not_eq_true'] at q;refine(9,cd,by unfold clsIn;rw[ho],q.1.2,?_)
   rw[hm];unfold KB;simp[q.2]
  ·cases q
 ·cases q
theorem GP{N:Addr}{n:Str}{v:Value}(X:K.In h)(G:∃m,h.Ns N m)(e:nsIn K N n=(21,v)):∃m,h.Ns N m/\m n=(6,v):=by
 obtain⟨m,G⟩:=G;have G':=G;refine(12,m,G',?_);obtain⟨o,es,ep,ho,hd,_,hf⟩:=G;unfold nsIn at e;split at e
 ·rename_i c d es' n' sl q;have:=X _ _ q;rw[ho] at this;cases this;cases hd;rw[←hf];unfold nsFind findBy;rw[←Array.find?_toList];split at e
  ·rename_i he;cases e;rw[he];rfl
  ·split at e <;> cases e
 ·cases e
theorem XC.cls(x:XC K C fI f)(X:K.In h):F1 h C fI Qa "ValueError.__new__" := by
 have q:=x.cl;unfold HS at q;split at q
 ·rename_i dd cd sl ho;split at q
  ·rename_i C' bm k0 k1 k2 k3 n k5 hm hs;simp only[Bool.and_eq_true,beq_iff_eq,Bool.not_eq_true'] at q;obtain⟨⟨⟨⟨⟨⟨⟨rfl,rfl⟩,hdel⟩,ht⟩,hok⟩,hni⟩,hdd⟩,_⟩:=q;obtain⟨nm,bs,mro,ns,qn,hd,sn,sub,ab,col,del⟩:=cd;dsimp only at hm hdel hok hni hdd;subst hm hdel;have hsl:sl=#[k0,k1,k2,k3,(6,(40,"ValueError.__new__")),k5]:=by
    obtain⟨l⟩:=sl;simp only at hs;rw[hs]
   subst hsl;obtain⟨m,G,e⟩:=GP X (5,_,.of_isNs (isNs_of_in X hok)) hni;obtain⟨oI,e1,e2⟩:=Option.map_eq_some_iff.mp (show(K.lookup fI).map (·.cls)=(6,(52,"function")) from x.fn);exact⟨nm,qn,ns,bs,bm,hd,sn,sub,ab,col,dd,k0,k1,k2,k3,k5,m,oI,X _ _ ho,G,e,X _ _ e1,e2,tail_of_in X ht⟩
  ·cases q
 ·cases q
end
abbrev XO(e:Addr)(oe:Obj):HO:=.ext λh=>h.get? e=(6,oe)
theorem MM{P:Program}{w:World}{H:Hp}{h:Heap}{e:Addr}{oe:Obj}(x:h.get? e=(6,oe)):cF P w H h e (XO e oe):=(12,x,(5,_,x),λ_ _ z k=>k _ z)
section
variable{X:Cx}{pins:List (Addr×Obj)}{σ:St}{H:Hp}{s:Shared}{C fI e:Addr}{f:Str}{oe:Obj}{vs:Array Value}{v:V}{u:Value}
theorem Ni(I:(20,H,s))(x:XC X.K C fI f)(he:H e=(6,XO e oe))(hc:oe.cls=(10,C))(hd:oe.dict=none)(hv:oe.data=.fields vs)(r:bV v u){Q:Unit->Shared->Prop}
  (h:∀s' dx,H dx=none->dx≠e->(20,cA (cA H e (XO e {oe with dict:=some dx})) dx (.xd [(f,v)]),s')->Q () s'):(1,X.prog,X.w,X.A,setAttr (10,e) f u,Q,X.xe,s):=by
 obtain⟨cd,c1,c2,c3⟩:=x.cd;have hx:(25,e)=(6,oe):=(show cF X.prog X.w H s.heap e (XO e oe) from I.hok e _ he).1;have hn:H [15]=none:=I.hok.fresh [23];have ne:s.heap.objs.size≠e:=ne_of_gt (51,hx);refine P5 I.kIn hx hc hd hv c1 c2 PySem.F.store_ValueError c3 x.sa x.no λh' e1 n1 k=>h _ [15] hn ne ?_;have other:∀b,b≠s.heap.objs.size->b≠e->cA (cA H e (XO e {oe with dict:=some s.heap.objs.size})) [15] (.xd [(f,v)]) b=H b:=λb z y=>by rw[aE z,aE y]
 have neH:∀b o,H b=(6,o)->b≠s.heap.objs.size:=λb o z y=>by rw[y,hn] at z;cases z
 have neE:∀b o,H b=(6,o)->o≠XO e oe->b≠e:=λb o z n y=>by rw[y,he] at z;cases z;exact n rfl
 have old:∀b o,(25,b)=(6,o)->b≠s.heap.objs.size:=λb o z=>ne_of_lt (51,z);refine I.un (h':=h') (t':=s.toks+2) ⟨λb o z n _ _=>k b o (λy=>by rw[y,he] at n;cases n) z,λb o z n _ _=>(5,o.slots,k b o (λy=>by rw[y,he] at n;cases n) z),λb o z n _=>?_,λb o z _=>?_,λb xs z=>?_,λb o w z=>?_,λb ps z=>?_⟩ λb o z=>?_
 ·rw[other b (old b o z) (λy=>by rw[y,he] at n;cases n)];exact n
 ·by_cases y:b=e
  ·rw[y];exact(5,_,e1)
  ·exact(5,o,k b o y z)
 ·rw[other b (neH b _ z) (neE b _ z (λy=>by cases y))];exact z
 ·rw[other b (neH b _ z) (neE b _ z (λy=>by cases y))];exact z
 ·rw[other b (neH b _ z) (neE b _ z (λy=>by cases y))];exact(5,#[],by rw[z];simp)
 ·by_cases y:b=s.heap.objs.size
  ·rw[y,aH] at z;cases z;rw[y];refine(12,_,n1,λg=>?_);show RelO (List.lookup g [(f,v)]) (if g=f then(6,u) else none);by_cases q:g=f
   ·rw[(39,q),q];simp[List.lookup];exact r
   ·rw[(42,q)];have:(g == f)=false:=by simpa using q
    simp[List.lookup,this];trivial
  ·by_cases y2:b=e
   ·rw[aE y,y2,aH] at z;cases z;rw[y2];exact MM e1
   ·rw[other b y y2] at z;refine(I.hok b o z).stay (λc w hc q=>k c w ?_ q) (λc q=>?_) (λc xs q=>?_) λc ob yy q=>?_
    ·rcases hc with rfl|hc
     ·exact y2
     ·exact neE c _ hc (λy=>by cases y)
    all_goals rw[other c (neH c _ q) (neE c _ q (λy=>by cases y))];exact q
end
section
variable{M:Model}{A:Around}{E:Value->Shared->Prop}{s:Shared}{env:Env}{C fI:Addr}{bm:List Value}{nid:String}
theorem KJ{x:Sem Value}{Q:Flow->Shared->Prop}(hb:bm.contains (52,"BaseException")=true)(hh:A.handled=none)
  (h:wpAny M A x (λv s1=>∃e oe vs,v=(10,e)/\F1 s1.heap C fI bm nid/\s1.heap.get? e=(6,oe)/\oe.cls=(10,C)/\oe.data=.fields vs/\vs[1]?=(6,.none)/\E (10,e) s1) E s):wpAny M A (raiseStmt env (6,x) none) Q E s:=by
 unfold raiseStmt;refine(3,(wpAny_mono h (λv s1 ⟨e,oe,vs,h1,X,he,hc,hd,h2,hE⟩=>?_) λ_ _ z=>z));subst h1;obtain⟨nm,q,N,bs,bt,hdt,sn,sub,ab,col,dd,k0,k1,k2,k3,k5,mN,oI,hC,hn,hi,hf,hfc,T⟩:=X;have hcB:(Value.ref C::bt).contains (52,"BaseException")=true:=by rw[List.contains_cons,T.hasType hb,Bool.or_true]
 obtain⟨hp,g,d,tk,os⟩:=s1
 repeat (first|(with_reducible refine wpAny_loadPart_at he ?_;rw[hc])|(with_reducible refine wpAny_loadPart_at hC ?_)|(with_reducible refine wpAny_isSubtype_exc hC ?_;rw[hcB])|(with_reducible refine wpAny_field he hd h2 ?_)|wp_step)
 exact wpAny_raiseNew_none hh hE
end
def L7(C:Addr)(f:Str):Sp:=λus H Q _=>∃e oe vs v,us=[(10,e),v]/\H e=(6,XO e oe)/\oe.cls=(10,C)/\oe.dict=none/\oe.data=.fields vs/\∀dx,H dx=none->dx≠e->Q .non (cA (cA H e (XO e {oe with dict:=some dx})) dx (.xd [(f,v)]))
section
variable{X:Cx}{C fI:Addr}{f y:Str}{p1 p2 p3 p4:Pos}
def tI(C:Addr)(f:Str):TS:=λD σ H=>∃e oe vs v,σ[0]?=(27,e)/\σ[1]?=(21,v)/\H e=(6,XO e oe)/\oe.cls=(10,C)/\oe.dict=none/\oe.data=.fields vs/\∀dx,H dx=none->dx≠e->D.nx σ (cA (cA H e (XO e {oe with dict:=some dx})) dx (.xd [(f,v)]))
theorem Ll(x:XC X.K C fI f)(h0:X.N[0]?=(6,("self":Str)))(h1:X.N[1]?=(6,y))(v0:HQ X.env.scope "self")(v1:HQ X.env.scope y)(hs:(21,(6,y,p3),(6,(6,"self",p1,f,p2)),p4.line)=pure false)
  (hd:(y == ("__debug__":Str))=false) (hcd:(y == ("__classdict__":Str))=false):PS X (.Assign [(6,"self",p1,f,p2)] (6,y,p3) p4) (tI C f):=by
 intro pins s σ H D I ⟨e,oe,vs,v,a0,a1,he,hc,hdi,hv,q⟩;refine plainObj_wpAny_Assign_Attribute (df (zc h1 v1 hd hcd pins s σ H (λz H1=>z=v/\H1=H) I (9,v,a1,rfl,rfl)) λu s1 ⟨z,H1,I1,r1,z1,z2⟩=>?_) hs;subst z1 z2;refine df (zc h0 v0 [12] [12] pins s1 σ H1 (λz' H2=>z'=(10,e)/\H2=H1) I1 (9,_,a0,rfl,rfl)) λov s2 ⟨z',H2,I2,r2,y1,y2⟩=>?_
 subst y1 y2;obtain rfl:ov=Value.ref e:=r2;exact Ni I2 x he hc hdi hv r1 λs' dx n1 n2 I3=>(9,σ,_,I3,q dx n1 n2)
end
section
variable{P:Program}{w:World}{K:Frag}{mg:Str->Option Value}{base:Heap}
theorem M5{qual:Str}{st:Stmt}{fI C:Addr}{fd:FuncData}{f y:Str}{p1 p2 p3 p4:Pos}(F:D9 K "__init__" qual st fI fd)(S:aw [("self":Str),y] [("self":Str),y] (ag st))(x:XC K C fI f)
  (hb:b9 st=[.Assign [(6,"self",p1,f,p2)] (6,y,p3) p4]) (v0:HQ (ag st) "self") (v1:HQ (ag st) y) (hd:(y == ("__debug__":Str))=false) (hcd:(y == ("__classdict__":Str))=false)
  (hs:∀env:Env,swapsWith (6,y,p3) (6,(6,"self",p1,f,p2)) p4.line env=pure false):dE P w K mg base rn 1 fI fd [("self":Str),y] (L7 C f):=by
 refine F.ok (k:=0) S (λus H Q E ⟨e,oe,vs,v,h,_⟩=>by rw[h];rfl) λcdv A outer s H us Q E hr ⟨e,oe,vs,v,h,he,hc,hdi,hv,q⟩=>⟨tI C f,?_,e,oe,vs,v,by rw[h];rfl,by rw[h];rfl,he,hc,hdi,hv,q⟩
 rw[hb];exact Fo (Ll x rfl rfl v0 v1 (hs _) hd hcd)
end
section
variable{X:Cx}{E:XK}{C fI:Addr}{f nm:Str}{fd:FuncData}{ps:List Str}{k:Nat}{p cpos pos:Pos}{e:Expr}{t:TA}
def Nn(C:Addr)(f:Str)(E:XK)(t:TA):TS:=λ_ σ H=>t σ H λus H1=>∃v,us=[v]/\∀dx,H1 dx=none->E (10,C) (6,dx) (cA H1 dx (.xd [(f,v)]))
theorem II(x:XC X.K C fI f)(G:dE X.prog X.w X.K X.mg X.base rn k fI fd ps (L7 C f))(hr:cG (k+1) X.A)(hg:Gl X nm)(hm:X.mg nm=(6,(10,C)))(hb:dj X.K fd ps [])(hcalm:X.calm=true)(hx:X.ex=[])(hst:X.stack=X.env::X.outer)(hf:X.env.frame=(6,X.env.locals))
  (hle:∀ev s',XE X E ev s'->X.xe ev s') (ha:PA X [e] t) (hdb:(nm == ("__debug__":Str))=false:=by decide) (he:(7,[e])=(false,(16,e))::(7,[]):=by rfl) (hpl:(10,cpos,[]).any (·.1)=false:=by rfl):
  PS X (.Raise (6,(15,(6,nm,p),[e],cpos)) none pos) (Nn C f E t):=by
 intro pins s σ H D I h;rw[arm_exec_Raise];refine(3,wpAny_standAt (KJ (C:=C) (fI:=fI) (nid := "ValueError.__new__") (bm:=Qa) [31] (I.ok.hd hcalm) ?_))
 show wpAny _ _ (do let v ←eval (.Call (.Name nm p) [e] [] cpos) X.env;standAt pos;pure v) _ _ s
 refine(3,wpAny_Call_Name_kw (mh I hg hm ?_ hdb));refine callWith_K (h₀:=X.base) I.ok.mod.kin x.kp (df (ha cpos pins s σ H _ I h) λus s1 ⟨vs,H1,I1,r,v,hv,q⟩=>(5,I1.kIn,?_)) he hpl;subst hv;obtain⟨u,rfl,ru⟩:=r.one;obtain⟨hp,g,d,tk,os⟩:=s1;refine Nk PySem.F.excBase_ValueError (x.cls I1.kIn) (us:=[u]) (le_trans (show[u].length<=1 from[23]) [12]) λh' ea hmd hea=>?_
 obtain⟨tt,te,_,_⟩:=hmd.there;generalize hoe:({cls:=.ref C,data:=.fields #[.ref tt,.none,.none,.none,.bool false,.none]}:Obj)=oe at te;have n1:H1 ea=none:=I1.hok.fresh hea;have I2:(20,cA H1 ea (XO ea oe),⟨h',g,d,tk,os⟩):=I1.laid (a:=ea) (o:=XO ea oe) (h':=h') (t':=tk) hmd.keeps hea (MM te);have e2:cA H1 ea (XO ea oe) ea=(6,XO ea oe):=aH;have hl:([Value.ref ea,u]++[]).length=ps.length:=by
  have:=G.len [(10,ea),v] (cA H1 ea (XO ea oe)) (λ_ _=>True) E0 ⟨ea,oe,_,v,rfl,e2,by rw[←hoe],by rw[←hoe],by rw[←hoe],λ_ _ _=>trivial⟩
  exact this
 refine wpAny_call (codeAny_mono (G.run _ X.stack _ _ (5,[(10,ea),u],[]) [(10,ea),u] [(10,ea),v] (λz H3=>z=.non/\∃dx,H1 dx=none/\dx≠ea/\H3=cA (cA (cA H1 ea (XO ea oe)) ea (XO ea {oe with dict:=some dx})) dx (.xd [(f,v)])) E0 (hr.make C [u] []) (I2.env0.make C [u] []) (by have:=hb ⟨h',g,d,tk,os⟩ [.ref ea,u] I2.kIn hl;rwa[append_nil] at this) (.cons rfl (.cons ru .nil))
  ⟨ea,oe,_,v,rfl,e2,by rw[←hoe],by rw[←hoe],by rw[←hoe],λdx y1 y2=>⟨rfl,dx,by rw[aE y2] at y1;exact y1,y2,rfl⟩⟩) λr s3 hq=>?_)
 cases r with
 |error ev=>exact False.elim hq
 |ok fl=>
  cases fl with
  |next=>exact False.elim hq
  |brk=>exact False.elim hq
  |cont=>exact False.elim hq
  |ret ur=>
   obtain⟨z,H3,I3,rz,ez,dx,y1,y2,y3⟩:=I2.after hq;subst ez;refine(5,rz,(3,wpAny_standAt (8,?_)));have e3:H3 ea=(6,(XO ea {oe with dict:=some dx})):=by rw[y3,aE (Ne.symm y2),aH]
   have o3:∀b,b≠ea->H3 b=cA H1 dx (.xd [(f,v)]) b:=λb hb=>by
    rw[y3];by_cases hd:b=dx
    ·rw[hd,aH,aH]
    ·rw[aE hd,aE hd,aE hb,aE hb]
   have o4:cA H1 dx (.xd [(f,v)]) ea=none:=by rw[aE (Ne.symm y2)];exact n1
   have g3:s3.heap.get? ea=some {oe with dict:=some dx}:=(show cF X.prog X.w H3 s3.heap ea _ from I3.hok ea _ e3).1;have ne3:∀b o,H3 b=(6,o)->(∀ob,o≠XO ea ob)->b≠ea:=λb o z n y=>by rw[y,e3] at z;cases z;exact n _ rfl
   refine⟨ea,_,_,rfl,x.cls I3.kIn,g3,by rw[←hoe],by rw[←hoe],rfl,hle _ _ ⟨ea,C,dx,cA H1 dx (.xd [(f,v)]),hideAll s3.heap (ea::frs X.stack),(5,rfl,I.ok.frames),I3.os,I3.bare,?_,.inl ⟨_,_,g3,by rw[←hoe],rfl,by rw[←hoe],rfl⟩,q dx y1⟩⟩
   have b3:=I3.base;rw[hx] at b3;have inS:∀c,c∈frs X.stack->c=X.env.locals\/c∈X.fs:=λc hc=>by
    rw[hst] at hc;unfold frs at hc;rw[filterMap_cons,hf] at hc;exact mem_cons.mp hc
   have lo:∀b o,X.s₀.heap.get? b=(6,o)->b≠ea:=λb o z y=>by
    have h1:=(51,z);have h2:X.s₀.heap.objs.size<=hp.objs.size:=I1.sz;rw[y] at h1;exact absurd (11,h1,le_trans h2 hea) (lt_irrefl _)
   refine⟨⟨b3.keep,b3.slot,λb o z n hx'=>?_,b3.there,λb xs z=>?_,λb o u z=>?_,λb pp z=>?_⟩,λb o z=>?_,λb o z=>of_hideAll _ z,hideAll_none _ (.head _),funFrames_hide I3.stack λen he' a ha'=>.tail _ (List.mem_filterMap.mpr (12,en,he',ha')),λb o z n y=>hideAll_get _ z λhm'=>?_,λb hb'=>?_,λc hc=>?_,λc hc=>?_⟩
   ·rw[←o3 b (lo b o z)];exact b3.free b o z n hx'
   ·have:=b3.tups b xs z;rw[←o3 b (ne3 b _ this (λ_ y=>by cases y))];exact this
   ·have:=b3.frzs b o u z;rw[←o3 b (ne3 b _ this (λ_ y=>by cases y))];exact this
   ·obtain⟨more,this⟩:=b3.tbls b pp z;exact(5,more,by rw[←o3 b (ne3 b _ this (λ_ y=>by cases y))];exact this)
   ·have nb:b≠ea:=λy=>by rw[y,o4] at z;cases z
    refine(I3.hok b o (by rw[o3 b nb];exact z)).stay (λc w _ q=>q) (λc q=>?_) (λc xs q=>?_) λc ob yy q=>?_
    all_goals rw[←o3 c (ne3 c _ q (λ_ y=>by cases y))];exact q
   ·rcases mem_cons.mp hm' with y'|y'
    ·rw[y'] at y;rcases y with⟨w',y⟩|⟨o0,y⟩
     ·rw[o4] at y;cases y
     ·exact lo _ _ y rfl
    ·exact n y'
   ·have:=I3.stkFree b hb';rw[←o3 b (λy=>by rw[y,e3] at this;cases this)];exact this
   ·rcases inS c hc with y|y
    ·exact .inr (by rw[y];exact get?_none_of_le I.ok.above)
    ·exact .inl y
   ·rw[hst];unfold frs;rw[filterMap_cons,hf];exact .tail _ hc
end
abbrev Cx.hdl(X:Cx)(ev:Value)(p:[18]):Cx:={X with A:=X.A.mark (some ev),calm:=false,pn:=p++X.pn,xe:=λ_ _=>False}
section
variable{X:Cx}{pins:List (Addr×Obj)}{σ:St}{H:Hp}{s:Shared}{ev:Value}{p:List (Addr×Obj)}
theorem aR.hdl(I:(20,H,s))(hp:∀q∈p,(25,q.1)=(6,q.2)/\H q.1=none/\q.1≠X.env.locals/\q.1∉X.fs/\∀v,q.2.data≠.cell v):(22,X.hdl ev p,H,s):=
 ⟨⟨I.ok.mod,I.ok.kind,I.ok.glob,I.ok.blt,I.ok.above,I.ok.inj,I.ok.has,I.ok.cab,(λz=>nomatch z),I.ok.frames,I.ok.stk,I.ok.exf,I.ok.bs,I.ok.bsz,I.ok.noex,I.ok.exfs,I.ok.funs,I.ok.frf⟩,I.os,I.bare,I.base,I.loc,I.cell,I.free,I.freeC,
  (λq hq=>(mem_append.mp hq).elim (λz=>(mem_append.mp z).elim (hp q) λz=>I.pin q (mem_append_left _ z)) λz=>I.pin q (41,z)),I.hok,I.len⟩
theorem aR.unhdl(I:(22,X.hdl ev p,H,s))(ok:X.Ok):(20,H,s):=
 ⟨ok,I.os,I.bare,I.base,I.loc,I.cell,I.free,I.freeC,(λq hq=>I.pin q ((mem_append.mp hq).elim (λz=>mem_append_left _ (41,z)) λz=>(41,z))),I.hok,I.len⟩
def Rf(i:Nat)(ea dx:Addr)(f:Str):TE:=λσ H Q=>∃fs v,σ[i]?=(27,ea)/\H dx=(6,.xd fs)/\fs.lookup f=(6,v)/\Q v H
theorem Pt{C fI ea dx:Addr}{f n:Str}{oe:Obj}{vs:Array Value}{i:Nat}{np ap:Pos}(x:XC X.K C fI f)(hp:(ea,oe)∈X.pn)(hc:oe.cls=(10,C))(hd:oe.dict=(6,dx))(hv:oe.data=.fields vs)(hi:X.N[i]?=(6,n))(vis:HQ X.env.scope n)
  (hb:attributeBase (6,n,np) f X.env (16,(6,n,np))=(16,(6,n,np))) (h1:(n == ("__debug__":Str))=false) (h2:(n == ("__classdict__":Str))=false):PE X (6,n,np,f,ap) (Rf i ea dx f):=by
 intro pins s σ H Q I ⟨fs,v,a0,a1,a2,q⟩;refine FX hb (df (zc hi vis h1 h2 pins s σ H (λz H1=>z=(10,ea)/\H1=H) I (9,_,a0,rfl,rfl)) λu s1 ⟨z,H1,I1,rz,z1,z2⟩=>?_);subst z1 z2;obtain rfl:u=Value.ref ea:=rz;obtain⟨cd,c1,c2,c3⟩:=x.cd;obtain⟨mA,n1,r⟩:=(show cF X.prog X.w H1 s1.heap dx (.xd fs) from I1.hok dx _ a1);obtain⟨od,ho,hl⟩:=y7 n1;obtain⟨u,hu,ru⟩:=RelO.some_of (v:=v) (o:=mA f) (by rw[←a2];exact r f)
 exact P6 I1.kIn (I1.pin (ea,oe) (mem_append_left _ hp)).1 hc hd ho hv PySem.F.attrBase_ValueError c1 c2 c3 x.ga x.gg x.no (by rw[hl,hu]) (ya ru) ⟨v,H1,I1.tok _,ru,q⟩
theorem HU{M:Model}{A:Around}{E:Value->Shared->Prop}{i:Nat}{n:Str}{v:V}{Q:Unit->Shared->Prop}(I:(20,H,s))(hN:X.N.Nodup)(hi:X.N[i]?=(6,n))(hk:(24,n)=(6,.local))(hv:σ[i]?=(21,v))
  (h:∀s',(4,X,σ.set i none,H,s')->Q () s'):wpAny M A (unbindName X.env n) Q E s:=by
 obtain⟨m,hn,hl⟩:=id I.loc;obtain⟨u,r,q⟩:=hl i n v hi hv (.inl hk);have hm:m n=(6,u):=by
  rcases q with⟨_,e⟩|⟨k,_⟩
  ·exact e
  ·exfalso;have k0:X.env.kindOf n=(6,.local):=hk;rcases k with k|k <;> rw[k0] at k <;> cases k
 have hiσ:i<σ.length:=by rw[I.len];exact(12,hi).1
 have cne:=I.cne;refine wpAny_unbindName_local hk hn hm (by rw[I.ok.kind];rfl) λh' u' hn' hs=>h {s with heap:=h'} ?_
 obtain⟨oL,_,_,hoL,_⟩:=id hn;have lo:∀b o,X.s₀.heap.get? b=(6,o)->b≠X.env.locals:=λb o e=>ne_of_lt (11,(51,e),I.ok.above);refine⟨I.ok,I.os,I.bare,⟨λb o e n hb hx=>(hs.2 b (lo b o e)).trans (I.base.keep b o e n hb hx),λb o e n hb hx=>?_,I.base.free,λb o e hx=>?_,I.base.tups,I.base.frzs,I.base.tbls⟩,(12,_,hn',λj y v' e1 e2 e3=>?_),λy c e=>?_,I.free,I.freeC,λp hp=>?_,λb ob e=>?_,by simpa using I.len⟩
 ·obtain⟨sl,e1⟩:=I.base.slot b o e n hb hx;exact(5,sl,(hs.2 b (lo b o e)).trans e1)
 ·obtain⟨o',e1⟩:=I.base.there b o e hx;exact(5,o',(hs.2 b (lo b o e)).trans e1)
 ·have hj:j≠i:=λz=>by rw[z,(32,hiσ)] at e2;cases e2
  rw[(34,Ne.symm hj)] at e2;obtain⟨u2,r2,q2⟩:=hl j y v' e1 e2 e3;refine(12,u2,r2,?_);rcases q2 with⟨k,e⟩|⟨k,c,e,z⟩
  ·have:y≠n:=λe=>hj (vi hN e1 (e▸hi));exact .inl (5,k,by simp[this,e])
  ·exact .inr (9,k,c,e,z.sameBut hs (cne y c e))
 ·obtain⟨w',z⟩:=I.cell y c e;exact(5,w',z.sameBut hs (cne y c e))
 ·obtain⟨e,n,ne,nf,d⟩:=I.pin p hp;exact⟨(hs.2 p.1 ne).trans e,n,ne,nf,d⟩
 ·refine(I.hok b ob e).stay (λc w' hc q=>(hs.2 c ?_).trans q) (λ_ q=>q) (λ_ _ q=>q) λ_ _ _ q=>q;intro z;rcases hc with y|y
  ·rw[←y,z,I.free] at e;cases e
  ·rw[z,I.free] at y;cases y
end
section
variable{X:Cx}{C fI fa:Addr}{f fn xt n y cn:Str}{fd:FuncData}{ps:List Str}{sp:Sp}{k i ie iy:Nat}{p1 p2 p3 p4 p5 p6 p7 p8 p9 p10 pos:Pos}{e:Expr}{es:List Expr}{t:TA}
def Qs(C:Addr)(f:Str)(sp:Sp)(i ie iy:Nat)(t:TA):TS:=λD σ H=>t σ H λvs H1=>sp vs H1 (λv H2=>D.nx (σ.set i (6,v)) H2) λcls od H2=>∃dx v,cls=(10,C)/\od=(6,dx)/\H2 dx=(6,.xd [(f,v)])/\D.nx ((σ.set iy (6,v)).set ie none) H2
theorem NF(x:XC X.K C fI f)(G:dE X.prog X.w X.K X.mg X.base (G1 X.prog X.w) k fa fd ps sp)(hr:cG k X.A)(hg:Gl X fn)(hm:X.mg fn=(6,(10,fa)))(hk:keepIn X.K (10,fa)=true)(hb:dj X.K fd ps [])(hgC:Gl X cn)(hmC:X.mg cn=(6,(10,C)))
  (hst:X.stack=X.env::X.outer) (hf:X.env.frame=(6,X.env.locals)) (ha:PA X.nox (e::es) t) (hN:X.N.Nodup) (hi:X.N[i]?=(6,xt)) (hie:X.N[ie]?=(6,n)) (hiy:X.N[iy]?=(6,y)) (hne:ie≠iy)
  (lx:(24,xt)=(6,.local)) (ln:(24,n)=(6,.local)) (ly:(24,y)=(6,.local))
  (hdn:(n == ("__debug__":Str))=false) (hcn:(n == ("__classdict__":Str))=false) (hdf:(fn == ("__debug__":Str))=false) (hdc:(cn == ("__debug__":Str))=false)
  (hs1:(21,(15,(6,fn,p2),(e::es),p3),(6,(6,xt,p1)),p4.line)=pure false:=by rfl) (hs2:(21,(6,n,p7,f,p8),(6,(6,y,p6)),p9.line)=pure false:=by rfl)
  (hba:attributeBase (6,n,p7) f X.env (16,(6,n,p7))=(16,(6,n,p7)):=by rfl) (he:(7,(e::es))=(false,(16,e))::(7,es):=by rfl) (hpl:(10,p3,es).any (·.1)=false:=by rfl):
  PS X (.Try [.Assign [(6,xt,p1)] (15,(6,fn,p2),(e::es),p3) p4] [.ExceptHandler (6,(6,cn,p5)) (6,n) [.Assign [(6,y,p6)] (6,n,p7,f,p8) p9] p10] [] [] pos) (Qs C f sp i ie iy t):=by
 intro pins s σ H D I h;refine wpAny_Try_except (wpAny_execs_cons (wpAny_Assign_Name (wpAny_Call_Name_kw (mh I hg hm ?_ hdf)) hs1));refine callWith_K (h₀:=X.base) I.ok.mod.kin hk (wpAny_mono (ha p3 pins s σ H _ (I.wish _) h) (λus s1 ⟨vs,H1,I1',r,q⟩=>?_) λ_ _ z=>False.elim z) he hpl;have I1:(20,H1,s1):=I1'.unwish;refine(5,I1.kIn,?_);have hl:(us++[]).length=ps.length:=by rw[append_nil,←r.length];exact G.len _ _ _ _ q
 refine wpAny_call (codeAny_mono (G.run X.A X.stack s1 H1 (5,us,[]) us vs _ _ hr I1.env0 (by have:=hb s1 us I1.kIn hl;rwa[append_nil] at this) r q) λrr s' hq=>?_)
 cases rr with
 |ok fl=>
  cases fl with
  |ret u=>
   obtain⟨v,H2,I2,rv,q2⟩:=I1.after hq;exact l6 I2 hN hi (.inl lx) rv (λs3 I3=>wpAny_execs_nil (wpAny_execs_nil (9,_,_,I3,q2))) (.inr lx)
  |next=>exact False.elim hq
  |brk=>exact False.elim hq
  |cont=>exact False.elim hq
 |error ev=>
  obtain⟨ea,C',dx',H2,base,e1,e2,e3,u,m,dx,v,q1,q2,q3,q4⟩:=hq;subst e1;obtain rfl:C'=C:=by cases q1;rfl
  obtain rfl:dx'=dx:=by cases q2;rfl
  have fr:=u.fr;have hA:=I.ok.frames;rw[hst] at fr hA;have sx:∀h2 fl,F7 base (X.env::X.outer) ea (10,C') (6,dx') fl h2->h2.FunFrames base X.stack:=λh2 fl F=>by rw[hst];exact F.fr
  obtain⟨hp,g,d,tk,os⟩:=s';show(1,X.prog,X.w,X.A,noteFrame (10,ea) X.env,_,_,⟨hp,g,d,tk,os⟩);refine F8 (s:=⟨hp,g,d,tk,os⟩) hA hf (9,u.st,u.nw,fr,m) λh2 F2 k2=>yv (s:=⟨h2,g,d,tk,os⟩) F2 λh3 F3 k3=>?_;have u3:=(u.step F2.st (sx _ _ F2) k2).step F3.st (sx _ _ F3) k3;have mk:∀h4,Kt X.prog X.w (frs X.stack) X.stack H1 s1.heap base ea H2 h4->(20,H2,⟨h4,g,d,tk,os⟩):=λh4 u4=>I1.call' (s':=⟨h4,g,d,tk,os⟩) e2 u4.un u4.hok e3 (λb hb=>absurd hb [20])
  have I3:=mk h3 u3;obtain⟨oe,vs,T,oT,ts,he3,⟨hc3,hd3⟩,hdd,_⟩:=F3.tr;refine wpAny_handleBy_cons (codeAny_handlers_test ?_) (by intro q;cases q)
  refine mh (X:=X.hdl (10,ea) []) (I3.hdl (λq hq=>absurd hq [20])) hgC hmC ?_ hdc
  obtain⟨nm,qq,N,bs,bt,hdt,sn,sub,ab,col,dd,k0,k1,k2',k3',k5,mN,oI,hC,_,_,_,_,TL⟩:=x.cls I3.kIn;refine wpAny_excMatches_sub_self hC he3 hc3 (TL.hasType [31]) ?_
  refine codeAny_handlers_suite_as (yv (s:=⟨h3,g,d,tk,os⟩) F3 λh4 F4 k4=>?_);have u4:=u3.step F4.st (sx _ _ F4) k4;have I4:=mk h4 u4;obtain⟨oe4,vs4,_,_,_,he4,⟨hc4,hd4⟩,hdd4,_⟩:=F4.tr;have nfr:ea∉frs X.stack:=λz=>by
   obtain⟨_,o,ho,nf⟩:=u4.fr.mem z;rw[he4] at ho;cases ho;exact nf _ hdd4
  have nH:H2 ea=none:=by
   cases z:H2 ea with
   |none=>rfl
   |some w=>
    have:=u4.bk ea _ he4 nfr (.inl (5,w,z));rw[u4.nw] at this;cases this
  have inF:∀b,b=X.env.locals\/b∈X.fs->b∈frs X.stack:=λb hb=>by
   rw[hst];unfold frs;rw[filterMap_cons,hf];exact mem_cons.mpr hb
  have I4h:(22,X.hdl (10,ea) [(ea,oe4)],H2,⟨h4,g,d,tk,os⟩):=I4.hdl λq hq=>by
   obtain rfl:q=(ea,oe4):=by simpa using hq
   exact⟨he4,nH,λz=>nfr (inF _ (.inl z)),λz=>nfr (inF _ (.inr z)),λv z=>by rw[hdd4] at z;cases z⟩
  have il:ie<σ.length:=by rw[I.len];exact(12,hie).1
  refine l6 (X:=X.hdl (10,ea) [(ea,oe4)]) (v:=(10,ea)) I4h hN hie (.inl ln) rfl (λs5 I5=>?_) (.inr ln);refine wpAny_execs_cons (wpAny_mono (DN (X:=X.hdl (10,ea) [(ea,oe4)]) hN hiy (.inl ly) (Pt (i:=ie) x (.head _) hc4 hd4 hdd4 hie (.inl ln) hba hdn hcn) hs2 (.inr ly) pins s5 _ H2 {nx:=λσ' H'=>σ'=(σ.set ie (some (.ref ea))).set iy (some v)/\H'=H2,rt:=λ_ _=>False} I5
   ⟨_,v,(32,il),q3,by simp[List.lookup],rfl,rfl⟩) (λfl s6 z=>?_) λ_ _ z=>False.elim z)
  cases fl with
  |next=>
   obtain⟨σ6,H6,I6,rfl,rfl⟩:=z;refine wpAny_execs_nil (3,wpAny_bindName (l6 (v:=.non) (I6.unhdl I.ok) hN hie (.inl ln) rfl (λs7 I7=>?_) (.inr ln)));refine wpAny_onRaise (HU I7 hN hie ln (32,by simpa using il) λs8 I8=>(9,_,_,I8,?_))
   rw[List.set_set,List.set_comm _ _ (Ne.symm hne),List.set_set];rw[List.set_comm _ _ (Ne.symm hne)] at q4;exact q4
  |brk=>obtain⟨_,_,_,q⟩:=z;exact False.elim q
  |cont=>obtain⟨_,_,_,q⟩:=z;exact False.elim q
  |ret _=>obtain⟨_,_,_,_,_,q⟩:=z;exact False.elim q
end
end L2
namespace L3
open PySem PySem.Spec PyProof.Rows L2
def Hw(c:String)(f:Str)(n:Int):D:=.obj c [f] [(4,n)]
def WE(Γ:Ct)(E:XK):XW:=λx _ H=>∀c f n dx,x=Hw c f n->H dx=none->E (10,Γ.cls c) (6,dx) (cA H dx (.xd [(f,(4,n))]))
def Ra(Γ:Ct)(F:([21])->(9,R)):Sp:=λvs H Q E=>Du Γ (WE Γ E) F vs H Q
def R5(P:Program)(w:World)(K:Frag)(mg:Str->[26])(base:Heap)(Γ:Ct)(k:Nat)(x:Str)(ps:[16])(F:([21])->(9,R)):Prop:=
 ∃f fd,dE P w K mg base (G1 P w) k f fd ps (Ra Γ F)/\mg x=(6,(10,f))/\(7,K,f)=true/\dj K fd ps []
abbrev D8(P:Program)(w:World)(K:Frag)(mg:Str->[26])(base:Heap)(N:[16])(qual:Str)(scope:Scope)(f:Addr)(cd:Value)(A:Around)(outer:List PySem.Env)(s:Shared)(H:Hp)(E:XK):Cx:=
 (pU (G1 P w) P w K mg base N qual scope f cd A outer s H E).wish (XE (pU (G1 P w) P w K mg base N qual scope f cd A outer s H E) E)
section
variable{P:Program}{w:World}{K:Frag}{mg:Str->Option Value}{base:Heap}{Γ:Ct}
theorem HV{N:[16]}{qual:Str}{scope:Scope}{f:Addr}{cd:Value}{A:Around}{outer:List PySem.Env}{s:Shared}{H:Hp}{E:XK}{st:List Stmt}{t:TS}(h:sI (D8 P w K mg base N qual scope f cd A outer s H E) st t):sI (pU (G1 P w) P w K mg base N qual scope f cd A outer s H E) st t:=λpins s1 σ H1 D I hw=>
 wpAny_mono (h pins s1 σ H1 D (I.wish _) hw) (λ_ _ q=>q.unwish) λev s' z=>HR rfl rfl (get?_none_of_le [23]) z
theorem Qq{x qual:Str}{st:Stmt}{f:Addr}{fd:FuncData}{N ps:[16]}{k:Nat}{sp:Sp}(F:D9 K x qual st f fd)(S:aw N ps (ag st))(len:∀vs H Q E,sp vs H Q E->vs.length=ps.length)
  (hbody:∀(cdv:Value)(A:Around)(outer:List PySem.Env)(s:Shared)(H:Hp)(vs:List V)(Q:VK)(E:XK),cG k (A.deeper (envOfC qual (ag st) [15] f cdv))->sp vs H Q E->
   ∃t,sI (D8 P w K mg base N qual (ag st) f cdv A outer s H E) (b9 st) t/\t {nx:=λ_ H'=>Q .non H',rt:=Q} (L2.start N vs) H):dE P w K mg base (G1 P w) (k+1) f fd ps sp:=by
 obtain⟨oc,od,kV,doc,pm,an,cdv,ct,osl,rfl,lk,hcd⟩:=F.ex;refine K3 lk hcd S len λA outer s H vs Q E hr hsp=>?_;obtain⟨t,h,q⟩:=hbody cdv A outer s H vs Q E hr hsp;exact(12,t,HV h,q)
end
inductive RX where
 |ok (d:D) (o:O)|exc (x:D)
abbrev MH:=O->([21])->([21])->(9,RX)
def GF(j a:Nat):(9,mI)->(9,RX)
 |some (.exc x)=>(6,.exc x)
 |z=>(outP j a z).map λp=>.ok p.1 p.2
open Classical in
noncomputable def EH(j np n:Nat)(g:MC):MH:=λo ds es=>if ds.length=j/\j+1+es.length=np then(if h:∃r,∀a,GF j a (g (pH n a o ds es))=(6,r) then(6,h.choose) else none) else none
theorem yd{j np n:Nat}{g:MC}{o:O}{ds es:[21]}{r:RX}(h:EH j np n g o ds es=(6,r)):ds.length=j/\j+1+es.length=np/\∀a,GF j a (g (pH n a o ds es))=(6,r):=by
 unfold EH at h;split at h
 ·rename_i c;split at h
  ·rename_i x;cases h;exact(12,c.1,c.2,x.choose_spec)
  ·cases h
 ·cases h
theorem K4{j np n:Nat}{g:MC}{o:O}{ds es:[21]}{r:RX}(h1:ds.length=j)(h2:j+1+es.length=np)(h:∀a,GF j a (g (pH n a o ds es))=(6,r)):EH j np n g o ds es=(6,r):=by
 unfold EH;rw[(39,(5,h1,h2))];have x:∃r,∀a,GF j a (g (pH n a o ds es))=(6,r):=(5,r,h);rw[dif_pos x,←h 0,x.choose_spec 0]
def lX(i:Nat)(F:MH)(gs hs:List ME):MC:=λρ=>match ρ[i]? with
 |some (some (.own o))=>(bF gs ρ).bind λds=>(bF hs ρ).bind λes=>(F o.core ds es).map fun
  |.ok _ o'=>.next (ρ.set i (6,(49,o.put o')))
  |.exc x=>.exc x
 |_=>none
inductive Pf(Γ:Ct)(F:MH)(vs:List V)(H:Hp)(Q:VK)(E:XK):Prop
 |mk (a:Addr) (xs ys:List V) (Hs:Hp) (o:O) (ho:HO) (ds es:[21]) (r:RX) (ev:vs=xs++(10,a)::ys) (sm:ba Hs H) (hs:Hs a=none) (hh:H a=(6,ho)) (ro:fX Γ Hs a o ho) (r1:(23,Hs,ds,xs)) (r2:(23,Hs,es,ys)) (e:F o ds es=(6,r))
  (q:∀d o',r=.ok d o'->∀v Hs' H' ho',kh a Hs H Hs' H'->Hs' a=none->H' a=(6,ho')->fX Γ Hs' a o' ho'->dB Γ Hs' d v->Q v H') (qx:∀x,r=.exc x->∀Hs' H',Grow Hs (DJ H a) Hs' H'->WE Γ E x Hs' H') (tb:ba Γ.tb Hs)
def Pg(Γ:Ct)(F:MH):Sp:=λvs H Q E=>Pf Γ F vs H Q E
def MJ(P:Program)(w:World)(K:Frag)(mg:Str->[26])(base:Heap)(Γ:Ct)(k:Nat)(x:Str)(ps:[16])(F:MH):Prop:=
 ∃f fd,dE P w K mg base (G1 P w) k f fd ps (Pg Γ F)/\mg x=(6,(10,f))/\(7,K,f)=true/\dj K fd ps []
section
variable{P:Program}{w:World}{K:Frag}{mg:Str->Option Value}{base:Heap}{Γ:Ct}
theorem Q4{x qual:Str}{st:Stmt}{f:Addr}{fd:FuncData}{N ps:[16]}{k j:Nat}{g:MC}(F:D9 K x qual st f fd)(S:aw N ps (ag st))(hN:ps.length<=N.length)
  (body:∀(cdv:Value)(A:Around)(outer:List PySem.Env)(s:Shared)(H:Hp)(E:XK),cG k (A.deeper (envOfC qual (ag st) [15] f cdv))->oK (D8 P w K mg base N qual (ag st) f cdv A outer s H E) Γ (WE Γ E) (b9 st) g):
  dE P w K mg base (G1 P w) (k+1) f fd ps (Pg Γ (EH j ps.length N.length g)):=by
 refine Qq F S (λvs H Q E ⟨a,xs,ys,Hs,o,ho,ds,es,r,ev,sm,hs,hh,ro,r1,r2,e,q,qx,tb⟩=>?_) (λcdv A outer s H vs Q E hr ⟨a,xs,ys,Hs,o,ho,ds,es,r,ev,sm,hs,hh,ro,r1,r2,e,q,qx,tb⟩=>?_)
 ·obtain⟨h1,h2,_⟩:=yd e;rw[ev,length_append,length_cons,←r1.length,←r2.length];omega
 ·obtain⟨h1,h2,h3⟩:=yd e;have h3:=h3 a;subst ev;refine(12,tS Γ (WE Γ E) g,body cdv A outer s H E hr,?_);have re:=Gu (N:=N) sm hs hh ro r1 r2 tb [11]
  cases h:g (pH N.length a o ds es) with
  |none=>rw[h] at h3;cases h3
  |some out=>
   rw[h] at h3;refine⟨Hs,DJ H a,Hs,pH N.length a o ds es,out,re,h,?_⟩;cases out with
   |next ρ'=>
    intro σ' Hs' H' _ re';obtain⟨p,h4,h5⟩:=Option.map_eq_some_iff.mp (show(outP j a (30,ρ')).map (λp=>RX.ok p.1 p.2)=(6,r) from h3);unfold outP at h4;dsimp only at h4;split at h4
    ·rename_i b u hd;split at h4
     ·rename_i hba;subst hba;cases h4;obtain⟨c,ho',f1,f2,f3,f4,f5⟩:=re'.own j _ hd;have f6:c=b/\fX Γ Hs' c u ho':=f5;obtain⟨z,f7⟩:=f6;subst z;exact q _ _ h5.symm .non Hs' H' ho' (Co re'.b f3) f3 f4 f7 (ff.mpr rfl)
     ·cases h4
    ·cases h4
   |brk ρ'=>cases h3
   |cont ρ'=>cases h3
   |ret s=>
    obtain⟨p,h4,h5⟩:=Option.map_eq_some_iff.mp (show(outP j a (6,.ret s)).map (λp=>RX.ok p.1 p.2)=(6,r) from h3);cases s with
    |sh _=>cases h4
    |own _=>cases h4
    |two d1 b o1=>
     unfold outP at h4;dsimp only at h4;split at h4
     ·rename_i hba;subst hba;cases h4;intro v Hs' H' _ g' rs;obtain⟨rp,ho',z1,z2,z3⟩:=rs;exact q _ _ h5.symm v Hs' H' ho' (Co g' z1) z1 z2 z3 rp
     ·cases h4
   |exc x=>
    cases h3;exact λHs' H' _ g'=>qx x rfl Hs' H' g'
theorem Hv{x:Str}{st:Stmt}{N ps:[16]}{k j:Nat}{g:MC}(L:bC K mg x st ps)(S:aw N ps (ag st))(hN:ps.length<=N.length)
  (body:∀(f:Addr)(cdv:Value)(A:Around)(outer:List PySem.Env)(s:Shared)(H:Hp)(E:XK),cG k (A.deeper (envOfC x (ag st) [15] f cdv))->oK (D8 P w K mg base N x (ag st) f cdv A outer s H E) Γ (WE Γ E) (b9 st) g):
  MJ P w K mg base Γ (k+1) x ps (EH j ps.length N.length g):=by
 obtain⟨f,fd,F,hm,hb⟩:=L.ex;exact⟨f,fd,Q4 F S hN (body f),hm,F.kp,hb⟩
end
section
variable{X:Cx}{Γ:Ct}{E:XK}{k i:Nat}{ps:List Str}{x:Str}{p pos epos:Pos}{e:Expr}{es:List Expr}{gs hs:List ME}{F:MH}
theorem Bd{ρ:MEnv}{out:mI}(h:lX i F gs hs ρ=(6,out)):∃o ds es r,ρ[i]?=(21,(49,o))/\bF gs ρ=(6,ds)/\bF hs ρ=(6,es)/\F o.core ds es=(6,r)/\((∃d o',r=.ok d o'/\out=.next (ρ.set i (6,(49,o.put o'))))\/∃x,r=.exc x/\out=.exc x):=by
 unfold lX at h;split at h
 ·rename_i o ho;obtain⟨ds,h1,h⟩:=Option.bind_eq_some_iff.mp h;obtain⟨es,h2,h⟩:=Option.bind_eq_some_iff.mp h;obtain⟨r,h3,h⟩:=Option.map_eq_some_iff.mp h;refine⟨o,ds,es,r,ho,h1,h2,h3,?_⟩;cases r with
  |ok d o'=>cases h;exact .inl (9,d,o',rfl,rfl)
  |exc x=>cases h;exact .inr (14,x,rfl)
 ·cases h
theorem xS(h:MJ X.prog X.w X.K X.mg X.base Γ k x ps F)(hr:cG k X.A)(hg:Gl X x)(hp:nJ (G1 X.prog X.w) X E)(ha:PA X (e::es) (sG Γ i hs gs))(hdb:(x == ("__debug__":Str))=false:=by decide)(he:(7,(e::es))=(false,(16,e))::(7,es):=by rfl)(hpl:(10,pos,es).any (·.1)=false:=by rfl)
  (hs':(21,(15,(6,x,p),(e::es),pos),none,epos.line)=pure false:=by rfl):vT X Γ (WE Γ E) (.Expr (15,(6,x,p),(e::es),pos) epos) (lX i F gs hs):=by
 obtain⟨f,fd,G,hm,hk,hb⟩:=h;refine PS.imp (tK (Fv (E:=E) (dvs:=[]) (ds:=[]) G hr hg hm hk hb .nil hp ha hdb he hpl) hs') λ_ _ σ H D I ⟨B0,B1,Hs,ρ,out,re,e,q⟩=>?_;obtain⟨o,ds,es',r,hd,e1,e2,e3,e4⟩:=Bd e;obtain⟨a,ho,f1,f2,f3,f4,f5⟩:=re.own i o hd;refine pY gs (λvs H1 ⟨Hs1,xs,ys,g1,ev,r1,r2⟩=>?_) (vR gs re e1 e2 f1);show Pf Γ F (vs++[]) H1 _ E;rw[append_nil];have re1:=re.grow g1;refine⟨a,xs,ys,Hs1,o.core,ho,ds,es',r,ev,re1.b.i,g1.none f3 f4,g1.h _ _ f4,(f5.mono g1.s).core,r1,r2,e3,λd o' hr' v Hs' H' ho' gx hn hh ro rp=>?_,λy hr' Hs' H' gx=>?_,re1.tb⟩
 ·rcases e4 with⟨d2,o2,z1,z2⟩|⟨y,z1,z2⟩
  ·rw[hr'] at z1;cases z1;subst z2;exact q σ Hs' H' (g1.s.trans gx.s) (re1.called hd f1 gx hn hh (fX.put f5 ro))
  ·rw[hr'] at z1;cases z1
 ·rcases e4 with⟨d2,o2,z1,z2⟩|⟨y2,z1,z2⟩
  ·rw[hr'] at z1;cases z1
  ·rw[hr'] at z1;cases z1;subst z2;have g2:Grow B0 B1 Hs' H':=by
    have b1:=re1.b;refine(9,b1.s.trans gx.s,λb u z=>gx.h b u ?_,gx.i,λb u z=>?_)
    ·have nb:b≠a:=λy=>by rw[y,f2] at z;cases z
     rw[qE nb];exact b1.h b u z
    ·rcases gx.n b u z with y|y
     ·exact b1.n b u y
     ·by_cases nb:b=a
      ·rw[nb];exact .inr f2
      ·rw[qE nb] at y;exact .inr (by
        cases w:B1 b with
        |none=>rfl
        |some ww=>rw[b1.h b ww w] at y;cases y)
   exact q Hs' H' (g1.s.trans gx.s) g2
end
def yW(c:String)(f:Str)(g:ME):MC:=λρ=>match g ρ with
 |some (.ok (.sh (.int n)))=>(6,.exc (Hw c f n))
 |_=>none
section
variable{X:Cx}{Γ:Ct}{E:XK}{c:String}{fI:Addr}{f nm:Str}{fd:FuncData}{ps:List Str}{k:Nat}{p cpos pos:Pos}{e:Expr}{g:ME}
theorem Gy(x:XC X.K (Γ.cls c) fI f)(G:dE X.prog X.w X.K X.mg X.base rn k fI fd ps (L7 (Γ.cls c) f))(hr:cG (k+1) X.A)(hg:Gl X nm)(hm:X.mg nm=(6,(10,Γ.cls c)))(hb:dj X.K fd ps [])(hcalm:X.calm=true)(hx:X.ex=[])(hst:X.stack=X.env::X.outer)(hf:X.env.frame=(6,X.env.locals))
  (hle:∀ev s',XE X E ev s'->X.xe ev s') (ha:(8,X,W0,e,g)) (hdb:(nm == ("__debug__":Str))=false:=by decide) (he:(7,[e])=(false,(16,e))::(7,[]):=by rfl) (hpl:(10,cpos,[]).any (·.1)=false:=by rfl):
  vT X Γ (WE Γ E) (.Raise (6,(15,(6,nm,p),[e],cpos)) none pos) (yW c f g):=by
 refine PS.imp (II x G hr hg hm hb hcalm hx hst hf hle (cS ha iu he) hdb he hpl) λ_ _ σ H D I ⟨B0,B1,Hs,ρ,out,re,ee,q⟩=>?_;unfold yW at ee;split at ee
 ·rename_i n hn;cases ee;refine⟨B0,B1,Hs,ρ,_,re,hn,λv Hs' H' g' rs=>?_⟩;have rv:dB Γ Hs' (4,n) v:=rs;refine(12,v,rfl,λdx hd=>?_);rw[au.mp rv];exact q Hs' H' g'.s (re.b.trans g') c f n dx rfl hd
 ·cases ee
end
def DH(c:String)(f:Str)(i ie iy:Nat)(F:([21])->(9,R))(gs:List ME):MC:=λρ=>(bF gs ρ).bind λds=>match F ds with
 |some (.ok s)=>(30,ρ.set i (6,s))
 |some (.exc (.obj c' [f'] [.int n]))=>if c'=c/\f'=f then(30,((ρ.set iy (15,n)).set ie none)) else none
 |_=>none
section
variable{X:Cx}{Γ:Ct}{W:XW}{c:String}{fI:Addr}{f fn xt n y cn:Str}{ps:List Str}{k i ie iy:Nat}{p1 p2 p3 p4 p5 p6 p7 p8 p9 p10 pos:Pos}{e:Expr}{es:List Expr}{gs:List ME}{F:List D->Option R}
theorem RE.noneAt{B0 B1 Hs H:Hp}{σ:L2.St}{ρ:MEnv}(r:RE Γ B0 B1 Hs H σ ρ)(j:Nat):RE Γ B0 B1 Hs H (σ.set j none) (ρ.set j none):=by
 have old:∀(l:Nat)(u:S),(ρ.set j none)[l]?=(21,u)->l≠j/\ρ[l]?=(21,u):=λl u z=>by
  by_cases h:j=l
  ·subst h;by_cases hl:j<ρ.length
   ·rw[(32,hl)] at z;cases z
   ·rw[getElem?_eq_none (by simpa using hl)] at z;cases z
  ·rw[(34,h)] at z;exact(5,Ne.symm h,z)
 refine⟨r.b,λl d z=>?_,λl o z=>?_,λl m o u a hlm z1 z2 z3=>?_,by simpa using r.len,r.tb⟩
 ·obtain⟨h,z⟩:=old l _ z;rw[(34,Ne.symm h)];exact r.sh l d z
 ·obtain⟨h,z⟩:=old l _ z;rw[(34,Ne.symm h)];exact r.own l o z
 ·obtain⟨h1,z1⟩:=old l _ z1;obtain⟨h2,z2⟩:=old m _ z2;rw[(34,Ne.symm h1)] at z3;rw[(34,Ne.symm h2)];exact r.apart l m o u a hlm z1 z2 z3
theorem Lj(x:XC X.K (Γ.cls c) fI f)(h:R5 X.prog X.w X.K X.mg X.base Γ k fn ps F)(hr:cG k X.A)(hg:Gl X fn)(hgC:Gl X cn)(hmC:X.mg cn=(6,(10,Γ.cls c)))
  (hst:X.stack=X.env::X.outer) (hf:X.env.frame=(6,X.env.locals)) (ha:qc X.nox Γ W0 (e::es) gs) (hN:X.N.Nodup) (hi:X.N[i]?=(6,xt)) (hie:X.N[ie]?=(6,n)) (hiy:X.N[iy]?=(6,y)) (hne:ie≠iy)
  (lx:(24,xt)=(6,.local)) (ln:(24,n)=(6,.local)) (ly:(24,y)=(6,.local))
  (hdn:(n == ("__debug__":Str))=false:=by decide) (hcn:(n == ("__classdict__":Str))=false:=by decide) (hdf:(fn == ("__debug__":Str))=false:=by decide) (hdc:(cn == ("__debug__":Str))=false:=by decide)
  (hs1:(21,(15,(6,fn,p2),(e::es),p3),(6,(6,xt,p1)),p4.line)=pure false:=by rfl) (hs2:(21,(6,n,p7,f,p8),(6,(6,y,p6)),p9.line)=pure false:=by rfl)
  (hba:attributeBase (6,n,p7) f X.env (16,(6,n,p7))=(16,(6,n,p7)):=by rfl) (he:(7,(e::es))=(false,(16,e))::(7,es):=by rfl) (hpl:(10,p3,es).any (·.1)=false:=by rfl):
  vT X Γ W (.Try [.Assign [(6,xt,p1)] (15,(6,fn,p2),(e::es),p3) p4] [.ExceptHandler (6,(6,cn,p5)) (6,n) [.Assign [(6,y,p6)] (6,n,p7,f,p8) p9] p10] [] [] pos) (DH c f i ie iy F gs):=by
 obtain⟨fa,fd,G,hm,hk,hb⟩:=h;refine PS.imp (NF x G hr hg hm hk hb hgC hmC hst hf ha hN hi hie hiy hne lx ln ly hdn hcn hdf hdc hs1 hs2 hba he hpl) λ_ _ σ H D I ⟨B0,B1,Hs,ρ,out,re,ee,q⟩=>?_;obtain⟨ds,h1,ez⟩:=Option.bind_eq_some_iff.mp ee;have il:i<σ.length:=by rw[I.len];exact(12,hi).1
 have yl:iy<σ.length:=by rw[I.len];exact(12,hiy).1
 refine dn gs (λvs H1 ⟨Hs1,g1,rl⟩=>?_) (mv gs re h1);have re1:=re.grow g1;cases h2:F ds with
 |none=>rw[h2] at ez;cases ez
 |some r=>
  rw[h2] at ez;refine⟨Hs1,ds,r,re1.b.i,rl,h2,?_,re1.tb⟩;cases r with
  |ok s=>
   cases ez;exact λv Hs' H' g' rs=>q _ Hs' H' (g1.s.trans g'.s) (re1.setS g' il rs)
  |exc z=>
   split at ez
   ·rename_i _ hz0;cases hz0
   ·rename_i c0 f0 m hz0;cases hz0;split at ez
    ·rename_i hcf;obtain⟨rfl,rfl⟩:=hcf;cases ez;intro Hs' H' g' c' f' m' dx hz hd;unfold Hw at hz;cases hz;have g2:Grow Hs' H' Hs' (cA H' dx (.xd [(f0,(4,m))])):=⟨.refl _,λb u w=>by rw[aE (λy=>by rw[y,hd] at w;cases w)];exact w,λb u w=>by
      have:=g'.i b u w;rw[aE (λy=>by rw[y,hd] at this;cases this)];exact this,λb u w=>.inl w⟩
     refine⟨dx,(4,m),rfl,rfl,aH,q _ Hs' _ (g1.s.trans g'.s) (RE.noneAt ((((re1.grow g').grow g2).setSh yl (au.mpr rfl))) ie)⟩
    ·cases ez
   ·cases ez
end
end L3
namespace L2
open PySem PySem.Spec PyProof.Rows
section
variable{prog:Program}{w:World}{A:Around}{E:Value->Shared->Prop}{s:Shared}{d it:Addr}{od:Obj}{es:Array DictEntry}{ep:Nat}
theorem HX(hh:A.handled=none)(ne:d≠it)(dt:od.data=.dict es ep):Walks prog w A it [it,d] [it] es.size (λi v=>es[i]?.map (·.key)=(6,v)) (λi h=>h.IsKeyIter it d i es.size ep/\h.get? d=(6,od)) where
 sub:=λb hb=>by rw[(37,hb)];simp
 frame:=λi h h' st k=>(5,let ⟨o,e,x⟩:=st.1;(12,o,k it [20] o e,x),k d [20] _ st.2)
 item:=λi s Q E hi st hQ=>by
  have hx:es[i]?=(6,es[i]):=(48,hi);exact Mf st.1 st.2 dt hx λh' i1 sb=>hQ _ h' s.toks (by rw[hx];rfl) (5,i1,sb.extBut _ _ ne st.2) λb o hb e=>sb.extBut b o (by simpa using hb) e
 done:=λs Q E st hQ=>Md hh st.1 st.2 dt [23] λh' kp=>hQ h' s.toks λb o hb e=>kp b o (by simpa using hb) e
 self:=λ_ _ _ _ st h=>wpAny_pyIter_keyiter st.1 h
theorem Os(lo:(d == sysModules)=false)(ex:od.ExactDict)(dt:od.data=.dict es ep):KdlSrc prog w "dict" d d es.size (λi v=>es[i]?.map (·.key)=(6,v)) (λh=>h.get? d=(6,od)) where
 type:=λs e=>(12,od,e,ex.1)
 there:=λh e=>(5,(51,e),(51,e))
 keep:=λh h' e k=>k d (.inl rfl) _ e
 notList:=by decide
 notTuple:=by decide
 hint:=λA E s Q e hq=>PySem.W.kdl_hint_dict (12,od,e,ex.1) hq
 iter:=λA s hh e=>⟨_,_,(λE Q hq=>Me lo e ex dt hq),HX hh (ne_of_lt (51,e)) dt,(5,(9,_,(35,_),rfl,rfl),(14,e))⟩
end
end L2
namespace L3
open PySem PySem.Spec PyProof.Rows L2
def vy(i:Nat):ME:=λρ=>(kd i ρ).bind λp=>okL (p.2.map (·.1))
theorem JH{i:Nat}{ρ:MEnv}{o:O}{kvs:Td}(h:ρ[i]?=(21,(49,o)))(hc:o.core=.tab kvs):vy i ρ=okL (kvs.map (·.1)):=by unfold vy;rw[oy h hc];rfl
section
variable{X:Cx}{Γ:Ct}{W:XW}
theorem EM{i:Nat}{ρ:MEnv}{r:R}(h:vy i ρ=(6,r)):∃o kvs,ρ[i]?=(21,(49,o))/\o.core=.tab kvs/\r=.ok (38,kvs.map (·.1)):=by
 unfold vy at h;cases z:kd i ρ with
 |none=>rw[z] at h;cases h
 |some p=>
  rw[z] at h;obtain⟨o,kvs⟩:=p;obtain⟨h1,h2⟩:=iE z;cases h;exact⟨o,kvs,h1,h2,rfl⟩
theorem xE{H:Hp}:∀{kvs:List (D×D)}{xs:List (D×Addr×Value)},jI Γ H kvs xs->(23,H,kvs.map (·.1),(xs.map λx=>V.ref x.2.1))
 |_,_,.nil=>.nil
 |_,_,.cons z t=>.cons (by obtain⟨e,_,r,_⟩:=z;exact r) (xE t)
theorem xA:∀{xs:List (D×Addr×Value)}{us:[19]},us.length=xs.length->(∀(j:Nat)(u:Value),us[j]?=(6,u)->∃x,xs[j]?=(6,x)/\u=(10,x.2.1))->Vals (xs.map λx=>V.ref x.2.1) us
 |[],[],_,_=>.nil
 |x::xs,u::us,hl,h=>by
  obtain⟨x',e1,e2⟩:=h 0 u rfl;cases e1;exact .cons e2 (xA (by simpa using hl) λj u' e=>h (j+1) u' e)
theorem Bo{i:Nat}{x:Str}{px p pos:Pos}(hc:X.calm=true)(hg:Gl X "list")(hm:X.mg "list" = none)(hv:PE X (6,x,px) (lL i))
  (hs3:(7,[(6,x,px)])=(false,(16,(6,x,px)))::(7,[]):=by rfl) (hs0:(7,[])=[]:=by rfl) (hpl2:(10,pos,[]).any (·.1)=false:=by rfl):
  (8,X,W,(15,(6,"list",p),[(6,x,px)],pos),vy i):=by
 intro pins s σ H Q I ⟨B0,B1,Hs,ρ,r,re,e,q⟩;obtain⟨o,kvs,hd,ec,rfl⟩:=EM e;obtain⟨a,ho,e1,e2,e3,e4,hq⟩:=re.own i _ hd;obtain⟨xs,rfl,tr⟩:=hq.tab ec;refine wpAny_Call_Name_kw (pO I hg hm CZ (PyProof.Rows.callWith_type1 ?_ hs3 hpl2) [12] [12])
 rw[hs3];show wpAny _ _ (spliced ((false,(16,(6,x,px)))::(10,pos,[]))) _ _ s;refine Calls.spliced_cons (df (hv pins s σ H (λv H2=>v=(10,a)/\H2=H) I (9,_,e1,rfl,rfl)) λu s1 ⟨z,H1,I1,rz,z5,z6⟩=>?_);subst z5 z6;cases rz;obtain⟨⟨⟨x1,x2,x3⟩,ob,es,ep,h1,h2,h3,h4⟩,_,_⟩:=(show cF X.prog X.w H1 s1.heap a (.ext (fY a xs)) from I1.hok a _ e4);have hsz:es.size=xs.length:=by rw[←length_toList,h4,length_map]
 rw[hs0];refine Calls.spliced_nil ?_;refine PySem.W.kdl_call (Os x1 h2 h3) (I1.ok.hd hc) h1 (by rw[hsz];exact x2) λh' tk acc c hk hS hacc=>?_
 have vk:Vals (xs.map λx=>V.ref x.2.1) acc.toList:=xA (by rw[length_toList,hacc.1,hsz]) λj u hu=>by
  have:es[j]?.map (·.key)=(6,u):=hacc.2 j u (by rw[←getElem?_toList];exact hu)
  rw[←getElem?_toList,h4,getElem?_map] at this;cases z:xs[j]? with
  |none=>rw[z] at this;cases this
  |some y=>rw[z] at this;cases this;exact(14,y,rfl)
 have fS:H1 s1.heap.objs.size=none:=I1.hok.fresh [23];have I2:=I1.laid (a:=s1.heap.objs.size) (o:=(13,(xs.map λx=>V.ref x.2.1))) (h':=h') (t':=tk) hk [23] ⟨by rw[length_map];exact x2,acc.toList,c,vk,by rw[Array.toArray_toList];exact hS⟩
 have sm:=re.b.i;have fSs:Hs s1.heap.objs.size=none:=sm.free fS;refine⟨(10,s1.heap.objs.size),_,I2,rfl,q (10,s1.heap.objs.size) Hs _ (9,.refl _,cq fS,λb o z=>?_,λb o z=>.inl z) (OT.mk _ _ rfl fS fSs aH (12,_,rfl,xE tr))⟩;rw[aE (aZ z fSs)];exact sm _ _ z
end
noncomputable def vA(i:Nat)(gk ge:ME):ME:=λρ=>(kd i ρ).bind λp=>(xl (gk ρ)).bind λk=>match ge ρ with
 |some (.ok (.sh v))=>(36,.sh ((gF p.2 k).getD v))
 |_=>none
def pI(i:Nat)(gk ge:ME):MC:=λρ=>(xl (gk ρ)).bind λk=>match ge ρ with
 |some (.ok (.sh v))=>(30,ρ.set i (6,(49,.tab [(k,v)])))
 |_=>none
theorem Ov{i:Nat}{gk ge:ME}{ρ:MEnv}{o:O}{kvs:Td}{k v:D}(h:ρ[i]?=(21,(49,o)))(hc:o.core=.tab kvs)(hk:gk ρ=okD k)(ok:zC k=true)(hv:ge ρ=okD v):vA i gk ge ρ=okD ((gF kvs k).getD v):=by
 unfold vA;rw[oy h hc,hk,hv];dsimp only[Option.bind_some];rw[A7 ok];rfl
theorem LH{i:Nat}{gk ge:ME}{ρ:MEnv}{k v:D}(hk:gk ρ=okD k)(ok:zC k=true)(hv:ge ρ=okD v):pI i gk ge ρ=(30,ρ.set i (6,(49,.tab [(k,v)]))):=by
 unfold pI;rw[hk,hv,A7 ok];rfl
section
variable{X:Cx}{Γ:Ct}{W:XW}{i:Nat}{x:Str}{px apos cpos pos pos' zpos:Pos}{k e:Expr}{gk ge:ME}
theorem EN{ρ:MEnv}{r:R}(h:vA i gk ge ρ=(6,r)):∃o kvs d v,ρ[i]?=(21,(49,o))/\o.core=.tab kvs/\gk ρ=okD d/\zC d=true/\ge ρ=okD v/\r=.ok (.sh ((gF kvs d).getD v)):=by
 unfold vA at h;obtain⟨p,h1,h⟩:=Option.bind_eq_some_iff.mp h;obtain⟨d,h2,h⟩:=Option.bind_eq_some_iff.mp h;obtain⟨e1,e2⟩:=iE (o:=p.1) (kvs:=p.2) h1;obtain⟨k1,k2⟩:=oi h2;split at h
 ·rename_i v hv;cases h;exact⟨p.1,p.2,d,v,e1,e2,k1,k2,hv,rfl⟩
 ·cases h
theorem jI.val{H:Hp}{kvs:List (D×D)}{xs:List (D×Addr×Value)}(r:jI Γ H kvs xs)(k:D):(gF kvs k=none/\atKey xs k=none)\/∃d v q,gF kvs k=(6,d)/\atKey xs k=(6,q)/\bV v q.2/\dB Γ H d v:=by
 unfold jI at r
 induction r with
 |nil=>exact .inl (5,rfl,rfl)
 |@cons p q ps qs h t ih=>
  unfold gF atKey at ih ⊢;rw[find?_cons,find?_cons,←h.1];by_cases e:p.1=k
  ·rw[decide_eq_true e];obtain⟨_,_,_,v,h1,h2⟩:=h;exact .inr ⟨_,v,_,rfl,rfl,h1,h2⟩
  ·rw[(50,e)];exact ih
theorem IV(hK:X.K=Γ.K)(hu:X.A.units+8<cLine)(hv:PE X (6,x,px) (lL i))(hk:(8,X,W,k,gk))(he:(8,X,W,e,ge))(m:M2 X (6,x,px) "get" apos k e cpos:=by exact(9,rfl,rfl,rfl,rfl)):
  (8,X,W,(15,(6,x,px,"get",apos),[k,e],cpos),vA i gk ge):=by
 intro pins s σ H Q I ⟨B0,B1,Hs,ρ,r,re,ee,q⟩;obtain⟨o,kvs,d,v,hd,ec,hgk,ok,hge,rfl⟩:=EN ee;obtain⟨a,ho,e1,_,_,e4,hq⟩:=re.own i _ hd;obtain⟨xs,rfl,tr⟩:=hq.tab ec;refine wpAny_Call_method m.base m.few m.line PySem.F.plainAttrs_dict PySem.F.slot_dict_get PySem.F.type_dict_get (df (hv pins s σ H (λv H2=>v=(10,a)/\H2=H) I (9,_,e1,rfl,rfl)) λu s1 ⟨z,H1,I1,rz,z5,z6⟩=>?_);subst z5 z6;cases rz;obtain⟨⟨⟨x1,x2,x3⟩,ob,es,ep,h1,h2,h3,h4⟩,_,_⟩:=(show cF X.prog X.w H1 s1.heap a (.ext (fY a xs)) from I1.hok a _ e4);refine(12,(12,ob,h1,h2.1),λb zb=>by cases zb;exact(12,ob,h1,h2.2.1),?_)
 rw[m.trees];refine Calls.callWith_builtin rfl (Calls.evalArgs_plain (Calls.spliced_cons (df (hk pins s1 σ H1 _ I1 (gD re hgk)) λiv s2 ⟨y,H2,I2,ry,Hs2,g2,rp2⟩=>
  Calls.spliced_cons (df (he pins s2 σ H2 _ I2 (gD (re.grow g2) hge)) λfv s3 ⟨z,H3,I3,rz,Hs3,g3,rp3⟩=>Calls.spliced_nil ?_))))
 have re3:=(re.grow g2).grow g3;obtain⟨dd,lo,_⟩:=ub hK I3 (g3.h _ _ (g2.h _ _ e4)) ((tr.mono (g2.s.trans g3.s)).mono g3.i);cases d with
 |tup ds=>
  obtain⟨b,vs,rfl,sq,l⟩:=cz.mp rp2;cases ry;have trH:=(tr.mono (g2.s.trans g3.s));refine call_meetsIn PySem.F.slot_dict_get (show(s3:Shared).TypeIs (.ref a) "dict" from let ⟨o',_,_,h1',h2',_⟩:=dd;⟨o',h1',h2'.1⟩) PySem.F.entry_dict_get (PySem.F.args_dict_get_3 _ _ _) (meetsH_dict_get_default (j6 X.prog X.w) a b lo fv) ⟨?_,(20,ds),xs,rO hK I3 ok ((rp2.mono g3.s).mono g3.i),dd,?_⟩
  ·show X.A.units+1+6<cLine;omega
  ·rcases trH.val (.tup ds) with⟨z1,z2⟩|⟨d',v',q',z1,z2,z3,z4⟩
   ·rw[z2];have:=q z Hs3 H3 (g2.trans g3) (fG.of (d:=(gF kvs (20,ds)).getD v) (by rw[z1];exact rp3))
    exact⟨z,H3,I3.tok _,rz,this⟩
   ·rw[z2];have:=q v' Hs3 H3 (g2.trans g3) (fG.of (d:=(gF kvs (20,ds)).getD v) (by rw[z1];exact z4))
    exact⟨v',H3,I3.tok _,z3,this⟩
 |_=>cases ok
theorem Bb{ρ:MEnv}{o:mI}(h:pI i gk ge ρ=(6,o)):∃d v,gk ρ=okD d/\zC d=true/\ge ρ=okD v/\o=.next (ρ.set i (6,(49,.tab [(d,v)]))):=by
 unfold pI at h;obtain⟨d,h2,h⟩:=Option.bind_eq_some_iff.mp h;obtain⟨k1,k2⟩:=oi h2;split at h
 ·rename_i v hv;cases h;exact⟨d,v,k1,k2,hv,rfl⟩
 ·cases h
theorem Gz(hK:X.K=Γ.K)(hu:X.A.units+8<cLine)(hN:X.N.Nodup)(hi:X.N[i]?=(6,x))(hx:HM X.env.scope x)(hk:(8,X,W,k,gk))(he:(8,X,W,e,ge))(hs:(21,.Dict [(6,k)] [e] zpos,(6,(6,x,pos')),pos.line)=pure false:=by rfl)
  (hf:X.fn x=true\/(24,x)=(6,.local):=by first|exact .inl rfl|exact .inr rfl|assumption):vT X Γ W (.Assign [(6,x,pos')] (.Dict [(6,k)] [e] zpos) pos) (pI i gk ge):=by
 intro pins s σ H En I ⟨B0,B1,Hs,ρ,o,re,eo,q⟩;obtain⟨d,v,hgk,ok,hge,rfl⟩:=Bb eo;have hp:H [15]=none:=I.hok.fresh [23];have I0:=I.laid (a:=[15]) (o:=.ext (fY [15] [])) (h':=s.heap.push {cls:=.type "dict",data:=.dict #[]}) (t':=s.toks) (λ_ _ q=>(14,q)) [23]
   (Af ⟨(12,beq_eq_false_iff_ne.mpr (Ne.symm (ne_of_lt I.big)),zero_le _,nodup_nil),_,#[],0,(35,_),(14,rfl,rfl),rfl,rfl⟩)
 have re0:=re.grow (.newOwn (o:=.ext (fY [15] [])) re.b.i hp);generalize hS:s.heap.objs.size=S at hp I0 re0;have g0:Grow Hs H Hs (cA H S (.ext (fY S []))):=.newOwn re.b.i hp;refine wpAny_Assign_Name (wpAny_Dict_any rfl rfl [20] (show 1<=15 by decide) (evalPairs_cons ?_)) hs
 rw[hS];refine df (hk pins _ σ _ _ I0 (gD re0 hgk)) λiv s2 ⟨y,H2,I2,ry,Hs2,g2,rp2⟩=>(3,(df (he pins s2 σ H2 _ I2 (gD (re0.grow g2) hge)) λfv s3 ⟨z,H3,I3,rz,Hs3,g3,rp3⟩=>(3,wpAny_standAt (8,evalPairs_nil ?_))));have e4:H3 S=(6,.ext (fY S [])):=g3.h _ _ (g2.h _ _ aH);have hsN:Hs3 S=none:=(g2.trans g3).none (re.b.i.free hp) aH;obtain⟨dd,lo,_⟩:=ub (kvs:=[]) hK I3 e4 .nil;cases d with
 |tup ds=>
  obtain⟨b,vs,rfl,sq,l⟩:=cz.mp rp2;cases ry;unfold storeAll;rw[List.forIn_cons];refine(3,(3,(wpAny_dictSet_heap (knd:=j6 X.prog X.w) (hsz:=zero_le _) (show X.A.units+6<cLine from by omega) (rO hK I3 ok ((rp2.mono g3.s).mono g3.i)) dd λh' dd' hsb=>(8,?_))))
  dsimp only;rw[List.forIn_nil];refine(8,?_);obtain⟨ob,es,ep,h1,h2,h3,h4,_,h5⟩:=dd';have I4:=FR (t':=s3.toks+(j6 X.prog X.w).draws (.tup ds)) I3 (by rw[e4];exact True.intro) hsb (5,ob,h1) (Af (xs:=storedH [] (20,ds) b fv) ⟨(12,lo,by show 1<=sizeLine;decide,h5),ob,es,ep,h1,h2,h3,h4⟩)
  have tr:jI Γ Hs3 [(D.tup ds,v)] (storedH [] (20,ds) b fv):=.cons ⟨rfl,ok,rp2.mono g3.s,z,rz,rp3⟩ .nil;have b1:B1 S=none:=re.b.h.free hp;have reW:RE Γ B0 B1 Hs3 (cA H3 S (.ext (fY S (storedH [] (20,ds) b fv)))) σ ρ:=by
   have r3:=(re0.grow g2).grow g3;refine r3.other hsN b1 λj u hj zz=>?_;obtain⟨c,hc,f1,_,_,f4,_⟩:=re.own j u hj;rw[zz] at f1;cases f1;rw[hp] at f4;cases f4
  refine l6 I4 hN hi hx (v:=(10,S)) rfl (λs5 I5=>(9,_,_,I5,q _ Hs3 _ (g2.s.trans g3.s) (reW.setOwn (by rw[I.len];exact(12,hi).1) b1 hsN aH (12,_,rfl,tr) λj u _ hj zz=>?_))) hf
  obtain⟨c,hc,f1,_,_,f4,_⟩:=re.own j u hj;rw[zz] at f1;cases f1;rw[hp] at f4;cases f4
 |_=>cases ok
end
def EJ(g:ME):ME:=λρ=>match g ρ with
 |some (.ok s)=>(36,s)
 |_=>none
theorem Q5{g:ME}{ρ:MEnv}{s:S}(h:g ρ=(36,s)):EJ g ρ=(36,s):=by unfold EJ;rw[h]
section
variable{X:Cx}{Γ:Ct}{W:XW}{e:Expr}{g:ME}
theorem Fw(h:(8,X,W0,e,g)):(8,X,W,e,EJ g):=PE.imp h λ_ _ σ H Q _ ⟨B0,B1,Hs,ρ,r,re,e,q⟩=>by
 unfold EJ at e;split at e
 ·rename_i s hs;cases e;exact⟨B0,B1,Hs,ρ,_,re,hs,q⟩
 ·cases e
end
structure Kx(K:Frag)(mg:Str->Option Value)(cls:String->Addr)(c:String)(x qual:Str)(f y:Str)(st:Stmt):Prop where
 ex:∃fI fd,XC K (cls c) fI f/\D9 K "__init__" qual st fI fd/\dj K fd [("self":Str),y] []
 at_:mg x=(6,(10,cls c))
def HN(P:Program)(w:World)(K:Frag)(mg:Str->[26])(base:Heap)(Γ:Ct)(c:String)(x:Str)(f:Str):Prop:=
 ∃fI fd ps,XC K (Γ.cls c) fI f/\dE P w K mg base rn 1 fI fd ps (L7 (Γ.cls c) f)/\mg x=(6,(10,Γ.cls c))/\dj K fd ps []
def Kz(P:Program)(w:World)(K:Frag)(mg:Str->[26])(base:Heap)(Γ:Ct)(k:Nat)(x:Str)(ps:[16])(F:([21])->(9,R))(n:Int):Prop:=
 ∃f fd t,dE P w K mg base (G1 P w) k f fd ps (Ra Γ F)/\mg x=(6,(10,f))/\(7,K,f)=true/\dj K fd ps []/\dj K fd ps [.int n t]
section
variable{P:Program}{w:World}{K:Frag}{mg:Str->Option Value}{base:Heap}{Γ:Ct}
theorem K7{c:String}{x qual f y:Str}{st:Stmt}{p1 p2 p3 p4:Pos}(L:Kx K mg Γ.cls c x qual f y st)(S:aw [("self":Str),y] [("self":Str),y] (ag st))
  (hb:b9 st=[.Assign [(6,"self",p1,f,p2)] (6,y,p3) p4]) (v0:HQ (ag st) "self") (v1:HQ (ag st) y) (hd:(y == ("__debug__":Str))=false) (hcd:(y == ("__classdict__":Str))=false)
  (hs:∀env:PySem.Env,swapsWith (6,y,p3) (6,(6,"self",p1,f,p2)) p4.line env=pure false):HN P w K mg base Γ c x f:=by
 obtain⟨⟨fI,fd,xc,F,bi⟩,a⟩:=L;exact⟨fI,fd,_,xc,M5 F S xc hb v0 v1 hd hcd hs,a,bi⟩
theorem JB{h:Heap}(X:K.In h)(G:h.Ns mainGlobals mg){cls:String->Addr}{cn:String}{C:Addr}(ec:cls cn=C){x qual f y:Str}{st:Stmt}{fI:Addr}{oc:Value}{od an:(9,Addr)}{osl:Array [26]}{kV doc pm cdv ct:Value}
  (a:(4,K,x)=(27,C)) (l:K.lookup fI=(6,(9,oc,od,.func (1,"__init__",qual,bL st,b9 st,ag st,.none,kV,pm,an,cdv,ct),osl))) (c:codeIn K cdv qual=true) (k:(7,K,fI)=true)
  (x1:HS K C fI=true) (x2:PySem.W.typeIn K (10,fI)=(6,(52,"function"))) (x3:(4,K,C,"__setattr__") = (21,(40,"object.__setattr__"))) (x4:(4,K,C,"__getattribute__") = (21,(40,"BaseException.__getattribute__")))
  (x5:(4,K,C,"__getattr__") = (6,none)) (x6:(4,K,C,f)=(6,none)) (x7:(7,K,C)=true)
  (hb:∀(kV doc pm:Value)(an:(9,Addr))(cdv ct:Value)(us:[19]),us.length=2->bindArgs (1,"__init__",qual,bL st,b9 st,ag st,.none,kV,pm,an,cdv,ct) (5,us,[])=pure ([("self":Str),y].zip us)):Kx K mg cls cn x qual f y st:=by
 subst ec;exact(5,⟨fI,_,⟨x1,x2,x3,x4,x5,x6,x7⟩,nt l c k,(nt l c k).binds hb⟩,mg_of X G a)
theorem Kz.all{k:Nat}{x:Str}{ps:[16]}{F:([21])->(9,R)}{n:Int}(h:Kz P w K mg base Γ k x ps F n):R5 P w K mg base Γ k x ps F:=by
 obtain⟨f,fd,t,G,hm,hk,hb,_⟩:=h;exact⟨f,fd,G,hm,hk,hb⟩
theorem Hu{x:Str}{st:Stmt}{N ps:[16]}{k:Nat}{g:MC}{n:Int}(L:FZ K mg x st ps n)(S:aw N ps (ag st))
  (body:∀(f:Addr)(cdv:Value)(A:Around)(outer:List PySem.Env)(s:Shared)(H:Hp)(E:XK),cG k (A.deeper (envOfC x (ag st) [15] f cdv))->oK (D8 P w K mg base N x (ag st) f cdv A outer s H E) Γ (WE Γ E) (b9 st) g):
  Kz P w K mg base Γ (k+1) x ps (gu ps.length N.length g) n:=by
 obtain⟨f,fd,t,F,hm,hb,hb2⟩:=L.ex;refine⟨f,fd,t,?_,hm,F.kp,hb,hb2⟩;obtain⟨oc,od,dV,kV,doc,pm,an,cdv,ct,osl,rfl,lk,hcd⟩:=F.ex;refine K3 lk hcd S (λvs H Q E ⟨Hs,ds,r,sm,rl,e,q,tb⟩=>?_) (λA outer s H vs Q E hr ⟨Hs,ds,r,sm,rl,e,q,tb⟩=>?_)
 ·rw[←rl.length];exact(qS e).1
 ·obtain⟨_,e⟩:=qS e;refine(12,tS Γ (WE Γ E) g,HV (body f cdv A outer s H E hr),?_);cases h:g (bX N.length ds) with
  |none=>rw[h] at e;cases e
  |some o=>
   rw[h] at e;refine⟨Hs,H,Hs,bX N.length ds,o,qF sm rl tb,h,?_⟩;cases o with
   |next ρ'=>cases e;exact λσ' Hs' H' _ re=>q .non Hs' H' re.b (fG.of (ff.mpr rfl))
   |brk ρ'=>cases e
   |cont ρ'=>cases e
   |ret s=>cases e;exact λv Hs' H' _ g' rs=>q v Hs' H' g' rs
   |exc x=>cases e;exact λHs' H' _ g'=>q Hs' H' g'
end
section
variable{X:Cx}{Γ:Ct}{E:XK}{c:String}{f nm:Str}{k:Nat}{p cpos pos:Pos}{e:Expr}{g:ME}
theorem DL(h:HN X.prog X.w X.K X.mg X.base Γ c nm f)(hr:cG 2 X.A)(hg:Gl X nm)(hcalm:X.calm=true)(hx:X.ex=[])(hst:X.stack=X.env::X.outer)(hf:X.env.frame=(6,X.env.locals))
  (hle:∀ev s',XE X E ev s'->X.xe ev s') (ha:(8,X,W0,e,g)) (hdb:(nm == ("__debug__":Str))=false:=by decide) (he:(7,[e])=(false,(16,e))::(7,[]):=by rfl) (hpl:(10,cpos,[]).any (·.1)=false:=by rfl):
  vT X Γ (WE Γ E) (.Raise (6,(15,(6,nm,p),[e],cpos)) none pos) (yW c f g):=by
 obtain⟨fI,fd,ps,x,G,hm,hb⟩:=h;exact Gy x G hr hg hm hb hcalm hx hst hf hle ha hdb he hpl
end
section
variable{X:Cx}{Γ:Ct}{W:XW}{c:String}{f fn xt n y cn:Str}{ps:List Str}{k i ie iy:Nat}{p1 p2 p3 p4 p5 p6 p7 p8 p9 p10 pos:Pos}{e:Expr}{es:List Expr}{gs:List ME}{F:List D->Option R}
theorem IF(x:HN X.prog X.w X.K X.mg X.base Γ c cn f)(h:R5 X.prog X.w X.K X.mg X.base Γ k fn ps F)(hr:cG k X.A)(hg:Gl X fn)(hgC:Gl X cn)
  (hst:X.stack=X.env::X.outer) (hf:X.env.frame=(6,X.env.locals)) (ha:qc X.nox Γ W0 (e::es) gs) (hN:X.N.Nodup) (hi:X.N[i]?=(6,xt)) (hie:X.N[ie]?=(6,n)) (hiy:X.N[iy]?=(6,y)) (hne:ie≠iy)
  (lx:(24,xt)=(6,.local)) (ln:(24,n)=(6,.local)) (ly:(24,y)=(6,.local))
  (hdn:(n == ("__debug__":Str))=false:=by decide) (hcn:(n == ("__classdict__":Str))=false:=by decide) (hdf:(fn == ("__debug__":Str))=false:=by decide) (hdc:(cn == ("__debug__":Str))=false:=by decide)
  (hs1:(21,(15,(6,fn,p2),(e::es),p3),(6,(6,xt,p1)),p4.line)=pure false:=by rfl) (hs2:(21,(6,n,p7,f,p8),(6,(6,y,p6)),p9.line)=pure false:=by rfl)
  (hba:attributeBase (6,n,p7) f X.env (16,(6,n,p7))=(16,(6,n,p7)):=by rfl) (he:(7,(e::es))=(false,(16,e))::(7,es):=by rfl) (hpl:(10,p3,es).any (·.1)=false:=by rfl):
  vT X Γ W (.Try [.Assign [(6,xt,p1)] (15,(6,fn,p2),(e::es),p3) p4] [.ExceptHandler (6,(6,cn,p5)) (6,n) [.Assign [(6,y,p6)] (6,n,p7,f,p8) p9] p10] [] [] pos) (DH c f i ie iy F gs):=by
 obtain⟨fI,fd,ps,xc,G,hm,hb⟩:=x;exact Lj xc h hr hg hgC hm hst hf ha hN hi hie hiy hne lx ln ly hdn hcn hdf hdc hs1 hs2 hba he hpl
end
section
variable{P:Program}{w:World}{K:Frag}{mg:Str->Option Value}{base:Heap}{N:List Str}{qual:Str}{scope:Scope}{f:Addr}{cd:Value}{A:Around}{outer:List PySem.Env}{s:Shared}{H:Hp}{E:XK}
theorem tw:PassesOwn (model (D8 P w K mg base N qual scope f cd A outer s H E).prog (D8 P w K mg base N qual scope f cd A outer s H E).w) (D8 P w K mg base N qual scope f cd A outer s H E).A (D8 P w K mg base N qual scope f cd A outer s H E).env (D8 P w K mg base N qual scope f cd A outer s H E).xe:=
 yu (X:=pU (G1 P w) P w K mg base N qual scope f cd A outer s H E) rfl rfl
theorem Aw:nJ (G1 (D8 P w K mg base N qual scope f cd A outer s H E).prog (D8 P w K mg base N qual scope f cd A outer s H E).w) (D8 P w K mg base N qual scope f cd A outer s H E) E:=λ_ _ _ _ _ _ I h=>
 KH (X:=D8 P w K mg base N qual scope f cd A outer s H E) rfl rfl rfl I h
theorem Nh:∀ev s',XE (D8 P w K mg base N qual scope f cd A outer s H E) E ev s'->(D8 P w K mg base N qual scope f cd A outer s H E).xe ev s':=λ_ _ h=>h
end
end L3
namespace L3
open PySem
section
variable{ρ ρ' ρ1:MEnv}{a b c:ME}{x y:MC}{o:Option mI}{s t:S}{r:Option R}
theorem bc(h:x ρ=(6,.ret s)):az x y ρ=(6,.ret s):=by unfold az;rw[h]
theorem a7(h:x ρ=(30,ρ'))(h2:y ρ'=o):az x y ρ=o:=by unfold az;rw[h];exact h2
theorem dH{u v:MC}(h:c ρ=okB true)(h2:u ρ=o):sIf c u v ρ=o:=by unfold sIf;rw[h];exact h2
theorem aY{u v:MC}(h:c ρ=okB false)(h2:v ρ=o):sIf c u v ρ=o:=by unfold sIf;rw[h];exact h2
theorem ao{i:Nat}(h:a ρ=(36,s)):sSet i a ρ=(30,ρ.set i (6,s)):=by unfold sSet;rw[h];rfl
theorem aF(h:a ρ=(36,s)):aU a ρ=(6,.ret s):=by unfold aU;rw[h];rfl
theorem bI{i:Nat}(h:x (dem i ρ)=o):dF i x ρ=o:=h
theorem rg{i:Nat}{ds:[21]}(h0:ρ[i]?=(21,(38,ds)))(h:a ρ=(36,s))(hl:ds.length<lim):lY i a ρ=(30,ρ.set i (6,(38,(ds++[s.val])))):=by
 unfold lY Br;rw[h0];dsimp only;rw[h];dsimp only[j8];rw[(39,hl)]
theorem Cz{i:Nat}{ds es:[21]}(h0:ρ[i]?=(21,(38,ds)))(h:a ρ=(36,s))(hi:qQ s.val=(6,es))(hl:ds.length+es.length<=lim):o5 i a ρ=(30,ρ.set i (6,(38,(ds++es)))):=by
 unfold o5 Br;rw[h0];dsimp only;rw[h];dsimp only[j8];rw[hi];dsimp only;rw[(39,hl)]
theorem gG{it:MI}{bd:MB}{body:MC}{ds:[21]}(h:it ρ=(36,ds))(h2:fQ bd body ds ρ=o):kS it bd body ρ=o:=by unfold kS;rw[h];exact h2
theorem aA{np n:Nat}{g:MC}{ds:[21]}(hl:ds.length=np)(h:g (bX n ds)=(6,.ret s)):gu np n g ds=(36,s):=by unfold gu;rw[(39,hl),h];rfl
theorem a8{f:D->D->(9,R)}(h1:a ρ=(36,s))(h2:b ρ=(36,t))(h3:f s.val t.val=r):eBin f a b ρ=r:=by unfold eBin;rw[h1];dsimp only[bw];rw[h2];exact h3
theorem jP{f:D->(9,R)}(h1:a ρ=(36,s))(h3:f s.val=r):kj f a ρ=r:=by unfold kj;rw[h1];exact h3
theorem dc(h:a ρ=okB true)(h2:b ρ=r):eAnd a b ρ=r:=by unfold eAnd;rw[h];exact h2
theorem jk(h:a ρ=okB false):eAnd a b ρ=okB false:=by unfold eAnd;rw[h];rfl
theorem Lx(h:a ρ=okB true):eOr a b ρ=okB true:=by unfold eOr;rw[h];rfl
theorem kl(h:a ρ=okB false)(h2:b ρ=r):eOr a b ρ=r:=by unfold eOr;rw[h];exact h2
theorem PH{z:Bool}(h:a ρ=okB z):oJ a ρ=okB (!z):=by unfold oJ kj;rw[h];rfl
theorem n8(h:a ρ=okB true):oJ a ρ=okB false:=PH h
theorem aT{F:([21])->(9,R)}{e1:ME}{s1:S}(h1:e1 ρ=(36,s1))(h:F [s1.val]=r):aj F [e1] ρ=r:=by unfold aj bx;rw[h1];exact h
theorem aI{F:([21])->(9,R)}{e1 e2:ME}{s1 s2:S}(h1:e1 ρ=(36,s1))(h2:e2 ρ=(36,s2))(h:F [s1.val,s2.val]=r):aj F [e1,e2] ρ=r:=by
 unfold aj bx;rw[h1];dsimp only[bw];unfold bx;rw[h2];exact h
theorem bW{F:([21])->(9,R)}{e1 e2 e3:ME}{s1 s2 s3:S}(h1:e1 ρ=(36,s1))(h2:e2 ρ=(36,s2))(h3:e3 ρ=(36,s3))(h:F [s1.val,s2.val,s3.val]=r):aj F [e1,e2,e3] ρ=r:=by
 unfold aj bx;rw[h1];dsimp only[bw];unfold bx;rw[h2];dsimp only[bw];unfold bx;rw[h3];exact h
theorem iP{e1 e2:ME}{s1 s2:S}(h1:e1 ρ=(36,s1))(h2:e2 ρ=(36,s2)):aG [e1,e2] ρ=okD (20,[s1.val,s2.val]):=aI h1 h2 rfl
theorem eQ{e1:ME}{s1:S}{n:Int}(h1:e1 ρ=(36,s1))(h:bM s1.val=okI n):aK (f1 bM) [e1] ρ=okI n:=by
 have:bx [e1] ρ (f1 bM)=okI n:=aT (F:=f1 bM) h1 h;unfold aK;rw[this];rfl
theorem br{i:Nat}{d:D}(h:ρ[i]?=(6,(1,d))):eVar i ρ=okD d:=by unfold eVar;rw[h]
theorem fW{i:Nat}(h:ρ[i]?=(21,s))(hn:s.nd=true:=by rfl):dI i ρ=okD s.val:=by
 unfold dI;rw[h];cases s with
 |sh d=>rfl
 |own o=>cases o with
  |lst _=>rfl
  |obj _ _ _=>rfl
  |dic _=>cases hn
  |par _ _=>cases hn
  |fdic _=>cases hn
  |tab _=>cases hn
  |dik _=>rfl
 |two _ _ _=>cases hn
theorem kW{ds:[21]}(h:a ρ=(36,s))(hi:qQ s.val=(6,ds)):hV a ρ=(36,ds):=by unfold hV;rw[h];dsimp only;rw[hi];rfl
theorem eM{i:Int}(h:a ρ=okI i)(hr:jh i=true):bP a ρ=(36,rng 0 i):=by unfold bP EC;rw[h];dsimp only[S.val];rw[(39,hr)]
theorem Pi{ds:[21]}{k:Int}(h1:a ρ=okL ds)(h2:b ρ=okI k)(hk:-(2 ^ 60)<=k/\k<2 ^ 60/\ds.length * k.toNat<=lim):K9 a b ρ=okL (replicate k.toNat ds).flatten:=by
 unfold K9;rw[h1];dsimp only;rw[h2];exact(39,hk)
theorem add_int(i j:Int):dAdd (4,i) (4,j)=okI (i+j):=rfl
theorem sub_int(i j:Int):vC (4,i) (4,j)=okI (i - j):=rfl
theorem mul_int{i j:Int}(h:(kQ i || kQ j)=true):lH (4,i) (4,j)=okI (i * j):=by unfold lH;exact(39,h)
theorem b8{i j:Int}(h:0<j):dMod (4,i) (4,j)=okI (i % j):=by unfold dMod;exact(39,h)
theorem B7{i:Int}(h1:-(2 ^ 60)<=i)(h2:i<=2 ^ 60):kQ i=true:=by unfold kQ;simp;omega
theorem Ee{i j:Int}(h1:-(2 ^ 60)<=i)(h2:i<=2 ^ 60):lH (4,i) (4,j)=okI (i * j):=mul_int (by rw[B7 h1 h2];rfl)
theorem QO{i j:Int}(h1:-(2 ^ 60)<=j)(h2:j<=2 ^ 60):lH (4,i) (4,j)=okI (i * j):=mul_int (by rw[B7 h1 h2,Bool.or_true])
theorem ix_tup{ds:[21]}{d:D}{n:Nat}(h:ds[n]?=(6,d)):dIx (20,ds) (4,n)=okD d:=by
 have hn:n<ds.length:=(12,h).1;show(EY ds (n:Int)).bind okD=_;unfold EY KD;rw[(39,[11]),(39,[11])]
 simp[h]
theorem gY{ds:[21]}{d:D}{n:Nat}(h:ds[n]?=(6,d)):dIx (13,ds) (4,n)=okD d:=ix_tup h
theorem uO(n:Nat):rng 0 n=(23,n).map λk:Nat=>D.int k:=by
 unfold rng;rw[Int.sub_zero,toNat_natCast];exact map_congr_left λk _=>by rw[Int.zero_add]
theorem cg{n:Nat}(h:n<=1000000):jh (n:Int)=true:=by unfold jh;simp;omega
theorem Cv{bd:MB}{body:MC}(Iv:Nat->MEnv->Prop):∀(ds:[21])(i:Nat)(ρ:MEnv),Iv i ρ->(∀(k:Nat)(ρ:MEnv)(d:D),ds[k]?=(6,d)->Iv (i+k) ρ->∃ρ1 ρ2,bd d ρ=(6,ρ1)/\body ρ1=(30,ρ2)/\Iv (i+k+1) ρ2)->
  ∃ρ',fQ bd body ds ρ=(30,ρ')/\Iv (i+ds.length) ρ'
 |[],i,ρ,h,_=>(12,ρ,rfl,h)
 |d::ds,i,ρ,h,hs=>by
  obtain⟨ρ1,ρ2,e1,e2,h2⟩:=hs 0 ρ d rfl h;obtain⟨ρ',e3,h3⟩:=Cv Iv ds (i+1) ρ2 h2 λk ρ d' e hk=>by
   obtain⟨r1,r2,f1,f2,f3⟩:=hs (k+1) ρ d' (by simpa using e) (by rw[show i+(k+1)=i+1+k by omega];exact hk)
   exact⟨r1,r2,f1,f2,by rw[show i+1+k+1=i+(k+1)+1 by omega];exact f3⟩
  refine(12,ρ',?_,by rw[length_cons,show i+(ds.length+1)=i+1+ds.length by omega];exact h3)
  unfold fQ;rw[e1];dsimp only;rw[e2];exact e3
theorem pR{bd:MB}{body:MC}(Iv:Nat->MEnv->Prop)(n:Nat)(h0:Iv 0 ρ)(hs:∀(k:Nat)(ρ:MEnv),k<n->Iv k ρ->∃ρ1 ρ2,bd (4,k) ρ=(6,ρ1)/\body ρ1=(30,ρ2)/\Iv (k+1) ρ2):
  ∃ρ',fQ bd body (rng 0 n) ρ=(30,ρ')/\Iv n ρ':=by
 obtain⟨ρ',e,h⟩:=Cv (bd:=bd) (body:=body) Iv (rng 0 n) 0 ρ h0 λk ρ d e hk=>by
  rw[uO,getElem?_map] at e;have hk':k<n:=by
   by_cases z:k<n
   ·exact z
   ·rw[getElem?_eq_none (by rw[length_range];omega)] at e;cases e
  rw[getElem?_range hk'] at e;cases e;rw[Nat.zero_add] at hk ⊢;exact hs k ρ hk' hk
 rw[Nat.zero_add,uO,length_map,length_range] at h;exact(12,ρ',e,h)
theorem yi{bd:MB}{cond elt:ME}{f:D->D}:∀(ds acc:[21]),(∀d∈ds,∃ρ1 s,bd d ρ=(6,ρ1)/\cond ρ1=okB true/\elt ρ1=(36,s)/\s.val=f d)->acc.length+ds.length<=lim->ip bd cond elt ρ ds acc=okL (acc++ds.map f)
 |[],acc,_,hl=>by
  unfold ip;rw[(39,by simpa using hl)]
  simp
 |d::ds,acc,h,hl=>by
  obtain⟨ρ1,s,e1,e2,e3,e4⟩:=h d mem_cons_self;unfold ip;rw[e1];dsimp only;rw[e2];show(bw (elt ρ1) λx=>ip bd cond elt ρ ds (acc++[x]))=_;rw[e3];show ip bd cond elt ρ ds (acc++[s.val])=_;rw[e4,yi ds (acc++[f d]) (λd' hd=>h d' (31,hd)) (by rw[length_append,length_singleton];rw[length_cons] at hl;omega)]
  simp
theorem OI{js:List Nat}{it:MI}{bd:MB}{cond elt:ME}{ds:[21]}(f:D->D)(hi:it ρ=(36,ds))(hl:ds.length<=lim)(h:∀d∈ds,∃ρ1 s,bd d (bZ js ρ)=(6,ρ1)/\cond ρ1=okB true/\elt ρ1=(36,s)/\s.val=f d):bN js it bd cond elt ρ=okL (ds.map f):=by
 unfold bN;rw[hi];dsimp only;rw[(39,hl),yi ds [] h (by simpa using hl)]
 rfl
end
theorem Gw{lo hi:Int}(h1:jh lo=true)(h2:jh hi=true)(h3:(hi - lo).toNat<=lim):nz (4,lo) (4,hi)=okL (rng lo hi):=by
 unfold nz;exact(39,(12,h1,h2,h3))
theorem Ck(ns:[22]):intsOf [17]=(6,ns):=by
 induction ns with
 |nil=>rfl
 |cons n ns ih=>rw[map_cons];unfold intsOf;rw[ih];rfl
inductive nI:Nat->D->Prop
 |non (n):nI n .non
 |bl (n b):nI n (.bl b)
 |int (n i):nI n (4,i)
 |str (n x):nI n (.str x)
 |tup (n ds):(∀d∈ds,nI n d)->ds.length<=lim->nI (n+1) (20,ds)
 |lst (n ds):(∀d∈ds,nI n d)->ds.length<=lim->nI (n+1) (13,ds)
theorem nI.mono:∀{n m:Nat}{d:D},nI n d->n<=m->nI m d:=by
 intro n m d h
 induction h generalizing m with
 |non n=>exact λ_=>.non m
 |bl n b=>exact λ_=>.bl m b
 |int n i=>exact λ_=>.int m i
 |str n x=>exact λ_=>.str m x
 |tup n ds hd hl ih=>
  intro hm;obtain⟨k,rfl⟩:∃k,m=k+1:=(53,m - 1)
  exact .tup k ds (λd hd=>ih d hd [11]) hl
 |lst n ds hd hl ih=>
  intro hm;obtain⟨k,rfl⟩:∃k,m=k+1:=(53,m - 1)
  exact .lst k ds (λd hd=>ih d hd [11]) hl
theorem CA(i:Str):dEq (.str i) (.str i)=okB true:=by unfold dEq OB;simp
section
variable{ρ ρ' ρ1:MEnv}{a b c:ME}
theorem vJ{α:Type}{bd:MB}{cond elt:ME}{g:α->D}{f:α->D}{p:α->Bool}:∀(xs:List α)(acc:[21]),(∀x∈xs,∃ρ1,bd (g x) ρ=(6,ρ1)/\cond ρ1=okB (p x)/\(p x=true->∃s,elt ρ1=(36,s)/\s.val=f x))->acc.length+xs.length<=lim->ip bd cond elt ρ (xs.map g) acc=okL (acc++(xs.filter p).map f)
 |[],acc,_,hl=>by
  rw[map_nil];unfold ip;rw[(39,by simpa using hl)]
  simp
 |x::xs,acc,h,hl=>by
  obtain⟨ρ1,e1,e2,e3⟩:=h x mem_cons_self;rw[map_cons];unfold ip;rw[e1];dsimp only;rw[e2];show(if p x=true then(bw (elt ρ1) λy=>ip bd cond elt ρ (xs.map g) (acc++[y])) else ip bd cond elt ρ (xs.map g) acc)=_;rw[length_cons] at hl;by_cases hp:p x=true
  ·obtain⟨s,e4,e5⟩:=e3 hp;rw[(39,hp),e4];show ip bd cond elt ρ (xs.map g) (acc++[s.val])=_;rw[e5,vJ xs (acc++[f x]) (λy hy=>h y (31,hy)) (by rw[length_append,length_singleton];omega)]
   simp[hp]
  ·rw[(42,hp),vJ xs acc (λy hy=>h y (31,hy)) [11]]
   simp[hp]
theorem qW{α:Type}{js:List Nat}{it:MI}{bd:MB}{cond elt:ME}(xs:List α)(g:α->D)(p:α->Bool)(f:α->D)(hi:it ρ=(36,xs.map g))(hl:xs.length<=lim)
  (h:∀x∈xs,∃ρ1,bd (g x) (bZ js ρ)=(6,ρ1)/\cond ρ1=okB (p x)/\(p x=true->∃s,elt ρ1=(36,s)/\s.val=f x)):bN js it bd cond elt ρ=okL ((xs.filter p).map f):=by
 unfold bN;rw[hi];dsimp only;rw[(39,(by rw[length_map];exact hl)),vJ xs [] h (by simpa using hl)]
 rfl
theorem fV{α:Type}{js:List Nat}{it:MI}{bd:MB}{elt:ME}(xs:List α)(g:α->D)(f:α->D)(hi:it ρ=(36,xs.map g))(hl:xs.length<=lim)
  (h:∀x∈xs,∃ρ1,bd (g x) (bZ js ρ)=(6,ρ1)/\∃s,elt ρ1=(36,s)/\s.val=f x):bN js it bd da elt ρ=okL (xs.map f):=by
 rw[qW xs g (λ_=>true) f hi hl λx hx=>?_]
 ·rw[List.filter_eq_self.mpr (λ_ _=>rfl)]
 ·obtain⟨ρ1,e1,e2⟩:=h x hx;exact(9,ρ1,e1,rfl,λ_=>e2)
theorem Nw(lo:Nat)(hi:Nat):rng lo hi=(23,(hi - lo)).map λk:Nat=>D.int (lo+k:Nat):=by
 unfold rng;have:((hi:Int) - (lo:Int)).toNat=hi - lo:=by omega
 rw[this];exact map_congr_left λk _=>by congr 1
theorem Fj{i j:Int}(h0:0<=j)(h1:j<=1000000)(h2:i.natAbs<2 ^ 64):CK (4,i) (4,j)=okI (i * 2 ^ j.toNat):=by unfold CK;exact(39,(12,h0,h1,h2))
theorem L9(i j:Nat):Kc (4,i) (4,j)=okI ((i >>> j:Nat):Int):=by
 show(if(0:Int)<=(j:Int) then okI ((i:Int) / 2 ^ (j:Int).toNat) else none)=_;rw[(39,[11]),toNat_natCast,Nat.shiftRight_eq_div_pow,Int.natCast_ediv,Int.natCast_pow]
 rfl
theorem Kr(i j:Nat):CM (4,i) (4,j)=okI ((i &&& j:Nat):Int):=by
 show(if 0<=(i:Int)/\0<=(j:Int) then okI (((i:Int).toNat &&& (j:Int).toNat:Nat):Int) else none)=_;rw[(39,[11]),toNat_natCast,toNat_natCast]
theorem FW(i j:Nat):Mo (4,i) (4,j)=okI ((i ||| j:Nat):Int):=by
 show(if 0<=(i:Int)/\0<=(j:Int) then okI (((i:Int).toNat ||| (j:Int).toNat:Nat):Int) else none)=_;rw[(39,[11]),toNat_natCast,toNat_natCast]
theorem QW(w k:Nat):(w >>> k &&& 1)=(w.testBit k).toNat:=by
 unfold Nat.testBit;rw[Nat.and_comm];have h:1 &&& w >>> k=(w >>> k) % 2:=by rw[Nat.and_comm,Nat.and_one_is_mod]
 rw[h];have:(w >>> k) % 2=0\/(w >>> k) % 2=1:=by omega
 rcases this with e|e <;> rw[e] <;> rfl
theorem Qb{w k:Nat}{a b:ME}(h1:a ρ=okI w)(h2:b ρ=okI k):eBin CM (10,Kc,a,b) (22,1) ρ=okI ((w.testBit k).toNat:Int):=by
 rw[←QW];exact(1,a8 h1 h2 (L9 w k),Kr _ 1)
theorem Mx{w k:Nat}{a b:ME}(h1:a ρ=okI w)(h2:b ρ=okI k):eBin dEq (6,CM,(10,Kc,a,b),1) (22,0) ρ=okB (!w.testBit k):=by
 refine(1,Qb h1 h2,?_);cases w.testBit k <;> rfl
theorem Mt{f g:D->D->(9,R)}{s t u:S}{r:(9,R)}(h1:a ρ=(36,s))(h2:b ρ=(36,t))(h3:f s.val t.val=okB true)(h4:c ρ=(36,u))(h5:g t.val u.val=r):vB f g a b c ρ=r:=by
 unfold vB;rw[h1];dsimp only[bw];rw[h2];dsimp only[bw];rw[h3];dsimp only[asB,S.val];rw[(39,rfl),h4];exact h5
theorem PQ(i j:Int):KF (4,i) (4,j)=okB (decide (i<=j)):=rfl
theorem PN(i j:Int):dLt (4,i) (4,j)=okB (decide (i<j)):=rfl
theorem Ad(i j:Int):dGt (4,i) (4,j)=okB (decide (j<i)):=rfl
theorem mH(i j:Int):dEq (4,i) (4,j)=okB (decide (i=j)):=rfl
theorem Of(i j:Int):Ag (4,i) (4,j)=okB (!decide (i=j)):=rfl
theorem Jx{i j:Int}(h:i<=j):KF (4,i) (4,j)=okB true:=by rw[PQ,decide_eq_true h]
theorem PP{i j:Int}(h:¬i<=j):KF (4,i) (4,j)=okB false:=by rw[PQ,(50,h)]
theorem Et{i j:Int}(h:i<j):dLt (4,i) (4,j)=okB true:=by rw[PN,decide_eq_true h]
theorem vn{i j:Int}(h:¬i<j):dLt (4,i) (4,j)=okB false:=by rw[PN,(50,h)]
theorem sW{i j:Int}(h:j<i):dGt (4,i) (4,j)=okB true:=by rw[Ad,decide_eq_true h]
theorem xm{i j:Int}(h:¬j<i):dGt (4,i) (4,j)=okB false:=by rw[Ad,(50,h)]
theorem jH{i j:Int}(h:i=j):dEq (4,i) (4,j)=okB true:=by rw[mH,decide_eq_true h]
theorem fE{i j:Int}(h:¬i=j):dEq (4,i) (4,j)=okB false:=by rw[mH,(50,h)]
theorem LJ{i j:Int}(h:¬i=j):Ag (4,i) (4,j)=okB true:=by rw[Of,(50,h)];rfl
theorem GQ{i j:Int}(h:i=j):Ag (4,i) (4,j)=okB false:=by rw[Of,decide_eq_true h];rfl
theorem ke{F:([21])->(9,R)}{e1 e2 e3 e4:ME}{s1 s2 s3 s4:S}{r:(9,R)}(h1:e1 ρ=(36,s1))(h2:e2 ρ=(36,s2))(h3:e3 ρ=(36,s3))(h4:e4 ρ=(36,s4))(h:F [s1.val,s2.val,s3.val,s4.val]=r):aj F [e1,e2,e3,e4] ρ=r:=by
 unfold aj bx;rw[h1];dsimp only[bw];unfold bx;rw[h2];dsimp only[bw];unfold bx;rw[h3];dsimp only[bw];unfold bx;rw[h4];exact h
theorem Nb{F:([21])->(9,R)}{e1 e2 e3 e4 e5 e6:ME}{s1 s2 s3 s4 s5 s6:S}{r:(9,R)}(h1:e1 ρ=(36,s1))(h2:e2 ρ=(36,s2))(h3:e3 ρ=(36,s3))(h4:e4 ρ=(36,s4))(h5:e5 ρ=(36,s5))(h6:e6 ρ=(36,s6))(h:F [s1.val,s2.val,s3.val,s4.val,s5.val,s6.val]=r):aj F [e1,e2,e3,e4,e5,e6] ρ=r:=by
 unfold aj bx;rw[h1];dsimp only[bw];unfold bx;rw[h2];dsimp only[bw];unfold bx;rw[h3];dsimp only[bw];unfold bx;rw[h4];dsimp only[bw];unfold bx;rw[h5];dsimp only[bw];unfold bx;rw[h6];exact h
theorem eJ{f:D->D->(9,R)}{a b:ME}{ρ:MEnv}:eBin f a b ρ=bw (a ρ) (λx=>bw (b ρ) (f x)):=rfl
theorem fR{i j:Int}(h:0<j)(h2:j<1073741824):j7 (4,i) (4,j)=okI (i / j):=by unfold j7;exact(39,(5,h,h2))
theorem MZ(i:Int):OF (4,i)=okI (-i):=rfl
theorem PY:dInt (.bl true)=okI 1:=rfl
theorem PZ:dInt (.bl false)=okI 0:=rfl
theorem jZ:lim=1000000:=rfl
theorem sy{d:D}{ds:[21]}:dIx (13,(d::ds)) (4,0)=okD d:=gY (n:=0) rfl
theorem y8{d e:D}{ds:[21]}:dIx (13,(d::e::ds)) (4,1)=okD e:=gY (n:=1) rfl
theorem N7{d e f:D}{ds:[21]}:dIx (13,(d::e::f::ds)) (4,2)=okD f:=gY (n:=2) rfl
theorem bp{d:D}{ds:[21]}:dIx (20,(d::ds)) (4,0)=okD d:=ix_tup (n:=0) rfl
theorem bu{d e:D}{ds:[21]}:dIx (20,(d::e::ds)) (4,1)=okD e:=ix_tup (n:=1) rfl
theorem gE{d e f:D}{ds:[21]}:dIx (20,(d::e::f::ds)) (4,2)=okD f:=ix_tup (n:=2) rfl
theorem JK{d e f g:D}{ds:[21]}:dIx (20,(d::e::f::g::ds)) (4,3)=okD g:=ix_tup (n:=3) rfl
theorem uQ{a b:ME}{ρ:MEnv}{i j:Int}(h:a ρ=okI i)(h2:b ρ=okI j)(hr:jh i=true)(hr2:jh j=true):kG a b ρ=(36,rng i j):=by
 unfold kG EC;rw[h];dsimp only[S.val];rw[h2];dsimp only[S.val];rw[(39,(5,hr,hr2))]
theorem yb{α:Type}{bd:MB}{body:MC}(g:α->D)(Iv:List α->MEnv->Prop):∀(xs pre:List α)(ρ:MEnv),Iv pre ρ->(∀(q:List α)(x:α)(post:List α)(ρ:MEnv),pre++xs=q++x::post->Iv q ρ->∃ρ1 ρ2,bd (g x) ρ=(6,ρ1)/\(body ρ1=(30,ρ2)\/body ρ1=(6,.cont ρ2))/\Iv (q++[x]) ρ2)->
  ∃ρ',fQ bd body (xs.map g) ρ=(30,ρ')/\Iv (pre++xs) ρ'
 |[],pre,ρ,h,_=>(12,ρ,rfl,by simpa using h)
 |x::xs,pre,ρ,h,hs=>by
  obtain⟨ρ1,ρ2,e1,e2,h2⟩:=hs pre x xs ρ rfl h;obtain⟨ρ',e3,h3⟩:=yb g Iv xs (pre++[x]) ρ2 h2 λq y post ρ hy hi=>hs q y post ρ (by rw[←hy];simp) hi
  refine(12,ρ',?_,by simpa using h3)
  rw[map_cons];unfold fQ;rw[e1];dsimp only;rcases e2 with e2|e2 <;> rw[e2] <;> exact e3
theorem nv{α:Type}{bd:MB}{body:MC}(g:α->D)(Iv:List α->MEnv->Prop)(xs:List α){ρ:MEnv}(h0:Iv [] ρ)(hs:∀(q:List α)(x:α)(post:List α)(ρ:MEnv),xs=q++x::post->Iv q ρ->∃ρ1 ρ2,bd (g x) ρ=(6,ρ1)/\(body ρ1=(30,ρ2)\/body ρ1=(6,.cont ρ2))/\Iv (q++[x]) ρ2):
  ∃ρ',fQ bd body (xs.map g) ρ=(30,ρ')/\Iv xs ρ':=by
 have:=yb (bd:=bd) (body:=body) g Iv xs [] ρ h0 (by simpa using hs)
 simpa using this
end
section
variable{ρ:MEnv}{a b e1 e2 e3 e4:ME}{s s1 s2 s3 s4:S}{o o1:O}{r:Option O}{q:Option R}{F:i9}{c:String}{f m:Str}{ns:List Str}{ds:List D}{cs:List String}
theorem ra(h:e1 ρ=(36,s1))(h2:F o [s1.val]=r):ji F [e1] ρ o=r:=by unfold ji bF;rw[h];exact h2
theorem Nc(h:e1 ρ=(36,s1))(h':e2 ρ=(36,s2))(h2:F o [s1.val,s2.val]=r):ji F [e1,e2] ρ o=r:=by
 unfold ji bF bF;rw[h];dsimp only;rw[h'];exact h2
theorem oH{g h:MG}(h1:g ρ o=(6,o1))(h2:h ρ o1=r):hU g h ρ o=r:=by unfold hU;rw[h1];exact h2
theorem mC{np n:Nat}{g:MG}(hl:ds.length+1=np)(h:g (none::bX (n - 1) ds) o=r):Cw np n g o ds=r:=by unfold Cw;rw[(39,hl)];exact h
theorem uH(h:e1 ρ=(36,s))(hc:cs.contains c=true)(hl:ns.length=ds.length)(h9:ns.length<900):oX cs f e1 ρ (.obj c ns ds)=(6,.obj c (putN f ns) (Gx f s.val ns ds)):=by
 unfold oX;rw[h];dsimp only;rw[(39,(12,hc,hl,h9))]
theorem PM(h:F (.obj c [] []) []=(6,o)):ic c F [] ρ=(36,(49,o)):=by unfold ic bx;dsimp only;rw[h]
theorem N3(h1:e1 ρ=(36,s1))(h:F (.obj c [] []) [s1.val]=(6,o)):ic c F [e1] ρ=(36,(49,o)):=by
 unfold ic bx;rw[h1];dsimp only[bw];unfold bx;dsimp only;rw[h]
theorem BQ(h1:e1 ρ=(36,s1))(h2:e2 ρ=(36,s2))(h:F (.obj c [] []) [s1.val,s2.val]=(6,o)):ic c F [e1,e2] ρ=(36,(49,o)):=by
 unfold ic bx;rw[h1];dsimp only[bw];unfold bx;rw[h2];dsimp only[bw];unfold bx;dsimp only;rw[h]
theorem PK(h1:e1 ρ=(36,s1))(h2:e2 ρ=(36,s2))(h3:e3 ρ=(36,s3))(h:F (.obj c [] []) [s1.val,s2.val,s3.val]=(6,o)):ic c F [e1,e2,e3] ρ=(36,(49,o)):=by
 unfold ic bx;rw[h1];dsimp only[bw];unfold bx;rw[h2];dsimp only[bw];unfold bx;rw[h3];dsimp only[bw];unfold bx;dsimp only;rw[h]
theorem zR{tb:String->(9,(([21])->(9,R)))}{as:List ME}{G:([21])->(9,R)}(ho:a ρ=(36,s))(hv:s.val=.obj c ns ds)(hn:ns.contains m=false)(ht:tb c=(6,G)):eh m tb a as ρ=bx as ρ λvs=>G (.obj c ns ds::vs):=by
 unfold eh;rw[ho];dsimp only[bw];rw[hv];dsimp only;rw[hn,(42,[33]),ht]
theorem N2{tb:String->(9,(([21])->(9,R)))}{G:([21])->(9,R)}(ho:a ρ=(36,s))(hv:s.val=.obj c ns ds)(hn:ns.contains m=false)(ht:tb c=(6,G))(h:G [.obj c ns ds]=q):eh m tb a [] ρ=q:=by rw[zR ho hv hn ht];exact h
theorem N1{tb:String->(9,(([21])->(9,R)))}{G:([21])->(9,R)}(ho:a ρ=(36,s))(hv:s.val=.obj c ns ds)(hn:ns.contains m=false)(ht:tb c=(6,G))(h1:e1 ρ=(36,s1))(h:G [.obj c ns ds,s1.val]=q):eh m tb a [e1] ρ=q:=by
 rw[zR ho hv hn ht];exact aT (F:=λvs=>G (.obj c ns ds::vs)) h1 h
theorem Jq{tb:String->(9,(([21])->(9,R)))}{G:([21])->(9,R)}(ho:a ρ=(36,s))(hv:s.val=.obj c ns ds)(hn:ns.contains m=false)(ht:tb c=(6,G))(h1:e1 ρ=(36,s1))(h2:e2 ρ=(36,s2))(h3:e3 ρ=(36,s3))(h:G [.obj c ns ds,s1.val,s2.val,s3.val]=q):eh m tb a [e1,e2,e3] ρ=q:=by
 rw[zR ho hv hn ht];exact bW (F:=λvs=>G (.obj c ns ds::vs)) h1 h2 h3 h
theorem N0{tb:String->(9,(([21])->(9,R)))}{G:([21])->(9,R)}(ho:a ρ=(36,s))(hv:s.val=.obj c ns ds)(hn:ns.contains m=false)(ht:tb c=(6,G))(h1:e1 ρ=(36,s1))(h2:e2 ρ=(36,s2))(h3:e3 ρ=(36,s3))(h4:e4 ρ=(36,s4))(h:G [.obj c ns ds,s1.val,s2.val,s3.val,s4.val]=q):eh m tb a [e1,e2,e3,e4] ρ=q:=by
 rw[zR ho hv hn ht];exact ke (F:=λvs=>G (.obj c ns ds::vs)) h1 h2 h3 h4 h
theorem jj{d:D}(h:a ρ=(36,s))(hv:s.val=.obj c ns ds)(hc:cs.contains c=true)(hf:Ae f ns ds=(6,d)):kj (qV cs f) a ρ=okD d:=by
 refine jP h ?_;rw[hv];show(if cs.contains c=true then(Ae f ns ds).bind okD else none)=_;rw[(39,hc),hf];rfl
theorem N8(h:a ρ=okB true)(h2:e1 ρ=q):OC a e1 e2 ρ=q:=by unfold OC;rw[h];exact h2
theorem N9(h:a ρ=okB false)(h2:e2 ρ=q):OC a e1 e2 ρ=q:=by unfold OC;rw[h];exact h2
theorem Gk{i j:Nat}{k:Nat}(h1:e1 ρ=(36,s))(h0:ρ[i]?=(21,(38,ds)))(h2:e2 ρ=okI k)(hk:k<ds.length):iS i e2 e1 ρ=(30,ρ.set i (6,(38,ds.set k s.val))):=by
 unfold iS Br;rw[h1];dsimp only[j8];rw[h0];dsimp only;rw[h2];dsimp only[S.val];have:KD ds.length (k:Int)=(6,k):=by unfold KD;rw[(39,[11]),(39,[11]),toNat_natCast]
 rw[this]
theorem Io{x:Nat}(h:x<ds.length):kb (20,ds) none (6,x)=okD (20,ds.take x):=by
 show(if(jb ds.length 0 none=0/\jb ds.length ds.length (some (x:Int))=ds.length) then none else okD (20,CS ds none (some (x:Int))))=_;have e:jb ds.length ds.length (some (x:Int))=x:=by
  show(if(x:Int)<0 then((x:Int)+(ds.length:Int)).toNat else min (x:Int).toNat ds.length)=x;rw[(42,[11])];omega
 rw[(42,(by rw[e];omega))]
 show okD (20,((ds.drop 0).take (jb ds.length ds.length (some (x:Int)) - 0)))=_;rw[e];rfl
theorem Dv{x:Nat}(h0:0<x)(h:x<=ds.length):kb (20,ds) (6,x) none=okD (20,ds.drop x):=by
 have e:jb ds.length 0 (some (x:Int))=x:=by
  show(if(x:Int)<0 then((x:Int)+(ds.length:Int)).toNat else min (x:Int).toNat ds.length)=x;rw[(42,[11])];omega
 show(if(jb ds.length 0 (some (x:Int))=0/\ds.length=ds.length) then none else okD (20,CS ds (some (x:Int)) none))=_;rw[e,(42,[11])]
 show okD (20,((ds.drop (jb ds.length 0 (some (x:Int)))).take (ds.length - jb ds.length 0 (some (x:Int)))))=_;rw[e,List.take_of_length_le (by rw[length_drop];omega)]
theorem xI{x:Nat}(h:a ρ=(36,s))(hv:s.val=(20,ds))(hx:e1 ρ=okI x)(hl:x<ds.length):cZ a none (6,e1) ρ=okD (20,ds.take x):=by
 unfold cZ;rw[h];dsimp only[bw];rw[hv];show(bw (e1 ρ) λd=>match d with|.int i=>kb (20,ds) none (6,i)|_=>none)=_
 rw[hx];exact Io hl
theorem rZ{x:Nat}(h:a ρ=(36,s))(hv:s.val=(20,ds))(hx:e1 ρ=okI x)(h0:0<x)(hl:x<=ds.length):cZ a (6,e1) none ρ=okD (20,ds.drop x):=by
 unfold cZ;rw[h];dsimp only[bw];rw[hv];show(bw (e1 ρ) λd=>match d with|.int i=>kb (20,ds) (6,i) none|_=>none)=_
 rw[hx];exact Dv h0 hl
theorem yk{xs ys:[21]}(h:xs.length+ys.length<=100000):dAdd (20,xs) (20,ys)=okD (20,(xs++ys)):=by
 show(if xs.length+ys.length<=lim then okD (20,(xs++ys)) else none)=_;rw[(39,le_trans h [12])]
theorem pb{xs ys:[21]}(h:xs.length+ys.length<=100000):dAdd (13,xs) (13,ys)=okL (xs++ys):=by
 show(if xs.length+ys.length<=lim then okL (xs++ys) else none)=_;rw[(39,le_trans h [12])]
theorem Mv{G:([21])->(9,R)}{as:List ME}{d:D}(h:bx as ρ G=okD d)(hf:flat d=true):aK G as ρ=okD d:=by
 unfold aK;rw[h];show(if flat d=true then okD d else none)=_;rw[(39,hf)]
theorem i6{x y:Str}(h:x=y):dEq (.str x) (.str y)=okB true:=by subst h;exact CA x
theorem aS{x y:Str}(h:x≠y):dEq (.str x) (.str y)=okB false:=by unfold dEq OB;simp[h]
end
end L3
namespace Bell
open PySem L3
noncomputable section
def pq:MC:=(dF 1 (sSet 1 (16,dAdd,1,aj (f1 CL) [(8,2,1)])))
def wD:MC:=(dF 1 (aU (aG [(aG [(aG [(22,0),(22,0),(22,0),(aG [])])]),(aj (f1 jf) [(5,1)])])))
def wF:MC:=(az (kS (hV (8,0,0)) (aM 2) pq) wD)
def Ca:MC:=
 (9,1,eLst [],wF)
def dz:([21])->(9,R):=gu 1 3 Ca
def qh:MC:=(dF 1 (aU (aG [(aj (f1 jf) [(5,1)]),(5,2)])))
def qi:MC:=(3,(1,dEq,(8,0,0),.str "back"),iS 1 (5,3) (10,dAdd,(16,dIx,2,(6,dIx,(8,0,2),0)),(6,dIx,(8,0,2),1)),aX,qh)
def qj:MC:=(3,(1,dEq,(8,0,0),.str "take"),dF 1 (sSet 2 (16,dAdd,2,aG [(16,dIx,1,(5,3))])),aX,qi)
def qk:MC:=(3,(1,dEq,(8,0,0),.str "move"),iS 1 (5,3) (aK (f2 dIx) [(dI 1),(8,0,2)]),aX,qj)
def ql:MC:=(3,(1,dEq,(8,0,0),.str "tick"),iS 1 (5,3) (6,dAdd,aK (f2 dIx) [(dI 1),(5,3)],1),aX,qk)
def qm:MC:=(3,(1,dEq,(8,0,0),.str "lay"),iS 1 (5,3) (8,0,2),aX,ql)
def qo:MC:=(9,3,(8,0,1),qm)
def sU:MC:=
 (dF 1 (9,1,aj (f1 CL) [(5,1)],qo))
def gf:([21])->(9,R):=gu 3 4 sU
def wx:MC:=(aU (bN [3] (bP (21,bM,[(6,dIx,(16,dIx,0,(5,1)),1)])) (aM 3) da (16,dAdd,2,(5,3))))
def BY:MC:=
 (9,2,aj (f1 HA) [(bN [4] (bP (5,1)) (aM 4) da (21,bM,[(6,dIx,(16,dIx,0,(5,4)),1)]))],wx)
def fu:([21])->(9,R):=gu 2 5 BY
def w4:MC:=(aU (eLst [(aG [(eC (.str "rest")),(22,0),(22,0)])]))
def w5:MC:=(3,(1,dEq,(8,1,0),.str "anew"),(9,5,(6,dIx,aj fu [(5,0),(8,1,3)],0),(9,3,(10,dAdd,eLst [(aG [(eC (.str "take")),(5,5),(22,0)])],bN [7] (hV (aj fu [(5,0),(8,1,2)])) (aM 7) da (aG [(eC (.str "take")),(5,7),(22,0)])),dF 3 (dF 2 (aU (10,dAdd,(16,dAdd,3,eLst [(aG [(eC (.str "same")),(5,5),(22,0)])]),bN [6] (bP (21,bM,[(dI 2)])) (aM 6) da (aG [(eC (.str "back")),(16,dIx,2,(5,6)),(aG [(8,dAdd,6,1),(22,0)])])))))),aX,w4)
def w6:MC:=(3,(1,dEq,(8,1,0),.str "copy"),(9,4,aj fu [(5,0),(8,1,2)],dF 4 (dF 2 (aU (bN [6] (bP (21,bM,[(dI 2)])) (aM 6) da (aG [(eC (.str "move")),(16,dIx,2,(5,6)),(16,dIx,4,(5,6))]))))),aX,w5)
def w9:MC:=(3,(1,dEq,(8,1,0),.str "grow"),dF 2 (9,3,bN [7] (hV (5,2)) (aM 7) da (aG [(eC (.str "take")),(5,7),(22,0)]),dF 3 (dF 2 (aU (16,dAdd,3,bN [6] (bP (21,bM,[(dI 2)])) (aM 6) da (aG [(eC (.str "back")),(16,dIx,2,(5,6)),(aG [(5,6),(8,1,2)])]))))),aX,w6)
def wa:MC:=(3,(1,dEq,(8,1,0),.str "tick"),dF 2 (aU (eLst [(aG [(eC (.str "tick")),(8,2,0),(22,0)])])),aX,w9)
def wb:MC:=(3,(1,dEq,(8,1,0),.str "put"),dF 2 (aU (bN [6] (bP (21,bM,[(dI 2)])) (aM 6) da (aG [(eC (.str "lay")),(16,dIx,2,(5,6)),(10,dIx,(8,1,2),(5,6))]))),aX,wa)
def wc:MC:=(9,2,aj fu [(5,0),(8,1,1)],wb)
def BV:MC:=
 (3,(1,dEq,(8,1,0),.str "still"),aU (bN [6] (bP (8,1,1)) (aM 6) da (aG [(eC (.str "rest")),(22,0),(22,0)])),aX,wc)
def kK:([21])->(9,R):=gu 2 8 BV
def sQ:MC:=(aU (aG [(16,dAdd,3,aG [(aG [(8,2,0),(6,dAdd,(8,2,1),1),(22,0),(aG [])])]),(8,7,0)]))
def uj:MC:=(3,eAnd (6,dGt,(8,2,0),0) (10,dEq,(6,dAdd,(8,2,1),1),(21,bM,[(dI 4)])),aU (aG [(5,3),(8,7,0)]),aX,sQ)
def mJ:MC:=(3,(10,dLt,(6,dAdd,(8,2,2),1),(21,bM,[(dI 5)])),aU (aG [(16,dAdd,3,aG [(aG [(8,2,0),(8,2,1),(6,dAdd,(8,2,2),1),(8,7,1)])]),(8,7,0)]),aX,uj)
def mK:MC:=(3,eAnd (1,dEq,(8,6,0),.str "same") (10,Ag,(10,dIx,(8,1,1),(8,6,1)),(6,dIx,(8,2,3),0)),aU (aG [(16,dAdd,3,aG [(aG [(8,2,0),(8,2,1),(22,0),(aG [])])]),(8,7,0)]),aX,mJ)
def uk:MC:=(9,7,aj gf [(5,6),(8,1,1),(8,2,3)],mK)
def um:MC:=(dF 5 (9,6,(16,dIx,5,(8,2,2)),uk))
def uo:MC:=(9,5,aj kK [(8,0,0),(6,dIx,(16,dIx,4,(8,2,1)),0)],um)
def uq:MC:=(3,(10,dEq,(8,2,1),(21,bM,[(dI 4)])),aU (eC .non),aX,uo)
def uu:MC:=(9,4,(6,dIx,(10,dIx,(8,0,1),(8,2,0)),2),uq)
def uv:MC:=(9,3,cZ (8,1,0) none (6,(22,(-1))),uu)
def zW:MC:=
 (9,2,(6,dIx,(8,1,0),(-1)),uv)
def bK:([21])->(9,R):=gu 2 8 zW
def Ep:MC:=
 (aU (aG [(10,dAdd,(8,0,0),aG [(aG [(5,1),(22,0),(22,0),(aG [])])]),(8,0,1)]))
def cK:([21])->(9,R):=gu 2 2 Ep
def yC:MC:=(aU (6,dIx,(16,dIx,2,(8,1,1)),1))
def yD:MC:=(3,(10,dEq,(8,1,1),(21,bM,[(dI 2)])),aU (22,0),aX,yC)
def Em:MC:=
 (9,2,(6,dIx,(10,dIx,(8,0,1),(8,1,0)),2),yD)
def mj:([21])->(9,R):=gu 2 3 Em
def nF:MC:=(sSet 2 (16,Mo,2,aj mj [(5,0),(5,3)]))
def uf:MC:=(dF 5 (aU (bN [7] (kG (22,1) (21,bM,[(dI 5)])) (aM 7) (eAnd (10,dGt,(16,dIx,5,(5,7)),(5,4)) (6,dEq,(6,dMod,(16,j7,2,(10,CK,(22,1),(5,7))),2),0)) (5,7))))
def ug:MC:=(9,5,bN [6] (hV (8,0,1)) (aM 6) da (8,6,1),uf)
def uh:MC:=(9,4,(6,dIx,(10,dIx,(8,0,1),(6,dIx,(8,1,(-1)),0)),1),ug)
def ui:MC:=(az (kS (hV (5,1)) (aM 3) nF) uh)
def zV:MC:=
 (9,2,(22,0),ui)
def cx:([21])->(9,R):=gu 2 8 zV
def t6:MC:=(sSet 8 (aj bK [(5,0),(5,8)]))
def t7:MC:=(az (o5 6 (bN [9] (hV (aj cx [(5,0),(8,8,0)])) (aM 9) da (aj cK [(5,8),(5,9)]))) t6)
def kY:MC:=(az (l8 3 (5,8) (eC (.bl true))) t7)
def sZ:MC:=(DF (λ_=>5000) (eAnd (kj lG (5,8)) (eAnd (gH true 3 (5,8)) (10,KF,oY 3,(5,2)))) kY)
def pj:MC:=(9,8,(5,7),sZ)
def sX:MC:=(dF 6 (sSet 4 (5,6)))
def sY:MC:=(dF 4 (az (kS (hV (5,4)) (aM 7) pj) sX))
def ph:MC:=(9,6,eLst [],sY)
def wq:MC:=(aU (oY 3))
def wt:MC:=(az (kS (bP (8,dAdd,1,1)) (aM 5) ph) wq)
def wu:MC:=(9,4,eLst [(aj dz [(5,0)])],wt)
def BX:MC:=
 (az (Bc 3) wu)
def kL:([21])->(9,R):=gu 3 10 BX
def oN:MC:=(aU (6,dMod,(16,lH,3,(5,3)),65519))
def kP:MC:=(9,3,(6,dMod,(6,dAdd,(10,dAdd,(6,lH,(8,dMod,2,1000003),48271),(6,lH,(16,lH,1,(5,1)),7919)),1),65521),oN)
def we:MC:=(3,(6,dGt,(21,bM,[(dI 0)]),0),sSet 2 (16,dIx,0,(16,dMod,1,(21,bM,[(dI 0)]))),aX,kP)
def BW:MC:=
 (9,2,(22,0),we)
def aD:([21])->(9,R):=gu 2 4 BW
def fj:MC:=(aU (6,vC,(6,dMod,(10,dAdd,(8,lH,2,65519),(5,3)),2000000001),1000000000))
def fk:MC:=(3,(6,dEq,(8,dMod,2,17),1),aU (10,dIx,eLst [(6,Kd,(22,10),9),(kj OF (6,Kd,(22,10),9))],(8,dMod,3,2)),aX,fj)
def fm:MC:=(3,(6,dEq,(8,dMod,2,3),0),aU (6,vC,(8,dMod,3,5),2),aX,fk)
def fo:MC:=(9,3,aj aD [(5,0),(8,dAdd,1,1)],fm)
def gX:MC:=
 (9,2,aj aD [(5,0),(5,1)],fo)
def bE:([21])->(9,R):=gu 2 4 gX
def mF:MC:=(dF 6 (lY 3 (aG [(10,dIx,eC (.str "abcdefgh"),(5,4)),(aj (f1 jf) [(5,6)])])))
def t8:MC:=(3,eOr (eAnd (8,dEq,1,2) (16,dGt,7,(10,dIx,eLst [(22,0),(22,0),(22,2)],(8,dMod,4,3)))) (eAnd (8,dEq,1,1) (8,dEq,7,0)),lY 6 (aj bE [(5,0),(8,dAdd,5,3)]),aX,mF)
def t9:MC:=(9,7,(6,dMod,aj aD [(5,0),(8,dAdd,5,2)],5),t8)
def tf:MC:=(9,6,eLst [(aj bE [(5,0),(5,5)])],t9)
def kZ:MC:=(9,5,(10,dAdd,(10,dAdd,(22,4),(10,lH,(22,5),(5,4))),(10,lH,(22,400),(8,j7,4,3))),tf)
def wy:MC:=(dF 3 (aU (aj (f1 jf) [(5,3)])))
def wz:MC:=(az (kS (bP (5,2)) (aM 4) kZ) wy)
def wA:MC:=(9,3,eLst [],wz)
def wB:MC:=(9,2,(10,dIx,eLst [(6,dMod,(8,j7,2,16),4),(10,dAdd,(22,4),(6,dMod,(8,j7,2,16),5))],aj (f1 dInt) [(6,dEq,(8,dMod,2,8),0)]),wA)
def wC:MC:=(9,2,aj aD [(5,0),(22,2)],wB)
def BZ:MC:=
 (9,1,(10,dAdd,(22,1),(6,dMod,aj aD [(5,0),(22,3)],2)),wC)
def kM:([21])->(9,R):=gu 1 8 BZ
def wg:MC:=(aU (aG [(eC (.str "put")),(5,7),(aG [(5,6),(aj bE [(5,0),(8,dAdd,1,5)])])]))
def oO:MC:=(3,(8,dEq,8,1),aU (aG [(eC (.str "put")),(5,7),(aG [(5,6)])]),aX,wg)
def wj:MC:=(3,eAnd (8,dEq,4,8) (eAnd (16,Ag,10,(5,7)) (6,dGt,(21,bM,[(dI 11)]),0)),dF 11 (aU (aG [(eC (.str "anew")),(5,7),(5,10),(16,dIx,11,(10,dMod,(8,j7,5,5),(21,bM,[(dI 11)])))])),aX,oO)
def oP:MC:=(9,11,bN [14] (bP (21,bM,[(dI 2)])) (aM 14) (eAnd (16,Ag,14,(5,7)) (eAnd (16,Ag,14,(5,10)) (6,dEq,(21,bM,[(6,dIx,(16,dIx,2,(5,14)),1)]),1))) (5,14),wj)
def wk:MC:=(3,eOr (8,dEq,4,7) (8,dEq,4,10),aU (aG [(eC (.str "none")),(5,7)]),aX,oP)
def wm:MC:=(3,(8,dEq,4,3),aU (aG [(eC (.str "tick")),(5,7)]),aX,wk)
def wo:MC:=(3,eOr (8,dEq,4,2) (eAnd (8,dEq,4,3) (8,dEq,8,2)),aU (aG [(eC (.str "grow")),(5,7),(5,6)]),aX,wm)
def yE:MC:=(3,eAnd (8,dEq,4,1) (16,Ag,10,(5,7)),aU (aG [(eC (.str "copy")),(5,7),(5,10)]),aX,wo)
def lK:MC:=(3,eOr (8,dEq,4,5) (8,dEq,4,6),(9,12,(10,vC,(6,dIx,(6,dIx,(16,dIx,2,(5,7)),1),0),(6,dIx,(6,dIx,(16,dIx,2,(5,10)),1),0)),(3,eAnd (6,dGt,(6,dMod,(8,j7,5,7),3),0) (10,KF,aj (f1 Q8) [(5,12)],(6,Kd,(22,10),9)),sSet 6 (5,12),aX,aU (aG [(10,dIx,eLst [(eC (.str "is")),(eC (.str "most"))],(8,vC,4,5)),(5,7),(5,10),(5,6)]))),aX,yE)
def yF:MC:=(dF 9 (9,10,(10,dIx,(16,dAdd,9,eLst [(5,7)]),(10,dMod,aj aD [(5,0),(8,dAdd,1,4)],(6,dAdd,(21,bM,[(dI 9)]),1))),lK))
def yG:MC:=(9,9,bN [13] (bP (21,bM,[(dI 2)])) (aM 13) (eAnd (16,Ag,13,(5,7)) (10,dEq,(21,bM,[(6,dIx,(16,dIx,2,(5,13)),1)]),(5,8))) (5,13),yF)
def yH:MC:=(9,8,(21,bM,[(6,dIx,(16,dIx,2,(5,7)),1)]),yG)
def yI:MC:=(9,7,(16,dMod,5,(21,bM,[(dI 2)])),yH)
def yJ:MC:=(3,eOr (6,dEq,(21,bM,[(dI 2)]),0) (8,dEq,4,4),aU (aG [(eC (.str "still")),(10,dAdd,(22,1),(16,dMod,5,(5,3)))]),aX,yI)
def yK:MC:=(9,6,aj bE [(5,0),(8,dAdd,1,2)],yJ)
def yL:MC:=(9,5,aj aD [(5,0),(8,dAdd,1,1)],yK)
def Eo:MC:=
 (9,4,(6,dMod,aj aD [(5,0),(5,1)],11),yL)
def ka:([21])->(9,R):=gu 4 15 Eo
def pf:MC:=(lY 6 (aG [(aj ka [(5,0),(5,8),(5,2),(5,5)]),(5,9)]))
def xq:MC:=(3,(6,dEq,(8,dMod,10,2),1),sSet 9 (10,lH,(22,2),(10,dMod,(8,j7,10,2),(10,CK,(22,1),(5,3)))),aX,pf)
def xr:MC:=(9,10,aj aD [(5,0),(8,dAdd,8,7)],xq)
def xu:MC:=(9,9,(22,0),xr)
def sE:MC:=(9,8,(10,dAdd,(8,dAdd,1,3),(10,lH,(22,8),(5,7))),xu)
def AN:MC:=(dF 6 (aU (aj (f1 jf) [(5,6)])))
def AO:MC:=(az (kS (bP (10,dAdd,(22,1),(10,dMod,aj aD [(5,0),(5,1)],(5,4)))) (aM 7) sE) AN)
def Hg:MC:=
 (9,6,eLst [],AO)
def lE:([21])->(9,R):=gu 6 11 Hg
def rb:MC:=(lY 5 (aG [(10,dIx,eC (.str "pqrstu"),(5,6)),(5,8),(aj lE [(5,0),(5,7),(5,4),(5,1),(5,2),(5,3)])]))
def rf:MC:=(9,8,(10,dAdd,(22,1),(10,dMod,aj aD [(5,0),(8,dAdd,7,1)],(10,dIx,eLst [(22,3),(22,9)],(6,dMod,aj aD [(5,0),(8,dAdd,7,2)],2)))),rb)
def mE:MC:=(9,7,(10,dAdd,(22,20),(10,lH,(10,dAdd,(22,3),(10,lH,(22,8),(5,2))),(8,dAdd,6,1))),rf)
def sN:MC:=(dF 5 (aU (aG [(5,4),(aj (f1 jf) [(5,5)])])))
def sO:MC:=(az (kS (bP (5,1)) (aM 6) mE) sN)
def sP:MC:=(9,5,eLst [(aG [(eC (.str "main")),(22,0),(aj lE [(5,0),(22,20),(5,4),(5,1),(5,2),(5,3)])])],sO)
def xi:MC:=
 (9,4,aj kM [(5,0)],sP)
def iM:([21])->(9,R):=gu 4 9 xi
def nB:MC:=(sIf (eOr (oJ (kj (vG "int") (5,1))) (kj (vG "bool") (5,1))) (aU (eC (.bl false))) aX)
def uc:MC:=(aU (eC (.bl true)))
def ud:MC:=(az (kS (hV (5,0)) (aM 1) nB) uc)
def zT:MC:=
 (3,oJ (kj (vG "tuple") (5,0)),aU (eC (.bl false)),aX,ud)
def cw:([21])->(9,R):=gu 1 2 zT
def pX:MC:=(sIf (eOr (oJ (aj cw [(cZ (5,1) none (6,(22,3)))])) (oJ (aj cw [(8,1,3)]))) (aU (eC (.bl false))) aX)
def lI:MC:=(3,eOr (oJ (kj (vG "tuple") (5,1))) (6,Ag,(21,bM,[(dI 1)]),4),aU (eC (.bl false)),aX,pX)
def rq:MC:=(aU (aj cw [(8,0,1)]))
def rA:MC:=(az (kS (hV (8,0,0)) (aM 1) lI) rq)
def vm:MC:=
 (3,eOr (oJ (kj (vG "tuple") (5,0))) (eOr (6,Ag,(21,bM,[(dI 0)]),2) (oJ (kj (vG "tuple") (8,0,0)))),aU (eC (.bl false)),aX,rA)
def bT:([21])->(9,R):=gu 1 2 vm
def ue:MC:=(aU (eAnd (aj cw [(cZ (5,0) (6,(22,1)) none)]) (vB KF KF (22,0) (8,0,1) (5,1))))
def zU:MC:=
 (3,eOr (oJ (kj (vG "tuple") (5,0))) (eOr (6,Ag,(21,bM,[(dI 0)]),2) (oJ (aj bT [(8,0,0)]))),aU (eC (.bl false)),aX,ue)
def hZ:([21])->(9,R):=gu 2 2 zU
def gw:MC:=(l8 4 (aG [(aj cK [(8,5,0),(5,8)]),(6,dAdd,(8,5,1),1)]) (eC (.bl true)))
def j9:MC:=(sIf (10,dLt,(8,5,1),(5,1)) (kS (hV (aj cx [(5,0),(6,dIx,(8,5,0),0)])) (aM 8) gw) aX)
def nC:MC:=(3,kj lG (5,7),l8 4 (aG [(5,7),(8,5,1)]) (eC (.bl true)),aX,j9)
def nD:MC:=(9,7,aj bK [(5,0),(8,5,0)],nC)
def nE:MC:=(az (l8 3 (8,5,0) (8,5,1)) nD)
def gv:MC:=(3,eOr (oJ (aj hZ [(5,5),(5,1)])) (eOr (gH false 3 (8,5,0)) (gH true 4 (5,5))),aU (eC (.bl false)),aX,nE)
def kf:MC:=(sIf (10,dGt,vA 3 (8,6,0) (8,dAdd,1,1),(8,6,1)) (aU (eC (.bl false))) aX)
def pC:MC:=(aU (eC (.bl true)))
def pD:MC:=(az (kS (hV (vy 4)) (aM 6) kf) pC)
def pE:MC:=(az (kS (hV (5,2)) (aM 5) gv) pD)
def pF:MC:=(az (pI 4 (aG [(aj dz [(5,0)]),(22,0)]) (eC (.bl true))) pE)
def pG:MC:=(az (Bc 3) pF)
def rJ:MC:=
 (3,eOr (oJ (kj (vG "list") (5,2))) (6,dEq,(21,bM,[(dI 2)]),0),aU (eC (.bl false)),aX,pG)
def dX:([21])->(9,R):=gu 3 9 rJ
def BS:MC:=
 (aU (6,dIx,(10,dIx,(8,0,1),(5,1)),2))
def dY:([21])->(9,R):=gu 2 2 BS
def Hj:MC:=
 (aU (6,dIx,(10,dIx,aj dY [(5,0),(5,1)],(5,2)),0))
def ou:([21])->(9,R):=gu 3 3 Hj
def He:MC:=
 (aU (21,bM,[(6,dIx,(16,dIx,0,(5,1)),1)]))
def jN:([21])->(9,R):=gu 2 2 He
def yN:MC:=(aU (16,nz,2,(16,dAdd,2,aj jN [(5,0),(5,1)])))
def Er:MC:=
 (9,2,aj (f1 HA) [(bN [3] (bP (5,1)) (aM 3) da (aj jN [(5,0),(5,3)]))],yN)
def iC:([21])->(9,R):=gu 2 4 Er
def JX:MG:=
 (hU (oX ["Deed","Promise","Comparing","Untouched","Still","Put","Copy","Tick","Handed","Grow","Anew"] "plan" (5,1)) mB)
def hJ:i9:=Cw 2 2 JX
def EF:MG:=
 (hU (ji hJ [(10,dAdd,bN [3] (hV (5,1)) (aM 3) da (aG [(aG [(5,3)]),(aG [])]),bN [3] (hV (5,2)) (aM 3) da (aG [(aG []),(aG [(5,3)])]))]) mB)
def lB:i9:=Cw 3 4 EF
def JZ:MG:=
 (hU (ji lB [(10,dAdd,(10,dAdd,eLst [(5,3)],(5,2)),eLst [(5,3)]),(5,1)]) (hU (oX ["Anew"] "check" (6,dAdd,(21,bM,[(dI 2)]),1)) mB))
def EA:i9:=Cw 4 4 JZ
def Cp:MG:=
 (hU (ji hJ [(eLst [(aG [(aj (f1 jf) [(5,1)]),(aG [])])])]) mB)
def jM:i9:=Cw 2 2 Cp
def xo:MG:=
 (hU (ji jM [(kj vE (16,dAdd,1,(5,2)))]) mB)
def nk:i9:=Cw 3 3 xo
def JY:MG:=
 (hU (ji hJ [(bN [3] (bP (21,bM,[(dI 1)])) (aM 3) da (aG [(aG [(16,dIx,2,(5,3))]),(aG [(16,dIx,1,(5,3))])]))]) mB)
def Ez:i9:=Cw 3 4 JY
def JW:MG:=
 (hU (ji lB [(5,1),(5,1)]) (hU (oX ["Grow"] "size" (21,bM,[(dI 1)])) (hU (oX ["Grow"] "number" (5,2)) mB)))
def Ey:i9:=Cw 3 3 JW
def M8:MG:=
 (hU (ji hJ [(bN [3] (hV (5,1)) (aM 3) da (aG [(aG []),(aG [(5,3)])]))]) (hU (oX ["Put"] "numbers" (aj (f1 jf) [(5,2)])) mB))
def JP:i9:=Cw 3 4 M8
def Hr:MG:=
 (hU (ji hJ [(K9 (eLst [(aG [(aG []),(aG [])])]) (5,1))]) mB)
def Ab:i9:=Cw 2 2 Hr
def JV:MG:=
 (hU (ji hJ [(eLst [(aG [(aG [(5,1)]),(aG [(5,1)])])])]) mB)
def Ex:i9:=Cw 2 2 JV
def xn:MG:=
 (hU (ji jM [(eLst [])]) mB)
def ng:i9:=Cw 1 1 xn
def yM:MC:=(dF 4 (dF 3 (aU (ic "Comparing" nk [(5,3),(5,4)]))))
def AQ:MC:=(3,(1,dEq,(5,2),.str "anew"),dF 4 (dF 3 (aU (ic "Anew" EA [(5,3),(5,4),(6,dIx,aj iC [(5,0),(8,1,3)],0)]))),aX,yM)
def AR:MC:=(3,(1,dEq,(5,2),.str "copy"),dF 4 (dF 3 (aU (ic "Copy" Ez [(5,3),(5,4)]))),aX,AQ)
def AS:MC:=(9,4,aj iC [(5,0),(8,1,2)],AR)
def AU:MC:=(3,(1,dEq,(5,2),.str "tick"),dF 3 (aU (ic "Tick" Ex [(8,3,0)])),aX,AS)
def AV:MC:=(3,(1,dEq,(5,2),.str "grow"),dF 3 (aU (ic "Grow" Ey [(5,3),(8,1,2)])),aX,AU)
def AW:MC:=(3,(1,dEq,(5,2),.str "put"),dF 3 (aU (ic "Put" JP [(5,3),(8,1,2)])),aX,AV)
def AX:MC:=(9,3,aj iC [(5,0),(8,1,1)],AW)
def AY:MC:=(3,(1,dEq,(5,2),.str "none"),aU (ic "Untouched" ng []),aX,AX)
def AZ:MC:=(3,(1,dEq,(5,2),.str "still"),aU (ic "Still" Ab [(8,1,1)]),aX,AY)
def Hi:MC:=
 (9,2,(8,1,0),AZ)
def oq:([21])->(9,R):=gu 2 5 Hi
def Cb:MC:=
 (aU (10,dEq,(8,1,1),(21,bM,[(aj dY [(5,0),(8,1,0)])])))
def dZ:([21])->(9,R):=gu 2 2 Cb
def A0:MC:=
 (aU (aj (f1 CL) [(6,dIx,(10,dIx,kj (qV ["Deed","Promise","Comparing","Untouched","Still","Put","Copy","Tick","Handed","Grow","Anew"] "plan") (5,0),(5,1)),0)]))
def eH:([21])->(9,R):=gu 2 2 A0
def gK:String->(9,(([21])->(9,R))):=(Av ["Deed","Promise","Comparing","Untouched","Still","Put","Copy","Tick","Handed","Grow","Anew"] eH u9)
def xj:MC:=
 (aU (aG [(5,2),(16,dAdd,3,aG [(16,dIx,2,(6,dIx,eh "reads" gK (5,0) [(5,1)],0))]),(8,dAdd,1,1)]))
def eZ:([21])->(9,R):=gu 4 4 xj
def Hc:MC:=
 (aU (10,dAdd,(10,dAdd,cZ (5,0) none (6,(5,1)),aG [(5,2)]),cZ (5,0) (6,(8,dAdd,1,1)) none))
def eY:([21])->(9,R):=gu 3 3 Hc
def zZ:MC:=
 (aU (21,bM,[(kj (qV ["Deed","Promise","Comparing","Untouched","Still","Put","Copy","Tick","Handed","Grow","Anew"] "plan") (5,0))]))
def fD:([21])->(9,R):=gu 1 1 zZ
def xk:MC:=
 (aU (aj (f1 CL) [(6,dIx,(10,dIx,kj (qV ["Deed","Promise","Comparing","Untouched","Still","Put","Copy","Tick","Handed","Grow","Anew"] "plan") (5,0),(5,1)),1)]))
def cW:([21])->(9,R):=gu 2 2 xk
def iQ:String->(9,(([21])->(9,R))):=(Av ["Deed","Promise","Comparing","Untouched","Still","Put","Copy","Tick","Handed","Grow","Anew"] fD u9)
def dO:String->(9,(([21])->(9,R))):=(Av ["Deed","Promise","Comparing","Untouched","Still","Put","Copy","Tick","Handed","Grow","Anew"] cW u9)
def oF:MC:=(aU (aG [(aj eY [(5,2),(6,dIx,eh "writes" dO (5,0) [(5,1)],0),(5,4)]),(5,6),(5,5)]))
def oG:MC:=(9,6,OC (16,dEq,5,eh "turns" iQ (5,0) []) (aG []) (5,3),oF)
def qP:MC:=
 (9,5,(8,dAdd,1,1),oG)
def cJ:([21])->(9,R):=gu 5 7 qP
def nN:String->(9,(([21])->(9,R))):=(Av ["Handed","Grow","Anew"] eZ u9)
def gy:String->(9,(([21])->(9,R))):=(Av ["Handed","Grow","Anew"] cJ u9)
def uz:MC:=(aU (aG [(5,2),(aG []),(22,0)]))
def uA:MC:=(3,(10,dEq,(16,dIx,2,(6,dIx,eh "reads" gK (5,0) [(5,1)],0)),(8,3,0)),aU (aG [(5,2),(5,3),(8,dAdd,1,1)]),aX,uz)
def uB:MC:=(3,(16,dGt,1,kj (qV ["Anew"] "check") (5,0)),aU (eh "set_down" gy (5,0) [(5,1),(5,2),(5,3),(16,dIx,3,(16,vC,1,kj (qV ["Anew"] "check") (5,0)))]),aX,uA)
def A3:MC:=
 (3,(16,dLt,1,kj (qV ["Anew"] "check") (5,0)),aU (eh "laid" nN (5,0) [(5,1),(5,2),(5,3)]),aX,uB)
def jG:([21])->(9,R):=gu 4 4 A3
def uy:MC:=(aU (aG [(aj eY [(5,2),(6,dIx,eh "writes" dO (5,0) [(5,1)],0),(5,4)]),(5,3),(8,dAdd,1,1)]))
def A2:MC:=
 (9,4,(16,dIx,2,(6,dIx,eh "reads" gK (5,0) [(5,1)],0)),uy)
def jF:([21])->(9,R):=gu 4 5 A2
def A1:MC:=
 (aU (aG [(5,2),(5,3),(8,dAdd,1,1)]))
def eI:([21])->(9,R):=gu 4 4 A1
def ux:MC:=(aU (eh "set_down" gy (5,0) [(5,1),(5,2),(5,3),(10,dAdd,(16,dIx,3,(16,vC,1,kj (qV ["Grow"] "size") (5,0))),kj (qV ["Grow"] "number") (5,0))]))
def zY:MC:=
 (3,(16,dLt,1,kj (qV ["Grow"] "size") (5,0)),aU (eh "laid" nN (5,0) [(5,1),(5,2),(5,3)]),aX,ux)
def jE:([21])->(9,R):=gu 4 4 zY
def Cc:MC:=
 (aU (aG [(aj eY [(5,2),(6,dIx,eh "writes" dO (5,0) [(5,1)],0),(10,dIx,kj (qV ["Put"] "numbers") (5,0),(5,1))]),(5,3),(8,dAdd,1,1)]))
def kN:([21])->(9,R):=gu 4 4 Cc
def uw:MC:=(aU (aG [(aj eY [(5,2),(5,4),(6,dAdd,(16,dIx,2,(5,4)),1)]),(5,3),(8,dAdd,1,1)]))
def zX:MC:=
 (9,4,(6,dIx,eh "writes" dO (5,0) [(5,1)],0),uw)
def jD:([21])->(9,R):=gu 4 5 zX
def fh:String->(9,(([21])->(9,R))):=(Av ["Deed","Promise","Comparing","Untouched","Still","Handed"] eI (Av ["Put"] kN (Av ["Copy"] jF (Av ["Tick"] jD (Av ["Grow"] jE (Av ["Anew"] jG u9))))))
theorem jQ:fh "Comparing" = (6,eI):=rfl
theorem pB:fh "Untouched" = (6,eI):=rfl
theorem u7:fh "Still" = (6,eI):=rfl
theorem yB:fh "Put" = (6,kN):=rfl
theorem vV:fh "Copy" = (6,jF):=rfl
theorem vU:fh "Tick" = (6,jD):=rfl
theorem oM:fh "Grow" = (6,jE):=rfl
theorem vW:fh "Anew" = (6,jG):=rfl
def Dl:MC:=(aU (aG [(10,dAdd,cZ (5,1) none (6,(22,(-1))),aG [(5,6)]),(8,5,0)]))
def Dm:MC:=(3,eAnd (6,dGt,(8,6,0),0) (aj dZ [(5,0),(5,6)]),aU (aG [(cZ (5,1) none (6,(22,(-1)))),(8,5,0)]),aX,Dl)
def Dn:MC:=(dF 4 (3,(10,dLt,(8,5,2),eh "turns" iQ (5,4) []),sSet 6 (aG [(8,3,0),(8,3,1),(8,5,2),(8,5,1)]),sSet 6 (aG [(8,3,0),(6,dAdd,(8,3,1),1),(22,0),(aG [])]),Dm))
def Do:MC:=(dF 4 (9,5,eh "after" fh (5,4) [(8,3,2),(5,2),(8,3,3)],Dn))
def Dp:MC:=(9,4,aj oq [(8,0,0),(aj ou [(5,0),(8,3,0),(8,3,1)])],Do)
def Dq:MC:=(3,aj dZ [(5,0),(5,3)],aU (eC .non),aX,Dp)
def Jt:MC:=
 (9,3,(8,1,(-1)),Dq)
def lD:([21])->(9,R):=gu 3 7 Jt
def Ju:MC:=
 (aU (aj lD [(5,0),(8,1,0),(8,1,1)]))
def eR:([21])->(9,R):=gu 2 2 Ju
def vP:MC:=(sSet 1 (EJ (aj eR [(5,0),(5,1)])))
def vQ:MC:=(az (l8 4 (5,1) (5,2)) vP)
def fF:MC:=(3,(10,dEq,oY 4,(5,3)),yW "TooMany" "most" (5,3),aX,vQ)
def Es:MC:=
 (DF (λ_=>5000) (eAnd (kj lG (5,1)) (gH true 4 (5,1))) fF)
def iD:MH:=EH 4 5 5 Es
def pe:MC:=(o5 1 (8,2,1))
def vX:MC:=(dF 1 (aU (aj (f1 jf) [(5,1)])))
def vY:MC:=(az (kS (hV (5,0)) (aM 2) pe) vX)
def BR:MC:=
 (9,1,eLst [],vY)
def kI:([21])->(9,R):=gu 1 3 BR
def LU:MC:=
 (aU (aG [(aG [(aG [(22,0),(22,0),(22,0),(aG [])])]),(aj kI [(8,0,0)])]))
def jC:([21])->(9,R):=gu 1 1 LU
def Hh:MC:=
 (aU (16,dAdd,0,aG [(aG [(5,1),(22,0),(22,0),(aG [])])]))
def oo:([21])->(9,R):=gu 2 2 Hh
def Oi:MC:=
 (aU (aG [(aj oo [(8,1,0),(5,2)]),(8,1,1)]))
def ml:([21])->(9,R):=gu 3 3 Oi
def AK:MC:=(aU (OC (16,dLt,2,(21,bM,[(dI 3)])) (6,dIx,(16,dIx,3,(5,2)),1) (22,0)))
def Hd:MC:=
 (9,3,aj dY [(5,0),(5,1)],AK)
def oj:([21])->(9,R):=gu 3 4 Hd
def sD:MC:=(sSet 2 (16,Mo,2,aj oj [(5,0),(8,3,0),(8,3,1)]))
def AL:MC:=(aU (5,2))
def AM:MC:=(az (kS (hV (5,1)) (aM 3) sD) AL)
def Hf:MC:=
 (9,2,(22,0),AM)
def om:([21])->(9,R):=gu 2 4 Hf
def vZ:MC:=(aU (eAnd (10,dGt,(6,dIx,(16,dIx,3,(5,2)),1),(6,dIx,(16,dIx,3,(6,dIx,(8,1,(-1)),0)),1)) (6,dEq,(6,CM,(10,Kc,aj om [(5,0),(5,1)],(5,2)),1),0)))
def BU:MC:=
 (9,3,(8,0,1),vZ)
def kJ:([21])->(9,R):=gu 3 4 BU
def El:MC:=
 (aU (bN [2] (kG (22,1) (21,bM,[(8,0,1)])) (aM 2) (aj kJ [(5,0),(8,1,0),(5,2)]) (5,2)))
def iB:([21])->(9,R):=gu 2 3 El
def rV:MC:=(lX 3 iD [(5,0),(EJ (aj ml [(5,0),(5,7),(5,8)])),(5,5),(5,2)] [])
def oA:MC:=(kS (hV (EJ (aj iB [(5,0),(5,7)]))) (aM 8) rV)
def D0:MC:=(dF 6 (kS (hV (5,6)) (aM 7) oA))
def D1:MC:=(9,4,oY 3,D0)
def oz:MC:=(9,6,cZ (vy 3) (6,(5,4)) none,D1)
def G8:MC:=(aU (rS 3))
def G9:MC:=(az (kS (kG (22,1) (8,dAdd,1,1)) (aM 5) oz) G8)
def Ga:MC:=(9,4,(22,0),G9)
def Gb:MC:=(az (lX 3 iD [(5,0),(EJ (aj jC [(5,0)])),(22,0),(5,2)] []) Ga)
def LS:MC:=
 (az (Bc 3) Gb)
def kH:([21])->(9,R):=gu 3 9 LS
def KQ:MC:=(dF 5 (aU (eAnd (aj dX [(5,2),(5,3),(5,5)]) (10,KF,(21,bM,[(dI 5)]),(5,4)))))
def KR:MC:=(3,kj lG (5,6),aU (eAnd (aj cw [(aG [(5,6)])]) (eAnd (16,dEq,6,(5,4)) (10,dGt,aj kL [(5,2),(5,3),(5,4)],(5,4)))),aX,KQ)
def Fe:MC:=(az (DH "TooMany" "most" 5 7 6 kH [(5,2),(5,3),(5,4)]) KR)
def KS:MC:=(9,6,eC .non,Fe)
def KU:MC:=(9,5,eC .non,KS)
def KW:MC:=(9,4,(10,dIx,eLst [(22,200),(22,200),(10,dAdd,(22,1),(6,dMod,(6,j7,aj aD [(5,0),(22,0)],3),40))],(6,dMod,aj aD [(5,0),(22,0)],3)),KU)
def KY:MC:=(3,(8,dGt,1,3),sSet 3 (aj (f2 FS) [(5,3),(22,2)]),aX,KW)
def KZ:MC:=(9,3,(10,dIx,eLst [(22,0),(22,1),(22,2),(22,3),(22,9)],(6,dMod,aj aD [(5,0),(22,19)],5)),KY)
def L4:MC:=(9,2,aj iM [(5,0),(5,1),(10,dAdd,(22,1),aj (f1 dInt) [(8,dLt,1,3)]),(22,2)],KZ)
def N4:MC:=
 (9,1,(6,dMod,aj aD [(5,0),(22,1)],7),L4)
def ye:([21])->(9,R):=gu 1 8 N4
end
abbrev Bx:=Str×[22]
def bD(b:Bx):D:=(20,[.str b.1,(20,b.2.map D.int)])
def bb(bs:[28]):D:=(20,bs.map bD)
def sJ(i:Int):Prop:=-1000000000<=i/\i<=1000000000
def P1(b:Bx):Prop:=1<=b.2.length/\b.2.length<=2/\∀i∈b.2,sJ i
def di(bs:[28]):Prop:=bs.length<=8/\∀b∈bs,P1 b
noncomputable def szB(bs:[28])(x:Nat):Nat:=(bs.getD x (Str.empty,[])).2.length
inductive Deed where
 |put (x:Nat) (ns:[22])|copy (x y:Nat)|grow (x:Nat) (n:Int)|tick (x:Nat)|still (n:Nat)
 |iz (x y:Nat) (n:Int)|most (x y:Nat) (n:Int)|non (x:Nat)|anew (x y t:Nat)
def Deed.d:Deed->D
 |.put x ns=>(20,[.str (26,"put"),(4,x),(20,[17])])
 |.copy x y=>(20,[.str (26,"copy"),(4,x),(4,y)])
 |.grow x n=>(20,[.str (26,"grow"),(4,x),(4,n)])
 |.tick x=>(20,[.str (26,"tick"),(4,x)])
 |.still n=>(20,[.str (26,"still"),(4,n)])
 |.iz x y n=>(20,[.str (26,"is"),(4,x),(4,y),(4,n)])
 |.most x y n=>(20,[.str (26,"most"),(4,x),(4,y),(4,n)])
 |.non x=>(20,[.str (26,"none"),(4,x)])
 |.anew x y t=>(20,[.str (26,"anew"),(4,x),(4,y),(4,t)])
def Deed.Ok(bs:[28]):Deed->Prop
 |.put x ns=>x<bs.length/\ns.length=(28,x)/\∀i∈ns,sJ i
 |.copy x y=>x<bs.length/\y<bs.length/\x≠y/\(28,y)=(28,x)
 |.grow x n=>x<bs.length/\sJ n
 |.tick x=>x<bs.length/\(28,x)=1
 |.still n=>1<=n/\n<=9
 |.iz x y n=>x<bs.length/\y<bs.length/\(28,y)=(28,x)/\sJ n
 |.most x y n=>x<bs.length/\y<bs.length/\(28,y)=(28,x)/\sJ n
 |.non x=>x<bs.length
 |.anew x y t=>x<bs.length/\y<bs.length/\t<bs.length/\x≠y/\x≠t/\y≠t/\(28,y)=(28,x)/\(28,t)=1
abbrev Pl:=Deed×Nat
structure Rw where
 nm:Str
 rk:Nat
 pl:List Pl
def Bm(p:Pl):D:=(20,[p.1.d,(4,p.2)])
def Rw.d(r:Rw):D:=(20,[.str r.nm,(4,r.rk),(20,r.pl.map Bm)])
def bR(bs:[28])(rs:List Rw):D:=(20,[bb bs,(20,rs.map Rw.d)])
def PlOk(bs:[28])(bells:Nat)(p:Pl):Prop:=p.1.Ok bs/\p.2<2 ^ (bells+1)/\p.2 % 2=0
def Qe(bs:[28])(bells most:Nat)(r:Rw):Prop:=1<=r.pl.length/\r.pl.length<=most/\(∀p∈r.pl,PlOk bs bells p)
structure OU(bs:List Bx)(rs:List Rw)(bells most:Nat):Prop where
 box:di bs
 len:rs.length=bells+1
 row:∀r∈rs,Qe bs bells most r
 main:(rs.getD 0 (12,Str.empty,1,[])).rk=0
 rank:∀k r,rs[k]?=(6,r)->k≠0->1<=r.rk/\r.rk<=9
theorem vF(ds:[21]):bM (20,ds)=okI (ds.length:Int):=rfl
theorem fU(ds:[21]):bM (13,ds)=okI (ds.length:Int):=rfl
theorem Ci{bs:[28]}{x:Nat}(h:x<bs.length):dIx (bb bs) (4,x)=okD (bD bs[x]):=ix_tup (by rw[getElem?_map,(19,h)];rfl)
theorem rL(bs:[28]):bM (bb bs)=okI (bs.length:Int):=by show okI ((bs.map bD).length:Int)=_;rw[length_map]
theorem Ds{bs:[28]}{x:Nat}(h:x<bs.length):(28,x)=bs[x].2.length:=by
 unfold szB;rw[getD_eq_getElem?_getD,(19,h)];rfl
theorem Jw(ns:[22]):bM (20,[17])=okI (ns.length:Int):=by show okI ([17].length:Int)=_;rw[length_map]
theorem A8(b:Bx):dIx (bD b) (4,1)=okD (20,b.2.map D.int):=bu
def zQ(ns:[22])(k:Int):Int:=if ns=[] then 0 else(ns.getD (k % ns.length).toNat 0)
def BO(ns:[22])(k:Int):Int:=(zQ ns k % 1000003 * 48271+k * k * 7919+1) % 65521
def mixV(ns:[22])(k:Int):Int:=BO ns k * BO ns k % 65519
theorem n9{ns:[22]}{k:Int}:0<=(45,k)/\(45,k)<65519:=by
 unfold mixV;exact(5,emod_nonneg _ [11],emod_lt_of_pos _ [11])
theorem LO{ns:[22]}{k:Int}:0<=BO ns k/\BO ns k<65521:=by
 unfold BO;exact(5,emod_nonneg _ [11],emod_lt_of_pos _ [11])
theorem BN{ns:[22]}{k:Int}(h0:0<=k)(h1:k<=100000):kP [(1,[30]),(15,k),(15,zQ ns k),none]=(6,.ret (.sh (4,(45,k)))):=by
 have hw:=LO (ns:=ns) (k:=k);have hc:0<=zQ ns k % 1000003/\zQ ns k % 1000003<1000003:=(5,emod_nonneg _ [11],emod_lt_of_pos _ [11])
 have e:(zQ ns k % 1000003 * 48271+k * k * 7919+1) % 65521=BO ns k:=rfl;have e2:BO ns k * BO ns k % 65519=(45,k):=rfl;unfold kP oN;simp(disch:=omega) only [az,sSet,eJ,eVar,getElem?_cons_succ,getElem?_cons_zero,okD,eC,bindV_ok,S.val_sh,b8,okI,Ee,QO,add_int,e,set_cons_succ,set_cons_zero,bindO_ok,aU,e2]
theorem PR{ns:[22]}{k:Int}(h:ns≠[]):dIx [30] (4,(k % ns.length))=okI (zQ ns k):=by
 have hl:0<ns.length:=List.length_pos_iff.mpr h;have hp:0<=k % (ns.length:Int):=emod_nonneg _ [11]
 have hq:k % (ns.length:Int)<(ns.length:Int):=emod_lt_of_pos _ [11]
 have e:[17][(k % (ns.length:Int)).toNat]?=(6,(4,ns.getD (k % (ns.length:Int)).toNat 0)):=by
  have hi:(k % (ns.length:Int)).toNat<ns.length:=by omega
  rw[getElem?_map,getD_eq_getElem?_getD,(19,hi)];rfl
 have z:=gY e;rw[Int.toNat_of_nonneg hp] at z;rw[z];unfold zQ;rw[(42,h)]
theorem cE{ns:[22]}{k:Int}(h0:0<=k)(h1:k<=100000):aD [[30],(4,k)]=okI (45,k):=by
 have hlen:bM [30]=okI (ns.length:Int):=by show okI ([17].length:Int)=_;rw[length_map]
 by_cases h:ns=[]
 ·refine aA rfl (3,ao rfl,(29,(1,eQ rfl hlen,xm (by subst h;simp))),?_)
  have:zQ ns k=0:=by unfold zQ;rw[(39,h)]
  have z:=BN (ns:=ns) h0 h1;rw[this] at z;exact z
 ·have hl:0<ns.length:=List.length_pos_iff.mpr h;exact aA rfl (3,ao rfl,dH (1,eQ rfl hlen,sW [11]) (ao (9,(9,eQ rfl hlen,b8 [11]),PR h)),BN h0 h1)
theorem Oh{ns:[22]}{k:Int}:(45,k) % 2=0\/(45,k) % 2=1:=by omega
theorem xZ{ns:[22]}{k:Int}(h0:0<=k)(h1:k<=90000):∃i,bE [[30],(4,k)]=okI i/\-1000000000<=i/\i<=1000000000:=by
 have hp:Kd (4,10) (4,9)=okI 1000000000:=rfl;have b1:=n9 (ns:=ns) (k:=k);have b2:=n9 (ns:=ns) (k:=k+1);by_cases c1:(45,k) % 3=0
 ·refine(9,(45,(k+1)) % 5 - 2,?_,by omega,by omega)
  simp(disch:=omega) only [bE,gu,length_cons,length_nil,reduceAdd,GG,gX,fo,fm,fk,fj,az,sSet,aj,bx,eVar,bX,map_cons,map_nil,reduceSub,replicate_succ,List.replicate_zero,cons_append,nil_append,getElem?_cons_zero,okD,getElem?_cons_succ,bindV_ok,S.val_sh,cE,okI,set_cons_succ,set_cons_zero,bindO_ok,eJ,eC,add_int,sIf,b8,c1,mH,okB,decide_true,asBO,aU,sub_int,aX,ite_true]
 ·by_cases c2:(45,k) % 17=1
  ·rcases Oh (ns:=ns) (k:=k+1) with c3|c3
   ·refine(9,1000000000,?_,by omega,by omega)
    simp(disch:=omega) only [bE,gu,length_cons,length_nil,reduceAdd,GG,gX,fo,fm,fk,fj,az,sSet,aj,bx,eVar,bX,map_cons,map_nil,reduceSub,replicate_succ,List.replicate_zero,cons_append,nil_append,getElem?_cons_zero,okD,getElem?_cons_succ,bindV_ok,S.val_sh,cE,okI,set_cons_succ,set_cons_zero,bindO_ok,eJ,eC,add_int,sIf,b8,mH,okB,c1,decide_false,asBO,aU,sub_int,aX,Bool.false_eq_true,ite_false,c2,decide_true,eLst,jZ,okL,hp,kj,MZ,Int.reduceNeg,reduceLeDiff,ite_true,c3,S.val_own,O.val_lst,sy]
   ·refine(9,-1000000000,?_,by omega,by omega)
    simp(disch:=omega) only [bE,gu,length_cons,length_nil,reduceAdd,GG,gX,fo,fm,fk,fj,az,sSet,aj,bx,eVar,bX,map_cons,map_nil,reduceSub,replicate_succ,List.replicate_zero,cons_append,nil_append,getElem?_cons_zero,okD,getElem?_cons_succ,bindV_ok,S.val_sh,cE,okI,set_cons_succ,set_cons_zero,bindO_ok,eJ,eC,add_int,sIf,b8,mH,okB,c1,decide_false,asBO,aU,sub_int,aX,Bool.false_eq_true,ite_false,c2,decide_true,eLst,jZ,okL,hp,kj,MZ,Int.reduceNeg,reduceLeDiff,ite_true,c3,S.val_own,O.val_lst,y8]
  ·refine(9,((45,k) * 65519+(45,(k+1))) % 2000000001 - 1000000000,?_,by omega,by omega)
   simp(disch:=omega) only [bE,gu,length_cons,length_nil,reduceAdd,GG,gX,fo,fm,fk,fj,az,sSet,aj,bx,eVar,bX,map_cons,map_nil,reduceSub,replicate_succ,List.replicate_zero,cons_append,nil_append,getElem?_cons_zero,okD,getElem?_cons_succ,bindV_ok,S.val_sh,cE,okI,set_cons_succ,set_cons_zero,bindO_ok,eJ,eC,add_int,sIf,b8,mH,okB,c1,decide_false,asBO,aU,sub_int,aX,Bool.false_eq_true,ite_false,c2,eLst,jZ,okL,kj,reduceLeDiff,ite_true,Ee]
def numV(ns:[22])(k:Int):Int:=match bE [[30],(4,k)] with
 |some (.ok (.sh (.int i)))=>i
 |_=>0
theorem oh{ns:[22]}{k:Int}(h0:0<=k)(h1:k<=90000):bE [[30],(4,k)]=okI (numV ns k):=by
 obtain⟨i,e,_⟩:=xZ (ns:=ns) h0 h1;unfold numV;rw[e]
theorem o9{ns:[22]}{k:Int}(h0:0<=k)(h1:k<=90000):-1000000000<=numV ns k/\numV ns k<=1000000000:=by
 obtain⟨i,e,h⟩:=xZ (ns:=ns) h0 h1;unfold numV;rw[e];exact h
theorem LW{k:Nat}(h:k<8):∃c,dIx (.str (26,"abcdefgh")) (4,k)=okD (.str ⟨#[c]⟩):=by
 have hk:k=0\/k=1\/k=2\/k=3\/k=4\/k=5\/k=6\/k=7:=by omega
 rcases hk with rfl|rfl|rfl|rfl|rfl|rfl|rfl|rfl <;> exact(5,_,rfl)
def tY(ns:[22])(sz many:Int)(k:Nat)(ρ:MEnv):Prop:=∃(bs:[28])(e4 e5 e6 e7:(9,S)),bs.length=k/\(∀b∈bs,P1 b)/\
 ρ=[(1,[30]),(15,sz),(15,many),(6,(38,bs.map bD)),e4,e5,e6,e7]
theorem EU{ns:[22]}{sz many:Int}(hs:sz=1\/sz=2){k:Nat}(hk:k<8){ρ:MEnv}(I:tY ns sz many k ρ):∃ρ1 ρ2,aM 4 (4,k) ρ=(6,ρ1)/\kZ ρ1=(30,ρ2)/\tY ns sz many (k+1) ρ2:=by
 obtain⟨bs,e4,e5,e6,e7,hl,hb,rfl⟩:=I;obtain⟨c,hc⟩:=LW hk;obtain⟨at',hat⟩:∃a:Int,a=4+5 * (k:Int)+400 * ((k:Int) / 3):=(5,_,rfl);have ha:0<=at'/\at'<=10000:=by omega
 have n1:=oh (ns:=ns) (k:=at') [11] [11]
 have n2:=oh (ns:=ns) (k:=at'+3) [11] [11]
 have l1:=o9 (ns:=ns) (k:=at') [11] [11]
 have l2:=o9 (ns:=ns) (k:=at'+3) [11] [11]
 have m1:=cE (ns:=ns) (k:=at'+2) [11] [11]
 have lb:(bs.map bD).length<lim:=by rw[length_map,hl];exact(11,hk,[12])
 have fin:∀(q:[22]),P1 (Str.mk #[c],q)->∀e7:Option S,∃ρ2,mF [(1,[30]),(15,sz),(15,many),(6,(38,bs.map bD)),(15,k),(15,at'),(6,(38,q.map D.int)),e7]=(30,ρ2)/\tY ns sz many (k+1) ρ2:=λq hq e7=>by
  refine⟨_,bI (rg rfl (iP (11,hc) (aT rfl rfl)) lb),bs++[(Str.mk #[c],q)],(15,k),(15,at'),(1,(13,q.map D.int)),e7,by simp[hl],?_,?_⟩
  ·intro b hb';rcases mem_append.mp hb' with h|h
   ·exact hb b h
   ·rw[(37,h)];exact hq
  ·rw[map_append];rfl
 obtain⟨cc,hcc⟩:∃cc:Bool,eOr (eAnd (eBin dEq (eVar 1) (eC (.int 2))) (eBin dGt (eVar 7) (eBin dIx (eLst [(eC (.int 0)),(eC (.int 0)),(eC (.int 2))]) (eBin dMod (eVar 4) (eC (.int 3)))))) (eAnd (eBin dEq (eVar 1) (eC (.int 1))) (eBin dEq (eVar 7) (eC (.int 0))))
   [(1,[30]),(15,sz),(15,many),(6,(38,bs.map bD)),(15,k),(15,at'),(6,(38,[(4,numV ns at')])),(15,((45,(at'+2)) % 5))]=okB cc:=by
  rcases hs with rfl|rfl
  ·by_cases h:(45,(at'+2)) % 5=0
   ·exact(5,true,by simp(disch:=omega) only [eOr,eAnd,h,eJ,eVar,getElem?_cons_succ,getElem?_cons_zero,okD,eC,bindV_ok,S.val_sh,mH,okB,reduceEq,decide_false,asB,eLst,jZ,okL,aj,bx,length_cons,length_nil,reduceAdd,reduceLeDiff,ite_true,b8,okI,S.val_own,O.val_lst,Bool.false_eq_true,ite_false,decide_true])
   ·exact(5,false,by simp(disch:=omega) only [eOr,eAnd,eJ,eVar,getElem?_cons_succ,getElem?_cons_zero,okD,eC,bindV_ok,S.val_sh,mH,okB,reduceEq,decide_false,asB,eLst,jZ,okL,aj,bx,length_cons,length_nil,reduceAdd,reduceLeDiff,ite_true,b8,okI,S.val_own,O.val_lst,Bool.false_eq_true,ite_false,decide_true,h])
  ·have h3:(k:Int) % 3=0\/(k:Int) % 3=1\/(k:Int) % 3=2:=by omega
   rcases h3 with h3|h3|h3
   ·by_cases h:0<(45,(at'+2)) % 5
    ·exact(5,true,by simp(disch:=omega) only [eOr,eAnd,eJ,eVar,getElem?_cons_succ,getElem?_cons_zero,okD,eC,bindV_ok,S.val_sh,mH,okB,decide_true,asB,eLst,jZ,okL,aj,bx,length_cons,length_nil,reduceAdd,reduceLeDiff,ite_true,b8,okI,h3,S.val_own,O.val_lst,sy,Ad,h,reduceEq,decide_false,Bool.false_eq_true,ite_false])
    ·exact(5,false,by simp(disch:=omega) only [eOr,eAnd,eJ,eVar,getElem?_cons_succ,getElem?_cons_zero,okD,eC,bindV_ok,S.val_sh,mH,okB,decide_true,asB,eLst,jZ,okL,aj,bx,length_cons,length_nil,reduceAdd,reduceLeDiff,ite_true,b8,okI,h3,S.val_own,O.val_lst,sy,Ad,h,decide_false,reduceEq,Bool.false_eq_true,ite_false])
   ·by_cases h:0<(45,(at'+2)) % 5
    ·exact(5,true,by simp(disch:=omega) only [eOr,eAnd,eJ,eVar,getElem?_cons_succ,getElem?_cons_zero,okD,eC,bindV_ok,S.val_sh,mH,okB,decide_true,asB,eLst,jZ,okL,aj,bx,length_cons,length_nil,reduceAdd,reduceLeDiff,ite_true,b8,okI,h3,S.val_own,O.val_lst,y8,Ad,h,reduceEq,decide_false,Bool.false_eq_true,ite_false])
    ·exact(5,false,by simp(disch:=omega) only [eOr,eAnd,eJ,eVar,getElem?_cons_succ,getElem?_cons_zero,okD,eC,bindV_ok,S.val_sh,mH,okB,decide_true,asB,eLst,jZ,okL,aj,bx,length_cons,length_nil,reduceAdd,reduceLeDiff,ite_true,b8,okI,h3,S.val_own,O.val_lst,y8,Ad,h,decide_false,reduceEq,Bool.false_eq_true,ite_false])
   ·by_cases h:2<(45,(at'+2)) % 5
    ·exact(5,true,by simp(disch:=omega) only [eOr,eAnd,eJ,eVar,getElem?_cons_succ,getElem?_cons_zero,okD,eC,bindV_ok,S.val_sh,mH,okB,decide_true,asB,eLst,jZ,okL,aj,bx,length_cons,length_nil,reduceAdd,reduceLeDiff,ite_true,b8,okI,h3,S.val_own,O.val_lst,N7,Ad,h,reduceEq,decide_false,Bool.false_eq_true,ite_false])
    ·exact(5,false,by simp(disch:=omega) only [eOr,eAnd,eJ,eVar,getElem?_cons_succ,getElem?_cons_zero,okD,eC,bindV_ok,S.val_sh,mH,okB,decide_true,asB,eLst,jZ,okL,aj,bx,length_cons,length_nil,reduceAdd,reduceLeDiff,ite_true,b8,okI,h3,S.val_own,O.val_lst,N7,Ad,h,decide_false,reduceEq,Bool.false_eq_true,ite_false])
 have s1:(sSet 5 (10,dAdd,(10,dAdd,(22,4),(10,lH,(22,5),(5,4))),(10,lH,(22,400),(8,j7,4,3)))) [(1,[30]),(15,sz),(15,many),(6,(38,bs.map bD)),(15,k),e5,e6,e7]
   = (30,[(1,[30]),(15,sz),(15,many),(6,(38,bs.map bD)),(15,k),(15,at'),e6,e7]):=by
  simp(disch:=omega) only [sSet,eJ,eC,okD,eVar,getElem?_cons_succ,getElem?_cons_zero,bindV_ok,S.val_sh,Ee,okI,add_int,fR,set_cons_succ,set_cons_zero,bindO_ok];rw[hat]
 cases cc with
 |true=>
  obtain⟨ρ2,h1,h2⟩:=fin [numV ns at',numV ns (at'+3)] (12,by simp,by simp,by intro i hi;simp at hi;rcases hi with rfl|rfl <;> assumption) (15,((45,(at'+2)) % 5))
  exact⟨_,ρ2,rfl,(3,s1,ao (aT (19,rfl,n1) rfl),(3,ao (1,(19,(11,rfl),m1),b8 [12]),dH hcc (rg rfl (19,(11,rfl),n2) (by show 1<lim;decide)),h1)),h2⟩
 |false=>
  obtain⟨ρ2,h1,h2⟩:=fin [numV ns at'] (12,by simp,by simp,by intro i hi;simp at hi;subst hi;assumption) (15,((45,(at'+2)) % 5))
  exact⟨_,ρ2,rfl,(3,s1,ao (aT (19,rfl,n1) rfl),(3,ao (1,(19,(11,rfl),m1),b8 [12]),(29,hcc),h1)),h2⟩
theorem Kp(ns:[22]):∃bs:List Bx,kM [[30]]=okD (bb bs)/\di bs:=by
 have m3:=cE (ns:=ns) (k:=3) [12] [12]
 have m2:=cE (ns:=ns) (k:=2) [12] [12]
 have b2:=n9 (ns:=ns) (k:=2);obtain⟨many,hm,hm8⟩:∃many:Nat,eBin dIx (eLst [(eBin dMod (eBin j7 (eVar 2) (eC (.int 16))) (eC (.int 4))),(eBin dAdd (eC (.int 4)) (eBin dMod (eBin j7 (eVar 2) (eC (.int 16))) (eC (.int 5))))]) (aj (f1 dInt) [(eBin dEq (eBin dMod (eVar 2) (eC (.int 8))) (eC (.int 0)))])
   [(1,[30]),(15,(1+(45,3) % 2)),(15,(45,2)),none,none,none,none,none]=okI (many:Int)/\many<=8:=by
  by_cases h:(45,2) % 8=0
  ·refine(12,(4+(45,2) / 16 % 5).toNat,?_,by omega)
   have:((4+(45,2) / 16 % 5).toNat:Int)=4+(45,2) / 16 % 5:=by omega
   rw[this];simp(disch:=omega) only [eLst,jZ,okL,eJ,aj,bx,eVar,getElem?_cons_succ,getElem?_cons_zero,okD,eC,bindV_ok,S.val_sh,fR,okI,b8,add_int,length_cons,length_nil,reduceAdd,reduceLeDiff,ite_true,h,mH,okB,decide_true,f1,PY,S.val_own,O.val_lst,y8]
  ·refine(12,((45,2) / 16 % 4).toNat,?_,by omega)
   have:(((45,2) / 16 % 4).toNat:Int)=(45,2) / 16 % 4:=by omega
   rw[this];simp(disch:=omega) only [eLst,jZ,okL,eJ,aj,bx,eVar,getElem?_cons_succ,getElem?_cons_zero,okD,eC,bindV_ok,S.val_sh,fR,okI,b8,add_int,length_cons,length_nil,reduceAdd,reduceLeDiff,ite_true,mH,okB,h,decide_false,f1,PZ,S.val_own,O.val_lst,sy]
 obtain⟨ρ',e,bs,e4,e5,e6,e7,hl,hb,rfl⟩:=pR (bd:=aM 4) (body:=kZ) (ρ:=[(1,[30]),(15,(1+(45,3) % 2)),(15,many),(6,(38,[])),none,none,none,none]) (tY ns (1+(45,3) % 2) many) many
  ⟨[],none,none,none,none,rfl,λ_ h=>(nomatch h),rfl⟩ (λk ρ hk I=>EU [11] [11] I)
 exact(9,bs,aA rfl (3,ao (9,(1,(19,rfl,m3),b8 [12]),rfl),ao (19,rfl,m2),(3,ao hm,ao rfl,a7 (gG (eM rfl (cg [11])) e) (bI (aF (aT rfl rfl))))),by omega,hb)
def st0(bs:[28])(x:Nat):Int:=(bs.getD x (Str.empty,[])).2.getD 0 0
theorem MS{bs:[28]}(hb:di bs){x:Nat}(h:x<bs.length){ρ:MEnv}{i j:Nat}(hi:ρ[i]?=(6,(1,bb bs)))(hj:ρ[j]?=(6,(15,x))):eBin dIx (6,dIx,(16,dIx,i,(5,j)),1) (22,0) ρ=okI (st0 bs x):=by
 have hl:=(hb.2 bs[x] (getElem_mem h)).1;refine(1,(1,a8 (br hi) (br hj) (Ci h),A8 _),?_);have:(bs[x].2.map D.int)[0]?=(6,(4,st0 bs x)):=by
  unfold st0;rw[getD_eq_getElem?_getD (l:=bs),(19,h),Option.getD_some,getElem?_map,getD_eq_getElem?_getD,(19,[11])]
  rfl
 exact ix_tup this
theorem rC{bs:[28]}{x:Nat}(h:x<bs.length){ρ:MEnv}{i j:Nat}(hi:ρ[i]?=(6,(1,bb bs)))(hj:ρ[j]?=(6,(15,x))):aK (f1 bM) [(6,dIx,(16,dIx,i,(5,j)),1)] ρ=okI (szB bs x:Nat):=by
 rw[Ds h];exact eQ (1,a8 (br hi) (br hj) (Ci h),A8 _) (Jw _)
theorem fH{bs:[28]}(hb:di bs){x:Nat}(h:x<bs.length):(28,x)=1\/(28,x)=2:=by
 have hx:=hb.2 bs[x] (getElem_mem h);rw[Ds h];have:=hx.1;have:=hx.2.1;omega
abbrev intD(k:Nat):D:=(4,k)
def jg(bs:[28])(x:Nat):List Nat:=(23,bs.length).filter λy=>!decide (y=x) && decide ((28,y)=(28,x))
def ones(bs:[28])(x y:Nat):List Nat:=(23,bs.length).filter λt=>!decide (t=x) && (!decide (t=y) && decide ((28,t)=1))
theorem Ha{bs:[28]}{x y:Nat}:y∈jg bs x↔y<bs.length/\y≠x/\(28,y)=(28,x):=by
 unfold jg;rw[mem_filter,mem_range];simp
theorem Jb{bs:[28]}{x y t:Nat}:t∈ones bs x y↔t<bs.length/\t≠x/\t≠y/\(28,t)=1:=by
 unfold ones;rw[mem_filter,mem_range];simp
theorem Hb{bs:[28]}{x:Nat}:(jg bs x).length<=bs.length:=by
 unfold jg;refine le_trans (List.length_filter_le _ _) ?_;rw[length_range];exact[23]
theorem QV(i j:Nat):dEq (4,i) (4,j)=okB (decide (i=j)):=by rw[mH,show decide ((i:Int)=(j:Int))=decide (i=j) from decide_eq_decide.mpr [11]]
theorem QN(i j:Nat):Ag (4,i) (4,j)=okB (!decide (i=j)):=by rw[Of,show decide ((i:Int)=(j:Int))=decide (i=j) from decide_eq_decide.mpr [11]]
theorem Rb(i j:Nat):dGt (4,i) (4,j)=okB (decide (j<i)):=by rw[Ad,show decide ((j:Int)<(i:Int))=decide (j<i) from decide_eq_decide.mpr [11]]
theorem D3{ρ:MEnv}{a b:ME}{p q:Bool}(h1:a ρ=okB p)(h2:b ρ=okB q):eAnd a b ρ=okB (p && q):=by
 cases p with
 |true=>exact dc h1 h2
 |false=>exact jk h1
theorem LR{bs:[28]}(hb:di bs){x:Nat}{sz:Int}(hs:sz=(szB bs x:Nat)){ρ:MEnv}{js:List Nat}{i j s v:Nat}(h0:ρ[i]?=(6,(1,bb bs)))(hi:(bZ js ρ)[i]?=(6,(1,bb bs)))(hj:(bZ js ρ)[j]?=(6,(15,x)))(hz:(bZ js ρ)[s]?=(6,(15,sz)))(hv:v<ρ.length)(n1:v≠i)(n2:v≠j)(n3:v≠s)(hjs:(bZ js ρ).length=ρ.length):
  bN js (bP (21,bM,[dI i])) (aM v) (eAnd (16,Ag,v,(5,j)) (10,dEq,(21,bM,[(6,dIx,(16,dIx,i,(5,v)),1)]),(5,s))) (5,v) ρ=okL ((jg bs x).map intD):=by
 unfold jg;refine qW (23,bs.length) intD (λy=>!decide (y=x) && decide ((28,y)=(28,x))) intD ?_ ?_ λy hy=>?_
 ·rw[←uO];exact eM (eQ (fW h0) (rL bs)) (cg (by have:=hb.1;omega))
 ·rw[length_range];exact le_trans hb.1 [12]
 ·have hy':=mem_range.mp hy;have hself:((bZ js ρ).set v (1,intD y))[v]?=(6,(1,intD y)):=(32,[11])
  refine(9,_,rfl,D3 (a8 (br hself) (br (by rw[(34,n2)];exact hj)) (QN y x)) (a8 (rC hy' (by rw[(34,n1)];exact hi) hself) (br (by rw[(34,n3)];exact hz)) (by rw[hs];exact QV _ _)),λ_=>(14,_,br hself))
theorem O9{bs:[28]}(hb:di bs){x y:Nat}{ρ:MEnv}{js:List Nat}{i j s v:Nat}(h0:ρ[i]?=(6,(1,bb bs)))(hi:(bZ js ρ)[i]?=(6,(1,bb bs)))(hj:(bZ js ρ)[j]?=(6,(15,x)))(hz:(bZ js ρ)[s]?=(6,(15,y)))(hv:v<ρ.length)(n1:v≠i)(n2:v≠j)(n3:v≠s)(hjs:(bZ js ρ).length=ρ.length):
  bN js (bP (21,bM,[dI i])) (aM v) (eAnd (16,Ag,v,(5,j)) (eAnd (16,Ag,v,(5,s)) (6,dEq,(21,bM,[(6,dIx,(16,dIx,i,(5,v)),1)]),1))) (5,v) ρ=okL ((ones bs x y).map intD):=by
 unfold ones;refine qW (23,bs.length) intD (λt=>!decide (t=x) && (!decide (t=y) && decide ((28,t)=1))) intD ?_ ?_ λt ht=>?_
 ·rw[←uO];exact eM (eQ (fW h0) (rL bs)) (cg (by have:=hb.1;omega))
 ·rw[length_range];exact le_trans hb.1 [12]
 ·have ht':=mem_range.mp ht;have hself:((bZ js ρ).set v (1,intD t))[v]?=(6,(1,intD t)):=(32,[11])
  refine(9,_,rfl,D3 (a8 (br hself) (br (by rw[(34,n2)];exact hj)) (QN t x)) (D3 (a8 (br hself) (br (by rw[(34,n3)];exact hz)) (QN t y)) (1,rC ht' (by rw[(34,n1)];exact hi) hself,QV _ 1)),λ_=>(14,_,br hself))
theorem JL{l:List Nat}{j:Nat}(h:j<l.length):dIx (13,l.map intD) (4,j)=okI (l[j]:Nat):=gY (by rw[getElem?_map,(19,h)];rfl)
theorem Hz{ns:[22]}{bs:[28]}(hb:di bs){k rest kind pick n:Int}{x m:Nat}{ms:D}(hk0:0<=k)(hk1:k<=80000)(hkind:0<=kind/\kind<11)(hk4:kind≠4)(hp:0<=pick/\pick<65519)(hn:sJ n)(hx:x<bs.length)(hm:m<bs.length)(hms:(28,m)=(28,x)):
  ∃dd:Deed,dd.Ok bs/\lK [(1,[30]),(15,k),(1,bb bs),(15,rest),(15,kind),(15,pick),(15,n),(15,x),[37],(1,ms),(15,m),none,none,none,none]=(6,.ret (.sh dd.d)):=by
 have h12:=fH hb hx;have hn2:=oh (ns:=ns) (k:=k+5) [11] [11]
 have hl2:=o9 (ns:=ns) (k:=k+5) [11] [11]
 have hone:=O9 (x:=x) (y:=m) hb (ρ:=[(1,[30]),(15,k),(1,bb bs),(15,rest),(15,kind),(15,pick),(15,n),(15,x),[37],(1,ms),(15,m),none,none,none,none]) (js:=[14]) (i:=2) (j:=7) (s:=10) (v:=14) rfl rfl rfl rfl (by show 14<15;decide) [12] [12] [12] rfl
 have late:(kind=0\/kind=1\/kind=8\/kind=9)->∃dd:Deed,dd.Ok bs/\oP [(1,[30]),(15,k),(1,bb bs),(15,rest),(15,kind),(15,pick),(15,n),(15,x),[37],(1,ms),(15,m),none,none,none,none]=(6,.ret (.sh dd.d)):=λhkk=>by
  have put:∃dd:Deed,dd.Ok bs/\oO [(1,[30]),(15,k),(1,bb bs),(15,rest),(15,kind),(15,pick),(15,n),(15,x),[37],(1,ms),(15,m),(6,(38,((ones bs x m).map intD))),none,none,none]=(6,.ret (.sh dd.d)):=by
   rcases h12 with h|h
   ·refine(12,.put x [n],(12,hx,by rw[h];rfl,by intro i hi;simp at hi;subst hi;exact hn),?_)
    rw[h];exact bc (dH rfl (aF (bW rfl rfl (aT rfl rfl) rfl)))
   ·refine(12,.put x [n,numV ns (k+5)],(12,hx,by rw[h];rfl,by intro i hi;simp at hi;rcases hi with rfl|rfl <;> assumption),?_)
    rw[h];exact a7 (29,rfl) (aF (bW rfl rfl (19,(19,(11,rfl),hn2),rfl) rfl))
  obtain⟨dd,hd,he⟩:=put;have hlen:bM (13,((ones bs x m).map intD))=okI ((ones bs x m).length:Int):=by rw[fU,length_map]
  by_cases c8:kind=8
  ·by_cases cm:m=x
   ·exact(12,dd,hd,(3,ao hone,(29,dc (11,jH c8) (jk (11,GQ [11]))),he))
   ·by_cases cl:0<(ones bs x m).length
    ·obtain⟨j,hj⟩:∃j:Nat,pick / 5 % ((ones bs x m).length:Int)=j:=(5,(pick / 5 % ((ones bs x m).length:Int)).toNat,by have:=emod_nonneg (pick / 5) (b:=((ones bs x m).length:Int)) [11];omega)
     have hjl:j<(ones bs x m).length:=by have:=emod_lt_of_pos (pick / 5) (b:=((ones bs x m).length:Int)) [11];omega
     have hmem:=Jb.mp (getElem_mem hjl);refine(12,.anew x m ((ones bs x m)[j]),⟨hx,hm,hmem.1,λz=>cm z.symm,λz=>hmem.2.1 z.symm,λz=>hmem.2.2.1 z.symm,hms,hmem.2.2.2⟩,a7 (ao hone) (bc (dH (dc (11,jH c8) (dc (11,LJ [11]) (1,eQ rfl hlen,sW [11]))) (bI (aF (ke (s4:=.sh (4,((ones bs x m)[j]:Nat))) rfl rfl rfl (9,a8 (11,fR [12] [12]) (eQ rfl hlen) (b8 [11]),?_) rfl))))))
     rw[S.val_sh,hj];exact JL hjl
    ·exact(12,dd,hd,(3,ao hone,(29,dc (11,jH c8) (dc (11,LJ [11]) (1,eQ rfl hlen,xm [11]))),he))
  ·exact(12,dd,hd,(3,ao hone,(29,jk (11,fE c8)),he))
 have hkk:kind=0\/kind=1\/kind=2\/kind=3\/kind=4\/kind=5\/kind=6\/kind=7\/kind=8\/kind=9\/kind=10:=by omega
 have tl:(kind=0\/kind=8\/kind=9\/(kind=1/\m=x))->∃dd:Deed,dd.Ok bs/\lK [(1,[30]),(15,k),(1,bb bs),(15,rest),(15,kind),(15,pick),(15,n),(15,x),[37],(1,ms),(15,m),none,none,none,none]=(6,.ret (.sh dd.d)):=λhw=>by
  obtain⟨dd,hd,he⟩:=late [11]
  refine(12,dd,hd,(3,(29,kl (11,fE [11]) (11,fE [11])),(29,?_),(3,(29,kl (11,fE [11]) (jk (11,fE [11]))),(29,(11,fE [11])),a7 (29,kl (11,fE [11]) (11,fE [11])) he)))
  by_cases h1:kind=1
  ·exact dc (11,jH h1) (11,GQ [11])
  ·exact jk (11,fE h1)
 have i5:∀c,(kind=c/\c≠5/\c≠6)->eOr (8,dEq,4,5) (8,dEq,4,6) [(1,[30]),(15,k),(1,bb bs),(15,rest),(15,kind),(15,pick),(15,n),(15,x),[37],(1,ms),(15,m),none,none,none,none]=okB false:=λc ⟨h1,h2,h3⟩=>kl (11,fE [11]) (11,fE [11])
 by_cases c56:kind=5\/kind=6
 ·
  have t5:eOr (8,dEq,4,5) (8,dEq,4,6) [(1,[30]),(15,k),(1,bb bs),(15,rest),(15,kind),(15,pick),(15,n),(15,x),[37],(1,ms),(15,m),none,none,none,none]=okB true:=by
   rcases c56 with h|h
   ·exact Lx (11,jH h)
   ·exact kl (11,fE [11]) (11,jH h)
  have gx:=MS hb hx (ρ:=[(1,[30]),(15,k),(1,bb bs),(15,rest),(15,kind),(15,pick),(15,n),(15,x),[37],(1,ms),(15,m),none,none,none,none]) (i:=2) (j:=7) rfl rfl;have gm:=MS hb hm (ρ:=[(1,[30]),(15,k),(1,bb bs),(15,rest),(15,kind),(15,pick),(15,n),(15,x),[37],(1,ms),(15,m),none,none,none,none]) (i:=2) (j:=10) rfl rfl;have last:∀(n':Int),sJ n'->∃dd:Deed,dd.Ok bs/\(aU (aG [(10,dIx,eLst [(eC (.str (26,"is"))),(eC (.str (26,"most")))],(8,vC,4,5)),(5,7),(5,10),(5,6)])) [(1,[30]),(15,k),(1,bb bs),(15,rest),(15,kind),(15,pick),(15,n'),(15,x),[37],(1,ms),(15,m),none,(15,(st0 bs x - st0 bs m)),none,none]=(6,.ret (.sh dd.d)):=λn' hn'=>by
   rcases c56 with rfl|rfl
   ·exact(12,.iz x m n',(9,hx,hm,hms,hn'),aF (ke (9,(11,rfl),sy) rfl rfl rfl rfl))
   ·exact(12,.most x m n',(9,hx,hm,hms,hn'),aF (ke (9,(11,rfl),y8) rfl rfl rfl rfl))
  by_cases q1:0<pick / 7 % 3
  ·by_cases q2:(if st0 bs x - st0 bs m<0 then -(st0 bs x - st0 bs m) else st0 bs x - st0 bs m)<=1000000000
   ·obtain⟨dd,hd,he⟩:=last (st0 bs x - st0 bs m) (by unfold sJ;split at q2 <;> omega)
    exact(12,dd,hd,bc (dH t5 (3,ao (a8 gx gm rfl),dH (dc (1,(1,(11,fR [12] [12]),b8 [12]),sW q1) (a8 (aT rfl rfl) (11,rfl) (Jx q2))) (ao rfl),he)))
   ·obtain⟨dd,hd,he⟩:=last n hn;exact(12,dd,hd,bc (dH t5 (3,ao (a8 gx gm rfl),(29,dc (1,(1,(11,fR [12] [12]),b8 [12]),sW q1) (a8 (aT rfl rfl) (11,rfl) (PP q2))),he)))
  ·obtain⟨dd,hd,he⟩:=last n hn;exact(12,dd,hd,bc (dH t5 (3,ao (a8 gx gm rfl),(29,jk (1,(1,(11,fR [12] [12]),b8 [12]),xm q1)),he)))
 ·have e56:=i5 kind (12,rfl,by omega,by omega)
  by_cases c1:kind=1/\m≠x
  ·exact(12,.copy x m,(9,hx,hm,λz=>c1.2 z.symm,hms),a7 (29,e56) (bc (dH (dc (11,jH c1.1) (11,LJ [11])) (aF (bW rfl rfl rfl rfl)))))
  ·by_cases cl:kind=0\/kind=8\/kind=9\/(kind=1/\m=x)
   ·exact tl cl
   ·have nc:eAnd (8,dEq,4,1) (16,Ag,10,(5,7)) [(1,[30]),(15,k),(1,bb bs),(15,rest),(15,kind),(15,pick),(15,n),(15,x),[37],(1,ms),(15,m),none,none,none,none]=okB false:=jk (11,fE [11])
    by_cases c2:kind=2
    ·exact(12,.grow x n,(5,hx,hn),(3,(29,e56),(29,nc),bc (dH (Lx (11,jH c2)) (aF (bW rfl rfl rfl rfl)))))
    ·by_cases c3:kind=3
     ·by_cases c4:(28,x)=2
      ·exact(12,.grow x n,(5,hx,hn),(3,(29,e56),(29,nc),bc (dH (kl (11,fE c2) (dc (11,jH c3) (11,jH [11]))) (aF (bW rfl rfl rfl rfl)))))
      ·exact(12,.tick x,(53,hx),(3,(29,e56),(29,nc),a7 (29,kl (11,fE c2) (dc (11,jH c3) (11,fE [11]))) (bc (dH (11,jH c3) (aF (19,rfl,rfl))))))
     ·by_cases c7:kind=7
      ·exact(12,.non x,hx,(3,(29,e56),(29,nc),(3,(29,kl (11,fE c2) (jk (11,fE c3))),(29,(11,fE c3)),bc (dH (Lx (11,jH c7)) (aF (19,rfl,rfl))))))
      ·by_cases c10:kind=10
       ·exact(12,.non x,hx,(3,(29,e56),(29,nc),(3,(29,kl (11,fE c2) (jk (11,fE c3))),(29,(11,fE c3)),bc (dH (kl (11,fE c7) (11,jH c10)) (aF (19,rfl,rfl))))))
       ·exfalso;omega
theorem LV{xs ys:[21]}(h:xs.length+ys.length<=lim):dAdd (13,xs) (13,ys)=okL (xs++ys):=by show(if _ then _ else _)=_;exact(39,h)
theorem Mn{ns:[22]}{bs:[28]}(hb:di bs){k:Int}{rest:Nat}(hk0:0<=k)(hk1:k<=80000)(hr:1<=rest/\rest<=9):∃dd:Deed,dd.Ok bs/\ka [[30],(4,k),bb bs,(4,rest)]=okD dd.d:=by
 have m0:=cE (ns:=ns) (k:=k) [11] [11]
 have m1:=cE (ns:=ns) (k:=k+1) [11] [11]
 have m4:=cE (ns:=ns) (k:=k+4) [11] [11]
 have n2:=oh (ns:=ns) (k:=k+2) [11] [11]
 have l2:=o9 (ns:=ns) (k:=k+2) [11] [11]
 have b0:=n9 (ns:=ns) (k:=k);have b1:=n9 (ns:=ns) (k:=k+1);have h8:=hb.1;have hlen:=rL bs;have still:eOr (6,dEq,(21,bM,[(dI 2)]),0) (8,dEq,4,4) [(1,[30]),(15,k),(1,bb bs),(15,rest),(15,((45,k) % 11)),(15,(45,(k+1))),(15,numV ns (k+2)),none,none,none,none,none,none,none,none]=okB true->
   ∃dd:Deed,dd.Ok bs/\ka [[30],(4,k),bb bs,(4,rest)]=okD dd.d:=λh=>by
  obtain⟨q,hq⟩:∃q:Nat,1+mixV ns (k+1) % (rest:Int)=q:=(5,(1+(45,(k+1)) % (rest:Int)).toNat,by have:=emod_nonneg (45,(k+1)) (b:=(rest:Int)) [11];omega)
  have hq2:=emod_lt_of_pos (45,(k+1)) (b:=(rest:Int)) [11]
  have hq3:=emod_nonneg (45,(k+1)) (b:=(rest:Int)) [11]
  refine(12,.still q,(53,by omega),aA rfl (3,ao (1,(19,rfl,m0),b8 [12]),ao (19,(11,rfl),m1),a7 (ao (19,(11,rfl),n2)) (bc (dH h (aF (aI (s2:=.sh (4,q)) rfl (9,(11,b8 [11]),?_) rfl))))))
  rw[S.val_sh,S.val_sh,add_int,hq]
 by_cases e0:bs.length=0
 ·exact still (Lx (1,eQ rfl hlen,jH [11]))
 by_cases e4:(45,k) % 11=4
 ·exact still (kl (1,eQ rfl hlen,fE [11]) (11,jH e4))
 have nst:eOr (6,dEq,(21,bM,[(dI 2)]),0) (8,dEq,4,4) [(1,[30]),(15,k),(1,bb bs),(15,rest),(15,((45,k) % 11)),(15,(45,(k+1))),(15,numV ns (k+2)),none,none,none,none,none,none,none,none]=okB false:=
  kl (1,eQ rfl hlen,fE [11]) (11,fE e4)
 obtain⟨x,hx⟩:∃x:Nat,mixV ns (k+1) % (bs.length:Int)=x:=(5,((45,(k+1)) % (bs.length:Int)).toNat,by have:=emod_nonneg (45,(k+1)) (b:=(bs.length:Int)) [11];omega)
 have hxl:x<bs.length:=by have:=emod_lt_of_pos (45,(k+1)) (b:=(bs.length:Int)) [11];omega
 have hmt:=LR (x:=x) (sz:=(szB bs x:Nat)) hb rfl (ρ:=[(1,[30]),(15,k),(1,bb bs),(15,rest),(15,((45,k) % 11)),(15,(45,(k+1))),(15,numV ns (k+2)),(15,x),[37],none,none,none,none,none,none]) (js:=[13]) (i:=2) (j:=7) (s:=8) (v:=13) rfl rfl rfl rfl (by show 13<15;decide) [12] [12] [12] rfl
 obtain⟨j,hj⟩:∃j:Nat,mixV ns (k+4) % (((jg bs x).length:Int)+1)=j:=(5,((45,(k+4)) % (((jg bs x).length:Int)+1)).toNat,by have:=emod_nonneg (45,(k+4)) (b:=(((jg bs x).length:Int)+1)) [11];omega)
 have hjl:j<(jg bs x++[x]).length:=by have:=emod_lt_of_pos (45,(k+4)) (b:=(((jg bs x).length:Int)+1)) [11];rw[length_append,length_singleton];omega
 obtain⟨m,hm⟩:∃m,m=(jg bs x++[x])[j]:=(5,_,rfl);have hmm:m<bs.length/\(28,m)=(28,x):=by
  have:m∈jg bs x++[x]:=by rw[hm];exact getElem_mem hjl
  rcases mem_append.mp this with h|h
  ·have:=Ha.mp h;exact(5,this.1,this.2.2)
  ·rw[(37,h)];exact(5,hxl,rfl)
 have hml:=Hb (bs:=bs) (x:=x);have hmlen:bM (13,((jg bs x).map intD))=okI ((jg bs x).length:Int):=by rw[fU,length_map]
 obtain⟨dd,hd,he⟩:=Hz (ns:=ns) (rest:=rest) (ms:=(13,((jg bs x).map intD))) hb hk0 hk1 (kind:=(45,k) % 11) (53,by omega) e4 b1 l2 hxl hmm.1 hmm.2
 refine(12,dd,hd,aA rfl (3,ao (1,(19,rfl,m0),b8 [12]),ao (19,(11,rfl),m1),(3,ao (19,(11,rfl),n2),(29,nst),(3,ao (s:=.sh (4,x)) (9,eQ rfl hlen,?_),ao (rC hxl rfl rfl),a7 (ao hmt) (bI (a7 (ao (s:=.sh (4,m)) (a8 (9,aT rfl rfl,LV ?_) (a8 (19,(11,rfl),m4) (1,eQ rfl hmlen,rfl) (b8 [11])) ?_)) he))))))
 ·rw[S.val_sh,S.val_sh,b8 [11],hx]
 ·rw[length_map];exact le_trans (by show _+1<=10;omega) [12]
 ·rw[S.val_sh,hj,hm];have:=JL hjl;rw[map_append] at this;exact this
theorem QD{b:Nat}(hb:b<=100):CK (4,1) (.int (b:Int))=okI ((2 ^ b:Nat):Int):=by rw[Fj [11] [11] [12],toNat_natCast,Int.one_mul,Int.natCast_pow];rfl
def MT(ns:[22])(k:Int)(bs:[28])(bells longest rest q:Nat)(ρ:MEnv):Prop:=∃(ps:List Pl)(e7 e8 e9 e10:(9,S)),ps.length=q/\(∀p∈ps,PlOk bs bells p)/\
 ρ=[(1,[30]),(15,k),(1,bb bs),(15,bells),(15,longest),(15,rest),(6,(38,ps.map Bm)),e7,e8,e9,e10]
theorem Iy{ns:[22]}{bs:[28]}(hb:di bs){k:Int}{bells longest rest:Nat}(hk0:0<=k)(hk1:k<=70000)(hbl:bells<=6)(hlo:1<=longest/\longest<=12)(hr:1<=rest/\rest<=9):
  ∃ps:List Pl,lE [[30],(4,k),bb bs,(4,bells),(4,longest),(4,rest)]=okD (20,ps.map Bm)/\1<=ps.length/\ps.length<=longest/\∀p∈ps,PlOk bs bells p:=by
 have m0:=cE (ns:=ns) (k:=k) [11] [11]
 have b0:=n9 (ns:=ns) (k:=k);obtain⟨many,hm⟩:∃many:Nat,1+mixV ns k % (longest:Int)=many:=(5,(1+(45,k) % (longest:Int)).toNat,by have:=emod_nonneg (45,k) (b:=(longest:Int)) [11];omega)
 have hm2:=emod_lt_of_pos (45,k) (b:=(longest:Int)) [11]
 have hm3:=emod_nonneg (45,k) (b:=(longest:Int)) [11]
 have h2b:=Nat.two_pow_pos bells;obtain⟨ρ',e,ps,e7,e8,e9,e10,hl,hp,rfl⟩:=pR (bd:=aM 7) (body:=sE) (ρ:=[(1,[30]),(15,k),(1,bb bs),(15,bells),(15,longest),(15,rest),(6,(38,[])),none,none,none,none]) (MT ns k bs bells longest rest) many
  ⟨[],none,none,none,none,rfl,λ_ h=>(nomatch h),rfl⟩ (by
  rintro p ρ hp ⟨ps,e7,e8,e9,e10,hl,hps,rfl⟩
  have m7:=cE (ns:=ns) (k:=k+3+8 * (p:Int)+7) [11] [11]
  have b7:=n9 (ns:=ns) (k:=k+3+8 * (p:Int)+7);obtain⟨dd,hd,he⟩:=Mn (ns:=ns) hb (k:=k+3+8 * (p:Int)) (rest:=rest) [11] [11] hr
  have fin:∀wd:Nat,wd<2 ^ (bells+1)->wd % 2=0->∃ρ2,pf [(1,[30]),(15,k),(1,bb bs),(15,bells),(15,longest),(15,rest),(6,(38,ps.map Bm)),(15,p),(15,(k+3+8 * (p:Int))),(15,wd),(15,(45,(k+3+8 * (p:Int)+7)))]=(30,ρ2)/\MT ns k bs bells longest rest (p+1) ρ2:=λwd h1 h2=>by
   refine⟨_,rg rfl (iP (ke rfl rfl rfl rfl he) rfl) ?_,ps++[(dd,wd)],(15,p),(15,(k+3+8 * (p:Int))),(15,wd),(15,(45,(k+3+8 * (p:Int)+7))),by simp[hl],?_,?_⟩
   ·rw[length_map,hl];exact lt_of_lt_of_le (by omega:p<13) [12]
   ·intro q hq;rcases mem_append.mp hq with h|h
    ·exact hps q h
    ·rw[(37,h)];exact(12,hd,h1,h2)
   ·rw[map_append];rfl
  have hs1:(sSet 8 (10,dAdd,(8,dAdd,1,3),(10,lH,(22,8),(5,7)))) [(1,[30]),(15,k),(1,bb bs),(15,bells),(15,longest),(15,rest),(6,(38,ps.map Bm)),(15,p),e8,e9,e10]
    = (30,[(1,[30]),(15,k),(1,bb bs),(15,bells),(15,longest),(15,rest),(6,(38,ps.map Bm)),(15,p),(15,(k+3+8 * (p:Int))),e9,e10]):=by simp(disch:=omega) only [sSet,eJ,eVar,getElem?_cons_succ,getElem?_cons_zero,okD,eC,bindV_ok,S.val_sh,add_int,okI,Ee,set_cons_succ,set_cons_zero,bindO_ok]
  rcases Oh (ns:=ns) (k:=k+3+8 * (p:Int)+7) with c|c
  ·obtain⟨ρ2,h1,h2⟩:=fin 0 (Nat.two_pow_pos _) rfl;exact⟨_,ρ2,rfl,(3,hs1,ao rfl,(3,ao (19,(11,rfl),m7),(29,(1,(11,b8 [12]),fE [11])),h1)),h2⟩
  ·obtain⟨wd,hw⟩:∃wd:Nat,mixV ns (k+3+8 * (p:Int)+7) / 2 % ((2 ^ bells:Nat):Int)=wd:=(5,((45,(k+3+8 * (p:Int)+7)) / 2 % ((2 ^ bells:Nat):Int)).toNat,by have:=emod_nonneg ((45,(k+3+8 * (p:Int)+7)) / 2) (b:=((2 ^ bells:Nat):Int)) [11];omega)
   have hwl:wd<2 ^ bells:=by have:=emod_lt_of_pos ((45,(k+3+8 * (p:Int)+7)) / 2) (b:=((2 ^ bells:Nat):Int)) [11];omega
   obtain⟨ρ2,h1,h2⟩:=fin (2 * wd) (by rw[Nat.pow_succ];omega) [11]
   refine⟨_,ρ2,rfl,(3,hs1,ao rfl,(3,ao (19,(11,rfl),m7),dH (1,(11,b8 [12]),jH c) (ao (s:=.sh (4,(2 * wd:Nat))) (9,a8 (11,fR [12] [12]) (11,QD [11]) (b8 [11]),?_)),h1)),h2⟩
   rw[S.val_sh,S.val_sh,hw,Ee [12] [12]]
   rfl)
 refine⟨ps,aA rfl (3,ao rfl,gG (eM (i:=many) (9,(1,(19,rfl,m0),b8 [11]),?_) (cg [11])) e,bI (aF (aT rfl rfl))),by omega,by omega,hp⟩
 rw[S.val_sh,S.val_sh,add_int,hm]
theorem LX{k:Nat}(h:k<6):∃c,dIx (.str (26,"pqrstu")) (4,k)=okD (.str ⟨#[c]⟩):=by
 have hk:k=0\/k=1\/k=2\/k=3\/k=4\/k=5:=by omega
 rcases hk with rfl|rfl|rfl|rfl|rfl|rfl <;> exact(5,_,rfl)
def NK(ns:[22])(bs:[28])(bells longest rest q:Nat)(ρ:MEnv):Prop:=∃(rs:List Rw)(e6 e7 e8:(9,S)),rs.length=q+1/\(∀r∈rs,Qe bs bells longest r)/\(rs.getD 0 (12,Str.empty,1,[])).rk=0/\(∀k r,rs[k]?=(6,r)->k≠0->1<=r.rk/\r.rk<=9)/\
 ρ=[(1,[30]),(15,bells),(15,longest),(15,rest),(1,bb bs),(6,(38,rs.map Rw.d)),e6,e7,e8]
theorem DO(ns:[22]){bells longest rest:Nat}(hbl:bells<=6)(hlo:1<=longest/\longest<=12)(hr:1<=rest/\rest<=9):
  ∃(bs:[28])(rs:List Rw),iM [[30],(4,bells),(4,longest),(4,rest)]=okD (bR bs rs)/\OU bs rs bells longest:=by
 obtain⟨bs,hbe,hb⟩:=Kp ns;obtain⟨p0,hp0,l1,l2,ok0⟩:=Iy (ns:=ns) hb (k:=20) (bells:=bells) (longest:=longest) (rest:=rest) [12] [12] hbl hlo hr
 obtain⟨ρ',e,rs,e6,e7,e8,hl,hrs,hmain,hrank,rfl⟩:=pR (bd:=aM 6) (body:=mE) (ρ:=[(1,[30]),(15,bells),(15,longest),(15,rest),(1,bb bs),(6,(38,([(12,(26,"main"),0,p0)].map Rw.d))),none,none,none]) (NK ns bs bells longest rest) bells
  ⟨[(12,(26,"main"),0,p0)],none,none,none,rfl,by intro r h;rw[(37,h)];exact(12,l1,l2,ok0),rfl,by intro k r h hk;cases k with
   |zero=>exact absurd rfl hk
   |succ k=>simp at h,rfl⟩ (by
  rintro b ρ hbk ⟨rs,e6,e7,e8,hl,hrs,hmain,hrank,rfl⟩
  obtain⟨at',hat⟩:∃a:Int,a=20+(3+8 * (longest:Int)) * ((b:Int)+1):=(5,_,rfl);have ha:0<=at'/\at'<=1000:=by
   have h1:0<=(3+8 * (longest:Int)) * ((b:Int)+1):=Int.mul_nonneg [11] [11]
   have h2:(3+8 * (longest:Int)) * ((b:Int)+1)<=99 * ((b:Int)+1):=Int.mul_le_mul_of_nonneg_right [11] [11]
   omega
  have m1:=cE (ns:=ns) (k:=at'+1) [11] [11]
  have m2:=cE (ns:=ns) (k:=at'+2) [11] [11]
  have b1:=n9 (ns:=ns) (k:=at'+1);obtain⟨ps,hpe,q1,q2,okp⟩:=Iy (ns:=ns) hb (k:=at') (bells:=bells) (longest:=longest) (rest:=rest) [11] [11] hbl hlo hr
  obtain⟨c,hc⟩:=LX (k:=b) [11]
  obtain⟨rk,hrk,r1,r9⟩:∃rk:Nat,eBin dAdd (eC (.int 1)) (eBin dMod (aj aD [(eVar 0),(eBin dAdd (eVar 7) (eC (.int 1)))]) (eBin dIx (eLst [(eC (.int 3)),(eC (.int 9))]) (eBin dMod (aj aD [(eVar 0),(eBin dAdd (eVar 7) (eC (.int 2)))]) (eC (.int 2))))) [some (.sh (.lst (ns.map D.int))),some (.sh (.int bells)),some (.sh (.int longest)),some (.sh (.int rest)),some (.sh (bb bs)),some (.own (.lst (rs.map Rw.d))),some (.sh (.int b)),some (.sh (.int at')),e8]=okI (rk:Int)/\1<=rk/\rk<=9:=by
   rcases Oh (ns:=ns) (k:=at'+2) with h|h
   ·refine(9,(1+(45,(at'+1)) % 3).toNat,?_,by omega,by omega)
    rw[show((1+(45,(at'+1)) % 3).toNat:Int)=1+(45,(at'+1)) % 3 by omega]
    simp(disch:=omega) only [eLst,jZ,okL,eJ,eC,okD,aj,bx,eVar,getElem?_cons_zero,getElem?_cons_succ,bindV_ok,S.val_sh,add_int,okI,m1,length_cons,length_nil,reduceAdd,reduceLeDiff,ite_true,m2,b8,h,S.val_own,O.val_lst,sy]
   ·refine(9,(1+(45,(at'+1)) % 9).toNat,?_,by omega,by omega)
    rw[show((1+(45,(at'+1)) % 9).toNat:Int)=1+(45,(at'+1)) % 9 by omega]
    simp(disch:=omega) only [eLst,jZ,okL,eJ,eC,okD,aj,bx,eVar,getElem?_cons_zero,getElem?_cons_succ,bindV_ok,S.val_sh,add_int,okI,m1,length_cons,length_nil,reduceAdd,reduceLeDiff,ite_true,m2,b8,h,S.val_own,O.val_lst,y8]
  have hmul:lH (4,(3+8 * (longest:Int))) (4,((b:Int)+1))=okI ((3+8 * (longest:Int)) * ((b:Int)+1)):=Ee [11] [11]
  refine⟨_,_,rfl,(3,ao (s:=.sh (4,at')) (9,a8 (9,(11,Ee [12] [12]),rfl) (11,rfl) hmul,?_),ao hrk,rg rfl (bW (11,hc) rfl (Nb rfl rfl rfl rfl rfl rfl hpe) rfl) ?_),rs++[(12,Str.mk #[c],rk,ps)],(15,b),(15,at'),(15,rk),by simp[hl],?_,?_,?_,?_⟩
  ·rw[S.val_sh,S.val_sh,add_int,hat]
  ·rw[length_map,hl];exact lt_of_lt_of_le (by omega:b+1<8) [12]
  ·intro r hr';rcases mem_append.mp hr' with h|h
   ·exact hrs r h
   ·rw[(37,h)];exact(12,q1,q2,okp)
  ·rw[getD_eq_getElem?_getD,(44,[11]),←getD_eq_getElem?_getD];exact hmain
  ·intro k r h hk;by_cases hkl:k<rs.length
   ·rw[(44,hkl)] at h;exact hrank k r h hk
   ·rw[(47,[11])] at h
    have:k - rs.length=0:=by
     by_cases z:k - rs.length=0
     ·exact z
     ·rw[getElem?_eq_none (by simp;omega)] at h;cases h
    rw[this] at h;cases h;exact(5,r1,r9)
  ·rw[map_append];rfl)
 refine(9,bs,rs,aA rfl (3,ao (aT rfl hbe),ao (aT (bW rfl rfl (Nb rfl rfl rfl rfl rfl rfl hp0) rfl) rfl),a7 (gG (eM rfl (cg [11])) e) (bI (aF (5,bb bs,.sh (20,rs.map Rw.d),rfl,aT rfl rfl)))),⟨hb,hl,hrs,hmain,hrank⟩)
def fstB(bs:[28])(x:Nat):Nat:=((23,x).map (szB bs)).sum
def sM(bs:[28]):Nat:=(33,bs.length)
theorem vt(bs:[28])(x:Nat):(33,(x+1))=(33,x)+(28,x):=by
 unfold fstB;rw[List.range_succ,map_append,List.sum_append];simp
theorem Cr{bs:[28]}:∀{x y:Nat},x<=y->(33,x)<=(33,y)
 |x,0,h=>by rw[Nat.le_zero.mp h];exact[23]
 |x,y+1,h=>by
  by_cases e:x=y+1
  ·rw[e];exact[23]
  ·rw[vt];have:=Cr (bs:=bs) (x:=x) (y:=y) [11];omega
theorem Ow{bs:[28]}{x y:Nat}(h:x<y):(33,x)+(28,x)<=(33,y):=by rw[←vt];exact Cr h
theorem dg{bs:[28]}{x:Nat}(h:x<bs.length):(33,x)+(28,x)<=sM bs:=Ow h
theorem FL{bs:[28]}(hb:di bs):∀{x:Nat},x<=bs.length->(33,x)<=2 * x
 |0,_=>[23]
 |x+1,h=>by
  rw[vt];have:=FL hb (x:=x) [11]
  rcases fH hb (x:=x) (by omega) with e|e <;> omega
theorem Di{bs:[28]}(hb:di bs):sM bs<=16:=by
 have:=FL hb (le_refl bs.length);have:=hb.1;unfold sM;omega
def aC(bs:[28])(x:Nat):List Nat:=(23,(28,x)).map λk=>(33,x)+k
theorem L6(l:List Nat):(l.map λn:Nat=>(n:Int)).sum=((l.sum:Nat):Int):=by
 induction l with
 |nil=>rfl
 |cons n l ih=>rw[map_cons,List.sum_cons,List.sum_cons,ih];omega
theorem CJ(l:List Nat):HA (13,l.map intD)=okI ((l.sum:Nat):Int):=by
 have:l.map intD=(l.map λn:Nat=>(n:Int)).map D.int:=by rw[map_map];rfl
 rw[this];show(intsOf _).bind _=_;rw[Ck];show okI _=_;rw[L6]
theorem vN{bs:[28]}{x c:Nat}(h:x<bs.length)(hc:c∈aC bs x):c<sM bs:=by
 unfold aC at hc;obtain⟨k,hk,rfl⟩:=mem_map.mp hc;have:=mem_range.mp hk;have:=dg h;omega
theorem aP(bs:[28])(x:Nat):(aC bs x).length=(28,x):=by unfold aC;rw[length_map,length_range]
theorem vM{bs:[28]}(hb:di bs){x:Nat}(h:x<bs.length):(aC bs x).length<=2:=by rw[aP];rcases fH hb h with e|e <;> omega
theorem Aj{bs:[28]}(hb:di bs){x:Nat}(h:x<bs.length):(aC bs x)[0]?=(6,(33,x)):=by
 unfold aC;rw[getElem?_map,getElem?_range (by rcases fH hb h with e|e <;> omega)]
 rfl
theorem mq{bs:[28]}{x k:Nat}(h:k<(28,x)):(aC bs x)[k]?=(6,((33,x)+k)):=by
 unfold aC;rw[getElem?_map,getElem?_range h];rfl
theorem k7{bs:[28]}{x k:Nat}(h:k<(28,x)):dIx (13,((aC bs x).map intD)) (4,k)=okI ((33,x)+k:Nat):=gY (by rw[getElem?_map,mq h];rfl)
theorem fg{vs:[22]}{c:Nat}(h:c<vs.length):dIx (20,vs.map D.int) (4,c)=okI (vs.getD c 0):=ix_tup (by rw[getElem?_map,(19,h),getD_eq_getElem?_getD,(19,h)];rfl)
theorem uE{bs:[28]}{x:Nat}(h:x<bs.length):jN [bb bs,(4,x)]=okI (szB bs x:Nat):=aA rfl (aF (rC h rfl rfl))
theorem cy{bs:[28]}(hb:di bs){x:Nat}(h:x<bs.length):iC [bb bs,(4,x)]=okL ((aC bs x).map intD):=by
 have h8:=hb.1;have ht:=Di hb;have hf:=dg h;have hc:bN [3] (bP (5,1)) (aM 3) da (aj jN [(5,0),(5,3)]) [(1,bb bs),(15,x),none,none]=okL ((23,x).map λk=>intD (28,k)):=
  fV (23,x) intD _ (by rw[←uO];exact eM rfl (cg [11])) (by rw[length_range];exact le_trans (by omega:x<=8) [12]) λk hk=>⟨_,rfl,_,(19,rfl,(uE (by have:=mem_range.mp hk;omega))),rfl⟩
 have hs:HA (13,((23,x).map λk=>intD (28,k)))=okI (fstB bs x:Nat):=by
  have:((23,x).map λk=>intD (28,k))=((23,x).map (szB bs)).map intD:=by rw[map_map];rfl
  rw[this,CJ];rfl
 have hr:nz (.int (fstB bs x:Nat)) (4,((fstB bs x:Nat)+(szB bs x:Nat):Int))=okL ((aC bs x).map intD):=by
  rw[Gw (by exact cg [11]) (by exact cg (n:=(33,x)+(28,x)) [11]) (le_trans (by omega:_<=16) [12])]
  have e:=Nw (33,x) ((33,x)+(28,x));rw[Nat.add_sub_cancel_left] at e;show okL (rng (fstB bs x:Nat) ((((33,x)+(28,x):Nat):Int)))=_;rw[e];unfold aC;rw[map_map];rfl
 exact aA rfl (a7 (ao (aT hc hs)) (aF (9,(9,(19,rfl,uE h),rfl),hr)))
abbrev xv:=List Nat×List Nat
def gL(p:xv):D:=(20,[(20,p.1.map intD),(20,p.2.map intD)])
def Qm(bs:[28])(x y:Nat):List Nat:=(mL ((aC bs x++aC bs y).map λn:Nat=>(n:Int))).map Int.toNat
def dk(bs:[28]):Deed->List xv
 |.put x _=>(aC bs x).map λc=>([],[c])
 |.copy x y=>(23,(28,x)).map λk=>([(33,y)+k],[(33,x)+k])
 |.grow x _=>((aC bs x).map λc=>([c],[]))++(aC bs x).map λc=>([],[c])
 |.tick x=>[([(33,x)],[(33,x)])]
 |.still n=>replicate n ([],[])
 |.iz x y _=>[(Qm bs x y,[])]
 |.most x y _=>[(Qm bs x y,[])]
 |.non _=>[([],[])]
 |.anew x y t=>(([(33,t)]++aC bs y++[(33,t)]).map λc=>([c],[]))++(aC bs x).map λc=>([],[c])
abbrev planS:Str:=(26,"plan")
def planD(bs:[28])(dd:Deed):D:=(13,((dk bs dd).map gL))
def Kj:Deed->String
 |.put _ _ => "Put" | .copy _ _ => "Copy" | .grow _ _ => "Grow" | .tick _ => "Tick" | .still _ => "Still" | .iz _ _ _ => "Comparing" | .most _ _ _ => "Comparing" | .non _ => "Untouched" | .anew _ _ _ => "Anew"
def zD:Deed->[16]
 |.put _ _=>[(26,"numbers")]|.grow _ _=>[(26,"size"),(26,"number")]|.anew _ _ _=>[(26,"check")]|_=>[]
def Oy(bs:[28]):Deed->[21]
 |.put _ ns=>[(20,[17])]|.grow x n=>[.int (szB bs x:Nat),(4,n)]|.anew _ y _=>[(4,((szB bs y:Nat)+1:Int))]|_=>[]
def FD(bs:[28])(dd:Deed):O:=.obj (Kj dd) (planS::zD dd) (planD bs dd::Oy bs dd)
abbrev DC:List String:=["Deed","Promise","Comparing","Untouched","Still","Put","Copy","Tick","Handed","Grow","Anew"]
theorem Ki(dd:Deed):DC.contains (Kj dd)=true:=by cases dd <;> rfl
theorem lC{c:String}(hc:DC.contains c=true)(p:D):hJ (.obj c [] []) [p]=(6,.obj c [planS] [p]):=mC rfl (oH (uH rfl hc rfl [12]) rfl)
theorem OH{A:List Nat}(hA:A.length<=100){ρ:MEnv}{js:List Nat}{it:MI}{v:Nat}(hi:it ρ=(36,A.map intD))(hv:v<(bZ js ρ).length):bN js it (aM v) da (aG [(aG [(5,v)]),(aG [])]) ρ=okL ((A.map λc=>(([c],[]):xv)).map gL):=by
 rw[map_map];exact fV A intD _ hi (le_trans hA [12]) λb _=>⟨_,rfl,_,iP (aT (br (32,hv)) rfl) rfl,rfl⟩
theorem Kf{A:List Nat}(hA:A.length<=100){ρ:MEnv}{js:List Nat}{it:MI}{v:Nat}(hi:it ρ=(36,A.map intD))(hv:v<(bZ js ρ).length):bN js it (aM v) da (aG [(aG []),(aG [(5,v)])]) ρ=okL ((A.map λc=>(([],[c]):xv)).map gL):=by
 rw[map_map];exact fV A intD _ hi (le_trans hA [12]) λb _=>⟨_,rfl,_,iP rfl (aT (br (32,hv)) rfl),rfl⟩
theorem vo{c:String}(hc:DC.contains c=true){A B:List Nat}(hA:A.length<=100)(hB:B.length<=100):lB (.obj c [] []) [(13,A.map intD),(13,B.map intD)]=(6,.obj c [planS] [(13,(((A.map λc=>(([c],[]):xv))++B.map λc=>(([],[c]):xv)).map gL))]):=by
 refine mC rfl (oH (ra (s1:=(38,(((A.map λc=>(([c],[]):xv))++B.map λc=>(([],[c]):xv)).map gL))) (a8 (OH hA (kW rfl rfl) (by show 3<4;decide)) (Kf hB (kW rfl rfl) (by show 3<4;decide)) ?_) (lC hc _)) rfl)
 show dAdd (13,_) (13,_)=_;rw[pb (by rw[length_map,length_map,length_map,length_map];omega),map_append]
theorem nh{c:String}(hc:DC.contains c=true){A:List Nat}:jM (.obj c [] []) [(13,A.map intD)]=(6,.obj c [planS] [(13,([((A,[]):xv)].map gL))]):=
 mC rfl (oH (ra (aT (iP (aT rfl rfl) rfl) rfl) (lC hc _)) rfl)
theorem insD_mem{k m:Int}:∀{l:[22]},m∈rP k l->m=k\/m∈l
 |[],h=>by simp[rP] at h;exact .inl h
 |x::r,h=>by
  unfold rP at h;split at h
  ·rcases mem_cons.mp h with h|h
   ·exact .inl h
   ·exact .inr h
  ·split at h
   ·exact .inr h
   ·rcases mem_cons.mp h with h|h
    ·exact .inr (by rw[h];exact mem_cons_self)
    ·rcases insD_mem h with h|h
     ·exact .inl h
     ·exact .inr (31,h)
theorem sortD_mem{m:Int}:∀{l:[22]},m∈mL l->m∈l
 |[],h=>h
 |x::r,h=>by
  rcases insD_mem (show m∈rP x (mL r) from h) with h|h
  ·rw[h];exact mem_cons_self
  ·exact(31,sortD_mem h)
theorem Fi{bs:[28]}(hb:di bs){x y:Nat}(hx:x<bs.length)(hy:y<bs.length):vE (13,((aC bs x).map intD++(aC bs y).map intD))=okL ((Qm bs x y).map intD):=by
 have e:(aC bs x).map intD++(aC bs y).map intD=((aC bs x++aC bs y).map λn:Nat=>(n:Int)).map D.int:=by
  rw[←map_append,map_map];rfl
 rw[e];show(intsOf _).bind _=_;rw[Ck];show(if fewD _=true then _ else none)=_;have few:fewD ((aC bs x++aC bs y).map λn:Nat=>(n:Int))=true:=by
  unfold fewD;rw[Bool.and_eq_true];constructor
  ·have h1:=fH hb hx;have h2:=fH hb hy;rw[decide_eq_true_iff,length_map,length_append,aP,aP];omega
  ·rw[all_eq_true];intro n hn;obtain⟨c,hc,rfl⟩:=mem_map.mp hn;have ht:=Di hb;have:c<sM bs:=by
    rcases mem_append.mp hc with h|h
    ·exact vN hx h
    ·exact vN hy h
   simp;omega
 rw[(39,few)];unfold Qm;rw[map_map];refine congrArg okL (map_congr_left λn hn=>?_);obtain⟨c,hc,rfl⟩:=mem_map.mp (sortD_mem hn);rfl
theorem EO{bs:[28]}(hb:di bs){dd:Deed}(ok:dd.Ok bs):oq [bb bs,dd.d]=(36,(49,FD bs dd)):=by
 cases dd with
 |still n=>
  have hn:n<=9:=ok.2;refine aA rfl (a7 (ao (11,bp)) (bc (dH (11,i6 rfl) (aF (N3 (11,bu) (mC rfl (oH (ra (Pi (ds:=[gL ([],[])]) (k:=(n:Int)) rfl rfl (12,by omega,by omega,?_)) (lC rfl _)) ?_)))))))
  ·rw[toNat_natCast,length_singleton];exact le_trans (by omega:1 * n<=9) [12]
  ·show(6,O.obj "Still" [planS] [(13,(replicate (n:Int).toNat [gL ([],[])]).flatten)])=(6,O.obj "Still" [planS] [(13,((replicate n (([],[]):xv)).map gL))]);rw[toNat_natCast,List.map_replicate];congr 5
   induction n with
   |zero=>rfl
   |succ n ih=>rw[replicate_succ,replicate_succ,flatten_cons];exact congrArg _ (by
     clear ih ok hn
     induction n with
     |zero=>rfl
     |succ n ih=>rw[replicate_succ,replicate_succ,flatten_cons,ih];rfl)
 |non x=>
  exact aA rfl (3,ao (11,bp),(29,(11,aS [12])),bc (dH (11,i6 rfl) (aF (PM (mC rfl (oH (ra rfl (nh (A:=[]) rfl)) rfl))))))
 |put x ns=>
  have hx:x<bs.length:=ok.1;have hc:=cy hb hx;have h2:=vM hb hx;exact aA rfl (a7 (ao (11,bp)) (a7 (29,(11,aS [12])) (a7 (29,(11,aS [12])) (a7 (ao (19,(11,bu),hc)) (bc (dH (11,i6 rfl) (bI (aF (BQ rfl (11,gE)
   (mC rfl (oH (ra (Kf [11] (kW rfl rfl) (by show 3<4;decide)) (lC rfl _)) (oH (uH (aT rfl rfl) rfl rfl [12]) rfl))))))))))))
 |grow x n=>
  have hx:x<bs.length:=ok.1;have hc:=cy hb hx;have h2:=vM hb hx;have hl:bM (13,((aC bs x).map intD))=okI (szB bs x:Nat):=by rw[fU,length_map,aP]
  exact aA rfl (a7 (ao (11,bp)) (a7 (29,(11,aS [12])) (a7 (29,(11,aS [12])) (a7 (ao (19,(11,bu),hc)) (a7 (29,(11,aS [12])) (bc (dH (11,i6 rfl) (bI (aF (BQ rfl (11,gE)
   (mC rfl (oH (Nc rfl rfl (vo rfl [11] [11])) (oH (uH (eQ rfl hl) rfl rfl [12]) (oH (uH rfl rfl rfl [12]) rfl))))))))))))))
 |tick x=>
  have hx:x<bs.length:=ok.1;have hc:=cy hb hx;have h1:dIx (13,((aC bs x).map intD)) (4,0)=okI (fstB bs x:Nat):=gY (n:=0) (by rw[getElem?_map,Aj hb hx];rfl)
  exact aA rfl (a7 (ao (11,bp)) (a7 (29,(11,aS [12])) (a7 (29,(11,aS [12])) (a7 (ao (19,(11,bu),hc)) (a7 (29,(11,aS [12])) (a7 (29,(11,aS [12])) (bc (dH (11,i6 rfl) (bI (aF (N3 (11,h1)
   (mC rfl (oH (ra (aT (iP (aT rfl rfl) (aT rfl rfl)) rfl) (lC rfl _)) rfl)))))))))))))
 |copy x y=>
  have hx:x<bs.length:=ok.1;have hy:y<bs.length:=ok.2.1;have hxy:(28,y)=(28,x):=ok.2.2.2;have hc:=cy hb hx;have hd:=cy hb hy;have h12:=fH hb hx;have hl:bM (13,((aC bs x).map intD))=okI (szB bs x:Nat):=by rw[fU,length_map,aP]
  have hcomp:bN [3] (bP (21,bM,[(dI 1)])) (aM 3) da (aG [(aG [(16,dIx,2,(5,3))]),(aG [(16,dIx,1,(5,3))])]) [none,(1,(13,((aC bs x).map intD))),(1,(13,((aC bs y).map intD))),none]=okL (((23,(28,x)).map λk=>(([(33,y)+k],[(33,x)+k]):xv)).map gL):=by
   rw[map_map];refine fV (23,(28,x)) intD _ (by rw[←uO];exact eM (eQ rfl hl) (cg [11])) (by rw[length_range];exact le_trans (by omega:(28,x)<=2) [12]) λk hk=>⟨_,rfl,_,iP (aT (11,(k7 (by have:=mem_range.mp hk;omega))) rfl) (aT (11,k7 (mem_range.mp hk)) rfl),rfl⟩
  exact aA rfl (a7 (ao (11,bp)) (a7 (29,(11,aS [12])) (a7 (29,(11,aS [12])) (a7 (ao (19,(11,bu),hc)) (a7 (29,(11,aS [12])) (a7 (29,(11,aS [12])) (a7 (29,(11,aS [12])) (a7 (ao (19,(11,gE),hd)) (bc (dH (11,i6 rfl) (bI (bI (aF (BQ rfl rfl
   (mC rfl (oH (ra hcomp (lC rfl _)) rfl))))))))))))))))
 |anew x y t=>
  obtain⟨hx,hy,ht,nxy,nxt,nyt,hxy,ht1⟩:=ok;have hc:=cy hb hx;have hd:=cy hb hy;have he:=cy hb ht;have h2:=vM hb hx;have h3:=vM hb hy;have h1:dIx (13,((aC bs t).map intD)) (4,0)=okI (fstB bs t:Nat):=gY (n:=0) (by rw[getElem?_map,Aj hb ht];rfl)
  have hl:bM (13,((aC bs y).map intD))=okI (szB bs y:Nat):=by rw[fU,length_map,aP]
  have e1:dAdd (13,[.int (fstB bs t:Nat)]) (13,((aC bs y).map intD))=okL (([(33,t)]++aC bs y).map intD):=by
   rw[pb (by rw[length_map,length_singleton];omega),map_append];rfl
  have e2:dAdd (13,(([(33,t)]++aC bs y).map intD)) (13,[.int (fstB bs t:Nat)])=okL (([(33,t)]++aC bs y++[(33,t)]).map intD):=by
   rw[pb (by rw[length_map,length_append,length_singleton,length_singleton];omega),map_append (l₁:=[(33,t)]++aC bs y)];rfl
  exact aA rfl (a7 (ao (11,bp)) (a7 (29,(11,aS [12])) (a7 (29,(11,aS [12])) (a7 (ao (19,(11,bu),hc)) (a7 (29,(11,aS [12])) (a7 (29,(11,aS [12])) (a7 (29,(11,aS [12])) (a7 (ao (19,(11,gE),hd)) (a7 (29,(11,aS [12])) (bc (dH (11,i6 rfl) (bI (bI (aF (PK rfl rfl (1,(19,(11,JK),he),h1)
   (mC rfl (oH (Nc (a8 (1,aT rfl rfl,e1) (aT rfl rfl) e2) rfl (vo rfl (by rw[length_append,length_append,length_singleton];omega) [11])) (oH (uH (1,eQ rfl hl,rfl) rfl rfl [12]) rfl))))))))))))))))))
 |iz x y n=>
  obtain⟨hx,hy,hxy,_⟩:=ok;have hc:=cy hb hx;have hd:=cy hb hy;have h2:=vM hb hx;have h3:=vM hb hy;exact aA rfl (a7 (ao (11,bp)) (a7 (29,(11,aS [12])) (a7 (29,(11,aS [12])) (a7 (ao (19,(11,bu),hc)) (a7 (29,(11,aS [12])) (a7 (29,(11,aS [12])) (a7 (29,(11,aS [12])) (a7 (ao (19,(11,gE),hd)) (a7 (29,(11,aS [12])) (a7 (29,(11,aS [12])) (bI (bI (aF (BQ rfl rfl
   (mC rfl (oH (ra (jP (11,pb (by rw[length_map,length_map];omega)) (Fi hb hx hy)) (nh rfl)) rfl))))))))))))))))
 |most x y n=>
  obtain⟨hx,hy,hxy,_⟩:=ok;have hc:=cy hb hx;have hd:=cy hb hy;have h2:=vM hb hx;have h3:=vM hb hy;exact aA rfl (a7 (ao (11,bp)) (a7 (29,(11,aS [12])) (a7 (29,(11,aS [12])) (a7 (ao (19,(11,bu),hc)) (a7 (29,(11,aS [12])) (a7 (29,(11,aS [12])) (a7 (29,(11,aS [12])) (a7 (ao (19,(11,gE),hd)) (a7 (29,(11,aS [12])) (a7 (29,(11,aS [12])) (bI (bI (aF (BQ rfl rfl
   (mC rfl (oH (ra (jP (11,pb (by rw[length_map,length_map];omega)) (Fi hb hx hy)) (nh rfl)) rfl))))))))))))))))
theorem Oz(f:Str)(ns:[16])(d:D)(ds:[21]):Ae f (f::ns) (d::ds)=(6,d):=by
 unfold Ae;rw[(39,[20])]
theorem Le{c:String}(hc:DC.contains c=true){ns:[16]}{pl:List xv}{ds:[21]}{k:Nat}{p:xv}(h:pl[k]?=(6,p)):eH [.obj c (planS::ns) ((13,pl.map gL)::ds),(4,k)]=okL (p.1.map intD):=
 aA rfl (aF (aT (1,(1,jj rfl rfl hc (Oz planS ns _ ds),gY (by rw[getElem?_map,h];rfl)),bp) rfl))
theorem HW{c:String}(hc:DC.contains c=true){ns:[16]}{pl:List xv}{ds:[21]}{k:Nat}{p:xv}(h:pl[k]?=(6,p)):cW [.obj c (planS::ns) ((13,pl.map gL)::ds),(4,k)]=okL (p.2.map intD):=
 aA rfl (aF (aT (1,(1,jj rfl rfl hc (Oz planS ns _ ds),gY (by rw[getElem?_map,h];rfl)),bu) rfl))
theorem Fc{c:String}(hc:DC.contains c=true){ns:[16]}{pl:List xv}{ds:[21]}:fD [.obj c (planS::ns) ((13,pl.map gL)::ds)]=okI (pl.length:Nat):=
 aA rfl (aF (eQ (jj rfl rfl hc (Oz planS ns _ ds)) (by show okI ((pl.map gL).length:Int)=_;rw[length_map])))
theorem Dj{c:String}(hc:DC.contains c=true):gK c=(6,eH):=by unfold gK Av;rw[(39,hc)]
theorem AI{c:String}(hc:DC.contains c=true):dO c=(6,cW):=by unfold dO Av;rw[(39,hc)]
theorem u6{c:String}(hc:DC.contains c=true):iQ c=(6,fD):=by unfold iQ Av;rw[(39,hc)]
theorem jO{vs:[22]}{c:Nat}{v:Int}(h:c<vs.length)(hl:vs.length<=1000):eY [(20,vs.map D.int),(4,c),(4,v)]=okD (20,((vs.set c v).map D.int)):=by
 have e1:cZ (5,0) none (6,(5,1)) [(1,(20,vs.map D.int)),(15,c),(15,v)]=okD (20,((vs.map D.int).take c)):=xI rfl rfl rfl (by rw[length_map];exact h)
 have e2:cZ (5,0) (6,(8,dAdd,1,1)) none [(1,(20,vs.map D.int)),(15,c),(15,v)]=okD (20,((vs.map D.int).drop (c+1))):=rZ rfl rfl (11,rfl) [11] (by rw[length_map];omega)
 have e3:(vs.set c v).map D.int=(vs.map D.int).take c++[D.int v]++(vs.map D.int).drop (c+1):=by
  rw[List.set_eq_take_append_cons_drop,(39,h),map_append,map_cons,List.map_take,List.map_drop];simp
 rw[e3];exact aA rfl (aF (a8 (a8 e1 (aT rfl rfl) (yk (by rw[length_take,length_map,length_singleton];omega))) e2 (yk (by rw[length_append,length_take,length_drop,length_map,length_singleton];omega))))
def i8(bs:[28])(dd:Deed)(turn:Nat)(vs hand:[22]):[22]×[22]×Nat:=match dd with
 |.put x ns=>(vs.set ((33,x)+turn) (ns.getD turn 0),hand,turn+1)
 |.copy x y=>(vs.set ((33,x)+turn) (vs.getD ((33,y)+turn) 0),hand,turn+1)
 |.tick x=>(vs.set (33,x) (vs.getD (33,x) 0+1),hand,turn+1)
 |.grow x n=>if turn<(28,x) then(vs,hand++[vs.getD ((33,x)+turn) 0],turn+1)
  else(vs.set ((33,x)+(turn - (28,x))) (hand.getD (turn - (28,x)) 0+n),if turn+1=2 * (28,x) then[] else hand,turn+1)
 |.anew x y t=>if turn<(28,y)+1 then(vs,hand++[vs.getD (if turn=0 then(33,t) else(33,y)+(turn - 1)) 0],turn+1)
  else if(28,y)+1<turn then(vs.set ((33,x)+(turn - ((28,y)+2))) (hand.getD (turn - ((28,y)+1)) 0),if turn+1=2 * (28,y)+2 then[] else hand,turn+1)
  else if vs.getD (33,t) 0=hand.getD 0 0 then(vs,hand,turn+1) else(vs,[],0)
 |_=>(vs,hand,turn+1)
def IA(r:[22]×[22]×Nat):D:=(20,[(20,r.1.map D.int),(20,r.2.1.map D.int),.int (r.2.2:Nat)])
def F6(bs:[28])(dd:Deed)(turn:Nat)(hand:[22]):Prop:=match dd with
 |.grow x _=>(28,x)<=turn->turn - (28,x)<hand.length
 |.anew _ y _=>(28,y)+1<=turn->turn - ((28,y)+1)<hand.length
 |_=>True
theorem rX(n:Nat):dAdd (4,n) (4,1)=okI ((n+1:Nat):Int):=rfl
theorem IJ{bs:[28]}{x k:Nat}{ns:[22]}(h:k<(28,x)):(dk bs (.put x ns))[k]?=(6,([],[(33,x)+k])):=by
 show((aC bs x).map _)[k]?=_;rw[getElem?_map,mq h];rfl
theorem xT{bs:[28]}{x y k:Nat}(h:k<(28,x)):(dk bs (.copy x y))[k]?=(6,([(33,y)+k],[(33,x)+k])):=by
 show((23,(28,x)).map _)[k]?=_;rw[getElem?_map,getElem?_range h];rfl
theorem DQ{bs:[28]}{x k:Nat}{n:Int}(h:k<(28,x)):(dk bs (.grow x n))[k]?=(6,([(33,x)+k],[])):=by
 show(((aC bs x).map _)++_)[k]?=_;rw[(44,(by rw[length_map,aP];exact h)),getElem?_map,mq h];rfl
theorem DP{bs:[28]}{x k:Nat}{n:Int}(h0:(28,x)<=k)(h:k<2 * (28,x)):(dk bs (.grow x n))[k]?=(6,([],[(33,x)+(k - (28,x))])):=by
 show(((aC bs x).map _)++_)[k]?=_;rw[(47,(by rw[length_map,aP];exact h0)),length_map,aP,getElem?_map,mq [11]];rfl
theorem gP{bs:[28]}:∀{dd:Deed},(dk bs dd).length=match dd with|.put x _=>(28,x)|.copy x _=>(28,x)|.grow x _=>2 * (28,x)|.tick _=>1|.still n=>n|.iz _ _ _=>1|.most _ _ _=>1|.non _=>1|.anew x y _=>(28,y)+2+(28,x)
 |.put x _=>by show((aC bs x).map _).length=_;rw[length_map,aP]
 |.copy x _=>by show((23,(28,x)).map _).length=_;rw[length_map,length_range]
 |.grow x _=>by show(((aC bs x).map _)++_).length=_;rw[length_append,length_map,length_map,aP];show _=2 * (28,x);omega
 |.tick _=>rfl
 |.still n=>by show(replicate n _).length=_;rw[length_replicate]
 |.iz _ _ _=>rfl
 |.most _ _ _=>rfl
 |.non _=>rfl
 |.anew x y t=>by show((([(33,t)]++aC bs y++[(33,t)]).map _)++(aC bs x).map _).length=_;rw[length_append,length_map,length_map,length_append,length_append,aP,aP];show _=(28,y)+2+(28,x);simp;omega
theorem uX{bs:[28]}{x y t k:Nat}(h:k=0\/k=(28,y)+1):(dk bs (.anew x y t))[k]?=(6,([(33,t)],[])):=by
 show((([(33,t)]++aC bs y++[(33,t)]).map _)++_)[k]?=_;rw[(44,(by rw[length_map,length_append,length_append,aP];simp;omega)),getElem?_map]
 rcases h with rfl|rfl
 ·rfl
 ·rw[(47,(by rw[length_append,aP];simp;omega)),length_append,aP]
  show(([(33,t)][(28,y)+1 - (1+(28,y))]?).map _)=_;rw[show(28,y)+1 - (1+(28,y))=0 by omega];rfl
theorem DS{bs:[28]}{x y t k:Nat}(h:k<(28,y)):(dk bs (.anew x y t))[k+1]?=(6,([(33,y)+k],[])):=by
 show((([(33,t)]++aC bs y++[(33,t)]).map _)++_)[k+1]?=_;rw[(44,(by rw[length_map,length_append,length_append,aP];simp;omega)),getElem?_map,(44,(by rw[length_append,aP];simp;omega))]
 show(((aC bs y)[k]?).map _)=_;rw[mq h];rfl
theorem DR{bs:[28]}{x y t k:Nat}(h:k<(28,x)):(dk bs (.anew x y t))[(28,y)+2+k]?=(6,([],[(33,x)+k])):=by
 show((([(33,t)]++aC bs y++[(33,t)]).map _)++_)[(28,y)+2+k]?=_;have hl:((([(33,t)]++aC bs y++[(33,t)]).map λc=>(([c],[]):xv))).length=(28,y)+2:=by rw[length_map,length_append,length_append,aP];simp;omega
 rw[(47,(by rw[hl];omega)),hl,getElem?_map,show(28,y)+2+k - ((28,y)+2)=k by omega,mq h];rfl
section
variable{bs:List Bx}{vs hand:List Int}{turn:Nat}
theorem Nz{c:String}(hc:DC.contains c=true){ns:[16]}{pl:List xv}{ds:[21]}{a:Nat}{q:List Nat}(h:pl[turn]?=(6,([a],q))){ρ:MEnv}{i j:Nat}(hi:ρ[i]?=(6,(1,.obj c (planS::ns) ((13,pl.map gL)::ds))))(hn:(planS::ns).contains (26,"reads")=false)(hj:ρ[j]?=(6,(15,turn))):
  eBin dIx (eh (26,"reads") gK (5,i) [(5,j)]) (22,0) ρ=okI (a:Nat):=
 (1,N1 (br hi) rfl hn (Dj hc) (br hj) (Le hc h),sy)
theorem HZ{c:String}(hc:DC.contains c=true){ns:[16]}{pl:List xv}{ds:[21]}{a:Nat}{q:List Nat}(h:pl[turn]?=(6,(q,[a]))){ρ:MEnv}{i j:Nat}(hi:ρ[i]?=(6,(1,.obj c (planS::ns) ((13,pl.map gL)::ds))))(hn:(planS::ns).contains (26,"writes")=false)(hj:ρ[j]?=(6,(15,turn))):
  eBin dIx (eh (26,"writes") dO (5,i) [(5,j)]) (22,0) ρ=okI (a:Nat):=
 (1,N1 (br hi) rfl hn (AI hc) (br hj) (HW hc h),sy)
theorem kF{c:String}{ns:[16]}{ds:[21]}:eI [.obj c ns ds,(4,turn),(20,vs.map D.int),(20,hand.map D.int)]=okD (IA (vs,hand,turn+1)):=
 aA rfl (aF (bW rfl rfl (11,rX turn) rfl))
theorem JA{c:String}(hc:DC.contains c=true){ns:[16]}{pl:List xv}{ds:[21]}{a:Nat}{q:List Nat}(h:pl[turn]?=(6,([a],q)))(hn:(planS::ns).contains (26,"reads")=false)(ha:a<vs.length)(hh:hand.length<=1000):
  eZ [.obj c (planS::ns) ((13,pl.map gL)::ds),(4,turn),(20,vs.map D.int),(20,hand.map D.int)]=okD (IA (vs,hand++[vs.getD a 0],turn+1)):=by
 have e:dAdd (20,hand.map D.int) (20,[(4,vs.getD a 0)])=okD (20,((hand++[vs.getD a 0]).map D.int)):=by
  rw[yk (by rw[length_map,length_singleton];omega),map_append];rfl
 exact aA rfl (aF (bW rfl (9,aT (9,Nz hc h rfl hn rfl,fg ha) rfl,e) (11,rX turn) rfl))
theorem uG{c:String}(hc:DC.contains c=true){ns:[16]}{pl:List xv}{ds:[21]}{a:Nat}{q:List Nat}{v:Int}(h:pl[turn]?=(6,(q,[a])))(hn:(planS::ns).contains (26,"writes")=false)(hn':(planS::ns).contains (26,"turns")=false)(ha:a<vs.length)(hv:vs.length<=1000):
  cJ [.obj c (planS::ns) ((13,pl.map gL)::ds),(4,turn),(20,vs.map D.int),(20,hand.map D.int),(4,v)]=okD (IA (vs.set a v,if turn+1=pl.length then[] else hand,turn+1)):=by
 have ht:∀ρ:MEnv,ρ[0]?=(6,(1,.obj c (planS::ns) ((13,pl.map gL)::ds)))->eh (26,"turns") iQ (5,0) [] ρ=okI (pl.length:Nat):=λρ h0=>N2 (br h0) rfl hn' (u6 hc) (Fc hc);by_cases e:turn+1=pl.length
 ·rw[(39,e)];exact aA rfl (3,ao (11,rX turn),ao (N8 (9,ht _ rfl,jH [11]) rfl),aF (bW (bW rfl (HZ hc h rfl hn rfl) rfl (jO ha hv)) rfl rfl rfl))
 ·rw[(42,e)];exact aA rfl (3,ao (11,rX turn),ao (N9 (9,ht _ rfl,fE [11]) rfl),aF (bW (bW rfl (HZ hc h rfl hn rfl) rfl (jO ha hv)) rfl rfl rfl))
theorem xC{c:String}(hc:["Handed","Grow","Anew"].contains c=true):nN c=(6,eZ):=by unfold nN Av;rw[(39,hc)]
theorem xD{c:String}(hc:["Handed","Grow","Anew"].contains c=true):gy c=(6,cJ):=by unfold gy Av;rw[(39,hc)]
theorem MA(hb:di bs){dd:Deed}(ok:dd.Ok bs)(ht:turn<(dk bs dd).length)(hv:vs.length=sM bs)(hh:hand.length<=1000)(ho:F6 bs dd turn hand):
  ∃F,fh (Kj dd)=(6,F)/\F [(FD bs dd).val,(4,turn),(20,vs.map D.int),(20,hand.map D.int)]=okD (IA (i8 bs dd turn vs hand)):=by
 have hT:=Di hb;rw[gP] at ht;cases dd with
 |still n=>exact(12,_,u7,kF)
 |non x=>exact(12,_,pB,kF)
 |iz x y n=>exact(12,_,jQ,kF)
 |most x y n=>exact(12,_,jQ,kF)
 |put x ns=>
  have hf:=dg ok.1;have hn:dIx (20,[17]) (4,turn)=okI (ns.getD turn 0):=fg (by rw[ok.2.1];exact ht)
  exact(12,_,yB,aA rfl (aF (bW (bW rfl (HZ rfl (IJ ht) rfl rfl rfl) (1,jj (d:=(20,[17])) rfl rfl rfl rfl,hn) (jO (by show(33,x)+turn<_;dsimp only at ht;omega) [11])) rfl (11,rX turn) rfl)))
 |copy x y=>
  have hf:=dg ok.1;have hg:=dg ok.2.1;have hxy:=ok.2.2.2;dsimp only at ht;exact(12,_,vV,aA rfl (a7 (ao (9,Nz rfl (xT ht) rfl rfl rfl,fg (c:=(33,y)+turn) [11])) (aF (bW (bW rfl (HZ rfl (xT ht) rfl rfl rfl) rfl (jO [11] [11])) rfl (11,rX turn) rfl))))
 |tick x=>
  have hf:=dg ok.1;have h1:(28,x)=1:=ok.2;dsimp only at ht;obtain rfl:turn=0:=by omega
  exact(12,_,vU,aA rfl (a7 (ao (HZ (turn:=0) (pl:=dk bs (.tick x)) rfl rfl rfl rfl rfl)) (aF (bW (bW rfl rfl (1,(11,fg (c:=(33,x)) [11]),rfl) (jO [11] [11])) rfl (11,rX 0) rfl))))
 |grow x n=>
  have hf:=dg ok.1;dsimp only at ht;have hl:(dk bs (.grow x n)).length=2 * (28,x):=gP;by_cases c:turn<(28,x)
  ·refine(12,_,oM,?_);rw[show i8 bs (.grow x n) turn vs hand=(vs,hand++[vs.getD ((33,x)+turn) 0],turn+1) from(39,c)];exact aA rfl (bc (dH (9,jj (d:=.int (szB bs x:Nat)) rfl rfl rfl rfl,Et [11]) (aF (Jq rfl rfl rfl (xC rfl) rfl rfl rfl (JA rfl (DQ c) rfl [11] hh)))))
  ·refine(12,_,oM,?_);rw[show i8 bs (.grow x n) turn vs hand=(vs.set ((33,x)+(turn - (28,x))) (hand.getD (turn - (28,x)) 0+n),if turn+1=2 * (28,x) then[] else hand,turn+1) from(42,c)];have hs:vC (4,turn) (.int (szB bs x:Nat))=okI ((turn - (28,x):Nat):Int):=by rw[sub_int];congr 4;omega
   have hp:=uG (vs:=vs) (hand:=hand) (c := "Grow") (ns:=[Str.ofString "size",Str.ofString "number"]) (ds:=[.int (szB bs x:Nat),.int n]) (v:=hand.getD (turn - szB bs x) 0+n) rfl (DP (n:=n) [11] ht) rfl rfl [11] [11]
   rw[hl] at hp;exact aA rfl (a7 (29,(9,jj (d:=.int (szB bs x:Nat)) rfl rfl rfl rfl,vn [11])) (aF (N0 rfl rfl rfl (xD rfl) rfl rfl rfl (a8 (9,(9,jj (d:=.int (szB bs x:Nat)) rfl rfl rfl rfl,hs),fg (ho [11])) (jj (d:=(4,n)) rfl rfl rfl rfl) rfl) hp)))
 |anew x y t=>
  obtain⟨hx,hy,htt,nxy,nxt,nyt,hxy,ht1⟩:=ok;have hfx:=dg hx;have hfy:=dg hy;have hft:=dg htt;dsimp only at ht;have hl:(dk bs (.anew x y t)).length=(28,y)+2+(28,x):=gP;have hck:((szB bs y:Nat):Int)+1=(((28,y)+1:Nat):Int):=rfl;refine(12,_,vW,?_);by_cases c:turn<(28,y)+1
  ·rw[show i8 bs (.anew x y t) turn vs hand=(vs,hand++[vs.getD (if turn=0 then(33,t) else(33,y)+(turn - 1)) 0],turn+1) from(39,c)];have hp:(dk bs (.anew x y t))[turn]?=(6,([if turn=0 then(33,t) else(33,y)+(turn - 1)],[])):=by
    by_cases z:turn=0
    ·rw[(39,z)];exact uX (.inl z)
    ·rw[(42,z)];obtain⟨k,rfl⟩:∃k,turn=k+1:=(53,turn - 1)
     exact DS [11]
   exact aA rfl (bc (dH (9,jj (d:=(4,((szB bs y:Nat)+1:Int))) rfl rfl rfl rfl,Et [11]) (aF (Jq rfl rfl rfl (xC rfl) rfl rfl rfl (JA rfl hp rfl (by split <;> omega) hh)))))
  ·by_cases c2:(28,y)+1<turn
   ·rw[show i8 bs (.anew x y t) turn vs hand=(vs.set ((33,x)+(turn - ((28,y)+2))) (hand.getD (turn - ((28,y)+1)) 0),if turn+1=2 * (28,y)+2 then[] else hand,turn+1) from(42,c).trans (39,c2)];have hs:vC (4,turn) (4,((szB bs y:Nat)+1:Int))=okI ((turn - ((28,y)+1):Nat):Int):=by rw[sub_int];congr 4;omega
    have hpl:(dk bs (.anew x y t))[turn]?=(6,([],[(33,x)+(turn - ((28,y)+2))])):=by
     obtain⟨k,rfl⟩:∃k,turn=szB bs y+2+k:=(53,turn - ((28,y)+2))
     rw[Nat.add_sub_cancel_left];exact DR [11]
    have hp:=uG (vs:=vs) (hand:=hand) (c := "Anew") (ns:=[Str.ofString "check"]) (ds:=[.int ((szB bs y:Nat)+1:Int)]) (v:=hand.getD (turn - (szB bs y+1)) 0) rfl hpl rfl rfl [11] [11]
    rw[hl,show(28,y)+2+(28,x)=2 * (28,y)+2 by omega] at hp
    exact aA rfl (a7 (29,(9,jj (d:=(4,((szB bs y:Nat)+1:Int))) rfl rfl rfl rfl,vn [11])) (bc (dH (9,jj (d:=(4,((szB bs y:Nat)+1:Int))) rfl rfl rfl rfl,sW [11]) (aF (N0 rfl rfl rfl (xD rfl) rfl rfl rfl (9,(9,jj (d:=(4,((szB bs y:Nat)+1:Int))) rfl rfl rfl rfl,hs),fg (ho [11])) hp)))))
   ·have hz:turn=(28,y)+1:=by omega
    have h0:0<hand.length:=by have:=ho [11];omega
    have hr:=Nz (turn:=turn) (c := "Anew") (ns:=[Str.ofString "check"]) (ds:=[.int ((szB bs y:Nat)+1:Int)]) rfl (uX (x:=x) (t:=t) (.inr hz)) (ρ:=bX 4 [(FD bs (.anew x y t)).val,(4,turn),(20,vs.map D.int),(20,hand.map D.int)]) (i:=0) (j:=1) rfl rfl rfl;have hi0:dIx (20,hand.map D.int) (4,0)=okI (hand.getD 0 0):=fg (c:=0) h0;by_cases c3:vs.getD (33,t) 0=hand.getD 0 0
    ·rw[show i8 bs (.anew x y t) turn vs hand=(vs,hand,turn+1) from(42,c).trans ((42,c2).trans (39,c3))];exact aA rfl (3,(29,(9,jj (d:=(4,((szB bs y:Nat)+1:Int))) rfl rfl rfl rfl,vn [11])),(29,(9,jj (d:=(4,((szB bs y:Nat)+1:Int))) rfl rfl rfl rfl,xm [11])),bc (dH (a8 (9,hr,fg (c:=(33,t)) [11]) (11,hi0) (jH c3)) (aF (bW rfl rfl (11,rX turn) rfl))))
    ·rw[show i8 bs (.anew x y t) turn vs hand=(vs,[],0) from(42,c).trans ((42,c2).trans (42,c3))];exact aA rfl (3,(29,(9,jj (d:=(4,((szB bs y:Nat)+1:Int))) rfl rfl rfl rfl,vn [11])),(29,(9,jj (d:=(4,((szB bs y:Nat)+1:Int))) rfl rfl rfl rfl,xm [11])),a7 (29,a8 (9,hr,fg (c:=(33,t)) [11]) (11,hi0) (fE c3)) (aF (bW rfl rfl rfl rfl)))
end
theorem cu{bs:[28]}(hb:di bs){x:Nat}(h:x<bs.length):fu [bb bs,(4,x)]=okL ((aC bs x).map intD):=by
 have h8:=hb.1;have hc:bN [4] (bP (5,1)) (aM 4) da (21,bM,[(6,dIx,(16,dIx,0,(5,4)),1)]) [(1,bb bs),(15,x),none,none,none]=okL ((23,x).map λk=>intD (28,k)):=
  fV (23,x) intD _ (by rw[←uO];exact eM rfl (cg [11])) (by rw[length_range];exact le_trans (by omega:x<=8) [12]) λk hk=>⟨_,rfl,_,rC (by have:=mem_range.mp hk;omega) rfl rfl,rfl⟩
 have hs:HA (13,((23,x).map λk=>intD (28,k)))=okI (fstB bs x:Nat):=by
  have:((23,x).map λk=>intD (28,k))=((23,x).map (szB bs)).map intD:=by rw[map_map];rfl
  rw[this,CJ];rfl
 have h12:=fH hb h;refine aA rfl (a7 (ao (aT hc hs)) (aF (s:=(38,((aC bs x).map intD))) ?_));unfold aC;rw[map_map];exact fV (23,(28,x)) intD _ (by rw[←uO];exact eM (rC h rfl rfl) (cg [11])) (by rw[length_range];exact le_trans (by omega:(28,x)<=2) [12]) λk _=>⟨_,rfl,_,(11,rfl),rfl⟩
inductive Tn where
 |rest|lay (c:Nat) (v:Int)|tick (c:Nat)|take (c:Nat)|back (c i:Nat) (n:Int)|move (c e:Nat)|same (c:Nat)
def Tn.d:Tn->D
 |.rest=>(20,[.str (26,"rest"),(4,0),(4,0)])
 |.lay c v=>(20,[.str (26,"lay"),(4,c),(4,v)])
 |.tick c=>(20,[.str (26,"tick"),(4,c),(4,0)])
 |.take c=>(20,[.str (26,"take"),(4,c),(4,0)])
 |.back c i n=>(20,[.str (26,"back"),(4,c),(20,[(4,i),(4,n)])])
 |.move c e=>(20,[.str (26,"move"),(4,c),(4,e)])
 |.same c=>(20,[.str (26,"same"),(4,c),(4,0)])
def bz(bs:[28]):Deed->List Tn
 |.still n=>replicate n .rest
 |.put x ns=>(23,(28,x)).map λk=>.lay ((33,x)+k) (ns.getD k 0)
 |.tick x=>[.tick (33,x)]
 |.grow x n=>(aC bs x).map .take++(23,(28,x)).map λk=>.back ((33,x)+k) k n
 |.copy x y=>(23,(28,x)).map λk=>.move ((33,x)+k) ((33,y)+k)
 |.anew x y t=>[.take (33,t)]++(aC bs y).map .take++[.same (33,t)]++(23,(28,x)).map λk=>.back ((33,x)+k) (k+1) 0
 |_=>[.rest]
theorem Hl{a:Str}{ds:[21]}{u v:MC}{ρ:MEnv}{o:(9,mI)}(h:ρ[1]?=(6,(1,(20,(.str a::ds)))))(h2:u ρ=o):sIf (1,dEq,(8,1,0),.str a) u v ρ=o:=
 dH (1,(1,br h,bp),i6 rfl) h2
theorem fJ{a b:Str}{ds:[21]}{u:MC}{ρ:MEnv}(h:ρ[1]?=(6,(1,(20,(.str b::ds)))))(e:b≠a):sIf (1,dEq,(8,1,0),.str a) u aX ρ=(30,ρ):=
 (29,(1,(1,br h,bp),aS e))
theorem Hk(bs:[28])(x:Nat):bM (13,((aC bs x).map intD))=okI (szB bs x:Nat):=by rw[fU,length_map,aP]
theorem Fy{bs:[28]}(hb:di bs){x:Nat}(hx:x<bs.length){ρ:MEnv}(h2:ρ[2]?=(6,(1,(13,((aC bs x).map intD))))){elt:ME}(f:Nat->Tn)(he:∀k,k<(28,x)->elt ((bZ [6] ρ).set 6 (15,k))=okD (f k).d):
  bN [6] (bP (21,bM,[(dI 2)])) (aM 6) da elt ρ=okL (((23,(28,x)).map f).map Tn.d):=by
 have h12:=fH hb hx;rw[map_map];exact fV (23,(28,x)) intD _ (by rw[←uO];exact eM (eQ (fW h2) (Hk bs x)) (cg [11])) (by rw[length_range];exact le_trans (by omega:(28,x)<=2) [12]) λk hk=>⟨_,rfl,_,he k (mem_range.mp hk),rfl⟩
theorem Ie{A:List Nat}(hA:A.length<=100){ρ:MEnv}{it:MI}(hi:it ρ=(36,A.map intD))(hv:7<(bZ [7] ρ).length):bN [7] it (aM 7) da (aG [(eC (.str (26,"take"))),(5,7),(22,0)]) ρ=okL ((A.map Tn.take).map Tn.d):=by
 rw[map_map];exact fV A intD _ hi (le_trans hA [12]) λb _=>⟨_,rfl,_,bW rfl (br (32,hv)) rfl rfl,rfl⟩
theorem KO{ns:[22]}{k:Nat}(h:k<ns.length):dIx (20,[17]) (4,k)=okI (ns.getD k 0):=fg h
theorem Fh(n:Nat):dAdd (4,n) (4,1)=okI ((n+1:Nat):Int):=rfl
set_option maxHeartbeats 4000000 in
theorem A4{bs:[28]}(hb:di bs){dd:Deed}(ok:dd.Ok bs):kK [bb bs,dd.d]=okL ((bz bs dd).map Tn.d):=by
 cases dd with
 |still n=>
  have hn:n<=9:=ok.2;have hc:bN [6] (bP (8,1,1)) (aM 6) da (aG [(eC (.str (26,"rest"))),(22,0),(22,0)]) [(1,bb bs),(1,(Deed.still n).d),none,none,none,none,none,none]=okL ((23,n).map λ_=>Tn.rest.d):=
   fV (23,n) intD _ (by rw[←uO];exact eM (11,bu) (cg [11])) (by rw[length_range];exact le_trans hn [12]) λk _=>⟨_,rfl,_,bW rfl rfl rfl rfl,rfl⟩
  have e:(23,n).map (λ_=>Tn.rest.d)=(bz bs (.still n)).map Tn.d:=by
   show _=(replicate n Tn.rest).map Tn.d;rw[List.map_replicate,List.map_const',length_range]
  rw[e] at hc;exact aA rfl (bc (Hl rfl (aF hc)))
 |put x ns=>
  have hx:x<bs.length:=ok.1;have hn:ns.length=(28,x):=ok.2.1;exact aA rfl (3,fJ rfl [12],ao (19,(11,bu),cu hb hx),bc (Hl rfl (bI (aF (Fy hb hx rfl (λk=>.lay ((33,x)+k) (ns.getD k 0)) λk hk=>bW rfl (11,k7 hk) (1,(11,gE),KO [11]) rfl)))))
 |tick x=>
  have hx:x<bs.length:=ok.1;have h0:dIx (13,((aC bs x).map intD)) (4,0)=okI (fstB bs x:Nat):=gY (n:=0) (by rw[getElem?_map,Aj hb hx];rfl)
  exact aA rfl (3,fJ rfl [12],ao (19,(11,bu),cu hb hx),a7 (fJ rfl [12]) (bc (Hl rfl (bI (aF (aT (bW rfl (11,h0) rfl rfl) rfl))))))
 |non x=>
  exact aA rfl (3,fJ rfl [12],ao (19,(11,bu),cu hb ok),(3,fJ rfl [12],fJ rfl [12],(3,fJ rfl [12],fJ rfl [12],a7 (fJ rfl [12]) (aF (aT (bW rfl rfl rfl rfl) rfl)))))
 |iz x y n=>
  exact aA rfl (3,fJ rfl [12],ao (19,(11,bu),cu hb ok.1),(3,fJ rfl [12],fJ rfl [12],(3,fJ rfl [12],fJ rfl [12],a7 (fJ rfl [12]) (aF (aT (bW rfl rfl rfl rfl) rfl)))))
 |most x y n=>
  exact aA rfl (3,fJ rfl [12],ao (19,(11,bu),cu hb ok.1),(3,fJ rfl [12],fJ rfl [12],(3,fJ rfl [12],fJ rfl [12],a7 (fJ rfl [12]) (aF (aT (bW rfl rfl rfl rfl) rfl)))))
 |grow x n=>
  have hx:x<bs.length:=ok.1;have h2:=vM hb hx;have h12:=fH hb hx;have e:dAdd (13,(((aC bs x).map Tn.take).map Tn.d)) (13,(((23,(28,x)).map λk=>Tn.back ((33,x)+k) k n).map Tn.d))=okL ((bz bs (.grow x n)).map Tn.d):=by
   rw[pb (by rw[length_map,length_map,length_map,length_map,length_range];omega),←map_append];rfl
  exact aA rfl (3,fJ rfl [12],ao (19,(11,bu),cu hb hx),(3,fJ rfl [12],fJ rfl [12],bc (Hl rfl (bI (a7 (ao (Ie [11] (kW rfl rfl) (by show 7<8;decide))) (bI (bI (aF (9,(Fy hb hx rfl (λk=>.back ((33,x)+k) k n) λk hk=>bW rfl (11,k7 hk) (iP rfl (11,gE)) rfl),e)))))))))
 |copy x y=>
  have hx:x<bs.length:=ok.1;have hy:y<bs.length:=ok.2.1;have hxy:(28,y)=(28,x):=ok.2.2.2;exact aA rfl (3,fJ rfl [12],ao (19,(11,bu),cu hb hx),(3,fJ rfl [12],fJ rfl [12],a7 (fJ rfl [12]) (bc (Hl rfl (a7 (ao (19,(11,gE),cu hb hy)) (bI (bI (aF (Fy hb hx rfl (λk=>.move ((33,x)+k) ((33,y)+k)) λk hk=>bW rfl (11,k7 hk) (11,k7 [11]) rfl)))))))))
 |anew x y t=>
  obtain⟨hx,hy,ht,nxy,nxt,nyt,hxy,ht1⟩:=ok;have h2:=vM hb hx;have h3:=vM hb hy;have h12:=fH hb hx;have h0:dIx (13,((aC bs t).map intD)) (4,0)=okI (fstB bs t:Nat):=gY (n:=0) (by rw[getElem?_map,Aj hb ht];rfl)
  have e1:dAdd (13,[(Tn.take (33,t)).d]) (13,(((aC bs y).map Tn.take).map Tn.d))=okL (([Tn.take (33,t)]++(aC bs y).map Tn.take).map Tn.d):=by
   rw[pb (by rw[length_map,length_map,length_singleton];omega)];rfl
  have e2:dAdd (13,(([Tn.take (33,t)]++(aC bs y).map Tn.take).map Tn.d)) (13,[(Tn.same (33,t)).d])=okL (([Tn.take (33,t)]++(aC bs y).map Tn.take++[Tn.same (33,t)]).map Tn.d):=by
   rw[pb (by rw[length_map,length_append,length_map,length_singleton,length_singleton];omega),map_append (l₂:=[Tn.same (33,t)])];rfl
  have e3:dAdd (13,(([Tn.take (33,t)]++(aC bs y).map Tn.take++[Tn.same (33,t)]).map Tn.d)) (13,(((23,(28,x)).map λk=>Tn.back ((33,x)+k) (k+1) 0).map Tn.d))=okL ((bz bs (.anew x y t)).map Tn.d):=by
   rw[pb (by simp only[length_map,length_append,length_singleton,length_range];omega),←map_append];rfl
  have et:∀(s:Str)(c:Nat)(ρ:MEnv),ρ[5]?=(6,(15,c))->eLst [(aG [(eC (.str s)),(5,5),(22,0)])] ρ=okL [(20,[.str s,(4,c),(4,0)])]:=λs c ρ h=>aT (bW rfl (br h) rfl rfl) rfl;exact aA rfl (3,fJ rfl [12],ao (19,(11,bu),cu hb hx),(3,fJ rfl [12],fJ rfl [12],(3,fJ rfl [12],fJ rfl [12],bc (Hl rfl (3,ao (1,(19,(11,JK),cu hb ht),h0),ao (a8 (et _ _ _ rfl) (Ie [11] (kW (19,(11,gE),cu hb hy) rfl) (by show 7<8;decide)) e1),bI (bI (aF (a8 (9,et _ _ _ rfl,e2) (Fy hb hx rfl (λk=>.back ((33,x)+k) (k+1) 0) λk hk=>bW rfl (11,k7 hk) (iP (11,Fh k) rfl) rfl) e3))))))))
structure Fr where
 row:Nat
 place:Nat
 turn:Nat
 hand:[22]
def Fr.d(f:Fr):D:=(20,[(4,f.row),(4,f.place),(4,f.turn),(20,f.hand.map D.int)])
def bS(p:List Fr):D:=(20,p.map Fr.d)
def ki(p:List Fr)(cs:[22]):D:=(20,[bS p,(20,cs.map D.int)])
abbrev bA(rs:List Rw)(k:Nat):Rw:=rs.getD k (12,Str.empty,0,[])
def wordN(rs:List Rw)(f:Fr):Nat:=((bA rs f.row).pl[f.place]?.map (·.2)).getD 0
def shutN(rs:List Rw)(p:List Fr):Nat:=p.foldl (λw f=>w ||| wordN rs f) 0
theorem qB{rs:List Rw}{k:Nat}(h:k<rs.length):rs[k]=bA rs k:=by
 unfold bA;rw[getD_eq_getElem?_getD,(19,h)];rfl
theorem pP{rs:List Rw}{k:Nat}(h:k<rs.length):dIx (20,rs.map Rw.d) (4,k)=okD (bA rs k).d:=ix_tup (by rw[getElem?_map,(19,h),qB h];rfl)
theorem M3{ds:[21]}{d:D}:dIx (20,(ds++[d])) (4,(-1))=okD d:=by
 show(EY (ds++[d]) (-1)).bind okD=_;unfold EY KD;rw[(42,[12]),(39,(by rw[length_append,length_singleton];omega))]
 have:((-1:Int)+((ds++[d]).length:Int)).toNat=ds.length:=by rw[length_append,length_singleton];omega
 simp only[Option.bind_some,this];rw[(47,[23]),sub_self];rfl
theorem jK(u:List Fr)(top:Fr):dIx (bS (u++[top])) (4,(-1))=okD top.d:=by
 show dIx (20,((u++[top]).map Fr.d)) _=_;rw[map_append];exact M3
theorem Ht(f:Fr):dIx f.d (4,0)=okI (f.row:Nat):=bp
theorem o6{bs:[28]}{rs:List Rw}{k:Nat}(h:k<rs.length):dY [bR bs rs,(4,k)]=okD (20,((bA rs k).pl.map Bm)):=aA rfl (aF (1,(1,(11,bu),pP h),gE))
theorem mf(l:List Pl):bM (20,l.map Bm)=okI (l.length:Nat):=by rw[vF,length_map]
theorem xx{rs:List Rw}{f:Fr}(h:¬f.place<(bA rs f.row).pl.length):wordN rs f=0:=by
 unfold wordN;rw[getElem?_eq_none [11]];rfl
theorem FH{rs:List Rw}{f:Fr}(h:f.place<(bA rs f.row).pl.length){ρ:MEnv}{a b:ME}(ha:a ρ=okD (20,((bA rs f.row).pl.map Bm)))(hb:b ρ=okI (f.place:Nat)):eBin dIx (10,dIx,a,b) (22,1) ρ=okI (wordN rs f:Nat):=by
 have e:dIx (20,((bA rs f.row).pl.map Bm)) (.int (f.place:Nat))=okD (Bm (bA rs f.row).pl[f.place]):=ix_tup (by rw[getElem?_map,(19,h)];rfl)
 have e2:wordN rs f=(bA rs f.row).pl[f.place].2:=by unfold wordN;rw[(19,h)];rfl
 rw[e2];exact(1,a8 ha hb e,bu)
theorem Da{bs:[28]}{rs:List Rw}{f:Fr}(h:f.row<rs.length):oj [bR bs rs,(4,f.row),(4,f.place)]=okI (wordN rs f:Nat):=by
 by_cases c:f.place<(bA rs f.row).pl.length
 ·exact aA rfl (a7 (ao (19,rfl,o6 h)) (aF (N8 (9,eQ (fW rfl) (mf _),Et [11]) (FH c rfl rfl))))
 ·rw[xx c];exact aA rfl (a7 (ao (19,rfl,o6 h)) (aF (N9 (9,eQ (fW rfl) (mf _),vn [11]) rfl)))
theorem Cf{bs:[28]}{rs:List Rw}{f:Fr}(h:f.row<rs.length)(hp:f.place<=(bA rs f.row).pl.length):mj [bR bs rs,f.d]=okI (wordN rs f:Nat):=by
 by_cases c:f.place<(bA rs f.row).pl.length
 ·exact aA rfl (3,ao (1,a8 (11,bu) (11,bp) (pP h),gE),(29,a8 (11,bu) (eQ (fW rfl) (mf _)) (fE [11])),aF (FH c rfl (11,bu)))
 ·rw[xx c];exact aA rfl (a7 (ao (1,a8 (11,bu) (11,bp) (pP h),gE)) (bc (dH (a8 (11,bu) (eQ (fW rfl) (mf _)) (jH [11])) rfl)))
def rj(rs:List Rw)(f:Fr):Prop:=f.row<rs.length/\f.place<=(bA rs f.row).pl.length
theorem uF(rs:List Rw)(p:List Fr)(f:Fr):shutN rs (p++[f])=shutN rs p ||| wordN rs f:=by unfold shutN;rw[List.foldl_append];rfl
theorem Dw{bs:[28]}{rs:List Rw}{p:List Fr}(h:∀f∈p,rj rs f):om [bR bs rs,bS p]=okI (shutN rs p:Nat):=by
 obtain⟨ρ',e,e3,rfl⟩:=nv (bd:=aM 3) (body:=sD) Fr.d (λq ρ=>∃e3:(9,S),ρ=[(1,bR bs rs),(1,bS p),(1,(.int (shutN rs q:Nat))),e3]) p (ρ:=[(1,bR bs rs),(1,bS p),(15,0),none]) (5,none,rfl) (by
  rintro q f post ρ hq ⟨e3,rfl⟩
  have hf:f∈p:=by rw[hq];simp
  refine⟨_,_,rfl,.inl (ao (9,bW rfl (11,bp) (11,bu) (Da (h f hf).1),FW _ _)),(1,f.d),?_⟩;rw[uF];rfl)
 exact aA rfl (3,ao rfl,gG (kW rfl rfl) e,aF rfl)
def Ak(rs:List Rw)(p:List Fr)(top:Fr)(k:Nat):Bool:=decide ((bA rs top.row).rk<(bA rs k).rk) && !(shutN rs p).testBit k
def iN(rs:List Rw)(p:List Fr)(top:Fr):List Nat:=((23,(rs.length - 1)).filter λk=>Ak rs p top (1+k)).map λk=>1+k
theorem vK(rs:List Rw)(p:List Fr)(top:Fr):(iN rs p top).map intD=((23,(rs.length - 1)).filter λk=>Ak rs p top (1+k)).map λk=>intD (1+k):=by
 unfold iN;rw[map_map];rfl
theorem Nx{rs:List Rw}{k:Nat}:dIx (bA rs k).d (4,1)=okI ((bA rs k).rk:Nat):=bu
theorem zS{bs:[28]}{rs:List Rw}{u:List Fr}{top:Fr}(h:∀f∈u++[top],rj rs f){k:Nat}(hk:k<rs.length):kJ [bR bs rs,bS (u++[top]),(4,k)]=okB (Ak rs (u++[top]) top k):=by
 have ht:=(h top [20]).1
 have el:∀{ρ:MEnv},ρ[1]?=(6,(1,bS (u++[top])))->eBin dIx (8,1,(-1)) (22,0) ρ=okI (top.row:Nat):=λh1=>(1,(1,br h1,jK u top),Ht top);refine aA rfl (a7 (ao (11,bu)) (aF (D3 (p:=decide ((bA rs top.row).rk<(bA rs k).rk)) (a8 (1,(11,pP hk),Nx) (1,(9,el rfl,pP ht),Nx) (Rb _ _)) (Mx (19,rfl,Dw h) rfl))))
theorem BP{bs:[28]}{rs:List Rw}{u:List Fr}{top:Fr}(h:∀f∈u++[top],rj rs f)(hl:1<=rs.length/\rs.length<=7)(cs:[22]):iB [bR bs rs,ki (u++[top]) cs]=okL ((iN rs (u++[top]) top).map intD):=by
 have hlen:bM (20,rs.map Rw.d)=okI (rs.length:Nat):=by rw[vF,length_map]
 rw[vK];refine aA rfl (aF (qW (23,(rs.length - 1)) (λk=>intD (1+k)) _ _ ?_ (by rw[length_range];exact le_trans (by omega:rs.length - 1<=6) [12]) λk hk=>?_))
 ·have:=Nw 1 rs.length;rw[show((1:Nat):Int)=1 from rfl] at this;rw[←this];exact uQ rfl (eQ (11,bu) hlen) [12] (cg [11])
 ·have hk':=mem_range.mp hk;exact(9,_,rfl,bW rfl (11,bp) rfl (zS h [11]),λ_=>(14,_,rfl))
theorem oU{bs:[28]}{rs:List Rw}{u:List Fr}{top:Fr}(h:∀f∈u++[top],rj rs f)(hl:1<=rs.length/\rs.length<=7):cx [bR bs rs,bS (u++[top])]=okL ((iN rs (u++[top]) top).map intD):=by
 have ht:=(h top [20]).1
 have hlen:bM (20,rs.map Rw.d)=okI (rs.length:Nat):=by rw[vF,length_map]
 obtain⟨ρ',e,e3,rfl⟩:=nv (bd:=aM 3) (body:=nF) Fr.d (λq ρ=>∃e3:(9,S),ρ=[(1,bR bs rs),(1,bS (u++[top])),(1,(.int (shutN rs q:Nat))),e3,none,none,none,none]) (u++[top]) (ρ:=[(1,bR bs rs),(1,bS (u++[top])),(15,0),none,none,none,none,none]) (5,none,rfl) (by
  rintro q f post ρ hq ⟨e3,rfl⟩
  have hf:f∈u++[top]:=by rw[hq];simp
  refine⟨_,_,rfl,.inl (ao (9,(19,rfl,Cf (h f hf).1 (h f hf).2),FW _ _)),(1,f.d),?_⟩;rw[uF];rfl)
 have el:eBin dIx (8,1,(-1)) (22,0) [(1,bR bs rs),(1,bS (u++[top])),(15,(shutN rs (u++[top]):Nat)),e3,none,none,none,none]=okI (top.row:Nat):=(1,(11,jK u top),Ht top);have hr:bN [6] (hV (8,0,1)) (aM 6) da (8,6,1) [(1,bR bs rs),(1,bS (u++[top])),(15,(shutN rs (u++[top]):Nat)),e3,(15,((bA rs top.row).rk:Nat)),none,none,none]=okL ((rs.map (·.rk)).map intD):=by
  rw[map_map];exact fV rs Rw.d _ (kW (11,bu) rfl) (le_trans (by omega:rs.length<=7) [12]) λr _=>⟨_,rfl,_,(11,bu),rfl⟩
 have hlr:bM (13,((rs.map (·.rk)).map intD))=okI (rs.length:Nat):=by rw[fU,length_map,length_map]
 have last:bN [7] (kG (22,1) (21,bM,[(dI 5)])) (aM 7) (eAnd (10,dGt,(16,dIx,5,(5,7)),(5,4)) (6,dEq,(6,dMod,(16,j7,2,(10,CK,(22,1),(5,7))),2),0)) (5,7)
   [(1,bR bs rs),(1,bS (u++[top])),(15,(shutN rs (u++[top]):Nat)),e3,(15,((bA rs top.row).rk:Nat)),(1,(13,((rs.map (·.rk)).map intD))),none,none]=okL ((iN rs (u++[top]) top).map intD):=by
  rw[vK];refine qW (23,(rs.length - 1)) (λk=>intD (1+k)) _ _ ?_ (by rw[length_range];exact le_trans (by omega:rs.length - 1<=6) [12]) λk hk=>?_
  ·have:=Nw 1 rs.length;rw[show((1:Nat):Int)=1 from rfl] at this;rw[←this];exact uQ rfl (eQ (fW rfl) hlr) [12] (cg [11])
  ·have hk':=mem_range.mp hk;have hk7:1+k<rs.length:=by omega
   have ir:dIx (13,((rs.map (·.rk)).map intD)) (4,((1+k:Nat):Int))=okI ((bA rs (1+k)).rk:Nat):=gY (by rw[getElem?_map,getElem?_map,(19,hk7),qB hk7];rfl)
   have hs:CK (4,1) (4,((1+k:Nat):Int))=okI ((2 ^ (1+k):Nat):Int):=by
    rw[Fj [11] [11] [12],toNat_natCast,Int.one_mul,Int.natCast_pow];rfl
   have hp:(0:Int)<((2 ^ (1+k):Nat):Int)/\((2 ^ (1+k):Nat):Int)<1073741824:=by
    have h1:2 ^ (1+k)<=2 ^ 6:=Nat.pow_le_pow_right [12] [11]
    have h2:0<2 ^ (1+k):=Nat.pow_pos [12]
    omega
   have hb:dEq (4,(((shutN rs (u++[top]):Nat):Int) / ((2 ^ (1+k):Nat):Int) % 2)) (4,0)=okB (!(shutN rs (u++[top])).testBit (1+k)):=by
    rw[mH,Nat.testBit_eq_decide_div_mod_eq];congr 3;rw[←decide_not];refine decide_eq_decide.mpr ?_;rw[←Int.natCast_ediv];omega
   exact(9,_,rfl,D3 (1,(11,ir),Rb _ _) (1,(1,(9,(11,hs),fR hp.1 hp.2),b8 [12]),hb),λ_=>(14,_,rfl))
 exact aA rfl (3,ao rfl,gG (kW rfl rfl) e,(3,ao (1,a8 (11,bu) el (pP ht),Nx),ao hr,bI (aF last)))
def f9(k:Nat):Fr:=(9,k,0,0,[])
theorem xG{p:List Fr}(h:p.length<=1000)(k:Nat):dAdd (bS p) (20,[(20,[(4,k),(4,0),(4,0),(20,[])])])=okD (bS (p++[f9 k])):=by
 show dAdd (20,p.map Fr.d) _=okD (20,((p++[f9 k]).map Fr.d));rw[yk (by rw[length_map,length_singleton];omega),map_append];rfl
theorem Cg{p:List Fr}(h:p.length<=1000)(cs:[22])(k:Nat):cK [ki p cs,(4,k)]=okD (ki (p++[f9 k]) cs):=
 aA rfl (aF (5,bS (p++[f9 k]),.sh (20,cs.map D.int),a8 (11,bp) (aT (ke rfl rfl rfl rfl rfl) rfl) (xG h k),(11,bu)))
theorem Mr{bs:[28]}{rs:List Rw}{p:List Fr}(h:p.length<=1000)(cs:[22])(k:Nat):ml [bR bs rs,ki p cs,(4,k)]=okD (ki (p++[f9 k]) cs):=
 aA rfl (aF (5,bS (p++[f9 k]),.sh (20,cs.map D.int),aI (11,bp) rfl (show oo [bS p,(4,k)]=_ from aA rfl (aF (9,aT (ke rfl rfl rfl rfl rfl) rfl,xG h k))),(11,bu)))
def cP(bs:[28]):[22]:=(bs.map (·.2)).flatten
theorem rY(q:[28])(b:Bx):cP (q++[b])=cP q++b.2:=by unfold cP;rw[map_append,List.flatten_append];simp
theorem Gc{bs:[28]}(hb:∀b∈bs,b.2.length<=2):(cP bs).length<=2 * bs.length:=by
 induction bs with
 |nil=>exact[23]
 |cons b bs ih=>
  have h1:=hb b mem_cons_self;have h2:=ih λc hc=>hb c (31,hc);show((b::bs).map (·.2)).flatten.length<=_;rw[map_cons,flatten_cons,length_append,length_cons];unfold cP at h2;omega
theorem Fq{q post:[28]}{b:Bx}{bs:[28]}(hb:di bs)(h:bs=q++b::post):(cP q).length<=16/\b.2.length<=2:=by
 have h8:=hb.1;have hq:∀c∈q,c.2.length<=2:=λc hc=>(hb.2 c (by rw[h];simp[hc])).2.1
 have h1:=Gc hq;have h2:q.length<=8:=by rw[h,length_append] at h8;omega
 exact(5,by omega,(hb.2 b (by rw[h];simp)).2.1)
theorem yP{bs:[28]}(hb:di bs):kI [bb bs]=okD (20,((cP bs).map D.int)):=by
 obtain⟨ρ',e,e2,rfl⟩:=nv (bd:=aM 2) (body:=pe) bD (λq ρ=>∃e2:(9,S),ρ=[(1,bb bs),(6,(38,((cP q).map D.int))),e2]) bs (ρ:=[(1,bb bs),(6,(38,[])),none]) (5,none,rfl) (by
  rintro q b post ρ hq ⟨e2,rfl⟩
  obtain⟨l1,l2⟩:=Fq hb hq;refine⟨_,_,rfl,.inl (Cz rfl (11,A8 b) rfl (by rw[length_map,length_map];exact le_trans (by omega:_<=18) [12])),(1,bD b),?_⟩
  rw[rY,map_append];rfl)
 exact aA rfl (3,ao rfl,gG (kW rfl rfl) e,bI (aF (aT rfl rfl)))
theorem Kq{bs:[28]}{rs:List Rw}(hb:di bs):jC [bR bs rs]=okD (ki [f9 0] (cP bs)):=
 aA rfl (aF (5,bS [f9 0],.sh (20,((cP bs).map D.int)),aT (ke rfl rfl rfl rfl rfl) rfl,aT (11,bp) (yP hb)))
theorem A5{bs:[28]}{rs:List Rw}(hb:di bs):dz [bR bs rs]=okD (ki [f9 0] (cP bs)):=by
 obtain⟨ρ',e,s1,e2,h1,rfl⟩:=nv (bd:=aM 2) (body:=pq) bD (λq ρ=>∃(s1:S)(e2:(9,S)),(s1=(38,((cP q).map D.int)))/\ρ=[(1,bR bs rs),(6,s1),e2]) bs (ρ:=[(1,bR bs rs),(6,(38,[])),none]) (9,_,none,rfl,rfl) (by
  rintro q b post ρ hq ⟨s1,e2,rfl,rfl⟩
  obtain⟨l1,l2⟩:=Fq hb hq;refine⟨_,_,rfl,.inl (bI (ao (9,aT (11,A8 b) rfl,pb (by rw[length_map,length_map];omega)))),_,(1,bD b),rfl,?_⟩
  rw[rY,map_append];rfl)
 subst h1;exact aA rfl (3,ao rfl,gG (kW (11,bp) rfl) e,bI (aF (5,bS [f9 0],.sh (20,((cP bs).map D.int)),aT (ke rfl rfl rfl rfl rfl) rfl,aT rfl rfl)))
def mD:Tn->([22])->([22])->[22]×[22]
 |.lay c v,cs,hand=>(cs.set c v,hand)
 |.tick c,cs,hand=>(cs.set c (cs.getD c 0+1),hand)
 |.take c,cs,hand=>(cs,hand++[cs.getD c 0])
 |.back c i n,cs,hand=>(cs.set c (hand.getD i 0+n),hand)
 |.move c e,cs,hand=>(cs.set c (cs.getD e 0),hand)
 |_,cs,hand=>(cs,hand)
def OR(n hl:Nat):Tn->Prop
 |.lay c _=>c<n
 |.tick c=>c<n
 |.take c=>c<n
 |.back c i _=>c<n/\i<hl
 |.move c e=>c<n/\e<n
 |.same c=>c<n/\0<hl
 |.rest=>True
theorem Ka(t:Tn)(cs hand:[22]):(mD t cs hand).1.length=cs.length:=by cases t <;> simp[mD]
theorem JJ{a:Str}{ds:[21]}{u v:MC}{ρ:MEnv}{o:(9,mI)}(h:ρ[0]?=(6,(1,(20,(.str a::ds)))))(h2:u ρ=o):sIf (1,dEq,(8,0,0),.str a) u v ρ=o:=
 dH (1,(1,br h,bp),i6 rfl) h2
theorem gI{a b:Str}{ds:[21]}{u:MC}{ρ:MEnv}(h:ρ[0]?=(6,(1,(20,(.str b::ds)))))(e:b≠a):sIf (1,dEq,(8,0,0),.str a) u aX ρ=(30,ρ):=
 (29,(1,(1,br h,bp),aS e))
theorem set_map{vs:[22]}{c:Nat}{v:Int}:(vs.map D.int).set c (4,v)=(vs.set c v).map D.int:=by rw[List.map_set]
theorem Cd{vs:[22]}{c:Nat}(h:c<vs.length):dIx (13,vs.map D.int) (4,c)=okI (vs.getD c 0):=fg h
theorem Fm{t:D}{cs hand:[22]}{c:Nat}{v:Int}{e1:ME}(h:c<cs.length)(he:e1 [(1,t),(6,(38,cs.map D.int)),(1,(20,hand.map D.int)),(15,c)]=okI v):
  iS 1 (5,3) e1 [(1,t),(6,(38,cs.map D.int)),(1,(20,hand.map D.int)),(15,c)]=(30,[(1,t),(6,(38,((cs.set c v).map D.int))),(1,(20,hand.map D.int)),(15,c)]):=by
 rw[Gk (j:=0) (k:=c) he rfl rfl (by rw[length_map];exact h),←set_map]
 rfl
theorem Jv{t:D}{cs hand:[22]}{c k:Nat}{e:ME}(h:k<cs.length)(he:e [(1,t),(6,(38,cs.map D.int)),(1,(20,hand.map D.int)),(15,c)]=okI k):
  aK (f2 dIx) [(dI 1),e] [(1,t),(6,(38,cs.map D.int)),(1,(20,hand.map D.int)),(15,c)]=okI (cs.getD k 0):=Mv (aI (F:=f2 dIx) (fW rfl) he (Cd h)) rfl
theorem yz{t:Tn}{cs hand:[22]}(h:OR cs.length hand.length t)(hh:hand.length<=1000):gf [t.d,(20,cs.map D.int),(20,hand.map D.int)]=okD (20,[(20,((mD t cs hand).1.map D.int)),(20,((mD t cs hand).2.map D.int))]):=by
 have lo:∀(d:D)(ws hs:[22])(a:(9,S)),(dF 1 (aU (aG [(aj (f1 jf) [(5,1)]),(5,2)]))) [(1,d),(6,(38,ws.map D.int)),(1,(20,hs.map D.int)),a]=(6,.ret (.sh (20,[(20,ws.map D.int),(20,hs.map D.int)]))):=λd ws hs a=>bI (aF (5,(20,ws.map D.int),.sh (20,hs.map D.int),aT rfl rfl,rfl));have ls:∀(d:D)(ws hs:[22])(a:(9,S)),(dF 1 (aU (aG [(aj (f1 jf) [(5,1)]),(5,2)]))) [(1,d),(1,(13,ws.map D.int)),(1,(20,hs.map D.int)),a]=(6,.ret (.sh (20,[(20,ws.map D.int),(20,hs.map D.int)]))):=λd ws hs a=>bI (aF (5,(20,ws.map D.int),.sh (20,hs.map D.int),aT rfl rfl,rfl));cases t with
 |rest=>exact aA rfl (bI (3,ao (aT rfl rfl),ao (11,bu),(3,gI rfl [12],gI rfl [12],(3,gI rfl [12],gI rfl [12],a7 (gI rfl [12]) (lo _ cs hand _)))))
 |same c=>exact aA rfl (bI (3,ao (aT rfl rfl),ao (11,bu),(3,gI rfl [12],gI rfl [12],(3,gI rfl [12],gI rfl [12],a7 (gI rfl [12]) (lo _ cs hand _)))))
 |lay c v=>exact aA rfl (bI (3,ao (aT rfl rfl),ao (11,bu),(3,JJ rfl (Fm (v:=v) h (11,gE)),gI rfl [12],(3,gI rfl [12],gI rfl [12],a7 (gI rfl [12]) (lo _ _ hand _)))))
 |tick c=>exact aA rfl (bI (3,ao (aT rfl rfl),ao (11,bu),(3,gI rfl [12],JJ rfl (Fm (v:=cs.getD c 0+1) h (1,Jv h rfl,rfl)),(3,gI rfl [12],gI rfl [12],a7 (gI rfl [12]) (lo _ _ hand _)))))
 |move c e=>exact aA rfl (bI (3,ao (aT rfl rfl),ao (11,bu),(3,gI rfl [12],gI rfl [12],(3,JJ rfl (Fm (v:=cs.getD e 0) h.1 (Jv h.2 (11,gE))),gI rfl [12],a7 (gI rfl [12]) (lo _ _ hand _)))))
 |take c=>
  have e:dAdd (20,hand.map D.int) (20,[(4,cs.getD c 0)])=okD (20,((hand++[cs.getD c 0]).map D.int)):=by
   rw[yk (by rw[length_map,length_singleton];omega),map_append];rfl
  exact aA rfl (bI (3,ao (aT rfl rfl),ao (11,bu),(3,gI rfl [12],gI rfl [12],(3,gI rfl [12],JJ rfl (bI (ao (9,aT (11,Cd h) rfl,e))),a7 (gI rfl [12]) (ls _ cs _ _)))))
 |back c i n=>exact aA rfl (bI (3,ao (aT rfl rfl),ao (11,bu),(3,gI rfl [12],gI rfl [12],(3,gI rfl [12],gI rfl [12],a7 (JJ rfl (Fm (v:=hand.getD i 0+n) h.1 (a8 (9,(1,(11,gE),bp),fg h.2) (1,(11,gE),bu) rfl))) (lo _ _ hand _)))))
def D7(bs:[28])(dd:Deed)(turn:Nat)(hand:[22]):Prop:=match dd with
 |.grow x _=>hand.length=min turn (28,x)
 |.anew _ y _=>hand.length=min turn ((28,y)+1)
 |_=>True
theorem G3{bs:[28]}(hb:di bs){dd:Deed}(ok:dd.Ok bs):0<(bz bs dd).length:=by
 cases dd with
 |still n=>show 0<(replicate n _).length;rw[length_replicate];exact ok.1
 |put x ns=>have:=fH hb ok.1;show 0<((23,_).map _).length;rw[length_map,length_range];omega
 |copy x y=>have:=fH hb ok.1;show 0<((23,_).map _).length;rw[length_map,length_range];omega
 |tick x=>exact Nat.zero_lt_one
 |grow x n=>have:=fH hb ok.1;show 0<List.length (_++_);rw[length_append,length_map,aP];omega
 |anew x y t=>show 0<List.length ([_]++_++_++_);simp only[length_append,length_singleton];omega
 |non x=>exact Nat.zero_lt_one
 |iz x y n=>exact Nat.zero_lt_one
 |most x y n=>exact Nat.zero_lt_one
theorem Q2(bs:[28])(dd:Deed):D7 bs dd 0 []:=by
 cases dd <;> first|trivial|(show 0=min 0 _;omega)
theorem P8{bs:[28]}(hb:di bs){dd:Deed}(ok:dd.Ok bs){turn:Nat}{hand:[22]}(h:D7 bs dd turn hand){t:Tn}(ht:(bz bs dd)[turn]?=(6,t))(cs:[22])(hh:hand.length<=100):
  OR (sM bs) hand.length t/\(mD t cs hand).2.length<=100/\(turn+1<(bz bs dd).length->D7 bs dd (turn+1) (mD t cs hand).2):=by
 have lt:turn<(bz bs dd).length:=(12,ht).1;cases dd with
 |still n=>
  have:t=.rest:=by
   have:(replicate n Tn.rest)[turn]?=(6,t):=ht;rw[getElem?_replicate] at this;split at this <;> cases this;rfl
  subst this;exact(12,trivial,hh,λ_=>trivial)
 |non x=>
  have:t=.rest:=by
   have hm:=mem_of_getElem? ht;exact(37,hm)
  subst this;exact(12,trivial,hh,λ_=>trivial)
 |iz x y n=>
  have:t=.rest:=by
   have hm:=mem_of_getElem? ht;exact(37,hm)
  subst this;exact(12,trivial,hh,λ_=>trivial)
 |most x y n=>
  have:t=.rest:=by
   have hm:=mem_of_getElem? ht;exact(37,hm)
  subst this;exact(12,trivial,hh,λ_=>trivial)
 |tick x=>
  have:t=.tick (33,x):=by
   have hm:=mem_of_getElem? ht;exact(37,hm)
  subst this;have hf:=dg ok.1;have h1:(28,x)=1:=ok.2;exact(12,by show(33,x)<_;omega,hh,λ_=>trivial)
 |put x ns=>
  have hm:=mem_of_getElem? ht;obtain⟨k,hk,rfl⟩:=mem_map.mp hm;have:=mem_range.mp hk;have hf:=dg ok.1;exact(12,by show(33,x)+k<_;omega,hh,λ_=>trivial)
 |copy x y=>
  have hm:=mem_of_getElem? ht;obtain⟨k,hk,rfl⟩:=mem_map.mp hm;have:=mem_range.mp hk;have hf:=dg ok.1;have hg:=dg ok.2.1;have hxy:=ok.2.2.2;exact(12,(53,by omega),hh,λ_=>trivial)
 |grow x n=>
  have hf:=dg ok.1;have h12:=fH hb ok.1;have h:hand.length=min turn (28,x):=h;have hl:(bz bs (.grow x n)).length=(28,x)+(28,x):=by show List.length (_++_)=_;rw[length_append,length_map,aP,length_map,length_range]
  have ht:(((aC bs x).map Tn.take)++(23,(28,x)).map λk=>Tn.back ((33,x)+k) k n)[turn]?=(6,t):=ht;by_cases c:turn<(28,x)
  ·rw[(44,(by rw[length_map,aP];exact c)),getElem?_map,mq c] at ht
   cases ht;refine(12,by show(33,x)+turn<_;omega,by show(hand++[_]).length<=100;rw[length_append,length_singleton];omega,λ_=>?_)
   show(hand++[_]).length=min (turn+1) (28,x);rw[length_append,length_singleton];omega
  ·rw[(47,(by rw[length_map,aP];omega)),length_map,aP,getElem?_map,getElem?_range [11]] at ht
   cases ht;refine(12,(53,by omega),hh,λ_=>?_)
   show hand.length=min (turn+1) (28,x);omega
 |anew x y tt=>
  obtain⟨hx,hy,htt,nxy,nxt,nyt,hxy,ht1⟩:=ok;have hfx:=dg hx;have hfy:=dg hy;have hft:=dg htt;have h12:=fH hb hx;have h:hand.length=min turn ((28,y)+1):=h;have l1:([Tn.take (33,tt)]++(aC bs y).map Tn.take).length=(28,y)+1:=by rw[length_append,length_map,aP,length_singleton];omega
  have l2:([Tn.take (33,tt)]++(aC bs y).map Tn.take++[Tn.same (33,tt)]).length=(28,y)+2:=by rw[length_append,l1,length_singleton]
  have hl:(bz bs (.anew x y tt)).length=(28,y)+2+(28,x):=by show List.length (_++_)=_;rw[length_append,l2,length_map,length_range]
  have ht:([Tn.take (33,tt)]++(aC bs y).map Tn.take++[Tn.same (33,tt)]++(23,(28,x)).map λk=>Tn.back ((33,x)+k) (k+1) 0)[turn]?=(6,t):=ht;by_cases c:turn<(28,y)+1
  ·rw[(44,[11]),(44,[11])] at ht
   have:∃c0,c0<sM bs/\t=.take c0:=by
    have hm:=mem_of_getElem? ht;rcases mem_append.mp hm with z|z
    ·exact(12,_,by omega,(37,z))
    ·obtain⟨c0,hc0,rfl⟩:=mem_map.mp z;exact(14,c0,vN hy hc0)
   obtain⟨c0,h0,rfl⟩:=this;refine(12,h0,by show(hand++[_]).length<=100;rw[length_append,length_singleton];omega,λ_=>?_)
   show(hand++[_]).length=min (turn+1) ((28,y)+1);rw[length_append,length_singleton];omega
  ·by_cases c2:turn=(28,y)+1
   ·rw[(44,[11]),(47,[11]),l1,c2,sub_self] at ht
    cases ht;refine(12,(53,by omega),hh,λ_=>?_)
    show hand.length=min (turn+1) ((28,y)+1);omega
   ·rw[(47,[11]),l2,getElem?_map,getElem?_range [11]] at ht
    cases ht;refine(12,(53,by omega),hh,λ_=>?_)
    show hand.length=min (turn+1) ((28,y)+1);omega
theorem Ic{bs:[28]}{x k:Nat}{ns:[22]}(h:k<(28,x)):(bz bs (.put x ns))[k]?=(6,.lay ((33,x)+k) (ns.getD k 0)):=by
 show((23,(28,x)).map _)[k]?=_;rw[getElem?_map,getElem?_range h];rfl
theorem Fd{bs:[28]}{x y k:Nat}(h:k<(28,x)):(bz bs (.copy x y))[k]?=(6,.move ((33,x)+k) ((33,y)+k)):=by
 show((23,(28,x)).map _)[k]?=_;rw[getElem?_map,getElem?_range h];rfl
theorem AD{bs:[28]}{x k:Nat}{n:Int}(h:k<(28,x)):(bz bs (.grow x n))[k]?=(6,.take ((33,x)+k)):=by
 show(((aC bs x).map _)++_)[k]?=_;rw[(44,(by rw[length_map,aP];exact h)),getElem?_map,mq h];rfl
theorem AC{bs:[28]}{x k:Nat}{n:Int}(h0:(28,x)<=k)(h:k<2 * (28,x)):(bz bs (.grow x n))[k]?=(6,.back ((33,x)+(k - (28,x))) (k - (28,x)) n):=by
 show(((aC bs x).map _)++_)[k]?=_;rw[(47,(by rw[length_map,aP];exact h0)),length_map,aP,getElem?_map,getElem?_range [11]];rfl
theorem qe{bs:[28]}{x y t:Nat}:bz bs (.anew x y t)=(.take (33,t)::(aC bs y).map .take)++(.same (33,t)::(23,(28,x)).map λk=>.back ((33,x)+k) (k+1) 0):=by
 show[Tn.take (33,t)]++(aC bs y).map .take++[.same (33,t)]++_=_;simp
theorem AH{bs:[28]}{x y t:Nat}:(bz bs (.anew x y t))[0]?=(6,.take (33,t)):=by rw[qe];rfl
theorem l5{bs:[28]}{y t:Nat}:(Tn.take (33,t)::(aC bs y).map .take).length=(28,y)+1:=by rw[length_cons,length_map,aP]
theorem AG{bs:[28]}{x y t k:Nat}(h:k<(28,y)):(bz bs (.anew x y t))[k+1]?=(6,.take ((33,y)+k)):=by
 rw[qe,(44,(by rw[l5];omega)),getElem?_cons_succ,getElem?_map,mq h];rfl
theorem AE{bs:[28]}{x y t:Nat}:(bz bs (.anew x y t))[(28,y)+1]?=(6,.same (33,t)):=by
 rw[qe,(47,(by rw[l5];omega)),l5,sub_self];rfl
theorem AF{bs:[28]}{x y t k:Nat}(h:k<(28,x)):(bz bs (.anew x y t))[(28,y)+2+k]?=(6,.back ((33,x)+k) (k+1) 0):=by
 rw[qe,(47,(by rw[l5];omega)),l5,show(28,y)+2+k - ((28,y)+1)=k+1 by omega,getElem?_cons_succ,getElem?_map,getElem?_range h];rfl
theorem iq{bs:[28]}(dd:Deed):(bz bs dd).length=(dk bs dd).length:=by
 rw[gP];cases dd with
 |still n=>show(replicate n _).length=n;rw[length_replicate]
 |put x ns=>show((23,_).map _).length=_;rw[length_map,length_range]
 |copy x y=>show((23,_).map _).length=_;rw[length_map,length_range]
 |tick x=>rfl
 |non x=>rfl
 |iz x y n=>rfl
 |most x y n=>rfl
 |grow x n=>show(((aC bs x).map _)++_).length=2 * (28,x);rw[length_append,length_map,aP,length_map,length_range];omega
 |anew x y t=>rw[qe,length_append,l5,length_cons,length_map,length_range];show _=(28,y)+2+(28,x);omega
theorem M6{bs:[28]}{dd:Deed}(ok:dd.Ok bs){turn:Nat}{hand:[22]}(h:D7 bs dd turn hand)(ht:turn<(dk bs dd).length):F6 bs dd turn hand:=by
 rw[gP] at ht;cases dd with
 |grow x n=>have h:hand.length=min turn (28,x):=h;dsimp only at ht;show(28,x)<=turn->turn - (28,x)<hand.length;omega
 |anew x y t=>have h:hand.length=min turn ((28,y)+1):=h;have:=ok.2.2.2.2.2.2.1;dsimp only at ht;show(28,y)+1<=turn->turn - ((28,y)+1)<hand.length;omega
 |_=>trivial
theorem Ks{bs:[28]}{dd:Deed}(ok:dd.Ok bs){turn:Nat}{t:Tn}(ht:(bz bs dd)[turn]?=(6,t))(hn:∀c,t≠.same c)(cs hand:[22]):
  ∃h',i8 bs dd turn cs hand=((mD t cs hand).1,h',turn+1)/\(turn+1<(bz bs dd).length->h'=(mD t cs hand).2):=by
 have lt:turn<(bz bs dd).length:=(12,ht).1;have lt':=lt;rw[iq,gP] at lt';cases dd with
 |still n=>
  have:t=.rest:=by
   have:(replicate n Tn.rest)[turn]?=(6,t):=ht;rw[getElem?_replicate] at this;split at this <;> (cases this;try rfl)
  subst this;exact(12,hand,rfl,λ_=>rfl)
 |non x=>have:t=.rest:=(37,mem_of_getElem? ht);subst this;exact(12,hand,rfl,λ_=>rfl)
 |iz x y n=>have:t=.rest:=(37,mem_of_getElem? ht);subst this;exact(12,hand,rfl,λ_=>rfl)
 |most x y n=>have:t=.rest:=(37,mem_of_getElem? ht);subst this;exact(12,hand,rfl,λ_=>rfl)
 |tick x=>have:t=.tick (33,x):=(37,mem_of_getElem? ht);subst this;exact(12,hand,rfl,λ_=>rfl)
 |put x ns=>rw[Ic lt'] at ht;cases ht;exact(12,hand,rfl,λ_=>rfl)
 |copy x y=>rw[Fd lt'] at ht;cases ht;exact(12,hand,rfl,λ_=>rfl)
 |grow x n=>
  dsimp only at lt';by_cases c:turn<(28,x)
  ·rw[AD c] at ht;cases ht;exact(12,_,(39,c),λ_=>rfl)
  ·rw[AC [11] lt'] at ht;cases ht
   refine(12,_,(42,c),λh=>(42,?_));rw[iq,gP] at h;dsimp only at h;omega
 |anew x y t'=>
  dsimp only at lt';have hxy:(28,y)=(28,x):=ok.2.2.2.2.2.2.1;by_cases c:turn<(28,y)+1
  ·cases turn with
   |zero=>rw[AH] at ht;cases ht;exact(12,_,by unfold i8;dsimp only;rw[(39,c),(39,rfl)];rfl,λ_=>rfl)
   |succ k=>rw[AG [11]] at ht;cases ht;exact(12,_,(39,c),λ_=>rfl)
  ·by_cases c2:(28,y)+1<turn
   ·obtain⟨k,rfl⟩:∃k,turn=szB bs y+2+k:=(53,turn - ((28,y)+2))
    rw[AF [11]] at ht;cases ht
    have e:i8 bs (.anew x y t') ((28,y)+2+k) cs hand=(cs.set ((33,x)+((28,y)+2+k - ((28,y)+2))) (hand.getD ((28,y)+2+k - ((28,y)+1)) 0),if(28,y)+2+k+1=2 * (28,y)+2 then[] else hand,(28,y)+2+k+1):=(42,c).trans (39,c2);rw[e,show(28,y)+2+k - ((28,y)+2)=k by omega,show(28,y)+2+k - ((28,y)+1)=k+1 by omega]
    refine(12,if(28,y)+2+k+1=2 * (28,y)+2 then[] else hand,?_,λh=>(42,?_))
    ·show _=(cs.set ((33,x)+k) (hand.getD (k+1) 0+0),_,_);rw[Int.add_zero]
    ·rw[iq,gP] at h;dsimp only at h;omega
   ·obtain rfl:turn=szB bs y+1:=by omega
    rw[AE] at ht;cases ht;exact absurd rfl (hn _)
theorem EZ{bs:[28]}{dd:Deed}{turn c:Nat}(ht:(bz bs dd)[turn]?=(6,.same c))(ok:dd.Ok bs)(cs hand:[22]):
  i8 bs dd turn cs hand=if cs.getD c 0=hand.getD 0 0 then(cs,hand,turn+1) else(cs,[],0):=by
 have lt:turn<(bz bs dd).length:=(12,ht).1;have lt':=lt;rw[iq,gP] at lt';cases dd with
 |still n=>
  have:(replicate n Tn.rest)[turn]?=(6,Tn.same c):=ht;rw[getElem?_replicate] at this;split at this <;> cases this
 |non x=>cases mem_singleton.mp (show Tn.same c∈[Tn.rest] from mem_of_getElem? ht)
 |iz x y n=>cases mem_singleton.mp (show Tn.same c∈[Tn.rest] from mem_of_getElem? ht)
 |most x y n=>cases mem_singleton.mp (show Tn.same c∈[Tn.rest] from mem_of_getElem? ht)
 |tick x=>cases mem_singleton.mp (show Tn.same c∈[Tn.tick (fstB bs x)] from mem_of_getElem? ht)
 |put x ns=>rw[Ic lt'] at ht;cases ht
 |copy x y=>rw[Fd lt'] at ht;cases ht
 |grow x n=>
  dsimp only at lt';by_cases c:turn<(28,x)
  ·rw[AD c] at ht;cases ht
  ·rw[AC [11] lt'] at ht;cases ht
 |anew x y t'=>
  dsimp only at lt';have hxy:(28,y)=(28,x):=ok.2.2.2.2.2.2.1;by_cases c:turn<(28,y)+1
  ·cases turn with
   |zero=>rw[AH] at ht;cases ht
   |succ k=>rw[AG [11]] at ht;cases ht
  ·by_cases c2:(28,y)+1<turn
   ·obtain⟨k,rfl⟩:∃k,turn=szB bs y+2+k:=(53,turn - ((28,y)+2))
    rw[AF [11]] at ht;cases ht
   ·obtain rfl:turn=szB bs y+1:=by omega
    rw[AE] at ht;cases ht;exact(42,c).trans (42,c2)
def OY(bs:[28])(rs:List Rw)(f:Fr):Prop:=rj rs f/\f.hand.length<=100/\∀q,(bA rs f.row).pl[f.place]?=(6,q)->f.turn<(bz bs q.1).length/\D7 bs q.1 f.turn f.hand
structure WF(bs:List Bx)(rs:List Rw)(p:List Fr)(cs:List Int)(n:Nat):Prop where
 fr:∀f∈p,OY bs rs f
 hd:∃b r,p=b::r/\b.row=0
 len:cs.length=sM bs
 most:p.length<=n
theorem KE(f:Fr):dIx f.d (4,1)=okI (f.place:Nat):=bu
theorem QT(f:Fr):dIx f.d (4,2)=okI (f.turn:Nat):=gE
theorem fr3(f:Fr):dIx f.d (4,3)=okD (20,f.hand.map D.int):=JK
theorem uC{ds:[21]}{d:D}:kb (20,(ds++[d])) none (6,(-1))=okD (20,ds):=by
 have e:jb (ds++[d]).length (ds++[d]).length (6,(-1))=ds.length:=by
  show(if(-1:Int)<0 then((-1:Int)+((ds++[d]).length:Int)).toNat else min (-1:Int).toNat (ds++[d]).length)=_;rw[(39,[12]),length_append,length_singleton];omega
 show(if(jb (ds++[d]).length 0 none=0/\jb (ds++[d]).length (ds++[d]).length (6,(-1))=(ds++[d]).length) then none else okD (20,CS (ds++[d]) none (6,(-1))))=_;rw[e,(42,(by rw[length_append,length_singleton];omega))]
 show okD (20,(((ds++[d]).drop 0).take (jb (ds++[d]).length (ds++[d]).length (6,(-1)) - 0)))=_;rw[e,List.drop_zero,Nat.sub_zero,List.take_left]
theorem sk{ρ:MEnv}{u:List Fr}{top:Fr}{cs:[22]}(h:ρ[1]?=(6,(1,ki (u++[top]) cs))):cZ (8,1,0) none (6,(22,(-1))) ρ=okD (bS u):=by
 unfold cZ;rw[show eBin dIx (5,1) (22,0) ρ=okD (bS (u++[top])) from(1,br h,bp)];show kb (20,((u++[top]).map Fr.d)) none (6,(-1))=_;rw[map_append];exact uC
theorem B6{u:List Fr}(h:u.length<=1000)(f:Fr):dAdd (bS u) (20,[f.d])=okD (bS (u++[f])):=by
 show dAdd (20,u.map Fr.d) _=okD (20,((u++[f]).map Fr.d));rw[yk (by rw[length_map,length_singleton];omega),map_append];rfl
theorem Jf{t:Tn}(h:∀c,t≠.same c){ρ:MEnv}(h6:ρ[6]?=(6,(1,t.d))):eBin dEq (8,6,0) (eC (.str (26,"same"))) ρ=okB false:=by
 cases t with
 |same c=>exact absurd rfl (h c)
 |rest=>exact(1,(1,br h6,bp),aS [12])
 |lay c v=>exact(1,(1,br h6,bp),aS [12])
 |tick c=>exact(1,(1,br h6,bp),aS [12])
 |take c=>exact(1,(1,br h6,bp),aS [12])
 |back c i n=>exact(1,(1,br h6,bp),aS [12])
 |move c e=>exact(1,(1,br h6,bp),aS [12])
section
variable{bs:List Bx}{rs:List Rw}{u:List Fr}{top:Fr}{cs:List Int}{n:Nat}
theorem qR(hb:di bs)(hr:∀r∈rs,∀q∈r.pl,q.1.Ok bs){k pl:Nat}(hk:k<rs.length)(hp:pl<=(bA rs k).pl.length):OY bs rs (9,k,pl,0,[]):=by
 refine(12,(5,hk,hp),zero_le _,λq hq=>(5,G3 hb (hr (bA rs k) ?_ q (mem_of_getElem? hq)),Q2 bs q.1));rw[←qB hk];exact getElem_mem hk
theorem WF.swap(w:WF bs rs (u++[top]) cs n){f:Fr}{cs':[22]}(hf:OY bs rs f)(hrow:f.row=top.row)(hc:cs'.length=cs.length):WF bs rs (u++[f]) cs' n:=by
 refine(9,λg hg=>?_,?_,hc.trans w.len,by have:=w.most;rw[length_append,length_singleton] at this ⊢;exact this)
 ·rcases mem_append.mp hg with h|h
  ·exact w.fr g (mem_append_left _ h)
  ·rw[(37,h)];exact hf
 ·obtain⟨b,r,e,h0⟩:=w.hd;cases u with
  |nil=>cases e;exact(9,f,[],rfl,by rw[hrow];exact h0)
  |cons a v=>exact(9,a,v++[f],rfl,by rw[(List.cons.inj (show a::(v++[top])=b::r from e)).1];exact h0)
theorem WF.pop(w:WF bs rs (u++[top]) cs n)(h:0<top.row){cs':[22]}(hc:cs'.length=cs.length):WF bs rs u cs' n:=by
 refine(9,λg hg=>w.fr g (mem_append_left _ hg),?_,hc.trans w.len,by have:=w.most;rw[length_append,length_singleton] at this;omega)
 obtain⟨b,r,e,h0⟩:=w.hd;cases u with
 |nil=>cases e;omega
 |cons a v=>exact(9,a,v,rfl,by rw[(List.cons.inj (show a::(v++[top])=b::r from e)).1];exact h0)
theorem pJ{ρ:MEnv}(h:ρ[1]?=(6,(1,bS (u++[top])))):cZ (5,1) none (6,(22,(-1))) ρ=okD (bS u):=by
 unfold cZ;rw[br h];show kb (20,((u++[top]).map Fr.d)) none (6,(-1))=_;rw[map_append];exact uC
theorem oB{f:Fr}(h:f.row<rs.length):dZ [bR bs rs,f.d]=okB (decide (f.place=(bA rs f.row).pl.length)):=
 aA rfl (aF (a8 (11,KE f) (eQ (19,(11,Ht f),o6 h) (mf _)) (QV _ _)))
theorem ER{q:Pl}(h:top.row<rs.length)(hpq:(bA rs top.row).pl[top.place]?=(6,q)):ou [bR bs rs,(4,top.row),(4,top.place)]=okD q.1.d:=
 aA rfl (aF (1,(1,(19,rfl,o6 h),ix_tup (by rw[getElem?_map,hpq];rfl)),bp))
theorem Ji(dd:Deed):(planS::zD dd).contains (26,"after")=false/\(planS::zD dd).contains (26,"turns")=false:=by cases dd <;> exact(5,rfl,rfl)
theorem AA(h:top.row<rs.length)(c:top.place=(bA rs top.row).pl.length):lD [bR bs rs,bS (u++[top]),(20,cs.map D.int)]=okD .non:=by
 have e:=oB (bs:=bs) (rs:=rs) (f:=top) h;rw[decide_eq_true c] at e;exact aA rfl (a7 (ao (11,jK u top)) (bc (dH (19,rfl,e) rfl)))
theorem G4(hb:di bs){q:Pl}(hok:q.1.Ok bs)(hrow:top.row<rs.length)(hpq:(bA rs top.row).pl[top.place]?=(6,q))(ht:top.turn<(dk bs q.1).length)(hv:cs.length=sM bs)(hh:top.hand.length<=1000)(ho:F6 bs q.1 top.turn top.hand)(hu:u.length<=1000){c2 h2:[22]}{t2:Nat}(ha:i8 bs q.1 top.turn cs top.hand=(c2,h2,t2)):
  lD [bR bs rs,bS (u++[top]),(20,cs.map D.int)]=okD (if t2<(dk bs q.1).length then ki (u++[(9,top.row,top.place,t2,h2)]) c2 else if 0<top.row/\top.place+1=(bA rs top.row).pl.length then ki u c2 else ki (u++[(9,top.row,top.place+1,0,[])]) c2):=by
 have hlt:top.place<(bA rs top.row).pl.length:=(12,hpq).1;have e1:=oB (bs:=bs) (rs:=rs) (f:=top) hrow;rw[(50,[11])] at e1
 obtain⟨F,tF,eF⟩:=MA hb hok ht hv hh ho;rw[ha] at eF;obtain⟨n1,n2⟩:=Ji q.1;have hdo:=EO hb hok;refine aA rfl (3,ao (11,jK u top),(29,(19,rfl,e1)),a7 (ao (aI (11,bp) (bW rfl (11,Ht top) (11,KE top) (ER hrow hpq)) hdo)) (bI (a7 (ao (Jq rfl rfl n1 tF (11,QT top) rfl (11,fr3 top) eF)) (bI ?_))));have hturns:∀ρ:MEnv,ρ[4]?=(6,(1,(FD bs q.1).val))->eh (26,"turns") iQ (5,4) [] ρ=okI ((dk bs q.1).length:Nat):=λρ h=>N2 (br h) rfl n2 (u6 (Ki q.1)) (Fc (Ki q.1));have r2:dIx (IA (c2,h2,t2)) (4,2)=okI (t2:Nat):=gE;by_cases c:t2<(dk bs q.1).length
 ·rw[(39,c)];have e2:=oB (bs:=bs) (rs:=rs) (f:=(9,top.row,top.place,t2,h2)) hrow;rw[(50,(by show ¬top.place=(bA rs top.row).pl.length;omega))] at e2
  have hand:∀ρ:MEnv,ρ[0]?=(6,(1,bR bs rs))->ρ[6]?=(6,(1,Fr.d (9,top.row,top.place,t2,h2)))->eAnd (6,dGt,(8,6,0),0) (aj dZ [(5,0),(5,6)]) ρ=okB false:=λρ h0 h6=>by
   by_cases c3:0<top.row
   ·exact dc (1,(1,br h6,bp),sW (by first|omega|(dsimp only;omega))) (aI (br h0) (br h6) e2)
   ·exact jk (1,(1,br h6,bp),xm (by first|omega|(dsimp only;omega)))
  exact(3,dH (a8 (11,r2) (hturns _ rfl) (Et [11])) (ao (s:=.sh (Fr.d (9,top.row,top.place,t2,h2))) (ke (11,Ht top) (11,KE top) (11,r2) (11,bu) rfl)),(29,hand _ rfl rfl),aF (5,bS (u++[(9,top.row,top.place,t2,h2)]),.sh (20,c2.map D.int),a8 (pJ rfl) (aT rfl rfl) (B6 hu (9,top.row,top.place,t2,h2)),(11,bp)))
 ·rw[(42,c)];have e2:=oB (bs:=bs) (rs:=rs) (f:=(9,top.row,top.place+1,0,[])) hrow;have e2:dZ [bR bs rs,Fr.d (9,top.row,top.place+1,0,[])]=okB (decide (top.place+1=(bA rs top.row).pl.length)):=e2;have s6:∀ρ:MEnv,ρ[3]?=(6,(1,top.d))->aG [(8,3,0),(6,dAdd,(8,3,1),1),(22,0),(aG [])] ρ=okD (Fr.d (9,top.row,top.place+1,0,[])):=λρ h=>ke (1,br h,Ht top) (1,(1,br h,KE top),Fh _) rfl rfl rfl;by_cases c2':0<top.row/\top.place+1=(bA rs top.row).pl.length
  ·rw[(39,c2')];rw[decide_eq_true c2'.2] at e2;exact a7 (aY (a8 (11,r2) (hturns _ rfl) (vn [11])) (ao (s6 _ rfl))) (bc (dH (dc (1,(11,bp),sW (by first|omega|(dsimp only;omega))) (19,rfl,e2)) (aF (5,bS u,.sh (20,c2.map D.int),pJ rfl,(11,bp)))))
  ·rw[(42,c2')];have hand:∀ρ:MEnv,ρ[0]?=(6,(1,bR bs rs))->ρ[6]?=(6,(1,Fr.d (9,top.row,top.place+1,0,[])))->eAnd (6,dGt,(8,6,0),0) (aj dZ [(5,0),(5,6)]) ρ=okB false:=λρ h0 h6=>by
    by_cases c3:0<top.row
    ·rw[(50,(λz=>c2' (5,c3,z)))] at e2;exact dc (1,(1,br h6,bp),sW (by first|omega|(dsimp only;omega))) (aI (br h0) (br h6) e2)
    ·exact jk (1,(1,br h6,bp),xm (by first|omega|(dsimp only;omega)))
   exact(3,aY (a8 (11,r2) (hturns _ rfl) (vn [11])) (ao (s6 _ rfl)),(29,hand _ rfl rfl),aF (5,bS (u++[(9,top.row,top.place+1,0,[])]),.sh (20,c2.map D.int),a8 (pJ rfl) (aT rfl rfl) (B6 hu (9,top.row,top.place+1,0,[])),(11,bp)))
theorem sj{r:D}(h:lD [bR bs rs,bS (u++[top]),(20,cs.map D.int)]=okD r):eR [bR bs rs,ki (u++[top]) cs]=okD r:=
 aA rfl (aF (bW rfl (11,bp) (11,bu) h))
end
def Kv(bs:[28])(rs:List Rw)(u:List Fr)(top:Fr)(cs:[22])(p':List Fr)(cs':[22]):Prop:=∃q t,(bA rs top.row).pl[top.place]?=(6,q)/\(bz bs q.1)[top.turn]?=(6,t)/\
 ((∃c,t=.same c/\cs.getD c 0≠top.hand.getD 0 0/\p'=u++[(9,top.row,top.place,0,[])]/\cs'=cs)\/
  ((∀c,t=.same c->cs.getD c 0=top.hand.getD 0 0)/\cs'=(mD t cs top.hand).1/\
  ((top.turn+1<(bz bs q.1).length/\p'=u++[(9,top.row,top.place,top.turn+1,(mD t cs top.hand).2)])\/
   (top.turn+1=(bz bs q.1).length/\((0<top.row/\top.place+1=(bA rs top.row).pl.length/\p'=u)\/(¬(0<top.row/\top.place+1=(bA rs top.row).pl.length)/\p'=u++[(9,top.row,top.place+1,0,[])]))))))
section
variable{bs:List Bx}{rs:List Rw}{u:List Fr}{top:Fr}{cs:List Int}{n:Nat}
theorem HJ(hb:di bs)(hr:∀r∈rs,∀q∈r.pl,q.1.Ok bs)(w:WF bs rs (u++[top]) cs n)(hn:n<=1000):
  (bK [bR bs rs,ki (u++[top]) cs]=okD .non/\eR [bR bs rs,ki (u++[top]) cs]=okD .non)\/∃p' cs',bK [bR bs rs,ki (u++[top]) cs]=okD (ki p' cs')/\eR [bR bs rs,ki (u++[top]) cs]=okD (ki p' cs')/\WF bs rs p' cs' n/\Kv bs rs u top cs p' cs':=by
 obtain⟨⟨hrow,hpl⟩,hhl,hq⟩:=w.fr top [20]
 have hu:u.length<=1000:=by have:=w.most;rw[length_append,length_singleton] at this;omega
 have hp4:∀{ρ:MEnv},ρ[0]?=(6,(1,bR bs rs))->ρ[2]?=(6,(1,top.d))->eBin dIx (10,dIx,(8,0,1),(8,2,0)) (22,2) ρ=okD (20,((bA rs top.row).pl.map Bm)):=λh0 h2=>(1,a8 (1,br h0,bu) (1,br h2,Ht top) (pP hrow),gE);by_cases c:top.place=(bA rs top.row).pl.length
 ·exact .inl (5,aA rfl (3,ao (1,(11,bp),jK u top),ao (sk rfl),a7 (ao (hp4 rfl rfl)) (bc (dH (a8 (11,KE top) (eQ (fW rfl) (mf _)) (jH [11])) rfl))),sj (AA hrow c))
 ·right;have hlt:top.place<(bA rs top.row).pl.length:=by omega
  have hpq:(bA rs top.row).pl[top.place]?=(6,(bA rs top.row).pl[top.place]):=(19,hlt);have hok:(bA rs top.row).pl[top.place].1.Ok bs:=hr (bA rs top.row) (by rw[←qB hrow];exact getElem_mem hrow) _ (getElem_mem hlt)
  obtain⟨ht,hhd⟩:=hq _ hpq;have ipl:dIx (20,((bA rs top.row).pl.map Bm)) (.int (top.place:Nat))=okD (Bm (bA rs top.row).pl[top.place]):=ix_tup (by rw[getElem?_map,hpq];rfl)
  generalize (bA rs top.row).pl[top.place]=q at hpq hok ht hhd ipl;have htn:(bz bs q.1)[top.turn]?=(6,(bz bs q.1)[top.turn]):=(19,ht);generalize (bz bs q.1)[top.turn]=t at htn;obtain⟨k1,k2,k3⟩:=P8 hb hok hhd htn cs hhl;have k1':OR cs.length top.hand.length t:=by rw[w.len];exact k1
  have hdone:=yz k1' [11]
  have itn:dIx (13,((bz bs q.1).map Tn.d)) (.int (top.turn:Nat))=okD t.d:=gY (by rw[getElem?_map,htn];rfl)
  have hlen:bM (13,((bz bs q.1).map Tn.d))=okI ((bz bs q.1).length:Nat):=by rw[fU,length_map]
  have hdl:=Ka t cs top.hand;have hpt:top.turn<(dk bs q.1).length:=by rw[←iq];exact ht
  have hho:=M6 hok hhd hpt;have tq:∀{c2 h2:[22]}{t2:Nat},i8 bs q.1 top.turn cs top.hand=(c2,h2,t2)->_:=λha=>sj (G4 hb hok hrow hpq hpt w.len [11] hho hu ha)
  have hat:=λhn=>Ks hok htn hn cs top.hand;generalize hcs:(mD t cs top.hand).1=cs' at hdone hdl;generalize hhn:(mD t cs top.hand).2=hd' at hdone k2 k3
  suffices z:∃p' cs2,mK [some (.sh (bR bs rs)),some (.sh (ki (u++[top]) cs)),some (.sh top.d),some (.sh (bS u)),some (.sh (.tup ((bA rs top.row).pl.map Bm))),some (.sh (.lst ((bz bs q.1).map Tn.d))),some (.sh t.d),some (.sh (.tup [.tup (cs'.map D.int),.tup (hd'.map D.int)]))]=some (.ret (.sh (ki p' cs2)))/\eR [bR bs rs,ki (u++[top]) cs]=okD (ki p' cs2)/\WF bs rs p' cs2 n/\Kv bs rs u top cs p' cs2 by
   obtain⟨p',cs2,e,ep,wf⟩:=z;exact⟨p',cs2,aA rfl (3,ao (1,(11,bp),jK u top),ao (sk rfl),(3,ao (hp4 rfl rfl),(29,a8 (11,KE top) (eQ (fW rfl) (mf _)) (fE [11])),a7 (ao (aI (11,bp) (1,(9,(11,KE top),ipl),bp) (A4 hb hok))) (bI (3,ao (9,(11,QT top),itn),ao (bW rfl (11,bu) (11,fr3 top) hdone),e)))),ep,wf⟩
  have lt_e:∀{ρ:MEnv},ρ[2]?=(6,(1,top.d))->eBin dAdd (8,2,2) (22,1) ρ=okI ((top.turn+1:Nat):Int):=λh=>(1,(1,br h,QT top),Fh _);have pl_e:∀{ρ:MEnv},ρ[2]?=(6,(1,top.d))->eBin dAdd (8,2,1) (22,1) ρ=okI ((top.place+1:Nat):Int):=λh=>(1,(1,br h,KE top),Fh _);have late:(∃h',i8 bs q.1 top.turn cs top.hand=(cs',h',top.turn+1)/\(top.turn+1<(bz bs q.1).length->h'=hd'))->(∀c,t=.same c->cs.getD c 0=top.hand.getD 0 0)->∃p' cs2,mJ [(1,bR bs rs),(1,ki (u++[top]) cs),(1,top.d),(1,bS u),(1,(20,((bA rs top.row).pl.map Bm))),(1,(13,((bz bs q.1).map Tn.d))),(1,t.d),(1,(20,[(20,cs'.map D.int),(20,hd'.map D.int)]))]=(6,.ret (.sh (ki p' cs2)))/\eR [bR bs rs,ki (u++[top]) cs]=okD (ki p' cs2)/\WF bs rs p' cs2 n/\Kv bs rs u top cs p' cs2:=by
   rintro ⟨h',ha,hh'⟩ hns
   have tq:=tq ha;rw[←iq] at tq;by_cases c1:top.turn+1<(bz bs q.1).length
   ·refine⟨u++[(9,top.row,top.place,top.turn+1,hd')],cs',bc (dH (a8 (lt_e rfl) (eQ (fW rfl) hlen) (Et [11])) (aF (5,bS (u++[(9,top.row,top.place,top.turn+1,hd')]),.sh (20,cs'.map D.int),(9,aT (ke (11,Ht top) (11,KE top) (lt_e rfl) (11,bu) rfl) rfl,B6 hu (9,top.row,top.place,top.turn+1,hd')),(11,bp)))),by rw[(39,c1),hh' c1] at tq;exact tq,w.swap (12,(5,hrow,hpl),k2,λq' hq'=>?_) rfl hdl,q,t,hpq,htn,.inr (12,hns,hcs.symm,.inl (5,c1,by rw[hhn]))⟩
    rw[hpq] at hq';cases hq';exact(5,c1,k3 c1)
   ·by_cases c2:0<top.row/\top.place+1=(bA rs top.row).pl.length
    ·exact⟨u,cs',a7 (29,a8 (lt_e rfl) (eQ (fW rfl) hlen) (vn [11])) (bc (dH (dc (1,(11,Ht top),sW [11]) (a8 (pl_e rfl) (eQ (fW rfl) (mf _)) (jH [11]))) (aF (5,bS u,.sh (20,cs'.map D.int),rfl,(11,bp))))),by rw[(42,c1),(39,c2)] at tq;exact tq,w.pop c2.1 hdl,q,t,hpq,htn,.inr (12,hns,hcs.symm,.inr (5,by omega,.inl (14,c2.1,c2.2)))⟩
    ·have hf:eAnd (6,dGt,(8,2,0),0) (10,dEq,(6,dAdd,(8,2,1),1),(21,bM,[(dI 4)])) [(1,bR bs rs),(1,ki (u++[top]) cs),(1,top.d),(1,bS u),(1,(20,((bA rs top.row).pl.map Bm))),(1,(13,((bz bs q.1).map Tn.d))),(1,t.d),(1,(20,[(20,cs'.map D.int),(20,hd'.map D.int)]))]=okB false:=by
      by_cases c3:0<top.row
      ·exact dc (1,(11,Ht top),sW [11]) (a8 (pl_e rfl) (eQ (fW rfl) (mf _)) (fE [11]))
      ·exact jk (1,(11,Ht top),xm [11])
     exact⟨u++[(9,top.row,top.place+1,0,[])],cs',(3,(29,a8 (lt_e rfl) (eQ (fW rfl) hlen) (vn [11])),(29,hf),aF (5,bS (u++[(9,top.row,top.place+1,0,[])]),.sh (20,cs'.map D.int),(9,aT (ke (11,Ht top) (pl_e rfl) rfl rfl rfl) rfl,B6 hu (9,top.row,top.place+1,0,[])),(11,bp))),by rw[(42,c1),(42,c2)] at tq;exact tq,w.swap (qR hb hr hrow [11]) rfl hdl,q,t,hpq,htn,.inr (12,hns,hcs.symm,.inr (5,by omega,.inr (5,c2,rfl)))⟩
  by_cases cs0:∃c,t=.same c
  ·obtain⟨sc,rfl⟩:=cs0;have has:=EZ htn hok cs top.hand;have hcs0:cs=cs':=hcs;have hhn0:top.hand=hd':=hhn;have i1:dIx (20,cs.map D.int) (.int (sc:Nat))=okI (cs.getD sc 0):=fg k1'.1;have i2:dIx (20,top.hand.map D.int) (4,0)=okI (top.hand.getD 0 0):=fg (c:=0) k1'.2;by_cases c4:cs.getD sc 0=top.hand.getD 0 0
   ·rw[(39,c4)] at has;obtain⟨p',cs2,e,ep,wf⟩:=late (12,top.hand,by rw[←hcs0];exact has,λ_=>hhn0) (λc z=>by cases z;exact c4)
    exact⟨p',cs2,a7 (29,dc (1,(11,bp),i6 rfl) (a8 (a8 (11,bu) (11,bu) i1) (1,(11,fr3 top),i2) (GQ c4))) e,ep,wf⟩
   ·rw[(42,c4)] at has;have tq:=tq has;rw[(39,[11])] at tq
    exact⟨u++[(9,top.row,top.place,0,[])],cs',bc (dH (dc (1,(11,bp),i6 rfl) (a8 (a8 (11,bu) (11,bu) i1) (1,(11,fr3 top),i2) (LJ c4))) (aF (5,bS (u++[(9,top.row,top.place,0,[])]),.sh (20,cs'.map D.int),(9,aT (ke (11,Ht top) (11,KE top) rfl rfl rfl) rfl,B6 hu (9,top.row,top.place,0,[])),(11,bp)))),by rw[←hcs0];exact tq,w.swap (qR hb hr hrow hpl) rfl hdl,q,_,hpq,htn,.inl ⟨sc,rfl,c4,rfl,hcs0.symm⟩⟩
  ·have ha:=hat λc h=>cs0 (5,c,h);rw[hcs,hhn] at ha;obtain⟨p',cs2,e,ep,wf⟩:=late ha λc h=>absurd (5,c,h) cs0;exact⟨p',cs2,a7 (29,jk (Jf (λc h=>cs0 (5,c,h)) rfl)) e,ep,wf⟩
end
theorem Dt(bs:[28]):(cP bs).length=sM bs:=by
 have hts:∀x,x<=bs.length->((bs.take x).map λb=>b.2.length).sum=(33,x):=λx h=>by
  unfold fstB;congr 1;refine List.ext_getElem? λi=>?_;rw[getElem?_map,getElem?_map];by_cases hi:i<x
  ·rw[List.getElem?_take_of_lt hi,getElem?_range hi,(19,[11])]
   show(6,bs[i].2.length)=(6,(28,i));rw[Ds [11]]
  ·rw[getElem?_eq_none (by rw[length_take];omega),getElem?_eq_none (by rw[length_range];omega)];rfl
 have h:=hts bs.length [23];rw[List.take_length] at h;unfold cP sM;rw[List.length_flatten,map_map,←h];rfl
theorem tR(n:Nat)(i:Int):vg n (4,i)=true:=by cases n <;> rfl
theorem qM(n:Nat)(l:[22]):(l.map D.int).all (vg n)=true:=all_eq_true.mpr λd hd=>by obtain⟨i,_,rfl⟩:=mem_map.mp hd;exact tR n i
theorem Oe(f:Fr):vg 4 f.d=true:=by
 show List.all _ (vg 3)=true;simp only[List.all_cons,List.all_nil,tR,Bool.true_and,Bool.and_true];exact qM 2 f.hand
theorem Oc(p:List Fr)(cs:[22]):zC (ki p cs)=true:=by
 show List.all _ (vg 5)=true;simp only[List.all_cons,List.all_nil,Bool.and_true,Bool.and_eq_true];exact(5,all_eq_true.mpr λd hd=>by obtain⟨f,_,rfl⟩:=mem_map.mp hd;exact Oe f,qM 4 cs)
theorem yw{c:ME}{body:MC}{n:Nat}{ρ ρ2:MEnv}{o:(9,mI)}(h:c ρ=okB true)(hb:body ρ=(30,ρ2))(h2:cO c body n ρ2=o):cO c body (n+1) ρ=o:=by
 unfold cO;rw[h];show(if true=true then(match body ρ with|some (.next ρ2)=>cO c body n ρ2|some (.cont ρ2)=>cO c body n ρ2|some (.brk ρ2)=>(30,ρ2)|o=>o) else(30,ρ))=o
 rw[(39,rfl),hb];exact h2
theorem qd{c:ME}{body:MC}{n:Nat}{ρ:MEnv}(h:c ρ=okB false):cO c body (n+1) ρ=(30,ρ):=by
 unfold cO;rw[h];rfl
section
variable{rs:List Rw}{p:List Fr}
theorem HC{top:Fr}{k:Nat}(h:k∈iN rs p top):k<rs.length:=by
 unfold iN at h;obtain⟨j,hj,rfl⟩:=mem_map.mp h;have:=mem_range.mp (mem_filter.mp hj).1;omega
theorem ES{top:Fr}:(iN rs p top).length<=rs.length:=by
 unfold iN;rw[length_map];refine le_trans (List.length_filter_le _ _) ?_;rw[length_range];omega
end
theorem KN{c:ME}{body:MC}{n:Nat}{ρ:MEnv}{x:D}(h:c ρ=okB true)(hb:body ρ=(6,.exc x)):cO c body (n+1) ρ=(6,.exc x):=by
 unfold cO;rw[h];show(if true=true then(match body ρ with|some (.next ρ2)=>cO c body n ρ2|some (.cont ρ2)=>cO c body n ρ2|some (.brk ρ2)=>(30,ρ2)|o=>o) else(30,ρ))=_
 rw[(39,rfl),hb]
def vD:(9,R)->D
 |some (.ok (.sh d))=>d
 |_=>.non
def vL:(9,R)->[21]
 |some (.ok (.own (.lst l)))=>l
 |_=>[]
def QM:D->(9,D)
 |.non=>none
 |d=>(6,d)
def nxtD(pr s:D):(9,D):=QM (vD (bK [pr,s]))
def comL(pr s:D):[21]:=vL (cx [pr,vD (dIx s (4,0))])
def cmD(s b:D):D:=vD (cK [s,b])
def comD(pr s:D):[21]:=(comL pr s).map (cmD s)
theorem WF.top{bs:[28]}{rs:List Rw}{p:List Fr}{cs:[22]}{n:Nat}(w:WF bs rs p cs n):∃u t,p=u++[t]:=by
 obtain⟨b,r,e,_⟩:=w.hd;have hne:p≠[]:=by rw[e];exact List.cons_ne_nil _ _
 exact(12,p.dropLast,p.getLast hne,(List.dropLast_concat_getLast hne).symm)
structure D5(pr:D)(G:Nat->D->Prop):Prop where
 ok:∀k s,G k s->zC s=true
 nn:∀k s,G k s->lG s=okB true
 bh:∀k s,G k s->(nxtD pr s=none/\eR [pr,s]=okD .non/\bK [pr,s]=okD .non)\/∃s',nxtD pr s=(6,s')/\eR [pr,s]=okD s'/\bK [pr,s]=okD s'/\G k s'
 cl:∀k s,G k s->k<=20->iB [pr,s]=okL (comL pr s)/\(∃pl,dIx s (4,0)=okD pl/\cx [pr,pl]=okL (comL pr s))/\(comL pr s).length<=7
 cm:∀k s b,G k s->k<=20->b∈comL pr s->ml [pr,s,b]=okD (cmD s b)/\cK [s,b]=okD (cmD s b)/\G (k+1) (cmD s b)
def Gd(bs:[28])(rs:List Rw)(k:Nat)(s:D):Prop:=∃u top cs,s=ki (u++[top]) cs/\WF bs rs (u++[top]) cs (k+1)
theorem Nr{bs:[28]}{rs:List Rw}(hb:di bs)(hr:∀r∈rs,∀q∈r.pl,q.1.Ok bs)(hl:1<=rs.length/\rs.length<=7):D5 (bR bs rs) (λk s=>k<=900/\Gd bs rs k s):=by
 have cl:∀u top cs k,WF bs rs (u++[top]) cs (k+1)->comL (bR bs rs) (ki (u++[top]) cs)=(iN rs (u++[top]) top).map intD:=λu top cs k w=>by
  unfold comL;have e:dIx (ki (u++[top]) cs) (4,0)=okD (bS (u++[top])):=bp;rw[e];show vL (cx [bR bs rs,bS (u++[top])])=_;rw[oU (λf hf=>(w.fr f hf).1) hl];rfl
 refine⟨λk s ⟨_,u,top,cs,e,w⟩=>by rw[e];exact Oc _ _,λk s ⟨_,u,top,cs,e,w⟩=>by rw[e];rfl,λk s ⟨hk,u,top,cs,e,w⟩=>?_,λk s ⟨hk,u,top,cs,e,w⟩ hk20=>?_,λk s b ⟨hk,u,top,cs,e,w⟩ hk20 hb'=>?_⟩
 ·subst e;rcases HJ hb hr w (by omega) with⟨e1,e2⟩|⟨p',cs',e1,e2,w',_⟩
  ·exact .inl (12,by unfold nxtD;rw[e1];rfl,e2,e1)
  ·obtain⟨u',top',rfl⟩:=w'.top;exact .inr ⟨_,by unfold nxtD;rw[e1];rfl,e2,e1,hk,u',top',cs',rfl,w'⟩
 ·subst e;rw[cl u top cs k w];refine(12,BP (λf hf=>(w.fr f hf).1) hl cs,(12,_,bp,oU (λf hf=>(w.fr f hf).1) hl),?_);rw[length_map];exact le_trans ES hl.2
 ·subst e;rw[cl u top cs k w] at hb';obtain⟨j,hj,rfl⟩:=mem_map.mp hb';have hjl:=HC hj;have hm:=w.most;have e1:cK [ki (u++[top]) cs,intD j]=okD (ki (u++[top]++[f9 j]) cs):=Cg [11] cs j
  have e2:cmD (ki (u++[top]) cs) (intD j)=ki (u++[top]++[f9 j]) cs:=by unfold cmD;rw[e1];rfl
  rw[e2];refine⟨Mr [11] cs j,e1,by omega,u++[top],f9 j,cs,rfl,(9,λf hf=>?_,?_,w.len,?_)⟩
  ·rcases mem_append.mp hf with h|h
   ·exact w.fr f h
   ·rw[(37,h)];exact qR hb hr hjl (zero_le _)
  ·obtain⟨b0,r0,h1,h2⟩:=w.hd;exact(9,b0,r0++[f9 j],by rw[h1];rfl,h2)
  ·rw[length_append,length_singleton];omega
end Bell
namespace Bell
section
variable{α:Type}{nxt:α->Option α}{com:α->List α}{most:Nat}
def aO(T:[32]):List α:=T.map (·.1)
theorem iA(T U:[32]):aO (T++U)=aO T++aO U:=map_append
inductive Walk(nxt:α->Option α)(most:Nat)(p:Int):Option α->List (α×Int)->Option (List (α×Int))->Prop
 |stop (T):Walk nxt most p none T (6,T)
 |seen (s T) (h:s∈aO T):Walk nxt most p (6,s) T (6,T)
 |full (s T) (h:s∉aO T) (e:T.length=most):Walk nxt most p (6,s) T none
 |step (s T r) (h:s∉aO T) (e:T.length<most) (w:Walk nxt most p (nxt s) (T++[(s,p)]) r):Walk nxt most p (6,s) T r
open Classical in
theorem yx(p:Int):∀(n:Nat)(os:(9,α))(T:[32]),T.length+n=most->∃r,Walk nxt most p os T r
 |n,none,T,_=>(5,_,.stop T)
 |n,some s,T,h=>by
  by_cases m:s∈aO T
  ·exact(5,_,.seen s T m)
  ·cases n with
   |zero=>exact(5,_,.full s T m [11])
   |succ n=>
    obtain⟨r,w⟩:=yx p n (nxt s) (T++[(s,p)]) (by rw[length_append,length_singleton];omega)
    exact(5,r,.step s T r m [11] w)
structure OQ(nxt:α->Option α)(most:Nat)(p:Int)(os:Option α)(T E:List (α×Int)):Prop where
 price:∀r∈E,r.2=p
 nd:(aO T).Nodup->(aO (T++E)).Nodup
 len:T.length<=most->(T++E).length<=most
 here:∀s,os=(6,s)->s∈aO (T++E)
 on:∀r∈E,∀s',nxt r.1=(6,s')->s'∈aO (T++E)
 due:∀A r B,E=A++r::B->(A=[]/\os=(6,r.1))\/∃r'∈A,nxt r'.1=(6,r.1)
theorem nL{p:Int}{os:(9,α)}{T:[32]}{r:(9,[32])}(w:Walk nxt most p os T r):∀T',r=(6,T')->∃E,T'=T++E/\OQ nxt most p os T E:=by
 induction w with
 |stop T=>exact λT' e=>by cases e;exact(12,[],(append_nil _).symm,⟨nofun,λh=>by rwa[append_nil],λh=>by rwa[append_nil],nofun,nofun,λA r B e=>by cases A <;> cases e⟩)
 |seen s T h=>exact λT' e=>by cases e;exact(12,[],(append_nil _).symm,⟨nofun,λh=>by rwa[append_nil],λh=>by rwa[append_nil],λs' e=>by cases e;rwa[append_nil],nofun,λA r B e=>by cases A <;> cases e⟩)
 |full s T h e=>exact λT' e=>nomatch e
 |step s T r h e w ih=>
  intro T' e';obtain⟨E,rfl,W⟩:=ih T' e';have ee:T++[(s,p)]++E=T++((s,p)::E):=by rw[append_assoc];rfl
  obtain⟨h1,h2,h3,h4,h5,h6⟩:=W;rw[ee] at h2 h3 h4 h5;refine(12,(s,p)::E,ee,⟨λr hr=>?_,λhn=>h2 ?_,λhl=>h3 (by rw[length_append,length_singleton];omega),λs' e=>?_,λr hr s' hs=>?_,λA r B e=>?_⟩)
  ·rcases mem_cons.mp hr with rfl|hr
   ·rfl
   ·exact h1 r hr
  ·rw[iA];exact List.nodup_append.mpr ⟨hn,nodup_cons.mpr (5,nofun,nodup_nil),λa ha b hb=>by
    have hb':b=s:=(37,(show b∈[s] from hb));exact λy=>h (by rw[←hb',←y];exact ha)⟩
  ·cases e;rw[iA];exact(41,(mem_cons_self ..))
  ·rcases mem_cons.mp hr with rfl|hr
   ·exact h4 s' hs
   ·exact h5 r hr s' hs
  ·cases A with
   |nil=>cases e;exact .inl (5,rfl,rfl)
   |cons a A=>
    have e1:(s,p)=a:=(List.cons.inj e).1;have e2:E=A++r::B:=(List.cons.inj e).2;subst e1;rcases h6 A r B e2 with⟨rfl,y⟩|⟨r',hr',y⟩
    ·exact .inr (12,(s,p),mem_cons_self ..,y)
    ·exact .inr (12,r',(31,hr'),y)
inductive Walks(nxt:α->Option α)(most:Nat)(p:Int):List α->List (α×Int)->Option (List (α×Int))->Prop
 |nil (T):Walks nxt most p [] T (6,T)
 |over (c cs T) (w:Walk nxt most p (6,c) T none):Walks nxt most p (c::cs) T none
 |cons (c cs T T1 r) (w:Walk nxt most p (6,c) T (6,T1)) (ws:Walks nxt most p cs T1 r):Walks nxt most p (c::cs) T r
theorem Ax(p:Int):∀(cs:List α)(T:[32]),T.length<=most->∃r,Walks nxt most p cs T r
 |[],T,_=>(5,_,.nil T)
 |c::cs,T,h=>by
  obtain⟨r,w⟩:=yx (nxt:=nxt) (most:=most) p (most - T.length) (6,c) T [11]
  cases r with
  |none=>exact(5,_,.over c cs T w)
  |some T1=>
   obtain⟨E,rfl,W⟩:=nL w T1 rfl;obtain⟨r,ws⟩:=Ax p cs _ (W.len h);exact(5,r,.cons c cs T _ r w ws)
theorem xy{p:Int}:∀(a:List α){b:List α}{T:[32]}{r:(9,[32])},Walks nxt most p (a++b) T r->(r=none/\Walks nxt most p a T none)\/∃T1,Walks nxt most p a T (6,T1)/\Walks nxt most p b T1 r
 |[],b,T,r,w=>.inr (12,T,.nil T,w)
 |c::a,b,T,r,w=>by
  cases w with
  |over _ _ _ w=>exact .inl (5,rfl,.over c a T w)
  |cons _ _ _ T1 _ w ws=>
   rcases xy a ws with⟨e,z⟩|⟨T2,z1,z2⟩
   ·exact .inl (5,e,.cons c a T T1 none w z)
   ·exact .inr (12,T2,.cons c a T T1 _ w z1,z2)
structure MD(nxt:α->Option α)(most:Nat)(p:Int)(cs:List α)(T E:List (α×Int)):Prop where
 price:∀r∈E,r.2=p
 nd:(aO T).Nodup->(aO (T++E)).Nodup
 len:T.length<=most->(T++E).length<=most
 here:∀s∈cs,s∈aO (T++E)
 on:∀r∈E,∀s',nxt r.1=(6,s')->s'∈aO (T++E)
 due:∀A r B,E=A++r::B->r.1∈cs\/∃r'∈A,nxt r'.1=(6,r.1)
theorem qO{T E:[32]}{s:α}(h:s∈aO T):s∈aO (T++E):=by rw[iA];exact mem_append_left _ h
theorem As{β:Type}:∀{X Y A B:List β}{r:β},X++Y=A++r::B->(∃B',X=A++r::B')\/∃A',A=X++A'/\Y=A'++r::B
 |[],Y,A,B,r,e=>.inr (12,A,rfl,e)
 |x::X,Y,[],B,r,e=>by have:=(List.cons.inj e).1;subst this;exact .inl (5,X,rfl)
 |x::X,Y,a::A,B,r,e=>by
  have h1:=(List.cons.inj e).1;subst h1;rcases As (List.cons.inj e).2 with⟨B',h⟩|⟨A',h,h'⟩
  ·exact .inl (5,B',by rw[h];rfl)
  ·exact .inr (12,A',by rw[h];rfl,h')
theorem iO{p:Int}{cs:List α}{T:[32]}{r:(9,[32])}(w:Walks nxt most p cs T r):∀T',r=(6,T')->∃E,T'=T++E/\MD nxt most p cs T E:=by
 induction w with
 |nil T=>exact λT' e=>by cases e;exact(12,[],(append_nil _).symm,⟨nofun,λh=>by rwa[append_nil],λh=>by rwa[append_nil],nofun,nofun,λA r B e=>by cases A <;> cases e⟩)
 |over c cs T w=>exact λT' e=>nomatch e
 |cons c cs T T1 r w ws ih=>
  intro T' e';obtain⟨E2,rfl,W2⟩:=ih T' e';obtain⟨E1,rfl,W1⟩:=nL w T1 rfl;have ee:T++E1++E2=T++(E1++E2):=append_assoc ..;refine(12,E1++E2,ee,⟨λr hr=>(mem_append.mp hr).elim (W1.price r) (W2.price r),λh=>?_,λh=>?_,λs hs=>?_,λr hr s' h=>?_,λA r B e=>?_⟩)
  ·rw[←ee];exact W2.nd (W1.nd h)
  ·rw[←ee];exact W2.len (W1.len h)
  ·rw[←ee];rcases mem_cons.mp hs with rfl|hs
   ·exact qO (W1.here _ rfl)
   ·exact W2.here s hs
  ·rw[←ee];rcases mem_append.mp hr with hr|hr
   ·exact qO (W1.on r hr s' h)
   ·exact W2.on r hr s' h
  ·rcases As e with⟨B',h⟩|⟨A',rfl,h⟩
   ·rcases W1.due A r B' h with⟨_,y⟩|y
    ·exact .inl (by cases y;exact mem_cons_self ..)
    ·exact .inr y
   ·rcases W2.due A' r B h with y|⟨r',h1,h2⟩
    ·exact .inl (31,y)
    ·exact .inr (12,r',(41,h1),h2)
end
end Bell
namespace Bell
section
variable{α:Type}{nxt:α->Option α}{com:α->List α}{most:Nat}
inductive l0(nxt:α->Option α)(com:α->List α)(most many:Nat):Nat->Nat->List (α×Int)->Option (List (α×Int))->Prop
 |done (p c T) (h:many<p):l0 nxt com most many p c T (6,T)
 |over (p c T) (h:p<=many) (w:Walks nxt most (p:Nat) ((aO (T.drop c)).flatMap com) T none):l0 nxt com most many p c T none
 |next (p c T T1 r) (h:p<=many) (w:Walks nxt most (p:Nat) ((aO (T.drop c)).flatMap com) T (some T1)) (k:l0 nxt com most many (p+1) T.length T1 r):l0 nxt com most many p c T r
theorem xM{many:Nat}:∀(n p c:Nat)(T:[32]),many+1<=p+n->T.length<=most->∃r,l0 nxt com most many p c T r
 |0,p,c,T,h,_=>(5,_,.done p c T [11])
 |n+1,p,c,T,h,hl=>by
  by_cases hp:p<=many
  ·obtain⟨r,w⟩:=Ax (nxt:=nxt) (most:=most) (p:Nat) ((aO (T.drop c)).flatMap com) T hl;cases r with
   |none=>exact(5,_,.over p c T hp w)
   |some T1=>
    obtain⟨E,rfl,W⟩:=iO w T1 rfl;obtain⟨r,k⟩:=xM (many:=many) n (p+1) T.length (T++E) [11] (W.len hl)
    exact(5,r,.next p c T _ r hp w k)
  ·exact(5,_,.done p c T [11])
structure Qd(nxt:α->Option α)(com:α->List α)(most:Nat)(b:α)(p c:Nat)(T:List (α×Int)):Prop where
 nd:(aO T).Nodup
 len:T.length<=most
 price:∀r∈T,0<=r.2/\r.2<=p
 last:∀r∈T.drop c,r.2=p
 beg:∃R,T=(b,0)::R
 on:∀r∈T,∀s',nxt r.1=(6,s')->∃q,(s',q)∈T/\q<=r.2
 cm:∀r∈T.take c,∀s'∈com r.1,∃q,(s',q)∈T/\q<=r.2+1
 due:∀A r B,T=A++r::B->r=(b,0)\/∃r'∈A,(nxt r'.1=(6,r.1)/\r.2=r'.2)\/(r.1∈com r'.1/\r.2=r'.2+1)
theorem jL{T:[32]}{s:α}:s∈aO T↔∃q,(s,q)∈T:=by
 unfold aO;rw[mem_map];exact(5,λ⟨⟨a,q⟩,h,e⟩=>(5,q,by cases e;exact h),λ⟨q,h⟩=>(14,(s,q),h))
theorem G6(hm:0<most){b:α}{T:[32]}(w:Walks nxt most 0 [b] [] (6,T)):Qd nxt com most b 0 0 T:=by
 obtain⟨E,e,W⟩:=iO w T rfl;rw[nil_append] at e;subst e;have hp:∀r∈T,r.2=0:=W.price;have hb:∃R,T=(b,0)::R:=by
  cases T with
  |nil=>exact absurd (W.here b (mem_cons_self ..)) nofun
  |cons r R=>
   have h0:=hp r (mem_cons_self ..);rcases W.due [] r R rfl with y|⟨r',h,_⟩
   ·exact⟨R,by
     obtain⟨a,q⟩:=r;have h1:a=b:=(37,y);have h2:q=0:=h0;rw[h1,h2]⟩
   ·cases h
 refine⟨W.nd nodup_nil,W.len (zero_le _),λr hr=>by rw[hp r hr];exact(5,Int.le_refl _,Int.le_refl _),λr hr=>hp r hr,hb,λr hr s' h=>?_,nofun,λA r B e=>?_⟩
 ·obtain⟨q,hq⟩:=jL.mp (W.on r hr s' h);exact(12,q,hq,by have h1:q=0:=hp _ hq;rw[h1,hp r hr];exact Int.le_refl _)
 ·have hr:r.2=0:=hp r (by rw[e];exact(41,(mem_cons_self ..)))
  rcases W.due A r B e with y|⟨r',h1,h2⟩
  ·obtain⟨a,q⟩:=r;have h1:a=b:=(37,y);have h2:q=0:=hr;exact .inl (by rw[h1,h2])
  ·exact .inr (12,r',h1,.inl (5,h2,by rw[hr,hp r' (by rw[e];exact mem_append_left _ h1)]))
theorem Qd.next{b:α}{p c:Nat}{T T1:[32]}(t:Qd nxt com most b p c T)(w:Walks nxt most ((p+1:Nat):Int) ((aO (T.drop c)).flatMap com) T (6,T1)):Qd nxt com most b (p+1) T.length T1:=by
 obtain⟨E,rfl,W⟩:=iO w T1 rfl;have hpr:∀r∈T++E,0<=r.2/\r.2<=(p+1:Nat):=λr hr=>by
  rcases mem_append.mp hr with h|h
  ·have:=t.price r h;omega
  ·have:=W.price r h;omega
 obtain⟨R,hR⟩:=t.beg;refine⟨W.nd t.nd,W.len t.len,hpr,λr hr=>?_,(5,R++E,by rw[hR];rfl),λr hr s' h=>?_,λr hr s' h=>?_,λA r B e=>?_⟩
 ·rw[List.drop_left] at hr;exact W.price r hr
 ·rcases mem_append.mp hr with h'|h'
  ·obtain⟨q,h1,h2⟩:=t.on r h' s' h;exact(12,q,mem_append_left _ h1,h2)
  ·obtain⟨q,hq⟩:=jL.mp (W.on r h' s' h);exact(12,q,hq,by rw[W.price r h'];exact(hpr _ hq).2)
 ·rw[List.take_left] at hr;by_cases hc:r∈T.take c
  ·obtain⟨q,h1,h2⟩:=t.cm r hc s' h;exact(12,q,mem_append_left _ h1,h2)
  ·have hd:r∈T.drop c:=by
    rw[←List.take_append_drop c T] at hr;exact(mem_append.mp hr).resolve_left hc
   have hs:s'∈(aO (T.drop c)).flatMap com:=List.mem_flatMap.mpr (12,r.1,mem_map.mpr (14,r,hd),h);obtain⟨q,hq⟩:=jL.mp (W.here s' hs);refine(12,q,hq,?_);have h1:=(hpr _ hq).2;have h2:=t.last r hd;have h3:q<=(p+1:Nat):=h1;omega
 ·rcases As e with⟨B',h⟩|⟨A',rfl,h⟩
  ·exact t.due A r B' h
  ·have hr:r.2=(p+1:Nat):=W.price r (by rw[h];exact(41,(mem_cons_self ..)))
   rcases W.due A' r B h with y|⟨r',h1,h2⟩
   ·obtain⟨s,h1,h2⟩:=List.mem_flatMap.mp y;obtain⟨r',h3,rfl⟩:=mem_map.mp h1;have h4:=t.last r' h3;exact .inr (12,r',mem_append_left _ (List.mem_of_mem_drop h3),.inr (53,h2))
   ·have h3:r'.2=(p+1:Nat):=W.price r' (by rw[h];exact mem_append_left _ h1)
    exact .inr (12,r',(41,h1),.inl (53,h2))
structure Qc(nxt:α->Option α)(com:α->List α)(most many:Nat)(b:α)(T:List (α×Int)):Prop where
 nd:(aO T).Nodup
 len:T.length<=most
 price:∀r∈T,0<=r.2/\r.2<=many
 beg:∃R,T=(b,0)::R
 on:∀r∈T,∀s',nxt r.1=(6,s')->∃q,(s',q)∈T/\q<=r.2
 cm:∀r∈T,r.2<many->∀s'∈com r.1,∃q,(s',q)∈T/\q<=r.2+1
 due:∀A r B,T=A++r::B->r=(b,0)\/∃r'∈A,(nxt r'.1=(6,r.1)/\r.2=r'.2)\/(r.1∈com r'.1/\r.2=r'.2+1)
theorem Bf{many:Nat}{b:α}{p1 c:Nat}{T:[32]}{r:(9,[32])}(k:l0 nxt com most many p1 c T r):∀p,p1=p+1->p<=many->Qd nxt com most b p c T->∀T',r=(6,T')->Qc nxt com most many b T':=by
 induction k with
 |done p1 c T h=>
  intro p e hp t T' e';cases e';obtain rfl:p=many:=by omega
  refine⟨t.nd,t.len,t.price,t.beg,t.on,λr hr hlt=>?_,t.due⟩;by_cases hc:r∈T.take c
  ·exact t.cm r hc
  ·have hd:r∈T.drop c:=by
    rw[←List.take_append_drop c T] at hr;exact(mem_append.mp hr).resolve_left hc
   have:=t.last r hd;omega
 |over p1 c T h w=>exact λp e hp t T' e'=>nomatch e'
 |next p1 c T T1 r h w k ih=>
  intro p e hp t T' e';subst e;exact ih (p+1) rfl h (t.next w) T' e'
inductive lJ(nxt:α->Option α)(com:α->List α)(cap:Nat):Option α->List α->List α->List α->List α->Prop
 |stop (K C):lJ nxt com cap none K C K C
 |seen (s K C) (h:s∈K):lJ nxt com cap (6,s) K C K C
 |full (s K C) (h:s∉K) (e:cap<K.length):lJ nxt com cap (6,s) K C K C
 |step (s K C K' C') (h:s∉K) (e:K.length<=cap) (w:lJ nxt com cap (nxt s) (K++[s]) (C++com s) K' C'):lJ nxt com cap (6,s) K C K' C'
open Classical in
theorem vH{os:(9,α)}{K C:List α}(h:most<K.length):lJ nxt com most os K C K C:=by
 cases os with
 |none=>exact .stop K C
 |some s=>
  by_cases m:s∈K
  ·exact .seen s K C m
  ·exact .full s K C m h
theorem pV{p:Int}{os:(9,α)}{T:[32]}{r:(9,[32])}(w:Walk nxt most p os T r):∀T' C,r=(6,T')->∃E,T'=T++E/\lJ nxt com most os (aO T) C (aO T') (C++(aO E).flatMap com):=by
 induction w with
 |stop T=>exact λT' C e=>by cases e;exact(12,[],(append_nil _).symm,by show lJ nxt com most none (aO T) C (aO T) (C++[]);rw[append_nil];exact .stop _ _)
 |seen s T h=>exact λT' C e=>by cases e;exact(12,[],(append_nil _).symm,by show lJ nxt com most (6,s) (aO T) C (aO T) (C++[]);rw[append_nil];exact .seen _ _ _ h)
 |full s T h e=>exact λT' C e=>nomatch e
 |step s T r h e w ih=>
  intro T' C e';obtain⟨E,e1,z⟩:=ih T' (C++com s) e';refine(12,(s,p)::E,by rw[e1,append_assoc];rfl,.step s _ _ _ _ h (by unfold aO;rw[length_map];omega) ?_)
  rw[iA] at z;show lJ nxt com most (nxt s) (aO T++[s]) (C++com s) (aO T') (C++(com s++(aO E).flatMap com));rw[←append_assoc];exact z
theorem vI{p:Int}{os:(9,α)}{T:[32]}{r:(9,[32])}(w:Walk nxt most p os T r):∀C,r=none->∃K' C',lJ nxt com most os (aO T) C K' C'/\most<K'.length:=by
 induction w with
 |stop T=>exact λC e=>nomatch e
 |seen s T h=>exact λC e=>nomatch e
 |full s T h e=>
  intro C _;have hl:(aO T).length=most:=by unfold aO;rw[length_map];exact e
  have h2:most<(aO T++[s]).length:=by rw[length_append,length_singleton];omega
  exact(9,_,_,.step s _ C _ _ h [11] (vH h2),h2)
 |step s T r h e w ih=>
  intro C e';obtain⟨K',C',z,hl⟩:=ih (C++com s) e';rw[iA] at z;exact(9,K',C',.step s _ C _ _ h (by unfold aO;rw[length_map];omega) z,hl)
inductive mw(nxt:α->Option α)(com:α->List α)(cap:Nat):List α->List α->List α->List α->List α->Prop
 |nil (K C):mw nxt com cap [] K C K C
 |cons (c cs K C K1 C1 K2 C2) (w:lJ nxt com cap (6,c) K C K1 C1) (ws:mw nxt com cap cs K1 C1 K2 C2):mw nxt com cap (c::cs) K C K2 C2
theorem nA:∀(cs:List α){K C:List α},most<K.length->mw nxt com most cs K C K C
 |[],K,C,_=>.nil K C
 |c::cs,K,C,h=>.cons c cs K C K C K C (vH h) (nA cs h)
theorem CN{p:Int}{cs:List α}{T:[32]}{r:(9,[32])}(w:Walks nxt most p cs T r):∀T' C,r=(6,T')->∃E,T'=T++E/\mw nxt com most cs (aO T) C (aO T') (C++(aO E).flatMap com):=by
 induction w with
 |nil T=>exact λT' C e=>by cases e;exact(12,[],(append_nil _).symm,by show mw nxt com most [] (aO T) C (aO T) (C++[]);rw[append_nil];exact .nil _ _)
 |over c cs T w=>exact λT' C e=>nomatch e
 |cons c cs T T1 r w ws ih=>
  intro T' C e';obtain⟨E1,e1,z1⟩:=pV (com:=com) w T1 C rfl;obtain⟨E2,e2,z2⟩:=ih T' (C++(aO E1).flatMap com) e';refine(12,E1++E2,by rw[e2,e1,append_assoc],.cons c cs _ C _ _ _ _ z1 ?_)
  rw[iA,List.flatMap_append,←append_assoc];exact z2
theorem CO{p:Int}{cs:List α}{T:[32]}{r:(9,[32])}(w:Walks nxt most p cs T r):∀C,r=none->∃K' C',mw nxt com most cs (aO T) C K' C'/\most<K'.length:=by
 induction w with
 |nil T=>exact λC e=>nomatch e
 |over c cs T w=>
  intro C _;obtain⟨K',C',z,h⟩:=vI (com:=com) w C rfl;exact(9,K',C',.cons c cs _ C K' C' K' C' z (nA cs h),h)
 |cons c cs T T1 r w ws ih=>
  intro C e';obtain⟨E1,e1,z1⟩:=pV (com:=com) w T1 C rfl;obtain⟨K',C',z2,h⟩:=ih _ e';exact(9,K',C',.cons c cs _ C _ _ _ _ z1 z2,h)
inductive kO(nxt:α->Option α)(com:α->List α)(cap:Nat):Nat->List α->List α->List α->Prop
 |done (L K):kO nxt com cap 0 L K K
 |next (n L K K1 C1 K2) (w:mw nxt com cap L K [] K1 C1) (k:kO nxt com cap n C1 K1 K2):kO nxt com cap (n+1) L K K2
theorem mm:∀(n:Nat)(L:List α){K:List α},most<K.length->kO nxt com most n L K K
 |0,L,K,_=>.done L K
 |n+1,L,K,h=>.next n L K K [] K (nA L h) (mm n [] h)
theorem yY{many:Nat}{p c:Nat}{T:[32]}{r:(9,[32])}(k:l0 nxt com most many p c T r):r=none->∃K',kO nxt com most (many+1 - p) ((aO (T.drop c)).flatMap com) (aO T) K'/\most<K'.length:=by
 induction k with
 |done p c T h=>exact λe=>nomatch e
 |over p c T h w=>
  intro _;obtain⟨K',C',z,hl⟩:=CO (com:=com) w [] rfl;rw[show many+1 - p=(many - p)+1 by omega]
  exact(12,K',.next _ _ _ K' C' K' z (mm _ _ hl),hl)
 |next p c T T1 r h w k ih=>
  intro e';obtain⟨K',z,hl⟩:=ih e';obtain⟨E,e1,z1⟩:=CN (com:=com) w T1 [] rfl;rw[nil_append] at z1;subst e1;rw[List.drop_left] at z;rw[show many+1 - p=(many+1 - (p+1))+1 by omega]
  exact(12,K',.next _ _ _ _ _ K' z1 z,hl)
end
end Bell
namespace Bell
open PySem L3
def encT(T:[34]):Td:=T.map λr=>(r.1,(4,r.2))
theorem ny(T:[34]):(encT T).length=T.length:=length_map ..
theorem CD(T U:[34]):encT (T++U)=encT T++encT U:=map_append
theorem Hx(T:[34]):(encT T).map (·.1)=aO T:=by unfold encT aO;rw[map_map];rfl
theorem qT{T:[34]}{s:D}(h:s∉aO T):∀p∈encT T,p.1≠s:=λp hp e=>by
 obtain⟨r,hr,rfl⟩:=mem_map.mp hp;exact h (mem_map.mpr (12,r,hr,e))
theorem CC{T:[34]}{s:D}(h:s∈aO T):∃q,(s,q)∈T/\gF (encT T) s=(6,(4,q)):=by
 induction T with
 |nil=>cases h
 |cons r T ih=>
  by_cases e:r.1=s
  ·refine(12,r.2,by rw[←e];exact mem_cons_self ..,?_)
   show((List.find? _ ((r.1,D.int r.2)::encT T)).map (·.2))=_;rw[List.find?_cons_of_pos (by simpa using e)];rfl
  ·have h':s∈aO T:=(mem_cons.mp h).resolve_left λy=>e y.symm;obtain⟨q,h1,h2⟩:=ih h';refine(12,q,(31,h1),?_);show((List.find? _ ((r.1,D.int r.2)::encT T)).map (·.2))=_;rw[List.find?_cons_of_neg (by simpa using e)];exact h2
theorem LD{g:ME}{ρ:MEnv}{s:S}(h:g ρ=(36,s)):EJ g ρ=(36,s):=Q5 h
theorem CY{i:Nat}{F:MH}{gs hs:List ME}{ρ:MEnv}{o o':O}{ds es:[21]}{d:D}(h:ρ[i]?=(21,(49,o)))(h1:bF gs ρ=(6,ds))(h2:bF hs ρ=(6,es))(h3:F o.core ds es=(6,.ok d o')):lX i F gs hs ρ=(30,ρ.set i (6,(49,o.put o'))):=by
 unfold lX;rw[h];dsimp only;rw[h1,h2];dsimp only[Option.bind_some];rw[h3];rfl
theorem FV{i:Nat}{F:MH}{gs hs:List ME}{ρ:MEnv}{o:O}{ds es:[21]}{x:D}(h:ρ[i]?=(21,(49,o)))(h1:bF gs ρ=(6,ds))(h2:bF hs ρ=(6,es))(h3:F o.core ds es=(6,.exc x)):lX i F gs hs ρ=(6,.exc x):=by
 unfold lX;rw[h];dsimp only;rw[h1,h2];dsimp only[Option.bind_some];rw[h3];rfl
theorem Iu{x y:MC}{ρ:MEnv}{e:D}(h:x ρ=(6,.exc e)):az x y ρ=(6,.exc e):=by unfold az;rw[h]
theorem je{bd:MB}{body:MC}{d:D}{ds:[21]}{ρ ρ1 ρ2:MEnv}{o:(9,mI)}(h:bd d ρ=(6,ρ1))(h1:body ρ1=(30,ρ2))(h2:fQ bd body ds ρ2=o):fQ bd body (d::ds) ρ=o:=by
 unfold fQ;rw[h];dsimp only;rw[h1];exact h2
theorem EG{bd:MB}{body:MC}{d:D}{ds:[21]}{ρ ρ1:MEnv}{x:D}(h:bd d ρ=(6,ρ1))(h1:body ρ1=(6,.exc x)):fQ bd body (d::ds) ρ=(6,.exc x):=by
 unfold fQ;rw[h];dsimp only;rw[h1]
theorem nG{β:Type}{T:List β}{P:β->Prop}:∀E,T=T++E->∀r∈E,P r:=λE e r hr=>by
 have:=List.append_cancel_left (as:=T) (bs:=[]) (cs:=E) (by rw[append_nil];exact e)
 rw[←this] at hr;cases hr
def AB(most:Nat):D:=Hw "TooMany" (26,"most") (most:Nat)
def osD:(9,D)->D
 |none=>.non
 |some s=>s
def rR(pr d:D)(p:Int)(most a:Nat)(T:[34]):MEnv:=[(1,pr),(1,d),(15,p),(1,(.int (most:Nat))),(6,(49,.par a (.tab (encT T))))]
section
variable{pr:D}{G:Nat->D->Prop}{most:Nat}
theorem De(S:D5 pr G)(hm:most<=300)(a:Nat){p:Int}{os:(9,D)}{T:[34]}{r:(9,[34])}(w:Walk (nxtD pr) most p os T r):∀(n k:Nat),(∀s,os=(6,s)->G k s)->T.length<=most->most<T.length+n->
  (∀T',r=(6,T')->(∃d,cO (eAnd (kj lG (5,1)) (gH true 4 (5,1))) fF n (rR pr (osD os) p most a T)=(30,rR pr d p most a T'))/\∀E,T'=T++E->∀r∈E,G k r.1)/\
  (r=none->cO (eAnd (kj lG (5,1)) (gH true 4 (5,1))) fF n (rR pr (osD os) p most a T)=(6,.exc (AB most))):=by
 induction w with
 |stop T=>
  intro n k _ hl hn;obtain⟨m,rfl⟩:∃m,n=m+1:=(53,n - 1)
  exact(5,λT' e=>by cases e;exact(5,(5,_,qd (jk (jP rfl rfl))),nG),nofun)
 |seen s T h=>
  intro n k hg hl hn;obtain⟨m,rfl⟩:∃m,n=m+1:=(53,n - 1)
  have g:=hg s rfl;refine(5,λT' e=>?_,nofun);cases e;refine(5,(5,s,qd (dc (jP (s:=.sh s) rfl (S.nn k s g)) ?_)),nG);obtain⟨q,_,hq⟩:=CC h;rw[nq (o:=.par a (.tab (encT T))) (k:=s) rfl rfl rfl (S.ok k s g),hq];rfl
 |full s T h e=>
  intro n k hg hl hn;obtain⟨m,rfl⟩:∃m,n=m+1:=(53,n - 1)
  have g:=hg s rfl;refine(5,nofun,λ_=>KN (dc (jP (s:=.sh s) rfl (S.nn k s g)) ?_) ?_)
  ·rw[nq (o:=.par a (.tab (encT T))) (k:=s) rfl rfl rfl (S.ok k s g),getD_none (qT h)];rfl
  ·refine Iu (dH (1,rM (o:=.par a (.tab (encT T))) rfl rfl,?_) rfl);rw[ny,e];exact jH rfl
 |step s T r h e w ih=>
  intro n k hg hl hn;obtain⟨m,rfl⟩:∃m,n=m+1:=(53,n - 1)
  have g:=hg s rfl;have o1:(eAnd (kj lG (5,1)) (gH true 4 (5,1))) (rR pr s p most a T)=okB true:=by
   refine dc (jP (s:=.sh s) rfl (S.nn k s g)) ?_;rw[nq (o:=.par a (.tab (encT T))) (k:=s) rfl rfl rfl (S.ok k s g),getD_none (qT h)];rfl
  have hb:eR [pr,s]=okD (osD (nxtD pr s))/\∀s',nxtD pr s=(6,s')->G k s':=by
   rcases S.bh k s g with⟨e1,e2,_⟩|⟨s',e1,e2,_,e4⟩
   ·rw[e1];exact(5,e2,nofun)
   ·rw[e1];exact(5,e2,λs' y=>by cases y;exact e4)
  have o2:fF (rR pr s p most a T)=(30,rR pr (osD (nxtD pr s)) p most a (T++[(s,p)])):=by
   refine(3,(29,(1,rM (o:=.par a (.tab (encT T))) rfl rfl,fE ?_)),uS (o:=.par a (.tab (encT T))) rfl rfl rfl rfl (S.ok k s g) ?_,?_)
   ·rw[ny];omega
   ·rw[ny];exact(11,(show T.length<1000 by omega),[12])
   ·rw[qG _ (qT h)];have q:∀ρ:MEnv,ρ[0]?=(6,(1,pr))->ρ[1]?=(6,(1,s))->EJ (aj eR [(5,0),(5,1)]) ρ=okD (osD (nxtD pr s)):=λρ h0 h1=>LD (aI (br h0) (br h1) hb.1);have z:=ao (i:=1) (q ([(1,pr),(1,s),(15,p),(1,(.int (most:Nat))),(6,(49,.par a (.tab (encT T++[(s,(4,p))]))))]) rfl rfl);show sSet 1 _ [(1,pr),(1,s),(15,p),(1,(.int (most:Nat))),(6,(49,.par a (.tab (encT T++[(s,(4,p))]))))]=_;rw[z];unfold rR;rw[CD];rfl
  obtain⟨i1,i2⟩:=ih m k hb.2 (by rw[length_append,length_singleton];omega) (by rw[length_append,length_singleton];omega)
  refine(5,λT' e'=>?_,λe'=>yw o1 o2 (i2 e'));obtain⟨⟨d,z⟩,zg⟩:=i1 T' e';obtain⟨E1,e1,_⟩:=nL w T' e';refine(5,(5,d,yw o1 o2 z),λE eE r hr=>?_);have ee:E=(s,p)::E1:=by
   rw[e1,append_assoc] at eE;exact(List.append_cancel_left eE).symm
  rw[ee] at hr;rcases mem_cons.mp hr with rfl|hr
  ·exact g
  ·exact zg E1 e1 r hr
theorem pw(S:D5 pr G)(hm:most<=300){p:Int}{s:D}{T T':[34]}(w:Walk (nxtD pr) most p (6,s) T (6,T')){k:Nat}(g:G k s)(hl:T.length<=most):
  iD (.tab (encT T)) [pr,s,(4,p),.int (most:Nat)] []=(6,.ok .non (.tab (encT T')))/\∀E,T'=T++E->∀r∈E,G k r.1:=by
 refine(5,K4 rfl rfl λa=>?_,((De S hm 0 w 5000 k (λs' e=>by cases e;exact g) hl [11]).1 T' rfl).2)
 obtain⟨d,z⟩:=((De S hm a w 5000 k (λs' e=>by cases e;exact g) hl [11]).1 T' rfl).1
 show GF 4 a (cO (eAnd (kj lG (5,1)) (gH true 4 (5,1))) fF 5000 (rR pr s p most a T))=_;rw[show rR pr s p most a T=rR pr (osD (6,s)) p most a T from rfl,z];show(if a=a then(6,(D.non,O.tab (encT T'))) else none).map (λp=>RX.ok p.1 p.2)=_;rw[(39,rfl)];rfl
theorem pz(S:D5 pr G)(hm:most<=300){p:Int}{s:D}{T:[34]}(w:Walk (nxtD pr) most p (6,s) T none){k:Nat}(g:G k s)(hl:T.length<=most):
  iD (.tab (encT T)) [pr,s,(4,p),.int (most:Nat)] []=(6,.exc (AB most)):=by
 refine K4 rfl rfl λa=>?_;have z:=(De S hm a w 5000 k (λs' e=>by cases e;exact g) hl [11]).2 rfl
 show GF 4 a (cO (eAnd (kj lG (5,1)) (gH true 4 (5,1))) fF 5000 (rR pr s p most a T))=_;rw[show rR pr s p most a T=rR pr (osD (6,s)) p most a T from rfl,z];rfl
end
def rowD(r:D×Int):D:=(20,[r.1,(4,r.2)])
def gJ(pr:D)(many most:Nat)(T:[34])(c4 c5 c6 c7 c8:(9,S)):MEnv:=[(1,pr),(1,(.int (many:Nat))),(1,(.int (most:Nat))),(6,(49,.tab (encT T))),c4,c5,c6,c7,c8]
theorem Q3{np n:Nat}{g:MC}{ds:[21]}{x:D}(hl:ds.length=np)(h:g (bX n ds)=(6,.exc x)):gu np n g ds=(6,.exc x):=by unfold gu;rw[(39,hl),h];rfl
theorem mi{e:ME}{ρ:MEnv}{s:S}{l:[21]}(h:e ρ=(36,s))(hl:qQ s.val=(6,l)):hV e ρ=(36,l):=by unfold hV;rw[h];dsimp only;rw[hl];rfl
theorem OD{ds:[21]}{x:Nat}(h:x<=ds.length):kb (13,ds) (some (x:Nat)) none=okL (ds.drop x):=by
 have e:jb ds.length 0 (some (x:Int))=x:=by
  show(if(x:Int)<0 then((x:Int)+(ds.length:Int)).toNat else min (x:Int).toNat ds.length)=x;rw[(42,[11])];omega
 show okL ((ds.drop (jb ds.length 0 (some (x:Int)))).take (ds.length - jb ds.length 0 (some (x:Int))))=_;rw[e,List.take_of_length_le (by rw[length_drop];omega)]
theorem Mc{a e1:ME}{ρ:MEnv}{s:S}{ds:[21]}{x:Nat}(h:a ρ=(36,s))(hv:s.val=(13,ds))(hx:e1 ρ=okI x)(hl:x<=ds.length):cZ a (6,e1) none ρ=okL (ds.drop x):=by
 unfold cZ;rw[h];dsimp only[bw];rw[hv];show(bw (e1 ρ) λd=>match d with|.int i=>kb (13,ds) (6,i) none|_=>none)=_
 rw[hx];exact OD hl
theorem Bg{p m:Nat}(h:p<=m):rng (p:Nat) ((m:Int)+1)=D.int (p:Nat)::rng ((p+1:Nat):Int) ((m:Int)+1):=by
 unfold rng;have e1:((m:Int)+1 - (p:Int)).toNat=(m - p)+1:=by omega
 have e2:((m:Int)+1 - ((p+1:Nat):Int)).toNat=m - p:=by omega
 rw[e1,e2,List.range_succ_eq_map,map_cons,map_map];have e3:D.int ((p:Int)+((0:Nat):Int))=D.int (p:Nat):=by rw[Int.natCast_zero,Int.add_zero]
 rw[e3];refine congrArg _ (map_congr_left λk _=>?_);show D.int ((p:Int)+((k+1:Nat):Int))=D.int (((p+1:Nat):Int)+(k:Int));congr 1;omega
theorem Ld{p m:Nat}(h:m<p):rng (p:Nat) ((m:Int)+1)=[]:=by
 unfold rng;have e1:((m:Int)+1 - (p:Int)).toNat=0:=by omega
 rw[e1];rfl
theorem Ar{β:Type}{T E1 E2 T':List β}{P:β->Prop}(e:T'=T++E1++E2)(h1:∀r∈E1,P r)(h2:∀r∈E2,P r):∀E,T'=T++E->∀r∈E,P r:=λE eE r hr=>by
 rw[e,append_assoc] at eE;rw[←List.append_cancel_left eE] at hr;exact(mem_append.mp hr).elim (h1 r) (h2 r)
theorem uN{α:Type}{nxt:α->(9,α)}{com:α->List α}{most many p c:Nat}{T:[32]}{r:(9,[32])}(k:l0 nxt com most many p c T r):∀T',r=(6,T')->∃E,T'=T++E:=by
 induction k with
 |done p c T h=>exact λT' e=>by cases e;exact(5,[],(append_nil _).symm)
 |over p c T h w=>exact λT' e=>nomatch e
 |next p c T T1 r h w k ih=>
  intro T' e;obtain⟨E1,e1,_⟩:=iO w T1 rfl;obtain⟨E2,e2⟩:=ih T' e;exact(5,E1++E2,by rw[e2,e1,append_assoc])
section
variable{pr:D}{G:Nat->D->Prop}{most many:Nat}
theorem Aa(hS:D5 pr G)(hm:most<=300){p:Int}{k:Nat}{s:D}{c4 c6:(9,S)}:∀(l:[21])(T:[34])(r:(9,[34])),Walks (nxtD pr) most p (l.map (cmD s)) T r->(∀b∈l,ml [pr,s,b]=okD (cmD s b)/\G k (cmD s b))->T.length<=most->∀c8:Option S,
  (∀T',r=(6,T')->(∃c8',fQ (aM 8) rV l (gJ pr many most T c4 (15,p) c6 (1,s) c8)=(30,gJ pr many most T' c4 (15,p) c6 (1,s) c8'))/\∀E,T'=T++E->∀r∈E,G k r.1)/\
  (r=none->fQ (aM 8) rV l (gJ pr many most T c4 (15,p) c6 (1,s) c8)=(6,.exc (AB most)))
 |[],T,r,w,_,_,c8=>by
  cases w;exact(5,λT' e=>by cases e;exact(5,(5,c8,rfl),nG),nofun)
 |b::l,T,r,w,hb,hl,c8=>by
  obtain⟨hc,g⟩:=hb b (mem_cons_self ..);have q:∀ρ:MEnv,ρ[0]?=(6,(1,pr))->ρ[7]?=(6,(1,s))->ρ[8]?=(6,(1,b))->EJ (aj ml [(5,0),(5,7),(5,8)]) ρ=okD (cmD s b):=λρ h0 h1 h2=>LD (bW (br h0) (br h1) (br h2) hc);have ar:bF [(5,0),(EJ (aj ml [(5,0),(5,7),(5,8)])),(5,5),(5,2)] (gJ pr many most T c4 (15,p) c6 (1,s) (1,b))=(6,[pr,cmD s b,(4,p),.int (most:Nat)]):=by
   unfold bF bF bF bF bF;rw[q _ rfl rfl rfl];rfl
  cases w with
  |over _ _ _ w=>exact(5,nofun,λ_=>EG (ρ1:=gJ pr many most T c4 (15,p) c6 (1,s) (1,b)) rfl (FV (o:=.tab (encT T)) rfl ar rfl (pz hS hm w g hl)))
  |cons _ _ _ T1 _ w ws=>
   obtain⟨z1,zg⟩:=pw hS hm w g hl;obtain⟨E,rfl,W⟩:=nL w T1 rfl;obtain⟨i1,i2⟩:=Aa hS hm l _ r ws (λb' h=>hb b' (31,h)) (W.len hl) (1,b);have o:=CY (o:=.tab (encT T)) (ρ:=gJ pr many most T c4 (15,p) c6 (1,s) (1,b)) (i:=3) rfl ar (hs:=[]) rfl z1;refine(5,λT' e=>?_,λe=>je (ρ1:=gJ pr many most T c4 (15,p) c6 (1,s) (1,b)) rfl o (i2 e));obtain⟨⟨c8',y⟩,yg⟩:=i1 T' e;refine(5,(5,c8',je (ρ1:=gJ pr many most T c4 (15,p) c6 (1,s) (1,b)) rfl o y),?_);obtain⟨E2,e2,_⟩:=iO ws T' e;exact Ar e2 (zg E rfl) (yg E2 e2)
theorem zj(hS:D5 pr G)(hm:most<=300){p:Int}{k:Nat}(hk:k<=20){c4 c6:(9,S)}:∀(L:[21])(T:[34])(r:(9,[34])),Walks (nxtD pr) most p (L.flatMap (comD pr)) T r->(∀s∈L,G k s)->T.length<=most->∀c7 c8:Option S,
  (∀T',r=(6,T')->(∃c7' c8',fQ (aM 7) oA L (gJ pr many most T c4 (15,p) c6 c7 c8)=(30,gJ pr many most T' c4 (15,p) c6 c7' c8'))/\∀E,T'=T++E->∀r∈E,G (k+1) r.1)/\
  (r=none->fQ (aM 7) oA L (gJ pr many most T c4 (15,p) c6 c7 c8)=(6,.exc (AB most)))
 |[],T,r,w,_,_,c7,c8=>by
  cases w;exact(5,λT' e=>by cases e;exact(5,(14,c7,c8),nG),nofun)
 |s::L,T,r,w,hg,hl,c7,c8=>by
  have g:=hg s (mem_cons_self ..);obtain⟨cl1,_,_⟩:=hS.cl k s g hk;have hb:∀b∈comL pr s,ml [pr,s,b]=okD (cmD s b)/\G (k+1) (cmD s b):=λb hb=>(5,(hS.cm k s b g hk hb).1,(hS.cm k s b g hk hb).2.2);have it:hV (EJ (aj iB [(5,0),(5,7)])) (gJ pr many most T c4 (15,p) c6 (1,s) c8)=(36,comL pr s):=mi (LD (19,rfl,cl1)) rfl;rw[List.flatMap_cons] at w;rcases xy (comD pr s) w with⟨e,w1⟩|⟨T1,w1,w2⟩
  ·subst e;have i:=(Aa (many:=many) hS hm (c4:=c4) (c6:=c6) (comL pr s) T none w1 hb hl c8).2 rfl;exact(5,nofun,λ_=>EG (ρ1:=gJ pr many most T c4 (15,p) c6 (1,s) c8) rfl (gG it i))
  ·obtain⟨⟨c8',i⟩,ig⟩:=(Aa (many:=many) hS hm (c4:=c4) (c6:=c6) (comL pr s) T _ w1 hb hl c8).1 T1 rfl;obtain⟨E,rfl,W⟩:=iO w1 T1 rfl;obtain⟨i1,i2⟩:=zj hS hm hk (c4:=c4) (c6:=c6) L _ r w2 (λs' h=>hg s' (31,h)) (W.len hl) (1,s) c8';refine(5,λT' e=>?_,λe=>je (ρ1:=gJ pr many most T c4 (15,p) c6 (1,s) c8) rfl (gG it i) (i2 e));obtain⟨⟨c7',c8'',y⟩,yg⟩:=i1 T' e;refine(5,(12,c7',c8'',je (ρ1:=gJ pr many most T c4 (15,p) c6 (1,s) c8) rfl (gG it i) y),?_);obtain⟨E2,e2,_⟩:=iO w2 T' e;exact Ar e2 (ig E rfl) (yg E2 e2)
theorem Iz(hS:D5 pr G)(hm:most<=300)(h20:many<=20){p c:Nat}{T:[34]}{r:(9,[34])}(k:l0 (nxtD pr) (comD pr) most many p c T r):∀q,p=q+1->c<=T.length->T.length<=most->(∀r∈T.drop c,G q r.1)->∀c5 c6 c7 c8:Option S,
  (∀T',r=(6,T')->(∃c4' c5' c6' c7' c8',fQ (aM 5) oz (rng (p:Nat) ((many:Int)+1)) (gJ pr many most T (1,(.int (c:Nat))) c5 c6 c7 c8)=(30,gJ pr many most T' c4' c5' c6' c7' c8'))/\∀E,T'=T++E->∀r∈E,∃j,j<=many/\G j r.1)/\
  (r=none->fQ (aM 5) oz (rng (p:Nat) ((many:Int)+1)) (gJ pr many most T (1,(.int (c:Nat))) c5 c6 c7 c8)=(6,.exc (AB most))):=by
 have head:∀(p c:Nat)(T:[34])(c5 c6 c7 c8:(9,S))(o:(9,mI)),c<=T.length->fQ (aM 7) oA (aO (T.drop c)) (gJ pr many most T (1,(.int (T.length:Nat))) (1,(.int (p:Nat))) (1,(13,aO (T.drop c))) c7 c8)=o->
   oz (gJ pr many most T (1,(.int (c:Nat))) (1,(.int (p:Nat))) c6 c7 c8)=o:=λp c T c5 c6 c7 c8 o hc h=>by
  refine(3,ao (Mc (ds:=aO T) (JH (o:=.tab (encT T)) rfl rfl) (by show D.lst ((encT T).map (·.1))=_;rw[Hx]) rfl (by unfold aO;rw[length_map];exact hc)),ao (rM (o:=.tab (encT T)) rfl rfl),?_)
  rw[ny];have e:(aO T).drop c=aO (T.drop c):=by unfold aO;rw[List.map_drop]
  rw[e];exact bI (gG (mi (s:=.sh (13,aO (T.drop c))) rfl rfl) h)
 induction k with
 |done p c T h=>
  intro q e hc hl hg c5 c6 c7 c8;rw[Ld h];exact(5,λT' e'=>by cases e';exact(5,⟨_,c5,c6,c7,c8,rfl⟩,nG),nofun)
 |over p c T h w=>
  intro q e hc hl hg c5 c6 c7 c8;subst e;rw[Bg h];refine(5,nofun,λ_=>EG (ρ1:=gJ pr many most T (1,(.int (c:Nat))) (15,((q+1:Nat):Int)) c6 c7 c8) rfl (head (q+1) c T c5 c6 c7 c8 _ hc ?_));exact(zj (many:=many) hS hm (k:=q) [11] (c4:=(1,(.int (T.length:Nat)))) (c6:=(1,(13,aO (T.drop c)))) (aO (T.drop c)) T none w (λs hs=>by obtain⟨r,hr,rfl⟩:=mem_map.mp hs;exact hg r hr) hl c7 c8).2 rfl
 |next p c T T1 r h w k ih=>
  intro q e hc hl hg c5 c6 c7 c8;subst e;rw[Bg h];obtain⟨⟨c7',c8',o⟩,og⟩:=(zj (many:=many) hS hm (k:=q) [11] (c4:=(1,(.int (T.length:Nat)))) (c6:=(1,(13,aO (T.drop c)))) (aO (T.drop c)) T _ w (λs hs=>by obtain⟨r,hr,rfl⟩:=mem_map.mp hs;exact hg r hr) hl c7 c8).1 T1 rfl
  obtain⟨E,rfl,W⟩:=iO w T1 rfl;have hn:=head (q+1) c T c5 c6 c7 c8 _ hc o;have hlast:∀r∈(T++E).drop T.length,G (q+1) r.1:=λr hr=>by
   rw[List.drop_left] at hr;exact og E rfl r hr
  obtain⟨i1,i2⟩:=ih (q+1) rfl (by rw[length_append];omega) (W.len hl) hlast (15,((q+1:Nat):Int)) (1,(13,aO (T.drop c))) c7' c8'
  refine(5,λT' e'=>?_,λe'=>je (ρ1:=gJ pr many most T (1,(.int (c:Nat))) (15,((q+1:Nat):Int)) c6 c7 c8) rfl hn (i2 e'));obtain⟨⟨c4',c5',c6',c7'',c8'',y⟩,yg⟩:=i1 T' e';refine(5,⟨c4',c5',c6',c7'',c8'',je (ρ1:=gJ pr many most T (1,(.int (c:Nat))) (15,((q+1:Nat):Int)) c6 c7 c8) rfl hn y⟩,?_);obtain⟨E2,e2⟩:=uN k T' e';exact Ar e2 (λr hr=>(12,q+1,h,og E rfl r hr)) (yg E2 e2)
end
section
variable{pr b:D}{G:Nat->D->Prop}{most many:Nat}
theorem ua(hbe:jC [pr]=okD b):bF [(5,0),(EJ (aj jC [(5,0)])),(22,0),(5,2)] (gJ pr many most [] none none none none none)=(6,[pr,b,(4,0),.int (most:Nat)]):=by
 unfold bF bF bF bF bF;have q:∀ρ:MEnv,ρ[0]?=(6,(1,pr))->EJ (aj jC [(5,0)]) ρ=okD b:=λρ h=>LD (aT (br h) hbe);rw[q _ rfl];rfl
theorem Dk(hS:D5 pr G)(hm:most<=300)(g:G 0 b)(hbe:jC [pr]=okD b)(w:Walk (nxtD pr) most 0 (6,b) [] none):kH [pr,.int (many:Nat),.int (most:Nat)]=(6,.exc (AB most)):=
 Q3 rfl (a7 (ρ':=gJ pr many most [] none none none none none) rfl (Iu (FV (o:=.tab (encT [])) rfl (ua hbe) rfl (pz hS hm w g (zero_le _)))))
theorem KP(hS:D5 pr G)(hm:most<=300)(h20:many<=20)(g:G 0 b)(hbe:jC [pr]=okD b){T0:[34]}(w:Walk (nxtD pr) most 0 (6,b) [] (6,T0)){r:(9,[34])}(k:l0 (nxtD pr) (comD pr) most many 1 0 T0 r):
  (∀T,r=(6,T)->kH [pr,.int (many:Nat),.int (most:Nat)]=okL (T.map rowD)/\∀r∈T,∃j,j<=many/\G j r.1)/\(r=none->kH [pr,.int (many:Nat),.int (most:Nat)]=(6,.exc (AB most))):=by
 obtain⟨z1,zg⟩:=pw hS hm w g (zero_le _);obtain⟨E,e,W⟩:=nL w T0 rfl;have hl:T0.length<=most:=by rw[e];exact W.len (zero_le _)
 have hg0:∀r∈T0,G 0 r.1:=λr hr=>zg T0 (nil_append _).symm r hr;obtain⟨i1,i2⟩:=Iz hS hm h20 k 0 rfl (zero_le _) hl (λr hr=>hg0 r (List.mem_of_mem_drop hr)) none none none none;have s1:Bc 3 (bX 9 [pr,.int (many:Nat),.int (most:Nat)])=(30,gJ pr many most [] none none none none none):=rfl;have s2:=CY (i:=3) (o:=.tab (encT [])) (ρ:=gJ pr many most [] none none none none none) rfl (ua hbe) (hs:=[]) rfl z1;have s3:sSet 4 (22,0) (gJ pr many most T0 none none none none none)=(30,gJ pr many most T0 (15,((0:Nat):Int)) none none none none):=rfl;have s4:kG (22,1) (8,dAdd,1,1) (gJ pr many most T0 (15,((0:Nat):Int)) none none none none)=(36,rng ((1:Nat):Int) ((many:Int)+1)):=
  uQ rfl (11,rfl) [12] (by rw[show((many:Int)+1)=((many+1:Nat):Int) by omega];exact cg [11])
 refine(5,λT eT=>?_,λeT=>Q3 rfl (3,s1,s2,a7 s3 (Iu (gG s4 (i2 eT)))));obtain⟨⟨c4,c5,c6,c7,c8,y⟩,yg⟩:=i1 T eT;refine(5,aA rfl (3,s1,s2,(3,s3,gG s4 y,aF ?_)),λr hr=>?_)
 ·rw[M4 (i:=3) (o:=.tab (encT T)) rfl rfl];unfold encT;rw[map_map];rfl
 ·obtain⟨E2,e2⟩:=uN k T eT;rw[e2] at hr;rcases mem_append.mp hr with h|h
  ·exact(12,0,zero_le _,hg0 r h)
  ·exact yg E2 e2 r h
end
def encK(K:[21]):Td:=K.map λs=>(s,.bl true)
theorem lF(K:[21]):(encK K).length=K.length:=length_map ..
theorem CF(K U:[21]):encK (K++U)=encK K++encK U:=map_append
theorem tV{K:[21]}{s:D}(h:s∉K):∀p∈encK K,p.1≠s:=λp hp e=>by
 obtain⟨r,hr,rfl⟩:=mem_map.mp hp;exact h (by rw[←e];exact hr)
theorem vw{K:[21]}{s:D}(h:s∈K):gF (encK K) s=(6,.bl true):=by
 induction K with
 |nil=>cases h
 |cons r K ih=>
  by_cases e:r=s
  ·show((List.find? _ ((r,D.bl true)::encK K)).map (·.2))=_;rw[List.find?_cons_of_pos (by simpa using e)];rfl
  ·show((List.find? _ ((r,D.bl true)::encK K)).map (·.2))=_;rw[List.find?_cons_of_neg (by simpa using e)]
   exact ih ((mem_cons.mp h).resolve_left λy=>e y.symm)
def pS(pr:D)(many cap:Nat)(K:[21])(c4 c5:(9,S))(C:[21])(c7 c8:(9,S)):MEnv:=[(1,pr),(1,(.int (many:Nat))),(1,(.int (cap:Nat))),(6,(49,.tab (encK K))),c4,c5,(6,(38,C)),c7,c8,none]
noncomputable abbrev Q9:ME:=eAnd (kj lG (5,8)) (eAnd (gH true 3 (5,8)) (10,KF,oY 3,(5,2)))
theorem Oj{g:ME}{ρ:MEnv}{d:D}(h:g ρ=okD d):eLst [g] ρ=okL [d]:=by
 exact aT (s1:=.sh d) h (39,(show 1<=lim by decide))
section
variable{pr b:D}{G:Nat->D->Prop}{cap many:Nat}
theorem Kg(hS:D5 pr G){k:Nat}{s:D}(g:G k s)(hk:k<=20):(comD pr s).length<=7:=by unfold comD;rw[length_map];exact(hS.cl k s g hk).2.2
theorem Mp(hS:D5 pr G)(hc:cap<=300){c4 c5 c7:(9,S)}{os:(9,D)}{K C K' C':[21]}(w:lJ (nxtD pr) (comD pr) cap os K C K' C'):∀(n k:Nat),(∀s,os=(6,s)->G k s)->k<=20->K.length<=cap+1->cap+1<K.length+n->C.length<=7 * K.length->
  (∃d,cO Q9 kY n (pS pr many cap K c4 c5 C c7 (1,osD os))=(30,pS pr many cap K' c4 c5 C' c7 (1,d)))/\K'.length<=cap+1/\C'.length<=7 * K'.length/\∀s∈C',s∈C\/G (k+1) s:=by
 induction w with
 |stop K C=>
  intro n k hg hk h1 h2 h3;obtain⟨m,rfl⟩:∃m,n=m+1:=(53,n - 1)
  exact(9,(5,_,qd (jk (jP rfl rfl))),h1,h3,λs h=>.inl h)
 |seen s K C h=>
  intro n k hg hk h1 h2 h3;obtain⟨m,rfl⟩:∃m,n=m+1:=(53,n - 1)
  have g:=hg s rfl;refine(9,(5,s,qd (dc (jP (s:=.sh s) rfl (hS.nn k s g)) (jk ?_))),h1,h3,λs h=>.inl h);rw[nq (o:=.tab (encK K)) (k:=s) rfl rfl rfl (hS.ok k s g),vw h];rfl
 |full s K C h e=>
  intro n k hg hk h1 h2 h3;obtain⟨m,rfl⟩:∃m,n=m+1:=(53,n - 1)
  have g:=hg s rfl;refine(9,(5,s,qd (dc (jP (s:=.sh s) rfl (hS.nn k s g)) (dc ?_ (1,rM (o:=.tab (encK K)) rfl rfl,PP ?_)))),h1,h3,λs h=>.inl h)
  ·rw[nq (o:=.tab (encK K)) (k:=s) rfl rfl rfl (hS.ok k s g),getD_none (tV h)];rfl
  ·rw[lF];omega
 |step s K C K' C' h e w ih=>
  intro n k hg hk h1 h2 h3;obtain⟨m,rfl⟩:∃m,n=m+1:=(53,n - 1)
  have g:=hg s rfl;obtain⟨_,⟨pl,hpl,hcl⟩,h7⟩:=hS.cl k s g hk;have h7':=Kg hS g hk;have o1:Q9 (pS pr many cap K c4 c5 C c7 (1,s))=okB true:=by
   refine dc (jP (s:=.sh s) rfl (hS.nn k s g)) (dc ?_ (1,rM (o:=.tab (encK K)) rfl rfl,Jx ?_))
   ·rw[nq (o:=.tab (encK K)) (k:=s) rfl rfl rfl (hS.ok k s g),getD_none (tV h)];rfl
   ·rw[lF];omega
  have hb:bK [pr,s]=okD (osD (nxtD pr s))/\∀s',nxtD pr s=(6,s')->G k s':=by
   rcases hS.bh k s g with⟨e1,_,e3⟩|⟨s',e1,_,e3,e4⟩
   ·rw[e1];exact(5,e3,nofun)
   ·rw[e1];exact(5,e3,λs' y=>by cases y;exact e4)
  have o2:kY (pS pr many cap K c4 c5 C c7 (1,s))=(30,pS pr many cap (K++[s]) c4 c5 (C++comD pr s) c7 (1,osD (nxtD pr s))):=by
   have p1:l8 3 (5,8) (eC (.bl true)) (pS pr many cap K c4 c5 C c7 (1,s))=(30,pS pr many cap (K++[s]) c4 c5 C c7 (1,s)):=by
    rw[uS (o:=.tab (encK K)) (k:=s) rfl rfl rfl rfl (hS.ok k s g) (by rw[lF];exact(11,(show K.length<1000 by omega),[12])),qG _ (tV h)]
    unfold pS;rw[CF];rfl
   have p2:bN [9] (hV (aj cx [(5,0),(8,8,0)])) (aM 9) da (aj cK [(5,8),(5,9)]) (pS pr many cap (K++[s]) c4 c5 C c7 (1,s))=okL (comD pr s):=
    OI (cmD s) (mi (aI (s1:=.sh pr) (s2:=.sh pl) rfl (a8 (s:=.sh s) rfl rfl hpl) hcl) rfl) (le_trans h7 [12]) λd hd=>⟨_,.sh (cmD s d),rfl,rfl,aI (s1:=.sh s) (s2:=.sh d) rfl rfl (hS.cm k s d g hk hd).2.1,rfl⟩
   have p3:o5 6 (bN [9] (hV (aj cx [(5,0),(8,8,0)])) (aM 9) da (aj cK [(5,8),(5,9)])) (pS pr many cap (K++[s]) c4 c5 C c7 (1,s))=(30,pS pr many cap (K++[s]) c4 c5 (C++comD pr s) c7 (1,s)):=
    Cz rfl p2 rfl (le_trans (show C.length+(comD pr s).length<=5000 by omega) [12])
   exact(3,p1,p3,ao (aI (s1:=.sh pr) (s2:=.sh s) rfl rfl hb.1))
  have hl:(K++[s]).length=K.length+1:=by rw[length_append,length_singleton]
  have hl2:(C++comD pr s).length=C.length+(comD pr s).length:=length_append;obtain⟨⟨d,z⟩,z1,z2,z3⟩:=ih m k hb.2 hk [11] [11] [11]
  refine(9,(5,d,yw o1 o2 z),z1,z2,λs' hs'=>?_);rcases z3 s' hs' with y|y
  ·rcases mem_append.mp y with y|y
   ·exact .inl y
   ·obtain⟨d',hd',rfl⟩:=mem_map.mp y;exact .inr (hS.cm k s d' g hk hd').2.2
  ·exact .inr y
theorem Ke(hS:D5 pr G)(hc:cap<=300){c4 c5:(9,S)}{k:Nat}(hk:k<=20){L K C K' C':[21]}(w:mw (nxtD pr) (comD pr) cap L K C K' C'):∀(c7 c8:(9,S)),(∀s∈L,G k s)->K.length<=cap+1->C.length<=7 * K.length->
  (∃c7' c8',fQ (aM 7) pj L (pS pr many cap K c4 c5 C c7 c8)=(30,pS pr many cap K' c4 c5 C' c7' c8'))/\K'.length<=cap+1/\C'.length<=7 * K'.length/\∀s∈C',s∈C\/G (k+1) s:=by
 induction w with
 |nil K C=>exact λc7 c8 _ h1 h2=>(9,(14,c7,c8),h1,h2,λs h=>.inl h)
 |cons c cs K C K1 C1 K2 C2 w ws ih=>
  intro c7 c8 hg h1 h2;obtain⟨⟨d,z⟩,z1,z2,z3⟩:=Mp (many:=many) hS hc (c4:=c4) (c5:=c5) (c7:=(1,c)) w 5000 k (λs e=>by cases e;exact hg c (mem_cons_self ..)) hk h1 [11] h2
  obtain⟨⟨c7',c8',y⟩,y1,y2,y3⟩:=ih (1,c) (1,d) (λs h=>hg s (31,h)) z1 z2;refine(9,(12,c7',c8',je (ρ1:=pS pr many cap K c4 c5 C (1,c) c8) rfl (a7 (ao rfl) z) y),y1,y2,λs h=>?_);rcases y3 s h with h|h
  ·exact z3 s h
  ·exact .inr h
theorem yj(hS:D5 pr G)(hc:cap<=300):∀(ds L K K':[21])(k:Nat)(s4:S)(c5 c7 c8:(9,S))(c6:(9,S)),kO (nxtD pr) (comD pr) cap ds.length L K K'->k+ds.length<=21->(s4=.sh (13,L)\/s4=(38,L))->(∀s∈L,G k s)->K.length<=cap+1->
  ∃c4' c5' c6' c7' c8',fQ (aM 5) ph ds [(1,pr),(1,(.int (many:Nat))),(1,(.int (cap:Nat))),(6,(49,.tab (encK K))),(6,s4),c5,c6,c7,c8,none]=(30,[(1,pr),(1,(.int (many:Nat))),(1,(.int (cap:Nat))),(6,(49,.tab (encK K'))),c4',c5',c6',c7',c8',none])
 |[],L,K,K',k,s4,c5,c7,c8,c6,w,_,_,_,_=>by cases w;exact⟨_,_,_,_,_,rfl⟩
 |d::ds,L,K,K',k,s4,c5,c7,c8,c6,w,hk,h4,hg,hl=>by
  rw[length_cons] at w hk;cases w with
  |next _ _ _ K1 C1 _ w ws=>
   obtain⟨⟨c7',c8',z⟩,z1,_,z3⟩:=Ke (many:=many) hS hc (c4:=(1,(13,L))) (c5:=(1,d)) (k:=k) [11] w c7 c8 hg hl (zero_le _)
   obtain⟨a1,a2,a3,a4,a5,y⟩:=yj hS hc ds C1 K1 K' (k+1) (.sh (13,C1)) (1,d) c7' c8' (1,(13,C1)) ws [11] (.inl rfl) (λs h=>(z3 s h).resolve_left nofun) z1
   refine⟨a1,a2,a3,a4,a5,je (ρ1:=[(1,pr),(1,(.int (many:Nat))),(1,(.int (cap:Nat))),(6,(49,.tab (encK K))),(6,s4),(1,d),c6,c7,c8,none]) rfl (a7 (ao (s:=(38,[])) rfl) (bI ?_)) y⟩;have hd:dem 4 [(1,pr),(1,(.int (many:Nat))),(1,(.int (cap:Nat))),(6,(49,.tab (encK K))),(6,s4),(1,d),(6,(38,[])),c7,c8,none]=pS pr many cap K (1,(13,L)) (1,d) [] c7 c8:=by
    rcases h4 with rfl|rfl <;> rfl
   show az _ _ (dem 4 [(1,pr),(1,(.int (many:Nat))),(1,(.int (cap:Nat))),(6,(49,.tab (encK K))),(6,s4),(1,d),(6,(38,[])),c7,c8,none])=_;rw[hd];exact a7 (gG (mi (s:=.sh (13,L)) rfl rfl) z) rfl
theorem Mq(hS:D5 pr G)(hc:cap<=300)(hm:many<=19)(g:G 0 b)(hbe:dz [pr]=okD b){K':[21]}(w:kO (nxtD pr) (comD pr) cap (many+1) [b] [] K'):kL [pr,.int (many:Nat),.int (cap:Nat)]=okI (K'.length:Nat):=by
 have hr:bP (8,dAdd,1,1) [(1,pr),(1,(.int (many:Nat))),(1,(.int (cap:Nat))),(6,(49,.tab (encK []))),(6,(38,[b])),none,none,none,none,none]=(36,rng 0 ((many+1:Nat):Int)):=
  eM (11,(show dAdd (.int (many:Nat)) (4,1)=okI ((many+1:Nat):Int) by rw[add_int];rfl)) (cg [11])
 have hl:(rng 0 ((many+1:Nat):Int)).length=many+1:=by rw[uO,length_map,length_range]
 obtain⟨a1,a2,a3,a4,a5,y⟩:=yj (many:=many) hS hc (rng 0 ((many+1:Nat):Int)) [b] [] K' 0 (38,[b]) none none none none (by rw[hl];exact w) (by rw[hl];omega) (.inr rfl) (λs h=>by rw[(37,h)];exact g) (zero_le _)
 refine aA rfl (a7 (ρ':=[some (.sh pr),some (.sh (.int (many:Nat))),some (.sh (.int (cap:Nat))),some (.own (.tab (encK []))),none,none,none,none,none,none]) rfl (3,ao (s:=(38,[b])) (Oj (aT (s1:=.sh pr) rfl hbe)),gG hr y,aF ?_));rw[rM (o:=.tab (encK K')) rfl rfl,lF]
end
theorem l4(l:[22]):cw [(20,l.map D.int)]=okB true:=by
 have lp:∀(m:[22])(c:(9,S)),∃c',fQ (aM 1) nB (m.map D.int) [(1,(20,l.map D.int)),c]=(30,[(1,(20,l.map D.int)),c']):=by
  intro m
  induction m with
  |nil=>exact λc=>(5,c,rfl)
  |cons i m ih=>
   intro c;obtain⟨c',z⟩:=ih (15,i);exact(5,c',je (ρ1:=[(1,(20,l.map D.int)),(15,i)]) rfl (29,kl (n8 (jP rfl rfl)) (jP rfl rfl)) z)
 obtain⟨c',z⟩:=lp l none;exact aA rfl (3,(29,n8 (jP rfl rfl)),gG (mi (s:=.sh (20,l.map D.int)) rfl rfl) z,aF rfl)
theorem Cj(p:List Fr)(cs:[22]):bT [ki p cs]=okB true:=by
 have lp:∀(m:List Fr)(c:(9,S)),∃c',fQ (aM 1) lI (m.map Fr.d) [(1,ki p cs),c]=(30,[(1,ki p cs),c']):=by
  intro m
  induction m with
  |nil=>exact λc=>(5,c,rfl)
  |cons f m ih=>
   intro c;obtain⟨c',z⟩:=ih (1,f.d);have w3:cw [(20,[.int (f.row:Nat),.int (f.place:Nat),.int (f.turn:Nat)])]=okB true:=l4 [(f.row:Int),(f.place:Int),(f.turn:Int)];have e1:cZ (5,1) none (6,(22,3)) [(1,ki p cs),(1,f.d)]=okD (20,[.int (f.row:Nat),.int (f.place:Nat),.int (f.turn:Nat)]):=
    xI (x:=3) (s:=.sh f.d) (ds:=[.int (f.row:Nat),.int (f.place:Nat),.int (f.turn:Nat),(20,f.hand.map D.int)]) rfl rfl rfl (show 3<4 by decide)
   refine(5,c',je (ρ1:=[(1,ki p cs),(1,f.d)]) rfl (a7 (29,kl (n8 (jP rfl rfl)) (1,eQ (fW rfl) rfl,GQ rfl)) (29,kl (n8 (aT e1 w3)) (n8 (aT (a8 (s:=.sh f.d) rfl rfl (fr3 f)) (l4 f.hand))))) z)
 obtain⟨c',z⟩:=lp p none;refine aA rfl (3,(29,kl (n8 (jP rfl rfl)) (kl (1,eQ (fW rfl) rfl,GQ rfl) (n8 (jP (s:=.sh (bS p)) (a8 (s:=.sh (ki p cs)) rfl rfl bp) rfl)))),gG (mi (s:=.sh (bS p)) (a8 (s:=.sh (ki p cs)) rfl rfl bp) rfl) z,aF (aT (s1:=.sh (20,cs.map D.int)) (a8 (s:=.sh (ki p cs)) rfl rfl bu) (l4 cs)))
theorem Hn{s:D}(h:bT [s]=okB true){q:Int}{many:Nat}(h0:0<=q)(h1:q<=many):hZ [[25],.int (many:Nat)]=okB true:=by
 have e1:cZ (5,0) (6,(22,1)) none [(1,[25]),(1,(.int (many:Nat)))]=okD (20,[(4,q)]):=
  rZ (x:=1) (s:=.sh [25]) (ds:=[s,(4,q)]) rfl rfl rfl [12] (show 1<=2 by decide)
 exact aA rfl (a7 (29,kl (n8 (jP rfl rfl)) (kl (1,eQ (fW rfl) rfl,GQ rfl) (n8 (aT (s1:=.sh s) (a8 (s:=.sh [25]) rfl rfl bp) h)))) (aF (dc (aT e1 (l4 [q])) (Mt (s:=.sh (4,0)) (t:=.sh (4,q)) (u:=.sh (.int (many:Nat))) rfl (a8 (s:=.sh [25]) rfl rfl bu) (Jx h0) rfl (Jx h1)))))
theorem Od(p:List Fr)(cs:[22]):vg 5 (ki p cs)=true:=by
 show List.all _ (vg 4)=true;simp only[List.all_cons,List.all_nil,Bool.and_true,Bool.and_eq_true];refine(5,all_eq_true.mpr λd hd=>?_,qM 3 cs);obtain⟨f,_,rfl⟩:=mem_map.mp hd;show List.all _ (vg 2)=true;simp only[List.all_cons,List.all_nil,tR,Bool.true_and,Bool.and_true];exact qM 1 f.hand
theorem tQ{s:D}(h:vg 5 s=true)(q:Int):zC [25]=true:=by
 show List.all _ (vg 5)=true;simp only[List.all_cons,List.all_nil,Bool.and_true,Bool.and_eq_true];exact(5,h,tR 5 q)
theorem Fn(O:[21])(k:D):∃O',z9 (encK O) k (.bl true)=encK O'/\(∀x,x∈O'↔x∈O\/x=k)/\O'.length<=O.length+1:=by
 by_cases h:k∈O
 ·refine(9,O,?_,λx=>(5,.inl,λy=>y.elim id (λe=>e▸h)),by omega)
  unfold z9;rw[vw h,(39,(show(6,D.bl true).isSome=true from rfl))];refine Eq.trans (map_congr_left λp hp=>?_) (List.map_id _);obtain⟨s,hs,rfl⟩:=mem_map.mp hp;by_cases e:s=k
  ·rw[(39,e)];rfl
  ·rw[(42,e)];rfl
 ·refine(9,O++[k],by rw[qG _ (tV h),CF];rfl,λx=>?_,by rw[length_append,length_singleton];omega)
  rw[mem_append,mem_singleton]
theorem GA{T:[34]}(h:(aO T).Nodup){s:D}{q q':Int}(h1:(s,q)∈T)(h2:(s,q')∈T):q=q':=by
 induction T with
 |nil=>cases h1
 |cons r T ih=>
  obtain⟨hn,hd⟩:=nodup_cons.mp (show(r.1::aO T).Nodup from h);rcases mem_cons.mp h1 with e1|h1 <;> rcases mem_cons.mp h2 with e2|h2
  ·rw[←e1] at e2;cases e2;rfl
  ·exact absurd (jL.mpr (5,q',h2)) (by rw[←e1] at hn;exact hn)
  ·exact absurd (jL.mpr (5,q,h1)) (by rw[←e2] at hn;exact hn)
  ·exact ih hd h1 h2
def envF(pr:D)(many:Nat)(told:D)(A:[34])(O:[21])(c5 c6 c7 c8:(9,S)):MEnv:=[(1,pr),(1,(.int (many:Nat))),(1,told),(6,(49,.tab (encT A))),(6,(49,.tab (encK O))),c5,c6,c7,c8]
section
variable{pr b told:D}{G:Nat->D->Prop}{most many:Nat}
theorem BA(hS:D5 pr G)(hF:∀k s,G k s->vg 5 s=true/\bT [s]=okB true){k:Nat}{s:D}{q:Int}(g:G k s)(hk:k<=20){A:[34]}{c6 c7:(9,S)}:∀(l O:[21])(c8:(9,S)),(∀b∈l,b∈comL pr s)->O.length+l.length<=5000->
  ∃O' c8',fQ (aM 8) gw l (envF pr many told A O (1,[25]) c6 c7 c8)=(30,envF pr many told A O' (1,[25]) c6 c7 c8')/\(∀x,x∈O'↔x∈O\/∃b∈l,x=rowD (cmD s b,q+1))/\O'.length<=O.length+l.length
 |[],O,c8,_,_=>⟨O,c8,rfl,λx=>(5,.inl,λy=>y.elim id nofun),[23]⟩
 |d::l,O,c8,hl,hn=>by
  rw[length_cons] at hn;obtain⟨_,e2,g2⟩:=hS.cm k s d g hk (hl d (mem_cons_self ..));obtain⟨O1,p1,p2,p3⟩:=Fn O (rowD (cmD s d,q+1));have st:gw (envF pr many told A O (1,[25]) c6 c7 (1,d))=(30,envF pr many told A O1 (1,[25]) c6 c7 (1,d)):=by
   have hk:aG [(aj cK [(8,5,0),(5,8)]),(6,dAdd,(8,5,1),1)] (envF pr many told A O (1,[25]) c6 c7 (1,d))=okD (rowD (cmD s d,q+1)):=
    (5,cmD s d,.sh (4,(q+1)),aI (s1:=.sh s) (s2:=.sh d) (a8 (s:=.sh [25]) rfl rfl bp) rfl e2,a8 (s:=.sh (4,q)) (a8 (s:=.sh [25]) rfl rfl bu) rfl rfl)
   have z:=uS (i:=4) (o:=.tab (encK O)) (ge:=eC (.bl true)) rfl rfl hk rfl (tQ (hF _ _ g2).1 (q+1)) (by rw[lF];exact(11,(show O.length<5001 by omega),[12]))
   rw[p1] at z;exact z
  obtain⟨O2,c8',y1,y2,y3⟩:=BA hS hF (q:=q) g hk (A:=A) (c6:=c6) (c7:=c7) l O1 (1,d) (λb h=>hl b (31,h)) [11]
  refine⟨O2,c8',je (ρ1:=envF pr many told A O (1,[25]) c6 c7 (1,d)) rfl st y1,λx=>?_,by rw[length_cons];omega⟩
  rw[y2,p2];constructor
  ·rintro ((h|h)|⟨b,hb,h⟩)
   ·exact .inl h
   ·exact .inr (12,d,mem_cons_self ..,h)
   ·exact .inr (12,b,(31,hb),h)
  ·rintro (h|⟨b,hb,h⟩)
   ·exact .inl (.inl h)
   ·rcases mem_cons.mp hb with rfl|hb
    ·exact .inl (.inr h)
    ·exact .inr (12,b,hb,h)
def Off(pr b:D)(many:Nat)(A:[34])(x:D):Prop:=x=rowD (b,0)\/∃r∈A,(∃s',nxtD pr r.1=(6,s')/\x=rowD (s',r.2))\/(r.2<many/\∃s'∈comD pr r.1,x=rowD (s',r.2+1))
theorem Ph(hS:D5 pr G)(hF:∀k s,G k s->vg 5 s=true/\bT [s]=okB true){k:Nat}{A:[34]}{O:[21]}{s:D}{q:Int}(g:G k s)(hk:k<=20)(h0:0<=q)(h1:q<=many)(hn:s∉aO A)(hd:[25]∈O)(hA:A.length<=400)(hO:O.length<=1+8 * A.length)(hx:∀x,x∈O↔Off pr b many A x)(c6 c7 c8:(9,S)):
  ∃O' c7' c8',gv (envF pr many told A O (1,[25]) c6 c7 c8)=(30,envF pr many told (A++[(s,q)]) O' (1,[25]) c6 c7' c8')/\O'.length<=1+8 * (A++[(s,q)]).length/\∀x,x∈O'↔Off pr b many (A++[(s,q)]) x:=by
 obtain⟨f1,f2⟩:=hF k s g;have okr:=tQ f1 q;have i0:∀(A:[34])(O:[21])(c7 c8:(9,S)),eBin dIx (5,5) (22,0) (envF pr many told A O (1,[25]) c6 c7 c8)=okD s:=λA O c7 c8=>a8 (s:=.sh [25]) rfl rfl bp;have i1:∀(A:[34])(O:[21])(c7 c8:(9,S)),eBin dIx (5,5) (22,1) (envF pr many told A O (1,[25]) c6 c7 c8)=okI q:=λA O c7 c8=>a8 (s:=.sh [25]) rfl rfl bu;have t1:(sIf (eOr (oJ (aj hZ [(5,5),(5,1)])) (eOr (gH false 3 (8,5,0)) (gH true 4 (5,5)))) (aU (eC (.bl false))) aX) (envF pr many told A O (1,[25]) c6 c7 c8)=(30,envF pr many told A O (1,[25]) c6 c7 c8):=by
  refine(29,kl (n8 (aI (s1:=.sh [25]) (s2:=.sh (.int (many:Nat))) rfl rfl (Hn f2 h0 h1))) (kl ?_ ?_))
  ·rw[nq (o:=.tab (encT A)) (k:=s) rfl rfl (i0 A O c7 c8) (hS.ok k s g),getD_none (qT hn)];rfl
  ·rw[nq (o:=.tab (encK O)) (k:=[25]) rfl rfl rfl okr,vw hd];rfl
 have t2:l8 3 (8,5,0) (8,5,1) (envF pr many told A O (1,[25]) c6 c7 c8)=(30,envF pr many told (A++[(s,q)]) O (1,[25]) c6 c7 c8):=by
  rw[uS (o:=.tab (encT A)) (k:=s) (v:=(4,q)) rfl rfl (i0 A O c7 c8) (i1 A O c7 c8) (hS.ok k s g) (by rw[ny];exact(11,(show A.length<1000 by omega),[12])),qG _ (qT hn)]
  unfold envF;rw[CD];rfl
 have hb:bK [pr,s]=okD (osD (nxtD pr s))/\∀s',nxtD pr s=(6,s')->G k s':=by
  rcases hS.bh k s g with⟨e1,_,e3⟩|⟨s',e1,_,e3,e4⟩
  ·rw[e1];exact(5,e3,nofun)
  ·rw[e1];exact(5,e3,λs' y=>by cases y;exact e4)
 have t3:sSet 7 (aj bK [(5,0),(8,5,0)]) (envF pr many told (A++[(s,q)]) O (1,[25]) c6 c7 c8)=(30,envF pr many told (A++[(s,q)]) O (1,[25]) c6 (1,osD (nxtD pr s)) c8):=
  ao (aI (s1:=.sh pr) (s2:=.sh s) rfl (i0 _ _ _ _) hb.1)
 have t4:∃O1,(sIf (kj lG (5,7)) (l8 4 (aG [(5,7),(8,5,1)]) (eC (.bl true))) aX) (envF pr many told (A++[(s,q)]) O (1,[25]) c6 (1,osD (nxtD pr s)) c8)=(30,envF pr many told (A++[(s,q)]) O1 (1,[25]) c6 (1,osD (nxtD pr s)) c8)/\(∀x,x∈O1↔x∈O\/∃s',nxtD pr s=(6,s')/\x=rowD (s',q))/\O1.length<=O.length+1:=by
  cases e:nxtD pr s with
  |none=>exact(9,O,(29,jP rfl rfl),λx=>(5,.inl,λy=>y.elim id λ⟨_,h,_⟩=>nomatch h),by omega)
  |some s'=>
   have g':=hb.2 s' e;obtain⟨O1,p1,p2,p3⟩:=Fn O (rowD (s',q));have z:=uS (i:=4) (o:=.tab (encK O)) (ge:=eC (.bl true)) (ρ:=envF pr many told (A++[(s,q)]) O (1,[25]) c6 (1,s') c8) (gk:=aG [(5,7),(8,5,1)]) (k:=rowD (s',q)) (v:=.bl true) rfl rfl (5,s',.sh (4,q),rfl,i1 _ _ _ _) rfl (tQ (hF _ _ g').1 q) (by rw[lF];exact(11,(show O.length<5001 by omega),[12]))
   rw[p1] at z;refine(9,O1,dH (jP (s:=.sh s') rfl (hS.nn k s' g')) z,λx=>?_,p3);rw[p2];exact(5,λy=>y.imp id λh=>(12,s',rfl,h),λy=>y.imp id λ⟨s2,h,h'⟩=>by cases h;exact h')
 obtain⟨O1,t4,x1,l1⟩:=t4;have t5:∃O2 c8',j9 (envF pr many told (A++[(s,q)]) O1 (1,[25]) c6 (1,osD (nxtD pr s)) c8)=(30,envF pr many told (A++[(s,q)]) O2 (1,[25]) c6 (1,osD (nxtD pr s)) c8')/\(∀x,x∈O2↔x∈O1\/(q<many/\∃s'∈comD pr s,x=rowD (s',q+1)))/\O2.length<=O1.length+7:=by
  by_cases hq:q<many
  ·obtain⟨_,⟨pl,hpl,hcl⟩,h7⟩:=hS.cl k s g hk;obtain⟨O2,c8',y1,y2,y3⟩:=BA (many:=many) (told:=told) hS hF (q:=q) g hk (A:=A++[(s,q)]) (c6:=c6) (c7:=(1,osD (nxtD pr s))) (comL pr s) O1 c8 (λ_ h=>h) [11]
   refine⟨O2,c8',dH (a8 (s:=.sh (4,q)) (t:=.sh (.int (many:Nat))) (i1 _ _ _ _) rfl (Et hq)) (gG (mi (aI (s1:=.sh pr) (s2:=.sh pl) rfl (a8 (s:=.sh s) (i0 _ _ _ _) rfl hpl) hcl) rfl) y1),λx=>?_,by omega⟩
   rw[y2];refine(5,λy=>y.imp id λ⟨d,h,h'⟩=>(9,hq,_,mem_map.mpr (14,d,h),h'),λy=>y.imp id λ⟨_,s',h,h'⟩=>?_);obtain⟨d,hd,rfl⟩:=mem_map.mp h;exact(12,d,hd,h')
  ·exact⟨O1,c8,(29,a8 (s:=.sh (4,q)) (t:=.sh (.int (many:Nat))) (i1 _ _ _ _) rfl (vn hq)),λx=>(5,.inl,λy=>y.elim id λh=>absurd h.1 hq),by omega⟩
 obtain⟨O2,c8',t5,x2,l2⟩:=t5;refine⟨O2,_,c8',(3,t1,t2,(3,t3,t4,t5)),by rw[length_append,length_singleton];omega,λx=>?_⟩
 rw[x2,x1,hx];unfold Off;constructor
 ·rintro (((h|⟨r,hr,h⟩)|h)|h)
  ·exact .inl h
  ·exact .inr (12,r,mem_append_left _ hr,h)
  ·exact .inr (12,(s,q),(41,(mem_cons_self ..)),.inl h)
  ·exact .inr (12,(s,q),(41,(mem_cons_self ..)),.inr h)
 ·rintro (h|⟨r,hr,h⟩)
  ·exact .inl (.inl (.inl h))
  ·rcases mem_append.mp hr with hr|hr
   ·exact .inl (.inl (.inr (12,r,hr,h)))
   ·rw[(37,hr)] at h;rcases h with h|h
    ·exact .inl (.inr h)
    ·exact .inr h
end
section
variable{pr b:D}{G:Nat->D->Prop}{most many:Nat}
theorem xY{T:[34]}{told:D}(hnd:(aO T).Nodup)(hok:∀r∈T,zC r.1=true):∀(L:[21]),(∀x∈L,∃s q q',x=[25]/\(s,q')∈T/\q'<=q)->∀(O:[21])(c5 c6 c7 c8:(9,S)),
  ∃c6',fQ (aM 6) kf L (envF pr many told T O c5 c6 c7 c8)=(30,envF pr many told T O c5 c6' c7 c8)
 |[],_,O,c5,c6,c7,c8=>(5,c6,rfl)
 |x::L,h,O,c5,c6,c7,c8=>by
  obtain⟨s,q,q',rfl,hm,hle⟩:=h x (mem_cons_self ..);obtain⟨c6',z⟩:=xY hnd hok L (λy hy=>h y (31,hy)) O c5 (1,[25]) c7 c8;obtain⟨q0,hq0,hg⟩:=CC (jL.mpr (5,q',hm));have e0:=GA hnd hq0 hm;subst e0;have i0:eBin dIx (5,6) (22,0) (envF pr many told T O c5 (1,[25]) c7 c8)=okD s:=a8 (s:=.sh [25]) rfl rfl bp;have i1:eBin dIx (5,6) (22,1) (envF pr many told T O c5 (1,[25]) c7 c8)=okI q:=a8 (s:=.sh [25]) rfl rfl bu;have g3:vA 3 (8,6,0) (8,dAdd,1,1) (envF pr many told T O c5 (1,[25]) c7 c8)=okI q0:=by
   rw[Ov (o:=.tab (encT T)) (k:=s) (v:=(4,((many:Int)+1))) rfl rfl i0 (hok _ hm) (11,rfl),hg];rfl
  exact(5,c6',je (ρ1:=envF pr many told T O c5 (1,[25]) c7 c8) rfl (29,a8 (s:=.sh (4,q0)) (t:=.sh (4,q)) g3 i1 (xm [11])) z)
theorem OA(hS:D5 pr G)(hF:∀k s,G k s->vg 5 s=true/\bT [s]=okB true)(hm:most<=300)(h20:many<=20)(hbe:dz [pr]=okD b)(g0:G 0 b){T:[34]}(t:Qc (nxtD pr) (comD pr) most many b T)(hG:∀r∈T,∃j,j<=many/\G j r.1):dX [pr,.int (many:Nat),(13,T.map rowD)]=okB true:=by
 have htl:=t.len;obtain⟨R,hR⟩:=t.beg;have hlen:(T.map rowD).length≠0:=by rw[hR];exact Nat.succ_ne_zero _
 obtain⟨ρ',e,O,c5,c7,c8,rfl,_,hx⟩:=nv (bd:=aM 5) (body:=gv) rowD (λA ρ=>∃(O:[21])(c5 c7 c8:(9,S)),ρ=envF pr many (13,T.map rowD) A O c5 none c7 c8/\O.length<=1+8 * A.length/\∀x,x∈O↔Off pr b many A x) T (ρ:=envF pr many (13,T.map rowD) [] [rowD (b,0)] none none none none)
  ⟨_,none,none,none,rfl,[23],λx=>(5,λh=>.inl (37,h),λh=>h.elim (λe=>by rw[e];exact mem_singleton.mpr rfl) λ⟨_,h,_⟩=>nomatch h)⟩ (by
  rintro A ⟨s,q⟩ post ρ hA ⟨O,c5,c7,c8,rfl,hO,hx⟩
  have hrT:(s,q)∈T:=by rw[hA];exact(41,(mem_cons_self ..))
  obtain⟨j,hj,g⟩:=hG _ hrT;obtain⟨h0,h1⟩:=t.price _ hrT;have hn:s∉aO A:=λh=>by
   have:=t.nd;rw[hA,iA] at this;exact(List.nodup_append.mp this).2.2 s h s (mem_cons_self ..) rfl
  have hd:[25]∈O:=(hx _).mpr (by
   rcases t.due A (s,q) post hA with e|⟨r',hr',h⟩
   ·exact .inl (by rw[e])
   ·have hr'T:=t.price r' (by rw[hA];exact mem_append_left _ hr')
    rcases h with⟨h,h'⟩|⟨h,h'⟩
    ·exact .inr (12,r',hr',.inl (12,s,h,by rw[show q=r'.2 from h']))
    ·have h'':q=r'.2+1:=h';have h1':q<=many:=h1;exact .inr (12,r',hr',.inr (9,by omega,s,h,by rw[h''])))
  have hAl:A.length<=400:=by
   have:T.length=A.length+(post.length+1):=by rw[hA,length_append,length_cons]
   omega
  obtain⟨O',c7',c8',z,zl,zx⟩:=Ph (told:=(13,T.map rowD)) hS hF g [11] h0 h1 hn hd hAl hO hx none c7 c8
  exact⟨envF pr many (13,T.map rowD) A O (1,[25]) none c7 c8,_,rfl,.inl z,O',_,c7',c8',rfl,zl,zx⟩)
 have hgood:∀x∈O,∃s q q',x=[25]/\(s,q')∈T/\q'<=q:=λx h=>by
  rcases(hx x).mp h with e|⟨r,hr,⟨s',h1,h2⟩|⟨hlt,s',h1,h2⟩⟩
  ·exact⟨b,0,0,e,by rw[hR];exact mem_cons_self ..,Int.le_refl _⟩
  ·obtain⟨q',z1,z2⟩:=t.on r hr s' h1;exact⟨s',r.2,q',h2,z1,z2⟩
  ·obtain⟨q',z1,z2⟩:=t.cm r hr hlt s' h1;exact⟨s',r.2+1,q',h2,z1,z2⟩
 obtain⟨c6',z⟩:=xY (pr:=pr) (many:=many) (told:=(13,T.map rowD)) t.nd (λr hr=>by obtain⟨j,_,g⟩:=hG r hr;exact hS.ok j r.1 g) O hgood O c5 none c7 c8
 have n1:pI 4 (aG [(aj dz [(5,0)]),(22,0)]) (eC (.bl true)) [(1,pr),(1,(.int (many:Nat))),(1,(13,T.map rowD)),(6,(49,.tab [])),none,none,none,none,none]=(30,envF pr many (13,T.map rowD) [] [rowD (b,0)] none none none none):=
  LH (k:=rowD (b,0)) (5,b,.sh (4,0),aT (s1:=.sh pr) rfl hbe,rfl) (tQ (hF 0 b g0).1 0) rfl
 refine aA rfl (3,(29,kl (n8 (jP rfl rfl)) (1,eQ (s1:=.sh (13,T.map rowD)) (fW (s:=.sh (13,T.map rowD)) rfl) (fU _),fE [11])),rfl,(3,n1,gG (mi (s:=.sh (13,T.map rowD)) rfl rfl) e,a7 (gG (mi (JH (o:=.tab (encK O)) rfl rfl) ?_) z) (aF rfl)))
 show(6,((encK O).map (·.1)))=(6,O);unfold encK;rw[map_map];exact congrArg some (List.map_id _)
end
theorem Nm{c:String}{f:Str}{i ie iy:Nat}{F:([21])->(9,R)}{gs:List ME}{ρ:MEnv}{ds:[21]}{s:S}(h:bF gs ρ=(6,ds))(h1:F ds=(36,s)):DH c f i ie iy F gs ρ=(30,ρ.set i (6,s)):=by
 unfold DH;rw[h];dsimp only[Option.bind_some];rw[h1]
theorem P7{c:String}{f:Str}{i ie iy:Nat}{F:([21])->(9,R)}{gs:List ME}{ρ:MEnv}{ds:[21]}{n:Int}(h:bF gs ρ=(6,ds))(h1:F ds=(6,.exc (Hw c f n))):DH c f i ie iy F gs ρ=(30,((ρ.set iy (15,n)).set ie none)):=by
 unfold DH;rw[h];dsimp only[Option.bind_some];rw[h1];unfold Hw;dsimp only;rw[(39,(5,rfl,rfl))]
theorem Pq:∀n:Nat,n<5->∃m:Nat,m<=9/\dIx (13,[(4,0),(4,1),(4,2),(4,3),(4,9)]) (.int (n:Nat))=okI (m:Nat)
 |0,_=>(14,0,by decide)
 |1,_=>(14,1,by decide)
 |2,_=>(14,2,by decide)
 |3,_=>(14,3,by decide)
 |4,_=>(14,9,by decide)
 |n+5,h=>absurd h [11]
theorem Pr{x:Nat}(h1:1<=x)(h2:x<=200):∀n:Nat,n<3->∃m:Nat,(1<=m/\m<=200)/\dIx (13,[(4,200),(4,200),.int (x:Nat)]) (.int (n:Nat))=okI (m:Nat)
 |0,_=>(14,200,by decide)
 |1,_=>(14,200,by decide)
 |2,_=>(14,x,(5,h1,h2))
 |n+3,h=>absurd h [11]
theorem LQ:∀m:Nat,m<=9->∃m':Nat,m'<=9/\FS (.int (m:Nat)) (4,2)=okI (m':Nat)
 |0,_=>(14,0,by decide)
 |1,_=>(14,1,by decide)
 |2,_=>(14,2,by decide)
 |3,_=>(14,2,by decide)
 |4,_=>(14,2,by decide)
 |5,_=>(14,2,by decide)
 |6,_=>(14,2,by decide)
 |7,_=>(14,2,by decide)
 |8,_=>(14,2,by decide)
 |9,_=>(14,2,by decide)
 |n+10,h=>absurd h [11]
theorem law_true(ns:[22])(hns:ns.length<=63):ye [[30]]=(36,.sh (.bl true)):=by
 have m1:=cE (ns:=ns) (k:=1) [12] [12]
 have m0:=cE (ns:=ns) (k:=0) [12] [12]
 have m19:=cE (ns:=ns) (k:=19) [12] [12]
 obtain⟨bl,hbl⟩:∃bl:Nat,mixV ns 1 % 7=bl:=(5,((45,1) % 7).toNat,by have:=emod_nonneg (45,1) (b:=7) [12];omega)
 have hb6:bl<=6:=by have:=emod_lt_of_pos (45,1) (b:=7) [12];omega
 obtain⟨x5,hx5⟩:∃x:Nat,mixV ns 19 % 5=x:=(5,((45,19) % 5).toNat,by have:=emod_nonneg (45,19) (b:=5) [12];omega)
 obtain⟨mn0,hmn0,emn0⟩:=Pq x5 (by have:=emod_lt_of_pos (mixV ns 19) (b:=5) (by decide);omega)
 obtain⟨x3,hx3⟩:∃x:Nat,mixV ns 0 % 3=x:=(5,((45,0) % 3).toNat,by have:=emod_nonneg (45,0) (b:=3) [12];omega)
 obtain⟨x40,hx40⟩:∃x:Nat,1+mixV ns 0 / 3 % 40=x:=(5,(1+(45,0) / 3 % 40).toNat,by have:=emod_nonneg ((45,0) / 3) (b:=40) [12];omega)
 obtain⟨most,⟨hm1,hm2⟩,emost⟩:=Pr (x:=x40) (by have:=emod_nonneg (mixV ns 0 / 3) (b:=40) (by decide);omega) (by have:=emod_lt_of_pos (mixV ns 0 / 3) (b:=40) (by decide);omega) x3 (by have:=emod_lt_of_pos (mixV ns 0) (b:=3) (by decide);omega)
 obtain⟨lo,hlo,elo⟩:∃lo:Nat,(1<=lo/\lo<=12)/\∀ρ:MEnv,ρ[1]?=some (some (.sh (.int (bl:Nat))))->eBin dAdd (eC (.int 1)) (aj (f1 dInt) [(eBin dLt (eVar 1) (eC (.int 3)))]) ρ=okI (lo:Nat):=by
  by_cases h:bl<3
  ·exact(12,2,by decide,λρ hρ=>(9,aT (1,br hρ,Et [11]) rfl,rfl))
  ·exact(12,1,by decide,λρ hρ=>(9,aT (1,br hρ,vn [11]) rfl,rfl))
 obtain⟨bs,rs,hpe,ok⟩:=DO ns (bells:=bl) (longest:=lo) (rest:=2) hb6 hlo (5,by decide,by decide)
 have hb:=ok.box;have hl:1<=rs.length/\rs.length<=7:=by have:=ok.len;omega
 have hr:∀r∈rs,∀q∈r.pl,q.1.Ok bs:=λr hr q hq=>((ok.row r hr).2.2 q hq).1;have hsl:=Dt bs;have w0:WF bs rs [f9 0] (cP bs) 1:=(9,λf hf=>by rw[(37,hf)];exact qR hb hr [11] (zero_le _),(9,_,_,rfl,rfl),hsl,[23])
 have hS:=Nr hb hr hl;have hF:∀k s,(k<=900/\Gd bs rs k s)->vg 5 s=true/\bT [s]=okB true:=λk s ⟨_,u,top,cs,e,_⟩=>by rw[e];exact(5,Od _ _,Cj _ _)
 have g0:0<=900/\Gd bs rs 0 (ki [f9 0] (cP bs)):=⟨zero_le _,[],f9 0,cP bs,rfl,w0⟩;have hbe:=Kq (rs:=rs) hb;have hlbe:=A5 (rs:=rs) hb;generalize ki [f9 0] (cP bs)=b at g0 hbe hlbe;generalize bR bs rs=pr at hS hbe hlbe hpe;generalize hGG:(λk s=>k<=900/\Gd bs rs k s)=G at hS;have g0:G 0 b:=by rw[←hGG];exact g0
 have hF:∀k s,G k s->vg 5 s=true/\bT [s]=okB true:=by rw[←hGG];exact hF
 obtain⟨mn,hmn,emn⟩:∃mn:Nat,mn<=9/\(sIf (eBin dGt (eVar 1) (eC (.int 3))) (sSet 3 (aj (f2 FS) [(eVar 3),(eC (.int 2))])) aX) [some (.sh (.lst (ns.map D.int))),some (.sh (.int (bl:Nat))),some (.sh pr),some (.sh (.int (mn0:Nat))),none,none,none,none]=some (.next [some (.sh (.lst (ns.map D.int))),some (.sh (.int (bl:Nat))),some (.sh pr),some (.sh (.int (mn:Nat))),none,none,none,none]):=by
  by_cases h:3<bl
  ·obtain⟨m',h1,h2⟩:=LQ mn0 hmn0;exact(12,m',h1,dH (11,sW [11]) (ao (s:=.sh (.int (m':Nat))) (aI (s1:=.sh (.int (mn0:Nat))) (s2:=.sh (4,2)) rfl rfl h2)))
  ·exact(12,mn0,hmn0,(29,(11,xm [11])))
 have st1:sSet 1 (6,dMod,aj aD [(5,0),(22,1)],7) (bX 8 [[30]])=(30,[(1,[30]),(1,(.int (bl:Nat))),none,none,none,none,none,none]):=
  ao (s:=.sh (.int (bl:Nat))) (a8 (s:=.sh (4,(45,1))) (aI (s1:=.sh [30]) (s2:=.sh (4,1)) rfl rfl m1) rfl (by rw[S.val_sh,S.val_sh,b8 [12],hbl]))
 have e5:eLst [(22,200),(22,200),(10,dAdd,(22,1),(6,dMod,(6,j7,aj aD [(5,0),(22,0)],3),40))] [(1,[30]),(1,(.int (bl:Nat))),(1,pr),(1,(.int (mn:Nat))),none,none,none,none]=okL [(4,200),(4,200),.int (x40:Nat)]:=
  bW (s1:=.sh (4,200)) (s2:=.sh (4,200)) (s3:=.sh (.int (x40:Nat))) rfl rfl (a8 (s:=.sh (4,1)) (t:=.sh (4,((45,0) / 3 % 40))) rfl (a8 (s:=.sh (4,((45,0) / 3))) (a8 (s:=.sh (4,(45,0))) (aI (s1:=.sh [30]) (s2:=.sh (4,0)) rfl rfl m0) rfl (fR [12] [12])) rfl (b8 [12])) (by rw[S.val_sh,S.val_sh,add_int,hx40])) (39,(show 3<=lim by decide))
 have st5:sSet 4 (10,dIx,eLst [(22,200),(22,200),(10,dAdd,(22,1),(6,dMod,(6,j7,aj aD [(5,0),(22,0)],3),40))],(6,dMod,aj aD [(5,0),(22,0)],3)) [(1,[30]),(1,(.int (bl:Nat))),(1,pr),(1,(.int (mn:Nat))),none,none,none,none]=(30,[(1,[30]),(1,(.int (bl:Nat))),(1,pr),(1,(.int (mn:Nat))),(1,(.int (most:Nat))),none,none,none]):=
  ao (s:=.sh (.int (most:Nat))) (a8 (t:=.sh (.int (x3:Nat))) e5 (a8 (s:=.sh (4,(45,0))) (aI (s1:=.sh [30]) (s2:=.sh (4,0)) rfl rfl m0) rfl (by rw[S.val_sh,S.val_sh,b8 [12],hx3])) emost)
 have ends:∀o:Option mI,Fe [(1,[30]),(1,(.int (bl:Nat))),(1,pr),(1,(.int (mn:Nat))),(1,(.int (most:Nat))),(1,.non),(1,.non),none]=o->N4 (bX 8 [[30]])=o:=λo h=>
  (3,st1,ao (ke (s1:=.sh [30]) (s2:=.sh (.int (bl:Nat))) (s3:=.sh (.int (lo:Nat))) (s4:=.sh (4,2)) rfl rfl (elo _ rfl) rfl hpe),(3,ao (s:=.sh (.int (mn0:Nat))) (a8 (s:=(38,[(4,0),(4,1),(4,2),(4,3),(4,9)])) (t:=.sh (.int (x5:Nat))) rfl (a8 (s:=.sh (4,(45,19))) (aI (s1:=.sh [30]) (s2:=.sh (4,19)) rfl rfl m19) rfl (by rw[S.val_sh,S.val_sh,b8 [12],hx5])) emn0),emn,(3,st5,rfl,a7 rfl h)))
 have told:∀T:List (D×Int),kH [pr,.int (mn:Nat),.int (most:Nat)]=okL (T.map rowD)->T.length<=most->dX [pr,.int (mn:Nat),(13,T.map rowD)]=okB true->ye [[30]]=(36,.sh (.bl true)):=λ(T:[34]) h1 h2 h3=>
  aA rfl (ends _ (3,Nm rfl h1,(29,jP rfl rfl),bI (aF (dc (bW (s1:=.sh pr) (s2:=.sh (.int (mn:Nat))) (s3:=.sh (13,T.map rowD)) rfl rfl rfl h3) (1,eQ (s1:=.sh (13,T.map rowD)) (fW (s:=.sh (13,T.map rowD)) rfl) (fU _),Jx (by rw[length_map];omega))))))
 have refused:∀K:List D,kH [pr,.int (mn:Nat),.int (most:Nat)]=(6,.exc (AB most))->kO (nxtD pr) (comD pr) most (mn+1) [b] [] K->most<K.length->ye [[30]]=(36,.sh (.bl true)):=λK h1 h2 h3=>
  aA rfl (ends _ (a7 (P7 rfl h1) (bc (dH (jP rfl rfl) (aF (dc (aT (s1:=.sh (20,[.int (most:Nat)])) rfl (l4 [(most:Int)])) (dc (11,jH rfl) (a8 (s:=.sh (.int (K.length:Nat))) (bW (s1:=.sh pr) (s2:=.sh (.int (mn:Nat))) (s3:=.sh (.int (most:Nat))) rfl rfl rfl (Mq hS [11] [11] g0 hlbe h2)) rfl (sW [11])))))))))
 obtain⟨r0,w⟩:=yx (nxt:=nxtD pr) (most:=most) 0 most (6,b) [] (by rw[length_nil];omega)
 cases r0 with
 |none=>
  obtain⟨K',C',z,hK⟩:=vI (com:=comD pr) w [] rfl;exact refused K' (Dk hS [11] g0 hbe w) (.next mn [b] [] K' C' K' (.cons b [] _ _ _ _ _ _ z (.nil _ _)) (mm _ _ hK)) hK
 |some T0=>
  obtain⟨E,e0,W⟩:=nL w T0 rfl;obtain⟨r,k⟩:=xM (nxt:=nxtD pr) (com:=comD pr) (most:=most) (many:=mn) mn 1 0 T0 [11] (by rw[e0];exact W.len (zero_le _))
  obtain⟨t1,t2⟩:=KP hS [11] [11] g0 hbe w k
  cases r with
  |none=>
   obtain⟨K',z,hK⟩:=yY k rfl;obtain⟨E2,e2,z2⟩:=pV (com:=comD pr) w T0 [] rfl;rw[nil_append] at e2 z2;subst e2;exact refused K' (t2 rfl) (.next mn [b] [] _ _ K' (.cons b [] _ _ _ _ _ _ z2 (.nil _ _)) z) hK
  |some T=>
   obtain⟨u1,u2⟩:=t1 T rfl;have td:=Bf k 0 rfl (zero_le _) (G6 (com:=comD pr) (b:=b) [11] (.cons b [] [] T0 _ w (.nil T0))) T rfl
   exact told T u1 td.len (OA hS hF [11] [11] hlbe g0 td u2)
end Bell
set_option maxHeartbeats 8000000
namespace Bell
open PySem PySem.Spec PyProof.Rows L2 L3
def top(i:Nat):Stmt:=PySem.Challenge.pw_bellnest_k64_table_closed.main.body.getD i (.Pass (9,0,0,0,0))
abbrev kA:Stmt:=top 47
def BJ:[16]:=["_law_program_here","_law_cells_here","_law_box"]
def gA:[16]:=["_law_program_here"]
abbrev fZ:Stmt:=top 51
def sT:[16]:=["_law_turn","_law_cells_here","_law_hand","_law_at"]
def eO:[16]:=["_law_turn","_law_cells_here","_law_hand"]
abbrev ky:Stmt:=top 49
def BH:[16]:=["_law_boxes_here","_law_x","_law_first","_law_k","_law_y"]
def j1:[16]:=["_law_boxes_here","_law_x"]
abbrev kr:Stmt:=top 50
def BE:[16]:=["_law_boxes_here","_law_deed_here","_law_own","_law_turns_here","_law_other","_law_tally","_law_k","_law_cell"]
def iZ:[16]:=["_law_boxes_here","_law_deed_here"]
abbrev ju:Stmt:=top 52
def zI:[16]:=["_law_program_here","_law_state","_law_frame","_law_under","_law_places","_law_turns_here","_law_turn","_law_done"]
def fB:[16]:=["_law_program_here","_law_state"]
abbrev lT:Stmt:=top 48
def Ea:[16]:=["_law_state","_law_bell"]
def iw:[16]:=["_law_state","_law_bell"]
abbrev lR:Stmt:=top 45
def E8:[16]:=["_law_program_here","_law_frame","_law_places"]
def jU:[16]:=["_law_program_here","_law_frame"]
abbrev jt:Stmt:=top 46
def zH:[16]:=["_law_program_here","_law_pile","_law_shut","_law_frame","_law_floor","_law_ranks","_law_row_here","_law_k"]
def fA:[16]:=["_law_program_here","_law_pile"]
abbrev kx:Stmt:=top 57
def BG:[16]:=["_law_program_here","_law_many","_law_cap","_law_known","_law_level","_law_price","_law_coming","_law_first","_law_state","_law_bell"]
def j0:[16]:=["_law_program_here","_law_many","_law_cap"]
abbrev ku:Stmt:=top 39
def BF:[16]:=["_law_script","_law_k","_law_cell","_law_v"]
def cU:[16]:=["_law_script","_law_k"]
abbrev jq:Stmt:=top 40
def zF:[16]:=["_law_script","_law_k","_law_a","_law_b"]
def fz:[16]:=["_law_script","_law_k"]
abbrev kz:Stmt:=top 41
def BI:[16]:=["_law_script","_law_size","_law_many","_law_boxes_here","_law_x","_law_at","_law_starts","_law_other"]
def j2:[16]:=["_law_script"]
abbrev lS:Stmt:=top 42
def E9:[16]:=["_law_script","_law_k","_law_boxes_here","_law_rest","_law_kind","_law_pick","_law_n","_law_x","_law_size","_law_mates","_law_mate","_law_tallies","_law_gap","_law_y","_law_t"]
def jV:[16]:=["_law_script","_law_k","_law_boxes_here","_law_rest"]
abbrev nV:Stmt:=top 43
def GV:[16]:=["_law_script","_law_k","_law_boxes_here","_law_bells","_law_longest","_law_rest","_law_places","_law_p","_law_at","_law_word_here","_law_shut"]
def ll:[16]:=["_law_script","_law_k","_law_boxes_here","_law_bells","_law_longest","_law_rest"]
abbrev iF:Stmt:=top 44
def xa:[16]:=["_law_script","_law_bells","_law_longest","_law_rest","_law_boxes_here","_law_rows","_law_b","_law_at","_law_rank"]
def fL:[16]:=["_law_script","_law_bells","_law_longest","_law_rest"]
abbrev jo:Stmt:=top 53
def zE:[16]:=["_law_found","_law_one"]
def eD:[16]:=["_law_found"]
abbrev gM:Stmt:=top 54
def vj:[16]:=["_law_found","_law_frame"]
def ft:[16]:=["_law_found"]
abbrev jr:Stmt:=top 55
def zG:[16]:=["_law_found","_law_many"]
def gQ:[16]:=["_law_found","_law_many"]
abbrev fy:Stmt:=top 56
def rH:[16]:=["_law_program_here","_law_many","_law_told","_law_prices","_law_due","_law_row_here","_law_offer","_law_later","_law_bell"]
def dQ:[16]:=["_law_program_here","_law_many","_law_told"]
abbrev ko:Stmt:=top 22
def BC:[16]:=["program","row"]
def fq:[16]:=["program","row"]
abbrev nZ:Stmt:=top 23
def GZ:[16]:=["program","row","place"]
def lz:[16]:=["program","row","place"]
abbrev nR:Stmt:=top 4
def GT:[16]:=["boxes","x"]
def lh:[16]:=["boxes","x"]
abbrev lV:Stmt:=top 5
def Ec:[16]:=["boxes","x","first","k"]
def jW:[16]:=["boxes","x"]
abbrev qw:Stmt:=bO (top 9) 0
def Jm:[16]:=["self","plan"]
def fN:[16]:=["self","plan"]
abbrev lU:Stmt:=bO (top 17) 0
def Eb:[16]:=["self","sources","targets","cell"]
def ix:[16]:=["self","sources","targets"]
abbrev qz:Stmt:=bO (top 19) 0
def Jo:[16]:=["self","targets","sources","tally"]
def mZ:[16]:=["self","targets","sources","tally"]
abbrev kC:Stmt:=bO (top 10) 0
def BL:[16]:=["self","watched"]
def gB:[16]:=["self","watched"]
abbrev iH:Stmt:=bO (top 11) 0
def xf:[16]:=["self","left","right"]
def fO:[16]:=["self","left","right"]
abbrev qy:Stmt:=bO (top 15) 0
def Jn:[16]:=["self","targets","sources","k"]
def mY:[16]:=["self","targets","sources"]
abbrev qv:Stmt:=bO (top 18) 0
def Jl:[16]:=["self","targets","number"]
def mX:[16]:=["self","targets","number"]
abbrev tE:Stmt:=bO (top 14) 0
def LL:[16]:=["self","targets","numbers","cell"]
def qJ:[16]:=["self","targets","numbers"]
abbrev nW:Stmt:=bO (top 13) 0
def GW:[16]:=["self","number"]
def lq:[16]:=["self","number"]
abbrev qu:Stmt:=bO (top 16) 0
def Jk:[16]:=["self","target"]
def mW:[16]:=["self","target"]
abbrev iG:Stmt:=bO (top 12) 0
def xb:[16]:=["self"]
def fM:[16]:=["self"]
abbrev nY:Stmt:=top 20
def GY:[16]:=["boxes","deed","kind","first","second"]
def lu:[16]:=["boxes","deed"]
abbrev kB:Stmt:=top 24
def BK:[16]:=["program","frame"]
def j3:[16]:=["program","frame"]
abbrev jy:Stmt:=bO (top 9) 2
def zM:[16]:=["self","turn"]
def eG:[16]:=["self","turn"]
abbrev iI:Stmt:=bO (top 17) 1
def xg:[16]:=["self","turn","cells","hand"]
def eV:[16]:=["self","turn","cells","hand"]
abbrev nO:Stmt:=top 8
def GR:[16]:=["cells","cell","number"]
def gz:[16]:=["cells","cell","number"]
abbrev jx:Stmt:=bO (top 9) 1
def zL:[16]:=["self"]
def fC:[16]:=["self"]
abbrev iJ:Stmt:=bO (top 9) 3
def xh:[16]:=["self","turn"]
def cV:[16]:=["self","turn"]
abbrev fe:Stmt:=bO (top 17) 2
def qN:[16]:=["self","turn","cells","hand","number","behind","kept"]
def cI:[16]:=["self","turn","cells","hand","number"]
abbrev jB:Stmt:=bO (top 19) 1
def zP:[16]:=["self","turn","cells","hand"]
def gV:[16]:=["self","turn","cells","hand"]
abbrev jA:Stmt:=bO (top 15) 1
def zO:[16]:=["self","turn","cells","hand","number"]
def gU:[16]:=["self","turn","cells","hand"]
abbrev jz:Stmt:=bO (top 9) 4
def zN:[16]:=["self","turn","cells","hand"]
def gT:[16]:=["self","turn","cells","hand"]
abbrev jw:Stmt:=bO (top 18) 1
def zK:[16]:=["self","turn","cells","hand"]
def gS:[16]:=["self","turn","cells","hand"]
abbrev kD:Stmt:=bO (top 14) 1
def BM:[16]:=["self","turn","cells","hand"]
def j4:[16]:=["self","turn","cells","hand"]
abbrev jv:Stmt:=bO (top 16) 1
def zJ:[16]:=["self","turn","cells","hand","cell"]
def gR:[16]:=["self","turn","cells","hand"]
abbrev qt:Stmt:=top 29
def Jj:[16]:=["program","pile","cells","top","deed","left","frame"]
def mV:[16]:=["program","pile","cells"]
abbrev qA:Stmt:=top 34
def Jp:[16]:=["program","state"]
def n0:[16]:=["program","state"]
abbrev lW:Stmt:=top 36
def Ed:[16]:=["program","state","price","most","prices"]
def jX:[16]:=["program","state","price","most","prices"]
abbrev kn:Stmt:=top 6
def BB:[16]:=["boxes","starts","box"]
def iX:[16]:=["boxes"]
abbrev tG:Stmt:=top 31
def LN:[16]:=["program"]
def qK:[16]:=["program"]
abbrev nX:Stmt:=top 28
def GX:[16]:=["pile","bell"]
def lr:[16]:=["pile","bell"]
abbrev yV:Stmt:=top 33
def Og:[16]:=["program","state","bell"]
def v7:[16]:=["program","state","bell"]
abbrev nP:Stmt:=top 25
def GS:[16]:=["program","row","place","places"]
def lg:[16]:=["program","row","place"]
abbrev nU:Stmt:=top 26
def GU:[16]:=["program","pile","word","frame"]
def lj:[16]:=["program","pile"]
abbrev kq:Stmt:=top 27
def BD:[16]:=["program","pile","bell","rows"]
def iY:[16]:=["program","pile","bell"]
abbrev lQ:Stmt:=top 32
def E7:[16]:=["program","state","bell"]
def jT:[16]:=["program","state"]
abbrev nQ:Stmt:=top 37
def LK:[16]:=["program","many","most","prices","count","price","last","state","bell"]
def qI:[16]:=["program","many","most"]
abbrev Ba:Stmt:=top 58
def PJ:[16]:=["_law_script","_law_bells","_law_program_here","_law_many","_law_most","_law_told","_law_refused","e"]
def Fx:[16]:=["_law_script"]
structure gj(mg:Str->Option Value):Prop where
 abs:mg "abs" = none
 bool:mg "bool" = none
 int:mg "int" = none
 isinstance:mg "isinstance" = none
 len:mg "len" = none
 list:mg "list" = none
 min:mg "min" = none
 range:mg "range" = none
 set:mg "set" = none
 sorted:mg "sorted" = none
 sum:mg "sum" = none
 tuple:mg "tuple" = none
structure OZ(K:Frag)(mg:Str->Option Value)(cls:String->Addr):Prop where
 L_law_begin:bC K mg "_law_begin" kA gA
 L_law_turn_done:bC K mg "_law_turn_done" fZ eO
 L_law_cells:bC K mg "_law_cells" ky j1
 L_law_turns:bC K mg "_law_turns" kr iZ
 L_law_behind:bC K mg "_law_behind" ju fB
 L_law_come:bC K mg "_law_come" lT iw
 L_law_word:bC K mg "_law_word" lR jU
 L_law_comers:bC K mg "_law_comers" jt fA
 L_law_count:bC K mg "_law_count" kx j0
 L_law_mixed:bC K mg "_law_mixed" ku cU
 L_law_number:bC K mg "_law_number" jq fz
 L_law_boxes:bC K mg "_law_boxes" kz j2
 L_law_deed:bC K mg "_law_deed" lS jV
 L_law_row:bC K mg "_law_row" nV ll
 L_law_program:bC K mg "_law_program" iF fL
 L_law_wholes:bC K mg "_law_wholes" jo eD
 L_law_is_state:bC K mg "_law_is_state" gM ft
 L_law_is_row:bC K mg "_law_is_row" jr gQ
 L_law_table_fits:bC K mg "_law_table_fits" fy dQ
 L_places_of:bC K mg "places_of" ko fq
 L_deed_at:bC K mg "deed_at" nZ lz
 L_size_of:bC K mg "size_of" nR lh
 L_cells_of:bC K mg "cells_of" lV jW
 L_i_Deed:eU K mg cls "Deed" "Deed" "Deed.__init__" qw fN
 L_i_Handed:eU K mg cls "Handed" "Handed" "Handed.__init__" lU ix
 L_i_Anew:eU K mg cls "Anew" "Anew" "Anew.__init__" qz mZ
 L_i_Promise:eU K mg cls "Promise" "Promise" "Promise.__init__" kC gB
 L_i_Comparing:eU K mg cls "Comparing" "Comparing" "Comparing.__init__" iH fO
 L_i_Copy:eU K mg cls "Copy" "Copy" "Copy.__init__" qy mY
 L_i_Grow:eU K mg cls "Grow" "Grow" "Grow.__init__" qv mX
 L_i_Put:eU K mg cls "Put" "Put" "Put.__init__" tE qJ
 L_i_Still:eU K mg cls "Still" "Still" "Still.__init__" nW lq
 L_i_Tick:eU K mg cls "Tick" "Tick" "Tick.__init__" qu mW
 L_i_Untouched:eU K mg cls "Untouched" "Untouched" "Untouched.__init__" iG fM
 L_deed_of:bC K mg "deed_of" nY lu
 L_is_at_end:bC K mg "is_at_end" kB j3
 L_Deed_reads:(2,K,cls,"reads","Deed.reads",jy,eG)
 L_Handed_laid:eS K cls "laid" "Handed.laid" iI eV ["Handed","Grow","Anew"]
 L_written:bC K mg "written" nO gz
 L_Deed_turns:(2,K,cls,"turns","Deed.turns",jx,fC)
 L_Deed_writes:(2,K,cls,"writes","Deed.writes",iJ,cV)
 L_Handed_set_down:eS K cls "set_down" "Handed.set_down" fe cI ["Handed","Grow","Anew"]
 L_Anew_after:eS K cls "after" "Anew.after" jB gV ["Anew"]
 L_Copy_after:eS K cls "after" "Copy.after" jA gU ["Copy"]
 L_Deed_after:eS K cls "after" "Deed.after" jz gT ["Deed","Promise","Comparing","Untouched","Still","Handed"]
 L_Grow_after:eS K cls "after" "Grow.after" jw gS ["Grow"]
 L_Put_after:eS K cls "after" "Put.after" kD j4 ["Put"]
 L_Tick_after:eS K cls "after" "Tick.after" jv gR ["Tick"]
 L_turned:bC K mg "turned" qt mV
 L_behind:bC K mg "behind" qA n0
 L_add_walk:bC K mg "add_walk" lW jX
 L_starts_of:bC K mg "starts_of" kn iX
 L_begin:bC K mg "begin" tG qK
 L_entered:bC K mg "entered" nX lr
 L_come:bC K mg "come" yV v7
 L_word_at:bC K mg "word_at" nP lg
 L_shut_by:bC K mg "shut_by" nU lj
 L_may_enter:bC K mg "may_enter" kq iY
 L_may_come:bC K mg "may_come" lQ jT
 L_table:FZ K mg "table" nQ qI (300)
 L_law:bC K mg "law" Ba Fx
 fld_check:∀c∈["Anew"],l3 K (cls c)/\cL K (cls c) "check"
 fld_number:∀c∈["Grow"],l3 K (cls c)/\cL K (cls c) "number"
 fld_numbers:∀c∈["Put"],l3 K (cls c)/\cL K (cls c) "numbers"
 fld_plan:∀c∈["Deed","Promise","Comparing","Untouched","Still","Put","Copy","Tick","Handed","Grow","Anew"],l3 K (cls c)/\cL K (cls c) "plan"
 fld_size:∀c∈["Grow"],l3 K (cls c)/\cL K (cls c) "size"
 x_TooMany:Kx K mg cls "TooMany" "TooMany" "TooMany.__init__" "most" "most" (bO (top 2) 0)
seal PySem.wpAny
section
variable{P:Program}{w:World}{K:Frag}{mg:Str->Option Value}{base:Heap}{cls:String->Addr}
theorem jn:aw BJ gA (ag kA):=(2,rfl,rfl,rfl,rfl)
theorem zw(L:bC K mg "_law_begin" kA gA)(Z:gj mg)  : (3,P,w,K,mg,1,"_law_begin",gA,dz):=bj (k:=0) L jn λf cdv A outer s H E hr=>(5,(7,1,jn.nd,cC aa),(7,rfl,cR rfl (17,0,a9),mG jn.nd rfl,aL (i:=1) (af (7,1,jn.nd,(16,(2,1),jR (tW rfl) rfl Z.list L3.r6 (19,2,a9,aa))))),aL (i:=1) (18,aq (15,(15,bU a9 (bU a9 (bU a9 (15,aa,aa))),aa),kU (jR (i7 rfl) rfl Z.tuple L3.dA (2,1,aa)) aa)))
theorem fx:aw sT eO (ag fZ):=(2,rfl,rfl,rfl,rfl)
theorem rG(L:bC K mg "_law_turn_done" fZ eO)(Z:gj mg)  : (3,P,w,K,mg,1,"_law_turn_done",eO,gf):=bj (k:=0) L fx λf cdv A outer s H E hr=>(aL (i:=1) (5,(7,1,fx.nd,jR (tW rfl) rfl Z.list L3.r6 (2,1,aa)),(7,3,fx.nd,(17,0,a9)),(5,(12,av aV (17,0,a9) bq,af (kE (i:=1) (pv 1) (2,3) (17,0,a9))),(12,av aV (17,0,a9) bq,af (kE (i:=1) (pv 1) (2,3) (16,IU rfl (aW (pv 1)) (PD.look (2,3)),a9))),(5,(12,av aV (17,0,a9) bq,af (kE (i:=1) (pv 1) (2,3) (IU rfl (aW (pv 1)) (PD.look (17,0,a9))))),(12,av aV (17,0,a9) bq,aL (i:=1) (af (7,2,fx.nd,(16,(2,2),aq (19,1,(2,3),aa))))),ae (12,av aV (17,0,a9) bq,af (kE (i:=1) (pv 1) (2,3) (16,(17,2,(3,(17,0,a9),a9)),(3,(17,0,a9),a9)))) (aL (i:=1) (18,aq (kU (jR (i7 rfl) rfl Z.tuple L3.dA (2,1,aa)) (2,2,aa))))))))
theorem jm:aw BH j1 (ag ky):=(2,rfl,rfl,rfl,rfl)
theorem zu(L:bC K mg "_law_cells" ky j1)(Z:gj mg)  : (3,P,w,K,mg,1,"_law_cells",j1,fu):=bj (k:=0) L jm λf cdv A outer s H E hr=>(ae (7,2,jm.nd,zi (Kl rfl rfl) rfl Z.sum L3.Ko (cD (1,[4],[".0","_law_y"],bH 4,by rfl,rfl,bY rfl Z.range (2,1),(λ_ _ _ _=>(mG jm.nd rfl)),(λ_ _ _ _=>(1,bG rfl,rfl,Z.len,aQ (PD.look (3,(17,0,(2,4)),a9)) bg))) aa)) (18,(1,[3],[".0","_law_k"],bH 3,by rfl,rfl,bY rfl Z.range (1,bG rfl,rfl,Z.len,aQ (PD.look (3,(17,0,(2,1)),a9)) bg),(λ_ _ _ _=>(mG jm.nd rfl)),(λ_ _ _ _=>(16,(2,2),(2,3))))))
theorem bJ:aw BE iZ (ag kr):=(2,rfl,rfl,rfl,rfl)
theorem zq(L:bC K mg "_law_turns" kr iZ)(Z:gj mg)(H_law_cells:(3,P,w,K,mg,1,"_law_cells",j1,fu)):(3,P,w,K,mg,2,"_law_turns",iZ,kK):=bj (k:=1) L bJ λf cdv A outer s H E hr=>(5,(12,av aV (17,1,a9) bq,(18,(1,[6],[".0","_law_k"],bH 6,by rfl,rfl,bY rfl Z.range (17,1,a9),(λ_ _ _ _=>(mG bJ.nd rfl)),(λ_ _ _ _=>(aq (bU bq (bU a9 (bU a9 aa)))))))),(7,2,bJ.nd,(20,H_law_cells,0,(19,1,a9,aa))),(5,(12,av aV (17,1,a9) bq,aL (i:=2) (18,(1,[6],[".0","_law_k"],bH 6,by rfl,rfl,bY rfl Z.range (1,bG rfl,rfl,Z.len,aQ (aW (pv 2)) bg),(λ_ _ _ _=>(mG bJ.nd rfl)),(λ_ _ _ _=>(aq (bU bq (19,2,(2,6),(11,(17,1,a9),(2,6),aa)))))))),(12,av aV (17,1,a9) bq,aL (i:=2) (18,cC (15,bU bq (19,2,a9,bU a9 aa),aa))),(5,(12,av aV (17,1,a9) bq,aL (i:=2) (ae (IG (i:=3) bJ.nd rfl [35] (js:=[7]) (vars:=[".0","_law_cell"]) (bH 7) (by rfl) (by rfl) rfl (cR rfl (2,2)) (λ_ _ _ _=>(mG bJ.nd rfl)) (λ_ _ _ _=>(aq (bU bq (2,7,bU a9 aa))))) (aL (i:=3) (aL (i:=2) (18,(16,(2,3),(1,[6],[".0","_law_k"],bH 6,by rfl,rfl,bY rfl Z.range (1,bG rfl,rfl,Z.len,aQ (aW (pv 2)) bg),(λ_ _ _ _=>(mG bJ.nd rfl)),(λ_ _ _ _=>(aq (bU bq (19,2,(2,6),(15,(2,6,(19,1,a9,aa)),aa)))))))))))),(12,av aV (17,1,a9) bq,ae (7,4,bJ.nd,(20,H_law_cells,0,(19,1,a9,aa))) (aL (i:=4) (aL (i:=2) (18,(1,[6],[".0","_law_k"],bH 6,by rfl,rfl,bY rfl Z.range (1,bG rfl,rfl,Z.len,aQ (aW (pv 2)) bg),(λ_ _ _ _=>(mG bJ.nd rfl)),(λ_ _ _ _=>(aq (bU bq (19,2,(2,6),(19,4,(2,6),aa)))))))))),ae (12,av aV (17,1,a9) bq,(5,(7,5,bJ.nd,(3,(20,H_law_cells,0,(19,1,a9,aa)),a9)),(7,3,bJ.nd,(16,cC (15,bU bq (2,5,bU a9 aa),aa),(1,[7],[".0","_law_cell"],bH 7,by rfl,rfl,cR rfl (20,H_law_cells,0,(19,1,a9,aa)),(λ_ _ _ _=>(mG bJ.nd rfl)),(λ_ _ _ _=>(aq (bU bq (2,7,bU a9 aa))))))),aL (i:=3) (aL (i:=2) (18,(16,(16,(2,3),cC (15,bU bq (2,5,bU a9 aa),aa)),(1,[6],[".0","_law_k"],bH 6,by rfl,rfl,bY rfl Z.range (1,bG rfl,rfl,Z.len,aQ (aW (pv 2)) bg),(λ_ _ _ _=>(mG bJ.nd rfl)),(λ_ _ _ _=>(aq (bU bq (19,2,(2,6),(15,eN (16,(2,6),a9) (bU a9 aa),aa))))))))))) (18,cC (15,bU bq (bU a9 (bU a9 aa)),aa)))))
theorem dC:aw zI fB (ag ju):=(2,rfl,rfl,rfl,rfl)
theorem wU(L:bC K mg "_law_behind" ju fB)(Z:gj mg)(H_law_turn_done:(3,P,w,K,mg,1,"_law_turn_done",eO,gf))(H_law_turns:(3,P,w,K,mg,2,"_law_turns",iZ,kK)):(3,P,w,K,mg,3,"_law_behind",fB,bK):=bj (k:=2) L dC λf cdv A outer s H E hr=>(5,(7,2,dC.nd,(3,(17,1,a9),pL)),(7,3,dC.nd,iV rfl (17,1,a9) iU (iT pL)),(5,(7,4,dC.nd,(3,(3,(17,0,a9),(17,2,a9)),a9)),(12,av aV (17,2,a9) (1,bG rfl,rfl,Z.len,aQ (aW (pv 4)) bg),(18,zf)),ae (7,5,dC.nd,(13,H_law_turns,(19,0,a9,(11,(17,4,(17,2,a9)),a9,aa)))) (aL (i:=5) (5,(7,6,dC.nd,(17,5,(17,2,a9))),(7,7,dC.nd,(20,H_law_turn_done,6,(19,1,a9,(19,2,a9,aa)))),(5,(12,oE.pt (dv (av aV (17,6,a9) bq) (du (av ma (3,(17,1,a9),(17,6,a9)) (3,(17,2,a9),a9)))),(18,aq (eN (16,(2,3),aq (15,(19,2,a9,(19,2,a9,bU a9 (15,aa,aa))),aa)) (19,7,a9,aa)))),(12,av pM (16,(17,2,a9),a9) (1,bG rfl,rfl,Z.len,aQ (aW (pv 5)) bg),(18,aq (eN (16,(2,3),aq (15,(19,2,a9,(19,2,a9,eN (16,(17,2,a9),a9) (19,7,a9,aa))),aa)) (19,7,a9,aa)))),ae (12,oE.pt (dv (av jc (17,2,a9) a9) (du (av aV (16,(17,2,a9),a9) (1,bG rfl,rfl,Z.len,aQ (aW (pv 4)) bg)))),(18,aq (2,3,(19,7,a9,aa)))) (18,aq (eN (16,(2,3),aq (15,(19,2,a9,eN (16,(17,2,a9),a9) (bU a9 (15,aa,aa))),aa)) (19,7,a9,aa))))))))
theorem B8:aw Ea iw (ag lT):=(2,rfl,rfl,rfl,rfl)
theorem Bv(L:bC K mg "_law_come" lT iw)(Z:gj mg)  : (3,P,w,K,mg,1,"_law_come",iw,cK):=bj (k:=0) L B8 λf cdv A outer s H E hr=>(18,aq (eN (16,(17,0,a9),aq (15,(2,1,bU a9 (bU a9 (15,aa,aa))),aa)) (19,0,a9,aa)))
theorem se:aw E8 jU (ag lR):=(2,rfl,rfl,rfl,rfl)
theorem Bt(L:bC K mg "_law_word" lR jU)(Z:gj mg)  : (3,P,w,K,mg,1,"_law_word",jU,mj):=bj (k:=0) L se λf cdv A outer s H E hr=>(5,(7,2,se.nd,(3,(3,(17,0,a9),(17,1,a9)),a9)),(12,av aV (17,1,a9) (1,bG rfl,rfl,Z.len,aQ (aW (pv 2)) bg),(18,a9)),(18,(3,(17,2,(17,1,a9)),a9)))
theorem cT:aw zH fA (ag jt):=(2,rfl,rfl,rfl,rfl)
theorem wR(L:bC K mg "_law_comers" jt fA)(Z:gj mg)(H_law_word:(3,P,w,K,mg,1,"_law_word",jU,mj)):(3,P,w,K,mg,2,"_law_comers",fA,cx):=bj (k:=1) L cT λf cdv A outer s H E hr=>(5,(7,2,cT.nd,a9),(7,rfl,cR rfl (2,1),mG cT.nd rfl,af (7,2,cT.nd,ak FB (2,2) (20,H_law_word,0,(2,3,aa)))),(5,(7,4,cT.nd,(3,(3,(17,0,a9),(3,(17,1,pL),a9)),a9)),(7,5,cT.nd,(1,[6],[".0","_law_row_here"],bH 6,by rfl,rfl,cR rfl (17,0,a9),(λ_ _ _ _=>(mG cT.nd rfl)),(λ_ _ _ _=>(17,6,a9)))),aL (i:=5) (18,xV (js:=[7]) (vars:=[".0","_law_k"]) (bH 7) (by rfl) (by rfl) rfl (pK rfl Z.range a9 (1,bG rfl,rfl,Z.len,aQ (aW (pv 5)) bg)) (λ_ _ _ _=>(mG cT.nd rfl)) (λ_ _ _ _=>(oE.pt (dv (av jc (17,5,(2,7)) (2,4)) (du (av aV (ak bB (ak j5 (2,2) (ak Fz a9 (2,7))) a9) a9))))) (λ_ _ _ _=>(2,7)))))
theorem cB:aw BG j0 (ag kx):=(2,rfl,rfl,rfl,rfl)
theorem zt(L:bC K mg "_law_count" kx j0)(Z:gj mg)(H_law_begin:(3,P,w,K,mg,1,"_law_begin",gA,dz))(H_law_behind:(3,P,w,K,mg,3,"_law_behind",fB,bK))(H_law_come:(3,P,w,K,mg,1,"_law_come",iw,cK))(H_law_comers:(3,P,w,K,mg,2,"_law_comers",fA,cx)):(3,P,w,K,mg,4,"_law_count",j0,kL):=bj (k:=3) L cB λf cdv A outer s H E hr=>(5,rE (i:=3) cB.nd rfl [35],(7,4,cB.nd,cC (kU (20,H_law_begin,0,aa) aa)),ae (7,rfl,bY rfl Z.range (16,(2,1),a9),mG cB.nd rfl,ae (7,6,cB.nd,cC aa) (aL (i:=4) (ae (7,rfl,cR rfl (2,4),mG cB.nd rfl,ae (7,8,cB.nd,(2,7)) (af (xR (λ_=>5000) PassesOwn.never (oE.pt (dv (qH (2,8)) (dv (mR (i:=3) rfl (k9 hr) (pv 3) (2,8)) (du (av va (tO (i:=3) rfl Z.len (pv 3)) (2,2)))))) (5,l9 (i:=3) rfl (k9 hr) (pv 3) (2,8) jS,uT (i:=6) rfl (pv 6) (1,[9],[".0","_law_bell"],bH 9,by rfl,rfl,cR rfl (20,H_law_comers,0,(19,8,a9,aa)),(λ_ _ _ _=>(mG cB.nd rfl)),(λ_ _ _ _=>(20,H_law_come,8,(2,9,aa)))),af (7,8,cB.nd,(20,H_law_behind,0,(2,8,aa))))))) (aL (i:=6) (af (7,4,cB.nd,(2,6))))))) (18,tO (i:=3) rfl Z.len (pv 3)))
theorem jl:aw BF cU (ag ku):=(2,rfl,rfl,rfl,rfl)
theorem zr(L:bC K mg "_law_mixed" ku cU)(Z:gj mg)  : (3,P,w,K,mg,1,"_law_mixed",cU,aD):=bj (k:=0) L jl λf cdv A outer s H E hr=>(5,(7,2,jl.nd,a9),(12,av jc (1,bG rfl,rfl,Z.len,aQ (aW (pv 0)) bg) a9,af (7,2,jl.nd,(17,0,ak bB (2,1) (1,bG rfl,rfl,Z.len,aQ (aW (pv 0)) bg)))),ae (7,3,jl.nd,ak bB (16,(16,ak gW (ak bB (2,2) a9) a9,ak gW (ak gW (2,1) (2,1)) a9),a9) a9) (18,ak bB (ak gW (2,3) (2,3)) a9))
theorem kR:aw zF fz (ag jq):=(2,rfl,rfl,rfl,rfl)
theorem wO(L:bC K mg "_law_number" jq fz)(Z:gj mg)(H_law_mixed:(3,P,w,K,mg,1,"_law_mixed",cU,aD)):(3,P,w,K,mg,2,"_law_number",fz,bE):=bj (k:=1) L kR λf cdv A outer s H E hr=>(5,(7,2,kR.nd,(20,H_law_mixed,0,(2,1,aa))),(7,3,kR.nd,(20,H_law_mixed,0,eN (16,(2,1),a9) aa)),(5,(12,av aV (ak bB (2,2) a9) a9,(18,ak o8 (ak bB (2,3) a9) a9)),(12,av aV (ak bB (2,2) a9) a9,(18,(3,cC (eN (ak zk a9 a9) (QL (Lu (ak zk a9 a9)) aa)),ak bB (2,3) a9))),(18,ak o8 (ak bB (16,ak gW (2,2) a9,(2,3)) a9) a9)))
theorem cQ:aw BI j2 (ag kz):=(2,rfl,rfl,rfl,rfl)
theorem zv(L:bC K mg "_law_boxes" kz j2)(Z:gj mg)(H_law_mixed:(3,P,w,K,mg,1,"_law_mixed",cU,aD))(H_law_number:(3,P,w,K,mg,2,"_law_number",fz,bE)):(3,P,w,K,mg,3,"_law_boxes",j2,kM):=bj (k:=2) L cQ λf cdv A outer s H E hr=>(5,(7,1,cQ.nd,(16,a9,ak bB (20,H_law_mixed,0,bU a9 aa) a9)),(7,2,cQ.nd,(20,H_law_mixed,0,bU a9 aa)),(5,(7,2,cQ.nd,(3,cC (eN (ak bB (ak j5 (2,2) a9) a9) (eN (16,a9,ak bB (ak j5 (2,2) a9) a9) aa)),jR Km rfl Z.int L3.ET (cD (mU aV (ak bB (2,2) a9) a9) aa))),(7,3,cQ.nd,cC aa),ae (7,rfl,bY rfl Z.range (2,2),mG cQ.nd rfl,(5,(7,5,cQ.nd,(16,(16,a9,ak gW a9 (2,4)),ak gW a9 (ak j5 (2,4) a9))),(7,6,cQ.nd,cC (kU (20,H_law_number,0,(2,5,aa)) aa)),(5,(7,7,cQ.nd,ak bB (20,H_law_mixed,0,eN (16,(2,5),a9) aa) a9),(12,oE.pt (gr (oE.pt (dv (av aV (2,1) a9) (du (av jc (2,7) (3,cC (bU a9 (bU a9 (bU a9 aa))),ak bB (2,4) a9))))) (g7 (oE.pt (dv (av aV (2,1) a9) (du (av aV (2,7) a9)))))),af (m8 (i:=6) (pv 6) (20,H_law_number,0,eN (16,(2,5),a9) aa))),aL (i:=6) (af (m8 (i:=3) (pv 3) (aq (11,bq,(2,4),kU (jR (i7 rfl) rfl Z.tuple L3.dA (2,6,aa)) aa))))))) (aL (i:=3) (18,jR (i7 rfl) rfl Z.tuple L3.dA (2,3,aa)))))
theorem c9:aw E9 jV (ag lS):=(2,rfl,rfl,rfl,rfl)
theorem Bu(L:bC K mg "_law_deed" lS jV)(Z:gj mg)(H_law_mixed:(3,P,w,K,mg,1,"_law_mixed",cU,aD))(H_law_number:(3,P,w,K,mg,2,"_law_number",fz,bE)):(3,P,w,K,mg,3,"_law_deed",jV,ka):=bj (k:=2) L c9 λf cdv A outer s H E hr=>(5,(7,4,c9.nd,ak bB (20,H_law_mixed,0,(2,1,aa)) a9),(7,5,c9.nd,(20,H_law_mixed,0,eN (16,(2,1),a9) aa)),(5,(7,6,c9.nd,(20,H_law_number,0,eN (16,(2,1),a9) aa)),(12,oE.pt (gr (av aV (1,bG rfl,rfl,Z.len,aQ (aW (pv 2)) bg) a9) (g7 (av aV (2,4) a9))),(18,aq (bU bq (eN (16,a9,ak bB (2,5) (2,3)) aa)))),(5,(7,7,c9.nd,ak bB (2,5) (1,bG rfl,rfl,Z.len,aQ (aW (pv 2)) bg)),(7,8,c9.nd,(1,bG rfl,rfl,Z.len,aQ (PD.look (3,(17,2,(2,7)),a9)) bg)),ae (uU (i:=9) c9.nd rfl [35] (js:=[13]) (vars:=[".0","_law_y"]) (bH 13) (by rfl) (by rfl) rfl (bY rfl Z.range (1,bG rfl,rfl,Z.len,aQ (aW (pv 2)) bg)) (λ_ _ _ _=>(mG c9.nd rfl)) (λ_ _ _ _=>(oE.pt (dv (av ma (2,13) (2,7)) (du (av aV (1,bG rfl,rfl,Z.len,aQ (PD.look (3,(17,2,(2,13)),a9)) bg) (2,8)))))) (λ_ _ _ _=>(2,13))) (aL (i:=9) (5,(7,10,c9.nd,(3,(16,(2,9),cC (2,7,aa)),ak bB (20,H_law_mixed,0,eN (16,(2,1),a9) aa) (16,(1,bG rfl,rfl,Z.len,aQ (aW (pv 9)) bg),a9))),(12,oE.pt (gr (av aV (2,4) a9) (g7 (av aV (2,4) a9))),(5,(7,12,c9.nd,ak o8 (3,(3,(17,2,(2,7)),a9),a9) (3,(3,(17,2,(2,10)),a9),a9)),(12,oE.pt (dv (av jc (ak bB (ak j5 (2,5) a9) a9) a9) (du (av va (zi OJ rfl Z.abs L3.OM (2,12,aa)) (ak zk a9 a9)))),af (7,6,c9.nd,(2,12))),(18,aq (11,cC (bU bq (bU bq aa)),ak o8 (2,4) a9,(2,7,(2,10,(2,6,aa))))))),(5,(12,oE.pt (dv (av aV (2,4) a9) (du (av ma (2,10) (2,7)))),(18,aq (bU bq (2,7,(2,10,aa))))),(12,oE.pt (gr (av aV (2,4) a9) (g7 (oE.pt (dv (av aV (2,4) a9) (du (av aV (2,8) a9)))))),(18,aq (bU bq (2,7,(2,6,aa))))),(5,(12,av aV (2,4) a9,(18,aq (bU bq (2,7,aa)))),(12,oE.pt (gr (av aV (2,4) a9) (g7 (av aV (2,4) a9))),(18,aq (bU bq (2,7,aa)))),(5,uU (i:=11) c9.nd rfl [35] (js:=[14]) (vars:=[".0","_law_t"]) (bH 14) (by rfl) (by rfl) rfl (bY rfl Z.range (1,bG rfl,rfl,Z.len,aQ (aW (pv 2)) bg)) (λ_ _ _ _=>(mG c9.nd rfl)) (λ_ _ _ _=>(oE.pt (dv (av ma (2,14) (2,7)) (dv (av ma (2,14) (2,10)) (du (av aV (1,bG rfl,rfl,Z.len,aQ (PD.look (3,(17,2,(2,14)),a9)) bg) a9)))))) (λ_ _ _ _=>(2,14)),(12,oE.pt (dv (av aV (2,4) a9) (dv (av ma (2,10) (2,7)) (du (av jc (1,bG rfl,rfl,Z.len,aQ (aW (pv 11)) bg) a9)))),aL (i:=11) (18,aq (bU bq (2,7,(2,10,(19,11,ak bB (ak j5 (2,5) a9) (1,bG rfl,rfl,Z.len,aQ (aW (pv 11)) bg),aa)))))),ae (12,av aV (2,8) a9,(18,aq (bU bq (2,7,(15,(2,6,aa),aa))))) (18,aq (bU bq (2,7,(15,(2,6,kU (20,H_law_number,0,eN (16,(2,1),a9) aa) aa),aa))))))))))))
theorem gn:aw GV ll (ag nV):=(2,rfl,rfl,rfl,rfl)
theorem DZ(L:bC K mg "_law_row" nV ll)(Z:gj mg)(H_law_deed:(3,P,w,K,mg,3,"_law_deed",jV,ka))(H_law_mixed:(3,P,w,K,mg,1,"_law_mixed",cU,aD)):(3,P,w,K,mg,4,"_law_row",ll,lE):=bj (k:=3) L gn λf cdv A outer s H E hr=>(5,(7,6,gn.nd,cC aa),(7,rfl,bY rfl Z.range (16,a9,ak bB (20,H_law_mixed,0,(2,1,aa)) (2,4)),mG gn.nd rfl,(5,(7,8,gn.nd,(16,(16,(2,1),a9),ak gW a9 (2,7))),(7,9,gn.nd,a9),(5,(7,10,gn.nd,(20,H_law_mixed,0,eN (16,(2,8),a9) aa)),(12,av aV (ak bB (2,10) a9) a9,af (7,9,gn.nd,ak gW a9 (ak bB (ak j5 (2,10) a9) (ak Fz a9 (2,3))))),af (m8 (i:=6) (pv 6) (aq (kU (20,H_law_deed,0,(2,8,(2,2,(2,5,aa)))) (2,9,aa))))))),aL (i:=6) (18,jR (i7 rfl) rfl Z.tuple L3.dA (2,6,aa)))
theorem dP:aw xa fL (ag iF):=(2,rfl,rfl,rfl,rfl)
theorem vb(L:bC K mg "_law_program" iF fL)(Z:gj mg)(H_law_boxes:(3,P,w,K,mg,3,"_law_boxes",j2,kM))(H_law_mixed:(3,P,w,K,mg,1,"_law_mixed",cU,aD))(H_law_row:(3,P,w,K,mg,4,"_law_row",ll,lE)):(3,P,w,K,mg,5,"_law_program",fL,iM):=bj (k:=4) L dP λf cdv A outer s H E hr=>(5,(7,4,dP.nd,(20,H_law_boxes,0,aa)),(7,5,dP.nd,cC (15,bU bq (bU a9 (kU (20,H_law_row,0,bU a9 (2,4,(2,1,(2,2,(2,3,aa))))) aa)),aa)),ae (7,rfl,bY rfl Z.range (2,1),mG dP.nd rfl,(5,(7,7,dP.nd,(16,a9,ak gW (16,a9,ak gW a9 (2,2)) (16,(2,6),a9))),(7,8,dP.nd,(16,a9,ak bB (20,H_law_mixed,0,eN (16,(2,7),a9) aa) (3,cC (bU a9 (bU a9 aa)),ak bB (20,H_law_mixed,0,eN (16,(2,7),a9) aa) a9))),af (m8 (i:=5) (pv 5) (aq (11,bq,(2,6),(2,8,kU (20,H_law_row,0,(2,7,(2,4,(2,1,(2,2,(2,3,aa)))))) aa)))))) (aL (i:=5) (18,aq (2,4,kU (jR (i7 rfl) rfl Z.tuple L3.dA (2,5,aa)) aa))))
theorem oQ:aw zE eD (ag jo):=(2,rfl,rfl,rfl,rfl)
theorem wN(L:bC K mg "_law_wholes" jo eD)(Z:gj mg)  : (3,P,w,K,mg,1,"_law_wholes",eD,cw):=bj (k:=0) L oQ λf cdv A outer s H E hr=>(5,(12,gO (eu (mT rfl (lA _) rfl Z.isinstance rfl Z.tuple L3.dA (2,0))),(18,jS)),(7,rfl,cR rfl (2,0),mG oQ.nd rfl,af (12,oE.pt (gr (gO (eu (mT rfl (M0 _) rfl Z.isinstance rfl Z.int L3.ET (2,1)))) (g7 (eu (mT rfl (JG _) rfl Z.isinstance rfl Z.bool L3.Mw (2,1))))),(18,jS))),(18,jS))
theorem mz:aw vj ft (ag gM):=(2,rfl,rfl,rfl,rfl)
theorem sR(L:bC K mg "_law_is_state" gM ft)(Z:gj mg)(H_law_wholes:(3,P,w,K,mg,1,"_law_wholes",eD,cw)):(3,P,w,K,mg,2,"_law_is_state",ft,bT):=bj (k:=1) L mz λf cdv A outer s H E hr=>(5,(12,oE.pt (gr (gO (eu (mT rfl (lA _) rfl Z.isinstance rfl Z.tuple L3.dA (2,0)))) (gr (av ma (1,bG rfl,rfl,Z.len,aQ (aW (pv 0)) bg) a9) (g7 (gO (eu (mT rfl (lA _) rfl Z.isinstance rfl Z.tuple L3.dA (17,0,a9))))))),(18,jS)),(7,rfl,cR rfl (17,0,a9),mG mz.nd rfl,ae (12,oE.pt (gr (gO (eu (mT rfl (lA _) rfl Z.isinstance rfl Z.tuple L3.dA (2,1)))) (g7 (av ma (1,bG rfl,rfl,Z.len,aQ (aW (pv 1)) bg) a9))),(18,jS)) (af (12,oE.pt (gr (gO (eu (13,H_law_wholes,padS (iV rfl (2,1) iU (iT a9)) aa))) (g7 (gO (eu (13,H_law_wholes,(19,1,a9,aa)))))),(18,jS)))),(18,(13,H_law_wholes,(19,0,a9,aa))))
theorem wH:aw zG gQ (ag jr):=(2,rfl,rfl,rfl,rfl)
theorem wQ(L:bC K mg "_law_is_row" jr gQ)(Z:gj mg)(H_law_is_state:(3,P,w,K,mg,2,"_law_is_state",ft,bT))(H_law_wholes:(3,P,w,K,mg,1,"_law_wholes",eD,cw)):(3,P,w,K,mg,3,"_law_is_row",gQ,hZ):=bj (k:=2) L wH λf cdv A outer s H E hr=>(ae (12,oE.pt (gr (gO (eu (mT rfl (lA _) rfl Z.isinstance rfl Z.tuple L3.dA (2,0)))) (gr (av ma (1,bG rfl,rfl,Z.len,aQ (aW (pv 0)) bg) a9) (g7 (gO (eu (13,H_law_is_state,(19,0,a9,aa))))))),(18,jS)) (18,v3 (13,H_law_wholes,padS (iV rfl (2,0) (iT a9) iU) aa) (ze (IX va va a9 (17,0,a9) (2,1)))))
theorem cp:aw rH dQ (ag fy):=(2,rfl,rfl,rfl,rfl)
theorem qL(L:bC K mg "_law_table_fits" fy dQ)(Z:gj mg)(H_law_begin:(3,P,w,K,mg,1,"_law_begin",gA,dz))(H_law_behind:(3,P,w,K,mg,3,"_law_behind",fB,bK))(H_law_come:(3,P,w,K,mg,1,"_law_come",iw,cK))(H_law_comers:(3,P,w,K,mg,2,"_law_comers",fA,cx))(H_law_is_row:(3,P,w,K,mg,3,"_law_is_row",gQ,hZ)):(3,P,w,K,mg,4,"_law_table_fits",dQ,dX):=bj (k:=3) L cp λf cdv A outer s H E hr=>(5,(12,oE.pt (gr (gO (eu (mT rfl (JF _) rfl Z.isinstance rfl Z.list L3.r6 (2,2)))) (g7 (av aV (1,bG rfl,rfl,Z.len,aQ (aW (pv 2)) bg) a9))),(18,jS)),rE (i:=3) cp.nd rfl [35],(5,Gz (i:=4) rfl (k9 hr) cp.nd rfl [35] (aq (kU (20,H_law_begin,0,aa) (bU a9 aa))) jS,(7,rfl,cR rfl (2,2),mG cp.nd rfl,(5,(12,oE.pt (gr (gO (eu (20,H_law_is_row,5,(2,1,aa)))) (gr (IE (i:=3) rfl (k9 hr) (pv 3) (17,5,a9)) (g7 (mR (i:=4) rfl (k9 hr) (pv 4) (2,5))))),(18,jS)),l9 (i:=3) rfl (k9 hr) (pv 3) (17,5,a9) (17,5,a9),(5,(7,7,cp.nd,(20,H_law_behind,0,(19,5,a9,aa))),(12,qH (2,7),af (l9 (i:=4) rfl (k9 hr) (pv 4) (aq (2,7,(19,5,a9,aa))) jS)),af (12,av pM (17,5,a9) (2,1),af (7,rfl,cR rfl (20,H_law_comers,0,(11,(17,5,a9),a9,aa)),mG cp.nd rfl,af (l9 (i:=4) rfl (k9 hr) (pv 4) (aq (kU (13,H_law_come,(19,5,a9,(2,8,aa))) (eN (16,(17,5,a9),a9) aa))) jS)))))),ae (7,rfl,cR rfl (Bo (i:=4) rfl rfl Z.list (pv 4)),mG cp.nd rfl,af (12,av jc (IV (i:=3) rfl (k9 hr) (pv 3) (17,6,a9) (16,(2,1),a9)) (17,6,a9),(18,jS))) (18,jS)))
theorem yR:aw BC fq (ag ko):=(2,rfl,rfl,rfl,rfl)
theorem zo(L:bC K mg "places_of" ko fq)(Z:gj mg)  : (3,P,w,K,mg,1,"places_of",fq,dY):=bj (k:=0) L yR λf cdv A outer s H E hr=>(18,(3,(3,(17,0,a9),(2,1)),a9))
theorem DE:aw GZ lz (ag nZ):=(2,rfl,rfl,rfl,rfl)
theorem E6(L:bC K mg "deed_at" nZ lz)(Z:gj mg)(H_places_of:(3,P,w,K,mg,1,"places_of",fq,dY)):(3,P,w,K,mg,2,"deed_at",lz,ou):=bj (k:=1) L DE λf cdv A outer s H E hr=>(18,(3,(3,(20,H_places_of,0,(2,1,aa)),(2,2)),a9))
theorem DA:aw GT lh (ag nR):=(2,rfl,rfl,rfl,rfl)
theorem DX(L:bC K mg "size_of" nR lh)(Z:gj mg)  : (3,P,w,K,mg,1,"size_of",lh,jN):=bj (k:=0) L DA λf cdv A outer s H E hr=>(18,(1,bG rfl,rfl,Z.len,aQ (PD.look (3,(17,0,(2,1)),a9)) bg))
theorem mO:aw Ec jW (ag lV):=(2,rfl,rfl,rfl,rfl)
theorem By(L:bC K mg "cells_of" lV jW)(Z:gj mg)(H_size_of:(3,P,w,K,mg,1,"size_of",lh,jN)):(3,P,w,K,mg,2,"cells_of",jW,iC):=bj (k:=1) L mO λf cdv A outer s H E hr=>(ae (7,2,mO.nd,zi (Kl rfl rfl) rfl Z.sum L3.Ko (cD (1,[3],[".0","k"],bH 3,by rfl,rfl,bY rfl Z.range (2,1),(λ_ _ _ _=>(mG mO.nd rfl)),(λ_ _ _ _=>(20,H_size_of,0,(2,3,aa)))) aa)) (18,zh rfl rfl Z.list rfl Z.range (2,2) (16,(2,2),(20,H_size_of,0,(2,1,aa)))))
theorem Gq:aw Jm fN (ag qw):=(2,rfl,rfl,rfl,rfl)
theorem GK(L:eU K mg cls "Deed" "Deed" "Deed.__init__" qw fN)(Z:gj mg)(H_fld_plan:∀c∈["Deed","Promise","Comparing","Untouched","Still","Put","Copy","Tick","Handed","Grow","Anew"],l3 K (cls c)/\cL K (cls c) "plan"):cN P w K mg base [29] 1 "Deed" "Deed" fN hJ:=dW (k:=0) L Gq [12] λf cdv A outer s H E hr=>(cY (uR (cs:=["Deed","Promise","Comparing","Untouched","Still","Put","Copy","Tick","Handed","Grow","Anew"]) rfl H_fld_plan (pv 0) (2,1)) gN)
theorem mM:aw Eb ix (ag lU):=(2,rfl,rfl,rfl,rfl)
theorem Bw(L:eU K mg cls "Handed" "Handed" "Handed.__init__" lU ix)(Z:gj mg)(H_i_Deed:cN P w K mg base [29] 1 "Deed" "Deed" fN hJ):cN P w K mg base [29] 2 "Handed" "Handed" ix lB:=dW (k:=1) L mM [12] λf cdv A outer s H E hr=>(cY (iK H_i_Deed [24] rfl (pv 0) (eN (16,(1,[3],[".0","cell"],bH 3,by rfl,rfl,cR rfl (2,1),(λ_ _ _ _=>(mG mM.nd rfl)),(λ_ _ _ _=>(aq (15,(2,3,aa),(15,aa,aa))))),(1,[3],[".0","cell"],bH 3,by rfl,rfl,cR rfl (2,2),(λ_ _ _ _=>(mG mM.nd rfl)),(λ_ _ _ _=>(aq (15,aa,(15,(2,3,aa),aa)))))) aa)) gN)
theorem Gr:aw Jo mZ (ag qz):=(2,rfl,rfl,rfl,rfl)
theorem GM(L:eU K mg cls "Anew" "Anew" "Anew.__init__" qz mZ)(Z:gj mg)(H_fld_check:∀c∈["Anew"],l3 K (cls c)/\cL K (cls c) "check")(H_i_Handed:cN P w K mg base [29] 2 "Handed" "Handed" ix lB):cN P w K mg base [29] 3 "Anew" "Anew" mZ EA:=dW (k:=2) L Gr [12] λf cdv A outer s H E hr=>(cY (iK H_i_Handed [24] rfl (pv 0) (eN (16,(16,cC (2,3,aa),(2,2)),cC (2,3,aa)) (2,1,aa))) (cY (uR (cs:=["Anew"]) rfl H_fld_check (pv 0) (16,(1,bG rfl,rfl,Z.len,aQ (aW (pv 2)) bg),a9)) gN))
theorem yT:aw BL gB (ag kC):=(2,rfl,rfl,rfl,rfl)
theorem zA(L:eU K mg cls "Promise" "Promise" "Promise.__init__" kC gB)(Z:gj mg)(H_i_Deed:cN P w K mg base [29] 1 "Deed" "Deed" fN hJ):cN P w K mg base [29] 2 "Promise" "Promise" gB jM:=dW (k:=1) L yT [12] λf cdv A outer s H E hr=>(cY (iK H_i_Deed [24] rfl (pv 0) (cD (cC (15,kU (jR (i7 rfl) rfl Z.tuple L3.dA (2,1,aa)) (15,aa,aa),aa)) aa)) gN)
theorem uK:aw xf fO (ag iH):=(2,rfl,rfl,rfl,rfl)
theorem vd(L:eU K mg cls "Comparing" "Comparing" "Comparing.__init__" iH fO)(Z:gj mg)(H_i_Promise:cN P w K mg base [29] 2 "Promise" "Promise" gB jM):cN P w K mg base [29] 3 "Comparing" "Comparing" fO nk:=dW (k:=2) L uK [12] λf cdv A outer s H E hr=>(cY (iK H_i_Promise [24] rfl (pv 0) (kU (zd rfl rfl rfl Z.sorted rfl Z.set (16,(2,1),(2,2))) aa)) gN)
theorem xK:aw Jn mY (ag qy):=(2,rfl,rfl,rfl,rfl)
theorem GL(L:eU K mg cls "Copy" "Copy" "Copy.__init__" qy mY)(Z:gj mg)(H_i_Deed:cN P w K mg base [29] 1 "Deed" "Deed" fN hJ):cN P w K mg base [29] 2 "Copy" "Copy" mY Ez:=dW (k:=1) L xK [12] λf cdv A outer s H E hr=>(cY (iK H_i_Deed [24] rfl (pv 0) (cD (1,[3],[".0","k"],bH 3,by rfl,rfl,bY rfl Z.range (1,bG rfl,rfl,Z.len,aQ (aW (pv 1)) bg),(λ_ _ _ _=>(mG xK.nd rfl)),(λ_ _ _ _=>(aq (15,(19,2,(2,3),aa),(15,(19,1,(2,3),aa),aa))))) aa)) gN)
theorem Gp:aw Jl mX (ag qv):=(2,rfl,rfl,rfl,rfl)
theorem GJ(L:eU K mg cls "Grow" "Grow" "Grow.__init__" qv mX)(Z:gj mg)(H_fld_number:∀c∈["Grow"],l3 K (cls c)/\cL K (cls c) "number")(H_fld_size:∀c∈["Grow"],l3 K (cls c)/\cL K (cls c) "size")(H_i_Handed:cN P w K mg base [29] 2 "Handed" "Handed" ix lB):cN P w K mg base [29] 3 "Grow" "Grow" mX Ey:=dW (k:=2) L Gp [12] λf cdv A outer s H E hr=>(cY (iK H_i_Handed [24] rfl (pv 0) (2,1,(2,1,aa))) (cY (uR (cs:=["Grow"]) rfl H_fld_size (pv 0) (1,bG rfl,rfl,Z.len,aQ (aW (pv 1)) bg)) (cY (uR (cs:=["Grow"]) rfl H_fld_number (pv 0) (2,2)) gN)))
theorem B9:aw LL qJ (ag tE):=(2,rfl,rfl,rfl,rfl)
theorem Jd(L:eU K mg cls "Put" "Put" "Put.__init__" tE qJ)(Z:gj mg)(H_fld_numbers:∀c∈["Put"],l3 K (cls c)/\cL K (cls c) "numbers")(H_i_Deed:cN P w K mg base [29] 1 "Deed" "Deed" fN hJ):cN P w K mg base [29] 2 "Put" "Put" qJ JP:=dW (k:=1) L B9 [12] λf cdv A outer s H E hr=>(cY (iK H_i_Deed [24] rfl (pv 0) (cD (1,[3],[".0","cell"],bH 3,by rfl,rfl,cR rfl (2,1),(λ_ _ _ _=>(mG B9.nd rfl)),(λ_ _ _ _=>(aq (15,aa,(15,(2,3,aa),aa))))) aa)) (cY (uR (cs:=["Put"]) rfl H_fld_numbers (pv 0) (jR (i7 rfl) rfl Z.tuple L3.dA (2,2,aa))) gN))
theorem DB:aw GW lq (ag nW):=(2,rfl,rfl,rfl,rfl)
theorem E3(L:eU K mg cls "Still" "Still" "Still.__init__" nW lq)(Z:gj mg)(H_i_Deed:cN P w K mg base [29] 1 "Deed" "Deed" fN hJ):cN P w K mg base [29] 2 "Still" "Still" lq Ab:=dW (k:=1) L DB [12] λf cdv A outer s H E hr=>(cY (iK H_i_Deed [24] rfl (pv 0) (eN (NU (cC (15,(15,aa,(15,aa,aa)),aa)) (2,1)) aa)) gN)
theorem Gn:aw Jk mW (ag qu):=(2,rfl,rfl,rfl,rfl)
theorem GI(L:eU K mg cls "Tick" "Tick" "Tick.__init__" qu mW)(Z:gj mg)(H_i_Deed:cN P w K mg base [29] 1 "Deed" "Deed" fN hJ):cN P w K mg base [29] 2 "Tick" "Tick" mW Ex:=dW (k:=1) L Gn [12] λf cdv A outer s H E hr=>(cY (iK H_i_Deed [24] rfl (pv 0) (cD (cC (15,(15,(2,1,aa),(15,(2,1,aa),aa)),aa)) aa)) gN)
theorem uJ:aw xb fM (ag iG):=(2,rfl,rfl,rfl,rfl)
theorem vc(L:eU K mg cls "Untouched" "Untouched" "Untouched.__init__" iG fM)(Z:gj mg)(H_i_Promise:cN P w K mg base [29] 2 "Promise" "Promise" gB jM):cN P w K mg base [29] 3 "Untouched" "Untouched" fM ng:=dW (k:=2) L uJ [12] λf cdv A outer s H E hr=>(cY (iK H_i_Promise [24] rfl (pv 0) (cD (cC aa) aa)) gN)
theorem lP:aw GY lu (ag nY):=(2,rfl,rfl,rfl,rfl)
theorem E5(L:bC K mg "deed_of" nY lu)(Z:gj mg)(H_cells_of:(3,P,w,K,mg,2,"cells_of",jW,iC))(H_i_Anew:cN P w K mg base [29] 3 "Anew" "Anew" mZ EA)(H_i_Comparing:cN P w K mg base [29] 3 "Comparing" "Comparing" fO nk)(H_i_Copy:cN P w K mg base [29] 2 "Copy" "Copy" mY Ez)(H_i_Grow:cN P w K mg base [29] 3 "Grow" "Grow" mX Ey)(H_i_Put:cN P w K mg base [29] 2 "Put" "Put" qJ JP)(H_i_Still:cN P w K mg base [29] 2 "Still" "Still" lq Ab)(H_i_Tick:cN P w K mg base [29] 2 "Tick" "Tick" mW Ex)(H_i_Untouched:cN P w K mg base [29] 3 "Untouched" "Untouched" fM ng):(3,P,w,K,mg,5,"deed_of",lu,oq):=bj (k:=4) L lP λf cdv A outer s H E hr=>(5,(7,2,lP.nd,(17,1,a9)),(12,av aV (2,2) bq,(18,m9 H_i_Still [24] rfl (19,1,a9,aa))),(5,(12,av aV (2,2) bq,(18,IT H_i_Untouched [24] rfl)),(7,3,lP.nd,(20,H_cells_of,0,(19,1,a9,aa))),(5,(12,av aV (2,2) bq,aL (i:=3) (18,m9 H_i_Put [24] rfl (2,3,(19,1,a9,aa)))),(12,av aV (2,2) bq,aL (i:=3) (18,m9 H_i_Grow [24] rfl (2,3,(19,1,a9,aa)))),(5,(12,av aV (2,2) bq,aL (i:=3) (18,m9 H_i_Tick [24] rfl (19,3,a9,aa))),(7,4,lP.nd,(20,H_cells_of,0,(19,1,a9,aa))),(5,(12,av aV (2,2) bq,aL (i:=4) (aL (i:=3) (18,m9 H_i_Copy [24] rfl (2,3,(2,4,aa))))),(12,av aV (2,2) bq,aL (i:=4) (aL (i:=3) (18,m9 H_i_Anew [24] rfl (2,3,(2,4,(11,(20,H_cells_of,0,(19,1,a9,aa)),a9,aa)))))),aL (i:=4) (aL (i:=3) (18,m9 H_i_Comparing [24] rfl (2,3,(2,4,aa)))))))))
theorem yS:aw BK j3 (ag kB):=(2,rfl,rfl,rfl,rfl)
theorem zy(L:bC K mg "is_at_end" kB j3)(Z:gj mg)(H_places_of:(3,P,w,K,mg,1,"places_of",fq,dY)):(3,P,w,K,mg,2,"is_at_end",j3,dZ):=bj (k:=1) L yS λf cdv A outer s H E hr=>(18,mU aV (17,1,a9) (1,bG rfl,rfl,Z.len,aQ (PD.look (20,H_places_of,0,(19,1,a9,aa))) bg))
theorem wK:aw zM eG (ag jy):=(2,rfl,rfl,rfl,rfl)
theorem wY(L:(2,K,cls,"reads","Deed.reads",jy,eG))(Z:gj mg)(H_fld_plan:∀c∈["Deed","Promise","Comparing","Untouched","Still","Put","Copy","Tick","Handed","Grow","Anew"],l3 K (cls c)/\cL K (cls c) "plan"):(1,P,w,K,mg,base,[29],1,"reads",eG,eH):=dR (k:=0) L wK λf cdv A outer s H E hr=>(18,jR (tW rfl) rfl Z.list L3.r6 (11,(3,kT (cs:=["Deed","Promise","Comparing","Untouched","Still","Put","Copy","Tick","Handed","Grow","Anew"]) rfl H_fld_plan (2,0),(2,1)),a9,aa))
theorem uL:aw xg eV (ag iI):=(2,rfl,rfl,rfl,rfl)
theorem ve(L:eS K cls "laid" "Handed.laid" iI eV ["Handed","Grow","Anew"])(Z:gj mg)(H_Deed_reads:(1,P,w,K,mg,base,[29],1,"reads",eG,eH)):cM P w K mg base [29] 2 "laid" eV eZ ["Handed","Grow","Anew"]:=dR (k:=1) L uL λf cdv A outer s H E hr=>(18,aq (2,2,eN (16,(2,3),aq (19,2,(3,g8 (tb:=gK) (ck H_Deed_reads [24] fb) (2,0) (2,1,aa),a9),aa)) (eN (16,(2,1),a9) aa)))
theorem Dz:aw GR gz (ag nO):=(2,rfl,rfl,rfl,rfl)
theorem DV(L:bC K mg "written" nO gz)(Z:gj mg)  : (3,P,w,K,mg,1,"written",gz,eY):=bj (k:=0) L Dz λf cdv A outer s H E hr=>(18,(16,(16,iV rfl (2,0) iU (iT (2,1)),aq (2,2,aa)),iV rfl (2,0) (iT (16,(2,1),a9)) iU))
theorem wJ:aw zL fC (ag jx):=(2,rfl,rfl,rfl,rfl)
theorem wX(L:(2,K,cls,"turns","Deed.turns",jx,fC))(Z:gj mg)(H_fld_plan:∀c∈["Deed","Promise","Comparing","Untouched","Still","Put","Copy","Tick","Handed","Grow","Anew"],l3 K (cls c)/\cL K (cls c) "plan"):(1,P,w,K,mg,base,[29],1,"turns",fC,fD):=dR (k:=0) L wJ λf cdv A outer s H E hr=>(18,(1,bG rfl,rfl,Z.len,aQ (PD.look (kT (cs:=["Deed","Promise","Comparing","Untouched","Still","Put","Copy","Tick","Handed","Grow","Anew"]) rfl H_fld_plan (2,0))) bg))
theorem uM:aw xh cV (ag iJ):=(2,rfl,rfl,rfl,rfl)
theorem vf(L:(2,K,cls,"writes","Deed.writes",iJ,cV))(Z:gj mg)(H_fld_plan:∀c∈["Deed","Promise","Comparing","Untouched","Still","Put","Copy","Tick","Handed","Grow","Anew"],l3 K (cls c)/\cL K (cls c) "plan"):(1,P,w,K,mg,base,[29],1,"writes",cV,cW):=dR (k:=0) L uM λf cdv A outer s H E hr=>(18,jR (tW rfl) rfl Z.list L3.r6 (11,(3,kT (cs:=["Deed","Promise","Comparing","Untouched","Still","Put","Copy","Tick","Handed","Grow","Anew"]) rfl H_fld_plan (2,0),(2,1)),a9,aa))
theorem gp:aw qN cI (ag fe):=(2,rfl,rfl,rfl,rfl)
theorem pN(L:eS K cls "set_down" "Handed.set_down" fe cI ["Handed","Grow","Anew"])(Z:gj mg)(H_written:(3,P,w,K,mg,1,"written",gz,eY))(H_Deed_turns:(1,P,w,K,mg,base,[29],1,"turns",fC,fD))(H_Deed_writes:(1,P,w,K,mg,base,[29],1,"writes",cV,cW)):cM P w K mg base [29] 2 "set_down" cI cJ ["Handed","Grow","Anew"]:=dR (k:=1) L gp λf cdv A outer s H E hr=>(5,(7,5,gp.nd,(16,(2,1),a9)),(7,6,gp.nd,Bp (av aV (2,5) (Bn (tb:=iQ) (ck H_Deed_turns [24] fb) (2,0))) (aq aa) (2,3)),(18,aq (kU (20,H_written,2,(11,g8 (tb:=dO) (ck H_Deed_writes [24] fb) (2,0) (2,1,aa),a9,(2,4,aa))) (2,6,(2,5,aa)))))
theorem wM:aw zP gV (ag jB):=(2,rfl,rfl,rfl,rfl)
theorem x9(L:eS K cls "after" "Anew.after" jB gV ["Anew"])(Z:gj mg)(H_fld_check:∀c∈["Anew"],l3 K (cls c)/\cL K (cls c) "check")(H_Deed_reads:(1,P,w,K,mg,base,[29],1,"reads",eG,eH))(H_Handed_laid:cM P w K mg base [29] 2 "laid" eV eZ ["Handed","Grow","Anew"])(H_Handed_set_down:cM P w K mg base [29] 2 "set_down" cI cJ ["Handed","Grow","Anew"]):cM P w K mg base [29] 3 "after" gV jG ["Anew"]:=dR (k:=2) L wM λf cdv A outer s H E hr=>(5,(12,av pM (2,1) (kT (cs:=["Anew"]) rfl H_fld_check (2,0)),(18,g8 (tb:=nN) (ck H_Handed_laid [24] fb) (2,0) (2,1,(2,2,(2,3,aa))))),(12,av jc (2,1) (kT (cs:=["Anew"]) rfl H_fld_check (2,0)),(18,g8 (tb:=gy) (ck H_Handed_set_down [24] fb) (2,0) (2,1,(2,2,(2,3,(19,3,ak o8 (2,1) (kT (cs:=["Anew"]) rfl H_fld_check (2,0)),aa)))))),ae (12,av aV (17,2,(3,g8 (tb:=gK) (ck H_Deed_reads [24] fb) (2,0) (2,1,aa),a9)) (17,3,a9),(18,aq (2,2,(2,3,eN (16,(2,1),a9) aa)))) (18,aq (2,2,(15,aa,bU a9 aa))))
theorem oS:aw zO gU (ag jA):=(2,rfl,rfl,rfl,rfl)
theorem x8(L:eS K cls "after" "Copy.after" jA gU ["Copy"])(Z:gj mg)(H_written:(3,P,w,K,mg,1,"written",gz,eY))(H_Deed_reads:(1,P,w,K,mg,base,[29],1,"reads",eG,eH))(H_Deed_writes:(1,P,w,K,mg,base,[29],1,"writes",cV,cW)):cM P w K mg base [29] 2 "after" gU jF ["Copy"]:=dR (k:=1) L oS λf cdv A outer s H E hr=>(ae (7,4,oS.nd,(17,2,(3,g8 (tb:=gK) (ck H_Deed_reads [24] fb) (2,0) (2,1,aa),a9))) (18,aq (kU (20,H_written,2,(11,g8 (tb:=dO) (ck H_Deed_writes [24] fb) (2,0) (2,1,aa),a9,(2,4,aa))) (2,3,eN (16,(2,1),a9) aa))))
theorem wL:aw zN gT (ag jz):=(2,rfl,rfl,rfl,rfl)
theorem wZ(L:eS K cls "after" "Deed.after" jz gT ["Deed","Promise","Comparing","Untouched","Still","Handed"])(Z:gj mg)  : cM P w K mg base [29] 1 "after" gT eI ["Deed","Promise","Comparing","Untouched","Still","Handed"]:=dR (k:=0) L wL λf cdv A outer s H E hr=>(18,aq (2,2,(2,3,eN (16,(2,1),a9) aa)))
theorem wI:aw zK gS (ag jw):=(2,rfl,rfl,rfl,rfl)
theorem wW(L:eS K cls "after" "Grow.after" jw gS ["Grow"])(Z:gj mg)(H_fld_number:∀c∈["Grow"],l3 K (cls c)/\cL K (cls c) "number")(H_fld_size:∀c∈["Grow"],l3 K (cls c)/\cL K (cls c) "size")(H_Handed_laid:cM P w K mg base [29] 2 "laid" eV eZ ["Handed","Grow","Anew"])(H_Handed_set_down:cM P w K mg base [29] 2 "set_down" cI cJ ["Handed","Grow","Anew"]):cM P w K mg base [29] 3 "after" gS jE ["Grow"]:=dR (k:=2) L wI λf cdv A outer s H E hr=>(ae (12,av pM (2,1) (kT (cs:=["Grow"]) rfl H_fld_size (2,0)),(18,g8 (tb:=nN) (ck H_Handed_laid [24] fb) (2,0) (2,1,(2,2,(2,3,aa))))) (18,g8 (tb:=gy) (ck H_Handed_set_down [24] fb) (2,0) (2,1,(2,2,(2,3,eN (16,(17,3,ak o8 (2,1) (kT (cs:=["Grow"]) rfl H_fld_size (2,0))),kT (cs:=["Grow"]) rfl H_fld_number (2,0)) aa)))))
theorem yU:aw BM j4 (ag kD):=(2,rfl,rfl,rfl,rfl)
theorem zB(L:eS K cls "after" "Put.after" kD j4 ["Put"])(Z:gj mg)(H_written:(3,P,w,K,mg,1,"written",gz,eY))(H_fld_numbers:∀c∈["Put"],l3 K (cls c)/\cL K (cls c) "numbers")(H_Deed_writes:(1,P,w,K,mg,base,[29],1,"writes",cV,cW)):cM P w K mg base [29] 2 "after" j4 kN ["Put"]:=dR (k:=1) L yU λf cdv A outer s H E hr=>(18,aq (kU (20,H_written,2,(11,g8 (tb:=dO) (ck H_Deed_writes [24] fb) (2,0) (2,1,aa),a9,(11,kT (cs:=["Put"]) rfl H_fld_numbers (2,0),(2,1),aa))) (2,3,eN (16,(2,1),a9) aa)))
theorem oR:aw zJ gR (ag jv):=(2,rfl,rfl,rfl,rfl)
theorem wV(L:eS K cls "after" "Tick.after" jv gR ["Tick"])(Z:gj mg)(H_written:(3,P,w,K,mg,1,"written",gz,eY))(H_Deed_writes:(1,P,w,K,mg,base,[29],1,"writes",cV,cW)):cM P w K mg base [29] 2 "after" gR jD ["Tick"]:=dR (k:=1) L oR λf cdv A outer s H E hr=>(ae (7,4,oR.nd,(3,g8 (tb:=dO) (ck H_Deed_writes [24] fb) (2,0) (2,1,aa),a9)) (18,aq (kU (20,H_written,2,(2,4,eN (16,(17,2,(2,4)),a9) aa)) (2,3,eN (16,(2,1),a9) aa))))
theorem jJ:aw Jj mV (ag qt):=(2,rfl,rfl,rfl,rfl)
theorem GH(L:bC K mg "turned" qt mV)(Z:gj mg)(H_deed_at:(3,P,w,K,mg,2,"deed_at",lz,ou))(H_deed_of:(3,P,w,K,mg,5,"deed_of",lu,oq))(H_is_at_end:(3,P,w,K,mg,2,"is_at_end",j3,dZ))(H_Anew_after:cM P w K mg base [29] 3 "after" gV jG ["Anew"])(H_Copy_after:cM P w K mg base [29] 2 "after" gU jF ["Copy"])(H_Deed_after:cM P w K mg base [29] 1 "after" gT eI ["Deed","Promise","Comparing","Untouched","Still","Handed"])(H_Deed_turns:(1,P,w,K,mg,base,[29],1,"turns",fC,fD))(H_Grow_after:cM P w K mg base [29] 3 "after" gS jE ["Grow"])(H_Put_after:cM P w K mg base [29] 2 "after" j4 kN ["Put"])(H_Tick_after:cM P w K mg base [29] 2 "after" gR jD ["Tick"]):(3,P,w,K,mg,6,"turned",mV,lD):=bj (k:=5) L jJ λf cdv A outer s H E hr=>(5,(7,3,jJ.nd,(17,1,pL)),(12,eu (20,H_is_at_end,0,(2,3,aa)),(18,zf)),ae (7,4,jJ.nd,(13,H_deed_of,(19,0,a9,kU (20,H_deed_at,0,(19,3,a9,(19,3,a9,aa))) aa))) (aL (i:=4) (ae (7,5,jJ.nd,g8 (tb:=fh) (ck H_Deed_after [24] (ck H_Put_after [24] (ck H_Copy_after [24] (ck H_Tick_after [24] (ck H_Grow_after [24] (ck H_Anew_after [24] fb)))))) (2,4) (19,3,a9,(2,2,(19,3,a9,aa)))) (aL (i:=4) (5,aJ (av pM (17,5,a9) (Bn (tb:=iQ) (ck H_Deed_turns [24] fb) (2,4))) (af (7,6,jJ.nd,aq (19,3,a9,(19,3,a9,(19,5,a9,(19,5,a9,aa)))))) (af (7,6,jJ.nd,aq (19,3,a9,eN (16,(17,3,a9),a9) (bU a9 (15,aa,aa))))),(12,oE.pt (dv (av jc (17,6,a9) a9) (du (eu (20,H_is_at_end,0,(2,6,aa))))),(18,aq (padS (iV rfl (2,1) iU (iT pL)) (19,5,a9,aa)))),(18,aq (eN (16,iV rfl (2,1) iU (iT pL),aq (2,6,aa)) (19,5,a9,aa))))))))
theorem Gs:aw Jp n0 (ag qA):=(2,rfl,rfl,rfl,rfl)
theorem GN(L:bC K mg "behind" qA n0)(Z:gj mg)(H_turned:(3,P,w,K,mg,6,"turned",mV,lD)):(3,P,w,K,mg,7,"behind",n0,eR):=bj (k:=6) L Gs λf cdv A outer s H E hr=>(18,(20,H_turned,0,(19,1,a9,(19,1,a9,aa))))
theorem sf:aw Ed jX (ag lW):=(2,rfl,rfl,rfl,rfl)
theorem Bz(L:bC K mg "add_walk" lW jX)(Z:gj mg)(H_behind:(3,P,w,K,mg,7,"behind",n0,eR))(H_x_TooMany:HN P w K mg base [29] "TooMany" "TooMany" "most"):MJ P w K mg base [29] 8 "add_walk" jX iD:=Hv (k:=7) (j:=4) L sf [12] λf cdv A outer s H E hr=>(af (xR (λ_=>5000) tw (oE.pt (dv (qH (2,1)) (du (mR (i:=4) rfl (k9 hr) (pv 4) (2,1))))) (5,(12,av aV (tO (i:=4) rfl Z.len (pv 4)) (2,3),af (DL H_x_TooMany [10] rfl rfl rfl rfl rfl Nh (2,3))),l9 (i:=4) rfl (k9 hr) (pv 4) (2,1) (2,2),af (7,1,sf.nd,Fw (20,H_behind,0,(2,1,aa))))))
theorem lM:aw BB iX (ag kn):=(2,rfl,rfl,rfl,rfl)
theorem zm(L:bC K mg "starts_of" kn iX)(Z:gj mg)  : (3,P,w,K,mg,1,"starts_of",iX,kI):=bj (k:=0) L lM λf cdv A outer s H E hr=>(5,(7,1,lM.nd,cC aa),(7,rfl,cR rfl (2,0),mG lM.nd rfl,af (uT (i:=1) rfl (pv 1) (17,2,a9))),aL (i:=1) (18,jR (i7 rfl) rfl Z.tuple L3.dA (2,1,aa)))
theorem Iw:aw LN qK (ag tG):=(2,rfl,rfl,rfl,rfl)
theorem Je(L:bC K mg "begin" tG qK)(Z:gj mg)(H_starts_of:(3,P,w,K,mg,1,"starts_of",iX,kI)):(3,P,w,K,mg,2,"begin",qK,jC):=bj (k:=1) L Iw λf cdv A outer s H E hr=>(18,aq (15,(15,bU a9 (bU a9 (bU a9 (15,aa,aa))),aa),kU (13,H_starts_of,(19,0,a9,aa)) aa))
theorem DD:aw GX lr (ag nX):=(2,rfl,rfl,rfl,rfl)
theorem E4(L:bC K mg "entered" nX lr)(Z:gj mg)  : (3,P,w,K,mg,1,"entered",lr,oo):=bj (k:=0) L DD λf cdv A outer s H E hr=>(18,(16,(2,0),aq (15,(2,1,bU a9 (bU a9 (15,aa,aa))),aa)))
theorem Lc:aw Og v7 (ag yV):=(2,rfl,rfl,rfl,rfl)
theorem LF(L:bC K mg "come" yV v7)(Z:gj mg)(H_entered:(3,P,w,K,mg,1,"entered",lr,oo)):(3,P,w,K,mg,2,"come",v7,ml):=bj (k:=1) L Lc λf cdv A outer s H E hr=>(18,aq (kU (13,H_entered,(19,1,a9,(2,2,aa))) (19,1,a9,aa)))
theorem uI:aw GS lg (ag nP):=(2,rfl,rfl,rfl,rfl)
theorem DW(L:bC K mg "word_at" nP lg)(Z:gj mg)(H_places_of:(3,P,w,K,mg,1,"places_of",fq,dY)):(3,P,w,K,mg,2,"word_at",lg,oj):=bj (k:=1) L uI λf cdv A outer s H E hr=>(ae (7,3,uI.nd,(20,H_places_of,0,(2,1,aa))) (18,Bp (av pM (2,2) (1,bG rfl,rfl,Z.len,aQ (aW (pv 3)) bg)) (3,(17,3,(2,2)),a9) a9))
theorem lN:aw GU lj (ag nU):=(2,rfl,rfl,rfl,rfl)
theorem DY(L:bC K mg "shut_by" nU lj)(Z:gj mg)(H_word_at:(3,P,w,K,mg,2,"word_at",lg,oj)):(3,P,w,K,mg,3,"shut_by",lj,om):=bj (k:=2) L lN λf cdv A outer s H E hr=>(5,(7,2,lN.nd,a9),(7,rfl,cR rfl (2,1),mG lN.nd rfl,af (7,2,lN.nd,ak FB (2,2) (20,H_word_at,0,(19,3,a9,(19,3,a9,aa))))),(18,(2,2)))
theorem qr:aw BD iY (ag kq):=(2,rfl,rfl,rfl,rfl)
theorem zp(L:bC K mg "may_enter" kq iY)(Z:gj mg)(H_shut_by:(3,P,w,K,mg,3,"shut_by",lj,om)):(3,P,w,K,mg,4,"may_enter",iY,kJ):=bj (k:=3) L qr λf cdv A outer s H E hr=>(ae (7,3,qr.nd,(17,0,a9)) (18,v3 (mU jc (3,(17,3,(2,2)),a9) (3,(17,3,(3,(17,1,pL),a9)),a9)) (ze (mU aV (ak J1 (ak Ly (20,H_shut_by,0,(2,1,aa)) (2,2)) a9) a9))))
theorem sd:aw E7 jT (ag lQ):=(2,rfl,rfl,rfl,rfl)
theorem Bs(L:bC K mg "may_come" lQ jT)(Z:gj mg)(H_may_enter:(3,P,w,K,mg,4,"may_enter",iY,kJ)):(3,P,w,K,mg,5,"may_come",jT,iB):=bj (k:=4) L sd λf cdv A outer s H E hr=>(18,xV (js:=[2]) (vars:=[".0","bell"]) (bH 2) (by rfl) (by rfl) rfl (pK rfl Z.range a9 (1,bG rfl,rfl,Z.len,aQ (PD.look (17,0,a9)) bg)) (λ_ _ _ _=>(mG sd.nd rfl)) (λ_ _ _ _=>(eu (20,H_may_enter,0,(19,1,a9,(2,2,aa))))) (λ_ _ _ _=>(2,2)))
theorem iR:aw LK qI (ag nQ):=(2,rfl,rfl,rfl,rfl)
theorem Jc(L:FZ K mg "table" nQ qI (300))(Z:gj mg)(H_add_walk:MJ P w K mg base [29] 8 "add_walk" jX iD)(H_begin:(3,P,w,K,mg,2,"begin",qK,jC))(H_come:(3,P,w,K,mg,2,"come",v7,ml))(H_may_come:(3,P,w,K,mg,5,"may_come",jT,iB)):Kz P w K mg base [29] 9 "table" qI kH (300):=Hu (k:=8) L iR λf cdv A outer s H E hr=>(5,rE (i:=3) iR.nd rfl [35],xS (i:=3) H_add_walk [10] rfl Aw (iW (2,0) (iW (Fw (20,H_begin,0,aa)) (iW a9 (iW (2,2) (Bq (pv 3) aa))))),(5,(7,4,iR.nd,a9),dw tw rfl (pK rfl Z.range a9 (16,(2,1),a9)) (mG iR.nd rfl) (5,(7,6,iR.nd,iV rfl (Bo (i:=3) rfl rfl Z.list (pv 3)) (iT (2,4)) iU),(7,4,iR.nd,tO (i:=3) rfl Z.len (pv 3)),aL (i:=6) (af (dw tw rfl (cR rfl (2,6)) (mG iR.nd rfl) (af (dw tw rfl (cR rfl (Fw (20,H_may_come,0,(2,7,aa)))) (mG iR.nd rfl) (af (xS (i:=3) H_add_walk [10] rfl Aw (iW (2,0) (iW (Fw (20,H_come,0,(2,7,(2,8,aa)))) (iW (2,5) (iW (2,2) (Bq (pv 3) aa)))))))))))),(18,GE (i:=3) rfl rfl Z.list (pv 3))))
theorem lO:aw PJ Fx (ag Ba):=(2,rfl,rfl,rfl,rfl)
theorem Oa{f:Addr}{fd:FuncData}(L:D9 K "law" "law" Ba f fd)(Z:gj mg)(H_law_count:(3,P,w,K,mg,4,"_law_count",j0,kL))(H_law_mixed:(3,P,w,K,mg,1,"_law_mixed",cU,aD))(H_law_program:(3,P,w,K,mg,5,"_law_program",fL,iM))(H_law_table_fits:(3,P,w,K,mg,4,"_law_table_fits",dQ,dX))(H_law_wholes:(3,P,w,K,mg,1,"_law_wholes",eD,cw))(H_table:Kz P w K mg base [29] 9 "table" qI kH (300))(H_x_TooMany:HN P w K mg base [29] "TooMany" "TooMany" "most"):dE P w K mg base rn 10 f fd Fx (KC [29] W0 ye):=Ox (k:=9) L lO λcdv A outer s H E hr=>(5,(7,1,lO.nd,ak bB (20,H_law_mixed,0,bU a9 aa) a9),(7,2,lO.nd,(20,H_law_program,0,(2,1,eN (16,a9,jR Km rfl Z.int L3.ET (cD (mU pM (2,1) a9) aa)) (bU a9 aa)))),(5,(7,3,lO.nd,(3,cC (v5 (ds:=[(4,0),(4,1),(4,2),(4,3),(4,9)]) rfl),ak bB (20,H_law_mixed,0,bU a9 aa) a9)),(12,av jc (2,1) a9,af (7,3,lO.nd,zi (Mu rfl) rfl Z.min L3.OL (2,3,bU a9 aa))),(5,(7,4,lO.nd,(3,cC (bU a9 (bU a9 (eN (16,a9,ak bB (ak j5 (20,H_law_mixed,0,bU a9 aa) a9) a9) aa))),ak bB (20,H_law_mixed,0,bU a9 aa) a9)),(7,5,lO.nd,zf),(5,(7,6,lO.nd,zf),IF (i:=5) (ie:=7) (iy:=6) H_x_TooMany H_table.all [10] rfl rfl rfl rfl (2,2,(2,3,(2,4,aa))) lO.nd rfl rfl rfl [12] rfl rfl rfl,ae (12,qH (2,6),(18,v3 (13,H_law_wholes,(15,(2,6,aa),aa)) (v3 (mU aV (2,6) (2,4)) (ze (mU jc (20,H_law_count,2,(2,3,(2,4,aa))) (2,4)))))) (aL (i:=5) (18,v3 (20,H_law_table_fits,2,(2,3,(2,5,aa))) (ze (mU va (1,bG rfl,rfl,Z.len,aQ (aW (pv 5)) bg) (2,4)))))))))
theorem Ob(T:OZ K mg cls)(Z:gj mg){f:Addr}{fd:FuncData}(L:D9 K "law" "law" Ba f fd):dE P w K mg base rn 10 f fd Fx (KC [29] W0 ye):=by
 have h_x_TooMany:HN P w K mg base [29] "TooMany" "TooMany" "most" := K7 T.x_TooMany (2,rfl,rfl,rfl,rfl) rfl (by first|exact .inl rfl|exact .inr rfl) (by first|exact .inl rfl|exact .inr rfl) [12] [12] (λ_=>rfl)
 have h_law_begin:=@zw P w K mg base cls T.L_law_begin Z;have h_law_turn_done:=@rG P w K mg base cls T.L_law_turn_done Z;have h_law_cells:=@zu P w K mg base cls T.L_law_cells Z;have h_law_turns:=@zq P w K mg base cls T.L_law_turns Z h_law_cells;have h_law_behind:=@wU P w K mg base cls T.L_law_behind Z h_law_turn_done h_law_turns;have h_law_come:=@Bv P w K mg base cls T.L_law_come Z;have h_law_word:=@Bt P w K mg base cls T.L_law_word Z;have h_law_comers:=@wR P w K mg base cls T.L_law_comers Z h_law_word;have h_law_count:=@zt P w K mg base cls T.L_law_count Z h_law_begin h_law_behind h_law_come h_law_comers;have h_law_mixed:=@zr P w K mg base cls T.L_law_mixed Z;have h_law_number:=@wO P w K mg base cls T.L_law_number Z h_law_mixed;have h_law_boxes:=@zv P w K mg base cls T.L_law_boxes Z h_law_mixed h_law_number;have h_law_deed:=@Bu P w K mg base cls T.L_law_deed Z h_law_mixed h_law_number;have h_law_row:=@DZ P w K mg base cls T.L_law_row Z h_law_deed h_law_mixed;have h_law_program:=@vb P w K mg base cls T.L_law_program Z h_law_boxes h_law_mixed h_law_row;have h_law_wholes:=@wN P w K mg base cls T.L_law_wholes Z;have h_law_is_state:=@sR P w K mg base cls T.L_law_is_state Z h_law_wholes;have h_law_is_row:=@wQ P w K mg base cls T.L_law_is_row Z h_law_is_state h_law_wholes;have h_law_table_fits:=@qL P w K mg base cls T.L_law_table_fits Z h_law_begin h_law_behind h_law_come h_law_comers h_law_is_row;have h_places_of:=@zo P w K mg base cls T.L_places_of Z;have h_deed_at:=@E6 P w K mg base cls T.L_deed_at Z h_places_of;have h_size_of:=@DX P w K mg base cls T.L_size_of Z;have h_cells_of:=@By P w K mg base cls T.L_cells_of Z h_size_of;have h_i_Deed:=@GK P w K mg base cls T.L_i_Deed Z T.fld_plan;have h_i_Handed:=@Bw P w K mg base cls T.L_i_Handed Z h_i_Deed;have h_i_Anew:=@GM P w K mg base cls T.L_i_Anew Z T.fld_check h_i_Handed;have h_i_Promise:=@zA P w K mg base cls T.L_i_Promise Z h_i_Deed;have h_i_Comparing:=@vd P w K mg base cls T.L_i_Comparing Z h_i_Promise;have h_i_Copy:=@GL P w K mg base cls T.L_i_Copy Z h_i_Deed;have h_i_Grow:=@GJ P w K mg base cls T.L_i_Grow Z T.fld_number T.fld_size h_i_Handed;have h_i_Put:=@Jd P w K mg base cls T.L_i_Put Z T.fld_numbers h_i_Deed;have h_i_Still:=@E3 P w K mg base cls T.L_i_Still Z h_i_Deed;have h_i_Tick:=@GI P w K mg base cls T.L_i_Tick Z h_i_Deed;have h_i_Untouched:=@vc P w K mg base cls T.L_i_Untouched Z h_i_Promise;have h_deed_of:=@E5 P w K mg base cls T.L_deed_of Z h_cells_of h_i_Anew h_i_Comparing h_i_Copy h_i_Grow h_i_Put h_i_Still h_i_Tick h_i_Untouched;have h_is_at_end:=@zy P w K mg base cls T.L_is_at_end Z h_places_of;have h_Deed_reads:=@wY P w K mg base cls T.L_Deed_reads Z T.fld_plan;have h_Handed_laid:=@ve P w K mg base cls T.L_Handed_laid Z h_Deed_reads;have h_written:=@DV P w K mg base cls T.L_written Z;have h_Deed_turns:=@wX P w K mg base cls T.L_Deed_turns Z T.fld_plan;have h_Deed_writes:=@vf P w K mg base cls T.L_Deed_writes Z T.fld_plan;have h_Handed_set_down:=@pN P w K mg base cls T.L_Handed_set_down Z h_written h_Deed_turns h_Deed_writes;have h_Anew_after:=@x9 P w K mg base cls T.L_Anew_after Z T.fld_check h_Deed_reads h_Handed_laid h_Handed_set_down;have h_Copy_after:=@x8 P w K mg base cls T.L_Copy_after Z h_written h_Deed_reads h_Deed_writes;have h_Deed_after:=@wZ P w K mg base cls T.L_Deed_after Z;have h_Grow_after:=@wW P w K mg base cls T.L_Grow_after Z T.fld_number T.fld_size h_Handed_laid h_Handed_set_down;have h_Put_after:=@zB P w K mg base cls T.L_Put_after Z h_written T.fld_numbers h_Deed_writes;have h_Tick_after:=@wV P w K mg base cls T.L_Tick_after Z h_written h_Deed_writes;have h_turned:=@GH P w K mg base cls T.L_turned Z h_deed_at h_deed_of h_is_at_end h_Anew_after h_Copy_after h_Deed_after h_Deed_turns h_Grow_after h_Put_after h_Tick_after;have h_behind:=@GN P w K mg base cls T.L_behind Z h_turned;have h_add_walk:=@Bz P w K mg base cls T.L_add_walk Z h_behind h_x_TooMany;have h_starts_of:=@zm P w K mg base cls T.L_starts_of Z;have h_begin:=@Je P w K mg base cls T.L_begin Z h_starts_of;have h_entered:=@E4 P w K mg base cls T.L_entered Z;have h_come:=@LF P w K mg base cls T.L_come Z h_entered;have h_word_at:=@DW P w K mg base cls T.L_word_at Z h_places_of;have h_shut_by:=@DY P w K mg base cls T.L_shut_by Z h_word_at;have h_may_enter:=@zp P w K mg base cls T.L_may_enter Z h_shut_by;have h_may_come:=@Bs P w K mg base cls T.L_may_come Z h_may_enter;have h_table:=@Jc P w K mg base cls T.L_table Z h_add_walk h_begin h_come h_may_come;exact Oa L Z h_law_count h_law_mixed h_law_program h_law_table_fits h_law_wholes h_table h_x_TooMany
end
unseal PySem.wpAny
theorem walk{l:PySem.W.OpenLaw}{q:Program}{loose:[16]}{XP:(Str->[26])->Heap->Prop}{YP:World->Heap->Prop}{d:DefRec}{K:Params->Frag}(T:∀ns:List Int,ns.length<=63->ye [[30]]=(36,.sh (.bl true)))(hn:l.most=(6,63))(hdf:d.params.defaults=[])(hdn:d.name = "law")
  (hY:∀(w:World)(h:Heap),YP w h->(K w.params).In h) (F:∀(w:World)(mg:Str->[26])(h:Heap),(K w.params).In h->h.Ns mainGlobals mg->(∃cls,OZ (K w.params) mg cls)/\gj mg):PySem.W.WalkO q loose XP YP l.row.toRowW d [] (λf vs=>PySem.call f vs):=
 Jy (k:=10) (x := "_law_script") [12] hn hdf hY λw mg fa h KX G hm=>by
  obtain⟨⟨cls,T1⟩,Z⟩:=F w mg h KX G;obtain⟨f,fd,Fl,hm2,_⟩:=T1.L_law.ex;rw[hdn,hm2] at hm;cases hm;obtain⟨oc,od,kV,doc,pm,an,cdv,ct,osl,e,_⟩:=id Fl.ex;exact(12,fd,λs u=>by rw[e];exact .of_eq rfl,λbase=>Ol (Ob (cls:=cls) T1 Z Fl) rfl rfl T)
set_option maxHeartbeats 0 in
theorem ln1:∀{us:[19]},us.length=1->∃a,us=[a]
 |[a],_=>(5,a,rfl)
theorem ln2:∀{us:[19]},us.length=2->∃a b,us=[a,b]
 |[a,b],_=>(14,a,b)
theorem ln3:∀{us:[19]},us.length=3->∃a b c,us=[a,b,c]
 |[a,b,c],_=>(9,a,b,c,rfl)
theorem ln4:∀{us:[19]},us.length=4->∃a b c d,us=[a,b,c,d]
 |[a,b,c,d],_=>⟨a,b,c,d,rfl⟩
theorem ln5:∀{us:[19]},us.length=5->∃a b c d e,us=[a,b,c,d,e]
 |[a,b,c,d,e],_=>⟨a,b,c,d,e,rfl⟩
theorem ln6:∀{us:[19]},us.length=6->∃a b c d e f,us=[a,b,c,d,e,f]
 |[a,b,c,d,e,f],_=>⟨a,b,c,d,e,f,rfl⟩
section
variable{K:Frag}{h:Heap}{mg:Str->Option Value}{x qual:Str}{st:Stmt}{ps:List Str}{f C:Addr}{cls:String->Addr}{cn:String}{oc:Value}{od an:Option Addr}{sl:Array (Option Value)}{kV doc pm cdv ct:Value}
def LM(K:Frag)(x qual:Str)(st:Stmt)(f:Addr):Prop:=∃(oc:Value)(od an:(9,Addr))(sl:Array [26])(kV doc pm cdv ct:Value),K.lookup f=(6,(9,oc,od,.func (1,x,qual,bL st,b9 st,ag st,.none,kV,pm,an,cdv,ct),sl))/\codeIn K cdv qual=true/\(7,K,f)=true/\isFn K (10,f)=true
theorem lm(l:K.lookup f=(6,(9,oc,od,.func (1,x,qual,bL st,b9 st,ag st,.none,kV,pm,an,cdv,ct),sl)))(c:codeIn K cdv qual=true)(k:(7,K,f)=true)(i:isFn K (10,f)=true):LM K x qual st f:=⟨_,_,_,_,_,_,_,_,_,l,c,k,i⟩
theorem LM.laid{cs:List String}(h:LM K x qual st f)(hc:∀c∈cs,l3 K (cls c)/\(4,K,cls c,x)=(27,f))(hb:∀(kV doc pm:Value)(an:(9,Addr))(cdv ct:Value)(us:[19]),us.length=ps.length->bindArgs (1,x,qual,bL st,b9 st,ag st,.none,kV,pm,an,cdv,ct) (5,us,[])=pure (ps.zip us):=by intro _ _ _ _ _ _ us hl;first|(obtain⟨_,rfl⟩:=ln1 hl;rfl)|(obtain⟨_,_,rfl⟩:=ln2 hl;rfl)|(obtain⟨_,_,_,rfl⟩:=ln3 hl;rfl)|(obtain⟨_,_,_,_,rfl⟩:=ln4 hl;rfl)|(obtain⟨_,_,_,_,_,rfl⟩:=ln5 hl;rfl)|(obtain⟨_,_,_,_,_,_,rfl⟩:=ln6 hl;rfl)):eS K cls x qual st ps cs:=by
 obtain⟨_,_,_,_,_,_,_,_,_,l,c,k,i⟩:=h;exact JC l c k i hb hc
def LP(K:Frag)(x:Str)(st:Stmt):Prop:=∃f,(4,K,x)=(27,f)/\∃(oc:Value)(od an:(9,Addr))(sl:Array [26])(kV doc pm cdv ct:Value),K.lookup f=(6,(9,oc,od,.func (1,x,x,bL st,b9 st,ag st,.none,kV,pm,an,cdv,ct),sl))/\codeIn K cdv x=true/\(7,K,f)=true
theorem lp(a:(4,K,x)=(27,f))(l:K.lookup f=(6,(9,oc,od,.func (1,x,x,bL st,b9 st,ag st,.none,kV,pm,an,cdv,ct),sl)))(c:codeIn K cdv x=true)(k:(7,K,f)=true):LP K x st:=⟨_,a,_,_,_,_,_,_,_,_,_,l,c,k⟩
theorem LP.laid(h':LP K x st)(X:K.In h)(G:h.Ns mainGlobals mg)(hb:∀(kV doc pm:Value)(an:(9,Addr))(cdv ct:Value)(us:[19]),us.length=ps.length->bindArgs (1,x,x,bL st,b9 st,ag st,.none,kV,pm,an,cdv,ct) (5,us,[])=pure (ps.zip us):=by intro _ _ _ _ _ _ us hl;first|(obtain⟨_,rfl⟩:=ln1 hl;rfl)|(obtain⟨_,_,rfl⟩:=ln2 hl;rfl)|(obtain⟨_,_,_,rfl⟩:=ln3 hl;rfl)|(obtain⟨_,_,_,_,rfl⟩:=ln4 hl;rfl)|(obtain⟨_,_,_,_,_,rfl⟩:=ln5 hl;rfl)|(obtain⟨_,_,_,_,_,_,rfl⟩:=ln6 hl;rfl)):bC K mg x st ps:=by
 obtain⟨_,a,_,_,_,_,_,_,_,_,_,l,c,k⟩:=h';exact LZ X G a l c k hb
def LI(K:Frag)(C:Addr)(_x qual:Str)(st:Stmt):Prop:=∃f,∃(oc:Value)(od an:(9,Addr))(sl:Array [26])(kV doc pm cdv ct:Value),(4,K,C,"__init__") = (27,f)/\K.lookup f=(6,(9,oc,od,.func (1,"__init__",qual,bL st,b9 st,ag st,.none,kV,pm,an,cdv,ct),sl))/\codeIn K cdv qual=true/\(7,K,f)=true/\isFn K (10,f)=true/\makesIn K C=true/\(7,K,C)=true/\findCls K (10,C) (52,"type") "__init__" = (6,.val (10,f))/\specialIn K (10,C) "__getattribute__" = (21,(40,"type.__getattribute__"))/\readsIn K C (52,"type")=true
theorem li(fi:(4,K,C,"__init__") = (27,f))(l:K.lookup f=(6,(9,oc,od,.func (1,"__init__",qual,bL st,b9 st,ag st,.none,kV,pm,an,cdv,ct),sl)))(c:codeIn K cdv qual=true)(k:(7,K,f)=true)(i:isFn K (10,f)=true)(m:makesIn K C=true)(n:(7,K,C)=true)(o:findCls K (10,C) (52,"type") "__init__" = (6,.val (10,f)))(q:specialIn K (10,C) "__getattribute__" = (21,(40,"type.__getattribute__")))(r:readsIn K C (52,"type")=true):LI K C x qual st:=⟨_,_,_,_,_,_,_,_,_,_,fi,l,c,k,i,m,n,o,q,r⟩
theorem LI.laid(h':LI K (cls cn) x qual st)(a:(4,K,x)=(27,cls cn))(X:K.In h)(G:h.Ns mainGlobals mg)(hb:∀(kV doc pm:Value)(an:(9,Addr))(cdv ct:Value)(us:[19]),us.length=ps.length->bindArgs (1,"__init__",qual,bL st,b9 st,ag st,.none,kV,pm,an,cdv,ct) (5,us,[])=pure (ps.zip us):=by intro _ _ _ _ _ _ us hl;first|(obtain⟨_,rfl⟩:=ln1 hl;rfl)|(obtain⟨_,_,rfl⟩:=ln2 hl;rfl)|(obtain⟨_,_,_,rfl⟩:=ln3 hl;rfl)|(obtain⟨_,_,_,_,rfl⟩:=ln4 hl;rfl)|(obtain⟨_,_,_,_,_,rfl⟩:=ln5 hl;rfl)|(obtain⟨_,_,_,_,_,_,rfl⟩:=ln6 hl;rfl)):eU K mg cls cn x qual st ps:=by
 obtain⟨_,_,_,_,_,_,_,_,_,_,fi,l,c,k,i,m,n,o,q,r⟩:=h';exact JD X G rfl a fi l c k i m n o q r hb
end
theorem defs_mk{K:Frag}{h:Heap}{mg:Str->[26]}(X:K.In h)(G:h.Ns mainGlobals mg){C0 C1 C2 C3 C4 C5 C6 C7 C8 C9 C10 g36 g37 g39 g40 g41 g42 g43 g44 g45 g46 g47:Addr}
  (ca0:(4,K,"Deed") = (27,C0))
  (d0:l3 K C0)
  (ca1:(4,K,"Promise") = (27,C1))
  (d1:l3 K C1)
  (ca2:(4,K,"Comparing") = (27,C2))
  (d2:l3 K C2)
  (ca3:(4,K,"Untouched") = (27,C3))
  (d3:l3 K C3)
  (ca4:(4,K,"Still") = (27,C4))
  (d4:l3 K C4)
  (ca5:(4,K,"Put") = (27,C5))
  (d5:l3 K C5)
  (ca6:(4,K,"Copy") = (27,C6))
  (d6:l3 K C6)
  (ca7:(4,K,"Tick") = (27,C7))
  (d7:l3 K C7)
  (ca8:(4,K,"Handed") = (27,C8))
  (d8:l3 K C8)
  (ca9:(4,K,"Grow") = (27,C9))
  (d9:l3 K C9)
  (ca10:(4,K,"Anew") = (27,C10))
  (d10:l3 K C10)
  (h0:LP K "_law_begin" kA)
  (h1:LP K "_law_turn_done" fZ)
  (h2:LP K "_law_cells" ky)
  (h3:LP K "_law_turns" kr)
  (h4:LP K "_law_behind" ju)
  (h5:LP K "_law_come" lT)
  (h6:LP K "_law_word" lR)
  (h7:LP K "_law_comers" jt)
  (h8:LP K "_law_count" kx)
  (h9:LP K "_law_mixed" ku)
  (h10:LP K "_law_number" jq)
  (h11:LP K "_law_boxes" kz)
  (h12:LP K "_law_deed" lS)
  (h13:LP K "_law_row" nV)
  (h14:LP K "_law_program" iF)
  (h15:LP K "_law_wholes" jo)
  (h16:LP K "_law_is_state" gM)
  (h17:LP K "_law_is_row" jr)
  (h18:LP K "_law_table_fits" fy)
  (h19:LP K "places_of" ko)
  (h20:LP K "deed_at" nZ)
  (h21:LP K "size_of" nR)
  (h22:LP K "cells_of" lV)
  (h23:LI K C0 "Deed" "Deed.__init__" qw)
  (h24:LI K C8 "Handed" "Handed.__init__" lU)
  (h25:LI K C10 "Anew" "Anew.__init__" qz)
  (h26:LI K C1 "Promise" "Promise.__init__" kC)
  (h27:LI K C2 "Comparing" "Comparing.__init__" iH)
  (h28:LI K C6 "Copy" "Copy.__init__" qy)
  (h29:LI K C9 "Grow" "Grow.__init__" qv)
  (h30:LI K C5 "Put" "Put.__init__" tE)
  (h31:LI K C4 "Still" "Still.__init__" nW)
  (h32:LI K C7 "Tick" "Tick.__init__" qu)
  (h33:LI K C3 "Untouched" "Untouched.__init__" iG)
  (h34:LP K "deed_of" nY)
  (h35:LP K "is_at_end" kB)
  (f36_0:(4,K,C0,"reads") = (27,g36))
  (f36_1:(4,K,C1,"reads") = (27,g36))
  (f36_2:(4,K,C2,"reads") = (27,g36))
  (f36_3:(4,K,C3,"reads") = (27,g36))
  (f36_4:(4,K,C4,"reads") = (27,g36))
  (f36_5:(4,K,C5,"reads") = (27,g36))
  (f36_6:(4,K,C6,"reads") = (27,g36))
  (f36_7:(4,K,C7,"reads") = (27,g36))
  (f36_8:(4,K,C8,"reads") = (27,g36))
  (f36_9:(4,K,C9,"reads") = (27,g36))
  (f36_10:(4,K,C10,"reads") = (27,g36))
  (h36:LM K "reads" "Deed.reads" jy g36)
  (f37_8:(4,K,C8,"laid") = (27,g37))
  (f37_9:(4,K,C9,"laid") = (27,g37))
  (f37_10:(4,K,C10,"laid") = (27,g37))
  (h37:LM K "laid" "Handed.laid" iI g37)
  (h38:LP K "written" nO)
  (f39_0:(4,K,C0,"turns") = (27,g39))
  (f39_1:(4,K,C1,"turns") = (27,g39))
  (f39_2:(4,K,C2,"turns") = (27,g39))
  (f39_3:(4,K,C3,"turns") = (27,g39))
  (f39_4:(4,K,C4,"turns") = (27,g39))
  (f39_5:(4,K,C5,"turns") = (27,g39))
  (f39_6:(4,K,C6,"turns") = (27,g39))
  (f39_7:(4,K,C7,"turns") = (27,g39))
  (f39_8:(4,K,C8,"turns") = (27,g39))
  (f39_9:(4,K,C9,"turns") = (27,g39))
  (f39_10:(4,K,C10,"turns") = (27,g39))
  (h39:LM K "turns" "Deed.turns" jx g39)
  (f40_0:(4,K,C0,"writes") = (27,g40))
  (f40_1:(4,K,C1,"writes") = (27,g40))
  (f40_2:(4,K,C2,"writes") = (27,g40))
  (f40_3:(4,K,C3,"writes") = (27,g40))
  (f40_4:(4,K,C4,"writes") = (27,g40))
  (f40_5:(4,K,C5,"writes") = (27,g40))
  (f40_6:(4,K,C6,"writes") = (27,g40))
  (f40_7:(4,K,C7,"writes") = (27,g40))
  (f40_8:(4,K,C8,"writes") = (27,g40))
  (f40_9:(4,K,C9,"writes") = (27,g40))
  (f40_10:(4,K,C10,"writes") = (27,g40))
  (h40:LM K "writes" "Deed.writes" iJ g40)
  (f41_8:(4,K,C8,"set_down") = (27,g41))
  (f41_9:(4,K,C9,"set_down") = (27,g41))
  (f41_10:(4,K,C10,"set_down") = (27,g41))
  (h41:LM K "set_down" "Handed.set_down" fe g41)
  (f42_10:(4,K,C10,"after") = (27,g42))
  (h42:LM K "after" "Anew.after" jB g42)
  (f43_6:(4,K,C6,"after") = (27,g43))
  (h43:LM K "after" "Copy.after" jA g43)
  (f44_0:(4,K,C0,"after") = (27,g44))
  (f44_1:(4,K,C1,"after") = (27,g44))
  (f44_2:(4,K,C2,"after") = (27,g44))
  (f44_3:(4,K,C3,"after") = (27,g44))
  (f44_4:(4,K,C4,"after") = (27,g44))
  (f44_8:(4,K,C8,"after") = (27,g44))
  (h44:LM K "after" "Deed.after" jz g44)
  (f45_9:(4,K,C9,"after") = (27,g45))
  (h45:LM K "after" "Grow.after" jw g45)
  (f46_5:(4,K,C5,"after") = (27,g46))
  (h46:LM K "after" "Put.after" kD g46)
  (f47_7:(4,K,C7,"after") = (27,g47))
  (h47:LM K "after" "Tick.after" jv g47)
  (h48:LP K "turned" qt)
  (h49:LP K "behind" qA)
  (h50:LP K "add_walk" lW)
  (h51:LP K "starts_of" kn)
  (h52:LP K "begin" tG)
  (h53:LP K "entered" nX)
  (h54:LP K "come" yV)
  (h55:LP K "word_at" nP)
  (h56:LP K "shut_by" nU)
  (h57:LP K "may_enter" kq)
  (h58:LP K "may_come" lQ)
  {g59:Addr} {oc59:Value} {od59 an59:(9,Addr)} {sl59:Array [26]} {kV59 dc59 pm59 cd59 ct59:Value}
  {td59:Addr} {tc59:Value} {te59:(9,Addr)} {tn59:Nat} {tt59:Tok} {ts59:Array [26]}
  (a59:(4,K,"table") = (27,g59))
  (l59:K.lookup g59=(6,(9,oc59,od59,.func (fnOf "table" "table" (bL nQ) (b9 nQ) (ag nQ) (10,td59) kV59 dc59 pm59 an59 cd59 ct59),sl59)))
  (c59:codeIn K cd59 "table" = true)
  (k59:(7,K,g59)=true)
  (t59:K.lookup td59=(6,(9,tc59,te59,.seq #[.int (300) tt59] tn59,ts59)))
  (h60:LP K "law" Ba)
  (na_check_10:(4,K,C10,"check") = (6,none))
  (na_number_9:(4,K,C9,"number") = (6,none))
  (na_numbers_5:(4,K,C5,"numbers") = (6,none))
  (na_plan_0:(4,K,C0,"plan") = (6,none))
  (na_plan_1:(4,K,C1,"plan") = (6,none))
  (na_plan_2:(4,K,C2,"plan") = (6,none))
  (na_plan_3:(4,K,C3,"plan") = (6,none))
  (na_plan_4:(4,K,C4,"plan") = (6,none))
  (na_plan_5:(4,K,C5,"plan") = (6,none))
  (na_plan_6:(4,K,C6,"plan") = (6,none))
  (na_plan_7:(4,K,C7,"plan") = (6,none))
  (na_plan_8:(4,K,C8,"plan") = (6,none))
  (na_plan_9:(4,K,C9,"plan") = (6,none))
  (na_plan_10:(4,K,C10,"plan") = (6,none))
  (na_size_9:(4,K,C9,"size") = (6,none))
  {X0 I0:Addr} {xc0:Value} {xd0 xa0:(9,Addr)} {xl0:Array [26]} {xk0 xo0 xp0 xe0 xt0:Value}
  (xa_TooMany:(4,K,"TooMany") = (27,X0))
  (xf_TooMany:(4,K,X0,"__init__") = (27,I0))
  (xl_TooMany:K.lookup I0=(6,(9,xc0,xd0,.func (fnOf "__init__" "TooMany.__init__" (bL (bO (top 2) 0)) (b9 (bO (top 2) 0)) (ag (bO (top 2) 0)) .none xk0 xo0 xp0 xa0 xe0 xt0),xl0)))
  (xc_TooMany:codeIn K xe0 "TooMany.__init__" = true)
  (xk_TooMany:(7,K,I0)=true)
  (x1_TooMany:HS K X0 I0=true)
  (x2_TooMany:PySem.W.typeIn K (10,I0)=(6,(52,"function")))
  (x3_TooMany:(4,K,X0,"__setattr__") = (21,(40,"object.__setattr__")))
  (x4_TooMany:(4,K,X0,"__getattribute__") = (21,(40,"BaseException.__getattribute__")))
  (x5_TooMany:(4,K,X0,"__getattr__") = (6,none))
  (x6_TooMany:(4,K,X0,"most") = (6,none))
  (x7_TooMany:(7,K,X0)=true)
  (z_abs:(4,K,"abs") = (6,none))
  (z_bool:(4,K,"bool") = (6,none))
  (z_int:(4,K,"int") = (6,none))
  (z_isinstance:(4,K,"isinstance") = (6,none))
  (z_len:(4,K,"len") = (6,none))
  (z_list:(4,K,"list") = (6,none))
  (z_min:(4,K,"min") = (6,none))
  (z_range:(4,K,"range") = (6,none))
  (z_set:(4,K,"set") = (6,none))
  (z_sorted:(4,K,"sorted") = (6,none))
  (z_sum:(4,K,"sum") = (6,none))
  (z_tuple:(4,K,"tuple") = (6,none)):
  (∃cls,OZ K mg cls)/\gj mg:=by
 obtain⟨cls,rfl,rfl,rfl,rfl,rfl,rfl,rfl,rfl,rfl,rfl,rfl,rfl⟩:∃cls:String->Addr,cls "Deed" = C0/\cls "Promise" = C1/\cls "Comparing" = C2/\cls "Untouched" = C3/\cls "Still" = C4/\cls "Put" = C5/\cls "Copy" = C6/\cls "Tick" = C7/\cls "Handed" = C8/\cls "Grow" = C9/\cls "Anew" = C10/\cls "TooMany" = X0:=(5,clsF [("Deed",C0),("Promise",C1),("Comparing",C2),("Untouched",C3),("Still",C4),("Put",C5),("Copy",C6),("Tick",C7),("Handed",C8),("Grow",C9),("Anew",C10),("TooMany",X0)],by simp[clsF])
 exact⟨⟨cls,⟨h0.laid X G,h1.laid X G,h2.laid X G,h3.laid X G,h4.laid X G,h5.laid X G,h6.laid X G,h7.laid X G,h8.laid X G,h9.laid X G,h10.laid X G,h11.laid X G,h12.laid X G,h13.laid X G,h14.laid X G,h15.laid X G,h16.laid X G,h17.laid X G,h18.laid X G,h19.laid X G,h20.laid X G,h21.laid X G,h22.laid X G,h23.laid ca0 X G,h24.laid ca8 X G,h25.laid ca10 X G,h26.laid ca1 X G,h27.laid ca2 X G,h28.laid ca6 X G,h29.laid ca9 X G,h30.laid ca5 X G,h31.laid ca4 X G,h32.laid ca7 X G,h33.laid ca3 X G,h34.laid X G,h35.laid X G,h36.laid (all_cons ⟨d0,f36_0⟩ (all_cons ⟨d1,f36_1⟩ (all_cons ⟨d2,f36_2⟩ (all_cons ⟨d3,f36_3⟩ (all_cons ⟨d4,f36_4⟩ (all_cons ⟨d5,f36_5⟩ (all_cons ⟨d6,f36_6⟩ (all_cons ⟨d7,f36_7⟩ (all_cons ⟨d8,f36_8⟩ (all_cons ⟨d9,f36_9⟩ (all_cons ⟨d10,f36_10⟩ all_nil))))))))))),h37.laid (all_cons ⟨d8,f37_8⟩ (all_cons ⟨d9,f37_9⟩ (all_cons ⟨d10,f37_10⟩ all_nil))),h38.laid X G,h39.laid (all_cons ⟨d0,f39_0⟩ (all_cons ⟨d1,f39_1⟩ (all_cons ⟨d2,f39_2⟩ (all_cons ⟨d3,f39_3⟩ (all_cons ⟨d4,f39_4⟩ (all_cons ⟨d5,f39_5⟩ (all_cons ⟨d6,f39_6⟩ (all_cons ⟨d7,f39_7⟩ (all_cons ⟨d8,f39_8⟩ (all_cons ⟨d9,f39_9⟩ (all_cons ⟨d10,f39_10⟩ all_nil))))))))))),h40.laid (all_cons ⟨d0,f40_0⟩ (all_cons ⟨d1,f40_1⟩ (all_cons ⟨d2,f40_2⟩ (all_cons ⟨d3,f40_3⟩ (all_cons ⟨d4,f40_4⟩ (all_cons ⟨d5,f40_5⟩ (all_cons ⟨d6,f40_6⟩ (all_cons ⟨d7,f40_7⟩ (all_cons ⟨d8,f40_8⟩ (all_cons ⟨d9,f40_9⟩ (all_cons ⟨d10,f40_10⟩ all_nil))))))))))),h41.laid (all_cons ⟨d8,f41_8⟩ (all_cons ⟨d9,f41_9⟩ (all_cons ⟨d10,f41_10⟩ all_nil))),h42.laid (all_cons ⟨d10,f42_10⟩ all_nil),h43.laid (all_cons ⟨d6,f43_6⟩ all_nil),h44.laid (all_cons ⟨d0,f44_0⟩ (all_cons ⟨d1,f44_1⟩ (all_cons ⟨d2,f44_2⟩ (all_cons ⟨d3,f44_3⟩ (all_cons ⟨d4,f44_4⟩ (all_cons ⟨d8,f44_8⟩ all_nil)))))),h45.laid (all_cons ⟨d9,f45_9⟩ all_nil),h46.laid (all_cons ⟨d5,f46_5⟩ all_nil),h47.laid (all_cons ⟨d7,f47_7⟩ all_nil),h48.laid X G,h49.laid X G,h50.laid X G,h51.laid X G,h52.laid X G,h53.laid X G,h54.laid X G,h55.laid X G,h56.laid X G,h57.laid X G,h58.laid X G,JE X G a59 l59 c59 k59 t59 (λ_ _ _ _ _ _ us hl=>match us,hl with|[_,_,_],_=>⟨_,rfl,rfl⟩) (λ_ _ _ _ _ _ us hl=>match us,hl with|[_,_],_=>⟨_,rfl,rfl⟩),h60.laid X G,(all_cons ⟨d10,na_check_10⟩ all_nil),(all_cons ⟨d9,na_number_9⟩ all_nil),(all_cons ⟨d5,na_numbers_5⟩ all_nil),(all_cons ⟨d0,na_plan_0⟩ (all_cons ⟨d1,na_plan_1⟩ (all_cons ⟨d2,na_plan_2⟩ (all_cons ⟨d3,na_plan_3⟩ (all_cons ⟨d4,na_plan_4⟩ (all_cons ⟨d5,na_plan_5⟩ (all_cons ⟨d6,na_plan_6⟩ (all_cons ⟨d7,na_plan_7⟩ (all_cons ⟨d8,na_plan_8⟩ (all_cons ⟨d9,na_plan_9⟩ (all_cons ⟨d10,na_plan_10⟩ all_nil))))))))))),(all_cons ⟨d9,na_size_9⟩ all_nil),JB X G rfl xa_TooMany xl_TooMany xc_TooMany xk_TooMany x1_TooMany x2_TooMany x3_TooMany x4_TooMany x5_TooMany x6_TooMany x7_TooMany (by intro _ _ _ _ _ _ us hl;first|(obtain⟨_,rfl⟩:=ln1 hl;rfl)|(obtain⟨_,_,rfl⟩:=ln2 hl;rfl)|(obtain⟨_,_,_,rfl⟩:=ln3 hl;rfl)|(obtain⟨_,_,_,_,rfl⟩:=ln4 hl;rfl)|(obtain⟨_,_,_,_,_,rfl⟩:=ln5 hl;rfl)|(obtain⟨_,_,_,_,_,_,rfl⟩:=ln6 hl;rfl))⟩⟩,⟨mg_none_of X G z_abs,mg_none_of X G z_bool,mg_none_of X G z_int,mg_none_of X G z_isinstance,mg_none_of X G z_len,mg_none_of X G z_list,mg_none_of X G z_min,mg_none_of X G z_range,mg_none_of X G z_set,mg_none_of X G z_sorted,mg_none_of X G z_sum,mg_none_of X G z_tuple⟩⟩
end Bell
namespace PySem.W.Fast
def tw8376208932183307688:=0
def tw16770982409576991522:=0
def tw957627586606101538:=0
def tw2848356626317601044:=0
def tw7368983505192368085:=0
def tw11145786829375605975:=0
def tw14392164860158033711:=0
def tw8795332261692424819:=0
def tw16021557718570610787:=0
def tw7882881813163485451:=0
def tw7072985284441808499:=0
def tw13693539178183516957:=0
def tw7010644575876784712:=0
def tw11891218419004176166:=0
def tw2403082081827826110:=0
def tw16106968168066844411:=0
def tw8249822352882566916:=0
def tw15169458746660355646:=0
def tw7529455571178288601:=0
def tw9985057930559684190:=0
def tw12041585735255952853:=0
def tw14806845544008375390:=0
def tw156812650451401236:=0
def tw5187987448205724026:=0
def tw18385175255936518691:=0
def tw6768213798023914340:=0
def tw12710850021534200706:=0
def tw11068403217438563225:=0
def tw17084670231509921972:=0
def tw1727440415288559610:=0
def tw9113992092233277660:=0
def tw5298672296032573424:=0
def tw6514126167794949159:=0
def tw3872684016340007762:=0
def tw5367752778716130078:=0
def tw3540290863230267427:=0
def tw7858176748317176481:=0
def tw14894458816152473983:=0
def tw11480247553486551284:=0
def tw7512685039347302496:=0
def tw18075306521768140522:=0
def tw17637638219863216390:=0
def tw18335491812171493580:=0
def tw13743967244031270674:=0
def tw13703533412577002175:=0
def tw14187625989312834019:=0
def tw7380482439470772950:=0
def tw16027557291592776201:=0
def tw10588671821523150676:=0
def tw10698072663812945719:=0
def tw17840585470459261249:=0
def tw8262923020893672129:=0
def tw15126845702656688084:=0
def tw17682508394677294131:=0
def tw5497292422296948385:=0
def tw8733057152171343104:=0
def tw5030663892387341099:=0
def tw5381680102168014626:=0
def tw11588459218846661681:=0
def tw18444203027066032227:=0
def tw13313153775977994835:=0
def tw7245071042516530242:=0
def tw4914060204703192555:=0
def tw9020936635714517525:=0
def tw6640900664941008593:=0
def tw13875505186085549637:=0
def tw2246161742244127461:=0
def tw16331119986147936853:=0
def tw3354039965987595714:=0
def tw9636723618091663492:=0
def tw6312898560967144140:=0
def tw2625190801222174809:=0
def tw4808074081504510759:=0
def tw8501943248425377415:=0
def tw14838992627028568385:=0
def tw8395714682744262512:=0
def tw9498904375490447621:=0
def tw7595717651316923926:=0
def tw16778224742063896267:=0
def tw1235292049579139591:=0
def tw13568164699975417320:=0
def tw12798773839212183100:=0
def tw16959664882069486282:=0
def tw10366236421246974310:=0
def tw6352133984587670769:=0
def tw14853435780129538033:=0
def tw18003348993096183875:=0
def tw17293958524162141119:=0
def tw1339003613610323833:=0
def tw14071551640648594517:=0
def tw7049702801338254336:=0
def tw15789821640564046632:=0
def tw1839044299539747000:=0
def tw2372061536170397109:=0
def tw12605981731758243291:=0
def tw10378314028280788959:=0
def tw347779986602461797:=0
def tw8298220481269280960:=0
def tw17444444399232462485:=0
def tw7239618194705283541:=0
def tw14614866943110334099:=0
def tw14945113283464505678:=0
def tw11290762015966406551:=0
def tw12105382240250336464:=0
def tw16978064185109120961:=0
def tw7546660477439121241:=0
def tw3611302782286217686:=0
def tw14315989081503381807:=0
def tw2872289980305359152:=0
def tw2467471252863193798:=0
def tw5881686072123042719:=0
def tw18135183738028247551:=0
def tw3633261007656465765:=0
def tw6649813126437870269:=0
def tw7454399568108297766:=0
def tw8907934258568458018:=0
def tw7784689499231514742:=0
def tw13161680014147485595:=0
def tw9722700160022109348:=0
def tw2693903865237555179:=0
def tw9302167926653296500:=0
def tw6627003368896977706:=0
def tw13516914923170444347:=0
def tw6834550996982037915:=0
def tw5592229706042269214:=0
def tw15581807158645494248:=0
def tw1231216859239091263:=0
def tw5676047960610978338:=0
def tw5541625532843731841:=0
def tw16158367706032107057:=0
def tw2573498683737948201:=0
def tw15895715795372620354:=0
def tw4559625954128493660:=0
def tw7502383119089243535:=0
def tw5207134663282720335:=0
def tw5973574051564203034:=0
def tw17441920224014620432:=0
def tw8298278716479455357:=0
def tw387774012672923996:=0
def tw579448514477846059:=0
def tw2564087011420558676:=0
def tw4898524736083331352:=0
def tw14684313918052556063:=0
def tw16701929605361412794:=0
def tw18313796647132227123:=0
def tw14984142979215820647:=0
def tw5904941031917769297:=0
def tw1414175877031849573:=0
def tw8315365436290175959:=0
def tw12921383040706493299:=0
def tw13165304350436779574:=0
def tw14830176702163209327:=0
def tw3310426167699770511:=0
def tw11646416336901364843:=0
def tw3324819199676769195:=0
def tw16287780577370448649:=0
def tw2210439977642694749:=0
def tw15217860817064477121:=0
def tw823318961847772366:=0
def tw8213337025881759989:=0
def tw12002040756251047429:=0
def tw15669408829780367783:=0
def tw3859880446000477350:=0
def tw6913227987077430194:=0
def tw12045870605026944786:=0
def tw17822618256638830307:=0
def tw16967096360280984041:=0
def tw14605435233415398134:=0
def tw2670074021037080524:=0
def tw2071680469650598151:=0
def tw6507869340165517820:=0
def tw3389991570108414021:=0
def tw12772870318548954369:=0
def tw9158390625920785104:=0
def tw17935790496215738702:=0
def tw8239941275622386796:=0
def tw16051928253613839456:=0
def tw14204492002191381590:=0
def tw2716058907500319629:=0
def tw14921607250422096640:=0
def tw16482710835179408915:=0
def tw12036456232901569459:=0
def tw3218316872527807863:=0
def tw8952952357822332286:=0
def tw14503744184679487287:=0
def tw15107324609665667510:=0
def tw17327045245190133359:=0
def tw6731891468707108818:=0
def tw17661046602705695314:=0
def tw9732229738324880422:=0
def tw7469734747189762492:=0
def tw4250083685056622931:=0
def tw4043707112350841992:=0
end PySem.W.Fast
end
open PySem PySem.W PyProof.Rows
set_option maxRecDepth 100000 in
set_option maxHeartbeats 0 in
theorem PySem.Challenge.cw_bellnest_k64_table_closed_holds : PySem.Challenge.rw_bellnest_k64_table_closed.Holds := by
 w_on;o_law;k_head;(case hw=>w_witness2)
 k_fill
 refine Bell.walk (l:=PySem.Challenge.rw_bellnest_k64_table_closed) Bell.law_true rfl rfl rfl (λw h Y=>PySem.W.kIn_of Y) ?F
 case F=>
  intro w mg h KX G;refine' Bell.defs_mk KX G ?_ ⟨?_,?_,?_,?_⟩ ?_ ⟨?_,?_,?_,?_⟩ ?_ ⟨?_,?_,?_,?_⟩ ?_ ⟨?_,?_,?_,?_⟩ ?_ ⟨?_,?_,?_,?_⟩ ?_ ⟨?_,?_,?_,?_⟩ ?_ ⟨?_,?_,?_,?_⟩ ?_ ⟨?_,?_,?_,?_⟩ ?_ ⟨?_,?_,?_,?_⟩ ?_ ⟨?_,?_,?_,?_⟩ ?_ ⟨?_,?_,?_,?_⟩ (Bell.lp ?_ ?_ ?_ ?_) (Bell.lp ?_ ?_ ?_ ?_) (Bell.lp ?_ ?_ ?_ ?_) (Bell.lp ?_ ?_ ?_ ?_) (Bell.lp ?_ ?_ ?_ ?_) (Bell.lp ?_ ?_ ?_ ?_) (Bell.lp ?_ ?_ ?_ ?_) (Bell.lp ?_ ?_ ?_ ?_) (Bell.lp ?_ ?_ ?_ ?_) (Bell.lp ?_ ?_ ?_ ?_) (Bell.lp ?_ ?_ ?_ ?_) (Bell.lp ?_ ?_ ?_ ?_) (Bell.lp ?_ ?_ ?_ ?_) (Bell.lp ?_ ?_ ?_ ?_) (Bell.lp ?_ ?_ ?_ ?_) (Bell.lp ?_ ?_ ?_ ?_) (Bell.lp ?_ ?_ ?_ ?_) (Bell.lp ?_ ?_ ?_ ?_) (Bell.lp ?_ ?_ ?_ ?_) (Bell.lp ?_ ?_ ?_ ?_) (Bell.lp ?_ ?_ ?_ ?_) (Bell.lp ?_ ?_ ?_ ?_) (Bell.lp ?_ ?_ ?_ ?_) (Bell.li ?_ ?_ ?_ ?_ ?_ ?_ ?_ ?_ ?_ ?_) (Bell.li ?_ ?_ ?_ ?_ ?_ ?_ ?_ ?_ ?_ ?_) (Bell.li ?_ ?_ ?_ ?_ ?_ ?_ ?_ ?_ ?_ ?_) (Bell.li ?_ ?_ ?_ ?_ ?_ ?_ ?_ ?_ ?_ ?_) (Bell.li ?_ ?_ ?_ ?_ ?_ ?_ ?_ ?_ ?_ ?_) (Bell.li ?_ ?_ ?_ ?_ ?_ ?_ ?_ ?_ ?_ ?_) (Bell.li ?_ ?_ ?_ ?_ ?_ ?_ ?_ ?_ ?_ ?_) (Bell.li ?_ ?_ ?_ ?_ ?_ ?_ ?_ ?_ ?_ ?_) (Bell.li ?_ ?_ ?_ ?_ ?_ ?_ ?_ ?_ ?_ ?_) (Bell.li ?_ ?_ ?_ ?_ ?_ ?_ ?_ ?_ ?_ ?_) (Bell.li ?_ ?_ ?_ ?_ ?_ ?_ ?_ ?_ ?_ ?_) (Bell.lp ?_ ?_ ?_ ?_) (Bell.lp ?_ ?_ ?_ ?_) ?_ ?_ ?_ ?_ ?_ ?_ ?_ ?_ ?_ ?_ ?_ (Bell.lm ?_ ?_ ?_ ?_) ?_ ?_ ?_ (Bell.lm ?_ ?_ ?_ ?_) (Bell.lp ?_ ?_ ?_ ?_) ?_ ?_ ?_ ?_ ?_ ?_ ?_ ?_ ?_ ?_ ?_ (Bell.lm ?_ ?_ ?_ ?_) ?_ ?_ ?_ ?_ ?_ ?_ ?_ ?_ ?_ ?_ ?_ (Bell.lm ?_ ?_ ?_ ?_) ?_ ?_ ?_ (Bell.lm ?_ ?_ ?_ ?_) ?_ (Bell.lm ?_ ?_ ?_ ?_) ?_ (Bell.lm ?_ ?_ ?_ ?_) ?_ ?_ ?_ ?_ ?_ ?_ (Bell.lm ?_ ?_ ?_ ?_) ?_ (Bell.lm ?_ ?_ ?_ ?_) ?_ (Bell.lm ?_ ?_ ?_ ?_) ?_ (Bell.lm ?_ ?_ ?_ ?_) (Bell.lp ?_ ?_ ?_ ?_) (Bell.lp ?_ ?_ ?_ ?_) (Bell.lp ?_ ?_ ?_ ?_) (Bell.lp ?_ ?_ ?_ ?_) (Bell.lp ?_ ?_ ?_ ?_) (Bell.lp ?_ ?_ ?_ ?_) (Bell.lp ?_ ?_ ?_ ?_) (Bell.lp ?_ ?_ ?_ ?_) (Bell.lp ?_ ?_ ?_ ?_) (Bell.lp ?_ ?_ ?_ ?_) (Bell.lp ?_ ?_ ?_ ?_) ?_ ?_ ?_ ?_ ?_ (Bell.lp ?_ ?_ ?_ ?_) ?_ ?_ ?_ ?_ ?_ ?_ ?_ ?_ ?_ ?_ ?_ ?_ ?_ ?_ ?_ ?_ ?_ ?_ ?_ ?_ ?_ ?_ ?_ ?_ ?_ ?_ ?_ ?_ ?_ ?_ ?_ ?_ ?_ ?_ ?_ ?_ ?_ ?_ ?_
  all_goals (try (first|k_is|kernel_rfl!))
