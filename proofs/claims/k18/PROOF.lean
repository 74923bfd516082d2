import PyProof.Rows.All
import Wide.All
import OpenK.AllK
import Wide.FinOn
import Lean
import PyProof.EqAt
import PyProof.EqKinds
import PyProof.TupleCall
import PySem.SetOps
import PySem.Challenge.RW_bellnest_k18_prompt_ringings
noncomputable section
set_option Elab.async false
set_option linter.all false
set_option maxRecDepth 100000
open PySem.W (Frag KdlSrc callWith_K callWith_K0 cellsFrom_some codeIn emptyDict findCls findIn fnOf handedIn hasDictIn instObj isFn keepIn kia_one kitOne kitx_dict kitx_list lookIn makesIn methodCall_KW methodObj mg_none_of mg_of nsIn plainGet plainGet_of plainOver readsIn specialIn takerIn)
open List (all_eq_true all_map any_cons append_assoc append_inj' append_nil cons_ne_nil ext_getElem? filterMap_cons filter_append filter_congr filter_cons find?_cons flatten_cons foldl_cons forIn_cons forIn_nil getD_eq_getElem?_getD getElem?_append_left getElem?_append_right getElem?_eq_getElem getElem?_eq_none getElem?_map getElem?_range getElem?_replicate getElem?_set_ne getElem?_set_self getElem_mem getElem_of_mem length_append length_cons length_drop length_eq_zero_iff length_map length_nil length_range length_replicate length_set length_singleton length_take lookup_cons map_append map_congr_left map_cons map_map map_nil mem_append mem_append_left mem_append_right mem_cons mem_cons_of_mem mem_cons_self mem_filter mem_map mem_of_getElem? mem_range mem_singleton nodup_cons not_mem_nil of_mem_zip pairwise_cons range_succ replicate replicate_succ size_toArray sum_append sum_cons zipWith zip_cons_cons)
open PySem.Heap (get?_push_of_some get?_push_size get?_update_other get?_update_self lt_size size_push)
open Nat (le_add_right le_of_eq le_of_lt le_refl le_trans lt_irrefl lt_of_le_of_lt lt_of_lt_of_le lt_succ_of_lt lt_succ_self lt_trans ne_of_gt ne_of_lt or_zero sub_self testBit_or testBit_two_pow two_pow_pos zero_add zero_le zero_or zero_testBit)
open Array (getElem?_toList length_toList)
open Bool (and_eq_true false_eq_true)
open Int (natCast_pow toNat_natCast)
set_option compiler.extract_closed false
section
set_option hygiene false
local macro_rules
|`([8])=>`(hr.mono (by first|decide|omega))
|`([11])=>`((by omega))
|`([13])=>`((by decide))
|`([14])=>`((by first|decide|omega))
|`([15])=>`(s.heap.objs.size)
|`([16])=>`(List Str)
|`([17])=>`((by decide +kernel))
|`([18])=>`(List (Addr×Obj))
|`([19])=>`((by simp))
|`([20])=>`(List D)
|`([21])=>`(List Value)
|`([22])=>`((by first|exact Or.inl rfl|exact Or.inr rfl))
|`([23])=>`(ns.map D.int)
|`([24])=>`(List Int)
|`([25])=>`(le_refl _)
|`([26])=>`(hr.mono [13])
|`([27])=>`(Bool.false_ne_true)
|`([28])=>`(X.env.scope.names.lookup x)
|`([29])=>`(List Nat)
|`([30])=>`((8,Value))
|`([31])=>`(w.params.followText "set-order")
|`([32])=>`((11,K))
|`([33])=>`(Array Value)
|`([34])=>`(.refl re1.b.i)
|`([35])=>`((36,(show false=true from hs)))
|`([36])=>`(List Bx)
|`([37])=>`(cls c)
|`([38])=>`(List V)
|`([39])=>`((8,(([20])->(8,R))))
|`([40])=>`(List Addr)
|`([41])=>`(es.map (·.2))
|`([42])=>`(.inl rfl)
|`([43])=>`(W.map intD)
|`([44])=>`((27,x))
|`([45])=>`((16,((szB bs y:Nat)+1:Int)))
|`([46])=>`((1,o))
|`([47])=>`(a9 0)
|`([48])=>`((57,s))
|`([49])=>`((1,(.frz {cls:=.type "list",data:=.seq vs.toArray} (13,ns.map V.int))))
|`([50])=>`((23,px))
local macro_rules
|`([51])=>`(List (Str×Addr))
|`([52])=>`(ak.mpr rfl)
|`([53])=>`(X.env.scope)
|`([54])=>`((13,[23]))
|`([55])=>`(ba [13])
|`([56])=>`((1,.local))
|`([57])=>`((8,R))
|`([58])=>`(nodup_cons.mp nd)
|`([59])=>`((58,[55]))
|`([60])=>`(ai st)
|`([61])=>`(a9 1)
|`([62])=>`((1,none))
|`([63])=>`(cs.map D.int)
|`([64])=>`(okB false)
|`([65])=>`(List (List Key×V))
|`([66])=>`(rs.map Rw.d)
|`([67])=>`((1,.cell))
|`([68])=>`((by simp only[size_toArray] <;> omega))
local macro_rules
|`((1,$a))=>`(some $a)
|`((2,$a))=>`(a0 (pv $a))
|`((3,$a))=>`(eC (.int $a))
|`((4,$a))=>`(starEach $a X.env)
|`((5,$a))=>`(wpAny_bind $a)
|`((6,$a))=>`((1,.sh $a))
|`((7,$a))=>`(getElem?_eq_getElem $a)
|`((8,$a))=>`(Option $a)
|`((9,$a))=>`(.ref $a)
|`((10,$a))=>`(wpAny_pure $a)
|`((11,$a))=>`(Γc $a cls)
|`((12,$a))=>`((1,.own $a))
|`((13,$a))=>`(.lst $a)
|`((14,$a))=>`(eval $a X.env)
|`((15,$a))=>`(Str.ofString $a)
|`((16,$a))=>`(.int $a)
|`((17,$a))=>`(List.getElem?_eq_some_iff.mp $a)
|`((18,$a))=>`((1,rfl,$a))
|`((19,$a))=>`(List.range $a)
|`((20,$a))=>`((6,(16,$a)))
|`((21,$a))=>`(get?_push_of_some _ $a)
|`((22,$a))=>`(.tup $a)
|`((23,$a))=>`(.Name x $a)
|`((24,$a))=>`(aj (au $a))
|`((25,$a))=>`(if_pos $a)
|`((26,$a))=>`(get?_push_size $a rfl)
|`((27,$a))=>`(szB bs $a)
|`((28,$a))=>`(s.heap.get? $a)
|`((29,$a))=>`(if_neg $a)
|`((30,$a))=>`(mem_cons_of_mem _ $a)
|`((31,$a))=>`((1,(1,$a)))
|`((32,$a))=>`(getElem?_set_ne $a)
|`((33,$a))=>`((31,(9,$a)))
|`((34,$a))=>`((1,.ok $a))
|`((35,$a))=>`(getElem?_set_self $a)
|`((36,$a))=>`(absurd $a Bool.false_ne_true)
|`((37,$a))=>`(cS.of (aI.mpr $a))
|`((38,$a))=>`(bq $a rfl)
|`((39,$a))=>`(mem_singleton.mp $a)
|`((40,$a))=>`(decide_eq_false $a)
local macro_rules
|`((41,$a))=>`(fstB bs $a)
|`((42,$a))=>`(Array.getElem?_eq_getElem $a)
|`((43,$a))=>`(aA $a top.row)
|`((44,$a))=>`(.builtin $a)
|`((45,$a))=>`(eC (.str $a))
|`((46,$a))=>`((1,.next $a))
|`((47,$a))=>`(SetTable.below t.place $a)
|`((48,$a))=>`(lt_size $a)
|`((49,$a))=>`(Builtin.SmallTypes.nextOf (9,$a))
|`((50,$a))=>`(Option.some.inj $a)
|`((51,$a))=>`(decide_eq_true $a)
|`((52,$a))=>`((12,(13,$a)))
|`((53,$a))=>`(X.env.cells.lookup $a)
|`((54,$a))=>`(.type $a)
|`((55,$a))=>`(le_trans $a [13])
|`((56,$a))=>`(ne_of_lt $a)
|`((57,$a))=>`((17,H,$a))
|`((58,$a))=>`((38,(18,$a)))
|`((59,$a))=>`(getElem?_append_left $a)
|`((60,$a))=>`(bootBuiltins $a)
|`((61,$a))=>`(mem_of_getElem? $a)
|`((62,$a))=>`((3,rfl,$a))
|`((63,$a))=>`(h'.get? $a)
|`((64,$a))=>`(getElem?_append_right $a)
|`((65,$a))=>`((1,(12,$a)))
|`((66,$a))=>`(qQ ["Deed","Promise","Comparing","Untouched","Still","Put","Copy","Tick","Handed","Grow","Anew"] $a)
|`((67,$a))=>`(PySem.mem_of_lookup $a)
|`((68,$a))=>`(scope.names.lookup $a)
|`((69,$a))=>`((3,$a,by omega))
|`((70,$a))=>`(getElem?_eq_none $a)
|`((71,$a))=>`(assignEach $a X.env)
|`((72,$a))=>`(ρ.set i $a)
|`((73,$a))=>`(env.cells.lookup $a)
|`((74,$a))=>`(L.scope.names.lookup $a)
|`((75,$a))=>`(mem_append_right _ $a)
|`((76,$a))=>`(okD (22,$a))
|`((77,$a))=>`(aA rs $a)
|`((78,$a))=>`(PE.imp $a)
|`((1,$a,$b))=>`(a8 $a rfl $b)
|`((2,$a,$b))=>`(padN (2,$a) $b)
local macro_rules
|`((3,$a,$b))=>`(⟨$a,$b⟩)
|`((4,$a,$b))=>`(a8 rfl $a $b)
|`((5,$a,$b))=>`(nsIn $a mainGlobals $b)
|`((6,$a,$b))=>`((2,rfl,$a,$b))
|`((7,$a,$b))=>`(backTo $a (4,$b))
|`((8,$a,$b))=>`(.Attribute $a $b apos)
|`((9,$a,$b))=>`(lt_of_lt_of_le $a $b)
|`((10,$a,$b))=>`(fZ $a $b [(6,(13,[23])),(20,k),(6,bt bs),(20,w),(20,x),(6,(.int (szB bs x:Nat))),(12,(13,((bQ bs x).map intD))),none,none,none,none])
|`((11,$a,$b))=>`(cellsFrom (s.heap.objs.size+1) $a $b)
|`((12,$a,$b))=>`((14,$a,rfl,$b))
|`((13,$a,$b))=>`(aW $a $b aB)
|`((14,$a,$b))=>`((10,rfl,$a,$b))
|`((15,$a,$b))=>`(de ["Machine"] $a $b)
|`((16,$a,$b))=>`(zipWith (λa b=>[a,b]) $a $b)
|`((17,$a,$b))=>`((17,X,$a,$b))
|`((18,$a,$b))=>`((20,H_law_draw,$a,$b))
|`((19,$a,$b))=>`((11,$a,rfl,$b))
|`((20,$a,$b))=>`(aa (ax $a) $b)
|`((21,$a,$b))=>`(wpAny_bind (m:=$a) $b)
|`((22,$a,$b))=>`(.cons $a $b)
|`((23,$a,$b))=>`(aL (f1 $a) $b)
|`((24,$a,$b))=>`(aV (i:=$a) $b)
|`((25,$a,$b))=>`((24,W,$a,$b))
|`((26,$a,$b))=>`((8,aT,$a,$b))
|`((27,$a,$b))=>`(.obj c $a $b)
|`((28,$a,$b))=>`(aK (aZ $a) $b)
|`((29,$a,$b))=>`(AF ["Deed","Promise","Comparing","Untouched","Still","Put","Copy","Tick","Handed","Grow","Anew"] $a $b)
|`((30,$a,$b))=>`(eZ (f:=$a) (λ_ _=>rfl) $b)
|`((31,$a,$b))=>`(bK (dH $a $b))
|`((32,$a,$b))=>`(absurd $a $b)
|`((33,$a,$b))=>`(br rfl $a $b)
|`((34,$a,$b))=>`(sIx items.size $a $b)
|`((35,$a,$b))=>`((11,$a,$b,rfl))
|`((36,$a,$b))=>`(.frz $a (.own $b))
|`((37,$a,$b))=>`((16,$a,ds,$b))
|`((38,$a,$b))=>`(iO (aE $a) $b)
|`((39,$a,$b))=>`(keepIn $a (9,$b))
|`((1,$a,$b,$c))=>`(ag $a (a9 $b) $c)
|`((2,$a,$b,$c))=>`(ao (ixd $a) $b $c)
|`((3,$a,$b,$c))=>`(ah $a (ah $b $c))
local macro_rules
|`((4,$a,$b,$c))=>`(fQ (i:=$a) $b rfl $c)
|`((5,$a,$b,$c))=>`(.Call $a $b [] $c)
|`((6,$a,$b,$c))=>`(aa $a (aa $b $c))
|`((7,$a,$b,$c))=>`(findIn $a (9,$b) $c)
|`((8,$a,$b,$c))=>`((1,$a,$b,(3,$c)))
|`((9,$a,$b,$c))=>`(ag $a $b (3,$c))
|`((10,$a,$b,$c))=>`(av (aw $a) $b $c)
|`((11,$a,$b,$c))=>`(⟨$a,$b,$c⟩)
|`((12,$a,$b,$c))=>`(aF (bF $a $b) $c)
|`((13,$a,$b,$c))=>`(padS (6,$a,$b) $c)
|`((14,$a,$b,$c))=>`(aQ $a [8] $b $c)
|`((15,$a,$b,$c))=>`(backToKw $a (keywordEach $b $c))
|`((16,$a,$b,$c))=>`(RepL Γ $a $b $c)
|`((17,$a,$b,$c))=>`((4,$a,σ,$b,$c))
|`((18,$a,$b,$c))=>`(bf rfl $a $b $c)
|`((19,$a,$b,$c))=>`(iE $a (compareOp $b) $c)
|`((20,$a,$b,$c))=>`((12,$a,(2,$b,$c)))
|`((21,$a,$b,$c))=>`(iE $a (binaryOp $b) $c)
|`((22,$a,$b,$c))=>`(dq (14,$a,$b) $c)
|`((23,$a,$b,$c))=>`(ar $a $b (ai $c))
|`((24,$a,$b,$c))=>`((11,X,$a,$b,$c))
|`((25,$a,$b,$c))=>`(kK (cs:=["Deed","Promise","Comparing","Untouched","Still","Put","Copy","Tick","Handed","Grow","Anew"]) $a $b $c)
|`((26,$a,$b,$c))=>`(gy $a (s.rung ||| w) $b $c)
|`((27,$a,$b,$c))=>`((13,(2,$a),$b,$c))
|`((28,$a,$b,$c))=>`(swapsWith $a $b $c X.env)
|`((29,$a,$b,$c))=>`(gE (ns:=ns) (k:=$a) (m:=$b) $c)
|`((30,$a,$b,$c))=>`(.ListComp $a $b scope $c)
|`((31,$a,$b,$c))=>`(ag $a $b $c)
|`((32,$a,$b,$c))=>`((1,rfl,$a,$b,$c))
|`((33,$a,$b,$c))=>`(Rep Γ $a $b $c)
|`((34,$a,$b,$c))=>`(PyProof.Rows.callWith_type1 $a $b $c)
|`((35,$a,$b,$c))=>`(cF $a $b (13,$c))
|`((1,$a,$b,$c,$d))=>`((1,$a,$b,$c,$d,by decide +kernel))
|`((2,$a,$b,$c,$d))=>`(bC $a $b $c PySem.boot_len $d)
|`((3,$a,$b,$c,$d))=>`(cH (cs:=["Machine"]) (i:=$a) $b $c $d)
|`((4,$a,$b,$c,$d))=>`(aN $a pins $b $c $d)
|`((5,$a,$b,$c,$d))=>`(codeAny $a $b $c (λr s'=>r=.ok (.ret (.bool true))/\OldK s₁.heap s'.heap/\s'.os=s₁.os/\AllBare s'.gens) $d)
|`((6,$a,$b,$c,$d))=>`(wpAny_field $a $b (x:=$c) rfl $d)
|`((7,$a,$b,$c,$d))=>`(aF (iw $a $b $c) $d)
|`((8,$a,$b,$c,$d))=>`(lJ (mr lK P w K mg base N qual (ai st) f cdv A outer s H E).nox $a $b $c $d)
local macro_rules
|`((9,$a,$b,$c,$d))=>`(fm PassesOwn.never $a $b $c $d)
|`((10,$a,$b,$c,$d))=>`(⟨$a,$b,$c,$d⟩)
|`((11,$a,$b,$c,$d))=>`(PD $a Γ $b $c $d)
|`((12,$a,$b,$c,$d))=>`(fo (tb:=$a) $b (2,$c) $d)
|`((1,$a,$b,$c,$d,$e))=>`((1,$a,$b,$c,$d,by decide +kernel,$e))
|`((2,$a,$b,$c,$d,$e))=>`(A.deeper (envOfC $a $b $c $d $e))
|`((3,$a,$b,$c,$d,$e))=>`(kia_one $a $b $c $d (λz=>nomatch z) $e)
|`((4,$a,$b,$c,$d,$e))=>`(⟨$a,$b,$c,$d,$e⟩)
|`((5,$a,$b,$c,$d,$e))=>`(nK (ns:=$a) (k:=$b) (m:=$c) [11] $d $e)
|`((6,$a,$b,$c,$d,$e))=>`(wpAny _ $a $b $c $d $e)
|`((1,$a,$b,$c,$d,$e,$f))=>`(⟨$a,$b,$c,by decide +kernel,$d,$e,$f⟩)
|`((2,$a,$b,$c,$d,$e,$f))=>`(cW $a $b $c $d $e $f ["Deed","Promise","Comparing","Untouched","Still","Put","Copy","Tick","Handed","Grow","Anew"])
|`((3,$a,$b,$c,$d,$e,$f))=>`((1,X.prog,$a,$b,$c,$d,$e,$f))
|`((1,$a,$b,$c,$d,$e,$f,$g))=>`(wpAny (model $a $b) $c $d $e $f $g)
|`((2,$a,$b,$c,$d,$e,$f,$g))=>`(ix $a $b $c Z.isinstance $d $e $f $g)
|`((3,$a,$b,$c,$d,$e,$f,$g))=>`(⟨B0,$a,$b,$c,$d,$e,$f,$g⟩)
|`((1,$a,$b,$c,$d,$e,$f,$g,$h))=>`(fR (js:=$a) (vars:=$b) $c (by rfl) $d $e $f $g $h)
|`((2,$a,$b,$c,$d,$e,$f,$g,$h))=>`(wpAny_callSpecial?_slot (name:=$a) $b $c (wpAny_call_entry $d $e $f $g $h))
|`((3,$a,$b,$c,$d,$e,$f,$g,$h))=>`((1,$a,$b,$c,$d,[32],$e,$f,$g,$h))
|`((1,$a,$b,$c,$d,$e,$f,$g,$h,$i))=>`(di $a $b $c $d base $e $f $g $h $i)
|`((1,$a,$b,$c,$d,$e,$f,$g,$h,$i,$j))=>`(cQ $a $b $c $d $e $f $g $h $i $j ["Deed","Promise","Comparing","Untouched","Still","Put","Copy","Tick","Handed","Grow","Anew"])
|`((1,$a,$b,$c,$d,$e,$f,$g,$h,$i,$j,$k))=>`(fnOf $a $b $c $d $e $f $g doc $h $i $j $k)
namespace L2
open PySem PySem.Spec PyProof.Rows
abbrev Key:=Sum Int Str
def yh:Key->Value->Bool
 |.inl k,v=>Value.isInt k v
 |.inr x,v=>Value.isStrOf x v
def Ud(w:World):Key->Int
 |.inl k=>hashInt k
 |.inr x=>hashStr w x
theorem dG:∀{k:Key}{v:Value},yh k v=true->(∃i t,k=Sum.inl i/\v=Value.int i t)\/(∃x t,k=Sum.inr x/\v=Value.str x t)
 |.inl i,v,h=>by
  obtain⟨t,e⟩:=Value.isInt_shape (k:=i) (v:=v) h;exact .inl (10,i,t,rfl,e)
 |.inr x,v,h=>by
  obtain⟨t,e⟩:=Value.isStrOf_shape (x:=x) (v:=v) h;exact .inr (10,x,t,rfl,e)
theorem Iy(i:Int)(t:Tok):yh (.inl i) (.int i t)=true:=by simp[yh,Value.isInt]
theorem Iw(x:Str)(t:Tok):yh (.inr x) (.str x t)=true:=by simp[yh,Value.isStrOf]
theorem QE(a b:Int):decide ((Sum.inl a:Key)=Sum.inl b)=(a == b):=by
 by_cases e:a=b
 ·subst e;simp
 ·have h:¬(Sum.inl a:Key)=Sum.inl b:=λq=>e (Sum.inl.inj q);rw[(40,h)];exact(beq_eq_false_iff_ne.mpr e).symm
theorem QB(a b:Str):decide ((Sum.inr a:Key)=Sum.inr b)=decide (a=b):=by
 by_cases e:a=b
 ·subst e;simp
 ·have h:¬(Sum.inr a:Key)=Sum.inr b:=λq=>e (Sum.inr.inj q);rw[(40,h),(40,e)]
theorem QD(a:Int)(b:Str):decide ((Sum.inl a:Key)=Sum.inr b)=false:=(40,(λq=>nomatch q))
theorem QC(a:Str)(b:Int):decide ((Sum.inr a:Key)=Sum.inl b)=false:=(40,(λq=>nomatch q))
def dW(prog:Program)(w:World):PySem.KeyKind prog w Key where
 is:=yh
 hash:=Ud w
 inj:=λv a b ha hb=>by
  rcases dG ha with⟨i,t,rfl,rfl⟩|⟨x,t,rfl,rfl⟩
  ·rcases dG hb with⟨j,u,rfl,e⟩|⟨y,u,rfl,e⟩
   ·injection e with e1 _;rw[e1]
   ·exact nomatch e
  ·rcases dG hb with⟨j,u,rfl,e⟩|⟨y,u,rfl,e⟩
   ·exact nomatch e
   ·injection e with e1 _;rw[e1]
 byValue:=λk v h=>by
  rcases dG h with⟨i,t,rfl,rfl⟩|⟨x,t,rfl,rfl⟩ <;> rfl
 pyHash:=λhv h=>by
  rcases dG hv with⟨i,t,rfl,rfl⟩|⟨x,t,rfl,rfl⟩
  ·exact wpAny_pyHash_int h
  ·exact wpAny_pyHash_str h
 eqBool:=λhu hv h=>by
  rcases dG hu with⟨i,t,rfl,rfl⟩|⟨x,t,rfl,rfl⟩
  ·rcases dG hv with⟨j,u,rfl,rfl⟩|⟨y,u,rfl,rfl⟩
   ·rw[QE] at h;exact wpAny_eqBool_int h
   ·rw[QD] at h;exact SeqAt.EqAt.int_str i t y u _ _ _ _ h
  ·rcases dG hv with⟨j,u,rfl,rfl⟩|⟨y,u,rfl,rfl⟩
   ·rw[QC] at h;exact SeqAt.EqAt.str_int x t j u _ _ _ _ h
   ·rw[QB] at h;exact wpAny_eqBool_str h
 «strs»:=λk x t v h=>by
  rcases dG h with⟨i,u,rfl,e⟩|⟨y,u,rfl,e⟩
  ·exact nomatch e
  ·injection e with e1 _;subst e1;cases v <;> rfl
theorem BY(prog:Program)(w:World)(i:Int)(t:Tok):(dW prog w).is (.inl i) (.int i t)=true:=Iy i t
theorem BX(prog:Program)(w:World)(x:Str)(t:Tok):(dW prog w).is (.inr x) (.str x t)=true:=Iw x t
inductive V where
 |non|bl (b:Bool)|int (i:Int)|str (x:Str)|byt (b:Array UInt8)|flt (b:UInt64)|ref (a:Addr)|ty (n:String)
 deriving DecidableEq
def RelV:V->Value->Prop
 |.non,u=>u=Value.none
 |.bl b,u=>u=Value.bool b
 |.int i,u=>∃t,u=Value.int i t
 |.str x,u=>∃t,u=Value.str x t
 |.byt b,u=>∃t,u=Value.bytes b t
 |.flt b,u=>∃t,u=Value.float b t
 |.ref a,u=>u=Value.ref a
 |.ty n,u=>u=Value.type n
abbrev Vals:([38])->([21])->Prop:=Paired RelV
theorem Vals.length{xs:[38]}{us:[21]}(r:Vals xs us):xs.length=us.length:=Paired.length r
theorem Vals.get:∀{xs:[38]}{us:[21]}{i:Nat}{x:V},Vals xs us->xs[i]?=(1,x)->∃u,us[i]?=(1,u)/\RelV x u
 |_,_,_,_,.nil,e=>by simp at e
 |_,_,0,_,.cons r _,e=>by simp at e;subst e;exact(19,_,r)
 |_,_,i+1,x,.cons _ t,e=>by
  obtain⟨u,h1,h2⟩:=Vals.get (i:=i) (x:=x) t (by simpa using e)
  exact(11,u,by simpa using h1,h2)
theorem Vals.set{x:V}{u:Value}(r:RelV x u):∀{xs:[38]}{us:[21]}(i:Nat),Vals xs us->Vals (xs.set i x) (us.set i u)
 |_,_,_,.nil=>.nil
 |_,_,0,.cons _ t=>(22,r,t)
 |_,_,i+1,.cons q t=>(22,q,Vals.set r i t)
theorem Vals.append:∀{xs ys:[38]}{us ws:[21]},Vals xs us->Vals ys ws->Vals (xs++ys) (us++ws)
 |_,_,_,_,.nil,s=>s
 |_,_,_,_,.cons r t,s=>(22,r,Vals.append t s)
theorem Vals.take:∀{xs:[38]}{us:[21]}(n:Nat),Vals xs us->Vals (xs.take n) (us.take n)
 |_,_,0,_=>.nil
 |_,_,_+1,.nil=>.nil
 |_,_,n+1,.cons r t=>(22,r,Vals.take n t)
theorem Vals.drop:∀{xs:[38]}{us:[21]}(n:Nat),Vals xs us->Vals (xs.drop n) (us.drop n)
 |_,_,0,r=>r
 |_,_,_+1,.nil=>.nil
 |_,_,n+1,.cons _ t=>Vals.drop n t
theorem Vals.none_of:∀{xs:[38]}{us:[21]}{i:Nat},Vals xs us->xs[i]?=none->us[i]?=none:=λ{xs us i} r e=>by
 have h1:=r.length;have h2:xs.length<=i:=List.getElem?_eq_none_iff.mp e;exact List.getElem?_eq_none_iff.mpr [11]
def RelO:(8,V)->([30])->Prop
 |some v,some u=>RelV v u
 |none,none=>True
 |_,_=>False
def KV{κ:Type}:List (κ×V)->List (κ×Value)->Prop:=Paired λ(p:κ×V)(q:κ×Value)=>p.1=q.1/\RelV p.2 q.2
def kV:Key->V
 |.inl i=>(16,i)
 |.inr x=>.str x
inductive HO where
 |lst (xs:[38])
 |tup (xs:[38])
 |dK (kvs:List (Key×V))|dT (kvs:[65])
 |set (S:Int->Bool) (n:Nat)
 |ins (C dx:Addr) (fs:List (Str×V))
 |own (x:Addr)
 |xd (fs:List (Str×V))
 |met (f x:Addr)
 |rng (lo hi:Int)
 |frz (o:Obj) (u:HO)
 |tbl (ps:[33])
 |tab (good:Pos->(8,Str))
 |fnc (c:Addr) (q:Str)
 |ext (φ:Heap->Prop)
abbrev Hp:=Addr->(8,HO)
def cF(H:Hp)(a:Addr)(o:HO):Hp:=λb=>if b=a then[46] else H b
theorem aG{H:Hp}{a:Addr}{o:HO}:cF H a o a=[46]:=by unfold cF;rw[(25,rfl)]
theorem az{H:Hp}{a b:Addr}{o:HO}(h:b≠a):cF H a o b=H b:=by unfold cF;rw[(29,h)]
theorem Su{H:Hp}{a b:Addr}{o u:HO}(h:H a=[46])(h':H b=(1,u))(d:o≠u):a≠b:=by
 intro e;subst e;rw[h] at h';exact d (50,h')
theorem aR{H:Hp}{a b:Addr}{o:HO}(h:H a=[46])(h':H b=none):a≠b:=by
 intro e;subst e;rw[h] at h';cases h'
section
variable(P:Program)(w:World)
def cV(H:Hp)(h:Heap)(a:Addr):HO->Prop
 |.lst xs=>xs.length<=sizeLine/\∃(its:[21])(n:Nat),Vals xs its/\h.get? a=some {cls:=.type "list",data:=.seq its.toArray n}
 |.tup xs=>xs.length<=sizeLine/\∃its:List Value,Vals xs its/\IsTup h a its.toArray
 |.dK kvs=>kvs.length<=sizeLine/\(a == sysModules)=false/\∃vs,KV kvs vs/\h.DictOf (dW P w) a vs
 |.dT kvs=>kvs.length<=sizeLine/\(a == sysModules)=false/\∃xs:List (List Key×Addr×Value),
   Paired (λ(p:List Key×V)(q:List Key×Addr×Value)=>p.1=q.1/\H q.2.1=(1,(22,p.1.map kV))/\RelV p.2 q.2.2) kvs xs/\
   ∃o es ep,h.get? a=[46]/\o.ExactDict/\o.data=.dict es ep/\es.toList=xs.map (entryOfKey (tupleKind (dW P w)))/\(xs.map (·.1)).Nodup
 |.set S n=>h.SetOf (intKind P w) a S n
 |.ins C dx fs=>H dx=(12,a)/\fs.length<=1000/\dx≠a/\h.get? a=(1,instObj C dx)/\
   ∃mA,h.Ns1 dx mA/\(∀f,RelO (fs.lookup f) (mA f))/\PySem.Within mA (fs.map (·.1))
 |.own _=>∃o,h.get? a=[46]
 |.xd fs=>∃mA,h.Ns1 a mA/\∀f,RelO (fs.lookup f) (mA f)
 |.rng lo hi=>∃t u v,h.get? a=some {cls:=.type "range",data:=.fields #[.int lo t,.int hi u,.int 1 v]}
 |.frz o u=>h.get? a=[46]/\cV H h a u
 |.tbl ps=>h.get? a=some {cls:=.none,data:=.fields ps}
 |.tab good=>∃ps:Array Value,h.get? a=some {cls:=.none,data:=.fields ps}/\TriplesOk ps.toList/\∀p cv,(good p).isSome=true->codeAmong p ps.toList=(1,cv)->∃(c:Addr)(oc:Obj)(q:Str)(vs:[33])(t:Tok),cv=(9,c)/\H c=(1,(36,oc,c))/\good p=(1,q)/\oc.data=.fields vs/\vs[1]?=(1,.str q t)
 |.fnc c q=>(∃o,h.get? a=[46])/\∃(oc:Obj)(vs:[33])(t:Tok),H c=(1,(36,oc,c))/\oc.data=.fields vs/\vs[1]?=(1,.str q t)
 |.met f x=>h.get? a=(1,methodObj (9,f) (9,x))
 |.ext φ=>φ h/\(∃o,h.get? a=[46])/\∀h1 h2:Heap,φ h1->(∀o,h1.get? a=([46])->h2.get? a=[46])->φ h2
def mK(H:Hp)(h:Heap):Prop:=∀a o,H a=([46])->cV P w H h a o
end
section
variable{P:Program}{w:World}{H H':Hp}{h h':Heap}{a:Addr}{o:HO}
theorem cV.lt(x:cV P w H h a o):a<h.objs.size:=by
 cases o with
 |lst xs=>obtain⟨_,_,_,_,e⟩:=x;exact(48,e)
 |tup xs=>obtain⟨_,_,_,p⟩:=x;exact p.lt
 |dK kvs=>obtain⟨_,_,_,_,o,_,_,e,_⟩:=x;exact(48,e)
 |dT kvs=>obtain⟨_,_,_,_,o,_,_,e,_⟩:=x;exact(48,e)
 |set S n=>obtain⟨o,_,_,_,e,_⟩:=x;exact(48,e)
 |ins C dx fs=>obtain⟨_,_,_,e,_⟩:=x;exact(48,e)
 |own y=>obtain⟨_,e⟩:=x;exact(48,e)
 |xd fs=>obtain⟨_,⟨_,_,_,e,_⟩,_⟩:=x;exact(48,e)
 |rng lo hi=>obtain⟨_,_,_,e⟩:=x;exact(48,e)
 |frz ob u=>obtain⟨e,_⟩:=x;exact(48,e)
 |tbl ps=>exact(48,(show h.get? a=(1,_) from x))
 |tab good=>obtain⟨_,e,_⟩:=x;exact(48,e)
 |fnc c q=>obtain⟨⟨_,e⟩,_⟩:=x;exact(48,e)
 |met f y=>exact(48,(show h.get? a=(1,_) from x))
 |ext φ=>obtain⟨_,⟨_,e⟩,_⟩:=x;exact(48,e)
theorem Paired.mapP{α β:Type}{F G:α->β->Prop}:∀{l₁:List α}{l₂:List β},Paired F l₁ l₂->(∀a b,F a b->G a b)->Paired G l₁ l₂
 |_,_,.nil,_=>.nil
 |_,_,.cons r t,f=>(22,f _ _ r,Paired.mapP t f)
theorem cV.stay(x:cV P w H h a o)(k:∀b u,(b=a\/H b=(12,a))->h.get? b=(1,u)->(63,b)=(1,u))
  (ho:∀b,H b=(12,a)->H' b=(12,a)) (ht:∀b xs,H b=(1,(22,xs))->H' b=(1,(22,xs))) (hf:∀b ob y,H b=(1,(36,ob,y))->H' b=(1,(36,ob,y))):cV P w H' h' a o:=by
 induction o with
 |lst xs=>obtain⟨z,its,n,r,e⟩:=x;exact(4,z,its,n,r,k _ _ [42] e)
 |tup xs=>obtain⟨z,its,r,ob,e,c⟩:=x;exact⟨z,its,r,ob,k _ _ [42] e,c⟩
 |dK kvs=>obtain⟨z,y,vs,r,ob,es,ep,e,c⟩:=x;exact⟨z,y,vs,r,ob,es,ep,k _ _ [42] e,c⟩
 |dT kvs=>
  obtain⟨z,y,xs,r,ob,es,ep,e,c⟩:=x;exact⟨z,y,xs,Paired.mapP r λp q z=>(11,z.1,ht _ _ z.2.1,z.2.2),ob,es,ep,k _ _ [42] e,c⟩
 |set S n=>obtain⟨ob,es,ep,t,e,c⟩:=x;exact⟨ob,es,ep,t,k _ _ [42] e,c⟩
 |ins C dx fs=>
  obtain⟨d,z,ne,e,mA,⟨od,es,ep,e2,c⟩,r⟩:=x;exact⟨ho _ d,z,ne,k _ _ [42] e,mA,(4,od,es,ep,k _ _ (.inr d) e2,c),r⟩
 |own y=>obtain⟨ob,e⟩:=x;exact(3,ob,k _ _ [42] e)
 |xd fs=>obtain⟨mA,⟨od,es,ep,e,c⟩,r⟩:=x;exact(11,mA,(4,od,es,ep,k _ _ [42] e,c),r)
 |rng lo hi=>obtain⟨t,u,v,e⟩:=x;exact(10,t,u,v,k _ _ [42] e)
 |frz ob u ih=>obtain⟨e,q⟩:=x;exact(3,k _ _ [42] e,ih q)
 |tbl ps=>
  have e:h.get? a=some {cls:=.none,data:=.fields ps}:=x;show(63,a)=some {cls:=.none,data:=.fields ps};exact k a _ [42] e
 |tab good=>
  obtain⟨ps,e,tr,q⟩:=x;refine(10,ps,k a _ [42] e,tr,λp cv hg hc=>?_);obtain⟨c,oc,qq,vs,t,e1,e2,e3⟩:=q p cv hg hc;exact⟨c,oc,qq,vs,t,e1,hf _ _ _ e2,e3⟩
 |fnc c q=>
  obtain⟨⟨ob,e⟩,oc,vs,t,e1,e2⟩:=x;exact⟨(3,ob,k _ _ [42] e),oc,vs,t,hf _ _ _ e1,e2⟩
 |met f y=>
  have e:h.get? a=(1,methodObj (9,f) (9,y)):=x;show(63,a)=(1,methodObj (9,f) (9,y));exact k a _ [42] e
 |ext φ=>obtain⟨p,⟨o,e⟩,st⟩:=x;exact(11,st _ _ p λo q=>k _ _ [42] q,(3,o,k _ _ [42] e),st)
theorem mK.lt(x:mK P w H h)(e:H a=[46]):a<h.objs.size:=(x a o e).lt
theorem mK.fresh(x:mK P w H h)(e:h.objs.size<=a):H a=none:=by
 cases q:H a with
 |none=>rfl
 |some u=>exact(32,(9,x.lt q,e),lt_irrefl _)
theorem mK.kept(x:mK P w H h)(k:∀b u,h.get? b=(1,u)->(63,b)=(1,u)):mK P w H h':=λa o e=>
 (x a o e).stay (λb u _ q=>k b u q) (λ_ q=>q) (λ_ _ q=>q) λ_ _ _ q=>q
theorem mK.laid(x:mK P w H h)(k:∀b u,h.get? b=(1,u)->(63,b)=(1,u))(hp:h.objs.size<=a)(new:cV P w (cF H a o) h' a o):mK P w (cF H a o) h':=λb u e=>by
 have hn:=x.fresh hp;by_cases hb:b=a
 ·subst hb;rw[aG] at e;cases e;exact new
 ·rw[az hb] at e;exact(x b u e).stay (λc v _ q=>k c v q) (λc q=>by rw[az (aR q hn)];exact q) (λc xs q=>by rw[az (aR q hn)];exact q) λc ob u q=>by rw[az (aR q hn)];exact q
end
def Rd(H:Hp)(a:Addr)(u:HO):Prop:=H a=(1,u)\/∃o,H a=(1,.frz o u)
theorem Rd.of{H:Hp}{a:Addr}{u:HO}(h:H a=(1,u)):Rd H a u:=.inl h
theorem Rd.ok{P:Program}{w:World}{H:Hp}{h:Heap}{a:Addr}{u:HO}(r:Rd H a u)(x:mK P w H h):cV P w H h a u:=by
 rcases r with r|⟨o,r⟩
 ·exact x a u r
 ·obtain⟨_,q⟩:=x a _ r;exact q
def T8:(8,HO)->Prop
 |some (.lst _)=>True
 |some (.dK _)=>True
 |some (.dT _)=>True
 |some (.set _ _)=>True
 |some (.ins _ _ _)=>True
 |some (.ext _)=>True
 |_=>False
section
variable{P:Program}{w:World}{H:Hp}{h h':Heap}{x e:Addr}{o':HO}
theorem mK.write(ok:mK P w H h)(mu:T8 (H x))(he:e=x\/H e=(12,x))(k:∀b u,b≠e->h.get? b=(1,u)->(63,b)=(1,u))(heo:∃u,(63,e)=(1,u))
  (new:cV P w (cF H x o') h' x o'):mK P w (cF H x o') h':=λb u q=>by
 have nown:∀c y,H c=(12,y)->c≠x:=λc y r z=>by subst z;rw[r] at mu;exact mu
 have ntup:∀c xs,H c=(1,(22,xs))->c≠x:=λc xs r z=>by subst z;rw[r] at mu;exact mu
 have nfrz:∀c ob u,H c=(1,.frz ob u)->c≠x:=λc ob u r z=>by subst z;rw[r] at mu;exact mu
 by_cases hb:b=x
 ·subst hb;rw[aG] at q;cases q;exact new
 ·rw[az hb] at q;by_cases hbe:b=e
  ·have q':H b=(12,x):=by
    rcases he with z|z
    ·exact(32,hbe.trans z,hb)
    ·rw[hbe];exact z
   rw[q] at q';cases q';obtain⟨v,hv⟩:=heo;exact(3,v,by rw[hbe];exact hv)
  ·refine(ok b u q).stay (λc v hc r=>k c v ?_ r) (λc r=>by rw[az (nown c b r)];exact r) (λc xs r=>by rw[az (ntup c xs r)];exact r) λc ob v r=>by rw[az (nfrz c ob _ r)];exact r
   rcases hc with rfl|hc
   ·exact hbe
   ·rintro rfl
    rcases he with z|z
    ·exact nown c b hc z
    ·rw[hc] at z;cases z;exact hb rfl
end
structure Un(fs ex:List Addr)(H H':Hp)(h h':Heap):Prop where
 keep:∀b o,h.get? b=([46])->H b=none->b∉fs->b∉ex->(63,b)=[46]
 slot:∀b o,h.get? b=([46])->H b=none->b∈fs->b∉ex->∃sl,(63,b)=some {o with slots:=sl}
 free:∀b o,h.get? b=([46])->H b=none->b∉ex->H' b=none
 there:∀b o,h.get? b=([46])->b∉ex->∃o',(63,b)=(1,o')
 tups:∀b xs,H b=(1,(22,xs))->H' b=(1,(22,xs))
 frzs:∀b o u,H b=(1,.frz o u)->H' b=(1,.frz o u)
 tbls:∀b ps,H b=(1,.tbl ps)->∃more,H' b=(1,.tbl (ps++more))
section
variable{fs fs' ex ex':List Addr}{H H1 H2:Hp}{h h1 h2 h':Heap}{a x e:Addr}{o:HO}
theorem Un.any(u:Un fs ex H H1 h h1){b:Addr}{ob:Obj}(q:h.get? b=(1,ob))(n:H b=none)(hx:b∉ex):∃sl,h1.get? b=some {ob with slots:=sl}:=by
 by_cases hb:b∈fs
 ·exact u.slot b ob q n hb hx
 ·exact(3,ob.slots,u.keep b ob q n hb hx)
theorem Un.trans(a:Un fs ex H H1 h h1)(b:Un fs ex H1 H2 h1 h2):Un fs ex H H2 h h2 where
 keep:=λc ob q n hc hx=>b.keep c ob (a.keep c ob q n hc hx) (a.free c ob q n hx) hc hx
 slot:=λc ob q n hc hx=>by
  obtain⟨sl,e1⟩:=a.slot c ob q n hc hx;obtain⟨sl',e2⟩:=b.slot c _ e1 (a.free c ob q n hx) hc hx;exact(3,sl',e2)
 free:=λc ob q n hx=>by
  obtain⟨o',e1⟩:=a.there c ob q hx;exact b.free c o' e1 (a.free c ob q n hx) hx
 there:=λc ob q hx=>by
  obtain⟨o',e1⟩:=a.there c ob q hx;exact b.there c o' e1 hx
 tups:=λc xs q=>b.tups c xs (a.tups c xs q)
 frzs:=λc ob xs q=>b.frzs c ob xs (a.frzs c ob xs q)
 tbls:=λc ps q=>by
  obtain⟨m1,e1⟩:=a.tbls c ps q;obtain⟨m2,e2⟩:=b.tbls c _ e1;exact(3,m1++m2,by rw[e2,Array.append_assoc])
theorem Un.kept(k:∀b u,h.get? b=(1,u)->(63,b)=(1,u)):Un fs ex H H h h':=
 ⟨λb ob q _ _ _=>k b ob q,λb ob q _ _ _=>(3,ob.slots,k b ob q),λ_ _ _ n _=>n,λb ob q _=>(3,ob,k b ob q),λ_ _ q=>q,λ_ _ _ q=>q,λ_ ps q=>(3,#[],by rw[q];simp)⟩
theorem Un.refl:Un fs ex H H h h:=Un.kept λ_ _ q=>q
theorem Un.laid(k:∀b u,h.get? b=(1,u)->(63,b)=(1,u))(hp:h.objs.size<=a)(hn:H a=none):Un fs ex H (cF H a o) h h' where
 keep:=λb u q _ _ _=>k b u q
 slot:=λb u q _ _ _=>(3,u.slots,k b u q)
 free:=λb u q n _=>by rw[az (56,(9,(48,q),hp))];exact n
 there:=λb u q _=>(3,u,k b u q)
 tups:=λb xs q=>by rw[az (aR q hn)];exact q
 frzs:=λb u xs q=>by rw[az (aR q hn)];exact q
 tbls:=λb ps q=>(3,#[],by rw[az (aR q hn),q];simp)
theorem Un.write(mu:T8 (H x))(he:e=x\/H e=(12,x))(k:∀b u,b≠e->h.get? b=(1,u)->(63,b)=(1,u))(heo:∃u,(63,e)=(1,u)):Un fs ex H (cF H x o) h h':=by
 have hx:∀b,H b=none->b≠x:=λb n z=>by subst z;rw[n] at mu;exact mu
 have hb:∀b,H b=none->b≠e:=λb n z=>by
  subst z;rcases he with r|r
  ·exact hx b n r
  ·rw[n] at r;cases r
 have hm:∀b u,H b=(1,u)->¬T8 (1,u)->b≠x:=λb u q nm z=>by subst z;rw[q] at mu;exact nm mu
 refine⟨λb u q n _ _=>k b u (hb b n) q,λb u q n _ _=>(3,u.slots,k b u (hb b n) q),λb u q n _=>by rw[az (hx b n)];exact n,λb u q _=>?_,
  λb xs q=>by rw[az (hm b _ q λz=>z)];exact q,λb u xs q=>by rw[az (hm b _ q λz=>z)];exact q,λb ps q=>(3,#[],by rw[az (hm b _ q λz=>z),q];simp)⟩
 by_cases hbe:b=e
 ·subst hbe;exact heo
 ·exact(3,u,k b u hbe q)
theorem Un.mono(u:Un fs ex H H1 h h1)(hs:∀b∈fs,b∈fs')(hx:∀b∈ex,b∈ex'):Un fs' ex' H H1 h h1:=
 ⟨λb ob q n hb he=>u.keep b ob q n (λz=>hb (hs b z)) λz=>he (hx b z),λ_ _ q n _ he=>u.any q n λz=>he (hx _ z),λb ob q n he=>u.free b ob q n λz=>he (hx b z),λb ob q he=>u.there b ob q λz=>he (hx b z),u.tups,u.frzs,u.tbls⟩
end
def Tj(h:Heap)(H:Hp):[40]:=(19,h.objs.size).filter λa=>(H a).isSome
def nz(h:Heap)(H:Hp):Heap:=PySem.W.hideAll h (Tj h H)
theorem yl(h:Heap)(H:Hp):(nz h H).objs.size=h.objs.size:=PySem.W.hideAll_size _ _
theorem Cr{h:Heap}{H:Hp}{b:Addr}{o:Obj}(e:h.get? b=[46])(n:H b=none):(nz h H).get? b=[46]:=
 PySem.W.hideAll_get _ e λhm=>by
  have q:(H b).isSome=true:=(mem_filter.mp hm).2;rw[n] at q;simp at q
theorem FZ{h:Heap}{H:Hp}{b:Addr}{o:Obj}(e:(nz h H).get? b=[46]):h.get? b=[46]/\H b=none:=by
 have e':h.get? b=[46]:=PySem.W.of_hideAll (Tj h H) e;refine(3,e',?_);cases q:H b with
 |none=>rfl
 |some x=>
  have hm:b∈Tj h H:=mem_filter.mpr (3,mem_range.mpr (48,e'),by simp[q])
  have z:(nz h H).get? b=none:=PySem.W.hideAll_none (Tj h H) hm;rw[z] at e;cases e
def OH(g h:Heap)(L:Addr):[18]:=(19,h.objs.size).filterMap λa=>if a=L\/(g.get? a).isSome=true then none else(h.get? a).map λo=>(a,o)
def rest(g h:Heap)(L d:Addr):[18]:=(OH g h L).filter λp=>decide (p.1≠d)
structure Mod(K:Frag)(mg:Str->Option Value)(base:Heap):Prop where
 kin:K.In base
 glob:base.Ns mainGlobals mg
 blt:∃mb,base.Ns builtinsNs mb/\∀x:Str,x ≠ "__name__" -> mb x=(60,x)
 nolimit:base.NoLimit
structure Cx where
 prog:Program
 w:World
 K:Frag
 mg:Str->[30]
 base:Heap
 A:Around
 N:[16]
 s₀:Shared
 H₀:Hp
 env:Env
 outer:List Env
 stack:List Env
 ex:[40]
 fn:Str->Bool
 calm:Bool
 pn:[18]
 xe:Value->Shared->Prop
def frs(l:List Env):[40]:=l.filterMap (·.frame)
abbrev Cx.fs(X:Cx):[40]:=frs X.outer
def T3(sc:Scope)(x:Str):Prop:=sc.names.lookup x=[56]\/sc.names.lookup x=[67]\/sc.names.lookup x=(1,.free)
def Fk(sc:Scope)(x:Str):Prop:=sc.names.lookup x=[56]\/sc.names.lookup x=[67]
def Rm(env:Env)(h:Heap)(m:Str->[30])(x:Str)(u:Value):Prop:=
 (env.kindOf x=[56]/\m x=(1,u))\/((env.kindOf x=[67]\/env.kindOf x=(1,.free))/\∃c,(73,x)=(1,c)/\h.IsCell c (1,u))
structure Cx.Ok(X:Cx):Prop where
 mod:Mod X.K X.mg X.base
 kind:X.env.scope.kind=.function
 glob:X.env.globals=mainGlobals
 blt:X.env.builtins=builtinsNs
 above:X.s₀.heap.objs.size<=X.env.locals
 inj:∀x y c,(53,x)=(1,c)->(53,y)=(1,c)->x=y
 has:∀x,(X.env.kindOf x=[67]\/X.env.kindOf x=(1,.free))->∃c,(53,x)=(1,c)
 cab:∀x c,X.fn x=true->(53,x)=(1,c)->X.s₀.heap.objs.size<=c
 hd:X.calm=true->X.A.handled=none
 frames:X.A.frames=(1,X.stack)
 stk:X.stack=X.outer\/(X.stack=X.env::X.outer/\X.env.frame=(1,X.env.locals))
 exf:∀b∈X.ex,b≠X.env.locals/\∀x c,(53,x)=(1,c)->c≠b
 bs:∀b o,X.base.get? b=([46])->X.s₀.heap.get? b=[46]/\X.H₀ b=none
 bsz:X.base.objs.size<=X.s₀.heap.objs.size
 noex:∀b o,X.base.get? b=([46])->b∉X.ex
 exfs:∀b∈X.ex,b∉X.fs
 funs:X.s₀.heap.FunFrames X.base X.outer
 frf:∀b∈X.fs,X.H₀ b=none
structure aN(X:Cx)(pins:List (Addr×Obj))(σ:List (Option V))(H:Hp)(s:Shared):Prop where
 ok:X.Ok
 os:s.os=X.s₀.os
 bare:AllBare s.gens
 base:Un X.fs X.ex X.H₀ H X.s₀.heap s.heap
 loc:∃m,s.heap.Ns X.env.locals m/\∀(i:Nat)(x:Str)(v:V),X.N[i]?=(1,x)->σ[i]?=(31,v)->T3 [53] x->∃u,RelV v u/\Rm X.env s.heap m x u
 cell:∀x c,(53,x)=(1,c)->∃v,s.heap.IsCell c v
 free:H X.env.locals=none
 freeC:∀x c,(53,x)=(1,c)->H c=none
 pin:∀p∈X.pn++pins,(28,p.1)=(1,p.2)/\H p.1=none/\p.1≠X.env.locals/\p.1∉X.fs/\∀v,p.2.data≠.cell v
 hok:mK X.prog X.w H s.heap
 len:σ.length=X.N.length
section
variable{X:Cx}{pins:List (Addr×Obj)}{σ:List (Option V)}{H H':Hp}{s:Shared}{h':Heap}
theorem Cx.Ok.nofr(ok:X.Ok){b:Addr}{o:Obj}(e:X.base.get? b=[46]):b∉X.fs:=λhb=>by
 have:=(ok.funs.mem hb).1;rw[e] at this;cases this
theorem aN.bs(I:[48]):∀b o,X.base.get? b=([46])->(28,b)=[46]/\H b=none:=λb o e=>
 (3,I.base.keep b o (I.ok.bs b o e).1 (I.ok.bs b o e).2 (I.ok.nofr e) (I.ok.noex b o e),I.base.free b o (I.ok.bs b o e).1 (I.ok.bs b o e).2 (I.ok.noex b o e))
theorem aN.bk(I:[48]):∀b o,X.base.get? b=([46])->(28,b)=[46]:=λb o e=>(I.bs b o e).1
theorem aN.mod(I:[48]):Mod X.K X.mg X.base:=I.ok.mod
theorem aN.kIn(I:[48]):X.K.In s.heap:=I.ok.mod.kin.keeps I.bk
theorem aN.nolimit(I:[48]):s.heap.NoLimit:=I.ok.mod.nolimit.keeps I.bk
theorem aN.fr(I:[48]):∃m,Fr X.base X.env.locals s.heap m:=
 let ⟨m,hn,_⟩:=I.loc
 (10,m,hn,I.bk,le_trans I.ok.bsz I.ok.above)
theorem aN.lt(I:[48]):X.env.locals<s.heap.objs.size:=let ⟨_,hn,_⟩:=I.loc;hn.lt
theorem aN.sz(I:[48]):X.s₀.heap.objs.size<=s.heap.objs.size:=le_trans I.ok.above (le_of_lt I.lt)
theorem aN.nofs(I:[48]){a:Addr}(h:s.heap.objs.size<=a):a∉X.fs:=λhb=>by
 obtain⟨_,o,ho,_⟩:=I.ok.funs.mem hb;exact(32,(9,(48,ho),le_trans I.sz h),lt_irrefl _)
theorem aN.cne(I:[48]):∀x c,(53,x)=(1,c)->c≠X.env.locals:=λx c e z=>by
 obtain⟨v,o,ho,hd⟩:=I.cell x c e;obtain⟨m,⟨o',es,ep,ho',hd',_⟩,_⟩:=I.loc;rw[z,ho'] at ho;cases ho;rw[hd'] at hd;cases hd
theorem aN.funs(I:[48]):s.heap.FunFrames X.base X.outer:=by
 have all:∀(l:List Env),(∀b∈frs l,b∈X.fs)->X.s₀.heap.FunFrames X.base l->s.heap.FunFrames X.base l:=by
  intro l
  induction l with
  |nil=>intro _ _;trivial
  |cons env r ih=>
   intro hs hl;obtain⟨hk,⟨L,o,hf,hn,ho,hd⟩,hr⟩:=hl;have hL:L∈X.fs:=hs L (by unfold frs;rw[filterMap_cons,hf];exact mem_cons_self)
   obtain⟨sl,e⟩:=I.base.slot L o ho (I.ok.frf L hL) hL λz=>I.ok.exfs L z hL;exact(11,hk,⟨L,_,hf,hn,e,hd⟩,ih (λb hb=>hs b (by unfold frs;rw[filterMap_cons,hf];exact(30,hb))) hr)
 exact all X.outer (λ_ hb=>hb) I.ok.funs
theorem aN.stack(I:[48]):s.heap.FunFrames X.base X.stack:=by
 rcases I.ok.stk with e|⟨e,hf⟩
 ·rw[e];exact I.funs
 ·rw[e];obtain⟨m,hn,_⟩:=I.loc;refine .cons (by rw[I.ok.kind];decide) hf hn ?_ I.funs
  exact Heap.get?_none_of_le (le_trans I.ok.bsz I.ok.above)
theorem aN.stkSub(I:[48]):∀b∈frs X.stack,b∈X.env.locals::X.fs:=λb hb=>by
 rcases I.ok.stk with e|⟨e,hf⟩
 ·rw[e] at hb;exact(30,hb)
 ·rw[e] at hb;unfold frs at hb;rw[filterMap_cons,hf] at hb;exact hb
theorem aN.stkFree(I:[48]):∀b∈frs X.stack,H b=none:=λb hb=>by
 rcases mem_cons.mp (I.stkSub b hb) with e|hb
 ·rw[e];exact I.free
 ·obtain⟨_,o,ho,_⟩:=I.ok.funs.mem hb;exact I.base.free b o ho (I.ok.frf b hb) λz=>I.ok.exfs b z hb
theorem aN.step{g':Array GenState}{t':Nat}{d':Drawn}{ch:[40]}(I:[48])
  (hch:∀b∈ch,(b∈X.ex\/X.s₀.heap.objs.size<=b)/\b≠X.env.locals/\(∀x c,(53,x)=(1,c)->c≠b)/\∀p∈X.pn++pins,p.1≠b)
  (keep:∀b o,b≠X.env.locals->b∉X.fs->b∉ch->(28,b)=([46])->H b=none->(63,b)=[46])
  (slot:∀b o,b≠X.env.locals->b∈X.fs->b∉ch->(28,b)=([46])->H b=none->∃sl,(63,b)=some {o with slots:=sl}) (free:∀b o,b∉ch->(28,b)=([46])->H b=none->H' b=none)
  (there:∀b o,b∉ch->(28,b)=([46])->∃o',(63,b)=(1,o'))
  (tups:∀b xs,H b=(1,(22,xs))->H' b=(1,(22,xs))) (frzs:∀b o u,H b=(1,.frz o u)->H' b=(1,.frz o u)) (tbls:∀b ps,H b=(1,.tbl ps)->∃more,H' b=(1,.tbl (ps++more)))
  (ns:∀m,s.heap.Ns X.env.locals m->h'.Ns X.env.locals m) (hok:mK X.prog X.w H' h') (hg:AllBare g'):
  aN X pins σ H' {s with heap:=h',gens:=g',drawn:=d',toks:=t'}:=by
 have neL:∀b o,X.s₀.heap.get? b=([46])->b≠X.env.locals:=λb o e=>(56,(9,(48,e),I.ok.above));have neC:∀b o,X.s₀.heap.get? b=([46])->b∉X.ex->b∉ch:=λb o e hx hb=>by
  rcases(hch b hb).1 with z|z
  ·exact hx z
  ·exact(32,(9,(48,e),z),lt_irrefl _)
 have cellK:∀x c,(53,x)=(1,c)->∀v,s.heap.IsCell c v->h'.IsCell c v:=λx c e v ⟨o,ho,hd⟩=>by
  have nch:c∉ch:=λz=>(hch c z).2.2.1 x c e rfl;by_cases hc:c∈X.fs
  ·obtain⟨sl,q⟩:=slot c o (I.cne x c e) hc nch ho (I.freeC x c e);exact(11,_,q,hd)
  ·exact(11,o,keep c o (I.cne x c e) hc nch ho (I.freeC x c e),hd)
 refine⟨I.ok,I.os,hg,⟨λb o e n hb hx=>?_,λb o e n hb hx=>?_,λb o e n hx=>?_,λb o e hx=>?_,λb xs e=>tups b xs (I.base.tups b xs e),λb o xs e=>frzs b o xs (I.base.frzs b o xs e),λb ps e=>?_⟩,?_,λx c e=>?_,?_,λx c e=>?_,λp hp=>?_,hok,I.len⟩
 ·exact keep b o (neL b o e) hb (neC b o e hx) (I.base.keep b o e n hb hx) (I.base.free b o e n hx)
 ·obtain⟨sl,e1⟩:=I.base.slot b o e n hb hx;obtain⟨sl',e2⟩:=slot b _ (neL b o e) hb (neC b o e hx) e1 (I.base.free b o e n hx);exact(3,sl',e2)
 ·obtain⟨o',e1⟩:=I.base.there b o e hx;exact free b o' (neC b o e hx) e1 (I.base.free b o e n hx)
 ·obtain⟨o',e1⟩:=I.base.there b o e hx;exact there b o' (neC b o e hx) e1
 ·obtain⟨m1,e1⟩:=I.base.tbls b ps e;obtain⟨m2,e2⟩:=tbls b _ e1;exact(3,m1++m2,by rw[e2,Array.append_assoc])
 ·obtain⟨m,hn,hl⟩:=I.loc;refine(11,m,ns m hn,λi x v e1 e2 e3=>?_);obtain⟨u,r,l⟩:=hl i x v e1 e2 e3;refine(11,u,r,?_);rcases l with l|⟨k,c,e,z⟩
  ·exact .inl l
  ·exact .inr (10,k,c,e,cellK x c e _ z)
 ·obtain⟨v,z⟩:=I.cell x c e;exact(3,v,cellK x c e v z)
 ·obtain⟨m,⟨o,_,_,ho,_⟩,_⟩:=I.loc;exact free _ o (λz=>(hch _ z).2.1 rfl) ho I.free
 ·obtain⟨v,o,ho,hd⟩:=I.cell x c e;exact free c o (λz=>(hch c z).2.2.1 x c e rfl) ho (I.freeC x c e)
 ·obtain⟨e,n,ne,nf,d⟩:=I.pin p hp;have nch:p.1∉ch:=λz=>(hch p.1 z).2.2.2 p hp rfl;exact(4,keep p.1 p.2 ne nf nch e n,free p.1 p.2 nch e n,ne,nf,d)
theorem aN.un{t':Nat}(I:[48])(u:Un X.fs [] H H' s.heap h')(hok:mK X.prog X.w H' h'):aN X pins σ H' {s with heap:=h',toks:=t'}:=by
 obtain⟨m,⟨o,es,ep,ho,r⟩,_⟩:=id I.loc;obtain⟨sl,hL⟩:=u.any ho I.free [19]
 exact I.step (g':=s.gens) (d':=s.drawn) (ch:=[]) (λ_ z=>nomatch z) (λb o _ hb _ e n=>u.keep b o e n hb [19]) (λb o _ hb _ e n=>u.slot b o e n hb [19]) (λb o _ e n=>u.free b o e n [19]) (λb o _ e=>u.there b o e [19]) u.tups u.frzs u.tbls (λm' hm=>by
  obtain⟨o',es',ep',ho',r'⟩:=hm;rw[ho] at ho';cases ho';exact(4,_,es',ep',hL,r')) hok I.bare
theorem aN.call{g':Array GenState}{t':Nat}{d':Drawn}{ch:[40]}(I:[48])(u:Un (frs X.stack) ch H H' s.heap h')(hok:mK X.prog X.w H' h')(hg:AllBare g')
  (hch:∀b∈ch,(b∈X.ex\/X.s₀.heap.objs.size<=b)/\b≠X.env.locals/\(∀x c,(53,x)=(1,c)->c≠b)/\∀p∈X.pn++pins,p.1≠b):
  aN X pins σ H' {s with heap:=h',gens:=g',drawn:=d',toks:=t'}:=by
 obtain⟨m,⟨o,es,ep,ho,r⟩,_⟩:=id I.loc;obtain⟨sl,hL⟩:=u.any ho I.free λz=>(hch _ z).2.1 rfl;exact I.step (ch:=ch) hch (λb o hL hb hc e n=>u.keep b o e n (λz=>(mem_cons.mp (I.stkSub b z)).elim hL hb) hc) (λb o _ _ hc e n=>u.any e n hc) (λb o hc e n=>u.free b o e n hc) (λb o hc e=>u.there b o e hc) u.tups u.frzs u.tbls (λm' hm=>by
  obtain⟨o',es',ep',ho',r'⟩:=hm;rw[ho] at ho';cases ho';exact(4,_,es',ep',hL,r')) hok hg
theorem aN.turned{t':Nat}{it:Addr}(I:[48])(k:∀b o,b≠it->(28,b)=([46])->(63,b)=[46])(hn:H it=none)(hL:it≠X.env.locals)
  (h1:it∈X.ex\/X.s₀.heap.objs.size<=it) (h2:∀x c,(53,x)=(1,c)->c≠it) (h3:∀p∈X.pn++pins,p.1≠it):aN X pins σ H {s with heap:=h',toks:=t'}:=by
 have nit:∀b u,H b=(1,u)->b≠it:=λb u e z=>by rw[z,hn] at e;cases e
 refine I.step (g':=s.gens) (d':=s.drawn) (ch:=[it]) (λb hb=>?_) (λb o _ _ hc e _=>k b o (λz=>hc (by simp[z])) e) (λb o _ _ hc e _=>(3,o.slots,k b o (λz=>hc (by simp[z])) e)) (λ_ _ _ _ n=>n)
  (λb o hc e=>(3,o,k b o (λz=>hc (by simp[z])) e)) (λ_ _ e=>e) (λ_ _ _ e=>e) (λb ps e=>(3,#[],by rw[e];simp)) (λm hm=>?_) (λb u e=>?_) I.bare
 ·have e:b=it:=by simpa using hb
  subst e;exact(10,h1,hL,h2,h3)
 ·obtain⟨o,es,ep,ho,r⟩:=hm;exact(4,o,es,ep,k _ o (Ne.symm hL) ho,r)
 ·refine(I.hok b u e).stay (λc v hc q=>k c v ?_ q) (λ_ q=>q) (λ_ _ q=>q) λ_ _ _ q=>q;rcases hc with z|z
  ·rw[z];exact nit b u e
  ·exact nit c _ z
theorem aN.tok(I:[48])(t:Nat):aN X pins σ H {s with toks:=t}:=I.un (h':=s.heap) (t':=t) Un.refl I.hok
theorem aN.kept{t':Nat}(I:[48])(k:∀b u,(28,b)=(1,u)->(63,b)=(1,u)):aN X pins σ H {s with heap:=h',toks:=t'}:=I.un (Un.kept k) (I.hok.kept k)
theorem aN.laid{a:Addr}{o:HO}{t':Nat}(I:[48])(k:∀b u,(28,b)=(1,u)->(63,b)=(1,u))(hp:s.heap.objs.size<=a)(new:cV X.prog X.w (cF H a o) h' a o):
  aN X pins σ (cF H a o) {s with heap:=h',toks:=t'}:=I.un (Un.laid k hp (I.hok.fresh hp)) (I.hok.laid k hp new)
theorem aN.write{x e:Addr}{o:HO}{t':Nat}(I:[48])(mu:T8 (H x))(he:e=x\/H e=(12,x))(k:∀b u,b≠e->(28,b)=(1,u)->(63,b)=(1,u))(heo:∃u,(63,e)=(1,u))
  (new:cV X.prog X.w (cF H x o) h' x o):aN X pins σ (cF H x o) {s with heap:=h',toks:=t'}:=I.un (Un.write mu he k heo) (I.hok.write mu he k heo new)
theorem aN.pins_of{pins':[18]}(I:[48])(h:∀p∈pins',(28,p.1)=(1,p.2)/\H p.1=none/\p.1≠X.env.locals/\p.1∉X.fs/\∀v,p.2.data≠.cell v):aN X pins' σ H s:=
 ⟨I.ok,I.os,I.bare,I.base,I.loc,I.cell,I.free,I.freeC,λp hp=>(mem_append.mp hp).elim (λz=>I.pin p (mem_append_left _ z)) (h p),I.hok,I.len⟩
theorem BK{N:[16]}(hN:N.Nodup){i j:Nat}{x:Str}(a:N[i]?=(1,x))(b:N[j]?=(1,x)):i=j:=by
 obtain⟨h1,e1⟩:=(17,a);obtain⟨h2,e2⟩:=(17,b);exact(List.getElem_inj hN).mp (e1.trans e2.symm)
theorem xO{M:Model}{A:Around}{E:Value->Shared->Prop}{i:Nat}{x:Str}{v:V}{u:Value}{Q:Unit->Shared->Prop}(I:[48])(hN:X.N.Nodup)(hi:X.N[i]?=(1,x))(hx:Fk [53] x)(r:RelV v u)
  (h:∀s',(4,X,σ.set i (1,v),H,s')->(∃a,Heap.SameBut a s.heap s'.heap/\(a=X.env.locals\/(53,x)=(1,a)))->Q () s') (hf:X.fn x=true\/[28]=[56]:=by first|exact[42]|exact .inr rfl|assumption):wpAny M A (storeName X.env x u) Q E s:=by
 obtain⟨m,hn,hl⟩:=id I.loc;have hcls:(X.env.scope.kind == .class || (X.env.scope.kind == .module && X.env.locals != X.env.globals))=false:=by rw[I.ok.kind];rfl
 have hiσ:i<σ.length:=by rw[I.len];exact(17,hi).1
 have cne:=I.cne;have tracked:∀{a:Addr}{h':Heap},(∃o,(28,a)=[46]/\H a=none)->Heap.SameBut a s.heap h'->mK X.prog X.w H h':=λ{a h'} ha hs b ob e=>by
  obtain⟨_,_,hfree⟩:=ha;refine(I.hok b ob e).stay (λc w' hc q=>(hs.2 c ?_).trans q) (λ_ q=>q) (λ_ _ q=>q) λ_ _ _ q=>q
  rintro rfl
  rcases hc with rfl|hc
  ·rw[hfree] at e;cases e
  ·rw[hfree] at hc;cases hc
 rcases hx with hk|hk
 ·refine wpAny_storeName_local hk hn (λh' hn' hs=>?_) hcls;obtain⟨oL,_,_,hoL,_⟩:=id hn;refine h _ ⟨I.ok,I.os,I.bare,⟨λb o e n hb hx=>?_,λb o e n hb hx=>?_,I.base.free,λb o e hx=>?_,I.base.tups,I.base.frzs,I.base.tbls⟩,(11,_,hn',λj y v' e1 e2 e3=>?_),λy c e=>?_,I.free,I.freeC,λp hp=>?_,tracked (11,oL,hoL,I.free) hs,by simpa using I.len⟩ (11,_,hs,[42])
  ·exact(hs.2 b (56,(9,(48,e),I.ok.above))).trans (I.base.keep b o e n hb hx)
  ·obtain⟨sl,e1⟩:=I.base.slot b o e n hb hx;exact(3,sl,(hs.2 b (56,(9,(48,e),I.ok.above))).trans e1)
  ·obtain⟨o',e1⟩:=I.base.there b o e hx;exact(3,o',(hs.2 b (56,(9,(48,e),I.ok.above))).trans e1)
  ·by_cases hj:j=i
   ·subst hj;rw[hi] at e1;cases e1;rw[(35,hiσ)] at e2;cases e2;exact(11,u,r,.inl (3,hk,by simp))
   ·rw[(32,Ne.symm hj)] at e2;obtain⟨u',r',q⟩:=hl j y v' e1 e2 e3;refine(11,u',r',?_);rcases q with⟨k,e⟩|⟨k,c,e,z⟩
    ·refine .inl (3,k,?_);have:y≠x:=λe=>hj (BK hN e1 (e▸hi));simp[this,e]
    ·exact .inr (10,k,c,e,z.sameBut hs (cne y c e))
  ·obtain⟨w',z⟩:=I.cell y c e;exact(3,w',z.sameBut hs (cne y c e))
  ·obtain⟨e,n,ne,nf,d⟩:=I.pin p hp;exact(4,(hs.2 p.1 ne).trans e,n,ne,nf,d)
 ·have hfn:X.fn x=true:=by
   rcases hf with z|z
   ·exact z
   ·rw[z] at hk;cases hk
  obtain⟨c,hc⟩:=I.ok.has x (.inl hk);obtain⟨w',z⟩:=I.cell x c hc;refine wpAny_storeName_cell I.ok.kind hk hc z (λh' hc' hs=>?_);obtain⟨oc,hoc,hocd⟩:=id z;refine h {s with heap:=h'} ⟨I.ok,I.os,I.bare,⟨λb o e n hb hx=>?_,λb o e n hb hx=>?_,I.base.free,λb o e hx=>?_,I.base.tups,I.base.frzs,I.base.tbls⟩,(11,m,hn.sameBut hs (Ne.symm (cne x c hc)),λj y v' e1 e2 e3=>?_),λy c' e=>?_,I.free,I.freeC,λp hp=>?_,tracked (11,oc,hoc,I.freeC x c hc) hs,by simpa using I.len⟩ (11,c,hs,.inr hc)
  ·exact(hs.2 b (56,(9,(48,e),I.ok.cab x c hfn hc))).trans (I.base.keep b o e n hb hx)
  ·obtain⟨sl,e1⟩:=I.base.slot b o e n hb hx;exact(3,sl,(hs.2 b (56,(9,(48,e),I.ok.cab x c hfn hc))).trans e1)
  ·obtain⟨o',e1⟩:=I.base.there b o e hx;exact(3,o',(hs.2 b (56,(9,(48,e),I.ok.cab x c hfn hc))).trans e1)
  ·by_cases hj:j=i
   ·subst hj;rw[hi] at e1;cases e1;rw[(35,hiσ)] at e2;cases e2;exact(11,u,r,.inr (10,.inl hk,c,hc,hc'))
   ·rw[(32,Ne.symm hj)] at e2;obtain⟨u',r',q⟩:=hl j y v' e1 e2 e3;refine(11,u',r',?_);rcases q with q|⟨k,c',e,z'⟩
    ·exact .inl q
    ·refine .inr (10,k,c',e,z'.sameBut hs ?_)
     rintro rfl
     exact hj (BK hN e1 (I.ok.inj _ _ _ e hc▸hi))
  ·by_cases hcc:c'=c
   ·subst hcc;exact(3,_,hc')
   ·obtain⟨w2,z2⟩:=I.cell y c' e;exact(3,w2,z2.sameBut hs hcc)
  ·obtain⟨e,n,ne,nf,d⟩:=I.pin p hp;refine(4,(hs.2 p.1 ?_).trans e,n,ne,nf,d);intro q;rw[q,hoc] at e;have q':oc=p.2:=(50,e);exact d w' (by rw[←q'];exact hocd)
theorem B8{M:Model}{A:Around}{E:Value->Shared->Prop}{i:Nat}{x:Str}{v:V}{u:Value}{Q:Unit->Shared->Prop}(I:[48])(hN:X.N.Nodup)(hi:X.N[i]?=(1,x))(hx:Fk [53] x)(r:RelV v u)
  (h:∀s',(4,X,σ.set i (1,v),H,s')->Q () s') (hf:X.fn x=true\/[28]=[56]:=by first|exact[42]|exact .inr rfl|assumption):wpAny M A (storeName X.env x u) Q E s:=
 xO I hN hi hx r (λs' I' _=>h s' I') hf
theorem aN.call'{s':Shared}{ch:[40]}(I:[48])(ho:s'.os=s.os)(u:Un (frs X.stack) ch H H' s.heap s'.heap)(hok:mK X.prog X.w H' s'.heap)(hg:AllBare s'.gens)
  (hch:∀b∈ch,(b∈X.ex\/X.s₀.heap.objs.size<=b)/\b≠X.env.locals/\(∀x c,(53,x)=(1,c)->c≠b)/\∀p∈X.pn++pins,p.1≠b):(17,H',s'):=by
 obtain⟨h',g',d',t',o'⟩:=s';have e:o'=s.os:=ho;subst e;exact I.call (g':=g') (t':=t') (d':=d') u hok hg hch
end
abbrev XK:=Value->(8,Addr)->Hp->Prop
abbrev St:=List (8,V)
abbrev VK:=V->Hp->Prop
abbrev TE:=St->Hp->VK->Prop
abbrev TT:=St->Hp->(Bool->Hp->Prop)->Prop
abbrev TA:=St->Hp->(([38])->Hp->Prop)->Prop
structure wA where
 nx:St->Hp->Prop
 rt:VK
 bk:St->Hp->Prop:=λ_ _=>False
 ct:St->Hp->Prop:=λ_ _=>False
abbrev TS:=wA->St->Hp->Prop
def EP(X:Cx)(pins:[18])(σ:St)(Q:VK)(u:Value)(s':Shared):Prop:=∃v H',(17,H',s')/\RelV v u/\Q v H'
def TP(X:Cx)(pins:[18])(σ:St)(Q:Bool->Hp->Prop)(b:Bool)(s':Shared):Prop:=∃H',(17,H',s')/\Q b H'
def AP(X:Cx)(pins:[18])(σ:St)(Q:([38])->Hp->Prop)(us:[21])(s':Shared):Prop:=∃vs H',(17,H',s')/\Vals vs us/\Q vs H'
def SP(X:Cx)(pins:[18])(D:wA)(f:Flow)(s':Shared):Prop:=
 match f with
 |.next=>∃σ' H',(4,X,σ',H',s')/\D.nx σ' H'
 |.brk=>∃σ' H',(4,X,σ',H',s')/\D.bk σ' H'
 |.cont=>∃σ' H',(4,X,σ',H',s')/\D.ct σ' H'
 |.ret u=>∃v σ' H',(4,X,σ',H',s')/\RelV v u/\D.rt v H'
def PE(X:Cx)(e:Expr)(t:TE):Prop:=
 ∀(pins:[18])(s:Shared)(σ:St)(H:Hp)(Q:VK),([48])->t σ H Q->(3,X.w,X.A,(14,e),EP X pins σ Q,X.xe,s)
def PT(X:Cx)(e:Expr)(t:TT):Prop:=
 ∀(pins:[18])(s:Shared)(σ:St)(H:Hp)(Q:Bool->Hp->Prop),([48])->t σ H Q->(3,X.w,X.A,isTrue e X.env (14,e),TP X pins σ Q,X.xe,s)
def PW(X:Cx)(e:Expr)(t:TT):Prop:=
 ∀(whole:Sem Value)(pins:[18])(s:Shared)(σ:St)(H:Hp)(Q:Bool->Hp->Prop),([48])->t σ H Q->(3,X.w,X.A,isTrue e X.env whole,TP X pins σ Q,X.xe,s)
theorem PW.pt{X:Cx}{e:Expr}{t:TT}(h:PW X e t):PT X e t:=h _
def PA(X:Cx)(es:List Expr)(t:TA):Prop:=
 ∀(pos:Pos)(pins:[18])(s:Shared)(σ:St)(H:Hp)(Q:([38])->Hp->Prop),([48])->t σ H Q->(3,X.w,X.A,spliced (7,pos,es),AP X pins σ Q,X.xe,s)
def PS(X:Cx)(st:Stmt)(t:TS):Prop:=
 ∀(pins:[18])(s:Shared)(σ:St)(H:Hp)(D:wA),([48])->t D σ H->(3,X.w,X.A,exec st X.env,SP X pins D,X.xe,s)
def tO(X:Cx)(st:List Stmt)(t:TS):Prop:=
 ∀(pins:[18])(s:Shared)(σ:St)(H:Hp)(D:wA),([48])->t D σ H->(3,X.w,X.A,execs st X.env,SP X pins D,X.xe,s)
theorem cZ{α:Type}{t:Sem α}{Q Q':α->Shared->Prop}{M:Model}{A:Around}{E:Value->Shared->Prop}{s:Shared}(h:wpAny M A t Q E s)(hQ:∀a s,Q a s->Q' a s):wpAny M A t Q' E s:=wpAny_mono h hQ λ_ _ x=>x
section
variable{X:Cx}
def ka(i:Nat):TE:=λσ H Q=>∃v,σ[i]?=(31,v)/\Q v H
def tC(v:V):TE:=λ_ H Q=>Q v H
theorem Q4{i:Nat}{x:Str}{pos:Pos}(hN:X.N[i]?=(1,x))(hv:T3 [53] x)(hd:(x == ("__debug__":Str))=false:=by decide)(hcd:(x == ("__classdict__":Str))=false:=by decide):PE X (23,pos) (ka i):=by
 intro pins s σ H Q I h;obtain⟨v,e,h⟩:=h;obtain⟨m,hn,hl⟩:=I.loc;obtain⟨u,r,l⟩:=hl i x v hN e hv;have fin:EP X pins σ Q u s:=(4,v,H,I,r,h);rcases l with⟨hk,hm⟩|⟨hk,c,hc,hcell⟩
 ·exact wpAny_Name (wpAny_loadName_local I.ok.kind hk hn hm fin) hd
 ·rcases hk with hk|hk
  ·exact wpAny_Name (wpAny_loadName_cell I.ok.kind hk hc hcell fin) hd
  ·exact wpAny_Name (wpAny_loadName_free I.ok.kind hk hc hcell fin hcd) hd
theorem DS{i j pos}:PE X (.Constant (16,i) j pos) (tC (16,i)):=λ_ _ _ H _ I h=>wpAny_Constant_int (4,(16,i),H,I.tok _,(3,_,rfl),h)
theorem Sd{b j pos}:PE X (.Constant (.bool b) j pos) (tC (.bl b)):=λ_ _ _ H _ I h=>Constant_bool (4,.bl b,H,I,rfl,h)
theorem Q7{j pos}:PE X (.Constant .none j pos) (tC .non):=λ_ _ _ H _ I h=>Constant_none (4,.non,H,I,rfl,h)
theorem Q5{x j pos}:PE X (.Constant (.str x) j pos) (tC (.str x)):=λ_ _ _ H _ I h=>Calls.Constant_str (4,.str x,H,I.tok _,(3,_,rfl),h)
def Gl(X:Cx)(x:Str):Prop:=X.env.kindOf x=(1,.globalImplicit)
theorem ud{E:Value->Shared->Prop}{pins:[18]}{s:Shared}{σ:St}{H:Hp}{x:Str}{u:Value}{pos:Pos}{Q:Value->Shared->Prop}(I:[48])(hg:Gl X x)(hm:X.mg x=(1,u))(h:Q u s)
  (hd:(x == ("__debug__":Str))=false:=by decide):(3,X.w,X.A,(14,(23,pos)),Q,E,s):=
 Calls.Name_function_global I.ok.kind hg (Calls.loadGlobal_global (by rw[I.ok.glob];exact I.mod.glob.keeps I.bk) hm h) hd
theorem mf{E:Value->Shared->Prop}{pins:[18]}{s:Shared}{σ:St}{H:Hp}{x:Str}{u:Value}{pos:Pos}{Q:Value->Shared->Prop}(I:[48])(hg:Gl X x)(hm:X.mg x=none)(hv:(60,x)=(1,u))(h:Q u s)
  (hn:x ≠ "__name__" := by decide) (hd:(x == ("__debug__":Str))=false:=by decide):(3,X.w,X.A,(14,(23,pos)),Q,E,s):=by
 obtain⟨mb,h1,h2⟩:=I.mod.blt;exact Calls.Name_function_global I.ok.kind hg (Calls.loadGlobal_builtin (by rw[I.ok.glob];exact I.mod.glob.keeps I.bk) hm (by rw[I.ok.blt];exact h1.keeps I.bk) ((h2 x hn).trans hv) h) hd
theorem FW{x:Str}{v:V}{u:Value}{pos:Pos}(hg:Gl X x)(hm:X.mg x=none)(hv:(60,x)=(1,u))(r:RelV v u)(hn:x ≠ "__name__" := by decide)(hd:(x == ("__debug__":Str))=false:=by decide):PE X (23,pos) (tC v):=
 λ_ _ _ H _ I h=>mf I hg hm hv (4,v,H,I,r,h) hn hd
variable{a b:Expr}{ta tb:TE}{pos:Pos}
def PC(X:Cx)(op:CmpOp)(a b:Expr)(t:TE):Prop:=
 ∀(pins:[18])(s:Shared)(σ:St)(H:Hp)(Q:VK),([48])->t σ H Q->
  (3,X.w,X.A,(14,a),(λv s₁=>(3,X.w,X.A,(14,b),(λu s₂=>(3,X.w,X.A,compareOp op v u,EP X pins σ Q,X.xe,s₂)),X.xe,s₁)),X.xe,s)
theorem BL(b:Expr){op:CmpOp}(h:op≠.In)(h2:op≠.NotIn):behindInMarks op b=false:=by
 have e1:(op == CmpOp.In)=false:=by cases op <;> first|rfl|exact(32,rfl,h)
 have e2:(op == CmpOp.NotIn)=false:=by cases op <;> first|rfl|exact(32,rfl,h2)
 cases b <;> simp[behindInMarks,e1,e2]
def TQ(ta:TE):TE:=λσ H Q=>ta σ H λx H1=>Q (.bl (decide (x=.non))) H1
def RK(ta:TE):TE:=λσ H Q=>ta σ H λx H1=>Q (.bl (!decide (x=.non))) H1
theorem RelV.none_iff{x:V}{v:Value}(r:RelV x v):(v == Value.none)=decide (x=.non):=by
 cases x with
 |non=>cases r;rfl
 |bl _=>cases r;rfl
 |ref _=>cases r;rfl
 |ty _=>cases r;rfl
 |_=>obtain⟨t,rfl⟩:=r;rfl
theorem Kz{j pos'}(ha:PE X a ta):PC X .Is a (.Constant .none j pos') (TQ ta):=by
 intro pins s σ H Q I h;refine cZ (ha pins s σ H _ I h) λv s1 ⟨x,H1,I1,r1,q1⟩=>?_;exact Constant_none (is_none_gen (4,.bl _,H1,I1,by rw[r1.none_iff];rfl,q1))
theorem NI{j pos'}(ha:PE X a ta):PC X .IsNot a (.Constant .none j pos') (RK ta):=by
 intro pins s σ H Q I h;refine cZ (ha pins s σ H _ I h) λv s1 ⟨x,H1,I1,r1,q1⟩=>?_;exact Constant_none (isnot_none_gen (4,.bl _,H1,I1,by rw[r1.none_iff];rfl,q1))
def tB(t:TE):TT:=λσ H Q=>t σ H λx H1=>∃c,x=.bl c/\Q c H1
theorem Kr{op:CmpOp}{t:TE}(h:PC X op a b t)(h1:behindInMarks op b=false:=by first|exact BL _ [13] [13]|rfl):PE X (.Compare a [op] [b] pos) t:=λpins s σ H Q I hw=>wpAny_Compare1 (h pins s σ H Q I hw) h1
theorem K4{op:CmpOp}{t:TE}(h:PC X op a b t)(h1:behindInMarks op b=false:=by first|exact BL _ [13] [13]|rfl):PT X (.Compare a [op] [b] pos) (tB t):=by
 intro pins s σ H Q I hw;refine wpAny_isTrue_Compare1 (cZ (h pins s σ H _ I hw) λv s1 h1=>cZ h1 λu s2 h2=>cZ h2 λc s3 ⟨x,H1,I1,r1,q1⟩=>?_) h1;obtain⟨d,rfl,q⟩:=q1;cases r1;exact wpAny_truthy_bool (11,H1,I1,q)
theorem K1{e:Expr}{t:TE}(h:PE X e t)(he:∀whole,isTrue e X.env whole=(do let v ←whole;standAt e.pos;holding [v] (truthy v)):=by intro _;rfl):PT X e (tB t):=by
 intro pins s σ H Q I hw;refine isTrue_plain (cZ (h pins s σ H _ I hw) λv s1 ⟨x,H1,I1,r1,q1⟩=>?_) (he _);obtain⟨d,rfl,q⟩:=q1;cases r1;exact wpAny_truthy_bool (11,H1,I1,q)
variable{tA tB':TT}{rest:List Expr}
def TY(t u:TT):TT:=λσ H Q=>t σ H λc H1=>if c=true then u σ H1 Q else Q false H1
def UP(t u:TT):TT:=λσ H Q=>t σ H λc H1=>if c=true then Q true H1 else u σ H1 Q
def TL(t:TT):TT:=λσ H Q=>t σ H λc H1=>Q (!c) H1
theorem Ni(ha:PT X a tA):PW X (.BoolOp .And [a] pos) tA:=by
 intro wh pins s σ H Q I h;refine isTrue_and (cZ (ha pins s σ H Q I h) λc s1 e=>?_);cases c with
 |true=>exact isTrue_and_nil e
 |false=>exact e
theorem PN(ha:PT X a tA):PW X (.BoolOp .Or [a] pos) tA:=by
 intro wh pins s σ H Q I h;refine isTrue_or (cZ (ha pins s σ H Q I h) λc s1 e=>?_);cases c with
 |false=>exact isTrue_or_nil e
 |true=>exact e
theorem PP(ha:PT X a tA)(hb:PW X (.BoolOp .And (b::rest) pos) tB'):PW X (.BoolOp .And (a::b::rest) pos) (TY tA tB'):=by
 intro wh pins s σ H Q I h;refine isTrue_and (cZ (ha pins s σ H _ I h) λc s1 ⟨H1,I1,q1⟩=>?_);cases c with
 |true=>exact hb wh pins s1 σ H1 Q I1 q1
 |false=>exact(11,H1,I1,q1)
theorem S5(ha:PT X a tA)(hb:PW X (.BoolOp .Or (b::rest) pos) tB'):PW X (.BoolOp .Or (a::b::rest) pos) (UP tA tB'):=by
 intro wh pins s σ H Q I h;refine isTrue_or (cZ (ha pins s σ H _ I h) λc s1 ⟨H1,I1,q1⟩=>?_);cases c with
 |true=>exact(11,H1,I1,q1)
 |false=>exact hb wh pins s1 σ H1 Q I1 q1
theorem K3(ha:PT X a tA):PT X (.UnaryOp .Not a pos) (TL tA):=by
 intro pins s σ H Q I h;exact isTrue_not (ha pins s σ H (λc H1=>Q (!c) H1) I h)
def RP(ta tb:TE):TE:=λσ H Q=>ta σ H λx H1=>∃c,x=.bl c/\if c=true then tb σ H1 Q else Q (.bl false) H1
theorem Q6{op}{t:TE}(h:PE X a t):PE X (.BoolOp op [a] pos) t:=λpins s σ H Q I hw=>BoolOp_one (h pins s σ H Q I hw)
theorem Qb(ha:PE X a ta)(hb:PE X (.BoolOp .And (b::rest) pos) tb):PE X (.BoolOp .And (a::b::rest) pos) (RP ta tb):=by
 intro pins s σ H Q I h;refine BoolOp_and (cZ (ha pins s σ H _ I h) λv s1 ⟨x,H1,I1,r1,q1⟩=>?_);obtain⟨c,rfl,q1⟩:=q1;cases r1;refine wpAny_truthy_bool ?_;cases c with
 |true=>exact hb pins s1 σ H1 Q I1 q1
 |false=>exact(4,.bl false,H1,I1,rfl,q1)
def UR(t:TT)(ta tb:TE):TE:=λσ H Q=>t σ H λc H1=>if c=true then ta σ H1 Q else tb σ H1 Q
theorem Kn{c:Expr}(hc:PT X c tA)(ha:PE X a ta)(hb:PE X b tb):PE X (.IfExp c a b pos) (UR tA ta tb):=by
 intro pins s σ H Q I h;refine wpAny_IfExp (cZ (hc pins s σ H _ I h) λd s1 ⟨H1,I1,q1⟩=>?_);cases d with
 |true=>exact ha pins s1 σ H1 Q I1 q1
 |false=>exact hb pins s1 σ H1 Q I1 q1
end
def kQ(K:Frag)(H:Hp)(a:Addr)(xs:[38]):Prop:=
 Rd H a (13,xs)\/
  ∃(o:Obj)(its:[33])(n:Nat),K.lookup a=[46]/\o.cls=(54,"list") /\ o.dict=none/\o.data=.seq its n/\its.size<=sizeLine/\Vals xs its.toList
def nV(K:Frag)(H:Hp)(a:Addr)(xs:[38]):Prop:=
 Rd H a (22,xs)\/
  ∃(o:Obj)(its:[33])(n:Nat),K.lookup a=[46]/\o.cls=(54,"tuple") /\ o.data=.seq its n/\its.size<=sizeLine/\Vals xs its.toList
def Uq:Value->(8,V)
 |.none=>(1,.non)
 |.bool b=>(1,.bl b)
 |.int i _=>(1,(16,i))
 |.str x _=>(1,.str x)
 |.bytes b _=>(1,.byt b)
 |.float b _=>(1,.flt b)
 |.ref a=>(1,(9,a))
 |.type n=>(1,.ty n)
 |_=>none
theorem RelV.abs{x:V}{u:Value}(r:RelV x u):Uq u=(1,x):=by
 cases x with
 |non=>cases r;rfl
 |bl _=>cases r;rfl
 |ref _=>cases r;rfl
 |ty _=>cases r;rfl
 |_=>obtain⟨t,rfl⟩:=r;rfl
theorem RelV.inj{x y:V}{u:Value}(r:RelV x u)(q:RelV y u):x=y:=(50,r.abs.symm.trans q.abs)
theorem Vals.inj:∀{xs ys:[38]}{us:[21]},Vals xs us->Vals ys us->xs=ys
 |_,_,_,.nil,.nil=>rfl
 |_,_,_,.cons r t,.cons r' t'=>by rw[r.inj r',Vals.inj t t']
section
variable{X:Cx}{pins:List (Addr×Obj)}{σ:St}{H:Hp}{s:Shared}{a:Addr}{xs ys:List V}
theorem kQ.of{K:Frag}(h:H a=(1,(13,xs))):kQ K H a xs:=.inl (.inl h)
theorem nV.of{K:Frag}(h:H a=(1,(22,xs))):nV K H a xs:=.inl (.inl h)
theorem aN.list(I:[48])(h:kQ X.K H a xs):∃its:List Value,Vals xs its/\PlainL s.heap a its.toArray/\xs.length<=sizeLine:=by
 rcases h with h|⟨o,its,n,hk,hc,hd,hs,hz,r⟩
 ·obtain⟨z,its,n,r,e⟩:=h.ok I.hok;exact(10,its,r,⟨_,n,e,rfl,rfl,rfl⟩,z)
 ·refine(10,its.toList,r,⟨o,n,I.kIn a o hk,hc,hd,by simpa using hs⟩,?_)
  have e:=r.length;simp only[length_toList] at e;omega
theorem aN.tuple(I:[48])(h:nV X.K H a xs):∃its:List Value,Vals xs its/\IsTup s.heap a its.toArray/\xs.length<=sizeLine:=by
 rcases h with h|⟨o,its,n,hk,hc,hs,hz,r⟩
 ·obtain⟨z,its,r,p⟩:=h.ok I.hok;exact(10,its,r,p,z)
 ·refine(10,its.toList,r,(4,o,I.kIn a o hk,hc,n,by simpa using hs),?_)
  have e:=r.length;simp only[length_toList] at e;omega
theorem aN.list_inj(I:[48])(h:kQ X.K H a xs)(h':kQ X.K H a ys):xs=ys:=by
 obtain⟨its,r,⟨o,n,e,_,_,d⟩,_⟩:=I.list h;obtain⟨its',r',⟨o',n',e',_,_,d'⟩,_⟩:=I.list h';rw[e] at e';cases e';rw[d] at d';injection d' with d1 _;have:its=its':=by simpa using congrArg Array.toList d1
 subst this;exact r.inj r'
theorem aN.tuple_inj(I:[48])(h:nV X.K H a xs)(h':nV X.K H a ys):xs=ys:=by
 obtain⟨its,r,⟨o,e,_,n,d⟩,_⟩:=I.tuple h;obtain⟨its',r',⟨o',e',_,n',d'⟩,_⟩:=I.tuple h';rw[e] at e';cases e';rw[d] at d';injection d' with d1 _;have:its=its':=by simpa using congrArg Array.toList d1
 subst this;exact r.inj r'
end
abbrev Cx.wish(X:Cx)(E:Value->Shared->Prop):Cx:={X with xe:=E}
abbrev Cx.nox(X:Cx):Cx:=X.wish λ_ _=>False
theorem Cx.Ok.wish{X:Cx}(ok:X.Ok)(E:Value->Shared->Prop):(X.wish E).Ok:=
 ⟨ok.mod,ok.kind,ok.glob,ok.blt,ok.above,ok.inj,ok.has,ok.cab,ok.hd,ok.frames,ok.stk,ok.exf,ok.bs,ok.bsz,ok.noex,ok.exfs,ok.funs,ok.frf⟩
theorem Cx.Ok.unwish{X:Cx}{E:Value->Shared->Prop}(ok:(X.wish E).Ok):X.Ok:=
 ⟨ok.mod,ok.kind,ok.glob,ok.blt,ok.above,ok.inj,ok.has,ok.cab,ok.hd,ok.frames,ok.stk,ok.exf,ok.bs,ok.bsz,ok.noex,ok.exfs,ok.funs,ok.frf⟩
section
variable{X:Cx}{pins:List (Addr×Obj)}{σ:St}{H:Hp}{s:Shared}{E:Value->Shared->Prop}
theorem aN.wish(I:[48])(E:Value->Shared->Prop):(17,X.wish E,H,s):=⟨I.ok.wish E,I.os,I.bare,I.base,I.loc,I.cell,I.free,I.freeC,I.pin,I.hok,I.len⟩
theorem aN.unwish(I:(17,X.wish E,H,s)):[48]:=⟨I.ok.unwish,I.os,I.bare,I.base,I.loc,I.cell,I.free,I.freeC,I.pin,I.hok,I.len⟩
theorem SP.unwish{D:wA}{f:Flow}{s':Shared}(h:SP (X.wish E) pins D f s'):SP X pins D f s':=by
 cases f with
 |ret u=>obtain⟨v,σ',H',I,r,q⟩:=h;exact⟨v,σ',H',I.unwish,r,q⟩
 |_=>obtain⟨σ',H',I,q⟩:=h;exact(10,σ',H',I.unwish,q)
theorem PE.nox{e:Expr}{t:TE}(h:PE X.nox e t):PE X e t:=λpins s σ H Q I hw=>
 wpAny_mono (h pins s σ H Q (I.wish _) hw) (λ_ _ ⟨v,H',I',r,q⟩=>(4,v,H',I'.unwish,r,q)) λ_ _ z=>False.elim z
theorem PT.nox{e:Expr}{t:TT}(h:PT X.nox e t):PT X e t:=λpins s σ H Q I hw=>
 wpAny_mono (h pins s σ H Q (I.wish _) hw) (λ_ _ ⟨H',I',q⟩=>(11,H',I'.unwish,q)) λ_ _ z=>False.elim z
theorem tO.nox{st:List Stmt}{t:TS}(h:tO X.nox st t):tO X st t:=λpins s σ H D I hw=>
 wpAny_mono (h pins s σ H D (I.wish _) hw) (λ_ _ q=>q.unwish) λ_ _ z=>False.elim z
end
section
variable{X:Cx}{st:Stmt}{rest:List Stmt}{t u:TS}{e:Expr}{te:TE}{pos:Pos}
def RM:TS:=λD σ H=>D.nx σ H
def TJ(t u:TS):TS:=λD σ H=>t {D with nx:=u D} σ H
theorem FP:tO X [] RM:=λ_ _ σ H _ I h=>wpAny_execs_nil (10,σ,H,I,h)
theorem Bq(h1:PS X st t)(h2:tO X rest u):tO X (st::rest) (TJ t u):=by
 intro pins s σ H D I h;refine wpAny_execs_cons (cZ (h1 pins s σ H {D with nx:=u D} I h) λf s1 q=>?_);cases f with
 |next=>
  obtain⟨σ',H',I',q⟩:=q;exact h2 pins s1 σ' H' D I' q
 |ret v=>exact q
 |_=>exact q
theorem Nl(h1:PS X st t):tO X [st] t:=by
 intro pins s σ H D I h;refine wpAny_execs_cons (cZ (h1 pins s σ H D I h) λf s1 q=>?_);cases f with
 |next=>exact wpAny_execs_nil q
 |ret v=>exact q
 |brk=>exact q
 |cont=>exact q
theorem aN.quiet{pins:[18]}{σ:St}{H:Hp}{s:Shared}(I:[48]):interactive X.env=false:=by simp[interactive,I.ok.kind]
def RN(te:TE):TS:=λD σ H=>te σ H λ_ H1=>D.nx σ H1
theorem u7(he:PE X e te)(hs:(28,e,none,pos.line)=pure false:=by rfl):PS X (.Expr e pos) (RN te):=by
 intro pins s σ H D I h;exact wpAny_Expr_any (cZ (he pins s σ H _ I h) λv s1 ⟨x,H1,I1,r1,q1⟩=>(10,σ,H1,I1,q1)) I.quiet hs
def TK(te:TE):TS:=λD σ H=>te σ H D.rt
theorem uX(he:PE X e te):PS X (.Return (1,e) pos) (TK te):=by
 intro pins s σ H D I h;exact wpAny_Return_some (cZ (he pins s σ H _ I h) λv s1 ⟨x,H1,I1,r1,q1⟩=>⟨x,σ,H1,I1,r1,q1⟩)
def TR(c:TT)(t u:TS):TS:=λD σ H=>c σ H λb H1=>if b=true then t D σ H1 else u D σ H1
theorem S6{c:Expr}{a b:List Stmt}{tc:TT}(hc:PT X c tc)(ha:tO X a t)(hb:tO X b u):PS X (.If c a b pos) (TR tc t u):=by
 intro pins s σ H D I h;refine wpAny_If (cZ (hc pins s σ H _ I h) λd s1 ⟨H1,I1,q1⟩=>?_);cases d with
 |true=>exact ha pins s1 σ H1 D I1 q1
 |false=>exact hb pins s1 σ H1 D I1 q1
end
abbrev TG:=V->St->Hp->(St->Hp->Prop)->Prop
abbrev Rk:=([38])->St->Hp->(St->Hp->Prop)->Prop
def PG(X:Cx)(target:Expr)(t:TG):Prop:=
 ∀(pins:[18])(s:Shared)(σ:St)(H:Hp)(v:V)(u:Value)(Q:St->Hp->Prop),([48])->RelV v u->t v σ H Q->
  (3,X.w,X.A,assign target X.env u,(λ_ s'=>∃σ' H',(4,X,σ',H',s')/\Q σ' H'),X.xe,s)
def TB(X:Cx)(ts:List Expr)(t:Rk):Prop:=
 ∀(pins:[18])(s:Shared)(σ:St)(H:Hp)(vs:[38])(us:[21])(Q:St->Hp->Prop),([48])->Vals vs us->t vs σ H Q->
  (3,X.w,X.A,assignInOrder ((71,ts).map (·.2)) us,(λ_ s'=>∃σ' H',(4,X,σ',H',s')/\Q σ' H'),X.xe,s)
abbrev Rj:=V->V->V->Hp->(Hp->Prop)->Prop
def T6(X:Cx)(t:Rj):Prop:=
 ∀(pins:[18])(s:Shared)(σ:St)(H:Hp)(o i v:V)(ov iv u:Value)(Q:Hp->Prop),([48])->RelV o ov->RelV i iv->RelV v u->t o i v H Q->
  (3,X.w,X.A,setItem ov iv u,(λ_ s'=>∃H',(17,H',s')/\Q H'),X.xe,s)
section
variable{X:Cx}{pos:Pos}
def Cw(i:Nat):TG:=λv σ H Q=>Q (σ.set i (1,v)) H
theorem zC{i:Nat}{x:Str}(hN:X.N.Nodup)(hi:X.N[i]?=(1,x))(hx:Fk [53] x)(hf:X.fn x=true\/[28]=[56]:=by first|exact[42]|exact .inr rfl|assumption):PG X (23,pos) (Cw i):=by
 intro pins s σ H v u Q I r h;exact wpAny_assign_Name (B8 I hN hi hx r (λs' I'=>(10,_,H,I',h)) hf)
def Uh:Rk:=λvs σ H Q=>vs=[]/\Q σ H
def SL(t:TG)(u:Rk):Rk:=λvs σ H Q=>∃v r,vs=v::r/\t v σ H λσ' H'=>u r σ' H' Q
theorem Ny:TB X [] Uh:=by
 intro pins s σ H vs us Q I r h;obtain⟨e,h⟩:=h;subst e;cases r;exact assignInOrder_nil (10,σ,H,I,h)
theorem Bu{e:Expr}{es:List Expr}{t:TG}{u:Rk}(h1:PG X e t)(h2:TB X es u)
  (hs:(71,(e::es)).map (·.2)=assign e X.env::(71,es).map (·.2):=by rfl):TB X (e::es) (SL t u):=by
 intro pins s σ H vs us Q I r h;obtain⟨v,vr,e1,h⟩:=h;subst e1;cases r with
 |cons r rr=>
  rw[hs];refine assignInOrder_cons (cZ (h1 pins s σ H _ _ _ I r h) λ_ s1 ⟨σ1,H1,I1,q1⟩=>?_);exact h2 pins s1 σ1 H1 _ _ Q I1 rr q1
def Ue(K:Frag)(n:Nat)(t:Rk):TG:=λv σ H Q=>∃a xs,v=(9,a)/\nV K H a xs/\xs.length=n/\t xs σ H Q
theorem Q2{es:List Expr}{k:Nat}{t:Rk}{n:Nat}(hc:X.calm=true)(h:TB X es t)
  (hn:(71,es).length=n:=by rfl) (hst:(71,es).findIdx? (·.1)=none:=by rfl):PG X (.Tuple es k pos) (Ue X.K n t):=by
 intro pins s σ H v u Q I r hw;obtain⟨a,xs,e1,hq,hl,hw⟩:=hw;subst e1;cases r;obtain⟨its,rv,ht,hz⟩:=I.tuple hq;refine assign_Tuple_tuple (I.ok.hd hc) ht (by simp[hn,←hl,rv.length]) hst λh' hx=>?_
 have I1:aN X pins σ H {s with heap:=h'}:=I.kept (t':=s.toks) λb o e=>hx b o (56,(48,e)) e;exact h pins _ σ H xs _ Q I1 (by simpa using rv) hw
def Ug(to ti:TE)(t:Rj):TG:=λv σ H Q=>to σ H λo H1=>ti σ H1 λi H2=>t o i v H2 λH3=>Q σ H3
theorem Q3{o i:Expr}{to ti:TE}{t:Rj}(ho:PE X o to)(hi:PE X i ti)(hs:T6 X t)
  (ha:∀v,assign (.Subscript o i pos) X.env v=(do
   let ov ←holding [v] (eval o X.env);let iv ←holding [v,ov] (eval i X.env)
   standAt pos
   holding [v,ov,iv] (setItem ov iv v)
   release [v,ov,iv] []):=by intro _;rfl):PG X (.Subscript o i pos) (Ug to ti t):=by
 intro pins s σ H v u Q I r h;rw[ha];refine(5,wpAny_holding (cZ (ho pins s σ H _ I h) λov s1 ⟨x,H1,I1,r1,q1⟩=>?_));refine(5,wpAny_holding (cZ (hi pins s1 σ H1 _ I1 q1) λiv s2 ⟨y,H2,I2,r2,q2⟩=>?_));refine(5,wpAny_standAt (5,wpAny_holding (cZ (hs pins s2 σ H2 x y v ov iv u _ I2 r1 r2 r q2) λ_ s3 ⟨H3,I3,q3⟩=>?_)));exact wpAny_release (10,σ,H3,I3,q3)
def JL(te:TE)(g:TG):TS:=λD σ H=>te σ H λx H1=>g x σ H1 D.nx
theorem PV{tg e:Expr}{te:TE}{g:TG}(he:PE X e te)(hg:PG X tg g)(hs:swapsWithSole [tg] e pos.line X.env=pure false:=by rfl)(hw:swappedStores [tg] e X.env=pure none:=by rfl)
  (h1:(71,[tg]).map (·.2)=[assign tg X.env]:=by rfl):PS X (.Assign [tg] e pos) (JL te g):=by
 intro pins s σ H D I h;refine wpAny_Assign_stores (cZ (he pins s σ H _ I h) λv s1 ⟨x,H1,I1,r1,q1⟩=>?_) hs hw;rw[h1];exact cZ (hg pins s1 σ H1 x v _ I1 r1 q1) λ_ s2 q=>q
theorem Kb{i:Nat}{x:Str}{e:Expr}{te:TE}{pos':Pos}(hN:X.N.Nodup)(hi:X.N[i]?=(1,x))(hx:Fk [53] x)(he:PE X e te)(hs:(28,e,(1,(23,pos')),pos.line)=pure false:=by rfl)(hf:X.fn x=true\/[28]=[56]:=by first|exact[42]|exact .inr rfl|assumption):
  PS X (.Assign [(23,pos')] e pos) (JL te (Cw i)):=by
 intro pins s σ H D I h;refine wpAny_Assign_Name (cZ (he pins s σ H _ I h) λv s1 ⟨y,H1,I1,r1,q1⟩=>?_) hs;exact B8 I1 hN hi hx r1 (λs2 I2=>(10,_,H1,I2,q1)) hf
end
section
variable{X:Cx}{pos:Pos}
def Pn(c:TT)(tb:TS):TS:=λD σ H=>∃W:Nat->St->Hp->Prop,(∃m,W m σ H)/\∀m σ H,W m σ H->
 c σ H λb H1=>if b=true then ∃N:St->Hp->Prop,(∀σ' H',N σ' H'->∃m',m'<m/\W m' σ' H')/\tb {D with nx:=N,ct:=N,bk:=D.nx} σ H1 else D.nx σ H1
theorem Ka{c:Expr}{body:List Stmt}{tc:TT}{tb:TS}(hp:PassesOwn (model X.prog X.w) X.A X.env X.xe)(hc:PT X c tc)(hb:tO X body tb):PS X (.While c body [] pos) (Pn tc tb):=by
 intro pins s σ H D I h;obtain⟨W,⟨m0,w0⟩,turn⟩:=h;refine wpAny_While (codeAny_whileLoop (λn s'=>∃σ' H',(4,X,σ',H',s')/\W n σ' H') ?_ m0 (10,σ,H,I,w0))
 rintro n s1 ⟨σ1,H1,I1,w1⟩
 refine wpAny_passesOwn hp (cZ (hc pins s1 σ1 H1 _ I1 (turn n σ1 H1 w1)) λb s2 ⟨H2,I2,q2⟩=>?_);cases b with
 |true=>
  obtain⟨N,hN,q2⟩:=q2;rw[(25,rfl)];refine wpAny_passesOwn hp (cZ (hb pins s2 σ1 H2 _ I2 q2) λf s3 q3=>?_);cases f with
  |next=>
   obtain⟨σ3,H3,I3,n3⟩:=q3;obtain⟨m',hm,w3⟩:=hN σ3 H3 n3;exact⟨m',hm,σ3,H3,I3,w3⟩
  |cont=>
   obtain⟨σ3,H3,I3,n3⟩:=q3;obtain⟨m',hm,w3⟩:=hN σ3 H3 n3;exact⟨m',hm,σ3,H3,I3,w3⟩
  |brk=>exact q3
  |ret v=>exact q3
 |false=>
  rw[(29,[27])];exact wpAny_execs_nil (10,σ1,H2,I2,q2)
end
structure It where
 go:Nat->Hp->Prop
 yld:Nat->Hp->V->Hp->Prop
 stop:Nat->Hp->Prop
def FpOk(X:Cx)(pins:[18])(H:Hp)(b:Addr):Prop:=
 H b=none/\b≠X.env.locals/\b∉X.fs/\(b∈X.ex\/X.s₀.heap.objs.size<=b)/\(∀x c,(53,x)=(1,c)->c≠b)/\∀p∈X.pn++pins,p.1≠b
theorem aN.fpOk{X:Cx}{pins:[18]}{σ:St}{H H':Hp}{s:Shared}{b:Addr}(I:[48])(hb:s.heap.objs.size<=b)(hn:H' b=none):FpOk X pins H' b:=by
 refine⟨hn,ne_of_gt (9,I.lt,hb),I.nofs hb,.inr (le_trans I.sz hb),λx c e z=>?_,λp hp z=>?_⟩
 ·obtain⟨v,q⟩:=I.cell x c e;exact(32,(9,q.lt,(by rw[z];exact hb)),lt_irrefl _)
 ·exact(32,(9,(48,(I.pin p hp).1),(by rw[z];exact hb)),lt_irrefl _)
structure Fh(P:Program)(w:World)(K:Frag)(tg:Expr)(J:It)(fp:List Addr)(it:Addr)(tn:Nat->Heap->Prop):Prop where
 mem:it∈fp
 obj:∀i h,tn i h->∀b∈fp,∃o,h.get? b=[46]/\∀v,o.data≠.cell v
 keep:∀i h h',tn i h->(∀b∈fp,∀o,h.get? b=([46])->(63,b)=[46])->tn i h'
 item:∀(X:Cx),X.prog=P->X.w=w->X.K=K->X.calm=true->∀(i:Nat)(pins:[18])(s:Shared)(σ:St)(H:Hp)(E:Value->Shared->Prop),([48])->(∀b∈fp,FpOk X pins H b)->tn i s.heap->J.go i H->
  wpAny (model P w) X.A (pyNext (9,it)) (λr s1=>∃u,r=(1,u)/\
   (1,P,w,X.A,letOwnedTupleGo tg (9,it) u,(λ_ s2=>∃x H',(17,H',s2)/\RelV x u/\J.yld i H x H'/\tn (i+1) s2.heap/\∀b∈fp,H' b=none),E,s1)) E s
 done:∀(X:Cx),X.prog=P->X.w=w->X.K=K->X.calm=true->∀(i:Nat)(pins:[18])(s:Shared)(σ:St)(H:Hp)(E:Value->Shared->Prop),([48])->(∀b∈fp,FpOk X pins H b)->tn i s.heap->J.stop i H->
  (1,P,w,X.A,pyNext (9,it),(λr s1=>r=none/\(57,s1)),E,s)
 self:∀(A:Around)(i:Nat)(s:Shared)(Q:Value->Shared->Prop)(E:Value->Shared->Prop),tn i s.heap->Q (9,it) s->(1,P,w,A,pyIter (9,it),Q,E,s)
abbrev TI:=St->Hp->(It->Hp->Prop)->Prop
def UJ(X:Cx)(pins:[18])(σ:St)(tg:Expr)(R:It->Hp->Prop)(itv:Value)(s2:Shared):Prop:=
 ∃(it:Addr)(fp:[40])(tn:Nat->Heap->Prop)(J:It)(H':Hp),itv=(9,it)/\(17,H',s2)/\Fh X.prog X.w X.K tg J fp it tn/\tn 0 s2.heap/\(∀b∈fp,FpOk X pins H' b)/\R J H'
def PI(X:Cx)(tg iter:Expr)(wi:TI):Prop:=
 ∀(pins:[18])(s:Shared)(σ:St)(H:Hp)(R:It->Hp->Prop),([48])->wi σ H R->
  (3,X.w,X.A,(14,iter),(λv s1=>(3,X.w,X.A,pyIter v,UJ X pins σ tg R,X.xe,s1)),X.xe,s)
theorem Lv{M:Model}{A:Around}{E:Value->Shared->Prop}{s:Shared}{tg:Expr}{it:Addr}{u:Value}{o:Obj}{n:String}{vs:[33]}{Q:Unit->Shared->Prop}(ho:(28,it)=[46])(hc:o.cls=(54,n))(hd:o.data=.fields vs)
  (hn:["enumerate","zip","dict_itemiterator","dict_reverseitemiterator","odict_iterator","itertools.zip_longest","itertools.pairwise"].contains n=false) (hQ:Q () s):wpAny M A (letOwnedTupleGo tg (9,it) u) Q E s:=by
 unfold letOwnedTupleGo;cases tg <;> first
  |exact(10,hQ)
  | (cases u <;> first
      |exact(10,hQ)
      | (refine(5,wpAny_load ho ?_)
         rw[hc,hd];show wpAny M A (if(["enumerate","zip","dict_itemiterator","dict_reverseitemiterator","odict_iterator","itertools.zip_longest","itertools.pairwise"].contains n && vs[0]? == (1,rawInt _))=true then _ else _) Q E s;rw[(29,(by intro h;rw[hn,Bool.false_and] at h;cases h))]
         exact(10,hQ)))
def Uy(K:Frag)(a:Addr):It:=
 ⟨λi H=>∃xs x,kQ K H a xs/\xs[i]?=(1,x),λi H x H'=>H'=H/\∀xs,kQ K H a xs->xs[i]?=(1,x),λi H=>∃xs,kQ K H a xs/\xs.length<=i⟩
def Ux(K:Frag)(a:Addr):It:=
 ⟨λi H=>∃xs x,nV K H a xs/\xs[i]?=(1,x),λi H x H'=>H'=H/\∀xs,nV K H a xs->xs[i]?=(1,x),λi H=>∃xs,nV K H a xs/\xs.length<=i⟩
def T9(lo:Int)(n:Nat):It:=(11,λi _=>i<n,λi H x H'=>H'=H/\x=(16,(lo+i)),λi _=>n<=i)
theorem GR{P:Program}{w:World}{K:Frag}{tg:Expr}(a it:Addr):Fh P w K tg (Uy K a) [it] it (λi h=>h.IsListIter it a i) where
 mem:=by simp
 obj:=λi h st b hb=>by
  have e:b=it:=by simpa using hb
  subst e;obtain⟨o,e,c,d⟩:=st;exact(11,o,e,λv z=>by rw[d] at z;cases z)
 keep:=λi h h' st k=>st.at λo e=>k it [19] o e
 item:=by
  intro X hP hw hK hc i pins s σ H E I hf st hg;subst hP hw hK;obtain⟨xs,x,hq,hx⟩:=hg;obtain⟨its,rv,p,hz⟩:=I.list hq;obtain⟨u,hu,ru⟩:=rv.get hx;obtain⟨f0,f1,f2,f3,f4,f5⟩:=hf it [19]
  refine wpAny_pyNext_list_item st p.isList (x:=u) (by simpa using hu) λh' st' sb=>?_
  have I1:aN X pins σ H {s with heap:=h'}:=I.turned (t':=s.toks) (λb o hb e=>(sb.2 b hb).trans e) f0 f1 f3 f4 f5;obtain⟨o,e,c,d⟩:=id st';exact(19,u,Lv (s:={s with heap:=h'}) e c d [13] ⟨x,H,I1,ru,(62,λys hy=>by rw[I.list_inj hy hq];exact hx),st',λb hb=>(hf b hb).1⟩)
 done:=by
  intro X hP hw hK hc i pins s σ H E I hf st hg;subst hP hw hK;obtain⟨xs,hq,hx⟩:=hg;obtain⟨its,rv,p,hz⟩:=I.list hq;obtain⟨f0,f1,f2,f3,f4,f5⟩:=hf it [19]
  have hl:=rv.length;exact wpAny_pyNext_list_end (I.ok.hd hc) st p.isList (by simp;omega) λh' eb=>(62,I.turned (t':=s.toks) (λb o hb e=>eb b o hb e) f0 f1 f3 f4 f5)
 self:=λ_ _ _ _ _ st h=>wpAny_pyIter_listiter st h
theorem Dg{P:Program}{w:World}{K:Frag}{tg:Expr}(a it:Addr):Fh P w K tg (Ux K a) [it] it (λi h=>h.IsTupleIter it a i) where
 mem:=by simp
 obj:=λi h st b hb=>by
  have e:b=it:=by simpa using hb
  subst e;obtain⟨o,e,c,d⟩:=st;exact(11,o,e,λv z=>by rw[d] at z;cases z)
 keep:=λi h h' st k=>st.at λo e=>k it [19] o e
 item:=by
  intro X hP hw hK hc i pins s σ H E I hf st hg;subst hP hw hK;obtain⟨xs,x,hq,hx⟩:=hg;obtain⟨its,rv,p,hz⟩:=I.tuple hq;obtain⟨u,hu,ru⟩:=rv.get hx;obtain⟨f0,f1,f2,f3,f4,f5⟩:=hf it [19]
  refine wpAny_pyNext_tuple_item st (show s.heap.IsTuple a its.toArray from p) (x:=u) (by simpa using hu) λh' st' sb=>?_
  have I1:aN X pins σ H {s with heap:=h'}:=I.turned (t':=s.toks) (λb o hb e=>(sb.2 b hb).trans e) f0 f1 f3 f4 f5;obtain⟨o,e,c,d⟩:=id st';exact(19,u,Lv (s:={s with heap:=h'}) e c d [13] ⟨x,H,I1,ru,(62,λys hy=>by rw[I.tuple_inj hy hq];exact hx),st',λb hb=>(hf b hb).1⟩)
 done:=by
  intro X hP hw hK hc i pins s σ H E I hf st hg;subst hP hw hK;obtain⟨xs,hq,hx⟩:=hg;obtain⟨its,rv,p,hz⟩:=I.tuple hq;obtain⟨f0,f1,f2,f3,f4,f5⟩:=hf it [19]
  have hl:=rv.length;exact wpAny_pyNext_tuple_end (I.ok.hd hc) st (show s.heap.IsTuple a its.toArray from p) (by simp;omega) λh' eb=>(62,I.turned (t':=s.toks) (λb o hb e=>eb b o hb e) f0 f1 f3 f4 f5)
 self:=λ_ _ _ _ _ st h=>wpAny_pyIter_tupleiter st h
theorem Dh{P:Program}{w:World}{K:Frag}{tg:Expr}(it:Addr)(lo:Int)(n:Nat):Fh P w K tg (T9 lo n) [it] it (λi h=>IsRangeIter h it (lo+(i:Nat) * 1) ((n:Int) - (i:Nat)) 1) where
 mem:=by simp
 obj:=λi h st b hb=>by
  have e:b=it:=by simpa using hb
  subst e;exact⟨_,st,λv z=>by
   have z':Data.fields _=Data.cell v:=z;cases z'⟩
 keep:=λi h h' st k=>k it [19] _ st
 item:=by
  intro X hP hw hK hc i pins s σ H E I hf st hg;subst hP hw hK;obtain⟨f0,f1,f2,f3,f4,f5⟩:=hf it [19]
  have W:=Walks.range (prog:=X.prog) (w:=X.w) (I.ok.hd hc) it lo 1 n;refine W.item i s _ _ hg st λv h' tk hv st' kk=>?_;obtain⟨t,rfl⟩:=hv;have I1:aN X pins σ H {s with heap:=h',toks:=tk}:=I.turned (λb o hb e=>kk b o (by simpa using hb) e) f0 f1 f3 f4 f5
  refine(19,_,Lv (s:={s with heap:=h',toks:=tk}) (n := "range_iterator") st' rfl rfl [13] ⟨(16,(lo+i)),H,I1,(3,t,?_),(62,rfl),st',λb hb=>(hf b hb).1⟩)
  rw[Int.mul_one]
 done:=by
  intro X hP hw hK hc i pins s σ H E I hf st hg;subst hP hw hK;obtain⟨f0,f1,f2,f3,f4,f5⟩:=hf it [19]
  exact wpAny_pyNext_range_end (I.ok.hd hc) st (by have:n<=i:=hg;omega) λh' eb=>(62,I.turned (t':=s.toks) (λb o hb e=>eb b o hb e) f0 f1 f3 f4 f5)
 self:=λ_ _ _ _ _ st h=>wpAny_pyIter_rangeiter st h
section
variable{X:Cx}{tg:Expr}
theorem Bm{pins:[18]}{σ:St}{H:Hp}{s:Shared}{R:It->Hp->Prop}{E:Value->Shared->Prop}{lo hi:Int}{t u v:Tok}{tk:Nat}(I:[48])(h1:-(2 ^ 62)<=lo)(h2:lo<2 ^ 62)(h3:-(2 ^ 62)<=hi)(h4:hi<2 ^ 62)
  (q:R (T9 lo (hi - lo).toNat) H):wpAny (model X.prog X.w) X.A (pyIter (9,[15])) (UJ X pins σ tg R) E {s with heap:=s.heap.push {cls:=.type "range",data:=.fields #[.int lo t,.int hi u,.int 1 v]},toks:=tk}:=by
 refine wpAny_pyIter_range (IsRange.new ..) (small_one h1 h2 h3 h4) ?_;have I1:aN X pins σ H {s with heap:=s.heap.push {cls:=.type "range",data:=.fields #[.int lo t,.int hi u,.int 1 v]},toks:=tk}:=I.kept λb o e=>(21,e);refine⟨(s.heap.push {cls:=.type "range",data:=.fields #[.int lo t,.int hi u,.int 1 v]}).objs.size,[(s.heap.push {cls:=.type "range",data:=.fields #[.int lo t,.int hi u,.int 1 v]}).objs.size],_,_,H,rfl,
  I1.kept (t':=tk) λb o e=>(21,e),Dh _ lo (hi - lo).toNat,?_,λb hb=>?_,q⟩
 ·have e1:lo+((0:Nat):Int) * 1=lo:=by simp
  have e2:(((hi - lo).toNat:Nat):Int) - ((0:Nat):Int)=Builtin.Range.rangeSize lo hi 1:=by rw[rangeSize_one];split <;> omega
  show IsRangeIter _ _ (lo+((0:Nat):Int) * 1) ((((hi - lo).toNat:Nat):Int) - ((0:Nat):Int)) 1;rw[e1,e2];exact(26,_)
 ·have e:b=(s.heap.push {cls:=.type "range",data:=.fields #[.int lo t,.int hi u,.int 1 v]}).objs.size:=by simpa using hb
  subst e;exact I1.fpOk [25] (I1.hok.fresh [25])
def SK(ta:TA):TI:=λσ H R=>ta σ H λvs H1=>∃j:Int,vs=[(16,j)]/\-(2 ^ 62)<=j/\j<2 ^ 62/\R (T9 0 j.toNat) H1
def SJ(ta:TA):TI:=λσ H R=>ta σ H λvs H1=>∃i j:Int,vs=[(16,i),(16,j)]/\(-(2 ^ 62)<=i/\i<2 ^ 62/\-(2 ^ 62)<=j/\j<2 ^ 62)/\R (T9 i (j - i).toNat) H1
theorem Hz{a:Expr}{ta:TA}{p pos:Pos}(hg:Gl X "range")(hm:X.mg "range" = none)(ha:PA X [a] ta)(hs:(4,[a])=[(false,(14,a))]:=by rfl):PI X tg (5,.Name "range" p,[a],pos) (SK ta):=by
 intro pins s σ H R I h;refine Call_ (mf I hg hm boot_range (34,(cZ (ha pos pins s σ H _ I h) λus s1 ⟨vs,H1,I1,r1,q1⟩=>?_),hs,rfl));obtain⟨j,e,q1,q2,q⟩:=q1;subst e;cases r1 with
 |cons r rr=>
  cases rr;obtain⟨t,rfl⟩:=r;exact call_range_1 (Bm I1 [11] [11] q1 q2 (by simpa using q))
theorem Hw{a b:Expr}{ta:TA}{p pos:Pos}(hg:Gl X "range")(hm:X.mg "range" = none)(ha:PA X [a,b] ta)(hs:(4,[a,b])=[(false,(14,a)),(false,(14,b))]:=by rfl)(hs2:(4,[b])=[(false,(14,b))]:=by rfl):
  PI X tg (5,.Name "range" p,[a,b],pos) (SJ ta):=by
 intro pins s σ H R I h;refine Call_ (mf I hg hm boot_range (34,(cZ (ha pos pins s σ H _ I h) λus s1 ⟨vs,H1,I1,r1,q1⟩=>?_),by rw[hs,hs2],(by rw[hs2];rfl)))
 obtain⟨i,j,e,⟨q1,q2,q3,q4⟩,q⟩:=q1;subst e;cases r1 with
 |cons r rr=>
  cases rr with
  |cons r' rr=>
   cases rr;obtain⟨t,rfl⟩:=r;obtain⟨t',rfl⟩:=r';exact call_range_2 (Bm I1 q1 q2 q3 q4 q)
def TU(wi:TI)(g:TG)(tb:TS):TS:=λD σ H=>wi σ H λJ H1=>∃W:Nat->Nat->St->Hp->Prop,(∃m,W 0 m σ H1)/\∀i m σ H,W i m σ H->
 (J.stop i H/\D.nx σ H)\/(J.go i H/\∃N:St->Hp->Prop,(∀σ' H',N σ' H'->∃m',m'<m/\W (i+1) m' σ' H')/\∀x H',J.yld i H x H'->g x σ H' λσ2 H2=>tb {D with nx:=N,ct:=N,bk:=D.nx} σ2 H2)
def vb(fp:[40])(h:Heap):[18]:=fp.filterMap λb=>(h.get? b).map λo=>(b,o)
theorem m9{fp:[40]}{h:Heap}{b:Addr}{o:Obj}(hb:b∈fp)(e:h.get? b=[46]):(b,o)∈vb fp h:=List.mem_filterMap.mpr (11,b,hb,by rw[e];rfl)
theorem HN{fp:[40]}{h:Heap}{p:Addr×Obj}(hp:p∈vb fp h):p.1∈fp/\h.get? p.1=(1,p.2):=by
 obtain⟨b,hb,e⟩:=List.mem_filterMap.mp hp;cases q:h.get? b with
 |none=>rw[q] at e;cases e
 |some o=>
  rw[q] at e;have e':(b,o)=p:=(50,e);subst e';exact(3,hb,q)
theorem aN.pinned{pins:[18]}{σ:St}{H:Hp}{s:Shared}{fp:[40]}(I:[48])(hf:∀b∈fp,FpOk X pins H b)(ho:∀b∈fp,∃o,(28,b)=[46]/\∀v,o.data≠.cell v):aN X (pins++vb fp s.heap) σ H s:=
 I.pins_of λp hp=>(mem_append.mp hp).elim (λz=>I.pin p (75,z)) λz=>by
  obtain⟨hb,e⟩:=HN z;obtain⟨f0,f1,f2,_⟩:=hf p.1 hb;obtain⟨o,e',d⟩:=ho p.1 hb;rw[e] at e';cases e';exact(4,e,f0,f1,f2,d)
theorem aN.unpinned{pins pl:[18]}{σ:St}{H:Hp}{s:Shared}(I:aN X (pins++pl) σ H s):[48]:=I.pins_of λp hp=>I.pin p (75,mem_append_left _ hp)
theorem PU{iter:Expr}{body:List Stmt}{wi:TI}{g:TG}{tb:TS}{pos:Pos}(hp:PassesOwn (model X.prog X.w) X.A X.env X.xe)(hc:X.calm=true)(hi:PI X tg iter wi)(hg:PG X tg g)(hb:tO X body tb)
  (hs:∀x,foldedSetIterable iter X.env x=pure x:=by intro _;rfl):PS X (.For tg iter body [] pos) (TU wi g tb):=by
 intro pins s σ H D I h;refine wpAny_For (cZ (hi pins s σ H _ I h) λv s1 h1=>cZ h1 λitv s2 h2=>?_) hs;obtain⟨it,fp,tn,J,H2,e,I2,T,st2,f2,W,⟨m0,w0⟩,turn⟩:=h2;subst e;have stat:∀{H':Hp},(∀b∈fp,H' b=none)->∀b∈fp,FpOk X pins H' b:=λhn b hb=>(3,hn b hb,(f2 b hb).2);refine codeAny_forLoop_any (λn s'=>∃i σ' H',(4,X,σ',H',s')/\tn i s'.heap/\(∀b∈fp,H' b=none)/\W i n σ' H') ?_ m0 ⟨0,σ,H2,I2,st2,λb hb=>(f2 b hb).1,w0⟩
 rintro n s3 ⟨i,σ3,H3,I3,st3,fr3,w3⟩
 rcases turn i n σ3 H3 w3 with⟨stop,qn⟩|⟨go,N,hN,step⟩
 ·refine wpAny_passesOwn hp (cZ (T.done X rfl rfl rfl hc i pins s3 σ3 H3 X.xe I3 (stat fr3) st3 stop) λr s4 ⟨hr,I4⟩=>?_);subst hr;exact wpAny_execs_nil (10,σ3,H3,I4,qn)
 ·refine wpAny_passesOwn hp (cZ (T.item X rfl rfl rfl hc i pins s3 σ3 H3 X.xe I3 (stat fr3) st3 go) λr s4 ⟨u,hr,h4⟩=>?_);subst hr;refine wpAny_passesOwn hp (cZ h4 λ_ s5 ⟨x,H5,I5,r5,y5,st5,fr5⟩=>?_);have I5':=I5.pinned (stat fr5) (T.obj _ _ st5);refine wpAny_passesOwn hp (cZ (hg _ s5 σ3 H5 x u _ I5' r5 (step x H5 y5)) λ_ s6 ⟨σ6,H6,I6,q6⟩=>?_);refine wpAny_passesOwn hp (cZ (hb _ s6 σ6 H6 _ I6 q6) λf s7 q7=>?_);have again:∀{σ7:St}{H7:Hp},aN X (pins++vb fp s5.heap) σ7 H7 s7->N σ7 H7->∃m,m<n/\∃i σ' H',(4,X,σ',H',s7)/\tn i s7.heap/\(∀b∈fp,H' b=none)/\W i m σ' H':=λ{σ7 H7} I7 n7=>by
   obtain⟨m',hm,w7⟩:=hN σ7 H7 n7;refine⟨m',hm,i+1,σ7,H7,I7.unpinned,T.keep _ _ _ st5 λb hb o e=>(I7.pin (b,o) (75,(75,m9 hb e))).1,λb hb=>?_,w7⟩;obtain⟨o,e,d⟩:=T.obj _ _ st5 b hb;exact(I7.pin (b,o) (75,(75,m9 hb e))).2.1
  cases f with
  |brk=>obtain⟨σ7,H7,I7,q7⟩:=q7;exact(10,σ7,H7,I7.unpinned,q7)
  |ret v=>obtain⟨x7,σ7,H7,I7,r7,q7⟩:=q7;exact⟨x7,σ7,H7,I7.unpinned,r7,q7⟩
  |_=>obtain⟨σ7,H7,I7,n7⟩:=q7;exact again I7 n7
end
abbrev R2:=V->V->Hp->VK->Prop
def iE(X:Cx)(f:Value->Value->Sem Value)(r:R2):Prop:=
 ∀(pins:[18])(s:Shared)(σ:St)(H:Hp)(x y:V)(v u:Value)(Q:VK),([48])->RelV x v->RelV y u->r x y H Q->
  (3,X.w,X.A,f v u,EP X pins σ Q,X.xe,s)
def Ur(X:Cx)(f:Value->Sem Value)(r:V->Hp->VK->Prop):Prop:=
 ∀(pins:[18])(s:Shared)(σ:St)(H:Hp)(x:V)(v:Value)(Q:VK),([48])->RelV x v->r x H Q->
  (3,X.w,X.A,f v,EP X pins σ Q,X.xe,s)
def dj(X:Cx)(f:Value)(r:([38])->Hp->VK->Prop):Prop:=
 ∀(pins:[18])(s:Shared)(σ:St)(H:Hp)(xs:[38])(us:[21])(Q:VK),([48])->Vals xs us->r xs H Q->
  (3,X.w,X.A,call f us,EP X pins σ Q,X.xe,s)
def Us(X:Cx)(r:V->Hp->(Bool->Hp->Prop)->Prop):Prop:=
 ∀(pins:[18])(s:Shared)(σ:St)(H:Hp)(x:V)(v:Value)(Q:Bool->Hp->Prop),([48])->RelV x v->r x H Q->
  (3,X.w,X.A,truthy v,TP X pins σ Q,X.xe,s)
def RJ(r:R2)(ta tb:TE):TE:=λσ H Q=>ta σ H λx H1=>tb σ H1 λy H2=>r x y H2 Q
def UN(r:V->Hp->VK->Prop)(ta:TE):TE:=λσ H Q=>ta σ H λx H1=>r x H1 Q
def rI(C:Int->Int->Prop)(g:Int->Int->V):R2:=λx y H Q=>∃i j,x=(16,i)/\y=(16,j)/\C i j/\Q (g i j) H
def Mw(g:Int->Int->V):R2:=λx y H Q=>∃i j,x=(16,i)/\y=(16,j)/\Q (g i j) H
def rU(g:Int->V):V->Hp->VK->Prop:=λx H Q=>∃i,x=(16,i)/\Q (g i) H
section
variable{X:Cx}{a b c:Expr}{ta tb tc:TE}{pos:Pos}
theorem Rf(ha:PE X a ta)(hb:PE X b tb){pins:[18]}{s:Shared}{σ:St}{H:Hp}{R:V->V->Hp->Prop}(I:[48])
  (h:ta σ H λx H1=>tb σ H1 λy H2=>R x y H2) {Q:Value->Shared->Prop} {f:Value->Value->Sem Value}
  (hf:∀v u s2 x y H2,(17,H2,s2)->RelV x v->RelV y u->R x y H2->(3,X.w,X.A,f v u,Q,X.xe,s2)):
  (3,X.w,X.A,(14,a),(λv s₁=>(3,X.w,X.A,(14,b),(λu s₂=>(3,X.w,X.A,f v u,Q,X.xe,s₂)),X.xe,s₁)),X.xe,s):=by
 refine cZ (ha pins s σ H _ I h) λv s1 ⟨x,H1,I1,r1,q1⟩=>?_;refine cZ (hb pins s1 σ H1 _ I1 q1) λu s2 ⟨y,H2,I2,r2,q2⟩=>?_;exact hf v u s2 x y H2 I2 r1 r2 q2
theorem OT{op:Operator}{r:R2}(ho:(21,X,op,r))(ha:PE X a ta)(hb:PE X b tb):PE X (.BinOp a op b pos) (RJ r ta tb):=by
 intro pins s σ H Q I h;exact wpAny_BinOp (Rf ha hb I h λv u s2 x y H2 I2 rx ry q=>ho pins s2 σ H2 x y v u Q I2 rx ry q)
theorem Sb{op:UnaryOp}{r:V->Hp->VK->Prop}(ho:Ur X (unaryOp op) r)(ha:PE X a ta):PE X (.UnaryOp op a pos) (UN r ta):=by
 intro pins s σ H Q I h;exact UnaryOp_ (cZ (ha pins s σ H _ I h) λv s1 ⟨x,H1,I1,r1,q1⟩=>ho pins s1 σ H1 x v Q I1 r1 q1)
theorem Ts{f:Value->Value->Sem Value}{C:Int->Int->Prop}{g:Int->Int->Int}
  (rule:∀(i j:Int)(t u:Tok)(s:Shared)(Q:Value->Shared->Prop)(E:Value->Shared->Prop),C i j->Q (.int (g i j) s.toks) {s with toks:=s.toks+1}->(3,X.w,X.A,f (.int i t) (.int j u),Q,E,s)):
  iE X f (rI C λi j=>(16,g i j)):=by
 intro pins s σ H x y v u Q I rx ry h;obtain⟨i,j,rfl,rfl,hc,q⟩:=h;obtain⟨t,rfl⟩:=rx;obtain⟨t',rfl⟩:=ry;exact rule i j t t' s _ _ hc (4,(16,g i j),H,I.tok _,(3,_,rfl),q)
theorem KH{f:Value->Value->Sem Value}{g:Int->Int->Int}
  (rule:∀(i j:Int)(t u:Tok)(s:Shared)(Q:Value->Shared->Prop)(E:Value->Shared->Prop),Q (.int (g i j) s.toks) {s with toks:=s.toks+1}->(3,X.w,X.A,f (.int i t) (.int j u),Q,E,s)):
  iE X f (Mw λi j=>(16,g i j)):=by
 intro pins s σ H x y v u Q I rx ry h;obtain⟨i,j,rfl,rfl,q⟩:=h;obtain⟨t,rfl⟩:=rx;obtain⟨t',rfl⟩:=ry;exact rule i j t t' s _ _ (4,(16,g i j),H,I.tok _,(3,_,rfl),q)
theorem Qp{f:Value->Value->Sem Value}{g:Int->Int->Bool}
  (rule:∀(i j:Int)(t u:Tok)(s:Shared)(Q:Value->Shared->Prop)(E:Value->Shared->Prop),Q (.bool (g i j)) s->(3,X.w,X.A,f (.int i t) (.int j u),Q,E,s)):
  iE X f (Mw λi j=>.bl (g i j)):=by
 intro pins s σ H x y v u Q I rx ry h;obtain⟨i,j,rfl,rfl,q⟩:=h;obtain⟨t,rfl⟩:=rx;obtain⟨t',rfl⟩:=ry;exact rule i j t t' s _ _ (4,.bl (g i j),H,I,rfl,q)
def UB(i j:Int):Prop:=0<=j/\j<=1000000/\i.natAbs<2 ^ 64
def Rp(i j:Int):Prop:=(-(2 ^ 64)<i/\i<2 ^ 64)\/(-(2 ^ 64)<j/\j<2 ^ 64)
theorem Rp.ok{i j:Int}(h:Rp i j):IntMulOk i j:=by
 rcases h with⟨h1,h2⟩|⟨h1,h2⟩
 ·exact .of_left (intBits_le_64 h1 h2)
 ·exact .of_right (intBits_le_64 h1 h2)
theorem Df(k:Nat):(0:Int)<=2 ^ k:=by
 rw[two_pow_cast];exact Int.natCast_nonneg _
theorem Qo:(21,X,.Add,(Mw λi j=>(16,(i+j)))):=KH λ_ _ _ _ _ _ _ q=>add_int q
theorem Qh:(21,X,.Sub,(Mw λi j=>(16,(i - j)))):=KH λ_ _ _ _ _ _ _ q=>sub_int q
theorem Ql:(21,X,.Mult,(rI Rp λi j=>(16,(i * j)))):=Ts λ_ _ _ _ _ _ _ hc q=>mul_int q hc.ok
theorem Qm:(21,X,.Mod,(rI (λ_ j=>0<j) λi j=>(16,(i % j)))):=Ts λi j _ _ _ _ _ hc q=>by
 have h1:(0:Int)<j:=hc;exact mod_int' [11] (by rw[Int.fmod_eq_emod_of_nonneg i [11]];exact q)
theorem Qj:(21,X,.LShift,(rI UB λi j=>(16,(i * 2 ^ j.toNat)))):=Ts λ_ _ _ _ _ _ _ hc q=>lshift_int_small hc.1 hc.2.1 hc.2.2 q
theorem Qi:(21,X,.RShift,(rI (λ_ j=>0<=j) λi j=>(16,(i / 2 ^ j.toNat)))):=Ts λi j _ _ _ _ _ hc q=>
 rshift_int hc (by rw[Int.fdiv_eq_ediv_of_nonneg i (Df _)];exact q)
theorem Qn:(21,X,.BitAnd,(Mw λi j=>(16,Builtin.bitAnd i j))):=KH λ_ _ _ _ _ _ _ q=>and_int q
theorem Sj:(21,X,.BitOr,(Mw λi j=>(16,Builtin.bitOr i j))):=KH λ_ _ _ _ _ _ _ q=>or_int q
theorem Qg:(21,X,.BitXor,(Mw λi j=>(16,Builtin.bitXor i j))):=KH λ_ _ _ _ _ _ _ q=>xor_int q
theorem UM{f:Value->Sem Value}{g:Int->Int}
  (rule:∀(i:Int)(t:Tok)(s:Shared)(Q:Value->Shared->Prop)(E:Value->Shared->Prop),Q (.int (g i) s.toks) {s with toks:=s.toks+1}->(3,X.w,X.A,f (.int i t),Q,E,s)):
  Ur X f (rU λi=>(16,g i)):=by
 intro pins s σ H x v Q I rx h;obtain⟨i,rfl,q⟩:=h;obtain⟨t,rfl⟩:=rx;exact rule i t s _ _ (4,(16,g i),H,I.tok _,(3,_,rfl),q)
theorem Pi:Ur X (unaryOp .USub) (rU λi=>(16,(-i))):=UM λ_ _ _ _ _ q=>neg_int q
end
def Pv:V->V->Bool
 |.non,.non=>true|.non,.int _=>true|.int _,.non=>true|.non,.bl _=>true|.bl _,.non=>true|.non,.str _=>true|.str _,.non=>true
 |.int _,.int _=>true|.bl _,.bl _=>true|.str _,.str _=>true|.byt _,.byt _=>true
 |.int _,.str _=>true|.str _,.int _=>true|.bl _,.str _=>true|.str _,.bl _=>true
 |_,_=>false
def UV:R2:=λx y H Q=>Pv x y=true/\Q (.bl (decide (x=y))) H
def UU:R2:=λx y H Q=>Pv x y=true/\Q (.bl (!decide (x=y))) H
theorem Gs{i j:Int}:decide (V.int i=V.int j)=(i == j):=by
 rw[Bool.eq_iff_iff];simp
theorem M4{i j:Bool}:decide (V.bl i=V.bl j)=(i == j):=by
 rw[Bool.eq_iff_iff];simp
theorem Gr{i j:Str}:decide (V.str i=V.str j)=(i == j):=by
 rw[Bool.eq_iff_iff];simp
theorem Gu{i j:Array UInt8}:decide (V.byt i=V.byt j)=(i.toList == j.toList):=by
 rw[Bool.eq_iff_iff];cases i;cases j;simp
section
variable{X:Cx}{a b c:Expr}{ta tb tc:TE}{pos:Pos}
theorem cq{pins:[18]}{σ:St}{H:Hp}{s:Shared}{Q:VK}{k k':Bool}(I:[48])(q:Q (.bl k) H)(e:k=k'):EP X pins σ Q (.bool k') s:=by
 subst e;exact(4,.bl k,H,I,rfl,q)
theorem So:(19,X,.Eq,UV):=by
 intro pins s σ H x y v u Q I rx ry h;obtain⟨hs,q⟩:=h;cases x with
 |non=>
  cases rx;cases y with
  |non=>cases ry;exact PySem.EqNone.eq_none_none (cq I q [19])
  |bl j=>cases ry;exact PySem.EqNone.eq_none_bool (cq I q [19])
  |int j=>obtain⟨t',rfl⟩:=ry;exact PySem.EqNone.eq_none_int (cq I q [19])
  |str j=>obtain⟨t',rfl⟩:=ry;exact PySem.EqNone.eq_none_str (cq I q [19])
  |_=>exact[35]
 |bl i=>
  cases rx;cases y with
  |non=>cases ry;exact PySem.EqNone.eq_bool_none (cq I q [19])
  |bl j=>cases ry;exact eq_bool (cq I q M4)
  |str j=>obtain⟨t',rfl⟩:=ry;exact PySem.EqMixed.eq_bool_str (cq I q [19])
  |_=>exact[35]
 |int i=>
  obtain⟨t,rfl⟩:=rx;cases y with
  |non=>cases ry;exact PySem.EqNone.eq_int_none (cq I q [19])
  |int j=>obtain⟨t',rfl⟩:=ry;exact eq_int (cq I q Gs)
  |str j=>obtain⟨t',rfl⟩:=ry;exact PySem.EqMixed.eq_int_str (cq I q [19])
  |_=>exact[35]
 |str i=>
  obtain⟨t,rfl⟩:=rx;cases y with
  |non=>cases ry;exact PySem.EqNone.eq_str_none (cq I q [19])
  |bl j=>cases ry;exact PySem.EqMixed.eq_str_bool (cq I q [19])
  |int j=>obtain⟨t',rfl⟩:=ry;exact PySem.EqMixed.eq_str_int (cq I q [19])
  |str j=>obtain⟨t',rfl⟩:=ry;exact eq_str (cq I q Gr)
  |_=>exact[35]
 |byt i=>
  obtain⟨t,rfl⟩:=rx;cases y with
  |byt j=>obtain⟨t',rfl⟩:=ry;exact PySem.W.eq_bytes (cq I q Gu)
  |_=>exact[35]
 |_=>cases y <;> exact[35]
theorem Sk:(19,X,.NotEq,UU):=by
 intro pins s σ H x y v u Q I rx ry h;obtain⟨hs,q⟩:=h;cases x with
 |non=>
  cases rx;cases y with
  |non=>cases ry;exact PySem.EqNone.ne_none_none (cq I q [19])
  |bl j=>cases ry;exact PySem.EqNone.ne_none_bool (cq I q [19])
  |int j=>obtain⟨t',rfl⟩:=ry;exact PySem.EqNone.ne_none_int (cq I q [19])
  |str j=>obtain⟨t',rfl⟩:=ry;exact PySem.EqNone.ne_none_str (cq I q [19])
  |_=>exact[35]
 |bl i=>
  cases rx;cases y with
  |non=>cases ry;exact PySem.EqNone.ne_bool_none (cq I q [19])
  |bl j=>cases ry;exact ne_bool (cq I q (congrArg not M4))
  |str j=>obtain⟨t',rfl⟩:=ry;exact PySem.EqMixed.ne_bool_str (cq I q [19])
  |_=>exact[35]
 |int i=>
  obtain⟨t,rfl⟩:=rx;cases y with
  |non=>cases ry;exact PySem.EqNone.ne_int_none (cq I q [19])
  |int j=>obtain⟨t',rfl⟩:=ry;exact ne_int (cq I q (congrArg not Gs))
  |str j=>obtain⟨t',rfl⟩:=ry;exact PySem.EqMixed.ne_int_str (cq I q [19])
  |_=>exact[35]
 |str i=>
  obtain⟨t,rfl⟩:=rx;cases y with
  |non=>cases ry;exact PySem.EqNone.ne_str_none (cq I q [19])
  |bl j=>cases ry;exact PySem.EqMixed.ne_str_bool (cq I q [19])
  |int j=>obtain⟨t',rfl⟩:=ry;exact PySem.EqMixed.ne_str_int (cq I q [19])
  |str j=>obtain⟨t',rfl⟩:=ry;exact ne_str (cq I q (congrArg not Gr))
  |_=>exact[35]
 |byt i=>
  obtain⟨t,rfl⟩:=rx;cases y with
  |byt j=>obtain⟨t',rfl⟩:=ry;exact PySem.W.ne_bytes (cq I q (congrArg not Gu))
  |_=>exact[35]
 |_=>cases y <;> exact[35]
theorem Sl:(19,X,.Lt,(Mw λi j=>.bl (decide (i<j)))):=Qp λ_ _ _ _ _ _ _ q=>lt_int q
theorem Sm:(19,X,.LtE,(Mw λi j=>.bl (decide (i<=j)))):=Qp λ_ _ _ _ _ _ _ q=>le_int q
theorem Sn:(19,X,.Gt,(Mw λi j=>.bl (decide (j<i)))):=Qp λ_ _ _ _ _ _ _ q=>gt_int q
theorem iE.or{f:Value->Value->Sem Value}{r r':R2}(h:iE X f r)(h':iE X f r'):iE X f (λx y H Q=>r x y H Q\/r' x y H Q):=by
 intro pins s σ H x y v u Q I rx ry q;rcases q with q|q
 ·exact h pins s σ H x y v u Q I rx ry q
 ·exact h' pins s σ H x y v u Q I rx ry q
theorem KM(b:Expr){op:CmpOp}(h:op≠.In:=by decide)(h2:op≠.NotIn:=by decide):behindInMarks op b=false:=by
 have e1:(op == CmpOp.In)=false:=by cases op <;> first|rfl|exact(32,rfl,h)
 have e2:(op == CmpOp.NotIn)=false:=by cases op <;> first|rfl|exact(32,rfl,h2)
 cases b <;> simp[behindInMarks,e1,e2]
theorem NB{op:CmpOp}{r:R2}(ho:(19,X,op,r))(ha:PE X a ta)(hb:PE X b tb)(hm:behindInMarks op b=false):PE X (.Compare a [op] [b] pos) (RJ r ta tb):=by
 intro pins s σ H Q I h;exact wpAny_Compare1 (Rf ha hb I h λv u s2 x y H2 I2 rx ry q=>ho pins s2 σ H2 x y v u Q I2 rx ry q) hm
def RH(t:TE):TT:=λσ H Q=>t σ H λx H'=>∃k,x=.bl k/\Q k H'
theorem Nk{op:CmpOp}{r:R2}(ho:(19,X,op,r))(ha:PE X a ta)(hb:PE X b tb)(hm:behindInMarks op b=false):PT X (.Compare a [op] [b] pos) (RH (RJ r ta tb)):=by
 intro pins s σ H Q I h;refine wpAny_isTrue_Compare1 (cZ (ha pins s σ H _ I h) λv s1 ⟨x,H1,I1,r1,q1⟩=>cZ (hb pins s1 σ H1 _ I1 q1) λu s2 ⟨y,H2,I2,r2,q2⟩=>
  cZ (ho pins s2 σ H2 x y v u _ I2 r1 r2 q2) λc s3 ⟨z,H3,I3,r3,k,e,q3⟩=>?_) hm
 subst e;cases r3;exact wpAny_truthy_bool (11,H3,I3,q3)
def JK(r r':R2)(ta tb tc:TE):TE:=λσ H Q=>ta σ H λx H1=>tb σ H1 λy H2=>r x y H2 λz H3=>∃k,z=.bl k/\
 (if k=true then tc σ H3 λw' H4=>r' y w' H4 Q else Q (.bl false) H3)
theorem Ks{op op':CmpOp}{r r':R2}(ho:(19,X,op,r))(ho':(19,X,op',r'))(ha:PE X a ta)(hb:PE X b tb)(hc:PE X c tc)
  (hm:lastMarks [op,op'] [b,c]=false:=by with_unfolding_all rfl):PE X (.Compare a [op,op'] [b,c] pos) (JK r r' ta tb tc):=by
 intro pins s σ H Q I h;refine Compare_chain (cZ (ha pins s σ H _ I h) λv s1 ⟨x,H1,I1,r1,q1⟩=>chain_link (cZ (hb pins s1 σ H1 _ I1 q1) λu s2 ⟨y,H2,I2,r2,q2⟩=>
  cZ (ho pins s2 σ H2 x y v u _ I2 r1 r2 q2) λd s3 ⟨z,H3,I3,r3,k,e,q3⟩=>?_)) hm
 subst e;cases r3;refine wpAny_truthy_bool ?_;cases k with
 |false=>exact ite_ff (4,.bl false,H3,I3,rfl,q3)
 |true=>exact ite_tt (chain_last (cZ (hc pins s3 σ H3 _ I3 q3) λw' s4 ⟨z',H4,I4,r4,q4⟩=>ho' pins s4 σ H4 y z' u w' Q I4 r2 r4 q4))
def Ri(K:Frag)(x:V)(H:Hp)(k:Bool):Prop:=
 match x with
 |.non=>k=false
 |.bl b=>k=b
 |.int i=>k=(i != 0)
 |.str y=>y.length<=sizeLine/\k=((y.length:Int) != 0)
 |.byt y=>y.size<=sizeLine/\k=((y.size:Int) != 0)
 |.ref p=>(∃xs,kQ K H p xs/\k=!xs.isEmpty)\/(∃xs,nV K H p xs/\k=!xs.isEmpty)\/∃kvs,H p=(1,.dK kvs)/\k=!kvs.isEmpty
 |_=>False
theorem EE{κ:Type}{kvs:List (κ×V)}{vs:List (κ×Value)}(r:KV kvs vs):(!vs.isEmpty)=!kvs.isEmpty:=by
 cases r <;> rfl
theorem vD{xs:[38]}{its:[21]}(r:Vals xs its):(!its.toArray.isEmpty)=!xs.isEmpty:=by
 cases r <;> simp
theorem pI:(sizeLine:Nat)<2 ^ 63:=by rw[sizeLine_eq];decide
theorem Pk:Us X (λx H Q=>∃k,Ri X.K x H k/\Q k H):=by
 intro pins s σ H x v Q I rx h;obtain⟨k,e,q⟩:=h;have hl:=pI;have hs:sizeLine=16777216:=sizeLine_eq;cases x with
 |non=>
  cases rx;have e':k=false:=e;subst e';exact truthy_none (11,H,I,q)
 |bl b=>
  cases rx;have e':k=b:=e;subst e';exact wpAny_truthy_bool (11,H,I,q)
 |int i=>
  obtain⟨t,rfl⟩:=rx;have e':k=(i != 0):=e;subst e';exact PySem.P.truthy_int (11,H,I,q)
 |str y=>
  obtain⟨t,rfl⟩:=rx;obtain⟨hy,e'⟩:y.length<=sizeLine/\k=((y.length:Int) != 0):=e;subst e';exact PySem.P.truthy_str [11] (11,H,I.tok _,q)
 |byt y=>
  obtain⟨t,rfl⟩:=rx;obtain⟨hy,e'⟩:y.size<=sizeLine/\k=((y.size:Int) != 0):=e;subst e';exact PySem.W.truthy_bytes [11] (11,H,I.tok _,q)
 |ref p=>
  cases rx;have e':(∃xs,kQ X.K H p xs/\k=!xs.isEmpty)\/(∃xs,nV X.K H p xs/\k=!xs.isEmpty)\/∃kvs,H p=(1,.dK kvs)/\k=!kvs.isEmpty:=e;rcases e' with⟨xs,hx,e'⟩|⟨xs,hx,e'⟩|⟨kvs,hx,e'⟩
  ·subst e';obtain⟨its,r,pl,hz⟩:=I.list hx;have hlen:=r.length;exact wpAny_truthy_list pl.isList (by simp only[size_toArray];omega) (11,H,I.tok _,by rw[vD r];exact q)
  ·subst e';obtain⟨its,r,pl,hz⟩:=I.tuple hx;have hlen:=r.length;exact truthy_tuple pl (by simp only[size_toArray];omega) (11,H,I.tok _,by rw[vD r];exact q)
  ·subst e';obtain⟨hz,hS,vs,r,m⟩:kvs.length<=sizeLine/\(p == sysModules)=false/\∃vs,KV kvs vs/\s.heap.DictOf (dW X.prog X.w) p vs:=I.hok p _ hx;have hlen:kvs.length=vs.length:=Paired.length r;exact wpAny_truthy_dict hS m [11] (11,H,I.tok _,by rw[EE r];exact q)
 |_=>exact(show False from e).elim
theorem K2(ha:PE X a ta)(he:∀whole,isTrue a X.env whole=(do let v ←whole;standAt a.pos;holding [v] (truthy v))):
  PT X a (λσ H Q=>ta σ H λx H'=>∃k,Ri X.K x H' k/\Q k H'):=by
 intro pins s σ H Q I h;exact isTrue_plain (cZ (ha pins s σ H _ I h) λv s1 ⟨x,H1,I1,r1,q1⟩=>Pk pins s1 σ H1 x v Q I1 r1 q1) (he _)
theorem DU:(21,X,.Add,(λx y H Q=>∃i j,x=.str i/\y=.str j/\i.length+j.length<=sizeLine/\Q (.str (i++j)) H)):=by
 intro pins s σ H x y v u Q I rx ry h;obtain⟨i,j,rfl,rfl,hz,q⟩:=h;obtain⟨t,rfl⟩:=rx;obtain⟨t',rfl⟩:=ry;exact add_str (λt' tk=>(4,.str (i++j),H,I.tok _,(3,_,rfl),q)) hz
theorem kR{x:V}{us:[21]}(r:Vals [x] us):∃u,us=[u]/\RelV x u:=by
 cases r with
 |cons r1 r2=>cases r2;exact(19,_,r1)
theorem AK{x y:V}{us:[21]}(r:Vals [x,y] us):∃u w',us=[u,w']/\RelV x u/\RelV y w':=by
 cases r with
 |cons r1 r2=>
  cases r2 with
  |cons r3 r4=>cases r4;exact(4,_,_,rfl,r1,r3)
theorem IU(hc:X.calm=true):dj X (44,"max") (λxs H Q=>∃i j,xs=[(16,i),(16,j)]/\Q (16,(if j > i then j else i)) H):=by
 intro pins s σ H xs us Q I r h;obtain⟨i,j,rfl,q⟩:=h;obtain⟨u,w',rfl,⟨t,rfl⟩,⟨t',rfl⟩⟩:=AK r;refine max_two_ints (I.ok.hd hc) λh' tk k=>(4,_,H,I.kept k,?_,q);by_cases hj:j > i
 ·rw[(25,hj),(25,hj)];exact(3,_,rfl)
 ·rw[(29,hj),(29,hj)];exact(3,_,rfl)
end
structure Fj(h:Heap)(x dx C:Addr)(mA:Str->Option Value):Prop where
 obj:h.get? x=(1,instObj C dx)
 ns:h.Ns1 dx mA
 ne:dx≠x
theorem Io{h:Heap}{dx:Addr}{mA:Str->[30]}(n:h.Ns1 dx mA):∃od,h.get? dx=(1,od)/\∀name,lookIn name od=(1,mA name):=by
 obtain⟨o,es,ep,ho,hd,hk,_,hm⟩:=n;refine(11,o,ho,λname=>?_);have e:=hm name;unfold nsFind findBy at e;rw[←Array.find?_toList] at e;unfold lookIn;rw[hd];dsimp only;split
 ·rename_i y q;rw[q] at e;exact congrArg some e
 ·rename_i q;rw[q] at e;have a:es.toList.any (·.refKey)=false:=by
   rw[List.any_eq_false];intro y hy;obtain⟨z,t,hkey⟩:=hk y (Array.mem_toList_iff.mp hy);simp[DictEntry.refKey,hkey]
  have a':¬es.toList.any (·.refKey)=true:=by rw[a];exact Bool.false_ne_true
  rw[(29,a')];exact congrArg some e
theorem Fj.look{h:Heap}{x dx C:Addr}{mA:Str->[30]}(I:Fj h x dx C mA):∃od,PySem.W.InstAt h x (instObj C dx) C (1,od)/\∀name,lookIn name od=(1,mA name):=
 let ⟨od,ho,hl⟩:=Io I.ns
 (11,od,(10,I.obj,rfl,rfl,ho),hl)
section
variable{prog:Program}{w:World}{A:Around}{E:Value->Shared->Prop}{s:Shared}{K:Frag}{x dx C f:Addr}{mA:Str->Option Value}{name:Str}{v:Value}
theorem Of{expr:Bool}{Q:Value->Shared->Prop}(X:K.In s.heap)(I:Fj s.heap x dx C mA)(hg:plainGet K C name=true)(hh:hasDictIn K C=true)
  (ha:(7,K,C,name)=[62]) (hv:mA name=(1,v)) (hv':handedIn v=true) (h:Q v {s with toks:=s.toks+1}):
  (1,prog,w,A,getAttr (9,x) name expr,Q,E,s):=by
 obtain⟨od,J,hl⟩:=I.look;exact PySem.W.get_value X J (plainGet_of hg).1 (PySem.W.findObj_own hh ha rfl (by rw[hl,hv])) hv' h
theorem Lw{pl:Sem Bool}{Q:Value×([21])->Shared->Prop}(X:K.In s.heap)(I:Fj s.heap x dx C mA)(hg:plainGet K C name=true)
  (hf:(7,K,C,name)=(33,f)) (ht:isFn K (9,f)=true) (hv:mA name=none) (h:Q ((9,f),[(9,x)]) s):
  (1,prog,w,A,getMethod (9,x) name pl,Q,E,s):=by
 obtain⟨od,J,hl⟩:=I.look;exact PySem.W.method_fn X J (plainGet_of hg).1 (plainGet_of hg).2 hf (beq_iff_eq.mp ht) (by show(lookIn name od).map (·.isSome)=(1,false);rw[hl,hv];rfl) h
theorem N9{ns:[16]}{Q:Unit->Shared->Prop}(X:K.In s.heap)(I:Fj s.heap x dx C mA)
  (hs:(7,K,C,"__setattr__") = (31,(44,"object.__setattr__"))) (hp:plainOver K C=true) (ht:takerIn K C name=[62]) (hh:hasDictIn K C=true)
  (hw:PySem.Within mA ns) (hsz:ns.length<=sizeLine)
  (h:∀h',Fj h' x dx C (λy=>if y=name then(1,v) else mA y)->Heap.SameBut dx s.heap h'->Q () {s with heap:=h',toks:=s.toks+2}):
  (1,prog,w,A,setAttr (9,x) name v,Q,E,s):=by
 obtain⟨od,J,hl⟩:=I.look;refine PySem.W.set_plain X J hs (PySem.W.osa_open (s:={s with toks:=s.toks+1}) (r:=none) X J hp ht λb=>?_);obtain⟨cd,hc,hd'⟩:=PySem.W.any_some hh;have hx:(28,x)=(1,(10,(9,C),(1,dx),.plain,#[])):=I.obj;refine(5,(10,(5,(5,wpAny_loadPart hx (5,PySem.W.Looks.here (s:={s with toks:=s.toks+1}) (PySem.W.looks_clsIn X hc) ?_)))));rw[hd'];refine wpAny_pure (a:=(1,dx)) (5,(10,(5,?_)));refine wpAny_nsSet1 (s:={s with toks:=s.toks+1}) I.ns λh' hn2 hs2=>?_;obtain⟨oD,esD,epD,hoD,hdD,hcD⟩:=hn2.count (PySem.Within.cons name v hw);refine(5,wpAny_lookBehind hoD (by rw[hdD];exact pastItsLine_dict (le_trans hcD (by rw[length_cons];omega))) ?_)
 exact(10,h _ (11,(hs2.2 _ (Ne.symm I.ne)).trans I.obj,hn2,I.ne) hs2)
theorem L6{R:Result->Shared->Prop}{vs:[21]}{kw:List (Str×Value)}(X:K.In s.heap)(hm:makesIn K C=true)
  (hi:(7,K,C,"__init__") = (33,f)) (hf:PySem.W.typeIn K (9,f)=(1,(54,"function")))
  (h:codeAny (model prog w) (A.under (.builtin "type.__call__" (3,(9,C)::vs,kw))) (.call (9,f) (3,(9,(s.heap.objs.size+1))::vs,kw)) (PySem.W.InitBack (s.heap.objs.size+1) R)
   {s with heap:=(s.heap.push emptyDict).push (instObj C s.heap.objs.size)}):
  codeAny (model prog w) A (.call (9,C) (3,vs,kw)) R s:=by
 obtain⟨hh,g,d,t,os⟩:=s;exact PySem.W.make_core (PySem.W.makes_of X hm) (PySem.W.looks_findIn X hi) (λself=>PySem.W.bind_fn X self hf) [42] h
end
def mT(f:Str)(v:V):List (Str×V)->List (Str×V)
 |[]=>[(f,v)]
 | (g,x)::r=>if g=f then(g,v)::r else(g,x)::mT f v r
theorem sE(f g:Str)(v:V):∀fs:List (Str×V),(mT f v fs).lookup g=if g=f then(1,v) else fs.lookup g
 |[]=>by
  show List.lookup g [(f,v)]=_;by_cases h:g=f
  ·have hb:(g == f)=true:=beq_iff_eq.mpr h;simp only[List.lookup,hb,(25,h)]
  ·have hb:(g == f)=false:=beq_eq_false_iff_ne.mpr h;simp only[List.lookup,hb,(29,h)]
 | (k,x)::r=>by
  have ih:=sE f g v r;rw[show mT f v ((k,x)::r)=(if k=f then(k,v)::r else(k,x)::mT f v r) from rfl];by_cases hk:k=f
  ·rw[(25,hk)];by_cases h:g=k
   ·have hb:(g == k)=true:=beq_iff_eq.mpr h;simp only[List.lookup,hb,(25,h.trans hk)]
   ·have hb:(g == k)=false:=beq_eq_false_iff_ne.mpr h;simp only[List.lookup,hb,if_neg (λe:g=f=>h (e.trans hk.symm))]
  ·rw[(29,hk)];by_cases h:g=k
   ·have hb:(g == k)=true:=beq_iff_eq.mpr h;simp only[List.lookup,hb,if_neg (λe:g=f=>hk (h.symm.trans e))]
   ·have hb:(g == k)=false:=beq_eq_false_iff_ne.mpr h;simp only[List.lookup,hb];exact ih
theorem rW(f:Str)(v:V):∀fs:List (Str×V),f∈(mT f v fs).map (·.1)/\∀g,g∈fs.map (·.1)->g∈(mT f v fs).map (·.1)
 |[]=>(3,by simp[mT],λg h=>by simp at h)
 | (k,x)::r=>by
  obtain⟨i1,i2⟩:=rW f v r;rw[show mT f v ((k,x)::r)=(if k=f then(k,v)::r else(k,x)::mT f v r) from rfl];by_cases hk:k=f
  ·rw[(25,hk)];subst hk;exact(3,by simp,λg h=>by simpa using h)
  ·rw[(29,hk)];refine(3,?_,λg h=>?_)
   ·rw[map_cons];exact(30,i1)
   ·rw[map_cons] at h ⊢;rcases mem_cons.mp h with e|e
    ·exact mem_cons.mpr (.inl e)
    ·exact(30,i2 g e)
theorem sJ(f:Str)(v:V):∀fs:List (Str×V),(mT f v fs).length<=fs.length+1
 |[]=>by simp[mT]
 | (k,x)::r=>by
  have ih:=sJ f v r;rw[show mT f v ((k,x)::r)=(if k=f then(k,v)::r else(k,x)::mT f v r) from rfl];by_cases hk:k=f
  ·rw[(25,hk),length_cons,length_cons];omega
  ·rw[(29,hk),length_cons,length_cons];omega
theorem RelO.some_of{v:V}{o:[30]}(r:RelO (1,v) o):∃u,o=(1,u)/\RelV v u:=by
 cases o with
 |none=>exact(show False from r).elim
 |some u=>exact(19,u,r)
theorem RelO.none_of{o:[30]}(r:RelO none o):o=none:=by
 cases o with
 |none=>rfl
 |some u=>exact(show False from r).elim
theorem IB{v:V}{u:Value}(r:RelV v u):handedIn u=true:=by
 cases v with
 |non=>cases (show u=Value.none from r);rfl
 |bl b=>cases (show u=Value.bool b from r);rfl
 |int i=>obtain⟨t,e⟩:=(show ∃t,u=Value.int i t from r);cases e;rfl
 |str x=>obtain⟨t,e⟩:=(show ∃t,u=Value.str x t from r);cases e;rfl
 |byt b=>obtain⟨t,e⟩:=(show ∃t,u=Value.bytes b t from r);cases e;rfl
 |flt b=>obtain⟨t,e⟩:=(show ∃t,u=Value.float b t from r);cases e;rfl
 |ref a=>cases (show u=Value.ref a from r);rfl
 |ty n=>cases (show u=Value.type n from r);rfl
section
variable{P:Program}{w:World}{H H':Hp}{h h':Heap}{a C dx:Addr}{fs fs':List (Str×V)}
theorem ue(hok:mK P w H h)(e:H a=(1,.ins C dx fs)):∃mA,Fj h a dx C mA/\(∀f,RelO (fs.lookup f) (mA f))/\PySem.Within mA (fs.map (·.1))/\fs.length<=1000/\H dx=(12,a):=by
 obtain⟨d,z,ne,ob,mA,n,r,q⟩:=(show cV P w H h a (.ins C dx fs) from hok a _ e);exact⟨mA,(11,ob,n,ne),r,q,z,d⟩
end
structure fB(K:Frag)(C:Addr):Prop where
 pg:plainGet K C Str.empty=true
 hd:hasDictIn K C=true
 po:plainOver K C=true
 sa:(7,K,C,"__setattr__") = (31,(44,"object.__setattr__"))
theorem fB.get{K:Frag}{C:Addr}(c:fB K C)(f:Str):plainGet K C f=true:=c.pg
def aY(K:Frag)(C:Addr)(f:Str):Prop:=(7,K,C,f)=[62]
theorem aY.taker{K:Frag}{C:Addr}{f:Str}(n:aY K C f):takerIn K C f=[62]:=by
 unfold takerIn;rw[show(7,K,C,f)=[62] from n];rfl
structure D4(K:Frag)(C:Addr)(m:Str)(f:Addr):Prop where
 at_:(7,K,C,m)=(33,f)
 fn:isFn K (9,f)=true
 kp:(39,K,f)=true
section
variable{X:Cx}{pins:List (Addr×Obj)}{σ:St}{H:Hp}{s:Shared}{a C dx:Addr}{fs:List (Str×V)}{f:Str}{v:V}{A:Around}{E:Value->Shared->Prop}
theorem EN{b:Bool}{Q:Value->Shared->Prop}(I:[48])(e:H a=(1,.ins C dx fs))(c:fB X.K C)(n:aY X.K C f)(l:fs.lookup f=(1,v))
  (h:∀u s',(57,s')->RelV v u->Q u s'):(3,X.w,A,getAttr (9,a) f b,Q,E,s):=by
 obtain⟨mA,O,r,_,_,_⟩:=ue I.hok e;obtain⟨u,hu,ru⟩:=RelO.some_of (v:=v) (o:=mA f) (by rw[←l];exact r f)
 exact Of I.kIn O (c.get f) c.hd n hu (IB ru) (h u _ (I.tok _) ru)
theorem mh{m:Str}{g:Addr}{pl:Sem Bool}{Q:Value×([21])->Shared->Prop}(I:[48])(e:H a=(1,.ins C dx fs))(c:fB X.K C)(k:D4 X.K C m g)(l:fs.lookup m=none)
  (h:Q ((9,g),[(9,a)]) s):(3,X.w,A,getMethod (9,a) m pl,Q,E,s):=by
 obtain⟨mA,O,r,_,_,_⟩:=ue I.hok e;have hn:mA m=none:=RelO.none_of (by rw[←l];exact r m)
 exact Lw I.kIn O (c.get m) k.at_ k.fn hn h
theorem DB{y:V}{u:Value}{Q:Unit->Shared->Prop}(I:[48])(e:H a=(1,.ins C dx fs))(c:fB X.K C)(n:aY X.K C f)(hl:fs.length<1000)(ry:RelV y u)
  (h:∀s',(17,cF H a (.ins C dx (mT f y fs)),s')->Q () s'):(3,X.w,A,setAttr (9,a) f u,Q,E,s):=by
 obtain⟨mA,O,r,wi,_,ho⟩:=ue I.hok e;have hz:(fs.map (·.1)).length<=sizeLine:=by rw[length_map,sizeLine_eq];omega
 refine N9 I.kIn O c.sa c.po n.taker c.hd wi hz λh' O' sb=>h _ ?_;have hd:∃o,(63,dx)=[46]:=let ⟨o,_,_,e',_⟩:=O'.ns;(3,o,e');refine I.write (x:=a) (e:=dx) (by rw[e];exact True.intro) (.inr ho) (λb q hb z=>(sb.2 b hb).trans z) hd ?_
 refine⟨by rw[az O.ne];exact ho,?_,O.ne,O'.obj,_,O'.ns,λg=>?_,λg hg=>?_⟩
 ·have:=sJ f y fs;omega
 ·show RelO ((mT f y fs).lookup g) (if g=f then(1,u) else mA g);rw[sE];by_cases q:g=f
  ·rw[(25,q),(25,q)];exact ry
  ·rw[(29,q),(29,q)];exact r g
 ·by_cases q:g=f
  ·rw[q];exact(rW f y fs).1
  ·refine(rW f y fs).2 g (wi g λz=>hg ?_);show(if g=f then(1,u) else mA g)=none;rw[(29,q)];exact z
theorem aN.made(I:[48]):aN X pins σ (cF (cF H [15] (.own (s.heap.objs.size+1))) (s.heap.objs.size+1) (.ins C [15] []))
  {s with heap:=(s.heap.push emptyDict).push (instObj C s.heap.objs.size)}:=by
 have e1:(s.heap.push emptyDict).get? s.heap.objs.size=(1,emptyDict):=(26,s.heap);have e2:((s.heap.push emptyDict).push (instObj C [15])).get? (s.heap.objs.size+1)=(1,instObj C [15]):=by
  have:=get?_push_size (s.heap.push emptyDict) (o:=instObj C [15]) rfl;rwa[size_push] at this
 have e3:(s.heap.push emptyDict).Ns s.heap.objs.size (λ_=>none):=⟨emptyDict,#[],_,e1,rfl,(λe he=>(32,he,[19])),λ_=>rfl⟩
 have I1:=I.laid (a:=[15]) (o:=.own (s.heap.objs.size+1)) (h':=s.heap.push emptyDict) (t':=s.toks) (λb u q=>(21,q)) [25] (3,_,e1);refine I1.laid (a:=s.heap.objs.size+1) (o:=.ins C [15] []) (t':=s.toks) (λb u q=>(21,q)) (le_of_eq (size_push _ _)) ?_;have ne:s.heap.objs.size≠s.heap.objs.size+1:=(56,lt_succ_self _);refine⟨by rw[az ne,aG],zero_le _,ne,e2,λ_=>none,(Heap.Ns1.of_empty e3).at λo q=>(21,q),λ_=>True.intro,λy hy=>(32,rfl,hy)⟩
theorem OF{prog:Program}{w:World}{env:Env}{e:Expr}{f:Str}{pos:Pos}{s:Shared}{Q:Value->Shared->Prop}(hb:attributeBase e f env (eval e env)=eval e env)
  (h:(1,prog,w,A,eval e env,(λo s₁=>(1,prog,w,A,getAttr o f true,Q,E,s₁)),E,s)):(1,prog,w,A,eval (.Attribute e f pos) env,Q,E,s):=
 Attribute_any_ h (by rw[arm_eval_Attribute,hb])
end
def TV(K:Frag)(ta:TE)(f:Str):TE:=λσ H Q=>ta σ H λx H1=>∃a C dx fs v,x=(9,a)/\H1 a=(1,.ins C dx fs)/\fB K C/\aY K C f/\fs.lookup f=(1,v)/\Q v H1
def U0(K:Frag)(ta tv:TE)(f:Str):TS:=λD σ H=>tv σ H λy H1=>ta σ H1 λx H2=>∃a C dx fs,x=(9,a)/\H2 a=(1,.ins C dx fs)/\fB K C/\aY K C f/\fs.length<1000/\
 D.nx σ (cF H2 a (.ins C dx (mT f y fs)))
section
variable{X:Cx}{o e value:Expr}{f:Str}{pos pos' tpos:Pos}{ta tv:TE}
theorem Ko(he:PE X e ta)(hb:attributeBase e f X.env (14,e)=(14,e)):PE X (.Attribute e f pos) (TV X.K ta f):=by
 intro pins s σ H Q I h;refine OF hb (cZ (he pins s σ H _ I h) λu s1 ⟨x,H1,I1,rx,a,C,dx,fs,v,ex,ea,c,n,l,q⟩=>?_);subst ex;obtain rfl:u=Value.ref a:=rx;exact EN I1 ea c n l λu' s2 I2 ru=>(4,v,H1,I2,ru,q)
theorem Kc(ha:PE X o ta)(hv:PE X value tv)(hs:(28,value,(1,.Attribute o f pos'),pos.line)=pure false):PS X (.Assign [.Attribute o f pos'] value pos) (U0 X.K ta tv f):=by
 intro pins s σ H D I h;refine plainObj_wpAny_Assign_Attribute (cZ (hv pins s σ H _ I h) λu s1 ⟨y,H1,I1,ry,q⟩=>cZ (ha pins s1 σ H1 _ I1 q) λov s2 ⟨x,H2,I2,rx,a,C,dx,fs,ex,ea,c,n,l,q2⟩=>?_) hs;subst ex;obtain rfl:ov=Value.ref a:=rx;exact DB I2 ea c n l ry λs3 I3=>(10,σ,_,I3,q2)
end
section
variable{X:Cx}{pins:List (Addr×Obj)}{σ:St}{H:Hp}{s:Shared}{A:Around}{E:Value->Shared->Prop}{Q:Value->Shared->Prop}{c:Value}{b:Bool}
inductive pP(K:Frag)(H:Hp):V->Value->Prop where
 |non:pP K H .non (54,"NoneType")
 |bl (x:Bool):pP K H (.bl x) (54,"bool")
 |int (i:Int):pP K H (16,i) (54,"int")
 |str (x:Str):pP K H (.str x) (54,"str")
 |flt (x:UInt64):pP K H (.flt x) (54,"float")
 |lst {a:Addr} {xs:[38]} (e:H a=(1,(13,xs))):pP K H (9,a) (54,"list")
 |frz {a:Addr} {o:Obj} {xs:[38]} (e:H a=(1,.frz o (13,xs))):pP K H (9,a) (54,"list")
 |tup {a:Addr} {xs:[38]} (e:H a=(1,(22,xs))):pP K H (9,a) (54,"tuple")
 |dK {a:Addr} {kvs:List (Key×V)} (e:H a=(1,.dK kvs)):pP K H (9,a) (54,"dict")
 |dT {a:Addr} {kvs:[65]} (e:H a=(1,.dT kvs)):pP K H (9,a) (54,"dict")
 |ins {a C dx:Addr} {fs:List (Str×V)} (e:H a=(1,.ins C dx fs)) (cl:fB K C) (ha:(7,K,C,"__class__") = (31,(44,"object.__class__")))
   (hn:specialIn K (44,"object.__class__") "__get__" = (31,(44,"getset_descriptor.__get__"))) (htk:PySem.W.takesIn K (44,"object.__class__")=(1,true))
   (hm:PySem.W.mroIn K C (54,"object")=(1,true)):pP K H (9,a) (9,C)
theorem Iz{x:V}{u t:Value}(I:[48])(rx:RelV x u)(ty:pP X.K H x t)(e:kitOne X.K t c=(1,b))(h:∀tk,Q (.bool b) {s with toks:=tk}):
  (3,X.w,A,call (44,"isinstance") [u,c],Q,E,s):=by
 cases ty with
 |non=>cases (show u=Value.none from rx);exact(3,PySem.W.kitx_none,I.kIn,True.intro,e,h)
 |bl y=>cases (show u=Value.bool y from rx);exact(3,PySem.W.kitx_bool,I.kIn,True.intro,e,h)
 |int i=>obtain⟨t,q⟩:=(show ∃t,u=Value.int i t from rx);cases q;exact(3,PySem.W.kitx_int,I.kIn,True.intro,e,h)
 |str y=>obtain⟨t,q⟩:=(show ∃t,u=Value.str y t from rx);cases q;exact(3,PySem.W.kitx_str,I.kIn,True.intro,e,h)
 |flt y=>obtain⟨t,q⟩:=(show ∃t,u=Value.float y t from rx);cases q;exact(3,PySem.W.kitx_float,I.kIn,True.intro,e,h)
 |@lst a xs ea=>
  cases (show u=Value.ref a from rx);obtain⟨_,_,n,_,h1⟩:=(show cV X.prog X.w H s.heap a (13,xs) from I.hok a _ ea);exact(3,kitx_list,I.kIn,(35,_,h1),e,h)
 |@frz a ob xs ea=>
  cases (show u=Value.ref a from rx);obtain⟨_,_,_,n,_,h1⟩:=(show cV X.prog X.w H s.heap a (.frz ob (13,xs)) from I.hok a _ ea);exact(3,kitx_list,I.kIn,(35,_,h1),e,h)
 |@tup a xs ea=>
  cases (show u=Value.ref a from rx);obtain⟨_,_,_,p⟩:=(show cV X.prog X.w H s.heap a (22,xs) from I.hok a _ ea);obtain⟨o,h1,h2,_⟩:=p;exact(3,PySem.W.kitx_tuple,I.kIn,(11,o,h1,h2),e,h)
 |@dK a kvs ea=>
  cases (show u=Value.ref a from rx);obtain⟨_,_,vs,_,p⟩:=(show cV X.prog X.w H s.heap a (.dK kvs) from I.hok a _ ea);obtain⟨o,es,ep,h1,h2,_⟩:=p;exact(3,kitx_dict,I.kIn,(11,o,h1,h2.1),e,h)
 |@dT a kvs ea=>
  cases (show u=Value.ref a from rx);obtain⟨_,_,xs,_,o,es,ep,h1,h2,_⟩:=(show cV X.prog X.w H s.heap a (.dT kvs) from I.hok a _ ea);exact(3,kitx_dict,I.kIn,(11,o,h1,h2.1),e,h)
 |@ins a C dx fs ea cl ha hn htk hm=>
  cases (show u=Value.ref a from rx);obtain⟨mA,O,_⟩:=ue I.hok ea;obtain⟨od,J,_⟩:=O.look;exact(3,PySem.W.kitx_own (cl.get _) cl.hd ha hn htk hm,I.kIn,J,e,h)
end
structure cu(k:Nat)(A:Around):Prop where
 hd:A.handled=none
 dp:A.depth+3 * k+5<recursionLimit
 un:A.units+16 * k+200<cLine
theorem cu.mono{j k:Nat}{A:Around}(r:cu k A)(h:j<=k):cu j A:=(11,r.hd,by have:=r.dp;omega,by have:=r.un;omega)
theorem cu.deeper{k:Nat}{A:Around}(r:cu (k+1) A)(env:Env):cu k (A.deeper env):=
 (11,r.hd,by have:=r.dp;show A.depth+1+3 * k+5<_;omega,by have:=r.un;show A.units+3+16 * k+200<_;omega)
theorem cu.in1{k:Nat}{A:Around}(r:cu (k+1) A):cu k A.in1:=
 (11,r.hd,by have:=r.dp;show A.depth+3 * k+5<_;omega,by have:=r.un;show A.units+1+16 * k+200<_;omega)
theorem Ep{A:Around}{C:Addr}{us:[21]}{kw:List (Str×Value)}:(A.under (.builtin "type.__call__" (3,(9,C)::us,kw))).depth=A.depth+1:=by
 first|rfl|simp[Around.under,Code.weight,Code.isCreation,Code.isGuard,Code.isCaller,Code.frames,Code.isFrame,guardIds]
theorem Eo{A:Around}{C:Addr}{us:[21]}{kw:List (Str×Value)}:(A.under (.builtin "type.__call__" (3,(9,C)::us,kw))).units=A.units+1:=by
 first|rfl|simp[Around.under,Code.cUnits,Code.frames,Code.isFrame]
theorem cu.make{k:Nat}{A:Around}(r:cu (k+1) A)(C:Addr)(us:[21])(kw:List (Str×Value)):cu k (A.under (.builtin "type.__call__" (3,(9,C)::us,kw))):=
 (11,r.hd,by have:=r.dp;rw[Ep];omega,by have:=r.un;rw[Eo];omega)
theorem cu.depth{k:Nat}{A:Around}(r:cu k A):A.depth<recursionLimit:=by have:=r.dp;omega
theorem cu.units{k:Nat}{A:Around}(r:cu k A):A.units+64<cLine:=by have:=r.un;omega
def JG:TA:=λ_ H Q=>Q [] H
def JJ(ta:TE)(tr:TA):TA:=λσ H Q=>ta σ H λx H1=>tr σ H1 λxs H2=>Q (x::xs) H2
section
variable{X:Cx}{e:Expr}{es:List Expr}{te:TE}{t:TA}{pos:Pos}
theorem fh:PA X [] JG:=λ_ _ _ _ H Q I h=>Calls.spliced_nil (4,[],H,I,.nil,h)
theorem bX(ha:PE X e te)(hr:PA X es t)(hs:(4,(e::es))=(false,(14,e))::(4,es):=by rfl):PA X (e::es) (JJ te t):=by
 intro pos pins s σ H Q I h;rw[hs];show(6,_,spliced ((false,(14,e))::(7,pos,es)),_,_,s);refine Calls.spliced_cons (cZ (ha pins s σ H _ I h) λu s1 ⟨x,H1,I1,r1,q1⟩=>?_);exact cZ (hr pos pins s1 σ H1 _ I1 q1) λus s2 ⟨xs,H2,I2,r2,q2⟩=>(4,x::xs,H2,I2,(22,r1,r2),q2)
def TH(t:TA):TE:=λσ H Q=>t σ H λxs H1=>xs.length<=sizeLine/\∀p,H1 p=none->Q (9,p) (cF H1 p (22,xs))
def TM(t:TA):TE:=λσ H Q=>t σ H λxs H1=>xs.length<=sizeLine/\∀p,H1 p=none->Q (9,p) (35,H1,p,xs)
theorem Kk{x1}(h:PA X es t):PE X (.Tuple es x1 pos) (TH t):=by
 intro pins s σ H Q I hq;refine wpAny_Tuple_spliced (cZ (h pos pins s σ H _ I hq) λus s1 ⟨xs,H1,I1,r,z,q⟩=>(3,by rw[←r.length];exact z,?_))
 have hf:H1 s1.heap.objs.size=none:=I1.hok.fresh [25];refine(4,(9,s1.heap.objs.size),cF H1 s1.heap.objs.size (22,xs),I1.laid (t':=s1.toks) (λb u e=>(21,e)) [25] ?_,rfl,q _ hf);exact(10,z,us,r,(4,_,(26,_),rfl,_,rfl))
theorem Q8(h:PA X es t):PE X (.List es pos) (TM t):=by
 intro pins s σ H Q I hq;refine wpAny_List_spliced (cZ (h pos pins s σ H _ I hq) λus s1 ⟨xs,H1,I1,r,z,q⟩=>(3,by rw[←r.length];exact z,?_))
 have hf:H1 s1.heap.objs.size=none:=I1.hok.fresh [25];refine(4,(9,s1.heap.objs.size),(35,H1,s1.heap.objs.size,xs),I1.laid (t':=s1.toks) (λb u e=>(21,e)) [25] ?_,rfl,q _ hf);exact(4,z,us,0,r,(26,_))
end
abbrev Sp:=([38])->Hp->VK->XK->Prop
abbrev Ji:=List Env->Hp->Shared->XK->Value->Shared->Prop
structure nX(P:Program)(w:World)(K:Frag)(mg:Str->Option Value)(base:Heap)(A:Around)(outer:List Env)(s:Shared)(H:Hp):Prop where
 frames:A.frames=(1,outer)
 mod:Mod K mg base
 bs:∀b o,base.get? b=([46])->(28,b)=[46]/\H b=none
 bsz:base.objs.size<=s.heap.objs.size
 funs:s.heap.FunFrames base outer
 frf:∀b∈frs outer,H b=none
 hok:mK P w H s.heap
 bare:AllBare s.gens
def CE(outer:List Env)(P:Program)(w:World)(H:Hp)(s:Shared)(Q:VK)(u:Value)(s':Shared):Prop:=
 ∃v H',s'.os=s.os/\AllBare s'.gens/\Un (frs outer) [] H H' s.heap s'.heap/\mK P w H' s'.heap/\RelV v u/\Q v H'
def CR(CX:Ji)(outer:List Env)(P:Program)(w:World)(H:Hp)(s:Shared)(Q:VK)(E:XK)(r:Result)(s':Shared):Prop:=
 match r with
 |.ok (.ret u)=>CE outer P w H s Q u s'
 |.ok _=>False
 |.error e=>CX outer H s E e s'
structure dR(P:Program)(w:World)(K:Frag)(mg:Str->Option Value)(base:Heap)(CX:Ji)(k:Nat)(f:Addr)(fd:FuncData)(ps:List Str)(sp:Sp):Prop where
 len:∀vs H Q E,sp vs H Q E->vs.length=ps.length
 run:∀(A:Around)(outer:List Env)(s:Shared)(H:Hp)(args:Args)(us:[21])(vs:[38])(Q:VK)(E:XK),cu k A->nX P w K mg base A outer s H->BindsTo s fd args (ps.zip us)->Vals vs us->sp vs H Q E->
  codeAny (model P w) A (.call (9,f) args) (CR CX outer P w H s Q E) s
theorem dR.mono{P:Program}{w:World}{K:Frag}{mg:Str->[30]}{base:Heap}{CX:Ji}{j k:Nat}{f:Addr}{fd:FuncData}{ps:[16]}{sp:Sp}(F:dR P w K mg base CX j f fd ps sp)(h:j<=k):
  dR P w K mg base CX k f fd ps sp:=(3,F.len,λA outer s H args us vs Q E hr=>F.run A outer s H args us vs Q E (hr.mono h))
theorem dR.imp{P:Program}{w:World}{K:Frag}{mg:Str->[30]}{base:Heap}{CX:Ji}{k:Nat}{f:Addr}{fd:FuncData}{ps:[16]}{sp sp':Sp}(F:dR P w K mg base CX k f fd ps sp)
  (h:∀vs H Q E,sp' vs H Q E->sp vs H Q E):dR P w K mg base CX k f fd ps sp':=
 (3,λvs H Q E q=>F.len vs H Q E (h _ _ _ _ q),λA outer s H args us vs Q E hr he hb hv hs=>F.run A outer s H args us vs Q E hr he hb hv (h _ _ _ _ hs))
theorem nX.make{P:Program}{w:World}{K:Frag}{mg:Str->[30]}{base:Heap}{A:Around}{outer:List Env}{s:Shared}{H:Hp}(e:nX P w K mg base A outer s H)(C:Addr)(us:[21])(kw:List (Str×Value)):
  nX P w K mg base (A.under (.builtin "type.__call__" (3,(9,C)::us,kw))) outer s H:=⟨by first|exact e.frames|(simpa [Around.under,Code.envs,Code.isFrame,pushEnvs] using e.frames),e.mod,e.bs,e.bsz,e.funs,e.frf,e.hok,e.bare⟩
theorem nX.in1{P:Program}{w:World}{K:Frag}{mg:Str->[30]}{base:Heap}{A:Around}{outer:List Env}{s:Shared}{H:Hp}(e:nX P w K mg base A outer s H):
  nX P w K mg base A.in1 outer s H:=⟨e.frames,e.mod,e.bs,e.bsz,e.funs,e.frf,e.hok,e.bare⟩
section
variable{X:Cx}{pins:List (Addr×Obj)}{σ:St}{H:Hp}{s s':Shared}
theorem aN.env0(I:[48]):nX X.prog X.w X.K X.mg X.base X.A X.stack s H:=
 ⟨I.ok.frames,I.ok.mod,I.bs,le_trans I.ok.bsz I.sz,I.stack,I.stkFree,I.hok,I.bare⟩
theorem aN.after{Q:VK}{u:Value}(I:[48])(h:CE X.stack X.prog X.w H s Q u s'):EP X pins σ Q u s':=by
 obtain⟨v,H',os,bare,un,hok,r,q⟩:=h;obtain⟨hh,g,d,t,os'⟩:=s';obtain rfl:os'=s.os:=os;exact(4,v,H',I.call (h':=hh) (g':=g) (d':=d) (t':=t) (ch:=[]) un hok bare (λb z=>(32,z,[19])),r,q)
end
def OO(sp:Sp)(dvs:[38])(E:XK)(t:TA):TE:=λσ H Q=>t σ H λvs H1=>sp (vs++dvs) H1 Q E
def OM(C:Addr)(m:Str)(sp:Sp)(dvs:[38])(E:XK)(ta:TE)(t:TA):TE:=λσ H Q=>ta σ H λx H1=>∃a dx fs,x=(9,a)/\H1 a=(1,.ins C dx fs)/\fs.lookup m=none/\
 t σ H1 λvs H2=>sp (x::(vs++dvs)) H2 Q E
def ON(C:Addr)(sp:Sp)(dvs:[38])(E:XK)(t:TA):TE:=λσ H Q=>t σ H λvs H1=>∀x dx,H1 x=none->H1 dx=none->dx≠x->
 sp ((9,x)::(vs++dvs)) (cF (cF H1 dx (.own x)) x (.ins C dx [])) (λv H2=>v=.non/\Q (9,x) H2) E
def eJ(K:Frag)(fd:FuncData)(ps:[16])(ds:[21]):Prop:=
 ∀(s:Shared)(us:[21]),K.In s.heap->(us++ds).length=ps.length->BindsTo s fd (3,us,[]) (ps.zip (us++ds))
theorem eJ.all{K:Frag}{fd:FuncData}{ps:[16]}(h:∀us:List Value,us.length=ps.length->bindArgs fd (3,us,[])=pure (ps.zip us)):eJ K fd ps []:=λs us _ hl=>by
 rw[append_nil] at hl ⊢;exact .of_eq (h us hl)
def nW(CX:Ji)(X:Cx)(E:XK):Prop:=∀(pins:[18])(σ:St)(H:Hp)(s:Shared)(e:Value)(s':Shared),([48])->CX X.stack H s E e s'->X.xe e s'
section
variable{X:Cx}{CX:Ji}{k:Nat}{f C:Addr}{fd:FuncData}{ps:List Str}{sp:Sp}{dvs:List V}{ds:List Value}{E:XK}{x m:Str}{p pos apos:Pos}{e o:Expr}{es:List Expr}{ta:TE}{t:TA}
theorem rJ{pins:[18]}{σ:St}{H:Hp}{s:Shared}{Q:VK}{us:[21]}{vs:[38]}(F:dR X.prog X.w X.K X.mg X.base CX k f fd ps sp)(hr:cu k X.A)(hb:eJ X.K fd ps ds)(hd:Vals dvs ds)(hx:nW CX X E)
  (I:[48]) (r:Vals vs us) (h:sp (vs++dvs) H Q E):(3,X.w,X.A,call (9,f) us,EP X pins σ Q,X.xe,s):=by
 have r2:Vals (vs++dvs) (us++ds):=r.append hd;have hl:(us++ds).length=ps.length:=by rw[←r2.length];exact F.len _ _ _ _ h
 refine wpAny_call (codeAny_mono (F.run X.A X.stack s H (3,us,[]) (us++ds) (vs++dvs) Q E hr I.env0 (hb s us I.kIn hl) r2 h) λr s' hq=>?_);cases r with
 |error e=>exact hx pins σ H s e s' I hq
 |ok fl=>
  cases fl with
  |ret u=>exact I.after hq
  |next=>exact False.elim hq
  |brk=>exact False.elim hq
  |cont=>exact False.elim hq
theorem FV(F:dR X.prog X.w X.K X.mg X.base CX k f fd ps sp)(hr:cu k X.A)(hg:Gl X x)(hm:X.mg x=(1,(9,f)))(hk:(39,X.K,f)=true)(hb:eJ X.K fd ps ds)(hd:Vals dvs ds)(hx:nW CX X E)
  (ha:PA X (e::es) t) (hdb:(x == ("__debug__":Str))=false:=by decide) (he:(4,(e::es))=(false,(14,e))::(4,es):=by rfl) (hpl:(7,pos,es).any (·.1)=false:=by rfl):
  PE X (5,(23,p),(e::es),pos) (OO sp dvs E t):=by
 intro pins s σ H Q I h;refine wpAny_Call_Name_kw (ud I hg hm ?_ hdb);refine callWith_K (h₀:=X.base) I.ok.mod.kin hk (cZ (ha pos pins s σ H _ I h) λus s1 ⟨vs,H1,I1,r,q⟩=>(3,I1.kIn,?_)) he hpl;exact rJ F hr hb hd hx I1 r q
theorem Nz{pl:Sem Bool}(he:PE X o ta)(c:fB X.K C)(hm:D4 X.K C m f)(F:dR X.prog X.w X.K X.mg X.base CX k f fd ps sp)(hr:cu k X.A)(hb:eJ X.K fd ps ds)(hd:Vals dvs ds)(hx:nW CX X E)(ha:PA X (e::es) t)
  (hst:(4,(e::es))=(false,(14,e))::(4,es):=by rfl) (hpl:(7,pos,es).any (·.1)=false:=by rfl)
  (ht:(14,(5,(8,o,m),(e::es),pos))=(do
   let ov ←eval o X.env
   standAt apos.atName
   let (f,first) ←holding [ov] (getMethod ov m pl)
   callWith pos f first (7,pos,(e::es)) (15,pos,[],X.env)):=by rfl):
  PE X (5,(8,o,m),(e::es),pos) (OM C m sp dvs E ta t):=by
 intro pins s σ H Q I h;refine methodCall_KW (pl:=pl) (cZ (he pins s σ H _ I h) λu s1 ⟨x,H1,I1,rx,a,dx,fs,ex,ea,l,q⟩=>?_) ht;subst ex;obtain rfl:u=Value.ref a:=rx;refine mh I1 ea c hm l ?_;refine callWith_K (first:=[(9,a)]) (h₀:=X.base) I.ok.mod.kin hm.kp (cZ (ha pos pins s1 σ H1 _ I1 q) λus s2 ⟨vs,H2,I2,r,q2⟩=>(3,I2.kIn,?_)) hst hpl
 exact rJ (us:=(9,a)::us) (vs:=(9,a)::vs) F hr hb hd hx I2 (22,rfl,r) q2
theorem Bv{pl:Sem Bool}(he:PE X o ta)(c:fB X.K C)(hm:D4 X.K C m f)(F:dR X.prog X.w X.K X.mg X.base CX k f fd ps sp)(hr:cu k X.A)(hb:eJ X.K fd ps ds)(hd:Vals dvs ds)(hx:nW CX X E)
  (ht:(14,(5,(8,o,m),[],pos))=(do
   let ov ←eval o X.env
   standAt apos.atName
   let (f,first) ←holding [ov] (getMethod ov m pl)
   callWith pos f first (7,pos,[]) (15,pos,[],X.env)):=by rfl):
  PE X (5,(8,o,m),[],pos) (OM C m sp dvs E ta JG):=by
 intro pins s σ H Q I h;refine methodCall_KW (pl:=pl) (cZ (he pins s σ H _ I h) λu s1 ⟨x,H1,I1,rx,a,dx,fs,ex,ea,l,q⟩=>?_) ht;subst ex;obtain rfl:u=Value.ref a:=rx;refine mh I1 ea c hm l ?_;exact callWith_K0 (first:=[(9,a)]) I1.kIn hm.kp (rJ (us:=[(9,a)]) (vs:=[(9,a)]) F hr hb hd hx I1 (22,rfl,.nil) q)
structure Mk(K:Frag)(C f:Addr):Prop where
 makes:makesIn K C=true
 init:(7,K,C,"__init__") = (33,f)
 fn:isFn K (9,f)=true
 kp:(39,K,C)=true
theorem Bk{pins:[18]}{σ:St}{H:Hp}{s:Shared}{Q:VK}{us:[21]}{vs:[38]}(M:Mk X.K C f)(F:dR X.prog X.w X.K X.mg X.base CX k f fd ps sp)(hr:cu (k+1) X.A)(hb:eJ X.K fd ps ds)(hd:Vals dvs ds)
  (hx:nW CX X E) (I:[48]) (r:Vals vs us)
  (h:∀x dx,H x=none->H dx=none->dx≠x->sp ((9,x)::(vs++dvs)) (cF (cF H dx (.own x)) x (.ins C dx [])) (λv H2=>v=.non/\Q (9,x) H2) E):
  (3,X.w,X.A,call (9,C) us,EP X pins σ Q,X.xe,s):=by
 have hq:=h (s.heap.objs.size+1) [15] (I.hok.fresh (Nat.le_succ _)) (I.hok.fresh [25]) (56,lt_succ_self _);have I2:=aN.made (C:=C) I;have r2:Vals (V.ref (s.heap.objs.size+1)::(vs++dvs)) (Value.ref (s.heap.objs.size+1)::(us++ds)):=(22,rfl,r.append hd);have hl:(Value.ref (s.heap.objs.size+1)::us++ds).length=ps.length:=by
  have e:=r2.length;rw[F.len _ _ _ _ hq] at e;exact e.symm
 refine wpAny_call (L6 (f:=f) I.kIn M.makes M.init (beq_iff_eq.mp M.fn) (codeAny_mono (F.run _ X.stack _ _ (3,Value.ref (s.heap.objs.size+1)::us,[]) (Value.ref (s.heap.objs.size+1)::(us++ds)) _ _ E (hr.make C us [])
  (I2.env0.make C us []) (hb _ (Value.ref (s.heap.objs.size+1)::us) I2.kIn hl) r2 hq) λr s' hq'=>?_))
 cases r with
 |error e=>exact hx pins σ _ _ e s' I2 hq'
 |ok fl=>
  cases fl with
  |ret u=>
   obtain⟨v,H',I3,rv,ev,q3⟩:=I2.after hq';subst ev;exact(3,rv,(4,V.ref (s.heap.objs.size+1),H',I3,rfl,q3))
  |next=>exact False.elim hq'
  |brk=>exact False.elim hq'
  |cont=>exact False.elim hq'
theorem NA(M:Mk X.K C f)(F:dR X.prog X.w X.K X.mg X.base CX k f fd ps sp)(hr:cu (k+1) X.A)(hg:Gl X x)(hm:X.mg x=(1,(9,C)))(hb:eJ X.K fd ps ds)(hd:Vals dvs ds)(hx:nW CX X E)
  (ha:PA X (e::es) t) (hdb:(x == ("__debug__":Str))=false:=by decide) (he:(4,(e::es))=(false,(14,e))::(4,es):=by rfl) (hpl:(7,pos,es).any (·.1)=false:=by rfl):
  PE X (5,(23,p),(e::es),pos) (ON C sp dvs E t):=by
 intro pins s σ H Q I h;refine wpAny_Call_Name_kw (ud I hg hm ?_ hdb);refine callWith_K (h₀:=X.base) I.ok.mod.kin M.kp (cZ (ha pos pins s σ H _ I h) λus s1 ⟨vs,H1,I1,r,q⟩=>(3,I1.kIn,?_)) he hpl;exact Bk M F hr hb hd hx I1 r q
theorem Km(M:Mk X.K C f)(F:dR X.prog X.w X.K X.mg X.base CX k f fd ps sp)(hr:cu (k+1) X.A)(hg:Gl X x)(hm:X.mg x=(1,(9,C)))(hb:eJ X.K fd ps ds)(hd:Vals dvs ds)(hx:nW CX X E)
  (hdb:(x == ("__debug__":Str))=false:=by decide):PE X (5,(23,p),[],pos) (ON C sp dvs E JG):=by
 intro pins s σ H Q I h;refine wpAny_Call_Name_kw (ud I hg hm ?_ hdb);exact callWith_K0 I.kIn M.kp (Bk (us:=[]) M F hr hb hd hx I .nil h)
end
structure ar(N P:List Str)(sc:Scope):Prop where
 kind:sc.kind=.function
 co:sc.isCoroutine=false
 gen:sc.isGenerator=false
 nd:N.Nodup
 pre:N.take P.length=P
 par:∀x∈P,sc.names.lookup x=[56]\/sc.names.lookup x=[67]
 nofree:∀y∈sc.names,y.2≠.free
theorem yy{kindOf:Str->(8,NameKind)}{x:Str}:∀{binds:List (Str×Value)}{m:Str->[30]},(∀v,(x,v)∉binds)->bindL kindOf binds m x=m x
 |[],_,_=>rfl
 | (n,v)::r,m,h=>by
  unfold bindL;rw[yy λw hw=>h w (30,hw)];split
  ·have:x≠n:=by rintro rfl;exact h v mem_cons_self
   simp[this]
  ·rfl
theorem yA{kindOf:Str->(8,NameKind)}{x:Str}:∀{binds:List (Str×Value)}{m:Str->[30]},(∀v,(x,v)∉binds)->bindC kindOf binds m x=m x
 |[],_,_=>rfl
 | (n,v)::r,m,h=>by
  unfold bindC;rw[yA λw hw=>h w (30,hw)];split
  ·rfl
  ·have:x≠n:=by rintro rfl;exact h v mem_cons_self
   simp[this]
theorem yz{kindOf:Str->(8,NameKind)}{x:Str}{v:Value}:∀{P:[16]}{vs:[21]}{i:Nat}{m:Str->[30]},P.Nodup->P[i]?=(1,x)->vs[i]?=(1,v)->kindOf x=([56])->
  bindL kindOf (P.zip vs) m x=(1,v)
 |[],_,_,_,_,h,_,_=>by simp at h
 |_::_,[],_,_,_,_,h,_=>by simp at h
 |p::P,w::vs,0,m,nd,h1,h2,hk=>by
  simp at h1 h2;subst h1;subst h2;show bindL kindOf ((p,w)::P.zip vs) m p=_;unfold bindL;rw[yy λv hv=>[58].1 (of_mem_zip hv).1,(25,hk)];simp
 |p::P,w::vs,i+1,m,nd,h1,h2,hk=>by
  show bindL kindOf ((p,w)::P.zip vs) m x=_;unfold bindL;exact yz (i:=i) [58].2 (by simpa using h1) (by simpa using h2) hk
theorem yB{kindOf:Str->(8,NameKind)}{x:Str}{v:Value}:∀{P:[16]}{vs:[21]}{i:Nat}{m:Str->[30]},P.Nodup->P[i]?=(1,x)->vs[i]?=(1,v)->kindOf x≠([56])->
  bindC kindOf (P.zip vs) m x=(1,v)
 |[],_,_,_,_,h,_,_=>by simp at h
 |_::_,[],_,_,_,_,h,_=>by simp at h
 |p::P,w::vs,0,m,nd,h1,h2,hk=>by
  simp at h1 h2;subst h1;subst h2;show bindC kindOf ((p,w)::P.zip vs) m p=_;unfold bindC;rw[yA λv hv=>[58].1 (of_mem_zip hv).1,(29,hk)];simp
 |p::P,w::vs,i+1,m,nd,h1,h2,hk=>by
  show bindC kindOf ((p,w)::P.zip vs) m x=_;unfold bindC;exact yB (i:=i) [58].2 (by simpa using h1) (by simpa using h2) hk
def start(N:[16])(vs:[38]):St:=vs.map some++replicate (N.length - vs.length) none
def mr(CX:Ji)(P:Program)(w:World)(K:Frag)(mg:Str->[30])(base:Heap)(N:[16])(qual:Str)(scope:Scope)(f:Addr)(cd:Value)(A:Around)(outer:List Env)(s:Shared)(H:Hp)(E:XK):Cx where
 prog:=P
 w:=w
 K:=K
 mg:=mg
 base:=base
 A:=(2,qual,scope,[15],f,cd)
 N:=N
 s₀:=s
 H₀:=H
 env:=envOfC qual scope [15] f cd
 outer:=outer
 stack:=envOfC qual scope [15] f cd::outer
 ex:=[]
 calm:=true
 fn:=λ_=>true
 pn:=[]
 xe:=λe s'=>(1,P,w,(2,qual,scope,[15],f,cd),leaving (envOfC qual scope [15] f cd) e,(λ_ s''=>CX outer H s E e s''),(λe' s''=>CX outer H s E e' s''),s')
theorem qV{sc:Scope}{n:Nat}{x:Str}(h:sc.names.lookup x=[67]):∃c,(cellsFrom n sc.names []).lookup x=(1,c):=by
 have q:=cellsFrom_some sc.names n [] (.inl h);exact Option.isSome_iff_exists.mp q
theorem yk{CX:Ji}{P:Program}{w:World}{K:Frag}{mg:Str->[30]}{base:Heap}{N ps:[16]}{qual:Str}{scope:Scope}{f:Addr}{cd:Value}{A:Around}{outer:List Env}{s s1:Shared}{H:Hp}{E:XK}{us:[21]}{vs:[38]}
  (S:ar N ps scope) (hd:A.handled=none) (e0:nX P w K mg base A outer s H) (hl:vs.length=ps.length) (r:Vals vs us)
  (x:InCallC s [15] (bindL (envOfC qual scope [15] f cd).kindOf (ps.zip us) λ_=>none) (11,scope.names,[]) (bindC (envOfC qual scope [15] f cd).kindOf (ps.zip us) λ_=>none) s1):
  aN (mr CX P w K mg base N qual scope f cd A outer s H E) [] (start N vs) H s1:=by
 have hpl:ps.length<=N.length:=by have:=congrArg List.length S.pre;rw[length_take] at this;omega
 obtain⟨h1,tk,rfl,hk⟩:=x.done;have noA:∀b:Addr,b∉(mr CX P w K mg base N qual scope f cd A outer s H E).ex:=λb z=>(32,(show b∈([]:[40]) from z),[19])
 refine⟨⟨e0.mod,S.kind,rfl,rfl,[25],λy z c h1 h2=>?_,λy hy=>?_,λy c _ h=>?_,λ_=>hd,Around.frames_deeper e0.frames,.inr (62,rfl),λb z=>(32,z,noA b),e0.bs,e0.bsz,λb _ _=>noA b,λb z=>(32,z,noA b),e0.funs,e0.frf⟩,
  rfl,e0.bare,Un.kept hk,(11,_,x.toInCall.ns,λi y v h1 h2 h3=>?_),λy c h=>(3,_,x.cell y c h),e0.hok.fresh [25],λy c h=>?_,λp hp=>(32,(show p∈([]:[18]) from hp),[19]),e0.hok.kept hk,?_⟩
 ·exact name_of_addr x.apart (67,h1) (67,h2)
 ·have hy:(68,y)=[67]\/(68,y)=(1,.free):=hy;rcases hy with hy|hy
  ·exact qV hy
  ·exact(32,rfl,S.nofree _ (67,hy))
 ·exact le_of_lt (x.above y c (67,h))
 ·have hi:i<vs.length:=by
   unfold start at h2;by_cases hi:i<vs.length
   ·exact hi
   ·rw[(64,by simpa using hi)] at h2
    rw[getElem?_replicate] at h2;split at h2 <;> cases h2
  have ha:vs[i]?=(1,v):=by
   unfold start at h2;rw[(59,by simpa using hi),getElem?_map] at h2
   cases e:vs[i]? with
   |none=>rw[e] at h2;cases h2
   |some a=>rw[e] at h2;cases h2;rfl
  obtain⟨u,hu,rv⟩:=r.get ha;have hp:ps[i]?=(1,y):=by
   rw[←S.pre,List.getElem?_take_of_lt [11]];exact h1
  have ndP:ps.Nodup:=by rw[←S.pre];exact S.nd.sublist (List.take_sublist _ _)
  refine(11,u,rv,?_);rcases S.par y (mem_of_getElem? hp) with k|k
  ·exact .inl (3,k,yz ndP hp hu k)
  ·obtain⟨c,e⟩:=qV (n:=s.heap.objs.size+1) k;refine .inr (10,.inl k,c,e,?_);have q:=x.cell y c e;rw[yB ndP hp hu (by show(68,y)≠_;rw[k];decide)] at q
   exact q
 ·exact e0.hok.fresh (le_of_lt (x.above y c (67,h)))
 ·unfold start;show _=N.length;rw[length_append,length_map,length_replicate];omega
theorem P3{CX:Ji}{P:Program}{w:World}{K:Frag}{mg:Str->[30]}{base:Heap}{k:Nat}{f:Addr}{name qual:Str}{params:Arguments}{body:List Stmt}{scope:Scope}{dV kV doc pm cdv ct oc:Value}{an od:(8,Addr)}
  {osl:Array [30]} {N ps:[16]} {sp:Sp} (lk:K.lookup f=(1,(10,oc,od,.func (1,name,qual,params,body,scope,dV,kV,pm,an,cdv,ct),osl))) (hcd:codeIn K cdv qual=true) (S:ar N ps scope)
  (len:∀vs H Q E,sp vs H Q E->vs.length=ps.length)
  (hbody:∀(A:Around)(outer:List Env)(s:Shared)(H:Hp)(vs:[38])(Q:VK)(E:XK),cu k (2,qual,scope,[15],f,cdv)->sp vs H Q E->
   ∃t,tO (mr CX P w K mg base N qual scope f cdv A outer s H E) body t/\t {nx:=λ_ H'=>Q .non H',rt:=Q} (start N vs) H):
  dR P w K mg base CX (k+1) f (1,name,qual,params,body,scope,dV,kV,pm,an,cdv,ct) ps sp:=by
 refine(3,len,λA outer s H args us vs Q E hr e0 hb r hsp=>?_);have hl:=len _ _ _ _ hsp;have KX:K.In s.heap:=e0.mod.kin.keeps λb o e=>(e0.bs b o e).1;have lim:s.heap.NoLimit:=e0.mod.nolimit.keeps λb o e=>(e0.bs b o e).1;have hkind:∀y∈ps.zip us,(68,y.1)=[56]\/((68,y.1)=[67]/\((11,scope.names,[]).lookup y.1).isSome=true):=λ⟨n,v⟩ hy=>by
  rcases S.par n (of_mem_zip hy).1 with q|q
  ·exact .inl q
  ·exact .inr (3,q,cellsFrom_some _ _ _ (.inl q))
 refine codeAny_call_function hr.depth (KX _ _ lk) rfl S.co S.gen rfl (PySem.W.codeRec_of KX hcd) (hb _ _ _ _ ?_);refine wpAny_newFunctionEnv_cells S.kind hkind λenv he s1 x=>?_;subst he;refine(3,lim.keeps x.toInCall.keep,codeAny_func ?_);obtain⟨t,ht,hq⟩:=hbody A outer s H vs Q E (hr.deeper _) hsp;have I:aN (mr CX P w K mg base N qual scope f cdv A outer s H E) [] (start N vs) H s1:=yk S hr.hd e0 hl r x;refine wpAny_mono (ht [] s1 (start N vs) H _ I hq) (λfl s' hs=>?_) λe s' hs=>hs;have fin:∀{σ':St}{H':Hp}{v:V}{u:Value},aN (mr CX P w K mg base N qual scope f cdv A outer s H E) [] σ' H' s'->RelV v u->Q v H'->CE outer P w H s Q u s':=
  λ{σ' H' v u} J rv q=>⟨v,H',J.os,J.bare,J.base,J.hok,rv,q⟩
 cases fl with
 |ret u=>
  obtain⟨v,σ',H',J,rv,q⟩:=hs;exact fin J rv q
 |next=>
  obtain⟨σ',H',J,q⟩:=hs;exact fin (v:=V.non) (u:=Value.none) J rfl q
 |brk=>
  obtain⟨_,_,_,q⟩:=hs;exact False.elim q
 |cont=>
  obtain⟨_,_,_,q⟩:=hs;exact False.elim q
section
variable{X:Cx}{x:Str}{p pos:Pos}{e:Expr}{es:List Expr}{t:TA}{id T:String}{r:List V->Hp->VK->Prop}
def UD(r:([38])->Hp->VK->Prop)(t:TA):TE:=λσ H Q=>t σ H λvs H1=>r vs H1 Q
theorem l3(hc:dj X (44,id) r)(hg:Gl X x)(hm:X.mg x=none)(hv:(60,x)=(1,(44,id)))(ha:PA X (e::es) t)(hn:x ≠ "__name__" := by decide)(hdb:(x == ("__debug__":Str))=false:=by decide)
  (he:(4,(e::es))=(false,(14,e))::(4,es):=by rfl) (hpl:(7,pos,es).any (·.1)=false:=by rfl):PE X (5,(23,p),(e::es),pos) (UD r t):=by
 intro pins s σ H Q I h;refine wpAny_Call_Name_kw (mf I hg hm hv ?_ hn hdb);exact PyProof.Rows.callWith_builtin1 (cZ (ha pos pins s σ H _ I h) λus s1 ⟨vs,H1,I1,r1,q1⟩=>hc pins s1 σ H1 vs us Q I1 r1 q1) he hpl
theorem ou(hc:dj X (54,T) r)(hg:Gl X x)(hm:X.mg x=none)(hv:(60,x)=(1,(54,T)))(ha:PA X (e::es) t)(hn:x ≠ "__name__" := by decide)(hdb:(x == ("__debug__":Str))=false:=by decide)
  (he:(4,(e::es))=(false,(14,e))::(4,es):=by rfl) (hpl:(7,pos,es).any (·.1)=false:=by rfl):PE X (5,(23,p),(e::es),pos) (UD r t):=by
 intro pins s σ H Q I h;refine wpAny_Call_Name_kw (mf I hg hm hv ?_ hn hdb);exact(34,(cZ (ha pos pins s σ H _ I h) λus s1 ⟨vs,H1,I1,r1,q1⟩=>hc pins s1 σ H1 vs us Q I1 r1 q1),he,hpl)
end
end L2
namespace HT
open PySem PyProof.Rows
section
open PySem.SeqAt
open PySem.AutoSeq1 (wpAny_loadPart')
open PySem.MeetsSeq PySem.MeetsSeq2 PySem.MeetsSeq3
end
section
variable{prog:Program}{w:World}{A:Around}{E:Value->Shared->Prop}{s:Shared}
theorem cat_tup{t b:Addr}{vs ws:[21]}{Q:Value->Shared->Prop}(ht:IsTup s.heap t vs.toArray)(hb:IsTup s.heap b ws.toArray)(hv:vs≠[])
  (h1:ws=[]->Q (9,t) s) (h2:ws≠[]->Q (9,[15]) {s with heap:=s.heap.push {cls:=.type "tuple",data:=.seq (vs++ws).toArray}})
  (hsz:vs.length+ws.length<=sizeLine):(1,prog,w,A,binaryOp .Add (9,t) (9,b),Q,E,s):=by
 obtain⟨⟨cls,dd,data,sl⟩,ho,hc,n,hd⟩:=id ht;obtain⟨⟨cls2,dd2,data2,sl2⟩,ho2,hc2,n2,hd2⟩:=id hb;simp only at hc hd hc2 hd2;subst hc hd hc2 hd2;have e:vs.toArray++ws.toArray=(vs++ws).toArray:=by simp
 by_cases hw:ws=[]
 ·exact concat_meets (35,_,ho) (35,_,ho2) noFill_tuple_add seq_tuple_add PySem.F.slot_tuple_add PySem.F.entry_tuple_add (PySem.F.args_tuple_add_2 _ _)
   (tuple_addW1 t b vs.toArray ws.toArray n n2 dd dd2 sl sl2 (by simpa using hv) (by simp[hw])) (11,ho,ho2,h1 hw)
 ·refine concat_meets (35,_,ho) (35,_,ho2) noFill_tuple_add seq_tuple_add PySem.F.slot_tuple_add PySem.F.entry_tuple_add (PySem.F.args_tuple_add_2 _ _)
   (tuple_addW2 t b vs.toArray ws.toArray n n2 dd dd2 sl sl2 (by simpa using hv) (by simpa using hw) (by rw[size_toArray,size_toArray];exact hsz)) (11,ho,ho2,?_)
  rw[e];exact h2 hw
noncomputable def sIx(n d:Nat):(8,Int)->Nat
 |none=>d
 |some v=>if v<0 then(v+(n:Int)).toNat else min v.toNat n
theorem Px(n d:Nat)(hd:d<=n)(o:(8,Int)):sIx n d o<=n:=by
 cases o with
 |none=>exact hd
 |some v=>
  show(if v<0 then(v+(n:Int)).toNat else min v.toNat n)<=n;by_cases hv:v<0
  ·rw[(25,hv)];omega
  ·rw[(29,hv)];exact Nat.min_le_right _ _
theorem GB(v:Int)(n d:Nat):(if v<0 then max (v+(n:Int)) 0 else min v (n:Int))=((sIx n d (1,v):Nat):Int):=by
 show(if v<0 then max (v+(n:Int)) 0 else min v (n:Int))=(((if v<0 then(v+(n:Int)).toNat else min v.toNat n):Nat):Int);by_cases hv:v<0
 ·simp only[(25,hv)];omega
 ·simp only[(29,hv)];omega
theorem Fg(lo hi:(8,Int))(n:Nat):Builtin.Slice.sliceAdjust lo hi 1 (n:Int)=(((sIx n 0 lo:Nat):Int),((sIx n n hi:Nat):Int)):=by
 have h1:¬((1:Int)<0):=by omega
 unfold Builtin.Slice.sliceAdjust;simp only[h1,if_false];refine Prod.ext ?_ ?_
 ·cases lo with
  |none=>rfl
  |some v=>exact GB v n 0
 ·cases hi with
  |none=>rfl
  |some v=>exact GB v n n
theorem DQ(i j:Nat):Builtin.Slice.slicePlaces (i:Int) (j:Int) 1=j - i:=by
 unfold Builtin.Slice.slicePlaces;have h1:(1:Int) > 0:=by omega
 simp only[h1,if_true,Int.ediv_one];split <;> omega
theorem uI{v:Value}{o:(8,Int)}{Q:(8,Int)->Shared->Prop}(p:IsPart v o)(h:Q o s):(1,prog,w,A,Builtin.Slice.slicePartIndex v,Q,E,s):=by
 cases p with
 |none=>exact slicePart_none h
 |int i t=>exact slicePart_int h
theorem rC{sl:Addr}{vl vu:Value}{lo hi:(8,Int)}{n:Nat}{Q:Int×Int×Nat->Shared->Prop}(hs:s.heap.IsSliceOf sl vl vu .none)(pl:IsPart vl lo)(pu:IsPart vu hi)
  (h:Q (((sIx n 0 lo:Nat):Int),1,sIx n n hi - sIx n 0 lo) s):(1,prog,w,A,Builtin.Slice.sliceApplied (9,sl) (pure (n:Int)),Q,E,s):=by
 obtain⟨os,hos,hcs,hds⟩:=id hs;unfold Builtin.Slice.sliceApplied Builtin.Slice.sliceFields;refine(5,(5,(6,hos,hds,vl,(5,(6,hos,hds,vu,(5,(6,hos,hds,.none,(10,?_))))))));refine(5,slicePart_none ?_);show(6,_,(if((1:Int) == 0)=true then _ else _),_,_,s);rw[(29,[13])]
 refine(5,uI pl (5,uI pu (5,(10,?_))));show(6,_,(match Builtin.Slice.sliceAdjust lo hi 1 (n:Int) with|(lo,hi)=>pure (lo,(1:Int),Builtin.Slice.slicePlaces lo hi 1)),_,_,s)
 rw[Fg lo hi n];show(6,_,pure (((sIx n 0 lo:Nat):Int),(1:Int),Builtin.Slice.slicePlaces ((sIx n 0 lo:Nat):Int) ((sIx n n hi:Nat):Int) 1),_,_,s);rw[DQ];exact(10,h)
theorem Ki(xs:[33])(i k:Nat):((19,k).filterMap λ(m:Nat)=>xs[((i:Int)+(m:Int) * 1).toNat]?).toArray=((xs.toList.drop i).take k).toArray:=by
 have e:(λ(m:Nat)=>xs[((i:Int)+(m:Int) * 1).toNat]?)=λm=>xs[i+m]?:=by
  funext m;have:((i:Int)+(m:Int) * 1).toNat=i+m:=by omega
  rw[this]
 rw[e];have:=pick_run xs i k;rw[List.filterMap_map] at this;have e2:((λx=>xs[x]?) ∘ λx=>i+x)=λm=>xs[i+m]?:=rfl;rw[e2] at this;rw[this]
theorem getItem_tuple_cut{t sl:Addr}{items:[33]}{vl vu:Value}{lo hi:(8,Int)}{Q:Value->Shared->Prop}(ht:IsTup s.heap t items)(hs:s.heap.IsSliceOf sl vl vu .none)(pl:IsPart vl lo)(pu:IsPart vu hi)
  (hw:¬((34,0,lo)=0/\(34,items.size,hi)=items.size))
  (h:Q (9,[15]) {s with heap:=s.heap.push {cls:=.type "tuple",data:=.seq ((items.toList.drop (sIx items.size 0 lo)).take (sIx items.size items.size hi - sIx items.size 0 lo)).toArray}})
  (hsz:items.size<=sizeLine):(1,prog,w,A,getItem (9,t) (9,sl),Q,E,s):=by
 have htake:sizeOk (.seq ((items.toList.drop (34,0,lo)).take ((34,items.size,hi) - (34,0,lo))).toArray):=by
  show((items.toList.drop (34,0,lo)).take ((34,items.size,hi) - (34,0,lo))).toArray.size<=sizeLine;rw[size_toArray,length_take,length_drop,length_toList];omega
 have hj:(34,items.size,hi)<=items.size:=Px _ _ [25] hi;obtain⟨os,hos,hcs,hds⟩:=id hs;have hTs:s.TypeIs (9,sl) "slice" := (11,os,hos,hcs);unfold getItem
 try with_reducible refine wpAny_holding ?_
 first|refine(5,(10,?_))|skip
 refine(5,wpAny_sequenceKey ht.typeIs [13] ?_)
 refine wpAny_bind (wpAny_callSpecial?_slot (name:=(15,"__getitem__")) ht.typeIs PyProof.Rows.slot_tuple_getitem
  (wpAny_call_entry PyProof.Rows.slot_tuple_getitem ht.typeIs entry_tuple_getitem ?_ (args_tuple_getitem _ _)))
 show(6,_,(Builtin.Tuple.tupleItemsOf (9,t) >>= _),_,_,s);refine(5,tupleItemsOf_ ht ?_);refine(5,wpAny_typeOf hTs ?_);rw[(25,[13])]
 refine(5,rC hs pl pu ?_);have hno:¬(((((34,0,lo):Nat):Int) == 0 && (1:Int) == 1 && ((34,items.size,hi) - (34,0,lo)) == items.size)=true):=by
  intro q;rw[and_eq_true,and_eq_true] at q;have q1:(((34,0,lo):Nat):Int)=0:=eq_of_beq q.1.1;have q2:(34,items.size,hi) - (34,0,lo)=items.size:=eq_of_beq q.2;exact hw (69,by omega)
 show(6,_,(if((((34,0,lo):Nat):Int) == 0 && (1:Int) == 1 && ((34,items.size,hi) - (34,0,lo)) == items.size)=true then _ else _),_,_,s);rw[(29,hno),Ki]
 first
  |exact(21,Builtin.Tuple.tupleExact _,wpAny_newObj_type (10,(19,_,(10,h))) htake)
  |exact(21,Builtin.Tuple.tupleExact _,wpAny_newObj_type (5,(10,(10,(19,_,(10,h))))) htake)
  |exact(5,(21,Builtin.Tuple.tupleExact _,wpAny_newObj_type (10,(10,(19,_,(10,h)))) htake))
  |exact(5,(21,Builtin.Tuple.tupleExact _,wpAny_newObj_type (10,(19,_,(10,h))) htake))
end
end HT
namespace L2
open PySem PySem.Spec PyProof.Rows
abbrev TO:=St->Hp->((8,Int)->Hp->Prop)->Prop
def PO(X:Cx)(e:(8,Expr))(t:TO):Prop:=
 ∀(pins:[18])(s:Shared)(σ:St)(H:Hp)(Q:(8,Int)->Hp->Prop),([48])->t σ H Q->
  (3,X.w,X.A,evalPart e X.env,(λu s'=>∃o H',(17,H',s')/\IsPart u o/\Q o H'),X.xe,s)
def Fz:TO:=λ_ H Q=>Q none H
def OL(t:TE):TO:=λσ H Q=>t σ H λx H1=>∃i,x=(16,i)/\Q (1,i) H1
theorem EG{ns:[24]}:∀{us:[21]},Vals (ns.map V.int) us->IntsAre us ns:=by
 induction ns with
 |nil=>intro us r;rw[map_nil] at r;cases r;exact .nil
 |cons n ns ih=>
  intro us r;rw[map_cons] at r;cases r with
  |cons r1 r2=>
   obtain⟨t,e⟩:=r1;subst e;exact .cons n t (ih r2)
section
variable{X:Cx}{e:Expr}{te:TE}{lo hi:Option Expr}{tl th:TO}{pos p2:Pos}
theorem Nr:PO X none Fz:=by
 intro pins s σ H Q I h;rw[evalPart_none];exact(10,(4,none,H,I,.none,h))
theorem Nq(h:PE X e te):PO X (1,e) (OL te):=by
 intro pins s σ H Q I hw;rw[evalPart_some];refine cZ (h pins s σ H _ I hw) λu s1 ⟨x,H1,I1,r1,q1⟩=>?_;obtain⟨i,rfl,q⟩:=q1;obtain⟨t,rfl⟩:=r1;exact(4,(1,i),H1,I1,.int i t,q)
def Pc(X:Cx)(r:V->(8,Int)->(8,Int)->Hp->VK->Prop):Prop:=
 ∀(pins:[18])(s:Shared)(σ:St)(H:Hp)(x:V)(v vl vu:Value)(lo hi:(8,Int))(sl:Addr)(Q:VK),([48])->RelV x v->s.heap.IsSliceOf sl vl vu .none->IsPart vl lo->IsPart vu hi->r x lo hi H Q->
  ∃T id,typeLookup (54,T) "__getitem__" = pure (1,(44,id))/\s.TypeIs v T/\(3,X.w,X.A,getItem v (9,sl),EP X pins σ Q,X.xe,s)
theorem Pc.or{r r':V->(8,Int)->(8,Int)->Hp->VK->Prop}(h:Pc X r)(h':Pc X r'):Pc X (λx lo hi H Q=>r x lo hi H Q\/r' x lo hi H Q):=by
 intro pins s σ H x v vl vu lo hi sl Q I rx hs pl pu q;rcases q with q|q
 ·exact h pins s σ H x v vl vu lo hi sl Q I rx hs pl pu q
 ·exact h' pins s σ H x v vl vu lo hi sl Q I rx hs pl pu q
def UO(r:V->(8,Int)->(8,Int)->Hp->VK->Prop)(te:TE)(tl th:TO):TE:=λσ H Q=>te σ H λx H1=>tl σ H1 λl H2=>th σ H2 λu H3=>r x l u H3 Q
theorem Kl{r:V->(8,Int)->(8,Int)->Hp->VK->Prop}(hr:Pc X r)(he:PE X e te)(hl:PO X lo tl)(hu:PO X hi th):PE X (.Subscript e (.Slice lo hi none p2) pos) (UO r te tl th):=by
 intro pins s σ H Q I h;refine Subscript_ (cZ (he pins s σ H _ I h) λv s1 ⟨x,H1,I1,r1,q1⟩=>?_);refine wpAny_Slice (cZ (hl pins s1 σ H1 _ I1 q1) λvl s2 ⟨l,H2,I2,pl,q2⟩=>cZ (hu pins s2 σ H2 _ I2 q2) λvu s3 ⟨u,H3,I3,pu,q3⟩=>?_);rw[evalPart_none];refine(10,?_);have I4:aN X pins σ H3 {s3 with heap:=s3.heap.push {cls:=.type "slice",data:=.fields #[vl,vu,.none]}}:=I3.kept (t':=s3.toks) λb ob q=>(21,q);obtain⟨T,id,hT,ht,hg⟩:=hr pins {s3 with heap:=s3.heap.push {cls:=.type "slice",data:=.fields #[vl,vu,.none]}} σ H3 x v vl vu l u s3.heap.objs.size Q I4 r1 (Heap.IsSliceOf.new ..) pl pu q3;show wpAny (model X.prog X.w) X.A (subscriptTail e (.Slice lo hi none p2) v (9,s3.heap.objs.size)) (EP X pins σ Q) X.xe {s3 with heap:=s3.heap.push {cls:=.type "slice",data:=.fields #[vl,vu,.none]}};exact tail_any (ops:=[(9,s3.heap.objs.size),v]) ht hT hg (by with_unfolding_all rfl)
def CO(xs:[38])(lo hi:(8,Int)):[38]:=(xs.drop (HT.sIx xs.length 0 lo)).take (HT.sIx xs.length xs.length hi - HT.sIx xs.length 0 lo)
theorem sO(xs:[38])(lo hi:(8,Int)):(CO xs lo hi).length<=xs.length:=by
 unfold CO;rw[length_take,length_drop];omega
def U1(K:Frag):V->(8,Int)->(8,Int)->Hp->VK->Prop:=λx lo hi H Q=>∃a xs,x=(9,a)/\nV K H a xs/\
 ¬(HT.sIx xs.length 0 lo=0/\HT.sIx xs.length xs.length hi=xs.length)/\∀p,H p=none->Q (9,p) (cF H p (22,CO xs lo hi))
theorem Pu:Pc X (U1 X.K):=by
 intro pins s σ H x v vl vu lo hi sl Q I rx hs pl pu h;obtain⟨a,xs,rfl,hx,hw,q⟩:=h;cases rx;obtain⟨its,r,ht,hz⟩:=I.tuple hx;have hlen:its.toArray.size=xs.length:=by rw[size_toArray];exact r.length.symm
 refine(4,"tuple",_,PyProof.Rows.slot_tuple_getitem.lookup,ht.typeIs,?_);refine HT.getItem_tuple_cut ht hs pl pu (by rw[hlen];exact hw) ?_ (by rw[hlen];exact hz)
 rw[hlen];refine(4,(9,[15]),_,I.laid (t':=s.toks) (o:=.tup (CO xs lo hi)) (λb ob q=>(21,q)) [25] ?_,rfl,q _ (I.hok.fresh [25]));exact(10,le_trans (sO xs lo hi) hz,_,(r.drop (HT.sIx xs.length 0 lo)).take (HT.sIx xs.length xs.length hi - HT.sIx xs.length 0 lo),IsTup.new _ _)
def RZ(K:Frag):R2:=λx y H Q=>∃a b xs ys,x=(9,a)/\y=(9,b)/\nV K H a xs/\nV K H b ys/\xs≠[]/\xs.length+ys.length<=sizeLine/\
 (ys=[]->Q (9,a) H)/\(ys≠[]->∀p,H p=none->Q (9,p) (cF H p (22,(xs++ys))))
theorem Vals.nil_iff{xs:[38]}{us:[21]}(r:Vals xs us):us=[]↔xs=[]:=by
 cases r with
 |_=>simp
theorem NL:(21,X,.Add,RZ X.K):=by
 intro pins s σ H x y v u Q I rx ry h;obtain⟨a,b,xs,ys,rfl,rfl,ha,hb,hx,hz,q1,q2⟩:=h;cases rx;cases ry;obtain⟨its,r1,p1,_⟩:=I.tuple ha;obtain⟨its2,r2,p2,_⟩:=I.tuple hb;refine HT.cat_tup p1 p2 (λz=>hx (r1.nil_iff.mp z)) (λz=>(4,(9,a),H,I,rfl,q1 (r2.nil_iff.mp z))) (λz=>?_) (by rw[←r1.length,←r2.length];exact hz)
 refine(4,(9,[15]),_,I.laid (t':=s.toks) (o:=.tup (xs++ys)) (λb ob q=>(21,q)) [25] ?_,rfl,q2 (λw=>z (r2.nil_iff.mpr w)) _ (I.hok.fresh [25]));exact(10,by rw[length_append];exact hz,_,r1.append r2,IsTup.new _ _)
end
def QG(n:Nat)(i:Int):(8,Nat):=if 0<=i then(if i<n then(1,i.toNat) else none) else if -(n:Int)<=i then(1,(i+n).toNat) else none
def Rg{α:Type}(xs:List α)(i:Int):(8,α):=(QG xs.length i).bind λj=>xs[j]?
theorem G7{n:Nat}{i:Int}{j:Nat}(h:QG n i=(1,j)):seqIndex? i n=(1,j)/\j<n/\-(n:Int)<=i/\i<n:=by
 unfold QG at h;by_cases h0:0<=i
 ·rw[(25,h0)] at h;by_cases h1:i<n
  ·rw[(25,h1)] at h;have e:i.toNat=j:=(50,h);exact(10,by rw[seqIndex_of h0 h1,e],by omega,by omega,h1)
  ·rw[(29,h1)] at h;cases h
 ·rw[(29,h0)] at h;by_cases h1:-(n:Int)<=i
  ·rw[(25,h1)] at h;have e:(i+n).toNat=j:=(50,h);exact(10,by rw[seqIndex_neg [11] h1,e],by omega,h1,by omega)
  ·rw[(29,h1)] at h;cases h
theorem Ay{α:Type}{xs:List α}{i:Int}{v:α}(h:Rg xs i=(1,v)):∃j,seqIndex? i xs.length=(1,j)/\xs[j]?=(1,v)/\j<xs.length/\-(xs.length:Int)<=i/\i<xs.length:=by
 unfold Rg at h;cases e:QG xs.length i with
 |none=>rw[e] at h;cases h
 |some j=>
  rw[e] at h;obtain⟨h1,h2,h3,h4⟩:=G7 e;exact⟨j,h1,h,h2,h3,h4⟩
def AA(b:Expr):Prop:=∀o i,subscripted b false o i=operate [o,i] (getItem o i)
def MH(X:Cx)(r:R2):Prop:=
 ∀(value slice:Expr)(pins:[18])(s:Shared)(σ:St)(H:Hp)(x y:V)(v u:Value)(Q:VK),([48])->RelV x v->RelV y u->r x y H Q->
  subscripted slice false v u=operate [v,u] (getItem v u)->(3,X.w,X.A,subscriptTail value slice v u,EP X pins σ Q,X.xe,s)
def Pf(X:Cx)(id:String)(r:V->([38])->Hp->VK->Prop):Prop:=
 ∀(pins:[18])(s:Shared)(σ:St)(H:Hp)(x:V)(xs:[38])(v:Value)(us:[21])(Q:VK),([48])->RelV x v->Vals xs us->r x xs H Q->
  (3,X.w,X.A,call (44,id) (v::us),EP X pins σ Q,X.xe,s)
section
variable{X:Cx}{a b:Expr}{ta tb:TE}{pos:Pos}
theorem MH.or{r r':R2}(h:MH X r)(h':MH X r'):MH X (λx y H Q=>r x y H Q\/r' x y H Q):=by
 intro value slice pins s σ H x y v u Q I rx ry q hs;rcases q with q|q
 ·exact h value slice pins s σ H x y v u Q I rx ry q hs
 ·exact h' value slice pins s σ H x y v u Q I rx ry q hs
theorem Pf.or{id:String}{r r':V->([38])->Hp->VK->Prop}(h:Pf X id r)(h':Pf X id r'):Pf X id (λx xs H Q=>r x xs H Q\/r' x xs H Q):=by
 intro pins s σ H x xs v us Q I rx rs q;rcases q with q|q
 ·exact h pins s σ H x xs v us Q I rx rs q
 ·exact h' pins s σ H x xs v us Q I rx rs q
theorem OU{r:R2}(hr:MH X r)(ha:PE X a ta)(hb:PE X b tb)(hs:AA b):PE X (.Subscript a b pos) (RJ r ta tb):=by
 intro pins s σ H Q I h;exact Subscript_ (Rf ha hb I h λv u s2 x y H2 I2 rx ry q=>hr a b pins s2 σ H2 x y v u Q I2 rx ry q (hs _ _))
def U6(K:Frag):R2:=λx y H Q=>∃p xs i v,x=(9,p)/\y=(16,i)/\kQ K H p xs/\Rg xs i=(1,v)/\Q v H
def U4(K:Frag):R2:=λx y H Q=>∃p xs i v,x=(9,p)/\y=(16,i)/\nV K H p xs/\Rg xs i=(1,v)/\Q v H
def U5:R2:=λx y H Q=>∃z i c,x=.str z/\y=(16,i)/\z.length<=sizeLine/\Rg z.cps.toList i=(1,c)/\Q (.str ⟨#[c]⟩) H
theorem O8:MH X (U6 X.K):=by
 intro value slice pins s σ H x y v u Q I rx ry h hs;obtain⟨p,xs,i,z,rfl,rfl,hq,he,q⟩:=h;cases rx;obtain⟨t,rfl⟩:=ry;obtain⟨its,r,pl,hz⟩:=I.list hq;obtain⟨j,h1,h2,h3,h4,h5⟩:=Ay he;obtain⟨w,ew,rw'⟩:=r.get h2;have hl:=r.length;have hn:=pI;have fin:EP X pins σ Q w s:=(4,z,H,I,rw',q);by_cases h0:0<=i
 ·have hj:i.toNat=j:=by
   rw[seqIndex_of h0 h5] at h1;exact(50,h1)
  exact item_listR pl.isList h0 [11] (by rw[hj];simpa using ew) fin hs
 ·have hj:(i+(its.toArray.size:Int)).toNat=j:=by
   rw[seqIndex_neg [11] h4] at h1
   rw[size_toArray,←hl];exact(50,h1)
  exact subscriptTail_builtinR (x:=w) pl.isList.typeIs slot_list_getitem.lookup
   (wpAny_getItem_list_neg (Q:=λr s'=>r=w/\EP X pins σ Q r s') pl.isList [11] (by rw[size_toArray] <;> omega) [11] (by rw[hj];simpa using ew) (62,fin)) hs
theorem ix_tup:MH X (U4 X.K):=by
 intro value slice pins s σ H x y v u Q I rx ry h hs;obtain⟨p,xs,i,z,rfl,rfl,hq,he,q⟩:=h;cases rx;obtain⟨t,rfl⟩:=ry;obtain⟨its,r,pl,hz⟩:=I.tuple hq;obtain⟨j,h1,h2,h3,h4,h5⟩:=Ay he;obtain⟨w,ew,rw'⟩:=r.get h2;have hl:=r.length;have hn:=pI;have fin:EP X pins σ Q w s:=(4,z,H,I,rw',q);exact subscriptTail_builtinR (x:=w) pl.typeIs slot_tuple_getitem.lookup
  (getItem_tuple (j:=j) (Q:=λr s'=>r=w/\EP X pins σ Q r s') pl [11] [11] (by rw[size_toArray,←hl];exact h1) (by simpa using ew) (62,fin)) hs
theorem QF:MH X U5:=by
 intro value slice pins s σ H x y v u Q I rx ry h hs;obtain⟨z,i,c,rfl,rfl,hz,he,q⟩:=h;obtain⟨t,rfl⟩:=rx;obtain⟨t',rfl⟩:=ry;obtain⟨j,h1,h2,h3,h4,h5⟩:=Ay he;have hl:z.cps.toList.length=z.length:=by simp[Str.length]
 rw[hl] at h1 h4 h5;have hn:=pI;exact tail_any (typeIs_str s z t) slot_str_getitem.lookup (getItem_str (c:=c) (by
  have e1:decide (i < -(2 ^ 63:Int))=false:=(40,[11])
  have e2:decide (i ≥ 2 ^ 63)=false:=(40,[11])
  rw[e1,e2,Bool.or_false]) (by rw[h1];simpa using h2) (4,.str ⟨#[c]⟩,H,I.tok _,(3,_,rfl),q)) hs
theorem Em(its:[21])(n j:Nat)(u:Value):Obj.mapSeq (·.setIfInBounds j u) {cls:=.type "list",data:=.seq its.toArray n}={cls:=.type "list",data:=.seq (its.set j u).toArray n}:=by
 simp[Obj.mapSeq]
theorem aN.lst{pins:[18]}{σ:St}{H:Hp}{s:Shared}{p:Addr}{xs:[38]}(I:[48])(h:H p=(1,(13,xs))):
  ∃(its:[21])(n:Nat),Vals xs its/\(28,p)=some {cls:=.type "list",data:=.seq its.toArray n}/\xs.length<=sizeLine:=by
 obtain⟨z,its,n,r,e⟩:=I.hok p _ h;exact(4,its,n,r,e,z)
theorem aN.lstUpd{pins:[18]}{σ:St}{H:Hp}{s:Shared}{p:Addr}{xs ys:[38]}{its its':[21]}{n n':Nat}{f:Obj->Obj}(I:[48])(h:H p=(1,(13,xs)))
  (ho:(28,p)=some {cls:=.type "list",data:=.seq its.toArray n}) (hf:f {cls:=.type "list",data:=.seq its.toArray n}={cls:=.type "list",data:=.seq its'.toArray n'}) (r:Vals ys its') (hz:ys.length<=sizeLine) (t:Nat):
  aN X pins σ (35,H,p,ys) {s with heap:=s.heap.update p f,toks:=t}:=by
 have e:(s.heap.update p f).get? p=some {cls:=.type "list",data:=.seq its'.toArray n'}:=by
  rw[get?_update_self f ho (by rw[hf] <;> rfl),hf]
 refine I.write (x:=p) (e:=p) (by rw[h];trivial) [42] (λb u hb q=>(get?_update_other _ _ (Ne.symm hb)).trans q) (3,_,e) ?_
 exact(4,hz,its',n',r,e)
def RY:V->V->V->Hp->(Hp->Prop)->Prop:=λo i v H Q=>∃p xs k j,o=(9,p)/\i=(16,k)/\H p=(1,(13,xs))/\QG xs.length k=(1,j)/\Q (35,H,p,xs.set j v)
theorem JS:T6 X RY:=by
 intro pins s σ H o i v ov iv u Q I ro ri rv h;obtain⟨p,xs,k,j,rfl,rfl,hp,hj,q⟩:=h;cases ro;obtain⟨t,rfl⟩:=ri;obtain⟨its,n,r,ho,hz⟩:=I.lst hp;obtain⟨h1,h2,h3,h4⟩:=G7 hj;have hl:=r.length;have hn:=pI;have I':aN X pins σ (35,H,p,xs.set j v) {s with heap:=s.heap.update p (Obj.mapSeq (·.setIfInBounds j u))}:=
  I.lstUpd hp ho (Em its n j u) (r.set rv j) (by rw[length_set];exact hz) s.toks
 by_cases h0:0<=k
 ·have hk:k.toNat=j:=by
   rw[seqIndex_of h0 h4] at h1;exact(50,h1)
  exact PySem.W.ki_setAt ho h0 [11] (by rw[size_toArray,←hl];exact h4) (by rw[hk];exact(11,_,I',q))
 ·have hk:(k+(its.toArray.size:Int)).toNat=j:=by
   rw[seqIndex_neg [11] h3] at h1
   rw[size_toArray,←hl];exact(50,h1)
  exact PySem.W.ki_setBack ho [11] (by rw[size_toArray,←hl];exact h3) [11] (by rw[hk];exact(11,_,I',q))
theorem zf(lo hi:(8,Int))(n:Nat):(sliceBounds lo hi none n).1=((HT.sIx n 0 lo:Nat):Int)/\(sliceBounds lo hi none n).2.1=((HT.sIx n n hi:Nat):Int)/\(sliceBounds lo hi none n).2.2=1:=by
 refine(35,?_,?_)
 ·cases lo with
  |none=>simp[sliceBounds,HT.sIx]
  |some i=>
   simp only[sliceBounds,HT.sIx,Option.getD_none,show(1:Int) > 0 by decide,if_true]
   by_cases h:i<0
   ·simp only[h,if_true] <;> omega
   ·simp only[h,if_false] <;> omega
 ·cases hi with
  |none=>simp[sliceBounds,HT.sIx]
  |some i=>
   simp only[sliceBounds,HT.sIx,Option.getD_none,show(1:Int) > 0 by decide,if_true]
   by_cases h:i<0
   ·simp only[h,if_true] <;> omega
   ·simp only[h,if_false] <;> omega
theorem wV(its:[21])(lo hi:(8,Int)):slicePick its.toArray lo hi none=((its.drop (HT.sIx its.length 0 lo)).take (HT.sIx its.length its.length hi - HT.sIx its.length 0 lo)).toArray:=by
 obtain⟨h1,h2,h3⟩:=zf lo hi its.toArray.size;unfold slicePick;rw[h1,h2,h3];simp only[sliceRange_one,pick_run,size_toArray] <;> rfl
def U2(K:Frag):V->(8,Int)->(8,Int)->Hp->VK->Prop:=λx lo hi H Q=>∃a xs,x=(9,a)/\kQ K H a xs/\∀p,H p=none->Q (9,p) (35,H,p,CO xs lo hi)
theorem N5:Pc X (U2 X.K):=by
 intro pins s σ H x v vl vu lo hi sl Q I rx hs pl pu h;obtain⟨a,xs,rfl,hx,q⟩:=h;cases rx;obtain⟨its,r,ht,hz⟩:=I.list hx;have hlen:=r.length;refine(4,"list",_,slot_list_getitem.lookup,ht.isList.typeIs,?_);refine wpAny_getItem_list_slice ht.isList hs pl pu .none [19] ?_ (by rw[size_toArray] <;> omega)
 rw[wV,←hlen];refine(4,(9,[15]),_,I.laid (t':=s.toks) (o:=.lst (CO xs lo hi)) (λb ob q=>(21,q)) [25] ?_,rfl,q _ (I.hok.fresh [25]));exact(4,le_trans (sO xs lo hi) hz,_,0,(r.drop (HT.sIx xs.length 0 lo)).take (HT.sIx xs.length xs.length hi - HT.sIx xs.length 0 lo),(26,_))
def p0:V->Bool
 |.non=>true
 |.bl _=>true
 |.int _=>true
 |.str _=>true
 |_=>false
def My:V->V->Bool
 |.non,.non=>true
 |.bl a,.bl b=>a == b
 |.bl a,.int b=>(if a then 1 else 0) == b
 |.int a,.bl b=>a == (if b then 1 else 0)
 |.int a,.int b=>a == b
 |.str a,.str b=>a == b
 |_,_=>false
theorem QW{A:Around}{s:Shared}{y x:V}{u v:Value}(ry:RelV y u)(rx:RelV x v)(fy:p0 y=true)(fx:p0 x=true):SeqAt.EqAt A s u v (My y x):=by
 cases y with
 |non=>
  cases ry;cases x with
  |non=>cases rx;exact SeqAt.EqAt.same _
  |bl b=>cases rx;exact SeqAt.EqAt.none_bool b
  |int b=>obtain⟨t,rfl⟩:=rx;exact SeqAt.EqAt.none_int b t
  |str b=>obtain⟨t,rfl⟩:=rx;exact SeqAt.EqAt.none_str b t
  |_=>exact(36,(show false=true from fx))
 |bl a=>
  cases ry;cases x with
  |non=>cases rx;exact SeqAt.EqAt.bool_none a
  |bl b=>cases rx;exact SeqAt.EqAt.bool_bool a b
  |int b=>obtain⟨t,rfl⟩:=rx;exact SeqAt.EqAt.bool_int a b t
  |str b=>obtain⟨t,rfl⟩:=rx;exact SeqAt.EqAt.bool_str a b t
  |_=>exact(36,(show false=true from fx))
 |int a=>
  obtain⟨t',rfl⟩:=ry;cases x with
  |non=>cases rx;exact SeqAt.EqAt.int_none a t'
  |bl b=>cases rx;exact SeqAt.EqAt.int_bool a t' b
  |int b=>obtain⟨t,rfl⟩:=rx;exact SeqAt.EqAt.int_int a t' b t
  |str b=>obtain⟨t,rfl⟩:=rx;exact SeqAt.EqAt.int_str a t' b t
  |_=>exact(36,(show false=true from fx))
 |str a=>
  obtain⟨t',rfl⟩:=ry;cases x with
  |non=>cases rx;exact SeqAt.EqAt.str_none a t'
  |bl b=>cases rx;exact SeqAt.EqAt.str_bool a t' b
  |int b=>obtain⟨t,rfl⟩:=rx;exact SeqAt.EqAt.str_int a t' b t
  |str b=>obtain⟨t,rfl⟩:=rx;exact SeqAt.EqAt.str_str a t' b t
  |_=>exact(36,(show false=true from fx))
 |_=>exact(36,(show false=true from fy))
def EW(x:V)(u:Value):Bool:=match u with
 |.none=>My .non x
 |.bool b=>My (.bl b) x
 |.int i _=>My (16,i) x
 |.str z _=>My (.str z) x
 |_=>false
theorem LX{x y:V}{u:Value}(r:RelV y u)(f:p0 y=true):EW x u=My y x:=by
 cases y with
 |non=>cases r;rfl
 |bl b=>cases r;rfl
 |int i=>obtain⟨t,rfl⟩:=r;rfl
 |str z=>obtain⟨t,rfl⟩:=r;rfl
 |_=>exact(36,(show false=true from f))
theorem r9{x:V}:∀{xs:[38]}{us:[21]},Vals xs us->xs.all p0=true->us.any (EW x)=xs.any λy=>My y x
 |_,_,.nil,_=>rfl
 |y::xs,u::us,.cons r t,f=>by
  rw[List.all_cons,and_eq_true] at f;rw[any_cons,any_cons,LX r f.1,r9 t f.2]
theorem nh{A:Around}{s:Shared}{x:V}{v:Value}(rx:RelV x v)(fx:p0 x=true):∀{xs:[38]}{us:[21]},Vals xs us->xs.all p0=true->∀u∈us,SeqAt.EqAt A s u v (EW x u)
 |_,_,.nil,_=>λu hu=>by cases hu
 |y::xs,u::us,.cons r t,f=>λu' hu=>by
  rw[List.all_cons,and_eq_true] at f;rcases mem_cons.mp hu with rfl|hu
  ·rw[LX r f.1];exact QW r rx f.1 fx
  ·exact nh rx fx t f.2 u' hu
def Tu(x:V)(xs:[38]):Bool:=xs.any λy=>My y x
def Tr(K:Frag)(neg:Bool):R2:=λx y H Q=>∃p xs,y=(9,p)/\(kQ K H p xs\/nV K H p xs)/\p0 x=true/\xs.all p0=true/\Q (.bl (if neg then !Tu x xs else Tu x xs)) H
theorem HE:(19,X,.In,Tr X.K false):=by
 intro pins s σ H x y v u Q I rx ry h;obtain⟨p,xs,rfl,hq,fx,fs,q⟩:=h;cases ry;rcases hq with hq|hq
 ·obtain⟨its,r,pl,hz⟩:=I.list hq;refine SeqAt.in_listAt (EW x) pl.isList (λw hw=>nh rx fx r fs w (by simpa using hw)) (4,.bl _,H,I,rfl,?_)
  rw[show its.toArray.any (EW x)=its.any (EW x) by simp,r9 r fs]
  exact q
 ·obtain⟨its,r,pl,hz⟩:=I.tuple hq;refine SeqAt.in_tupleAt (EW x) pl (λw hw=>nh rx fx r fs w (by simpa using hw)) (4,.bl _,H,I,rfl,?_)
  rw[show its.toArray.any (EW x)=its.any (EW x) by simp,r9 r fs]
  exact q
theorem zI:(19,X,.NotIn,Tr X.K true):=by
 intro pins s σ H x y v u Q I rx ry h;obtain⟨p,xs,rfl,hq,fx,fs,q⟩:=h;cases ry;rcases hq with hq|hq
 ·obtain⟨its,r,pl,hz⟩:=I.list hq;refine SeqAt.notIn_listAt (EW x) pl.isList (λw hw=>nh rx fx r fs w (by simpa using hw)) (4,.bl _,H,I,rfl,?_)
  rw[show its.toArray.any (EW x)=its.any (EW x) by simp,r9 r fs]
  exact q
 ·obtain⟨its,r,pl,hz⟩:=I.tuple hq;refine SeqAt.notIn_tupleAt (EW x) pl (λw hw=>nh rx fx r fs w (by simpa using hw)) (4,.bl _,H,I,rfl,?_)
  rw[show its.toArray.any (EW x)=its.any (EW x) by simp,r9 r fs]
  exact q
theorem qY:dj X (44,"len") (λxs H Q=>∃p ys,xs=[(9,p)]/\(kQ X.K H p ys\/nV X.K H p ys)/\Q (16,ys.length) H):=by
 intro pins s σ H xs us Q I r h;obtain⟨p,ys,rfl,hq,q⟩:=h;obtain⟨u,rfl,rx⟩:=kR r;cases rx;have hn:=pI;rcases hq with hq|hq
 ·obtain⟨its,r',pl,hz⟩:=I.list hq;have hlen:=r'.length;exact Calls.call_len_list pl.isList [68] (4,(16,ys.length),H,I.tok _,(3,s.toks+1,by rw[size_toArray,hlen]),q)
 ·obtain⟨its,r',pl,hz⟩:=I.tuple hq;have hlen:=r'.length;exact len_tuple pl [68] (4,(16,ys.length),H,I.tok _,(3,s.toks+1,by rw[size_toArray,hlen]),q)
theorem Aq:dj X (44,"len") (λxs H Q=>∃z,xs=[.str z]/\z.length<=sizeLine/\Q (16,z.length) H):=by
 intro pins s σ H xs us Q I r h;obtain⟨z,rfl,hz,q⟩:=h;obtain⟨u,rfl,t,rfl⟩:=kR r;have hn:=pI;exact len_str [11] (4,(16,z.length),H,I.tok _,(3,_,rfl),q)
theorem dj.or{f:Value}{r r':([38])->Hp->VK->Prop}(h:dj X f r)(h':dj X f r'):dj X f (λxs H Q=>r xs H Q\/r' xs H Q):=by
 intro pins s σ H xs us Q I rs q;rcases q with q|q
 ·exact h pins s σ H xs us Q I rs q
 ·exact h' pins s σ H xs us Q I rs q
theorem qX:dj X (54,"list") (λxs H Q=>∃p ys,xs=[(9,p)]/\(kQ X.K H p ys\/nV X.K H p ys)/\∀l,H l=none->Q (9,l) (35,H,l,ys)):=by
 intro pins s σ H xs us Q I r h;obtain⟨p,ys,rfl,hq,q⟩:=h;obtain⟨u,rfl,rx⟩:=kR r;cases rx;have fin:∀(its:[21]),Vals ys its->ys.length<=sizeLine->∀(h':Heap)(c':Nat),(∀b o',(28,b)=(1,o')->(63,b)=(1,o'))->
   (63,[15])=some {cls:=.type "list",dict:=none,data:=.seq its.toArray c',slots:=#[]}->EP X pins σ Q (9,[15]) {s with heap:=h'}:=λits r' hz h' c' kp e=>
  (4,(9,[15]),_,I.laid (t':=s.toks) kp [25] (show cV X.prog X.w _ h' _ (13,ys) from(4,hz,its,c',r',e)),rfl,q _ (I.hok.fresh [25]))
 rcases hq with hq|hq
 ·obtain⟨its,r',pl,hz⟩:=I.list hq;have hlen:=r'.length;obtain⟨o,ho,hc,n,hd⟩:=pl.isList;exact call_list_seq p [42] ho hc hd (λh' c' kp e=>fin its r' hz h' c' kp e) [68]
 ·obtain⟨its,r',pl,hz⟩:=I.tuple hq;have hlen:=r'.length;obtain⟨o,ho,hc,n,hd⟩:=pl;exact call_list_seq p (.inr rfl) ho hc hd (λh' c' kp e=>fin its r' hz h' c' kp e) [68]
theorem p5:dj X (54,"tuple") (λxs H Q=>∃p ys,xs=[(9,p)]/\((kQ X.K H p ys/\∀l,H l=none->Q (9,l) (cF H l (22,ys)))\/(nV X.K H p ys/\Q (9,p) H))):=by
 intro pins s σ H xs us Q I r h;obtain⟨p,ys,rfl,h⟩:=h;obtain⟨u,rfl,rx⟩:=kR r;cases rx;rcases h with⟨hq,q⟩|⟨hq,q⟩
 ·obtain⟨its,r',pl,hz⟩:=I.list hq;have hlen:=r'.length;refine call_tuple_list pl.isList (λh' kp=>?_) [68]
  have I1:aN X pins σ H {s with heap:=h'}:=I.kept (t':=s.toks) kp;have I2:aN X pins σ (cF H h'.objs.size (22,ys)) {s with heap:=h'.push {cls:=.type "tuple",data:=.seq its.toArray}}:=
   I1.laid (t':=s.toks) (λb o e=>(21,e)) [25] (show cV X.prog X.w _ _ _ (22,ys) from(10,hz,its,r',IsTup.new _ _))
  exact(4,(9,h'.objs.size),_,I2,rfl,q _ (I1.hok.fresh [25]))
 ·obtain⟨its,r',pl,hz⟩:=I.tuple hq;exact call_tuple_same pl (4,(9,p),H,I,rfl,q)
def TF(K:Frag)(T:String)(x:V)(H:Hp):Prop:=match x with
 |.str _=>T = "str"
 |.int _=>T = "int"
 |.ref p=>(T = "list" /\ ∃xs,kQ K H p xs)\/(T = "tuple" /\ ∃o,K.lookup p=[46]/\o.cls=(54,"tuple") /\ o.dict=none)\/
   (T = "dict" /\ ((∃kvs,H p=(1,.dK kvs))\/∃kvs,H p=(1,.dT kvs)))\/(T = "set" /\ ∃S n,H p=(1,.set S n))
 |_=>False
theorem Jy{pins:[18]}{σ:St}{H:Hp}{s:Shared}{T:String}{x:V}{v:Value}(I:[48])(r:RelV x v)(ty:TF X.K T x H):
  s.TypeIs v T/\∀a,v=(9,a)->∃ob,(28,a)=(1,ob)/\ob.dict=none:=by
 cases x with
 |str z=>
  obtain⟨t,rfl⟩:=r;cases (show T = "str" from ty);exact(3,typeIs_str s z t,λ_ e=>nomatch e)
 |int i=>
  obtain⟨t,rfl⟩:=r;cases (show T = "int" from ty);exact(3,typeIs_int s i t,λ_ e=>nomatch e)
 |ref p=>
  cases r;rcases ty with⟨rfl,xs,hq⟩|⟨rfl,o,hk,hc,hd⟩|⟨rfl,hk⟩|⟨rfl,S,n,hk⟩
  ·obtain⟨its,_,pl,_⟩:=I.list hq;refine(3,pl.isList.typeIs,λa e=>?_);cases e;obtain⟨o,n,e,c,hd,_⟩:=pl;exact(11,o,e,hd)
  ·refine(3,(11,o,I.kIn p o hk,hc),λa e=>?_);cases e;exact(11,o,I.kIn _ o hk,hd)
  ·have z:∃o,(28,p)=[46]/\o.ExactDict:=by
    rcases hk with⟨kvs,hk⟩|⟨kvs,hk⟩
    ·obtain⟨_,_,_,_,o,_,_,e,ex,_⟩:=I.hok p _ hk;exact(11,o,e,ex)
    ·obtain⟨_,_,_,_,o,_,_,e,ex,_⟩:=I.hok p _ hk;exact(11,o,e,ex)
   obtain⟨o,e,ex⟩:=z;refine(3,(11,o,e,ex.1),λa e2=>?_);cases e2;exact(11,o,e,ex.2.1)
  ·obtain⟨o,_,_,_,e,ex,_⟩:=I.hok p _ hk;refine(3,(11,o,e,ex.1),λa e2=>?_);cases e2;exact(11,o,e,ex.2.1)
 |_=>exact False.elim ty
def TX(K:Frag)(T:String)(r:V->([38])->Hp->VK->Prop)(to:TE):TE:=λσ H Q=>to σ H λx H1=>TF K T x H1/\r x [] H1 Q
def US(K:Frag)(T:String)(r:V->([38])->Hp->VK->Prop)(to:TE)(t:TA):TE:=λσ H Q=>to σ H λx H1=>TF K T x H1/\t σ H1 λxs H2=>r x xs H2 Q
variable{o e:Expr}{es:List Expr}{to:TE}{t:TA}{name:Str}{apos cpos:Pos}{T id:String}{r:V->List V->Hp->VK->Prop}
theorem Qa(pa:PlainAttrs T)(slot:Slot T name id)(hty:typeOf (44,id)=pure (54,"method_descriptor"))(hm:Pf X id r)(ho:PE X o to)
  (hbase:attributeBase o name X.env (14,o)=(14,o):=by rfl) (hline:(apos.endLine == cpos.line)=true:=by rfl):PE X (5,(8,o,name),[],cpos) (TX X.K T r to):=by
 intro pins s σ H Q I h;refine wpAny_Call_method0_late hbase hline (cZ (ho pins s σ H _ I h) λv s1 ⟨x,H1,I1,r1,ty,q1⟩=>?_);obtain⟨h1,h2⟩:=Jy I1 r1 ty;exact⟨T,id,pa,slot,hty,h1,h2,Calls.callWith_builtin rfl (PySem.evalArgs_none (hm pins s1 σ H1 x [] v [] Q I1 r1 .nil q1))⟩
theorem Kt(pa:PlainAttrs T)(slot:Slot T name id)(hty:typeOf (44,id)=pure (54,"method_descriptor"))(hm:Pf X id r)(ho:PE X o to)(ha:PA X (e::es) t)
  (hbase:attributeBase o name X.env (14,o)=(14,o):=by rfl)
  (hfew:((7,cpos,(e::es)).all (λx=>!x.1) && (15,cpos,[],X.env).all (λx=>x.1.isSome)
   && decide ((e::es).length+([]:List Keyword).length+(if([]:List Keyword).isEmpty then 0 else 1)<30))=true:=by rfl)
  (hline:(apos.endLine == cpos.line)=true:=by rfl) (hs:(4,(e::es))=(false,(14,e))::(4,es):=by rfl) (hplain:(7,cpos,es).any (·.1)=false:=by rfl):
  PE X (5,(8,o,name),(e::es),cpos) (US X.K T r to t):=by
 intro pins s σ H Q I h;refine wpAny_Call_method_late hbase hfew hline rfl (cZ (ho pins s σ H _ I h) λv s1 ⟨x,H1,I1,r1,ty,q1⟩=>?_);obtain⟨h1,h2⟩:=Jy I1 r1 ty;refine⟨T,id,pa,slot,hty,h1,h2,?_⟩;have hA:=ha cpos pins s1 σ H1 _ I1 q1;rw[hs] at hA ⊢;refine Calls.callWith_builtin (by show(false || (7,cpos,es).any (·.1))=false;rw[hplain] <;> rfl) (Calls.evalArgs_plain ?_)
 exact cZ hA λus s2 ⟨vs,H2,I2,r2,q2⟩=>hm pins s2 σ H2 x vs v us Q I2 r1 r2 q2
end
def Uv(X:Cx)(id:String)(r:V->([38])->Hp->VK->Prop):Prop:=
 ∀(pins:[18])(s:Shared)(σ:St)(H:Hp)(x:V)(xs:[38])(v:Value)(us:[21])(Q:VK),([48])->RelV x v->Vals xs us->r x xs H Q->
  (3,X.w,X.A,call (44,id) (v::us),EP X pins σ Q,X.xe,s)
theorem Vals.one:∀{x:V}{us:[21]},Vals [x] us->∃u,us=[u]/\RelV x u
 |_,_,.cons r .nil=>(19,_,r)
theorem Vals.two:∀{x y:V}{us:[21]},Vals [x,y] us->∃u v,us=[u,v]/\RelV x u/\RelV y v
 |_,_,_,.cons r (.cons q .nil)=>(4,_,_,rfl,r,q)
theorem Vals.zero:∀{us:[21]},Vals [] us->us=[]
 |_,.nil=>rfl
theorem Vals.dropLast{xs:[38]}{us:[21]}(h:Vals xs us):Vals xs.dropLast us.dropLast:=by
 induction h with
 |nil=>exact .nil
 |cons r t ih=>
  cases t with
  |nil=>exact .nil
  |cons q t'=>exact(22,r,ih)
theorem Vals.reverse{xs:[38]}{us:[21]}(h:Vals xs us):Vals xs.reverse us.reverse:=by
 induction h with
 |nil=>exact .nil
 |cons r t ih=>rw[List.reverse_cons,List.reverse_cons];exact Vals.append ih (22,r,.nil)
theorem Vals.rep{xs:[38]}{us:[21]}(h:Vals xs us):∀k:Nat,Vals (replicate k xs).flatten (replicate k us).flatten
 |0=>.nil
 |k+1=>by
  rw[replicate_succ,replicate_succ,flatten_cons,flatten_cons];exact Vals.append h (Vals.rep h k)
theorem yn(its:[21]):∀(k:Nat)(acc:[21]),
  List.foldl (λx1 x2=>x1++x2) acc.toArray (replicate k its.toArray)=(acc++(replicate k its).flatten).toArray
 |0,acc=>by simp
 |k+1,acc=>by
  have e:acc.toArray++its.toArray=(acc++its).toArray:=by simp
  have e2:(acc++its)++(replicate k its).flatten=acc++(replicate (k+1) its).flatten:=by
   rw[replicate_succ,flatten_cons,append_assoc]
  rw[←e2,←yn its k (acc++its),←e,replicate_succ,foldl_cons]
section
variable{X:Cx}{pins:List (Addr×Obj)}{σ:St}{H:Hp}{s:Shared}{l b:Addr}{xs ys zs:List V}
theorem aN.lset{its its':[21]}{n:Nat}{f:([33])->[33]}{t':Nat}(I:[48])(hH:H l=(1,(13,xs)))
  (e:(28,l)=some {cls:=.type "list",data:=.seq its.toArray n}) (hf:f its.toArray=its'.toArray) (hv:Vals ys its') (hz:ys.length<=sizeLine):
  aN X pins σ (35,H,l,ys) {s with heap:=s.heap.update l (Obj.mapSeq f),toks:=t'}:=by
 have q:=PySem.IsL.update e f;rw[hf] at q;refine I.write (x:=l) (e:=l) (by rw[hH];exact trivial) [42] (λb' u hb hu=>(get?_update_other s.heap (Obj.mapSeq f) (Ne.symm hb)).trans hu) (3,_,q) ?_
 exact(4,hz,its',_,hv,q)
theorem aN.lnew{its:[21]}{t':Nat}(I:[48])(hv:Vals ys its)(hz:ys.length<=sizeLine):
  aN X pins σ (35,H,[15],ys) {s with heap:=s.heap.push {cls:=.type "list",data:=.seq its.toArray},toks:=t'}:=
 I.laid (λ_ _ q=>(21,q)) [25] (4,hz,its,0,hv,(26,_))
theorem aN.fresh(I:[48]):H [15]=none:=I.hok.fresh [25]
theorem aN.lstM(I:[48])(hH:H l=(1,(13,xs))):xs.length<=sizeLine/\∃(its:[21])(n:Nat),Vals xs its/\xs.length=its.length/\(28,l)=some {cls:=.type "list",data:=.seq its.toArray n}:=by
 obtain⟨z,its,n,r,e⟩:=I.hok l _ hH;exact⟨z,its,n,r,r.length,e⟩
theorem vo{n:Nat}(h:n<=sizeLine):Builtin.List.listTooLong n=false:=by
 unfold Builtin.List.listTooLong;exact(40,[11])
end
section
variable{X:Cx}
def Nh:V->([38])->Hp->VK->Prop:=λx vs H Q=>∃l xs y,x=(9,l)/\vs=[y]/\H l=(1,(13,xs))/\xs.length<sizeLine/\Q .non (35,H,l,(xs++[y]))
theorem rS:Uv X "list.append" Nh:=by
 intro pins s σ H x vs v us Q I rx rv h;obtain⟨l,xs,y,rfl,rfl,hH,hz,q⟩:=h;cases rx;obtain⟨u,rfl,ru⟩:=rv.one;obtain⟨z,its,n,r,hl,e⟩:=I.lstM hH;refine call_meets F.slot_list_append (35,_,e) F.entry_list_append (F.args_list_append_2 _ _) (PySem.list_append l its.toArray n u (by rw[size_toArray];omega)) (3,e,?_)
 refine(4,.non,_,I.lset (its':=its++[u]) hH e [19] (r.append (22,ru,.nil)) ?_,rfl,q)
 rw[length_append,length_singleton];omega
def U3:R2:=λx y H Q=>∃l k xs,x=(9,l)/\y=(16,k)/\H l=(1,(13,xs))/\-(2 ^ 63)<=k/\k<2 ^ 63/\xs.length * k.toNat<=sizeLine/\
 ∀p,H p=none->Q (9,p) (35,H,p,(replicate k.toNat xs).flatten)
theorem NZ{α:Type}(xs:List α)(k:Nat):(replicate k xs).flatten.length=k * xs.length:=by
 induction k with
 |zero=>simp
 |succ k ih=>rw[replicate_succ,flatten_cons,length_append,ih,Nat.succ_mul,Nat.add_comm]
theorem Qk:(21,X,.Mult,U3):=by
 intro pins s σ H x y v u Q I rx ry h;obtain⟨l,k,xs,rfl,rfl,hH,h1,h2,hz,q⟩:=h;cases rx;obtain⟨t,rfl⟩:=ry;obtain⟨z,its,n,r,hl,e⟩:=I.lstM hH;have hlen:its.toArray.size * k.toNat<=sizeLine:=by rw[size_toArray,←hl];exact hz
 have hcap:¬its.toArray.size * k.toNat > (2 ^ 63 - 1) / 8:=by
  have:(sizeLine:Nat)<=(2 ^ 63 - 1) / 8:=by decide
  omega
 have hfit:¬(!Builtin.List.listFitsIndex k)=true:=by
  rw[fitsIndex_both h1 h2];exact Bool.false_ne_true
 have hlong:¬Builtin.List.listTooLong (its.toArray.size * k.toNat)=true:=by
  rw[vo hlen];exact Bool.false_ne_true
 have hnew:List.foldl (λx1 x2=>x1++x2) #[] (replicate (if its.toArray.isEmpty=true then 0 else k.toNat) its.toArray)=(replicate k.toNat its).flatten.toArray:=by
  have f0:∀m:Nat,List.foldl (λx1 x2=>x1++x2) #[] (replicate m its.toArray)=(replicate m its).flatten.toArray:=λm=>by
   have:=yn its m [];rw[List.nil_append] at this;exact this
  rw[f0];cases its with
  |nil=>simp
  |cons a r'=>rw[(29,[19])]
 refine wpAny_binaryOp_repeat_ref (T := "list") (U := "int") [13] (35,_,e) (λs'=>typeIs_int s' k t) noFill_list_mul F.fills_int_mul F.slot_int_rmul repeat_list F.slot_int_index.lookup
  (call_meets F.slot_int_rmul (typeIs_int s k t) F.entry_int_rmul (F.args_int_rmul_2 _ _) (int___rmul___int_list k t l its.toArray n)
   (10,e,rfl,(35,_,e),call_meets F.slot_list_mul (35,_,e) F.entry_list_mul (F.args_list_mul_2 _ _) (AutoListH.list___mul___list_int_3 l its.toArray n k t hfit hcap hlong) (3,e,?_)))
 rw[hnew];exact(4,(9,_),_,I.lnew (t':=s.toks) (r.rep k.toNat) (by rw[NZ,Nat.mul_comm];exact hz),rfl,q _ I.fresh)
end
end L2
namespace Att
open PySem PySem.W PySem.Calls PyProof.Rows
theorem tu{P:Params}{h:Heap}:∀(ns:[24])(vs:[21]),WellAll P h vs (ns.map WData.int)->IntsAre vs ns:=by
 intro ns
 induction ns with
 |nil=>
  intro vs w;rw[map_nil] at w;cases w;exact .nil
 |cons n ns ih=>
  intro vs w;rw[map_cons] at w;cases w with
  |cons a b=>
   cases a;exact .cons _ _ (ih _ b)
theorem Hg{l:OpenLaw}{n:Nat}(hn:l.most=(1,n)){P:Params}{h:Heap}{args:List WData}{vals:[21]}
  (hpre:l.row.toRowW.claim.pre args=true) (hwl:WellAll P h vals args):
  ∃a vs ns,vals=[Value.ref a]/\args=[WData.list (ns.map WData.int)]/\h.get? a=some {cls:=.type "list",data:=.seq vs.toArray}/\IntsAre vs ns/\ns.length<=n:=by
 have hsh:WShape.hasAll [] args [.list .int]=true:=(pre_splitW hpre).1;have hc:l.pre.holds [] {args:=args}=true:=(pre_splitW hpre).2;obtain⟨d,r,rfl,h1,h2⟩:=hasAllW_cons hsh;obtain rfl:=hasAllW_nil h2;obtain⟨xs,rfl,h3⟩:=hasW_list h1;obtain⟨ns,rfl⟩:=items_int h3;have hlen:ns.length<=n:=by
  unfold OpenLaw.pre at hc;have h4:(WTm.not (.lt (.lit (.int (n:Int))) (.len (.arg 0)))).holds [] {args:=[.list (ns.map .int)]}=true:=by
   have h4:=(holds_andW hc).1;rw[hn] at h4;exact h4
  have h5:=condW_of h4 (w_not (w_lt w_lit (w_len_list (w_arg rfl))));rw[length_map] at h5;refine Nat.le_of_not_lt λq=>?_;have q':(n:Int)<((ns.length:Nat):Int):=by omega
  first
   | (rw[(51,q')] at h5;exact(32,h5,[13]))
   | (simp at h5;omega)
 cases hwl with
 |cons w1 w2=>
  cases w2;cases w1 with
  |list ho hall=>exact⟨_,_,ns,rfl,rfl,ho,tu ns _ hall,hlen⟩
theorem Hu(l:OpenLaw)(args:List WData):l.row.toRowW.claim.post args (.bool true) args=true:=
 postW_of (r:=l.row.toRowW) (X:=(true == true))
  (show WShape.has [] (.bool true) .bool=true by first|rfl|decide|simp[WShape.has,WShape.arms,WShape.armsAll])
  (show(WTm.eq .res (.lit (.bool true))).value [] {args:=args,res:=some (.bool true),after:=args}=(1,.bool (true == true)) from w_eq_bool (w_res rfl) w_lit) rfl
theorem attach_call{l:OpenLaw}{n:Nat}{q:Program}{loose:[16]}{XP:(Str->[30])->Heap->Prop}{YP:World->Heap->Prop}{d:DefRec}
  (hn:l.most=(1,n)) (hdf:d.params.defaults=[])
  (call:∀(w:World)(s₀ s₁:Shared)(mg mb:Str->[30])(fa:Addr)(o:Obj)(pm cd doc:Value)(a:Addr)(vs:[21])(ns:[24]),
   Ground q loose [] XP w s₀ mg mb s₁.heap->YP w s₁.heap->
   s₁.heap.get? fa=([46])->o.data=.func (docDef d.name d.params d.body d.scope pm cd doc)->s₁.heap.CodeRec cd d.name->mg d.name=(1,(9,fa))->
   s₁.heap.get? a=some {cls:=.type "list",data:=.seq vs.toArray}->IntsAre vs ns->ns.length<=n->s₁.gens=#[]->
   (5,model l.prog w,callerA,.call (9,fa) (3,[(9,a)],[]),s₁)):
  WalkO q loose XP YP l.row.toRowW d [] (λf vs=>PySem.call f vs):=by
 intro w s₀ s₁ mg mb G Y fa o pm cd doc dV kV ho hd hcd hD hmg hg args vals as hpre hlay hrd hwl hlo;obtain rfl:dV=.none:=Dflts.none hD hdf;obtain rfl:kV=.none:=Dflts.noKw hD;obtain⟨a,vs,ns,rfl,rfl,hobj,hints,hlen⟩:=Hg hn hpre hwl;refine enter_call (codeAny_mono (call w s₀ s₁ mg mb fa o pm cd doc a vs ns G Y ho (fd_plain hd) hcd hmg hobj hints hlen hg) λr s' hq=>?_);obtain⟨rfl,h2,h3,h4⟩:=hq;exact(10,.inl ⟨.bool true,.bool true,[],rfl,λ_=>rfl,.bool true,Hu l _,λ_=>(3,List.Pairwise.nil,λ_ hm=>(nomatch hm))⟩,h2,h3,h4)
section
variable{prog:Program}{w:World}{A:Around}{E:Value->Shared->Prop}{s:Shared}{K:Frag}
def Ub(h:Heap)(L d:Addr):[18]:=(19,h.objs.size).filterMap λa=>if a=L\/a=d then none else(h.get? a).map λo=>(a,o)
end
end Att
namespace L2
open PySem PySem.Spec PyProof.Rows
theorem rf:∀{vs:[21]}{ns:[24]},IntsAre vs ns->Vals (ns.map V.int) vs
 |_,_,.nil=>.nil
 |_,_,.cons n t h=>(22,(3,t,rfl),rf h)
def Rl(H:Hp):Prop:=∀b,H b=none\/∃o xs,H b=(1,.frz o (13,xs))
theorem Lc{P:Program}{w:World}{K:Frag}{mg mb:Str->[30]}{CX:Ji}{k:Nat}{fa a:Addr}{fd:FuncData}{x:Str}{sp:Sp}{s₁:Shared}{vs:[21]}{ns:[24]}
  (KX:K.In s₁.heap) (hns:s₁.heap.Ns mainGlobals mg) (hb:s₁.heap.Ns builtinsNs mb) (hbb:∀x:Str,x ≠ "__name__" -> mb x=(60,x)) (hlim:s₁.heap.NoLimit) (hg:s₁.gens=#[])
  (ha:s₁.heap.get? a=some {cls:=.type "list",data:=.seq vs.toArray}) (hi:IntsAre vs ns) (hl:ns.length<=sizeLine) (hr:cu k callerA)
  (F:∀base:Heap,K.In base->base.Ns mainGlobals mg->dR P w K mg base CX k fa fd [x] sp) (hbind:∀(s:Shared)(u:Value),BindsTo s fd (3,[u],[]) [(x,u)])
  (hsp:∀H:Hp,Rl H->kQ K H a (ns.map V.int)->sp [(9,a)] H (λv _=>v=.bl true) λ_ _ _=>False)
  (hCX:∀H e s',CX [] H s₁ (λ_ _ _=>False) e s'->False):
  (5,model P w,callerA,.call (9,fa) (3,[(9,a)],[]),s₁):=by
 have rv:=rf hi;have lenV:=hi.length;have core:∀H:Hp,Rl H->kQ K H a (ns.map V.int)->mK P w H s₁.heap->(∀b,H b≠none->b=a)->(H a≠none->K.lookup a=none)->
   (5,model P w,callerA,.call (9,fa) (3,[(9,a)],[]),s₁):=by
  intro H hO hS hok hA hK;have base_of:∀{b:Addr}{o:Obj},s₁.heap.get? b=([46])->H b=none->(nz s₁.heap H).get? b=[46]:=λe n=>Cr e n;have noA:∀{b:Addr}{o:Obj}{es:Array DictEntry}{ep:Nat},s₁.heap.get? b=([46])->o.data=.dict es ep->H b=none:=λ{b o es ep} e d=>by
   cases q:H b with
   |none=>rfl
   |some u=>
    have e':b=a:=hA b (by rw[q];simp)
    subst e';rw[ha] at e;cases e;have d':Data.seq vs.toArray _=Data.dict es ep:=d;cases d'
  have nsK:∀{b:Addr}{m:Str->[30]},s₁.heap.Ns b m->(nz s₁.heap H).Ns b m:=λ{b m} ⟨o,es,ep,e,d,r⟩=>⟨o,es,ep,base_of e (noA e d),d,r⟩;have hKb:K.In (nz s₁.heap H):=λb o e=>base_of (KX b o e) (by
   cases q:H b with
   |none=>rfl
   |some u=>
    have e':b=a:=hA b (by rw[q];simp)
    subst e';rw[hK (by rw[q];simp)] at e;cases e)
  have hM:Mod K mg (nz s₁.heap H):=(10,hKb,nsK hns,(11,mb,nsK hb,hbb),let ⟨mc,h1,h2⟩:=hlim;(11,mc,nsK h1,h2));have e0:nX P w K mg (nz s₁.heap H) callerA [] s₁ H:=⟨rfl,hM,λb o e=>FZ e,le_of_eq (yl _ _),trivial,λb hb=>(32,(show b∈([]:[40]) from hb),[19]),hok,.of_eq hg⟩
  refine codeAny_mono ((F _ hKb (nsK hns)).run callerA [] s₁ H (3,[(9,a)],[]) [(9,a)] [(9,a)] _ _ hr e0 (hbind s₁ (9,a)) (22,rfl,.nil) (hsp H hO hS)) λr s' h=>?_;cases r with
  |error e=>exact(hCX H e s' h).elim
  |ok fl=>
   cases fl with
   |next=>exact False.elim h
   |brk=>exact False.elim h
   |cont=>exact False.elim h
   |ret u=>
    obtain⟨v,H',os,bare,un,hok',r',q⟩:=h;have q':v=.bl true:=q;subst q';obtain rfl:u=Value.bool true:=r';refine(10,rfl,OldK.of_keep λb o e=>?_,os,bare);cases q:H b with
    |none=>exact un.keep b o e q (by intro z;exact(32,(show b∈([]:[40]) from z),[19])) [19]
    |some u=>
     rcases hO b with z|⟨ob,xs,z⟩
     ·rw[q] at z;cases z
     ·have z2:=un.frzs b ob _ z;obtain⟨e1,_⟩:=hok b _ z;obtain⟨e2,_⟩:=hok' b _ z2;rw[e] at e1;cases e1;exact e2
 cases hk:K.lookup a with
 |some o=>
  have e:=KX a o hk;rw[ha] at e;cases e;refine core (λ_=>none) (λ_=>[42]) (.inr ⟨_,vs.toArray,_,hk,rfl,rfl,rfl,by rw[size_toArray,lenV];exact hl,by simpa using rv⟩) (λb u z=>by have z':(none:(8,HO))=(1,u):=z;cases z') (λb z=>(32,rfl,z)) λz=>(32,rfl,z)
 |none=>
  refine core (λb=>if b=a then[49] else none) (λb=>?_) (.inl (.inr (3,{cls:=.type "list",data:=.seq vs.toArray},(25,rfl)))) (λb u z=>?_) (λb z=>?_) λ_=>hk
  ·by_cases hb:b=a
   ·exact .inr (11,_,_,(25,hb))
   ·exact .inl (29,hb)
  ·by_cases hb:b=a
   ·have z':=(25,hb).symm.trans z;cases z';subst hb;exact⟨ha,by rw[length_map];exact hl,vs,_,rv,ha⟩
   ·have z':=(29,hb).symm.trans z;cases z'
  ·by_cases hb:b=a
   ·exact hb
   ·exact(32,(29,hb),z)
abbrev UY{K:Frag}{h:Heap}(_:K.In h):Frag:=K
theorem Th{l:PySem.W.OpenLaw}{n k:Nat}{q:Program}{loose:[16]}{XP:(Str->[30])->Heap->Prop}{YP:World->Heap->Prop}{d:DefRec}{K:Params->Frag}{CX:World->Ji}{sp:World->Sp}{x:Str}
  (hn:l.most=(1,n)) (hn2:n<=sizeLine) (hdf:d.params.defaults=[]) (hr:cu k callerA)
  (hY:∀(w:World)(h:Heap),YP w h->(K w.params).In h)
  (F:∀(w:World)(mg:Str->[30])(fa:Addr)(h:Heap),(K w.params).In h->h.Ns mainGlobals mg->mg d.name=(1,(9,fa))->
   ∃fd:FuncData,(∀(s:Shared)(u:Value),BindsTo s fd (3,[u],[]) [(x,u)])/\
    ∀base:Heap,(K w.params).In base->base.Ns mainGlobals mg->dR l.prog w (K w.params) mg base (CX w) k fa fd [x] (sp w))
  (hsp:∀(w:World)(H:Hp)(a:Addr)(ns:[24]),ns.length<=n->Rl H->kQ (K w.params) H a (ns.map V.int)->sp w [(9,a)] H (λv _=>v=.bl true) λ_ _ _=>False)
  (hCX:∀(w:World)(H:Hp)(s:Shared)(e:Value)(s':Shared),CX w [] H s (λ_ _ _=>False) e s'->False):
  PySem.W.WalkO q loose XP YP l.row.toRowW d [] (λf vs=>PySem.call f vs):=by
 refine Att.attach_call hn hdf λw s₀ s₁ mg mb fa o pm cd doc a vs ns G Y ho hd hcd hmg hobj hints hlen hg=>?_;have KX:=hY w _ Y;obtain⟨fd,hb,hF⟩:=F w mg fa _ KX G.T.g hmg;exact Lc KX G.T.g G.T.b G.T.builtins G.T.nolimit hg hobj hints (le_trans hlen hn2) hr hF hb (λH hO hS=>hsp w H a ns hlen hO hS) λH e s'=>hCX w H s₁ e s'
def bN(s:Stmt)(j:Nat):Stmt:=match s with
 |.ClassDef _ _ _ body _ _ _ _ _ _ _=>body.getD j (.Pass (10,0,0,0,0))
 |_=>.Pass (10,0,0,0,0)
def bT(s:Stmt):Arguments:=match s with
 |.FunctionDef _ a _ _ _ _ _ _ _ _=>a
 |_=>{posonlyargs:=[],args:=[],vararg:=none,kwonlyargs:=[],kw_defaults:=[],kwarg:=none,defaults:=[]}
def aS(s:Stmt):List Stmt:=match s with
 |.FunctionDef _ _ b _ _ _ _ _ _ _=>b
 |_=>[]
def ai(s:Stmt):Scope:=match s with
 |.FunctionDef _ _ _ _ _ _ sc _ _ _=>sc
 |_=>{kind:=.function,names:=[],isGenerator:=false,isCoroutine:=false}
abbrev lK:Ji:=λ_ _ _ _ _ _=>False
abbrev E0:XK:=λ_ _ _=>False
theorem oV{X:Cx}:nW lK X E0:=λ_ _ _ _ _ _ _ h=>h.elim
structure D8(K:Frag)(x qual:Str)(st:Stmt)(f:Addr)(fd:FuncData):Prop where
 ex:∃(oc:Value)(od:(8,Addr))(kV doc pm:Value)(an:(8,Addr))(cdv ct:Value)(osl:Array [30]),
  fd=(1,x,qual,bT st,aS st,[60],.none,kV,pm,an,cdv,ct)/\K.lookup f=(1,(10,oc,od,.func fd,osl))/\codeIn K cdv qual=true
 kp:(39,K,f)=true
section
variable{P:Program}{w:World}{K:Frag}{mg:Str->Option Value}{base:Heap}
theorem D8.ok{x qual:Str}{st:Stmt}{f:Addr}{fd:FuncData}{N ps:[16]}{k:Nat}{sp:Sp}(F:D8 K x qual st f fd)(S:(23,N,ps,st))(len:∀vs H Q E,sp vs H Q E->vs.length=ps.length)
  (hbody:∀(cdv:Value)(A:Around)(outer:List Env)(s:Shared)(H:Hp)(vs:[38])(Q:VK)(E:XK),cu k (2,qual,[60],[15],f,cdv)->sp vs H Q E->
   ∃t,tO (mr lK P w K mg base N qual [60] f cdv A outer s H E).nox (aS st) t/\t {nx:=λ_ H'=>Q .non H',rt:=Q} (start N vs) H):dR P w K mg base lK (k+1) f fd ps sp:=by
 obtain⟨oc,od,kV,doc,pm,an,cdv,ct,osl,rfl,lk,hcd⟩:=F.ex;refine P3 lk hcd S len λA outer s H vs Q E hr hsp=>?_;obtain⟨t,h,q⟩:=hbody cdv A outer s H vs Q E hr hsp;exact(11,t,h.nox,q)
theorem D8.binds{x qual:Str}{st:Stmt}{f:Addr}{fd:FuncData}{ps:[16]}(F:D8 K x qual st f fd)
  (h:∀(kV doc pm:Value)(an:(8,Addr))(cdv ct:Value)(us:[21]),us.length=ps.length->bindArgs (1,x,qual,bT st,aS st,[60],.none,kV,pm,an,cdv,ct) (3,us,[])=pure (ps.zip us)):eJ K fd ps []:=by
 obtain⟨oc,od,kV,doc,pm,an,cdv,ct,osl,rfl,lk,hcd⟩:=F.ex;exact .all (h kV doc pm an cdv ct)
theorem nA{x qual:Str}{st:Stmt}{f:Addr}{oc:Value}{od an:(8,Addr)}{osl:Array [30]}{kV doc pm cdv ct:Value}(l:K.lookup f=(1,(10,oc,od,.func (1,x,qual,bT st,aS st,[60],.none,kV,pm,an,cdv,ct),osl)))
  (c:codeIn K cdv qual=true) (k:(39,K,f)=true):D8 K x qual st f (1,x,qual,bT st,aS st,[60],.none,kV,pm,an,cdv,ct):=(3,⟨oc,od,kV,doc,pm,an,cdv,ct,osl,rfl,l,c⟩,k)
end
theorem Gc{A:Around}{k:Nat}(hr:cu k A):A.units+1<cLine:=lt_of_le_of_lt (Nat.add_le_add_left (by decide:1<=64) _) hr.units
section
variable{X:Cx}
theorem pv(i:Nat){x:Str}{pos:Pos}(hN:X.N[i]?=(1,x):=by rfl)(hv:T3 [53] x:=by first|exact Or.inl rfl|exact Or.inr (Or.inl rfl)|exact Or.inr (Or.inr rfl))(hd:(x == ("__debug__":Str))=false:=by decide)
  (hcd:(x == ("__classdict__":Str))=false:=by decide):PE X (23,pos) (ka i):=Q4 hN hv hd hcd
end
theorem SH{A B:Prop}(h:B):if false=true then A else B:=by
 rw[(29,[27])];exact h
theorem QH{A B:Prop}(h:A):if true=true then A else B:=by
 rw[(25,rfl)];exact h
def aM(H H':Hp):Prop:=∀b o,H b=([46])->H' b=[46]
theorem aM.refl(H:Hp):aM H H:=λ_ _ h=>h
theorem aM.trans{H H1 H2:Hp}(a:aM H H1)(b:aM H1 H2):aM H H2:=λc o h=>b c o (a c o h)
theorem aM.free{H H':Hp}(e:aM H H'){l:Addr}(h:H' l=Option.none):H l=Option.none:=by
 cases q:H l with
 |none=>rfl
 |some o=>
  rw[e l o q] at h;cases h
theorem aM.seq{K:Frag}{H H':Hp}{a:Addr}{xs:[38]}(e:aM H H')(h:kQ K H a xs):kQ K H' a xs:=by
 rcases h with(h|⟨o,h⟩)|h
 ·exact .inl (.inl (e _ _ h))
 ·exact .inl (.inr (3,o,e _ _ h))
 ·exact .inr h
section
variable{κ:Type}[DecidableEq κ]
def jK(kvs:List (κ×V))(k:κ):(8,V):=(kvs.find? λkv=>decide (kv.1=k)).map (·.2)
def oJ(kvs:List (κ×V))(k:κ)(v:V):List (κ×V):=
 if(kvs.any λkv=>decide (kv.1=k))=true then kvs.map (λkv=>if kv.1=k then(kv.1,v) else kv) else kvs++[(k,v)]
def P6(kvs:List (κ×V))(k:κ):List (κ×V):=kvs.filter λkv=>decide (kv.1≠k)
theorem eR{p:κ×V}{r:List (κ×V)}{k:κ}(e:p.1=k):jK (p::r) k=(1,p.2):=by simp[jK,find?_cons,e]
theorem eS{p:κ×V}{r:List (κ×V)}{k:κ}(e:¬p.1=k):jK (p::r) k=jK r k:=by simp[jK,find?_cons,e]
theorem valV_any(k:κ):∀kvs:List (κ×V),(kvs.any λkv=>decide (kv.1=k))=(jK kvs k).isSome
 |[]=>rfl
 |p::r=>by
  rw[any_cons];by_cases e:p.1=k
  ·simp only[eR e,(51,e),Bool.true_or,Option.isSome_some]
  ·rw[eS e,(40,e),Bool.false_or];exact valV_any k r
theorem AL(k j:κ)(y:V):∀kvs:List (κ×V),jK (kvs.map λkv=>if kv.1=k then(kv.1,y) else kv) j=(jK kvs j).map λx=>if j=k then y else x
 |[]=>rfl
 |p::r=>by
  have ih:=AL k j y r;rw[map_cons];by_cases h:p.1=k
  ·rw[(25,h)];by_cases e:p.1=j
   ·rw[eR (p:=(p.1,y)) e,eR e,Option.map_some,(25,e.symm.trans h)]
   ·rw[eS (p:=(p.1,y)) e,eS e,ih]
  ·rw[(29,h)];by_cases e:p.1=j
   ·rw[eR (p:=p) e,eR e,Option.map_some,(29,(λz=>h (e.trans z)))]
   ·rw[eS (p:=p) e,eS e,ih]
theorem xK(k j:κ)(y:V):∀kvs:List (κ×V),jK kvs k=none->jK (kvs++[(k,y)]) j=if j=k then(1,y) else jK kvs j
 |[],_=>by
  by_cases e:k=j
  ·rw[(25,e.symm)];exact eR (p:=(k,y)) e
  ·rw[(29,(λz=>e z.symm))];exact eS (p:=(k,y)) e
 |p::r,hn=>by
  rw[List.cons_append];have hk:¬p.1=k:=λz=>by rw[eR z] at hn;cases hn
  rw[eS hk] at hn;have ih:=xK k j y r hn;by_cases e:p.1=j
  ·rw[eR e,eR e,(29,(λz=>hk (e.trans z)))]
  ·rw[eS e,eS e,ih]
theorem valV_put(kvs:List (κ×V))(k j:κ)(y:V):jK (oJ kvs k y) j=if j=k then(1,y) else jK kvs j:=by
 unfold oJ;by_cases a:(kvs.any λkv=>decide (kv.1=k))=true
 ·rw[(25,a),AL];rw[valV_any] at a;by_cases e:j=k
  ·obtain⟨x,hx⟩:=Option.isSome_iff_exists.mp a;rw[(25,e),e,hx,Option.map_some,(25,rfl)]
  ·rw[(29,e)];cases jK kvs j with
   |none=>rfl
   |some x=>rw[Option.map_some,(29,e)]
 ·rw[(29,a)];refine xK k j y kvs ?_;rw[valV_any] at a;cases q:jK kvs k with
  |none=>rfl
  |some x=>rw[q] at a;exact(a rfl).elim
theorem sG(kvs:List (κ×V))(k:κ)(v:V):(oJ kvs k v).length<=kvs.length+1:=by
 unfold oJ;split
 ·rw[length_map];omega
 ·rw[length_append,length_cons,length_nil];omega
theorem RelO.isSome_eq{o:(8,V)}{u:[30]}(r:RelO o u):o.isSome=u.isSome:=by
 cases o with
 |none=>cases u with
  |none=>rfl
  |some _=>exact(show False from r).elim
 |some _=>cases u with
  |none=>exact(show False from r).elim
  |some _=>rfl
theorem RelO.getD{o:(8,V)}{u:[30]}{d:V}{d':Value}(r:RelO o u)(rd:RelV d d'):RelV (o.getD d) (u.getD d'):=by
 cases o with
 |none=>cases u with
  |none=>exact rd
  |some _=>exact(show False from r).elim
 |some _=>cases u with
  |none=>exact(show False from r).elim
  |some _=>exact r
theorem KV.val{kvs:List (κ×V)}{vs:List (κ×Value)}(r:KV kvs vs)(k:κ):RelO (jK kvs k) (valueAt vs k):=by
 unfold KV at r
 induction r with
 |nil=>exact True.intro
 |@cons p q ps qs h t ih=>
  obtain⟨h1,h2⟩:=h;by_cases e:p.1=k
  ·have e':q.1=k:=h1.symm.trans e;have b:valueAt (q::qs) k=(1,q.2):=by simp[valueAt,find?_cons,e']
   rw[eR e,b];exact h2
  ·have e':¬q.1=k:=λz=>e (h1.trans z);have b:valueAt (q::qs) k=valueAt qs k:=by simp[valueAt,find?_cons,e']
   rw[eS e,b];exact ih
theorem KV.any{kvs:List (κ×V)}{vs:List (κ×Value)}(r:KV kvs vs)(k:κ):(kvs.any λkv=>decide (kv.1=k))=vs.any λkv=>decide (kv.1=k):=by
 unfold KV at r
 induction r with
 |nil=>rfl
 |cons h t ih=>rw[any_cons,any_cons,ih,h.1]
theorem KV.repl{kvs:List (κ×V)}{vs:List (κ×Value)}(r:KV kvs vs)(k:κ){y:V}{u:Value}(ry:RelV y u):
  KV (kvs.map λkv=>if kv.1=k then(kv.1,y) else kv) (vs.map λkv=>if kv.1=k then(kv.1,u) else kv):=by
 unfold KV at r ⊢
 induction r with
 |nil=>exact .nil
 |@cons p q ps qs h t ih=>
  rw[map_cons,map_cons];refine(22,?_,ih);obtain⟨h1,h2⟩:=h;by_cases e:p.1=k
  ·rw[(25,e),(25,h1.symm.trans e)];exact(3,h1,ry)
  ·rw[(29,e),(29,(λz=>e (h1.trans z)))];exact(3,h1,h2)
theorem KV.put{kvs:List (κ×V)}{vs:List (κ×Value)}(r:KV kvs vs)(k:κ){y:V}{u:Value}(ry:RelV y u):KV (oJ kvs k y) (stored vs k u):=by
 unfold oJ stored;rw[r.any k];by_cases e:(vs.any λkv=>decide (kv.1=k))=true
 ·rw[(25,e),(25,e)];exact r.repl k ry
 ·rw[(29,e),(29,e)];exact Paired.snoc r (62,ry)
theorem KV.drop{kvs:List (κ×V)}{vs:List (κ×Value)}(r:KV kvs vs)(k:κ):KV (P6 kvs k) (without vs k):=by
 unfold KV at r ⊢;unfold P6 without
 induction r with
 |nil=>exact .nil
 |@cons p q ps qs h t ih=>
  obtain⟨h1,h2⟩:=h;rw[filter_cons,filter_cons];by_cases e:p.1=k
  ·have a:¬decide (p.1≠k)=true:=by simp[e]
   have b:¬decide (q.1≠k)=true:=by simp[h1.symm.trans e]
   rw[(29,a),(29,b)];exact ih
  ·have e':¬q.1=k:=λz=>e (h1.trans z);have a:decide (p.1≠k)=true:=by simp[e]
   have b:decide (q.1≠k)=true:=by simp[e']
   rw[(25,a),(25,b)];exact(22,(3,h1,h2),ih)
theorem KV.keys{kvs:List (κ×V)}{vs:List (κ×Value)}(r:KV kvs vs):kvs.map (·.1)=vs.map (·.1):=by
 unfold KV at r
 induction r with
 |nil=>rfl
 |cons h t ih=>rw[map_cons,map_cons,ih,h.1]
theorem KV.length{kvs:List (κ×V)}{vs:List (κ×Value)}(r:KV kvs vs):kvs.length=vs.length:=Paired.length r
end
theorem G5{P:Program}{w:World}{k:Key}{u:Value}(r:RelV (kV k) u):(dW P w).is k u=true:=by
 cases k with
 |inl i=>obtain⟨t,e⟩:=(show ∃t,u=Value.int i t from r);subst e;exact BY P w i t
 |inr x=>obtain⟨t,e⟩:=(show ∃t,u=Value.str x t from r);subst e;exact BX P w x t
theorem yi{P:Program}{w:World}:∀{ks:List Key}{us:[21]},Vals (ks.map kV) us->ItemsAre (dW P w) ks us
 |[],_,r=>by rw[map_nil] at r;cases r;exact .nil
 |k::ks,_,r=>by
  rw[map_cons] at r;cases r with
  |cons h t=>exact(22,G5 h,yi t)
abbrev KT(H:Hp):([65])->List (List Key×Addr×Value)->Prop:=Paired λp q=>p.1=q.1/\H q.2.1=(1,(22,p.1.map kV))/\RelV p.2 q.2.2
theorem KT.val{H:Hp}{kvs:[65]}{xs:List (List Key×Addr×Value)}(r:KT H kvs xs)(k:List Key):RelO (jK kvs k) ((atKey xs k).map (·.2)):=by
 induction r with
 |nil=>exact True.intro
 |@cons p q ps qs h t ih=>
  obtain⟨h1,_,h2⟩:=h;by_cases e:p.1=k
  ·have e':q.1=k:=h1.symm.trans e;have b:atKey (q::qs) k=(1,q.2):=by simp[atKey,find?_cons,e']
   rw[eR e,b];exact h2
  ·have e':¬q.1=k:=λz=>e (h1.trans z);have b:atKey (q::qs) k=atKey qs k:=by simp[atKey,find?_cons,e']
   rw[eS e,b];exact ih
theorem KT.repl{H:Hp}{kvs:[65]}{xs:List (List Key×Addr×Value)}(r:KT H kvs xs)(k:List Key){y:V}{u:Value}(ry:RelV y u):
  KT H (kvs.map λkv=>if kv.1=k then(kv.1,y) else kv) (xs.map (putAt k u)):=by
 induction r with
 |nil=>exact .nil
 |@cons p q ps qs h t ih=>
  rw[map_cons,map_cons];refine(22,?_,ih);obtain⟨h1,h2,h3⟩:=h;unfold putAt;by_cases e:p.1=k
  ·rw[(25,e),(25,h1.symm.trans e)];exact(11,h1,h2,ry)
  ·rw[(29,e),(29,(λz=>e (h1.trans z)))];exact(11,h1,h2,h3)
theorem KT.put{H:Hp}{kvs:[65]}{xs:List (List Key×Addr×Value)}(r:KT H kvs xs)(k:List Key){b:Addr}{y:V}{u:Value}(hb:H b=(1,(22,k.map kV)))(ry:RelV y u):
  KT H (oJ kvs k y) (storedH xs k b u):=by
 have e:(kvs.any λkv=>decide (kv.1=k))=(atKey xs k).isSome:=by
  rw[valV_any,(r.val k).isSome_eq,Option.isSome_map]
 unfold oJ storedH;rw[e];by_cases q:(atKey xs k).isSome=true
 ·rw[(25,q),(25,q)];exact r.repl k ry
 ·rw[(29,q),(29,q)];exact Paired.snoc r (11,rfl,hb,ry)
theorem KT.keeps{H H':Hp}{kvs:[65]}{xs:List (List Key×Addr×Value)}(r:KT H kvs xs)(ht:∀b ys,H b=(1,(22,ys))->H' b=(1,(22,ys))):KT H' kvs xs:=
 Paired.mapP r λ_ _ z=>(11,z.1,ht _ _ z.2.1,z.2.2)
section
variable{P:Program}{w:World}{H:Hp}{h:Heap}{a:Addr}
theorem OS{u:HO}(ok:mK P w H h)(e:Rd H a u):cV P w H h a u:=e.ok ok
theorem CL{kvs:List (Key×V)}(ok:mK P w H h)(e:Rd H a (.dK kvs)):kvs.length<=sizeLine/\(a == sysModules)=false/\∃vs,KV kvs vs/\h.DictOf (dW P w) a vs:=
 show cV P w H h a (.dK kvs) from OS ok e
theorem SS{kvs:List (Key×V)}(ok:mK P w H h)(e:H a=(1,.dK kvs)):kvs.length<=sizeLine/\(a == sysModules)=false/\∃vs,KV kvs vs/\h.DictOf (dW P w) a vs:=CL ok (.inl e)
theorem Ac{ks:List Key}(ok:mK P w H h)(e:H a=(1,(22,ks.map kV))):(tupleKind (dW P w)).is h ks a:=by
 obtain⟨_,its,r,o,h1,h2,n,h3⟩:=(show cV P w H h a (22,ks.map kV) from ok a _ e);exact⟨o,its.toArray,n,h1,h2,h3,by simpa using yi r⟩
theorem Gp{kvs:[65]}(ok:mK P w H h)(e:Rd H a (.dT kvs)):kvs.length<=sizeLine/\(a == sysModules)=false/\
  ∃xs,KT H kvs xs/\h.DictOfH (tupleKind (dW P w)) a xs:=by
 obtain⟨z,y,xs,r,o,es,ep,h1,h2,h3,h4,h5⟩:=(show cV P w H h a (.dT kvs) from OS ok e);refine⟨z,y,xs,r,o,es,ep,h1,h2,h3,h4,λx hx=>?_,h5⟩;have all:∀{l:[65]}{m:List (List Key×Addr×Value)},KT H l m->∀x∈m,(tupleKind (dW P w)).is h x.1 x.2.1:=by
  intro l m q
  induction q with
  |nil=>intro x hx;exact nomatch hx
  |@cons p q ps qs hq t ih=>
   intro x hx;rcases mem_cons.mp hx with e|hx
   ·subst e;exact Ac ok (by rw[←hq.1];exact hq.2.1)
   ·exact ih x hx
 exact all r x hx
theorem SR{kvs:[65]}(ok:mK P w H h)(e:H a=(1,.dT kvs)):kvs.length<=sizeLine/\(a == sysModules)=false/\
  ∃xs,KT H kvs xs/\h.DictOfH (tupleKind (dW P w)) a xs:=Gp ok (.inl e)
end
def xH(H:Hp)(a:Addr)(y:V)(r:(8,V)):Prop:=
 (∃kvs k,Rd H a (.dK kvs)/\y=kV k/\r=jK kvs k)\/∃kvs k b,Rd H a (.dT kvs)/\y=(9,b)/\H b=(1,(22,k.map kV))/\r=jK kvs k
def Fo(H:Hp)(a:Addr)(y v:V)(H':Hp):Prop:=
 (∃kvs k,H a=(1,.dK kvs)/\y=kV k/\kvs.length<sizeLine/\H'=cF H a (.dK (oJ kvs k v)))\/
 ∃kvs k b,H a=(1,.dT kvs)/\y=(9,b)/\H b=(1,(22,k.map kV))/\kvs.length<sizeLine/\H'=cF H a (.dT (oJ kvs k v))
theorem xH.k{H:Hp}{a:Addr}{kvs:List (Key×V)}{k:Key}(e:H a=(1,.dK kvs)):xH H a (kV k) (jK kvs k):=.inl (4,kvs,k,.inl e,rfl,rfl)
theorem xH.t{H:Hp}{a b:Addr}{kvs:[65]}{k:List Key}(e:H a=(1,.dT kvs))(eb:H b=(1,(22,k.map kV))):xH H a (9,b) (jK kvs k):=.inr ⟨kvs,k,b,.inl e,rfl,eb,rfl⟩
theorem Fo.k{H:Hp}{a:Addr}{kvs:List (Key×V)}{k:Key}{v:V}(e:H a=(1,.dK kvs))(hl:kvs.length<sizeLine):Fo H a (kV k) v (cF H a (.dK (oJ kvs k v))):=.inl ⟨kvs,k,e,rfl,hl,rfl⟩
theorem Fo.t{H:Hp}{a b:Addr}{kvs:[65]}{k:List Key}{v:V}(e:H a=(1,.dT kvs))(eb:H b=(1,(22,k.map kV)))(hl:kvs.length<sizeLine):
  Fo H a (9,b) v (cF H a (.dT (oJ kvs k v))):=.inr ⟨kvs,k,b,e,rfl,eb,hl,rfl⟩
section
variable{X:Cx}{pins:List (Addr×Obj)}{σ:St}{H:Hp}{s:Shared}{a:Addr}{y v:V}{u r:Value}{o:Option V}{A:Around}{E:Value->Shared->Prop}
theorem aN.big(I:[48]):sysModules<s.heap.objs.size:=by
 have h:mainGlobals<s.heap.objs.size:=(I.mod.glob.keeps I.bk).lt;exact lt_trans [13] h
theorem Um{Q:Value->Shared->Prop}(hu:A.units+1<cLine)(I:[48])(g:xH H a y o)(ry:RelV y u)(h:∀s',(57,s')->Q (.bool o.isSome) s'):
  (3,X.w,A,compareOp .In u (9,a),Q,E,s):=by
 rcases g with⟨kvs,k,e,ey,l⟩|⟨kvs,k,b,e,ey,eb,l⟩
 ·subst ey;obtain⟨z,hd,vs,rel,dd⟩:=CL I.hok e;refine wpAny_in_of (G5 ry) hd dd.mapOf ?_;rw[←(rel.val k).isSome_eq,←l];exact h _ (I.tok _)
 ·subst ey;cases (show u=Value.ref b from ry);obtain⟨z,hd,xs,rel,dd⟩:=Gp I.hok e;refine wpAny_in_heap (tupleKind_room_in1 hu) (Ac I.hok eb) hd dd ?_;have q:=(rel.val k).isSome_eq;rw[Option.isSome_map] at q;rw[←q,←l];exact h _ (I.tok _)
theorem Gv{h':Heap}{t':Nat}{ob:HO}(I:[48])(mu:T8 (H a))(hs:Heap.SameBut a s.heap h')(he:∃q,(63,a)=(1,q))(new:cV X.prog X.w (cF H a ob) h' a ob):
  aN X pins σ (cF H a ob) {s with heap:=h',toks:=t'}:=
 I.write (x:=a) (e:=a) mu [42] (λb q hb z=>(hs.2 b hb).trans z) he new
theorem QY{P:Program}{w:World}{H':Hp}{h':Heap}{kvs:List (Key×V)}{vs:List (Key×Value)}(z:kvs.length<=sizeLine)(hd:(a == sysModules)=false)(rel:KV kvs vs)(dd:h'.DictOf (dW P w) a vs):
  cV P w H' h' a (.dK kvs):=(4,z,hd,vs,rel,dd)
theorem IJ{H':Hp}{Q:Unit->Shared->Prop}(hu:A.units+1<cLine)(I:[48])(g:Fo H a y v H')(ry:RelV y u)(rv:RelV v r)(h:∀s',(17,H',s')->Q () s'):
  (3,X.w,A,setItem (9,a) u r,Q,E,s):=by
 rcases g with⟨kvs,k,e,ey,l,eH⟩|⟨kvs,k,b,e,ey,eb,l,eH⟩
 ·subst ey eH;obtain⟨z,hd,vs,rel,dd⟩:=SS I.hok e;have hz:vs.length<=sizeLine:=by rw[←rel.length];exact z
  have hl:(oJ kvs k v).length<=sizeLine:=by have:=sG kvs k v;omega
  refine wpAny_setItem_pairs (hsz:=hz) (G5 ry) dd λh' dd' hs=>h _ ?_;have he:∃q,(63,a)=(1,q):=let ⟨q,_,_,hq,_⟩:=dd';(3,q,hq);exact Gv I (by rw[e];exact True.intro) hs he (QY hl hd (rel.put k rv) dd')
 ·subst ey eH;cases (show u=Value.ref b from ry);obtain⟨z,hd,xs,rel,dd⟩:=SR I.hok e;have hz:xs.length<=sizeLine:=by rw[←Paired.length rel];exact z
  have hl:(oJ kvs k v).length<=sizeLine:=by have:=sG kvs k v;omega
  refine wpAny_setItem_heap (hsz:=hz) (tupleKind_room_in1 hu) (Ac I.hok eb) dd λh' dd' hs=>h _ ?_;obtain⟨q,es,ep,hq,h2,h3,h4,_,h5⟩:=dd';refine Gv I (by rw[e];exact True.intro) hs (3,q,hq) ⟨hl,hd,_,(rel.put k eb rv).keeps λc ys ec=>?_,q,es,ep,hq,h2,h3,h4,h5⟩
  rw[az (Su ec e (λz=>nomatch z))]
  exact ec
end
section
variable{X:Cx}{pins:List (Addr×Obj)}{σ:St}{H:Hp}{s:Shared}{a:Addr}{kvs:List (Key×V)}{k:Key}{u:Value}{A:Around}{E:Value->Shared->Prop}
theorem SU{Q:Value->Shared->Prop}(I:[48])(e:Rd H a (.dK kvs))(h:∀t s',(57,s')->Q (.int kvs.length t) s'):(3,X.w,A,call (44,"len") [(9,a)],Q,E,s):=by
 obtain⟨z,hd,vs,rel,dd⟩:=CL I.hok e;refine call_len_dict hd dd (by rw[←rel.length];rw[sizeLine_eq] at z;omega) ?_
 rw[←rel.length];exact h _ _ (I.tok _)
end
def RO(ty td:TE):TE:=λσ H Q=>ty σ H λy H1=>td σ H1 λx H2=>∃a o,x=(9,a)/\xH H2 a y o/\Q (.bl o.isSome) H2
def RV(td ty tv:TE):TS:=λD σ H=>tv σ H λv H1=>td σ H1 λx H2=>ty σ H2 λy H3=>∃a H4,x=(9,a)/\Fo H3 a y v H4/\D.nx σ H4
section
variable{X:Cx}{o i e value:Expr}{pos pos' tpos:Pos}{td ty tv:TE}
theorem Qf(hu:X.A.units+1<cLine)(hi:PE X i ty)(ho:PE X o td):PC X .In i o (RO ty td):=by
 intro pins s σ H Q I h;refine cZ (hi pins s σ H _ I h) λiv s1 ⟨y,H1,I1,ry,q1⟩=>cZ (ho pins s1 σ H1 _ I1 q1) λu s2 ⟨x,H2,I2,rx,a,ov,ex,g,q2⟩=>?_;subst ex;obtain rfl:u=Value.ref a:=rx;exact Um hu I2 g ry λs3 I3=>(4,.bl ov.isSome,H2,I3,rfl,q2)
theorem Nn(hu:X.A.units+1<cLine)(ho:PE X o td)(hi:PE X i ty)(hv:PE X value tv)(hs:(28,value,(1,.Subscript o i pos'),pos.line)=pure false):
  PS X (.Assign [.Subscript o i pos'] value pos) (RV td ty tv):=by
 intro pins s σ H D I h;refine wpAny_Assign_Subscript (cZ (hv pins s σ H _ I h) λr s1 ⟨v,H1,I1,rv,q1⟩=>cZ (ho pins s1 σ H1 _ I1 q1) λu s2 ⟨x,H2,I2,rx,q2⟩=>cZ (hi pins s2 σ H2 _ I2 q2) λiv s3 ⟨y,H3,I3,ry,a,H4,ex,g,q3⟩=>?_) hs;subst ex;obtain rfl:u=Value.ref a:=rx;exact IJ hu I3 g ry rv λs4 I4=>(10,σ,H4,I4,q3)
end
theorem M3{P:Program}{w:World}{H:Hp}(h:Heap)(hb:sysModules<h.objs.size):cV P w H (h.push {cls:=.type "dict",data:=.dict #[]}) h.objs.size (.dK []):=
 (4,zero_le _,beq_eq_false_iff_ne.mpr (Ne.symm (56,hb)),[],.nil,Heap.DictOf.new h)
def Pq:TE:=λ_ H Q=>∀p,H p=none->Q (9,p) (cF H p (.dK []))
section
variable{X:Cx}{pos:Pos}
theorem Kp:PE X (.Dict [] [] pos) Pq:=λpins s σ H Q I h=>
 wpAny_Dict_empty (4,(9,[15]),_,I.laid (a:=[15]) (o:=.dK []) (t':=s.toks) (λ_ _ q=>(21,q)) [25] (M3 s.heap I.big),rfl,h _ (I.hok.fresh [25]))
end
structure M2(X:Cx)(o:Expr)(m:Str)(apos:Pos)(e f:Expr)(cpos:Pos):Prop where
 base:attributeBase o m X.env (14,o)=(14,o)
 few:((7,cpos,[e,f]).all (λx=>!x.1) && (15,cpos,[],X.env).all (λx=>x.1.isSome)
  && decide (([e,f]:List Expr).length+([]:List Keyword).length+(if([]:List Keyword).isEmpty then 0 else 1)<30))=true
 line:(apos.endLine == cpos.line)=true
 trees:(7,cpos,[e,f])=[(false,(14,e)),(false,(14,f))]
def UK(H:Hp)(a:Addr):Prop:=(∃kvs,Rd H a (.dK kvs))\/∃kvs,Rd H a (.dT kvs)
theorem QK{X:Cx}{pins:[18]}{σ:St}{H:Hp}{s:Shared}{a:Addr}(I:[48])(d:UK H a):
  s.TypeIs (9,a) "dict" /\ (∀b,Value.ref a=(9,b)->∃ob,(28,b)=(1,ob)/\ob.dict=none)/\(a == sysModules)=false:=by
 rcases d with⟨kvs,e⟩|⟨kvs,e⟩
 ·obtain⟨_,hd,vs,_,dd⟩:=CL I.hok e;refine(11,dd.typeIs,λb q=>?_,hd);cases q;obtain⟨ob,_,_,h1,h2,_⟩:=dd;exact(11,ob,h1,h2.2.1)
 ·obtain⟨_,hd,xs,_,dd⟩:=Gp I.hok e;refine(11,dd.typeIs,λb q=>?_,hd);cases q;obtain⟨ob,_,_,h1,h2,_⟩:=dd;exact(11,ob,h1,h2.2.1)
section
variable{X:Cx}{pins:List (Addr×Obj)}{σ:St}{H:Hp}{s:Shared}{a:Addr}{y d:V}{u r:Value}{o:Option V}{A:Around}{E:Value->Shared->Prop}
theorem QZ{Q:Value->Shared->Prop}(hu:A.units+1<cLine)(I:[48])(g:xH H a y o)(ry:RelV y u)(rd:RelV d r)(h:∀w' s',(57,s')->RelV (o.getD d) w'->Q w' s'):
  (3,X.w,A,call (44,"dict.get") [(9,a),u,r],Q,E,s):=by
 rcases g with⟨kvs,k,e,ey,l⟩|⟨kvs,k,b,e,ey,eb,l⟩
 ·subst ey;obtain⟨z,hd,vs,rel,dd⟩:=CL I.hok e;refine call_meetsIn PySem.F.slot_dict_get dd.typeIs PySem.F.entry_dict_get (PySem.F.args_dict_get_3 _ _ _) (meets_dict_get_default (dW X.prog X.w) a (G5 ry) hd r) (11,_,dd.mapOf,h _ _ (I.tok _) ?_);rw[l];exact(rel.val k).getD rd
 ·subst ey;cases (show u=Value.ref b from ry);obtain⟨z,hd,xs,rel,dd⟩:=Gp I.hok e;refine call_meetsIn PySem.F.slot_dict_get dd.typeIs PySem.F.entry_dict_get (PySem.F.args_dict_get_3 _ _ _) (meetsH_dict_get_default (tupleKind (dW X.prog X.w)) a b hd r) ⟨tupleKind_room_in1 hu,k,xs,Ac I.hok eb,dd,h _ _ (I.tok _) ?_⟩;rw[l];exact(rel.val k).getD rd
end
def Pr(td ty tx:TE):TE:=λσ H Q=>td σ H λx H1=>∃a,x=(9,a)/\UK H1 a/\ty σ H1 λy H2=>tx σ H2 λz H3=>∃o,xH H3 a y o/\Q (o.getD z) H3
section
variable{X:Cx}{o e f:Expr}{apos cpos:Pos}{td ty tx:TE}
theorem Kq(hu:X.A.units+1<cLine)(ho:PE X o td)(he:PE X e ty)(hf:PE X f tx)(m:M2 X o "get" apos e f cpos):PE X (5,(8,o,"get"),[e,f],cpos) (Pr td ty tx):=by
 intro pins s σ H Q I h;refine wpAny_Call_method m.base m.few m.line PySem.F.plainAttrs_dict PySem.F.slot_dict_get PySem.F.type_dict_get (cZ (ho pins s σ H _ I h) λu s1 ⟨x,H1,I1,rx,a,ex,d,q1⟩=>?_);subst ex;obtain rfl:u=Value.ref a:=rx;obtain⟨t1,t2,_⟩:=QK I1 d;refine(11,t1,t2,?_);rw[m.trees];refine Calls.callWith_builtin rfl (Calls.evalArgs_plain (Calls.spliced_cons (cZ (he pins s1 σ H1 _ I1 q1) λiv s2 ⟨y,H2,I2,ry,q2⟩=>
  Calls.spliced_cons (cZ (hf pins s2 σ H2 _ I2 q2) λfv s3 ⟨z,H3,I3,rz,ov,g,q3⟩=>Calls.spliced_nil ?_))))
 exact QZ hu I3 g ry rz λw' s4 I4 rw'=>(4,_,H3,I4,rw',q3)
end
end L2
namespace L3
open PySem
inductive D where
 |non|bl (b:Bool)|int (i:Int)|str (x:Str)|tup (ds:[20])|lst (ds:[20])|obj (c:String) (ns:[16]) (ds:[20])|fn (k:Nat) (ds:[20])
inductive O where
 |lst (ds:[20])|obj (c:String) (ns:[16]) (ds:[20])|dic (kvs:List ([24]×Int))|par (a:Nat) (o:O)|fdic (kvs:List ([24]×Int))|tab (kvs:List (D×D))|dik (kvs:List (Int×Int))
abbrev NJ:Nat:=1000000
noncomputable instance decD:DecidableEq D:=λa b=>Classical.propDecidable (a=b)
noncomputable def O.val:O->D
 |.lst ds=>(13,ds)
 |.obj c ns ds=>(27,ns,ds)
 |.dic _=>.non
 |.par _ _=>.non
 |.fdic _=>.non
 |.tab _=>.non
 |.dik _=>.fn NJ []
def UG:Nat->D->Bool
 |_,.int _=>true
 |n+1,.tup ds=>ds.all (UG n)
 |_,_=>false
def okT:D->Bool
 |.tup ds=>ds.all (UG 5)
 |_=>false
inductive S where
 |sh (d:D)|own (o:O)|two (d:D) (a:Nat) (o:O)
def S.val:S->D
 |.sh d=>d
 |.own o=>o.val
 |.two d _ _=>d
def S.nd:S->Bool
 |.own (.dic _)=>false
 |.own (.par _ _)=>false
 |.own (.fdic _)=>false
 |.own (.tab _)=>false
 |.two _ _ _=>false
 |_=>true
inductive R where
 |ok (s:S)|exc (x:D)
abbrev aC:=List (8,S)
inductive pR where
 |next (ρ:aC)|brk (ρ:aC)|cont (ρ:aC)|ret (s:S)|exc (x:D)
abbrev ME:=aC->[57]
abbrev MC:=aC->(8,pR)
inductive RI where
 |ok (ds:[20])|exc (x:D)
abbrev MI:=aC->(8,RI)
abbrev MB:=D->aC->(8,aC)
@[reducible] def okD (d:D):[57]:=(34,.sh d)
@[reducible] def okI (i:Int):[57]:=okD (16,i)
@[reducible] def okB (b:Bool):[57]:=okD (.bl b)
@[reducible] def okL (ds:[20]):[57]:=(34,.own (13,ds))
def bg(r:[57])(k:D->[57]):[57]:=match r with
 |some (.ok s)=>k s.val
 |some (.exc x)=>(1,.exc x)
 |none=>none
def ik(r:[57])(k:S->(8,pR)):(8,pR):=match r with
 |some (.ok s)=>k s
 |some (.exc x)=>(1,.exc x)
 |none=>none
@[simp] theorem bindV_ok (s:S) (k:D->[57]):bg (34,s) k=k s.val:=rfl
@[simp] theorem bindV_exc (x:D) (k:D->[57]):bg (1,.exc x) k=(1,.exc x):=rfl
@[simp] theorem bindV_none (k:D->[57]):bg none k=none:=rfl
@[simp] theorem bindO_ok (s:S) (k:S->(8,pR)):ik (34,s) k=k s:=rfl
@[simp] theorem bindO_exc (x:D) (k:S->(8,pR)):ik (1,.exc x) k=(1,.exc x):=rfl
@[simp] theorem bindO_none (k:S->(8,pR)):ik none k=none:=rfl
@[simp] theorem S.val_sh (d:D):(S.sh d).val=d:=rfl
@[simp] theorem S.val_own (o:O):(S.own o).val=o.val:=rfl
@[simp] theorem O.val_lst (ds:[20]):(O.lst ds).val=(13,ds):=rfl
@[simp] theorem O.val_obj (c:String) (ns:[16]) (ds:[20]):(O.obj c ns ds).val=(27,ns,ds):=rfl
noncomputable def a9(i:Nat):ME:=λρ=>match ρ[i]? with
 |some (some (.sh d))=>okD d
 |_=>none
noncomputable def eO(i:Nat):ME:=λρ=>match ρ[i]? with
 |some (some (.own (.dic _)))=>none
 |some (some (.own (.par _ _)))=>none
 |some (some (.own (.fdic _)))=>none
 |some (some (.own (.tab _)))=>none
 |some (some (.two _ _ _))=>none
 |some (some s)=>okD s.val
 |_=>none
noncomputable def eC(d:D):ME:=λ_=>okD d
noncomputable def kN(f:D->[57])(a:ME):ME:=λρ=>bg (a ρ) f
noncomputable def ag(f:D->D->[57])(a b:ME):ME:=λρ=>bg (a ρ) λx=>bg (b ρ) λy=>f x y
def cA:List ME->aC->(([20])->[57])->[57]
 |[],_,k=>k []
 |e::es,ρ,k=>bg (e ρ) λd=>cA es ρ λds=>k (d::ds)
def aq(f:([20])->[57])(as:List ME):ME:=λρ=>cA as ρ f
def flat:D->Bool
 |.non=>true|.bl _=>true|.int _=>true|.str _=>true|_=>false
def nD:([57])->[57]
 |some (.ok s)=>if flat s.val then okD s.val else none
 |_=>none
def aL(f:([20])->[57])(as:List ME):ME:=λρ=>nD (cA as ρ f)
def lim:Nat:=1000000
def bj(as:List ME):ME:=aq (λds=>if ds.length<=lim then(76,ds) else none) as
def mJ(as:List ME):ME:=aq (λds=>if ds.length<=lim then okL ds else none) as
def asB:D->(Bool->[57])->[57]
 |.bl b,k=>k b
 |_,_=>none
def fZ(a b:ME):ME:=λρ=>bg (a ρ) λx=>asB x λc=>if c=true then b ρ else[64]
def Gk(a b:ME):ME:=λρ=>bg (a ρ) λx=>asB x λc=>if c=true then okB true else b ρ
def SX(x:D):[57]:=asB x λc=>okB (!c)
def rZ(a:ME):ME:=kN SX a
def M1(c a b:ME):ME:=λρ=>bg (c ρ) λx=>asB x λt=>if t=true then a ρ else b ρ
def aF(a b:MC):MC:=λρ=>match a ρ with
 |some (.next ρ')=>b ρ'
 |o=>o
def bM:MC:=λρ=>(46,ρ)
def bF(i:Nat)(e:ME):MC:=λρ=>ik (e ρ) λs=>(46,(72,(1,s)))
def bL(e:ME):MC:=λρ=>ik (e ρ) λs=>(1,.ret s)
def asBO:D->(Bool->(8,pR))->(8,pR)
 |.bl b,k=>k b
 |_,_=>none
def iw(c:ME)(a b:MC):MC:=λρ=>ik (c ρ) λs=>asBO s.val λt=>if t=true then a ρ else b ρ
def dem(i:Nat)(ρ:aC):aC:=match ρ[i]? with
 |some (some (.own (.dic _)))=>ρ
 |some (some (.own (.par _ _)))=>ρ
 |some (some (.own (.fdic _)))=>ρ
 |some (some (.own (.tab _)))=>ρ
 |some (some (.own o))=>(72,(6,o.val))
 |_=>ρ
def fE(i:Nat)(c:MC):MC:=λρ=>c (dem i ρ)
def x9(i:Nat)(ρ:aC)(k:([20])->(8,pR)):(8,pR):=match ρ[i]? with
 |some (some (.own (.lst ds)))=>k ds
 |_=>none
def gY(i:Nat)(e:ME):MC:=λρ=>x9 i ρ λds=>ik (e ρ) λs=>if ds.length<lim then(46,(72,(52,(ds++[s.val])))) else none
def qH:D->(8,[20])
 |.lst ds=>(1,ds)
 |.tup ds=>(1,ds)
 |_=>none
def u4(i:Nat)(e:ME):MC:=λρ=>x9 i ρ λds=>ik (e ρ) λs=>match qH s.val with
 |some es=>if ds.length+es.length<=lim then(46,(72,(52,(ds++es)))) else none
 |none=>none
def Mx(n:Nat)(i:Int):(8,Nat):=if 0<=i then(if i<n then(1,i.toNat) else none) else if -(n:Int)<=i then(1,(i+n).toNat) else none
def qu(i:Nat)(k e:ME):MC:=λρ=>ik (e ρ) λs=>x9 i ρ λds=>ik (k ρ) λz=>match z.val with
 |.int j=>(match Mx ds.length j with
  |some n=>(46,(72,(52,ds.set n s.val)))
  |none=>none)
 |_=>none
def bc(j:Nat):MB:=λd ρ=>(1,ρ.set j (6,d))
def zj:([29])->([20])->aC->aC
 |j::js,d::ds,ρ=>zj js ds (ρ.set j (6,d))
 |_,_,ρ=>ρ
def xF(js:[29]):MB:=λd ρ=>match d with
 |.tup ds=>if ds.length=js.length then(1,zj js ds ρ) else none
 |_=>none
def k0(bd:MB)(body:MC):([20])->aC->(8,pR)
 |[],ρ=>(46,ρ)
 |d::ds,ρ=>match bd d ρ with
  |none=>none
  |some ρ1=>match body ρ1 with
   |some (.next ρ2)=>k0 bd body ds ρ2
   |some (.cont ρ2)=>k0 bd body ds ρ2
   |some (.brk ρ2)=>(46,ρ2)
   |o=>o
def mI(it:MI)(bd:MB)(body:MC):MC:=λρ=>match it ρ with
 |some (.ok ds)=>k0 bd body ds ρ
 |some (.exc x)=>(1,.exc x)
 |none=>none
def iW(e:ME):MI:=λρ=>match e ρ with
 |some (.ok s)=>(qH s.val).map .ok
 |some (.exc x)=>(1,.exc x)
 |none=>none
def rng(lo hi:Int):[20]:=(19,(hi - lo).toNat).map λ(k:Nat)=>D.int (lo+k)
def jb(i:Int):Bool:=decide (-(2 ^ 62)<=i) && decide (i<2 ^ 62)
def xw(e:ME)(ρ:aC)(k:D->(8,RI)):(8,RI):=match e ρ with
 |some (.ok s)=>k s.val
 |some (.exc x)=>(1,.exc x)
 |none=>none
def cz(e:ME):MI:=λρ=>xw e ρ λx=>match x with
 |.int hi=>if jb hi=true then(34,rng 0 hi) else none
 |_=>none
def oA(a b:ME):MI:=λρ=>xw a ρ λx=>xw b ρ λy=>match x,y with
 |.int lo,.int hi=>if jb lo=true/\jb hi=true then(34,rng lo hi) else none
 |_,_=>none
def TC:D->D->(8,RI)
 |.lst xs,.lst ys=>(34,zipWith (λu v=>D.tup [u,v]) xs ys)
 |.tup xs,.tup ys=>(34,zipWith (λu v=>D.tup [u,v]) xs ys)
 |_,_=>none
def Oe(a b:ME):MI:=λρ=>xw a ρ λx=>xw b ρ λy=>TC x y
def iq(bd:MB)(cond elt:ME)(ρ:aC):([20])->([20])->[57]
 |[],acc=>if acc.length<=lim then okL acc else none
 |d::ds,acc=>match bd d ρ with
  |none=>none
  |some ρ1=>bg (cond ρ1) λc=>asB c λt=>if t=true then bg (elt ρ1) λx=>iq bd cond elt ρ ds (acc++[x]) else iq bd cond elt ρ ds acc
def bE(js:[29])(ρ:aC):aC:=js.foldl (λρ j=>ρ.set j none) ρ
def cw(js:[29])(it:MI)(bd:MB)(cond elt:ME):ME:=λρ=>match it ρ with
 |some (.ok ds)=>if ds.length<=lim then iq bd cond elt (bE js ρ) ds [] else none
 |some (.exc x)=>(1,.exc x)
 |none=>none
def cG(n:Nat)(ds:[20]):aC:=ds.map (λd=>(6,d))++replicate (n - ds.length) none
def Sh:(8,pR)->[57]
 |some (.ret s)=>(34,s)
 |some (.next _)=>okD .non
 |some (.exc x)=>(1,.exc x)
 |_=>none
noncomputable def iZ(np n:Nat)(g:MC):([20])->[57]:=λds=>if ds.length=np then Sh (g (cG n ds)) else none
def aO:D->D->[57]
 |.int i,.int j=>okI (i+j)
 |.str x,.str y=>if x.length+y.length<=lim then okD (.str (x++y)) else none
 |.tup xs,.tup ys=>if xs.length+ys.length<=lim then(76,(xs++ys)) else none
 |.lst xs,.lst ys=>if xs.length+ys.length<=lim then okL (xs++ys) else none
 |_,_=>none
def kO:D->D->[57]
 |.int i,.int j=>okI (i - j)
 |_,_=>none
def kG(i:Int):Bool:=decide (-(2 ^ 64)<i) && decide (i<2 ^ 64)
def ip:D->D->[57]
 |.int i,.int j=>if(kG i || kG j)=true then okI (i * j) else none
 |_,_=>none
def SW(ds:[20]):D->[57]
 |.int k=>if -(2 ^ 60)<=k/\k<2 ^ 60/\ds.length * k.toNat<=lim then okL (replicate k.toNat ds).flatten else none
 |_=>none
def M0(a b:ME):ME:=λρ=>match a ρ with
 |some (.ok (.own (.lst ds)))=>bg (b ρ) (SW ds)
 |some (.exc x)=>(1,.exc x)
 |_=>none
def Ah:D->D->[57]
 |.int i,.int j=>if 0<j then okI (i % j) else none
 |_,_=>none
def R1(p:Int->Int->Bool):D->D->[57]
 |.int i,.int j=>okB (p i j)
 |_,_=>none
def MA:=R1 λi j=>decide (i<j)
def RA:=R1 λi j=>decide (i<=j)
def vU:=R1 λi j=>decide (j<i)
def Mz:D->D->(8,Bool)
 |.int i,.int j=>(1,(decide (i=j)))
 |.str x,.str y=>(1,(decide (x=y)))
 |.bl x,.bl y=>(1,(decide (x=y)))
 |.non,.non=>(1,true)
 |.non,.int _=>(1,false)|.int _,.non=>(1,false)|.non,.str _=>(1,false)|.str _,.non=>(1,false)|.non,.bl _=>(1,false)|.bl _,.non=>(1,false)
 |.int _,.str _=>(1,false)|.str _,.int _=>(1,false)|.bl _,.str _=>(1,false)|.str _,.bl _=>(1,false)
 |_,_=>none
def fg(x y:D):[57]:=match Mz x y with
 |some b=>okB b
 |none=>none
def yp(x y:D):[57]:=match Mz x y with
 |some b=>okB (!b)
 |none=>none
def M7:D->[57]
 |.non=>okB true
 |_=>[64]
def P7:D->[57]
 |.non=>[64]
 |_=>okB true
def Ff{α:Type}(xs:List α)(i:Int):(8,α):=(Mx xs.length i).bind λj=>xs[j]?
def aT:D->D->[57]
 |.tup ds,.int i=>(Ff ds i).bind okD
 |.lst ds,.int i=>(Ff ds i).bind okD
 |.str x,.int i=>if x.length<=lim then(Ff x.cps.toList i).bind λc=>okD (.str ⟨#[c]⟩) else none
 |_,_=>none
def cm:D->[57]
 |.tup ds=>okI ds.length
 |.lst ds=>okI ds.length
 |.str x=>if x.length<=lim then okI x.length else none
 |_=>none
def intsOf:([20])->(8,[24])
 |[]=>(1,[])
 |.int i::r=>(intsOf r).map (i::·)
 |_::_=>none
def blsOf:([20])->(8,List Bool)
 |[]=>(1,[])
 |.bl i::r=>(blsOf r).map (i::·)
 |_::_=>none
def Ov:D->[57]
 |.lst ds=>(intsOf ds).bind λns=>okI ns.sum
 |_=>none
def F2:D->[57]
 |.lst ds=>(blsOf ds).bind λbs=>okB (bs.all id)
 |_=>none
def R3:D->[57]
 |.lst ds=>(blsOf ds).bind λbs=>okB (bs.any id)
 |_=>none
def j8:D->[57]
 |.lst ds=>(76,ds)
 |.tup ds=>(76,ds)
 |_=>none
def yq:D->[57]
 |.lst ds=>okL ds
 |.tup ds=>okL ds
 |_=>none
def nL:D->D->[57]
 |.int lo,.int hi=>if jb lo=true/\jb hi=true/\(hi - lo).toNat<=lim then okL (rng lo hi) else none
 |_,_=>none
def OY:D->String
 |.non => "NoneType" | .bl _ => "bool" | .int _ => "int" | .str _ => "str" | .tup _ => "tuple" | .lst _ => "list" | .obj c _ _=>c|.fn _ _ => "function"
def oM(T:String):D->[57]
 |.obj _ _ _=>none
 |.fn _ _=>none
 |d=>okB (OY d == T || (OY d == "bool" && T == "int"))
def f1(F:D->[57]):([20])->[57]
 |[d]=>F d
 |_=>none
def f2(F:D->D->[57]):([20])->[57]
 |[d,e]=>F d e
 |_=>none
def eI:ME:=eC (.bl true)
def pL:D->D->[57]
 |.int i,.int j=>if 0<=j/\j<=1000000/\i.natAbs<2 ^ 64 then okI (i * 2 ^ j.toNat) else none
 |_,_=>none
def tE:D->D->[57]
 |.int i,.int j=>if 0<=j then okI (i / 2 ^ j.toNat) else none
 |_,_=>none
def lE:D->D->[57]
 |.int i,.int j=>if 0<=i/\0<=j then okI ((i.toNat &&& j.toNat:Nat):Int) else none
 |_,_=>none
def M8:D->D->[57]
 |.int i,.int j=>if 0<=i/\0<=j then okI ((i.toNat ||| j.toNat:Nat):Int) else none
 |_,_=>none
def Gw:D->D->[57]
 |.int i,.int j=>okI (if j > i then j else i)
 |_,_=>none
def bitLen(i:Int):Nat:=if i == 0 then 0 else i.natAbs.log2+1
def Gy:D->[57]
 |.int i=>okI (bitLen i:Int)
 |_=>none
def MK:D->(8,Bool)
 |.non=>(1,false)
 |.bl b=>(1,b)
 |.int i=>(1,(i != 0))
 |.str y=>if y.length<=lim then(1,((y.length:Int) != 0)) else none
 |.tup ds=>(1,(!ds.isEmpty))
 |.lst ds=>(1,(!ds.isEmpty))
 |_=>none
def SV(d:D):[57]:=(MK d).bind λb=>okB b
def QX(a:ME):ME:=kN SV a
def pK(f g:D->D->[57])(a b c:ME):ME:=λρ=>bg (a ρ) λx=>bg (b ρ) λy=>bg (f x y) λz=>asB z λt=>if t=true then bg (c ρ) λw=>g y w else[64]
def P5:D->(8,RI)
 |.lst xs=>(34,((19,xs.length).zipWith (λ(i:Nat) d=>D.tup [(16,i),d]) xs))
 |.tup xs=>(34,((19,xs.length).zipWith (λ(i:Nat) d=>D.tup [(16,i),d]) xs))
 |_=>none
def Lp(a:ME):MI:=λρ=>xw a ρ P5
def Tx:D->D->Bool
 |.non,.non=>true
 |.bl a,.bl b=>a == b
 |.bl a,.int b=>(if a then 1 else 0) == b
 |.int a,.bl b=>a == (if b then 1 else 0)
 |.int a,.int b=>a == b
 |.str a,.str b=>a == b
 |_,_=>false
def P0(x:D)(ds:[20]):Bool:=ds.any λy=>Tx y x
def MD(neg:Bool)(x y:D):[57]:=match qH y with
 |some ds=>if flat x=true/\ds.all flat=true then okB (if neg then !P0 x ds else P0 x ds) else none
 |none=>none
def jN(n d:Nat):(8,Int)->Nat
 |none=>d
 |some v=>if v<0 then(v+(n:Int)).toNat else min v.toNat n
def xD(ds:[20])(lo hi:(8,Int)):[20]:=(ds.drop (jN ds.length 0 lo)).take (jN ds.length ds.length hi - jN ds.length 0 lo)
def mq(x:D)(lo hi:(8,Int)):[57]:=match x with
 |.tup ds=>if jN ds.length 0 lo=0/\jN ds.length ds.length hi=ds.length then none else(76,xD ds lo hi)
 |.lst ds=>okL (xD ds lo hi)
 |_=>none
def KB(o:(8,ME))(ρ:aC)(k:(8,Int)->[57]):[57]:=match o with
 |none=>k none
 |some e=>bg (e ρ) λd=>match d with
  |.int i=>k (1,i)
  |_=>none
def eN(e:ME)(lo hi:(8,ME)):ME:=λρ=>bg (e ρ) λx=>KB lo ρ λl=>KB hi ρ λh=>mq x l h
def nr(k:Int):([24])->[24]
 |[]=>[k]
 |x::r=>if k<x then k::x::r else if k=x then x::r else x::nr k r
def jM(ns:[24]):[24]:=ns.foldr nr []
def fewD(ns:[24]):Bool:=decide (ns.length<=4) && ns.all λn=>decide (0<=n) && decide (n<32)
def vT:D->[57]
 |.lst ds=>(intsOf ds).bind λns=>if fewD ns=true then okL ((jM ns).map D.int) else none
 |_=>none
def tw(f:Str):([16])->([20])->(8,D)
 |n::ns,d::ds=>if f == n then(1,d) else tw f ns ds
 |_,_=>none
def qQ(cs:List String)(f:Str):D->[57]
 |.obj c ns ds=>if cs.contains c=true then(tw f ns ds).bind okD else none
 |_=>none
def dQ(m:Str)(tb:String->[39])(o:ME)(as:List ME):ME:=λρ=>bg (o ρ) λx=>match x with
 |.obj c ns ds=>if ns.contains m=true then none else(match tb c with
  |some F=>cA as ρ λvs=>F ((27,ns,ds)::vs)
  |none=>none)
 |_=>none
abbrev gS:=O->([20])->(8,O)
abbrev MG:=aC->O->(8,O)
def fj:List ME->aC->(8,[20])
 |[],_=>(1,[])
 |e::es,ρ=>match e ρ with
  |some (.ok s)=>(fj es ρ).map (s.val::·)
  |_=>none
def putN(f:Str):([16])->[16]
 |[]=>[f]
 |n::r=>if n=f then n::r else n::putN f r
def oK(f:Str)(d:D):([16])->([20])->[20]
 |[],_=>[d]
 |n::ns,x::ds=>if n=f then d::ds else x::oK f d ns ds
 |_::_,[]=>[]
def ly:MG:=λ_ o=>[46]
def ft(g h:MG):MG:=λρ o=>(g ρ o).bind (h ρ)
def jc(cs:List String)(f:Str)(e:ME):MG:=λρ o=>match e ρ,o with
 |some (.ok s),.obj c ns ds=>if cs.contains c=true/\ns.length=ds.length/\ns.length<900 then(1,(27,putN f ns,oK f s.val ns ds)) else none
 |_,_=>none
def jd(F:gS)(as:List ME):MG:=λρ o=>(fj as ρ).bind (F o)
noncomputable def AG(np n:Nat)(g:MG):gS:=λo ds=>if ds.length+1=np then g (none::cG (n - 1) ds) o else none
def ig(c:String)(F:gS)(as:List ME):ME:=λρ=>cA as ρ λds=>match F (27,[],[]) ds with
 |some o=>(34,.own o)
 |none=>none
def nI(f:D->D->(8,Bool)):([20])->([20])->(8,Bool)
 |[],[]=>(1,true)
 |x::xs,y::ys=>(f x y).bind λb=>(nI f xs ys).bind λc=>(1,(b && c))
 |_,_=>(1,false)
def rb:Nat->D->D->(8,Bool)
 |0,_,_=>none
 |_+1,.int i,.int j=>(1,(i == j))
 |_+1,.str x,.str y=>(1,(x == y))
 |n+1,.tup xs,.tup ys=>nI (rb n) xs ys
 |n+1,.lst xs,.lst ys=>if xs.length=ys.length then nI (rb n) xs ys else(1,false)
 |_+1,_,_=>none
def Ow(n:Nat)(x y:D):[57]:=(rb n x y).bind λb=>okB b
theorem nH(f:D->D->(8,Bool)):∀(xs ys:[20])(b:Bool),nI f xs ys=(1,b)->b=((19,min xs.length ys.length).all (λj=>((xs[j]?).bind λx=>(ys[j]?).bind λy=>f x y) == (1,true)) && (xs.length == ys.length))
 |[],[],b,h=>by cases h;rfl
 |[],_::_,b,h=>by cases h;rfl
 |_::_,[],b,h=>by cases h;rfl
 |x::xs,y::ys,b,h=>by
  have h:(f x y).bind (λb=>(nI f xs ys).bind λc=>(1,(b && c)))=(1,b):=h;cases h1:f x y with
  |none=>rw[h1] at h;cases h
  |some b1=>
   rw[h1] at h;cases h2:nI f xs ys with
   |none=>rw[h2] at h;cases h
   |some b2=>
    rw[h2] at h;cases h;rw[nH f xs ys b2 h2,length_cons,length_cons,Nat.succ_min_succ,List.range_succ_eq_map,List.all_cons,all_map];have e0:(((x::xs)[0]?).bind λx=>((y::ys)[0]?).bind λy=>f x y)=(1,b1):=h1;rw[e0];have e1:((xs.length+1 == ys.length+1):Bool)=(xs.length == ys.length):=by rw[Bool.eq_iff_iff,beq_iff_eq,beq_iff_eq];omega
    rw[e1];cases b1 with
    |true=>rfl
    |false=>rfl
theorem Gj(f:D->D->(8,Bool)):∀(xs ys:[20])(b:Bool),nI f xs ys=(1,b)->∀(j:Nat)(x y:D),xs[j]?=(1,x)->ys[j]?=(1,y)->∃c,f x y=(1,c)
 |[],ys,b,h,j,x,y,hx,hy=>by cases hx
 |_::_,[],b,h,j,x,y,hx,hy=>by cases hy
 |x::xs,y::ys,b,h,j,x',y',hx,hy=>by
  have h:(f x y).bind (λb=>(nI f xs ys).bind λc=>(1,(b && c)))=(1,b):=h;cases h1:f x y with
  |none=>rw[h1] at h;cases h
  |some b1=>
   rw[h1] at h;cases h2:nI f xs ys with
   |none=>rw[h2] at h;cases h
   |some b2=>
    cases j with
    |zero=>cases hx;cases hy;exact(3,b1,h1)
    |succ j=>exact Gj f xs ys b2 h2 j x' y' hx hy
end L3
namespace L3
def Bh(i:Nat):MC:=λρ=>match ρ[i]? with
 |some (some s)=>if s.nd=true then(1,.ret s) else none
 |_=>none
theorem PB{i:Nat}{ρ:aC}{s:S}(h:ρ[i]?=(31,s))(hn:s.nd=true:=by rfl):Bh i ρ=(1,.ret s):=by unfold Bh;rw[h];dsimp only;rw[(25,hn)]
end L3
namespace L3
open PySem
abbrev Tb:=List ([24]×Int)
def iF(r:[57]):(8,Int):=match r with
 |some (.ok (.sh (.int v)))=>(1,v)
 |_=>none
theorem pU{r:[57]}{v:Int}(h:iF r=(1,v)):r=okI v:=by
 unfold iF at h;split at h
 ·cases h;rfl
 ·cases h
end L3
namespace L3
mutual
def pF:D->Bool
 |.fn _ _=>false
 |.tup ds=>iV ds
 |.lst ds=>iV ds
 |.obj _ _ ds=>iV ds
 |.non=>true
 |.bl _=>true
 |.int _=>true
 |.str _=>true
def iV:([20])->Bool
 |[]=>true
 |d::ds=>pF d && iV ds
end
abbrev D7:=aC->(8,D)
def pJ(ρ:aC):([29])->(8,[20])
 |[]=>(1,[])
 |i::r=>match ρ[i]? with
  |some (some (.sh d))=>(pJ ρ r).map (d::·)
  |_=>none
def dems:([29])->aC->aC
 |[],ρ=>ρ
 |i::r,ρ=>dems r (dem i ρ)
def Mj(k:Nat)(is:[29]):D7:=λρ=>(pJ (dems is ρ) is).map (.fn k)
def IY(a:MC)(b:D7):D7:=λρ=>match a ρ with
 |some (.next ρ')=>b ρ'
 |_=>none
def P8(c:ME)(a b:D7):D7:=λρ=>match c ρ with
 |some (.ok s)=>(match s.val with
  |.bl t=>if t=true then a ρ else b ρ
  |_=>none)
 |_=>none
noncomputable def P4(np n:Nat)(g:D7):([20])->[57]:=λds=>if ds.length=np then(g (cG n ds)).map (λd=>.ok (.sh d)) else none
def Tv(n:Nat)(g:ME):([20])->[57]:=λds=>g (cG n ds)
end L3
namespace L3
def SY:([20])->[57]
 |[.lst xs,.lst ys]=>if xs.length=ys.length then okL (zipWith (λa b=>(22,[a,b])) xs ys) else none
 |_=>none
end L3
namespace L3
open PySem
def O.core:O->O
 |.par _ o=>o
 |o=>o
def O.put:O->O->O
 |.par a _,o'=>.par a o'
 |_,o'=>o'
abbrev MF:=O->([20])->([20])->(8,(D×O))
def lM(n a:Nat)(o:O)(ds es:[20]):aC:=(cG n (ds++.non::es)).set ds.length (12,.par a o)
def n9(j a:Nat):(8,pR)->(8,(D×O))
 |some (.ret (.two d b o))=>if b=a then(1,(d,o)) else none
 |some (.next ρ)=>match ρ[j]? with
  |some (some (.own (.par b o)))=>if b=a then(1,(.non,o)) else none
  |_=>none
 |_=>none
open Classical in
noncomputable def ID(j np n:Nat)(g:MC):MF:=λo ds es=>if ds.length=j/\j+1+es.length=np then(if h:∃r,∀a,n9 j a (g (lM n a o ds es))=(1,r) then(1,h.choose) else none) else none
theorem qJ{j np n:Nat}{g:MC}{o:O}{ds es:[20]}{r:D×O}(h:ID j np n g o ds es=(1,r)):ds.length=j/\j+1+es.length=np/\∀a,n9 j a (g (lM n a o ds es))=(1,r):=by
 unfold ID at h;split at h
 ·rename_i c;split at h
  ·rename_i x;cases h;exact(11,c.1,c.2,x.choose_spec)
  ·cases h
 ·cases h
theorem vK{j np n:Nat}{g:MC}{o:O}{ds es:[20]}{r:D×O}(h1:ds.length=j)(h2:j+1+es.length=np)(h:∀a,n9 j a (g (lM n a o ds es))=(1,r)):ID j np n g o ds es=(1,r):=by
 unfold ID;rw[(25,(3,h1,h2))];have x:∃r,∀a,n9 j a (g (lM n a o ds es))=(1,r):=(3,r,h);rw[dif_pos x,←h 0,x.choose_spec 0]
abbrev MP:=aC->(8,(D×aC))
def G2(i:Nat)(F:MF)(gs hs:List ME):MP:=λρ=>match ρ[i]? with
 |some (some (.own o))=>(fj gs ρ).bind λds=>(fj hs ρ).bind λes=>(F o.core ds es).map λp=>(p.1,(72,(12,o.put p.2)))
 |_=>none
def rH(i:Nat)(g:MP):MC:=λρ=>(g ρ).bind λp=>match p.1 with
 |.lst ds=>(46,p.2.set i (52,ds))
 |_=>none
def sx(j:Nat)(e:ME):MC:=λρ=>ik (e ρ) λs=>match ρ[j]? with
 |some (some (.own (.par a o)))=>(1,.ret (.two s.val a o))
 |_=>none
def sP(js:[29])(bd:MB)(elt:MP):([20])->aC->(8,([20]×aC))
 |[],ρ=>(1,([],ρ))
 |d::ds,ρ=>match bd d ρ with
  |none=>none
  |some ρ1=>(elt ρ1).bind λp=>(sP js bd elt ds (bE js p.2)).map λq=>(p.1::q.1,q.2)
def F4(js:[29])(ρ:aC):Bool:=js.all λj=>match ρ[j]? with
 |some (some _)=>false
 |_=>true
theorem qT:∀(js:[29])(ρ:aC),F4 js ρ=true->bE js ρ=ρ
 |[],ρ,_=>rfl
 |j::js,ρ,h=>by
  have h1:ρ.set j none=ρ:=by
   have:=(all_eq_true.mp h) j mem_cons_self;refine ext_getElem? λk=>?_;by_cases hk:j=k
   ·subst hk;by_cases hl:j<ρ.length
    ·rw[(35,hl)];rw[(7,hl)] at this ⊢;cases z:ρ[j] with
     |none=>rfl
     |some s=>rw[z] at this;cases this
    ·rw[(70,(by rw[length_set];omega)),(70,[11])]
   ·rw[(32,hk)]
  have h2:F4 js ρ=true:=all_eq_true.mpr λx hx=>(all_eq_true.mp h) x (30,hx);show bE js (ρ.set j none)=ρ;rw[h1];exact qT js ρ h2
def sD(js:[29])(it:MI)(bd:MB)(elt:MP):MP:=λρ=>match it ρ with
 |some (.ok ds)=>if ds.length<=lim/\F4 js ρ=true then(sP js bd elt ds ρ).map λp=>((13,p.1),p.2) else none
 |_=>none
def DK:MC:=λ_=>none
abbrev Td:=List (D×D)
noncomputable section
def P1(kvs:Td)(k:D):(8,D):=(kvs.find? λp=>decide (p.1=k)).map (·.2)
theorem getD_none{kvs:Td}{k:D}(h:∀p∈kvs,p.1≠k):P1 kvs k=none:=by
 unfold P1;rw[List.find?_eq_none.mpr λp hp=>by simpa using h p hp];rfl
end
def Gx:D->D->[57]
 |.int i,.int j=>if 0<=i/\0<=j then okI (((i.toNat ||| j.toNat:Nat):Int) - ((i.toNat &&& j.toNat:Nat):Int)) else none
 |_,_=>none
abbrev Ti:=List (Int×Int)
def lD(i:Nat)(ρ:aC):(8,Ti):=match ρ[i]? with
 |some (some (.own (.dik kvs)))=>(1,kvs)
 |_=>none
theorem vR{i:Nat}{ρ:aC}{kvs:Ti}(h:lD i ρ=(1,kvs)):ρ[i]?=(65,.dik kvs):=by
 unfold lD at h;split at h
 ·rename_i u hu;cases h;exact hu
 ·cases h
def j7(kvs:Ti)(k:Int):(8,Int):=(kvs.find? λp=>decide (p.1=k)).map (·.2)
def mS(kvs:Ti)(k v:Int):Ti:=if(kvs.any λp=>decide (p.1=k))=true then kvs.map (λp=>if p.1=k then(p.1,v) else p) else kvs++[(k,v)]
def OQ(i:Nat):MC:=λρ=>(46,(72,(12,.dik [])))
def sN(i:Nat)(g:ME)(z:Int):ME:=λρ=>(lD i ρ).bind λkvs=>(iF (g ρ)).bind λk=>okI ((j7 kvs k).getD z)
def vP(neg:Bool)(i:Nat)(g:ME):ME:=λρ=>(lD i ρ).bind λkvs=>(iF (g ρ)).bind λk=>okB (neg != (j7 kvs k).isSome)
def xX(i:Nat)(gk ge:ME):MC:=λρ=>(iF (ge ρ)).bind λv=>(lD i ρ).bind λkvs=>(iF (gk ρ)).bind λk=>if kvs.length<lim then(46,(72,(12,.dik (mS kvs k v)))) else none
def Gm(i:Nat):ME:=λρ=>(lD i ρ).bind λkvs=>okI kvs.length
def Gn(i:Nat):ME:=λρ=>(lD i ρ).bind λ_=>okB true
section
variable{i:Nat}{g gk ge:ME}{ρ:aC}{r:R}
theorem wq{α:Type}{f:Ti->Int->(8,α)}{x:α}(h:((lD i ρ).bind λkvs=>(iF (g ρ)).bind λk=>f kvs k)=(1,x)):∃kvs k,ρ[i]?=(65,.dik kvs)/\g ρ=okI k/\f kvs k=(1,x):=by
 cases h1:lD i ρ with
 |none=>rw[h1] at h;cases h
 |some kvs=>
  rw[h1] at h;dsimp only[Option.bind_some] at h;cases h2:iF (g ρ) with
  |none=>rw[h2] at h;cases h
  |some k=>rw[h2] at h;exact(4,kvs,k,vR h1,pU h2,h)
theorem F1{z:Int}(h:sN i g z ρ=(1,r)):∃kvs k,ρ[i]?=(65,.dik kvs)/\g ρ=okI k/\r=.ok (.sh (16,((j7 kvs k).getD z))):=by
 obtain⟨kvs,k,h1,h2,h3⟩:=wq h;cases h3;exact(4,kvs,k,h1,h2,rfl)
theorem F0{n:Bool}(h:vP n i g ρ=(1,r)):∃kvs k,ρ[i]?=(65,.dik kvs)/\g ρ=okI k/\r=.ok (.sh (.bl (n != (j7 kvs k).isSome))):=by
 obtain⟨kvs,k,h1,h2,h3⟩:=wq h;cases h3;exact(4,kvs,k,h1,h2,rfl)
theorem DJ{o:pR}(h:xX i gk ge ρ=[46]):∃v kvs k,ge ρ=okI v/\ρ[i]?=(65,.dik kvs)/\gk ρ=okI k/\kvs.length<lim/\o=.next (72,(12,.dik (mS kvs k v))):=by
 unfold xX at h;cases h0:iF (ge ρ) with
 |none=>rw[h0] at h;cases h
 |some v=>
  rw[h0] at h;dsimp only[Option.bind_some] at h;obtain⟨kvs,k,h1,h2,h3⟩:=wq h;split at h3
  ·rename_i hl;cases h3;exact⟨v,kvs,k,pU h0,h1,h2,hl,rfl⟩
  ·cases h3
theorem Gq{α:Type}{f:Ti->(8,α)}{x:α}(h:(lD i ρ).bind f=(1,x)):∃kvs,ρ[i]?=(65,.dik kvs)/\f kvs=(1,x):=by
 cases h1:lD i ρ with
 |none=>rw[h1] at h;cases h
 |some kvs=>rw[h1] at h;exact(11,kvs,vR h1,h)
theorem qO{kvs:Ti}(h:ρ[i]?=(65,.dik kvs)):lD i ρ=(1,kvs):=by unfold lD;rw[h]
theorem nY{k:Int}(h:g ρ=okI k):iF (g ρ)=(1,k):=by rw[h];rfl
theorem Ly{kvs:Ti}{k z:Int}(h:ρ[i]?=(65,.dik kvs))(hk:g ρ=okI k):sN i g z ρ=okI ((j7 kvs k).getD z):=by unfold sN;rw[qO h,nY hk];rfl
theorem QO{n:Bool}{kvs:Ti}{k:Int}(h:ρ[i]?=(65,.dik kvs))(hk:g ρ=okI k):vP n i g ρ=okB (n != (j7 kvs k).isSome):=by unfold vP;rw[qO h,nY hk];rfl
theorem PQ{kvs:Ti}{k v:Int}(h:ρ[i]?=(65,.dik kvs))(hk:gk ρ=okI k)(hv:ge ρ=okI v)(hl:kvs.length<lim):xX i gk ge ρ=(46,(72,(12,.dik (mS kvs k v)))):=by
 unfold xX;rw[nY hv,qO h,nY hk];exact(25,hl)
theorem Qz{kvs:Ti}(h:ρ[i]?=(65,.dik kvs)):Gm i ρ=okI kvs.length:=by unfold Gm;rw[qO h];rfl
theorem QJ{kvs:Ti}(h:ρ[i]?=(65,.dik kvs)):Gn i ρ=okB true:=by unfold Gn;rw[qO h];rfl
end
def RU(j:Nat)(c:MC):MC:=λρ=>c (ρ.set j none)
end L3
namespace L2
open PySem PySem.Spec PyProof.Rows
section
variable{X:Cx}{tg:Expr}
def UW(K:Frag)(tl:TE):TI:=λσ H R=>tl σ H λx H1=>∃a,x=(9,a)/\(((∃xs,kQ K H1 a xs)/\R (Uy K a) H1)\/((∃xs,nV K H1 a xs)/\R (Ux K a) H1))
theorem Q0{l:Expr}{tl:TE}(hl:PE X l tl):PI X tg l (UW X.K tl):=by
 intro pins s σ H R I h;refine cZ (hl pins s σ H _ I h) λv s1 ⟨x,H1,I1,r1,a,e,q1⟩=>?_;subst e;cases r1;have f1:∀b∈[s1.heap.objs.size],FpOk X pins H1 b:=λb hb=>by
  rw[(39,hb)];exact I1.fpOk [25] (I1.hok.fresh [25])
 rcases q1 with⟨⟨xs,hq⟩,q⟩|⟨⟨xs,hq⟩,q⟩
 ·obtain⟨its,rv,p,hz⟩:=I1.list hq;exact wpAny_pyIter_list p.isList ⟨s1.heap.objs.size,[s1.heap.objs.size],_,_,H1,rfl,I1.kept (t':=s1.toks) (λb o e=>(21,e)),GR a _,(10,_,(26,_),rfl,rfl),f1,q⟩
 ·obtain⟨its,rv,p,hz⟩:=I1.tuple hq;exact wpAny_pyIter_tuple (show s1.heap.IsTuple a its.toArray from p) ⟨s1.heap.objs.size,[s1.heap.objs.size],_,_,H1,rfl,I1.kept (t':=s1.toks) (λb o e=>(21,e)),Dg a _,(10,_,(26,_),rfl,rfl),f1,q⟩
end
def Al(scope:Scope)(env:PySem.Env):[51]:=scope.names.foldl (λcs x=>if x.2 == .free then(x.1,(73,x.1).getD 0)::cs else cs) []
def dJ(sc psc:Scope)(vars:[16]):Bool:=
 (sc.kind == .function) && sc.names.all λy=>(sc.names.lookup y.1 == (1,y.2)) && (match y.2 with
  |.local=>vars.contains y.1
  |.cell=>false
  |.free=>psc.names.lookup y.1 == [67] || psc.names.lookup y.1 == (1,.free)
  |_=>true)
def jf(N vars:[16])(js:[29]):Bool:=(19,N.length).all λi=>js.contains i || !(vars.contains (N.getD i (15,"")))
def gC(js:[29])(σ:St):St:=js.foldl (λσ j=>σ.set j none) σ
theorem ib(js:[29]):∀σ:St,(gC js σ).length=σ.length:=by
 induction js with
 |nil=>intro σ;rfl
 |cons j js ih=>intro σ;show(gC js (σ.set j none)).length=_;rw[ih,length_set]
theorem Cz(js:[29]):∀(σ:St)(i:Nat)(v:V),(gC js σ)[i]?=(31,v)->i∉js/\σ[i]?=(31,v):=by
 induction js with
 |nil=>intro σ i v h;exact(3,by simp,h)
 |cons j js ih=>
  intro σ i v h;obtain⟨h1,h2⟩:=ih (σ.set j none) i v h;by_cases hj:j=i
  ·subst hj;by_cases hl:j<σ.length
   ·rw[(35,hl)] at h2;cases h2
   ·rw[(70,(by rw[length_set];omega))] at h2;cases h2
  ·rw[(32,hj)] at h2;exact(3,by simp[h1,Ne.symm hj],h2)
section
variable{sc psc:Scope}{vars:List Str}
theorem qU(h:dJ sc psc vars=true):sc.kind=.function:=by
 unfold dJ at h;exact eq_of_beq (Bool.and_eq_true_iff.mp h).1
theorem pN(h:dJ sc psc vars=true):∀y∈sc.names,sc.names.lookup y.1=(1,y.2)/\(y.2=.local->y.1∈vars)/\y.2≠.cell/\(y.2=.free->psc.names.lookup y.1=[67]\/psc.names.lookup y.1=(1,.free)):=by
 intro y hy;unfold dJ at h;have h2:=all_eq_true.mp (Bool.and_eq_true_iff.mp h).2 y hy;obtain⟨h3,h4⟩:=Bool.and_eq_true_iff.mp h2;refine(10,eq_of_beq h3,λe=>?_,λe=>?_,λe=>?_)
 ·rw[e] at h4;exact List.contains_iff_mem.mp h4
 ·rw[e] at h4;cases h4
 ·rw[e] at h4;rcases Bool.or_eq_true_iff.mp h4 with z|z
  ·exact .inl (eq_of_beq z)
  ·exact .inr (eq_of_beq z)
theorem gQ{α β:Type}[BEq α][LawfulBEq α]:∀{l:List (α×β)}{x:α}{v:β},l.lookup x=(1,v)->(x,v)∈l
 |[],_,_,h=>by cases h
 | (y,w)::l,x,v,h=>by
  rw[lookup_cons] at h;cases hb:x == y with
  |true=>
   rw[hb] at h;cases h;rw[eq_of_beq hb];exact mem_cons_self
  |false=>
   rw[hb] at h;exact(30,gQ h)
end
theorem Oy(scope:Scope)(env:PySem.Env):∀(l:List (Str×NameKind))(acc:[51]),(∀p∈acc,(73,p.1)=(1,p.2))->(∀y∈l,y.2=.free->∃c,(73,y.1)=(1,c))->
  ∀p∈l.foldl (λcs x=>if x.2 == .free then(x.1,(env.cells.lookup x.1).getD 0)::cs else cs) acc,(73,p.1)=(1,p.2):=by
 intro l
 induction l with
 |nil=>intro acc h _;exact h
 |cons y l ih=>
  intro acc h hf;rw[foldl_cons];refine ih _ ?_ λz hz=>hf z (30,hz);split
  ·rename_i hb;intro p hp;rcases mem_cons.mp hp with e|hp
   ·obtain⟨c,hc⟩:=hf y mem_cons_self (eq_of_beq hb);rw[e,hc];rfl
   ·exact h p hp
  ·exact h
theorem Mg(scope:Scope)(env:PySem.Env):∀(l:List (Str×NameKind))(acc:[51])(x:Str),((x,NameKind.free)∈l\/∃c,(x,c)∈acc)->
  ∃c,(x,c)∈l.foldl (λcs x=>if x.2 == .free then(x.1,(73,x.1).getD 0)::cs else cs) acc:=by
 intro l
 induction l with
 |nil=>
  intro acc x h;rcases h with h|h
  ·cases h
  ·exact h
 |cons y l ih=>
  intro acc x h;rw[foldl_cons];refine ih _ x ?_;rcases h with h|⟨c,h⟩
  ·rcases mem_cons.mp h with e|h
   ·subst e;exact .inr (3,_,by rw[(25,by rfl)];exact mem_cons_self)
   ·exact .inl h
  ·refine .inr (3,c,?_);split
   ·exact(30,h)
   ·exact h
theorem p4{scope:Scope}{env:PySem.Env}(hf:∀y∈scope.names,y.2=.free->∃c,(73,y.1)=(1,c)):closureFor scope env=pure (Al scope env):=by
 have go:∀(l:List (Str×NameKind))(acc:[51]),(∀y∈l,y.2=.free->∃c,(73,y.1)=(1,c))->
   (forIn l acc λx cs=>do
    if x.2 == .free then pure (ForInStep.yield ((x.1,←cellOf env x.1)::cs)) else pure (ForInStep.yield cs):Sem [51])=
   pure (l.foldl (λcs x=>if x.2 == .free then(x.1,(73,x.1).getD 0)::cs else cs) acc):=by
  intro l
  induction l with
  |nil=>intro acc _;rfl
  |cons y l ih=>
   intro acc h;rw[forIn_cons,foldl_cons];cases hb:y.2 == NameKind.free with
   |true=>
    obtain⟨c,hc⟩:=h y mem_cons_self (eq_of_beq hb);have e1:cellOf env y.1=pure c:=by unfold cellOf;rw[hc]
    simp only[if_true,e1,pure_bind,hc,Option.getD_some];exact ih _ λz hz=>h z (30,hz)
   |false=>
    simp only[false_eq_true,if_false,pure_bind];exact ih _ λz hz=>h z (30,hz)
 have:=go scope.names [] hf;unfold closureFor;simpa [Al] using this
def dc(X:Cx)(scope:Scope)(fp:[40])(s:Shared)(H:Hp)(C:Addr):Cx:=
 {X with s₀:=s,H₀:=H,env:=compEnvC scope (Al scope X.env) C X.env,outer:=X.stack,ex:=fp,fn:=λ_=>false,pn:=[],xe:=λ_ _=>False}
theorem sF(f:Str->NameKind->NameKind):∀(l:List (Str×NameKind))(x:Str),(l.map λy=>(y.1,f y.1 y.2)).lookup x=(l.lookup x).map (f x)
 |[],_=>rfl
 | (n,k)::l,x=>by
  rw[map_cons,lookup_cons,lookup_cons];cases hb:x == n with
  |true=>rw[eq_of_beq hb];rfl
  |false=>exact sF f l x
theorem mQ(scope:Scope)(env:PySem.Env)(x:Str):(relabel scope env).names.lookup x=(68,x).map λk=>if(k == NameKind.free && env.scope.kind == .function && env.kindOf x == [67])=true then NameKind.cell else k:=by
 rw[←sF (λn k=>if(k == NameKind.free && env.scope.kind == .function && env.kindOf n == [67])=true then NameKind.cell else k)];unfold relabel;dsimp only;congr 1;refine map_congr_left λy _=>?_;obtain⟨n,k⟩:=y;dsimp only;split <;> rfl
theorem m3{scope psc:Scope}{env:PySem.Env}{vars:[16]}{x:Str}(hc:dJ scope psc vars=true)(h:(relabel scope env).names.lookup x=[67]\/(relabel scope env).names.lookup x=(1,.free)):(68,x)=(1,.free):=by
 rw[mQ] at h;cases hl:scope.names.lookup x with
 |none=>rw[hl] at h;simp at h
 |some k=>
  obtain⟨_,h2,h3,_⟩:=pN hc _ (gQ hl);rw[hl] at h;cases k with
  |free=>rfl
  |cell=>exact(32,rfl,h3)
  |_=>simp at h
theorem Bl{scope psc:Scope}{env:PySem.Env}{vars:[16]}{x:Str}(hc:dJ scope psc vars=true)(h:T3 (relabel scope env) x):
  (x∈vars)\/((68,x)=(1,.free)/\((relabel scope env).names.lookup x=[67]\/(relabel scope env).names.lookup x=(1,.free))):=by
 rcases h with h|h|h
 ·rw[mQ] at h;cases hl:scope.names.lookup x with
  |none=>rw[hl] at h;simp at h
  |some k=>
   obtain⟨_,h2,h3,_⟩:=pN hc _ (gQ hl);rw[hl] at h;cases k with
   |«local»=>exact .inl (h2 rfl)
   |cell=>exact(32,rfl,h3)
   |free=>
    simp only[Option.map_some] at h;split at h <;> simp at h
   |_=>simp at h
 ·exact .inr (3,m3 hc (.inl h),.inl h)
 ·exact .inr (3,m3 hc (.inr h),.inr h)
theorem CQ{scope psc:Scope}{env:PySem.Env}{vars:[16]}(hc:dJ scope psc vars=true)(hf:∀y∈scope.names,y.2=.free->∃c,(73,y.1)=(1,c)):
  (∀x c,(Al scope env).lookup x=(1,c)->(73,x)=(1,c))/\∀x,(68,x)=(1,.free)->∃c,(Al scope env).lookup x=(1,c)/\(73,x)=(1,c):=by
 have h1:∀x c,(Al scope env).lookup x=(1,c)->(73,x)=(1,c):=λx c e=>Oy scope env scope.names [] (λ_ z=>nomatch z) hf (x,c) (gQ e)
 refine(3,h1,λx e=>?_);obtain⟨c,hm⟩:=Mg scope env scope.names [] x (.inl (gQ e));cases q:(Al scope env).lookup x with
 |some d=>exact(19,d,h1 x d q)
 |none=>
  have:=List.lookup_eq_none_iff.mp q _ hm;simp at this
section
variable{X:Cx}{pins:List (Addr×Obj)}{σ:St}{H:Hp}{s:Shared}{scope:Scope}{vars:List Str}{js:List Nat}{fp:List Addr}{C:Addr}{h₁:Heap}{tk:Nat}
theorem se(I:[48])(hc:dJ scope [53] vars=true):∀y∈scope.names,y.2=.free->∃c,(53,y.1)=(1,c):=λy hy e=>by
 obtain⟨_,_,_,h⟩:=pN hc y hy;exact I.ok.has y.1 (h e)
theorem Ln(I:[48])(hc:dJ scope [53] vars=true)(hj:jf X.N vars js=true)(hC:C=s.heap.objs.size)(hfp:∀b∈fp,FpOk X pins H b)(hfo:∀b∈fp,b<s.heap.objs.size)
  {m:Str->[30]} (hns:h₁.Ns C m) (keep:∀b o,(28,b)=([46])->h₁.get? b=[46]):
  aN (dc X scope fp s H C) [] (gC js σ) H {s with heap:=h₁,toks:=tk}:=by
 have hf:=se I hc;obtain⟨cl1,cl2⟩:=CQ hc hf;have ok:(dc X scope fp s H C).Ok:=by
  refine⟨I.ok.mod,?_,I.ok.glob,I.ok.blt,le_of_eq hC.symm,λx y c h1 h2=>I.ok.inj x y c (cl1 x c h1) (cl1 y c h2),λx hx=>?_,(λx c z=>nomatch z),I.ok.hd,I.ok.frames,Or.inl rfl,λb hb=>?_,I.bs,le_trans I.ok.bsz I.sz,λb o e hb=>?_,λb hb z=>?_,I.stack,I.stkFree⟩
  ·show scope.kind=.function;exact qU hc
  ·obtain⟨c,z,_⟩:=cl2 x (m3 hc hx);exact(3,c,z)
  ·obtain⟨_,_,_,_,f4,_⟩:=hfp b hb;refine(3,λz=>?_,λx c e=>f4 x c (cl1 x c e));have h1:=hfo b hb;have h2:b=C:=z;rw[h2,hC] at h1;exact lt_irrefl _ h1
  ·obtain⟨_,_,_,f3,_⟩:=hfp b hb;rcases f3 with z|z
   ·exact I.ok.noex b o e z
   ·exact(32,(9,(48,(I.ok.bs b o e).1),z),lt_irrefl _)
  ·obtain⟨_,f1,f2,_⟩:=hfp b hb;rcases mem_cons.mp (I.stkSub b z) with e|e
   ·exact f1 e
   ·exact f2 e
 refine⟨ok,rfl,I.bare,Un.kept keep,(11,m,hns,λi x v e1 e2 e3=>?_),λx c e=>?_,?_,λx c e=>I.freeC x c (cl1 x c e),(λp hp=>nomatch hp),I.hok.kept keep,?_⟩
 ·obtain⟨nj,e2⟩:=Cz js σ i v e2;rcases Bl hc e3 with hm|⟨ef,hk⟩
  ·exfalso;have hi:i<X.N.length:=(17,e1).1;have hq:=all_eq_true.mp hj i (mem_range.mpr hi);rcases Bool.or_eq_true_iff.mp hq with z|z
   ·exact nj (List.contains_iff_mem.mp z)
   ·rw[getD_eq_getElem?_getD,show X.N[i]?=(1,x) from e1] at z;have hm':vars.contains x=true:=List.contains_iff_mem.mpr hm;rw[Option.getD_some,hm'] at z;cases z
  ·obtain⟨c,z1,z2⟩:=cl2 x ef;obtain⟨m0,_,hl⟩:=I.loc;obtain⟨_,_,_,hp⟩:=pN hc _ (gQ ef);have hv:T3 [53] x:=(hp rfl).elim (λz=>.inr (.inl z)) λz=>.inr (.inr z);obtain⟨u,r,l⟩:=hl i x v e1 e2 hv;refine(11,u,r,.inr (10,hk,c,z1,?_));rcases l with⟨k,_⟩|⟨_,c',e,q⟩
   ·have k':[28]=[56]:=k;rcases hp rfl with z|z
    ·have z':[28]=[67]:=z;rw[k'] at z';cases z'
    ·have z':[28]=(1,.free):=z;rw[k'] at z';cases z'
   ·rw[z2] at e;cases e;obtain⟨o,ho,hd⟩:=q;exact(11,o,keep _ o ho,hd)
 ·obtain⟨v,o,ho,hd⟩:=I.cell x c (cl1 x c e);exact(10,v,o,keep _ o ho,hd)
 ·exact I.hok.fresh (le_of_eq hC.symm)
 ·rw[ib];exact I.len
end
abbrev Fl:Value->Shared->Prop:=λ_ _=>False
theorem fl{α:Type}{M:Model}{A:Around}{t:Sem α}{Q Q':α->Shared->Prop}{E:Value->Shared->Prop}{s:Shared}(h:wpAny M A t Q Fl s)(k:∀a s,Q a s->Q' a s):wpAny M A t Q' E s:=wpAny_mono h k λ_ _ z=>z.elim
def GA(ifs:List Expr)(env:PySem.Env):Sem Bool:=forIn ifs true λc r=>if r=true then do let ok ←isTrue c env (eval c env);pure (ForInStep.yield ok) else pure (ForInStep.yield r)
theorem IK{prog:Program}{w:World}{A:Around}{R:Result->Shared->Prop}{s:Shared}{elt target iter:Expr}{ifs:List Expr}{scope:Scope}{pos:Pos}{it acc:Value}{env:PySem.Env}(Iv:Nat->Shared->Prop)
  (turn:∀n s,Iv n s->wpAny (model prog w) A (pyNext it) (λr s₁=>match r with
   |none=>R (.ok .next) s₁
   |some v=>wpAny (model prog w) A (letOwnedTupleGo target it v) (λ_ s₂=>wpAny (model prog w) A (assign target env v) (λ_ s₃=>wpAny (model prog w) A (GA ifs env) (λok s₄=>
     if ok=true then(1,prog,w,A,eval elt env,(λx s₅=>(1,prog,w,A,call (44,"list.append") [acc,x],(λ_ s₆=>∃m,m<n/\Iv m s₆),Fl,s₅)),Fl,s₄)
     else ∃m,m<n/\Iv m s₄) Fl s₃) Fl s₂) Fl s₁) Fl s)
  (n:Nat) (h:Iv n s):codeAny (model prog w) A (.compLoop (30,elt,[(10,target,iter,ifs,0)],pos) 0 it acc env) R s:=by
 refine codeAny_loop rfl Iv (λn s hI=>?_) n h;show(6,A,((compTurn (30,elt,[(10,target,iter,ifs,0)],pos) 0 it acc env).onRaise _),_,_,s);refine wpAny_noted ?_;rw[compTurn_list];refine(5,wpAny_standAt (5,(fl (turn n s hI) λr s₁ h₁=>?_)));cases r with
 |none=>exact(10,h₁)
 |some v=>
  refine(5,(fl h₁ λ_ s₂ h₂=>(5,(fl h₂ λ_ s₃ h₃=>(5,(fl h₃ λok s₄ h₄=>?_))))));cases ok with
  |false=>exact(10,(62,h₄))
  |true=>exact(5,(5,(fl h₄ λx s₅ h₅=>(5,(fl h₅ λ_ s₆ h₆=>(10,(10,(62,h₆))))))))
def RD(X:Cx)(ifs:List Expr)(t:TT):Prop:=∀(pins:[18])(s:Shared)(σ:St)(H:Hp)(Q:Bool->Hp->Prop),([48])->t σ H Q->(3,X.w,X.A,GA ifs X.env,TP X pins σ Q,X.xe,s)
def Fw:TT:=λ_ H Q=>Q true H
theorem zB{X:Cx}:RD X [] Fw:=λpins s σ H Q I h=>wpAny_tests_nil (11,H,I,h)
theorem FT{X:Cx}{c:Expr}{t:TT}(h:PT X c t):RD X [c] t:=λpins s σ H Q I q=>wpAny_tests_one (h pins s σ H Q I q)
def Pg(J:It)(g:TG)(tt:TT)(te:TE)(a:Addr)(Q:VK)(W:Nat->Nat->St->([38])->Hp->Prop):Prop:=∀i m σ ys H,W i m σ ys H->H a=(1,(13,ys))/\
 ((J.stop i H/\Q (9,a) H)\/(J.go i H/\∀x H1,J.yld i H x H1->g x σ H1 λσ2 H2=>tt σ2 H2 λb H3=>
  if b=true then te σ2 H3 λy H4=>H4 a=(1,(13,ys))/\ys.length<sizeLine/\∃m',m'<m/\W (i+1) m' σ2 (ys++[y]) (35,H4,a,(ys++[y])) else ∃m',m'<m/\W (i+1) m' σ2 ys H3))
def FA(js:[29])(wi:TI)(g:TG)(tt:TT)(te:TE):TE:=λσ H Q=>wi σ H λJ H1=>∀a,H1 a=none->∃W,(∃m,W 0 m (gC js σ) [] (35,H1,a,[]))/\Pg J g tt te a Q W
section
variable{X:Cx}{scope:Scope}{vars:List Str}{js:List Nat}{elt tg iter:Expr}{ifs:List Expr}{pos:Pos}{wi:TI}{g:TG}{tt:TT}{te:TE}
theorem yu{pins:[18]}{s:Shared}{σ:St}{H:Hp}{it:Addr}{fp:[40]}{tn:Nat->Heap->Prop}{J:It}{Q:VK}{E:Value->Shared->Prop}{RR:Value->Addr->Result->Shared->Prop}(hc:dJ scope [53] vars=true)(hj:jf X.N vars js=true)(hcalm:X.calm=true)
  (hg:∀fp s H C,PG (dc X scope fp s H C) tg g) (ht:∀fp s H C,RD (dc X scope fp s H C) ifs tt) (he:∀fp s H C,PE (dc X scope fp s H C) elt te)
  (I:[48]) (T:Fh X.prog X.w X.K tg J fp it tn) (st:tn 0 s.heap) (hfp:∀b∈fp,FpOk X pins H b) (q:∀a,H a=none->∃W,(∃m,W 0 m (gC js σ) [] (35,H,a,[]))/\Pg J g tt te a Q W)
  (fin:∀a C H' s' m,(17,H',s')->s'.heap.Ns C m->H' C=none->C≠X.env.locals->X.s₀.heap.objs.size<=C->(∀x c,(53,x)=(1,c)->c≠C)->(∀p∈X.pn++pins,p.1≠C)->Q (9,a) H'->RR (9,a) C (.ok .next) s'):
  wpAny (model X.prog X.w) X.A (newList []) (λacc s₃=>wpAny (model X.prog X.w) X.A (newFunctionEnv scope X.env.globals (Al scope X.env) [] X.env.qual none .none (1,X.env)) (λcenv s₄=>
   codeAny (model X.prog X.w) X.A (.compStart (30,elt,[(10,tg,iter,ifs,0)],pos) 0 (9,it) acc {cenv with scope:=relabel scope X.env}) (RR acc cenv.locals) s₄) E s₃) E s:=by
 have nocell:∀y∈scope.names,y.2≠.cell:=λy hy=>(pN hc y hy).2.2.1;refine wpAny_newObj_type (wpAny_newFunctionEnv nocell (by intro y hy;simp at hy) (λh₁ hns hsb=>?_) (qU hc))
 dsimp only at hns hsb ⊢;generalize hA:s.heap.objs.size=a at *;have fa:H a=none:=by rw[←hA];exact I.fresh
 obtain⟨W,⟨m0,w0⟩,hW⟩:=q a fa;have I3:aN X pins σ (35,H,a,[]) {s with heap:=s.heap.push {cls:=.type "list",data:=.seq ([]:List Value).toArray}}:=by
  rw[←hA];exact I.lnew (t':=s.toks) (ys:=[]) (its:=[]) .nil (zero_le _)
 generalize hB:s.heap.push {cls:=.type "list",dict:=none,data:=.seq ([]:List Value).toArray}=hp at *;have szp:hp.objs.size=a+1:=by rw[←hB,size_push,hA]
 have keep:∀b o,hp.get? b=([46])->h₁.get? b=[46]:=λb o e=>(hsb.2 b (56,(48,e))).trans (21,e);have up:∀b o,(28,b)=([46])->hp.get? b=[46]:=λb o e=>by rw[←hB];exact(21,e)
 have lo:∀b∈fp,b<a:=λb hb=>by
  obtain⟨o,e,_⟩:=T.obj 0 _ st b hb;rw[←hA];exact(48,e)
 have hfp3:∀b∈fp,FpOk X pins (35,H,a,[]) b:=λb hb=>(3,by rw[az (56,lo b hb)];exact(hfp b hb).1,(hfp b hb).2)
 have I4:=Ln (tk:=s.toks+([]:List (Str×Value)).length) I3 hc hj rfl hfp3 (λb hb=>by show b<hp.objs.size;rw[szp];exact lt_succ_of_lt (lo b hb)) hns keep
 generalize hX:dc X scope fp {s with heap:=hp} (cF H a (.lst [])) hp.objs.size=X' at I4;have eP:X'.prog=X.prog:=by rw[←hX];rfl
 have eW:X'.w=X.w:=by rw[←hX];rfl
 have eK:X'.K=X.K:=by rw[←hX];rfl
 have eA:X'.A=X.A:=by rw[←hX];rfl
 have eC:X'.calm=true:=by rw[←hX];exact hcalm
 have eL:X'.env.locals=hp.objs.size:=by rw[←hX];rfl
 have eE:X'.env=compEnvC scope (Al scope X.env) hp.objs.size X.env:=by rw[←hX];rfl
 have eX:X'.ex=fp:=by rw[←hX];rfl
 have exe:X'.xe=Fl:=by rw[←hX];rfl
 have epn:X'.pn=[]:=by rw[←hX];rfl
 have hg':PG X' tg g:=by rw[←hX];exact hg _ _ _ _
 have ht':RD X' ifs tt:=by rw[←hX];exact ht _ _ _ _
 have he':PE X' elt te:=by rw[←hX];exact he _ _ _ _
 have stat:∀{H':Hp},(∀b∈fp,H' b=none)->∀b∈fp,FpOk X' [] H' b:=λhn b hb=>by
  have hb':b∈X'.ex:=by rw[eX];exact hb
  exact⟨hn b hb,(I4.ok.exf b hb').1,I4.ok.exfs b hb',.inl hb',(I4.ok.exf b hb').2,λp hp=>by rw[epn] at hp;cases hp⟩
 have back:∀{σ':St}{H':Hp}{s':Shared},aN X' [] σ' H' s'->Q (9,a) H'->RR (9,a) hp.objs.size (.ok .next) s':=λ{σ' H' s'} J qf=>by
  obtain⟨m,hn,_⟩:=J.loc;rw[eL] at hn;have hfree:=J.free;rw[eL] at hfree;have jos:=J.os;have jbase:=J.base;have jhok:=J.hok;rw[←hX] at jos jbase jhok;refine fin a _ H' s' m (I3.call' (ch:=fp) jos jbase jhok J.bare λb hb=>(10,(hfp b hb).2.2.2.1,(hfp b hb).2.1,(hfp b hb).2.2.2.2.1,(hfp b hb).2.2.2.2.2)) hn hfree (ne_of_gt I3.lt) I3.sz (λx c e z=>?_) (λp hp' z=>?_) qf
  ·obtain⟨v,o,ho,_⟩:=I3.cell x c e;have:=(48,ho);rw[z] at this;exact lt_irrefl _ this
  ·have:=(48,(I3.pin p hp').1);rw[z] at this;exact lt_irrefl _ this
 have st1:tn 0 h₁:=T.keep 0 _ _ st λb hb o e=>keep b o (up b o e);have loop:codeAny (model X.prog X.w) X.A (.compLoop (30,elt,[(10,tg,iter,ifs,0)],pos) 0 (9,it) (9,a) X'.env) (RR (9,a) hp.objs.size) {s with heap:=h₁,toks:=s.toks+([]:List (Str×Value)).length}:=by
  refine IK (λn s'=>∃i σ' ys H',aN X' [] σ' H' s'/\tn i s'.heap/\(∀b∈fp,H' b=none)/\W i n σ' ys H') ?_ m0 ⟨0,_,[],_,I4,st1,λb hb=>(hfp3 b hb).1,w0⟩
  rintro n s3 ⟨i,σ3,ys,H3,J3,st3,fr3,w3⟩
  obtain⟨ha,hw⟩:=hW i n σ3 ys H3 w3;rcases hw with⟨stop,qn⟩|⟨go,step⟩
  ·have z:=T.done X' eP eW eK eC i [] s3 σ3 H3 Fl J3 (stat fr3) st3 stop;rw[eA] at z;refine cZ z λr s4 ⟨hr,J4⟩=>?_;subst hr;exact back J4 qn
  ·have z:=T.item X' eP eW eK eC i [] s3 σ3 H3 Fl J3 (stat fr3) st3 go;rw[eA] at z;refine cZ z λr s4 ⟨u,hr,h4⟩=>?_;subst hr;refine cZ h4 λ_ s5 ⟨x,H5,J5,r5,y5,st5,fr5⟩=>?_;have J5':=J5.pinned (stat fr5) (T.obj _ _ st5);have z5:=hg' _ s5 σ3 H5 x u _ J5' r5 (step x H5 y5);rw[eP,eW,eA,exe] at z5;refine cZ z5 λ_ s6 ⟨σ6,H6,J6,q6⟩=>?_;have z6:=ht' _ s6 σ6 H6 _ J6 q6;rw[eP,eW,eA,exe] at z6;refine cZ z6 λok s7 ⟨H7,J7,q7⟩=>?_;have again:∀{σ8:St}{H8:Hp}{s8:Shared}{ys8:[38]}{m':Nat},aN X' ([]++vb fp s5.heap) σ8 H8 s8->m'<n->W (i+1) m' σ8 ys8 H8->∃m,m<n/\∃i σ' ys H',aN X' [] σ' H' s8/\tn i s8.heap/\(∀b∈fp,H' b=none)/\W i m σ' ys H':=λ{σ8 H8 s8 ys8 m'} J8 hm w8=>by
    refine⟨m',hm,i+1,σ8,ys8,H8,J8.unpinned,T.keep _ _ _ st5 λb hb o e=>(J8.pin (b,o) (75,(75,m9 hb e))).1,λb hb=>?_,w8⟩;obtain⟨o,e,d⟩:=T.obj _ _ st5 b hb;exact(J8.pin (b,o) (75,(75,m9 hb e))).2.1
   cases ok with
   |false=>
    rw[(29,[27])] at q7 ⊢;obtain⟨m',hm,w7⟩:=q7;exact again J7 hm w7
   |true=>
    rw[(25,rfl)] at q7 ⊢;have z7:=he' _ s7 σ6 H7 _ J7 q7;rw[eP,eW,eA,exe] at z7;refine cZ z7 λv s8 ⟨y,H8,J8,r8,h8,hl8,m',hm,w8⟩=>?_;have z8:=rS _ s8 σ6 H8 (9,a) [y] (9,a) [v] (λ_ H9=>H9=(35,H8,a,(ys++[y]))) J8 rfl (22,r8,.nil) ⟨a,ys,y,rfl,rfl,h8,hl8,rfl⟩;rw[eP,eW,eA,exe] at z8;refine cZ z8 λ_ s9 ⟨_,H9,J9,_,q9⟩=>?_;subst q9;exact again J9 hm w8
 rw[eE] at loop;exact codeAny_compStart_list loop (T.self _ 0 _ _ _ st1 loop)
theorem FU(hc:dJ scope [53] vars=true)(hj:jf X.N vars js=true)(hcalm:X.calm=true)(hi:PI X tg iter wi)
  (hg:∀fp s H C,PG (dc X scope fp s H C) tg g) (ht:∀fp s H C,RD (dc X scope fp s H C) ifs tt) (he:∀fp s H C,PE (dc X scope fp s H C) elt te) (hs:∀x,foldedSetIterable iter X.env x=pure x:=by intro _;rfl):
  PE X (30,elt,[(10,tg,iter,ifs,0)],pos) (FA js wi g tt te):=by
 intro pins s σ H Q I h;rw[eval_ListComp];refine wpAny_comprehension_free (use:=none) rfl hs (p4 (se I hc)) (qU hc) (λy hy e=>by rw[(pN hc y hy).1,e]) (cZ (hi pins s σ H _ I h) λv s1 h1=>cZ h1 λitv s2 h2=>?_)
 obtain⟨it,fp,tn,J,H2,e,I2,T,st2,f2,q⟩:=h2;subst e;refine yu (RR:=λacc C=>compPost (model X.prog X.w) X.A X.xe none (EP X pins σ Q) acc C) hc hj hcalm hg ht he I2 T st2 f2 q ?_;intro a C H' s' m J' hn hC hL hS hcell hpin q';exact(11,m,hn,λh' sb=>(4,(9,a),H',J'.turned (t':=s'.toks) (λb o hb e=>(sb.2 b hb).trans e) hC hL (.inr hS) hcell hpin,rfl,q'))
theorem pz{i:Nat}{x:Str}{pos' spos:Pos}(hN:X.N.Nodup)(hi':X.N[i]?=(1,x))(hx:Fk [53] x)(hc:dJ scope [53] vars=true)(hj:jf X.N vars js=true)(hcalm:X.calm=true)(hi:PI X tg iter wi)
  (hg:∀fp s H C,PG (dc X scope fp s H C) tg g) (ht:∀fp s H C,RD (dc X scope fp s H C) ifs tt) (he:∀fp s H C,PE (dc X scope fp s H C) elt te)
  (hsw:(28,(30,elt,[(10,tg,iter,ifs,0)],pos),(1,(23,pos')),spos.line)=pure true:=by rfl) (hs:∀x,foldedSetIterable iter X.env x=pure x:=by intro _;rfl)
  (hf:X.fn x=true\/[28]=[56]:=by first|exact[42]|exact .inr rfl|assumption):
  PS X (.Assign [(23,pos')] (30,elt,[(10,tg,iter,ifs,0)],pos) spos) (JL (FA js wi g tt te) (Cw i)):=by
 intro pins s σ H D I h;rw[exec_Assign_Name_used _ _ _ _ hsw];refine(5,wpAny_standAt (5,?_));show(6,X.A,(do let _ ←comprehension (.ListComp elt [⟨tg,iter,ifs,0⟩] scope pos) scope X.env _ (newList []) false (eval iter X.env) (some (assign (.Name x pos') X.env))),_,_,s)
 refine wpAny_bind (wpAny_mono (wpAny_comprehension_free (use:=(1,assign (23,pos') X.env)) (Q:=λ_ s'=>SP X pins D .next s') rfl hs (p4 (se I hc)) (qU hc) (λy hy e=>by rw[(pN hc y hy).1,e])
  (cZ (hi pins s σ H _ I h) λv s1 h1=>cZ h1 λitv s2 h2=>?_)) (λ_ s' hq=>(10,(10,hq))) λ_ _ e=>e)
 obtain⟨it,fp,tn,J,H2,e,I2,T,st2,f2,q⟩:=h2;subst e;refine yu (RR:=λacc C=>compPost (model X.prog X.w) X.A X.xe (1,assign (23,pos') X.env) (λ_ s'=>SP X pins D .next s') acc C) hc hj hcalm hg ht he I2 T st2 f2 q ?_;intro a C H' s' m J' hn hC hL hS hcell hpin q';refine wpAny_assign_Name (xO J' hN hi' hx (v:=(9,a)) rfl (λs'' J2 ⟨b,sb,hb⟩=>?_) hf);have hCb:C≠b:=by
  rcases hb with z|z
  ·rw[z];exact hL
  ·exact(hcell x b z).symm
 exact(11,m,hn.sameBut sb hCb,λh' sb'=>(10,_,H',J2.turned (t':=s''.toks) (λb o hb e=>(sb'.2 b hb).trans e) hC hL (.inr hS) hcell hpin,q'))
end
section
variable{X:Cx}{pins:List (Addr×Obj)}{σ:St}{H:Hp}{s:Shared}{l:Addr}{xs:List V}
def S0(K:Frag):R2:=λx y H Q=>∃l b xs zs,x=(9,l)/\y=(9,b)/\kQ K H l xs/\kQ K H b zs/\xs.length+zs.length<=sizeLine/\∀p,H p=none->Q (9,p) (35,H,p,(xs++zs))
theorem NM:(21,X,.Add,S0 X.K):=λpins s σ H x y v u Q I rx ry ⟨l,b,xs,zs,ex,ey,hH,hB,hz,q⟩=>by
 subst ex ey;cases rx;cases ry;obtain⟨i1,r1,p1,_⟩:=I.list hH;obtain⟨i2,r2,p2,_⟩:=I.list hB;obtain⟨⟨c1,d1,t1,s1⟩,o1,k1,n1,g1⟩:=p1.isList;obtain⟨⟨c2,d2,t2,s2⟩,o2,k2,n2,g2⟩:=p2.isList;simp only at k1 g1 k2 g2;subst k1 g1 k2 g2;have l1:=r1.length;have l2:=r2.length;have ea:i1.toArray++i2.toArray=(i1++i2).toArray:=by simp
 refine concat_meets (35,_,o1) (35,_,o2) noFill_list_add seq_list_add PySem.F.slot_list_add PySem.F.entry_list_add (PySem.F.args_list_add_2 _ _) (list_addW l b _ _ n1 n2 d1 d2 s1 s2 (by rw[size_toArray,size_toArray,←l1,←l2];exact hz)) (11,o1,o2,?_)
 rw[ea];exact(4,(9,_),_,I.lnew (t':=s.toks) (r1.append r2) (by rw[length_append];exact hz),rfl,q _ I.fresh)
theorem KG:(21,X,.Add,(λx y H Q=>∃a b ys,x=(9,a)/\y=(9,b)/\nV X.K H a []/\nV X.K H b ys/\Q (9,b) H)):=λpins s σ H x y v u Q I rx ry ⟨a,b,ys,ex,ey,ha,hb,q⟩=>by
 subst ex ey;cases rx;cases ry;obtain⟨i1,r1,⟨⟨c1,d1,t1,s1⟩,o1,k1,n1,g1⟩,_⟩:=I.tuple ha;obtain⟨i2,r2,⟨⟨c2,d2,t2,s2⟩,o2,k2,n2,g2⟩,_⟩:=I.tuple hb;cases r1;simp only at k1 g1 k2 g2;subst k1 g1 k2 g2;exact concat_meets (35,_,o1) (35,_,o2) noFill_tuple_add seq_tuple_add PySem.F.slot_tuple_add PySem.F.entry_tuple_add (PySem.F.args_tuple_add_2 _ _)
  (tuple_addW0 a b _ _ n1 n2 d1 d2 s1 s2 (by rfl)) (11,o1,o2,(4,(9,b),H,I,rfl,q))
theorem uY(ns:[24]):∀k,k<=ns.length->preSum (λi=>(ns[i]?).getD 0) k=(ns.take k).sum
 |0,_=>by simp[preSum]
 |k+1,h=>by
  have hk:k<ns.length:=h;rw[List.take_add_one,(7,hk),sum_append,←uY ns k (le_of_lt hk)];simp[preSum,(7,hk)]
theorem IR(hc:X.calm=true):dj X (44,"sum") (λxs H Q=>∃(p:Addr)(ns:[24]),xs=[(9,p)]/\kQ X.K H p (ns.map V.int)/\Q (16,ns.sum) H):=λpins s σ H xs us Q I r ⟨p,ns,ex,hq,q⟩=>by
 subst ex;obtain⟨u,rfl,rx⟩:=kR r;cases rx;obtain⟨its,rv,pl,hz⟩:=I.list hq;have hlt:p<s.heap.objs.size:=by obtain⟨_,e,_⟩:=pl.isList;exact(48,e)
 have hlen:its.length=ns.length:=by rw[←rv.length,length_map]
 have up:∀b o,(28,b)=([46])->(s.heap.push {cls:=.type "list_iterator",data:=.fields #[.ref p,.int 0 0]}).get? b=[46]:=λb o e=>(21,e);refine call_sum_walkG (wpAny_pyIter_list pl.isList ⟨_,_,_,_,_,_,λi=>(ns[i]?).getD 0,rfl,Walks.list (A:=X.A.in1) (I.ok.hd hc) [15] p (56,hlt) its.toArray,(3,(10,_,(26,_),rfl,rfl),pl.isList.push _),λb hb=>?_,λi v hv=>?_,λh' tk t' hk=>?_⟩)
 ·rw[show({s with heap:=s.heap.push {cls:=.type "list_iterator",data:=.fields #[.ref p,.int 0 0]}}:Shared).heap.objs.size=s.heap.objs.size+1 from size_push ..];rcases mem_cons.mp hb with e|e
  ·rw[e];exact lt_succ_self _
  ·rw[(39,e)];exact lt_succ_of_lt hlt
 ·have hv':its[i]?=(1,v):=by simpa using hv
  have hi:i<ns.length:=by rw[←hlen];exact(17,hv').1
  obtain⟨u,e,ru⟩:=rv.get (i:=i) (x:=(16,ns[i])) (by rw[getElem?_map,(7,hi)];rfl)
  rw[hv'] at e;cases e;obtain⟨t,e⟩:=ru;exact(3,t,by show v=Value.int ((ns[i]?).getD 0) t;rw[e,(7,hi)];rfl)
 ·have es:preSum (λi=>(ns[i]?).getD 0) its.toArray.size=ns.sum:=by rw[size_toArray,hlen,uY ns _ [25],List.take_length]
  refine(4,(16,ns.sum),H,I.kept (t':=tk) λb o e=>hk b o (by simpa using(56,(48,e))) (up b o e),(3,t',by rw[es]),q)
theorem Jf(bs:List Bool):(19,bs.length).all (λi=>(bs[i]?).getD false)=bs.all id:=by
 rw[Bool.eq_iff_iff,all_eq_true,all_eq_true];constructor
 ·intro h b hb;obtain⟨i,hi,rfl⟩:=List.mem_iff_getElem.mp hb;have:=h i (mem_range.mpr hi);rwa[(7,hi)] at this
 ·intro h i hi;have hi':=mem_range.mp hi;rw[(7,hi')];exact h _ (getElem_mem hi')
theorem Jd(bs:List Bool):(19,bs.length).any (λi=>(bs[i]?).getD false)=bs.any id:=by
 rw[Bool.eq_iff_iff,List.any_eq_true,List.any_eq_true];constructor
 ·rintro ⟨i,hi,h⟩
  have hi':=mem_range.mp hi;rw[(7,hi')] at h;exact(11,_,getElem_mem hi',h)
 ·rintro ⟨b,hb,h⟩
  obtain⟨i,hi,rfl⟩:=List.mem_iff_getElem.mp hb;exact(11,i,mem_range.mpr hi,by rw[(7,hi)];exact h)
theorem vX(I:[48])(hc:X.calm=true){p:Addr}{bs:List Bool}(hq:kQ X.K H p (bs.map V.bl)){E:Value->Shared->Prop}{Q:Value->Shared->Prop}{cmb:([29])->(Nat->Bool)->Bool}
  (k:∀(h':Heap)(tk:Nat),(∀b o,(28,b)=([46])->(63,b)=[46])->Q (.bool (cmb (19,bs.length) λi=>(bs[i]?).getD false)) {s with heap:=h',toks:=tk}):
  wpAny (model X.prog X.w) X.A.in1 (pyIter (9,p)) (λit s₂=>∃I fp wr n P St tr,it=(9,I)/\Walks X.prog X.w X.A.in1 I fp wr n P St/\St 0 s₂.heap/\TruthOf X.prog X.w X.A.in1 P tr/\
   ∀h' tk,(∀b o,b∉wr->s₂.heap.get? b=([46])->(63,b)=[46])->Q (.bool (cmb (19,n) tr)) {s₂ with heap:=h',toks:=tk}) E s:=by
 obtain⟨its,rv,pl,hz⟩:=I.list hq;have hlt:p<s.heap.objs.size:=by obtain⟨_,e,_⟩:=pl.isList;exact(48,e)
 have hlen:its.length=bs.length:=by rw[←rv.length,length_map]
 refine wpAny_pyIter_list pl.isList ⟨_,_,_,_,_,_,λi=>(bs[i]?).getD false,rfl,Walks.list (A:=X.A.in1) (I.ok.hd hc) [15] p (56,hlt) its.toArray,(3,(10,_,(26,_),rfl,rfl),pl.isList.push _),λi v s' Q' E' hv hQ=>?_,λh' tk hk=>?_⟩
 ·have hv':its[i]?=(1,v):=by simpa using hv
  have hi:i<bs.length:=by rw[←hlen];exact(17,hv').1
  obtain⟨u,e,ru⟩:=rv.get (i:=i) (x:=.bl bs[i]) (by rw[getElem?_map,(7,hi)];rfl)
  rw[hv'] at e;cases e;cases (show v=Value.bool bs[i] from ru);have hQ2:Q' ((bs[i]?).getD false) s':=hQ;rw[(7,hi)] at hQ2;exact(10,hQ2)
 ·rw[size_toArray,hlen];exact k h' tk λb o e=>hk b o (by simpa using(56,(48,e))) (21,e)
theorem IX(hc:X.calm=true):dj X (44,"all") (λxs H Q=>∃(p:Addr)(bs:List Bool),xs=[(9,p)]/\kQ X.K H p (bs.map V.bl)/\Q (.bl (bs.all id)) H):=λpins s σ H xs us Q I r ⟨p,bs,ex,hq,q⟩=>by
 subst ex;obtain⟨u,rfl,rx⟩:=kR r;cases rx;refine call_all_walk (vX (cmb:=λl f=>l.all f) I hc hq λh' tk hk=>?_);exact(4,.bl (bs.all id),H,I.kept (t':=tk) hk,by rw[Jf];rfl,q)
theorem IW(hc:X.calm=true):dj X (44,"any") (λxs H Q=>∃(p:Addr)(bs:List Bool),xs=[(9,p)]/\kQ X.K H p (bs.map V.bl)/\Q (.bl (bs.any id)) H):=λpins s σ H xs us Q I r ⟨p,bs,ex,hq,q⟩=>by
 subst ex;obtain⟨u,rfl,rx⟩:=kR r;cases rx;refine call_any_walk (vX (cmb:=λl f=>l.any f) I hc hq λh' tk hk=>?_);exact(4,.bl (bs.any id),H,I.kept (t':=tk) hk,by rw[Jd];rfl,q)
theorem LR(l:Addr)(items:[33])(n:Nat)(b:Addr)(items2:[33])(n2:Nat)(dd:(8,Addr))(sl:Array [30])(h0:¬(!items.isEmpty && Builtin.List.listTooLong (items.size+items2.size))=true)(h1:items.size<=sizeLine)(h2:items.size+items2.size<=sizeLine+1):
  Meets (Builtin.«list.extend» (3,[(9,l),(9,b)],[])) (λ_ R s=>(28,l)=some {cls:=.type "list",dict:=none,data:=.seq items n,slots:=#[]}/\(28,b)=(1,(10,(54,"tuple"),dd,.seq items2 n2,sl))/\R (.ok (.ret Value.none)) {s with heap:=s.heap.update l (Obj.mapSeq λx=>x++items2),toks:=s.toks}):=
 .of_wp λprog w A R s h=>by
  obtain⟨hp,g,d,tk,os⟩:=s;obtain⟨hl,hb,h⟩:=h;have f1:=AutoSeq1.idx_int;have f2:=AutoSeq1.sub_tuple_tuple;have f3:=AutoSeq1.sub_list_list;have f4:=AutoSeq1.sub_tuple_list;have f5:=AutoSeq1.sub_list_tuple;have hz':(items++items2).size<=sizeLine+1:=by rw[Array.size_append];exact h2
  wp_walk using(wpAny_updateSeq hl rfl (hz:=h1) (_hz':=hz')),AutoSeq1.wpAny_loadPart' hl,AutoSeq1.wpAny_loadPart' hb
  exact(19,_,h)
theorem Ei:Uv X "list.extend" (λx vs H Q=>∃l b xs zs,x=(9,l)/\vs=[(9,b)]/\H l=(1,(13,xs))/\nV X.K H b zs/\xs.length+zs.length<=sizeLine/\Q .non (35,H,l,(xs++zs))):=
 λpins s σ H x vs v us Q I rx rv ⟨l,b,xs,zs,ex,ev,hH,hB,hz,q⟩=>by
 subst ex ev;cases rx;obtain⟨u,rfl,ru⟩:=rv.one;cases ru;obtain⟨z,its,n,r,hl,e⟩:=I.lstM hH;obtain⟨i2,r2,⟨⟨c2,d2,t2,s2⟩,o2,k2,n2,g2⟩,_⟩:=I.tuple hB;simp only at k2 g2;subst k2 g2;have hl2:=r2.length;have hsz:its.toArray.size+i2.toArray.size<=sizeLine:=by rw[size_toArray,size_toArray,←hl,←hl2];exact hz
 refine call_meets F.slot_list_extend (35,_,e) F.entry_list_extend (F.args_list_extend_2 _ _) (LR l its.toArray n b i2.toArray n2 d2 s2 (by rw[vo hsz,Bool.and_false];exact Bool.false_ne_true) (by rw[size_toArray,←hl];exact z) (Nat.le_succ_of_le hsz)) (11,e,o2,?_)
 exact(4,.non,_,I.lset (its':=its++i2) hH e [19] (r.append r2) (by rw[length_append];exact hz),rfl,q)
theorem LS(l:Addr)(items:[33])(n:Nat)(b:Addr)(items2:[33])(n2:Nat)(dd:(8,Addr))(sl:Array [30])(h0:¬(!items.isEmpty && Builtin.List.listTooLong (items.size+items2.size))=true)(h1:items.size<=sizeLine)(h2:items.size+items2.size<=sizeLine+1):
  Meets (Builtin.«list.extend» (3,[(9,l),(9,b)],[])) (λ_ R s=>(28,l)=some {cls:=.type "list",dict:=none,data:=.seq items n,slots:=#[]}/\(28,b)=(1,(10,(54,"list"),dd,.seq items2 n2,sl))/\R (.ok (.ret Value.none)) {s with heap:=s.heap.update l (Obj.mapSeq λx=>x++items2),toks:=s.toks}):=
 .of_wp λprog w A R s h=>by
  obtain⟨hp,g,d,tk,os⟩:=s;obtain⟨hl,hb,h⟩:=h;have f1:=AutoSeq1.idx_int;have f2:=AutoSeq1.sub_tuple_tuple;have f3:=AutoSeq1.sub_list_list;have f4:=AutoSeq1.sub_tuple_list;have f5:=AutoSeq1.sub_list_tuple;have hz':(items++items2).size<=sizeLine+1:=by rw[Array.size_append];exact h2
  wp_walk using(wpAny_updateSeq hl rfl (hz:=h1) (_hz':=hz')),AutoSeq1.wpAny_loadPart' hl,AutoSeq1.wpAny_loadPart' hb
  exact(19,_,h)
theorem Ej:Uv X "list.extend" (λx vs H Q=>∃l b xs zs,x=(9,l)/\vs=[(9,b)]/\H l=(1,(13,xs))/\kQ X.K H b zs/\xs.length+zs.length<=sizeLine/\Q .non (35,H,l,(xs++zs))):=
 λpins s σ H x vs v us Q I rx rv ⟨l,b,xs,zs,ex,ev,hH,hB,hz,q⟩=>by
 subst ex ev;cases rx;obtain⟨u,rfl,ru⟩:=rv.one;cases ru;obtain⟨z,its,n,r,hl,e⟩:=I.lstM hH;obtain⟨i2,r2,p2,_⟩:=I.list hB;obtain⟨⟨c2,d2,t2,s2⟩,o2,k2,n2,g2⟩:=p2.isList;simp only at k2 g2;subst k2 g2;have hl2:=r2.length;have hsz:its.toArray.size+i2.toArray.size<=sizeLine:=by rw[size_toArray,size_toArray,←hl,←hl2];exact hz
 refine call_meets F.slot_list_extend (35,_,e) F.entry_list_extend (F.args_list_extend_2 _ _) (LS l its.toArray n b i2.toArray n2 d2 s2 (by rw[vo hsz,Bool.and_false];exact Bool.false_ne_true) (by rw[size_toArray,←hl];exact z) (Nat.le_succ_of_le hsz)) (11,e,o2,?_)
 exact(4,.non,_,I.lset (its':=its++i2) hH e [19] (r.append r2) (by rw[length_append];exact hz),rfl,q)
theorem Fq:∀{xs:[38]}{us:[21]},xs.length=us.length->(∀(i:Nat) x u,xs[i]?=(1,x)->us[i]?=(1,u)->RelV x u)->Vals xs us
 |[],[],_,_=>.nil
 |x::xs,u::us,hl,h=>(22,h 0 x u rfl rfl,(Fq (by simpa using hl) λi x' u' e1 e2=>h (i+1) x' u' (by simpa using e1) (by simpa using e2)))
 |[],_::_,hl,_=>by simp at hl
 |_::_,[],hl,_=>by simp at hl
theorem Jx{lo:Int}{acc:[33]}{n:Nat}(h:ItemsOf (λi v=>∃t,v=.int (lo+i * 1) t) acc n):Vals ((19,n).map λk:Nat=>V.int (lo+k)) acc.toList:=by
 refine Fq (by rw[length_map,length_range,←h.1,length_toList]) λi x u e1 e2=>?_
 obtain⟨t,rfl⟩:=h.2 i u (by rw[←getElem?_toList];exact e2)
 rw[getElem?_map] at e1;cases q:(List.range n)[i]? with
 |none=>rw[q] at e1;cases e1
 |some k=>
  rw[q] at e1;cases e1;have hk:i<n:=by
   have:=(17,q).1;rwa[length_range] at this
  rw[getElem?_range hk] at q;cases q;exact(3,t,by rw[Int.mul_one])
theorem CU:dj X (54,"range") (λxs H Q=>∃lo hi,xs=[(16,lo),(16,hi)]/\∀p,H p=none->Q (9,p) (cF H p (.rng lo hi))):=λpins s σ H xs us Q I r ⟨lo,hi,ex,q⟩=>by
 subst ex;obtain⟨u,w,rfl,⟨t,rfl⟩,⟨t',rfl⟩⟩:=AK r;refine call_range_2 (4,(9,[15]),_,I.laid (t':=s.toks+1) (o:=.rng lo hi) (λb o e=>(21,e)) [25] (10,_,_,_,(26,_)),rfl,q _ I.fresh)
theorem Ap(hc:X.calm=true):dj X (54,"list") (λxs H Q=>∃p lo hi,xs=[(9,p)]/\H p=(1,.rng lo hi)/\(-(2 ^ 62)<=lo/\lo<2 ^ 62/\-(2 ^ 62)<=hi/\hi<2 ^ 62)/\(hi - lo).toNat<=sizeLine/\
  ∀l,H l=none->Q (9,l) (35,H,l,((19,(hi - lo).toNat).map λk:Nat=>V.int (lo+k)))):=λpins s σ H xs us Q I r ⟨p,lo,hi,ex,hp,⟨b1,b2,b3,b4⟩,hz,q⟩=>by
 subst ex;obtain⟨u,rfl,ru⟩:=kR r;cases ru;obtain⟨t,u,v,e⟩:=I.hok p _ hp;refine call_list_range (n:=(hi - lo).toNat) (I.ok.hd hc) (show IsRange s.heap p lo hi 1 t u v from e) (small_one b1 b2 b3 b4) (by rw[rangeSize_one];split <;> omega) hz λh' tk acc c kp e' it=>?_
 exact(4,(9,[15]),_,I.laid (t':=tk) (o:=.lst ((List.range (hi - lo).toNat).map λk:Nat=>V.int (lo+k))) kp [25] (4,by rw[length_map,length_range];exact hz,acc.toList,c,Jx it,by simpa using e'),rfl,q _ I.fresh)
theorem ED{x:V}{u:Value}{t:String}{T:String}{b:Bool}(I:[48])(rx:RelV x u)(ty:pP X.K H x (54,t)\/(t = "tuple" /\ ∃a xs,x=(9,a)/\nV X.K H a xs)\/(t = "list" /\ ∃a xs,x=(9,a)/\kQ X.K H a xs))(e:kitOne X.K (54,t) (54,T)=(1,b)){Q:Value->Shared->Prop}{E:Value->Shared->Prop}{A:Around}
  (h:∀tk,Q (.bool b) {s with toks:=tk}):(3,X.w,A,call (44,"isinstance") [u,(54,T)],Q,E,s):=by
 rcases ty with ty|⟨rfl,a,xs,rfl,hq⟩|⟨rfl,a,xs,rfl,hq⟩
 ·exact Iz I rx ty e h
 ·cases (show u=Value.ref a from rx);obtain⟨its,_,⟨o,h1,h2,_⟩,_⟩:=I.tuple hq;exact(3,PySem.W.kitx_tuple,I.kIn,(11,o,h1,h2),e,h)
 ·cases (show u=Value.ref a from rx);obtain⟨its,_,pl,_⟩:=I.list hq;obtain⟨o,h1,h2,_⟩:=pl.isList;exact(3,kitx_list,I.kIn,(11,o,h1,h2),e,h)
theorem sR:dj X (44,"isinstance") (λxs H Q=>∃x t T b,xs=[x,.ty T]/\(pP X.K H x (54,t)\/(t = "tuple" /\ ∃a xs,x=(9,a)/\nV X.K H a xs)\/(t = "list" /\ ∃a xs,x=(9,a)/\kQ X.K H a xs))/\kitOne X.K (54,t) (54,T)=(1,b)/\Q (.bl b) H):=λpins s σ H xs us Q I r ⟨x,t,T,b,ex,ty,e,q⟩=>by
 subst ex;obtain⟨u,w,rfl,ru,rw'⟩:=AK r;cases (show w=Value.type T from rw');exact ED I ru ty e λtk=>(4,.bl b,H,I.tok tk,rfl,q)
end
section
variable{prog:Program}{w:World}{A:Around}{E:Value->Shared->Prop}{s:Shared}
theorem vp{it t:Addr}{i:Nat}{items:[33]}{x:Value}{Q:Value->Shared->Prop}(hit:s.heap.IsTupleIter it t i)(ht:s.heap.IsTuple t items)(hx:items[i]?=(1,x))
  (hQ:∀h',h'.IsTupleIter it t (i+1)->Heap.SameBut it s.heap h'->Q x {s with heap:=h'}):(1,prog,w,A,(49,it),Q,E,s):=by
 obtain⟨o,ho,hc,hd⟩:=id hit;obtain⟨ot,hot,_,nt,hdt⟩:=ht;unfold Builtin.SmallTypes.nextOf;refine(5,(2,(15,"__next__"),hit.typeIs,F.slot_tuple_iterator_next,F.slot_tuple_iterator_next,hit.typeIs,F.entry_tuple_iterator_next,?_,F.args_tuple_iterator_next_1 _));show(6,_,(field (9,it) 0 >>= _),_,_,s);refine(5,(6,ho,hd,(9,t),?_));show(6,_,(if(Value.ref t == Value.none)=true then _ else _),_,_,s);rw[(29,(show ¬((Value.ref t == Value.none)=true) from Bool.false_ne_true))];show(6,_,(field (9,it) 1 >>= _),_,_,s);refine(5,(6,ho,hd,.int i 0,?_));show(6,_,(seqItems? (9,t) >>= _),_,_,s);refine(5,wpAny_seqItems hot hdt ?_);simp only[toNat_natCast,hx];refine(5,wpAny_setField ho hd [19] (10,(19,x,(10,hQ _ (10,_,get?_update_self _ ho (Obj.isFreed_of_fields (Obj.data_mapFields hd _)),(Obj.cls_mapFields ..).trans hc,?_) (Heap.SameBut.update ..)))))
 rw[Obj.data_mapFields hd];simp[rawInt]
theorem ye{it t:Addr}{i:Nat}{items:[33]}{Q:Value->Shared->Prop}(hh:A.handled=none)(hit:s.heap.IsTupleIter it t i)(ht:s.heap.IsTuple t items)(hx:items[i]?=none)
  (hE:∀h' e,Heap.ExtBut it s.heap h'->(∃o,(63,e)=[46]/\o.cls=(54,"StopIteration"))->E (9,e) {s with heap:=h'}):(1,prog,w,A,(49,it),Q,E,s):=by
 obtain⟨o,ho,hc,hd⟩:=id hit;obtain⟨ot,hot,_,nt,hdt⟩:=ht;unfold Builtin.SmallTypes.nextOf;refine(5,(2,(15,"__next__"),hit.typeIs,F.slot_tuple_iterator_next,F.slot_tuple_iterator_next,hit.typeIs,F.entry_tuple_iterator_next,?_,F.args_tuple_iterator_next_1 _));show(6,_,(field (9,it) 0 >>= _),_,_,s);refine(5,(6,ho,hd,(9,t),?_));show(6,_,(if(Value.ref t == Value.none)=true then _ else _),_,_,s);rw[(29,(show ¬((Value.ref t == Value.none)=true) from Bool.false_ne_true))];show(6,_,(field (9,it) 1 >>= _),_,_,s);refine(5,(6,ho,hd,.int i 0,?_));show(6,_,(seqItems? (9,t) >>= _),_,_,s);refine(5,wpAny_seqItems hot hdt ?_);simp only[toNat_natCast,hx];refine(5,wpAny_rule (5,wpAny_setField ho hd [19] ?_));show(6,_,(newExc (54,"StopIteration") [] >>= _),_,_,_)
 refine(5,?_);simp only[newExc,newTuple];refine(5,wpAny_newObj_type ?_ (by size_fits))
 refine(21,firstArgMember _ _,wpAny_of_eq (a:=Value.none) (by first|rfl|(simp only[firstArgMember];rfl)) ?_);refine wpAny_newObj_type ?_ (by size_fits);simp only[raiseNew]
 refine(5,wpAny_handled ?_);first|rw[show A.in1.handled=none from hh]|rw[hh]
 exact(5,(10,wpAny_throw (hE _ _ (((Heap.SameBut.update ..).extBut.push _).push _) (35,_,(26,_)))))
end
structure Nx(prog:Program)(w:World)(A:Around)(it l:Addr)(st:Nat->Heap->Prop)(val:Nat->Option Value):Prop where
 item:∀(s:Shared)(k:Nat)(x:Value)(Q:Value->Shared->Prop)(E:Value->Shared->Prop),st k s.heap->val k=(1,x)->(∀h',st (k+1) h'->Heap.SameBut it s.heap h'->Q x {s with heap:=h'})->(1,prog,w,A,(49,it),Q,E,s)
 stop:∀(s:Shared)(k:Nat)(Q:Value->Shared->Prop)(E:Value->Shared->Prop),st k s.heap->val k=none->
  (∀h' e,Heap.ExtBut it s.heap h'->(∃o,(63,e)=[46]/\o.cls=(54,"StopIteration"))->E (9,e) {s with heap:=h'})->(1,prog,w,A,(49,it),Q,E,s)
 ext:∀(k:Nat)(h h':Heap),st k h->(∀b,b=it\/b=l->∀o,h.get? b=([46])->(63,b)=[46])->st k h'
 there:∀(k:Nat)(h:Heap),st k h->(∃o,h.get? it=[46]/\∀v,o.data≠.cell v)/\∃o,h.get? l=[46]
theorem NS{prog:Program}{w:World}{A:Around}(hh:A.handled=none){it l:Addr}(ne:l≠it)(items:[33]):Nx prog w A it l (λk h=>h.IsListIter it l k/\h.IsList l items) (λk=>items[k]?) where
 item:=λs k x Q E st e h=>wpAny_nextOf_list_item st.1 st.2 e λh' a b=>h h' (3,a,st.2.extBut b.extBut ne) b
 stop:=λs k Q E st e h=>wpAny_nextOf_list_end hh st.1 st.2 e h
 ext:=λk h h' st kp=>(3,st.1.at λo e=>kp it [42] o e,st.2.at λo e=>kp l (.inr rfl) o e)
 there:=λk h st=>by
  obtain⟨⟨o,e,c,d⟩,⟨o2,e2,_⟩⟩:=st;exact(11,(11,o,e,λv z=>by rw[d] at z;cases z),o2,e2)
theorem Qv{prog:Program}{w:World}{A:Around}(hh:A.handled=none){it l:Addr}(ne:l≠it)(items:[33]):Nx prog w A it l (λk h=>h.IsTupleIter it l k/\h.IsTuple l items) (λk=>items[k]?) where
 item:=λs k x Q E st e h=>vp st.1 st.2 e λh' a b=>h h' (3,a,st.2.extBut b.extBut ne) b
 stop:=λs k Q E st e h=>ye hh st.1 st.2 e h
 ext:=λk h h' st kp=>(3,st.1.at λo e=>kp it [42] o e,st.2.at λo e=>kp l (.inr rfl) o e)
 there:=λk h st=>by
  obtain⟨⟨o,e,c,d⟩,⟨o2,e2,_⟩⟩:=st;exact(11,(11,o,e,λv z=>by rw[d] at z;cases z),o2,e2)
section
variable{prog:Program}{w:World}{A:Around}{E:Value->Shared->Prop}{s:Shared}{z TI TO i1 i2 l1 l2:Addr}{k:Nat}{st1 st2:Nat->Heap->Prop}{v1 v2:Nat->Option Value}{a b:Value}
theorem GM{x y:Value}{Q:Value->Shared->Prop}(N1:Nx prog w A i1 l1 st1 v1)(N2:Nx prog w A i2 l2 st2 v2)(D:ZipApart z TI TO i1 i2 l1 l2)(hz:IsZip s.heap z TI TO .none)(hTI:IsPair s.heap TI (9,i1) (9,i2))(hTO:IsPair s.heap TO a b)
  (h1:st1 k s.heap) (h2:st2 k s.heap) (hx:v1 k=(1,x)) (hy:v2 k=(1,y))
  (hQ:∀h',IsZip h' z TI TO (rawInt [15])->IsPair h' TO x y->st1 (k+1) h'->st2 (k+1) h'->IsPair h' [15] x y->h'.objs.size=s.heap.objs.size+1->
   (∀c o,c≠z->c≠TO->c≠i1->c≠i2->(28,c)=([46])->(63,c)=[46])->Q (9,[15]) {s with heap:=h'}):
  (1,prog,w,A,Builtin.«zip.__next__» (3,[(9,z)],[]),(λfin s'=>∃v,fin=.done (.ret v)/\Q v s'),E,s):=by
 show(6,_,(field (9,z) 2 >>= _),_,_,_);refine(5,(6,hz,rfl,.bool false,?_));show(6,_,(field (9,z) 3 >>= _),_,_,_);refine(5,(6,hz,rfl,(9,TI),?_));refine(5,wpAny_seqItems hTI rfl ?_);show(6,_,(Builtin.SmallTypes.ownedTupleIsFree (9,z) >>= _),_,_,_);refine(5,?_);unfold Builtin.SmallTypes.ownedTupleIsFree;refine(5,(6,hz,rfl,.none,(10,?_)));simp only[if_true];refine(5,wpAny_rule ?_);refine(5,(6,hz,rfl,(9,TO),?_));refine(5,(wpAny_setField_rec hz [19] λg1 z1 e1=>?_));replace z1:IsZip g1 z TI TO .ellipsis:=z1
 refine(5,?_);simp only[List.zipIdx_cons,List.zipIdx_nil,forIn_cons,forIn_nil];have j1:st1 k g1:=N1.ext k _ _ h1 λc hc o q=>by rcases hc with rfl|rfl;exact e1.extBut _ _ D.i1z q;exact e1.extBut _ _ D.l1z q
 refine(5,(5,wpAny_onRaise ?_));show(6,_,((49,i1) >>= _),_,_,_);refine(5,(N1.item _ k x _ _ j1 hx λg2 j1' e2=>(10,?_)));have t2:IsPair g2 TO a b:=e2.extBut _ _ D.TOi1 (e1.extBut _ _ D.TOz hTO);refine(5,wpAny_seqItems t2 rfl ?_);refine(5,(wpAny_updateSeq_pair t2 λg3 t3 e3=>?_));replace t3:IsPair g3 TO x b:=t3;refine(5,wpAny_letGo (10,?_));have j2:st2 k g3:=N2.ext k _ _ h2 λc hc o q=>by
  rcases hc with rfl|rfl
  ·exact e3.extBut _ _ D.TOi2.symm (e2.extBut _ _ D.i12.symm (e1.extBut _ _ D.i2z q))
  ·exact e3.extBut _ _ D.l2TO (e2.extBut _ _ D.l2i1 (e1.extBut _ _ D.l2z q))
 refine(5,(5,wpAny_onRaise ?_));show(6,_,((49,i2) >>= _),_,_,_);refine(5,(N2.item _ k y _ _ j2 hy λg4 j2' e4=>(10,?_)));have t4:IsPair g4 TO x b:=e4.extBut _ _ D.TOi2 t3;refine(5,wpAny_seqItems t4 rfl ?_);refine(5,(wpAny_updateSeq_pair t4 λg5 t5 e5=>?_));replace t5:IsPair g5 TO x y:=t5;refine(5,wpAny_letGo (10,(10,?_)));refine(5,wpAny_seqItems t5 rfl ?_);refine(5,wpAny_newTuple ?_);have sz:g5.objs.size=s.heap.objs.size:=by rw[e5.1,e4.1,e3.1,e2.1,e1.1]
 have z5:IsZip g5 z TI TO .ellipsis:=e5.extBut _ _ D.TOz.symm (e4.extBut _ _ D.i2z.symm (e3.extBut _ _ D.TOz.symm (e2.extBut _ _ D.i1z.symm z1)));have k5:∀c o,c≠z->c≠TO->c≠i1->c≠i2->(28,c)=([46])->g5.get? c=[46]:=λc o c1 c2 c3 c4 q=>e5.extBut _ _ c2 (e4.extBut _ _ c4 (e3.extBut _ _ c2 (e2.extBut _ _ c3 (e1.extBut _ _ c1 q))));have j15:st1 (k+1) g5:=N1.ext _ _ _ j1' λc hc o q=>by
  rcases hc with rfl|rfl
  ·exact e5.extBut _ _ D.TOi1.symm (e4.extBut _ _ D.i12 (e3.extBut _ _ D.TOi1.symm q))
  ·exact e5.extBut _ _ D.l1TO (e4.extBut _ _ D.l1i2 (e3.extBut _ _ D.l1TO q))
 have j25:st2 (k+1) g5:=N2.ext _ _ _ j2' λc hc o q=>by
  rcases hc with rfl|rfl
  ·exact e5.extBut _ _ D.TOi2.symm q
  ·exact e5.extBut _ _ D.l2TO q
 have zlt:z<g5.objs.size:=(48,z5);show(6,_,(Builtin.SmallTypes.ownedTupleHandOut (9,z) (9,g5.objs.size) >>= _),_,_,_);refine(5,?_);unfold Builtin.SmallTypes.ownedTupleHandOut;have z6:IsZip (g5.push {cls:=.type "tuple",data:=.seq #[x,y]}) z TI TO .ellipsis:=(21,z5);refine(5,(wpAny_setField_rec z6 [19] λg7 z7 e7=>?_));replace z7:IsZip g7 z TI TO (rawInt g5.objs.size):=z7
 refine wpAny_setField_rec z7 [19] λg8 z8 e8=>?_;replace z8:IsZip g8 z TI TO (rawInt g5.objs.size):=z8
 have up:∀c o,c≠z->g5.get? c=([46])->g8.get? c=[46]:=λc o c1 q=>e8.extBut _ _ c1 (e7.extBut _ _ c1 (21,q));have t8:IsPair g8 g5.objs.size x y:=e8.extBut _ _ (ne_of_gt zlt) (e7.extBut _ _ (ne_of_gt zlt) (26,_));have s8:g8.objs.size=g5.objs.size+1:=by rw[e8.1,e7.1,size_push]
 rw[sz] at z8 t8 s8;refine(10,(19,_,?_));show Q (9,g5.objs.size) _;rw[sz];refine hQ g8 z8 (up _ _ D.TOz t5) (N1.ext _ _ _ j15 λc hc o q=>?_) (N2.ext _ _ _ j25 λc hc o q=>?_) t8 s8 λc o c1 c2 c3 c4 q=>up c o c1 (k5 c o c1 c2 c3 c4 q)
 ·rcases hc with rfl|rfl;exact up _ o D.i1z q;exact up _ o D.l1z q
 ·rcases hc with rfl|rfl;exact up _ o D.i2z q;exact up _ o D.l2z q
theorem Jn{Q:Fin->Shared->Prop}(N1:Nx prog w A i1 l1 st1 v1)(N2:Nx prog w A i2 l2 st2 v2)(D:ZipApart z TI TO i1 i2 l1 l2)(hz:IsZip s.heap z TI TO .none)(hTI:IsPair s.heap TI (9,i1) (9,i2))(hTO:IsPair s.heap TO a b)
  (h1:st1 k s.heap) (h2:st2 k s.heap) (hend:v1 k=none\/v2 k=none)
  (hE:∀h' e,(∀c o,c≠z->c≠TO->c≠i1->c≠i2->(28,c)=([46])->(63,c)=[46])->(∃o,(63,e)=[46]/\o.cls=(54,"StopIteration"))->E (9,e) {s with heap:=h'}):
  (1,prog,w,A,Builtin.«zip.__next__» (3,[(9,z)],[]),Q,E,s):=by
 show(6,_,(field (9,z) 2 >>= _),_,_,_);refine(5,(6,hz,rfl,.bool false,?_));show(6,_,(field (9,z) 3 >>= _),_,_,_);refine(5,(6,hz,rfl,(9,TI),?_));refine(5,wpAny_seqItems hTI rfl ?_);show(6,_,(Builtin.SmallTypes.ownedTupleIsFree (9,z) >>= _),_,_,_);refine(5,?_);unfold Builtin.SmallTypes.ownedTupleIsFree;refine(5,(6,hz,rfl,.none,(10,?_)));simp only[if_true];refine(5,wpAny_rule ?_);refine(5,(6,hz,rfl,(9,TO),?_));refine(5,(wpAny_setField_rec hz [19] λg1 z1 e1=>?_));replace z1:IsZip g1 z TI TO .ellipsis:=z1
 refine(5,?_);simp only[List.zipIdx_cons,List.zipIdx_nil,forIn_cons,forIn_nil];have j1:st1 k g1:=N1.ext k _ _ h1 λc hc o q=>by rcases hc with rfl|rfl;exact e1.extBut _ _ D.i1z q;exact e1.extBut _ _ D.l1z q
 refine(5,(5,wpAny_onRaise ?_));show(6,_,((49,i1) >>= _),_,_,_);cases hx:v1 k with
 |none=>
  refine(5,(N1.stop _ k _ _ j1 hx λg2 e e2 he=>?_));obtain⟨oe,hoe,hce⟩:=he;have z2:IsZip g2 z TI TO .ellipsis:=e2 _ _ D.i1z.symm z1;have hez:e≠z:=λx=>by subst x;rw[z2] at hoe;cases hoe;simp at hce
  exact wpAny_setField_rec z2 [19] λg3 _ e3=>hE g3 e (λc o c1 _ c3 _ x=>e3.extBut _ _ c1 (e2 _ _ c3 (e1.extBut _ _ c1 x))) (11,oe,e3.extBut _ _ hez hoe,hce)
 |some x=>
  have hy:v2 k=none:=by rcases hend with h|h;rw[hx] at h;cases h;exact h
  refine(5,(N1.item _ k x _ _ j1 hx λg2 j1' e2=>(10,?_)));have t2:IsPair g2 TO a b:=e2.extBut _ _ D.TOi1 (e1.extBut _ _ D.TOz hTO);refine(5,wpAny_seqItems t2 rfl ?_);refine(5,(wpAny_updateSeq_pair t2 λg3 t3 e3=>?_));refine(5,wpAny_letGo (10,?_));have j2:st2 k g3:=N2.ext k _ _ h2 λc hc o q=>by
   rcases hc with rfl|rfl
   ·exact e3.extBut _ _ D.TOi2.symm (e2.extBut _ _ D.i12.symm (e1.extBut _ _ D.i2z q))
   ·exact e3.extBut _ _ D.l2TO (e2.extBut _ _ D.l2i1 (e1.extBut _ _ D.l2z q))
  refine(5,(5,wpAny_onRaise ?_));show(6,_,((49,i2) >>= _),_,_,_);refine(5,(N2.stop _ k _ _ j2 hy λg4 e e4 he=>?_));obtain⟨oe,hoe,hce⟩:=he;have z4:IsZip g4 z TI TO .ellipsis:=e4 _ _ D.i2z.symm (e3.extBut _ _ D.TOz.symm (e2.extBut _ _ D.i1z.symm z1));have hez:e≠z:=λx=>by subst x;rw[z4] at hoe;cases hoe;simp at hce
  exact wpAny_setField_rec z4 [19] λg5 _ e5=>hE g5 e (λc o c1 c2 c3 c4 x=>e5.extBut _ _ c1 (e4 _ _ c4 (e3.extBut _ _ c2 (e2.extBut _ _ c3 (e1.extBut _ _ c1 x))))) (11,oe,e5.extBut _ _ hez hoe,hce)
end
section
variable{X:Cx}{pins:List (Addr×Obj)}{σ:St}{H:Hp}{s:Shared}{h':Heap}
theorem aN.turnedN{t':Nat}{ch:[40]}(I:[48])(k:∀b o,b∉ch->(28,b)=([46])->(63,b)=[46])(hf:∀b∈ch,FpOk X pins H b):aN X pins σ H {s with heap:=h',toks:=t'}:=by
 have nch:∀b u,H b=(1,u)->b∉ch:=λb u e z=>by rw[(hf b z).1] at e;cases e
 refine I.step (g':=s.gens) (d':=s.drawn) (ch:=ch) (λb hb=>(10,(hf b hb).2.2.2.1,(hf b hb).2.1,(hf b hb).2.2.2.2.1,(hf b hb).2.2.2.2.2)) (λb o _ _ hc e _=>k b o hc e) (λb o _ _ hc e _=>(3,o.slots,k b o hc e)) (λ_ _ _ _ n=>n)
  (λb o hc e=>(3,o,k b o hc e)) (λ_ _ e=>e) (λ_ _ _ e=>e) (λb ps e=>(3,#[],by rw[e];simp)) (λm hm=>?_) (λb u e=>?_) I.bare
 ·obtain⟨o,es,ep,ho,r⟩:=hm;exact(4,o,es,ep,k _ o (λz=>(hf _ z).2.1 rfl) ho,r)
 ·refine(I.hok b u e).stay (λc v hc q=>k c v ?_ q) (λ_ q=>q) (λ_ _ q=>q) λ_ _ _ q=>q;rcases hc with z|z
  ·rw[z];exact nch b u e
  ·exact nch c _ z
theorem aN.track{a:Addr}{o:HO}(I:[48])(hf:FpOk X pins H a)(new:cV X.prog X.w (cF H a o) s.heap a o):(17,cF H a o,s):=by
 have ne:∀b u,H b=(1,u)->b≠a:=λb u e z=>by rw[z,hf.1] at e;cases e
 have z:=I.step (g':=s.gens) (d':=s.drawn) (t':=s.toks) (h':=s.heap) (H':=cF H a o) (ch:=[a]) (λb hb=>by rw[(39,hb)];exact(10,hf.2.2.2.1,hf.2.1,hf.2.2.2.2.1,hf.2.2.2.2.2)) (λb o _ _ _ e _=>e) (λb o _ _ _ e _=>(3,o.slots,e))
  (λb u hc _ n=>by rw[az (λz=>hc (by simp[z]))];exact n) (λb o _ e=>(3,o,e)) (λb xs e=>by rw[az (ne b _ e)];exact e) (λb u v e=>by rw[az (ne b _ e)];exact e) (λb ps e=>(3,#[],by rw[az (ne b _ e),e];simp)) (λm hm=>hm) (λb u e=>?_) I.bare
 ·exact z
 ·by_cases hb:b=a
  ·subst hb;rw[aG] at e;cases e;exact new
  ·rw[az hb] at e;exact(I.hok b u e).stay (λ_ _ _ q=>q) (λc q=>by rw[az (ne c _ q)];exact q) (λc xs q=>by rw[az (ne c _ q)];exact q) λc ob u q=>by rw[az (ne c _ q)];exact q
end
def ra(K:Frag)(H:Hp):Bool->Addr->([38])->Prop
 |true,a,xs=>kQ K H a xs
 |false,a,xs=>nV K H a xs
def Co(h:Heap):Bool->Addr->Addr->Nat->Prop
 |true,it,l,k=>h.IsListIter it l k
 |false,it,l,k=>h.IsTupleIter it l k
def Ru(h:Heap):Bool->Addr->([33])->Prop
 |true,l,its=>h.IsList l its
 |false,l,its=>h.IsTuple l its
theorem KL{prog:Program}{w:World}{A:Around}(hh:A.handled=none){it l:Addr}(ne:l≠it)(items:[33])(b:Bool):Nx prog w A it l (λk h=>Co h b it l k/\Ru h b l items) (λk=>items[k]?):=by
 cases b with
 |true=>exact NS hh ne items
 |false=>exact Qv hh ne items
theorem aN.seqX{X:Cx}{pins:[18]}{σ:St}{H:Hp}{s:Shared}{b:Bool}{a:Addr}{xs:[38]}(I:[48])(h:ra X.K H b a xs):∃its:List Value,Vals xs its/\Ru s.heap b a its.toArray/\a<s.heap.objs.size:=by
 cases b with
 |true=>
  obtain⟨its,r,p,_⟩:=I.list h;refine(10,its,r,p.isList,?_);obtain⟨_,e,_⟩:=p.isList;exact(48,e)
 |false=>
  obtain⟨its,r,p,_⟩:=I.tuple h;refine(10,its,r,p,?_);obtain⟨_,e,_⟩:=p;exact(48,e)
theorem aN.seqX_inj{X:Cx}{pins:[18]}{σ:St}{H:Hp}{s:Shared}{b:Bool}{a:Addr}{xs ys:[38]}(I:[48])(h:ra X.K H b a xs)(h':ra X.K H b a ys):xs=ys:=by
 cases b with
 |true=>exact I.list_inj h h'
 |false=>exact I.tuple_inj h h'
def Uw(K:Frag)(b1:Bool)(l1:Addr)(b2:Bool)(l2:Addr):It:=
 ⟨λi H=>∃xs ys x y,ra K H b1 l1 xs/\ra K H b2 l2 ys/\xs[i]?=(1,x)/\ys[i]?=(1,y),
  λi H x H'=>∃p u v,x=(9,p)/\H p=none/\H'=cF H p (22,[u,v])/\(∀xs,ra K H b1 l1 xs->xs[i]?=(1,u))/\∀ys,ra K H b2 l2 ys->ys[i]?=(1,v),
  λi H=>∃xs ys,ra K H b1 l1 xs/\ra K H b2 l2 ys/\(xs.length<=i\/ys.length<=i)⟩
theorem Jz{P:Program}{w:World}{K:Frag}{elts:List Expr}{kt:Nat}{tp:Pos}(b1 b2:Bool)(z TI TO i1 i2 l1 l2:Addr)(D:ZipApart z TI TO i1 i2 l1 l2):
  Fh P w K (.Tuple elts kt tp) (Uw K b1 l1 b2 l2) [z,TI,TO,i1,i2] z (λi h=>IsZip h z TI TO .none/\IsPair h TI (9,i1) (9,i2)/\(∃a b,IsPair h TO a b)/\Co h b1 i1 l1 i/\Co h b2 i2 l2 i) where
 mem:=by simp
 obj:=λi h ⟨hz,hTI,⟨a,b,hTO⟩,j1,j2⟩ c hc=>by
  have rec1:∀(b:Bool)(it l:Addr),Co h b it l i->∃o,h.get? it=[46]/\∀v,o.data≠.cell v:=λb it l j=>by
   cases b with
   |_=>obtain⟨o,e,_,d⟩:=j;exact(11,o,e,λv z=>by rw[d] at z;cases z)
  rcases mem_cons.mp hc with rfl|hc
  ·exact(11,_,hz,λv z=>nomatch z)
  rcases mem_cons.mp hc with rfl|hc
  ·exact(11,_,hTI,λv z=>nomatch z)
  rcases mem_cons.mp hc with rfl|hc
  ·exact(11,_,hTO,λv z=>nomatch z)
  rcases mem_cons.mp hc with rfl|hc
  ·exact rec1 b1 _ _ j1
  ·rw[(39,hc)];exact rec1 b2 _ _ j2
 keep:=λi h h' ⟨hz,hTI,⟨a,b,hTO⟩,j1,j2⟩ k=>by
  have rec1:∀(b:Bool)(it l:Addr),it∈[z,TI,TO,i1,i2]->Co h b it l i->Co h' b it l i:=λb it l m j=>by
   cases b with
   |true=>exact Heap.IsListIter.at j λo e=>k it m o e
   |false=>exact Heap.IsTupleIter.at j λo e=>k it m o e
  exact(4,k z [19] _ hz,k TI [19] _ hTI,(11,a,b,k TO [19] _ hTO),rec1 b1 _ _ [19] j1,rec1 b2 _ _ [19] j2)
 item:=by
  intro X hP hw hK hc i pins s σ H E I hf ⟨hz,hTI,⟨a,b,hTO⟩,j1,j2⟩ ⟨xs,ys,x,y,q1,q2,hx,hy⟩;subst hP hw hK;obtain⟨t1,r1,p1,_⟩:=I.seqX q1;obtain⟨t2,r2,p2,_⟩:=I.seqX q2;obtain⟨u1,e1,ru1⟩:=r1.get hx;obtain⟨u2,e2,ru2⟩:=r2.get hy;have hT:s.TypeIs (9,z) "zip" := (35,_,hz);have N1:=KL (prog:=X.prog) (w:=X.w) (A:=X.A.in1) (I.ok.hd hc) D.l1i1 t1.toArray b1;have N2:=KL (prog:=X.prog) (w:=X.w) (A:=X.A.in1) (I.ok.hd hc) D.l2i2 t2.toArray b2;unfold pyNext;refine wpAny_bind (wpAny_attempt (wpAny_callSpecial?_slot (name:=(15,"__next__")) hT F.slot_zip_next (wpAny_call_entry F.slot_zip_next hT F.entry_zip_next
   (GM N1 N2 D hz hTI hTO (3,j1,p1) (3,j2,p2) (by simpa using e1) (by simpa using e2) λg zg tg s1 s2 pg sz kg=>(10,(19,_,?_))) (F.args_zip_next_1 _))))
  refine wpAny_letOwnedTupleGo_zip zg λg2 zg2 sb=>?_;have keepg:∀c o,c∉[z,TO,i1,i2]->(28,c)=([46])->g2.get? c=[46]:=λc o hc e=>by
   have c1:c≠z/\c≠TO/\c≠i1/\c≠i2:=by simpa using hc
   exact sb.extBut _ _ c1.1 (kg c o c1.1 c1.2.1 c1.2.2.1 c1.2.2.2 e)
  have I1:aN X pins σ H {s with heap:=g2}:=I.turnedN (t':=s.toks) keepg λc hc=>hf c (by
   have:c=z\/c=TO\/c=i1\/c=i2:=by simpa using hc
   rcases this with rfl|rfl|rfl|rfl <;> simp)
  have zlt:z<s.heap.objs.size:=(48,hz);have pT:IsPair g2 [15] u1 u2:=sb.extBut _ _ (ne_of_gt zlt) pg;have fT:FpOk X pins H [15]:=I.fpOk [25] I.fresh;have I2:aN X pins σ (cF H [15] (22,[x,y])) {s with heap:=g2}:=I1.track fT (10,by show 2<=sizeLine;decide,[u1,u2],(22,ru1,(22,ru2,.nil)),(4,_,pT,rfl,_,rfl))
  have mv:∀(b:Bool)(it l:Addr),it≠z->Co g b it l (i+1)->Co g2 b it l (i+1):=λb it l ne j=>by
   cases b with
   |true=>exact Heap.IsListIter.at j λo e=>sb.extBut _ _ ne e
   |false=>exact Heap.IsTupleIter.at j λo e=>sb.extBut _ _ ne e
  refine⟨(9,[15]),_,I2,rfl,⟨_,x,y,rfl,I.fresh,rfl,λxs' q=>by rw[I.seqX_inj q q1];exact hx,λys' q=>by rw[I.seqX_inj q q2];exact hy⟩,
   (4,zg2,sb.extBut _ _ D.TIz (kg _ _ D.TIz D.TITO D.TIi1 D.TIi2 hTI),(11,_,_,sb.extBut _ _ D.TOz tg),mv b1 _ _ D.i1z s1.1,mv b2 _ _ D.i2z s2.1),λc hc=>?_⟩
  rw[az]
  ·exact(hf c hc).1
  ·intro e;have hlt:∀c∈[z,TI,TO,i1,i2],c<s.heap.objs.size:=λc hc=>by
    have r1:∀(b:Bool)(it l:Addr),Co s.heap b it l i->it<s.heap.objs.size:=λb it l j=>by
     cases b with
     |_=>obtain⟨o,e,_⟩:=j;exact(48,e)
    have:c=z\/c=TI\/c=TO\/c=i1\/c=i2:=by simpa using hc
    rcases this with rfl|rfl|rfl|rfl|rfl
    ·exact zlt
    ·exact(48,hTI)
    ·exact(48,hTO)
    ·exact r1 b1 _ _ j1
    ·exact r1 b2 _ _ j2
   have:=hlt c hc;rw[e] at this;exact lt_irrefl _ this
 done:=by
  intro X hP hw hK hc i pins s σ H E I hf ⟨hz,hTI,⟨a,b,hTO⟩,j1,j2⟩ ⟨xs,ys,q1,q2,hl⟩;subst hP hw hK;obtain⟨t1,r1,p1,_⟩:=I.seqX q1;obtain⟨t2,r2,p2,_⟩:=I.seqX q2;have hT:s.TypeIs (9,z) "zip" := (35,_,hz);have N1:=KL (prog:=X.prog) (w:=X.w) (A:=X.A.in1) (I.ok.hd hc) D.l1i1 t1.toArray b1;have N2:=KL (prog:=X.prog) (w:=X.w) (A:=X.A.in1) (I.ok.hd hc) D.l2i2 t2.toArray b2;have le1:=r1.length;have le2:=r2.length;have hend:(t1.toArray)[i]?=none\/(t2.toArray)[i]?=none:=by
   rcases hl with h|h
   ·exact .inl (by simp;omega)
   ·exact .inr (by simp;omega)
  unfold pyNext;refine(5,wpAny_attempt (2,(15,"__next__"),hT,F.slot_zip_next,F.slot_zip_next,hT,F.entry_zip_next,(Jn N1 N2 D hz hTI hTO (3,j1,p1) (3,j2,p2) hend λg e kg ⟨o,ho,hc⟩=>?_),F.args_zip_next_1 _));refine(5,(wpAny_isInstance (T := "StopIteration") (b:=true) (11,o,ho,hc) isSubtype_stop (10,(62,I.turnedN (ch:=[z,TO,i1,i2]) (t':=s.toks) (λc o hc e=>?_) λc hc=>hf c ?_))))
  ·have c1:c≠z/\c≠TO/\c≠i1/\c≠i2:=by simpa using hc
   exact kg c o c1.1 c1.2.1 c1.2.2.1 c1.2.2.2 e
  ·have:c=z\/c=TO\/c=i1\/c=i2:=by simpa using hc
   rcases this with rfl|rfl|rfl|rfl <;> simp
 self:=λA i s Q E st h=>wpAny_pyIter_zip st.1 h
abbrev Tg(h:Heap)(l1:Addr):Heap:=h.push {cls:=.type "tuple_iterator",data:=.fields #[.ref l1,.int 0 0]}
abbrev Tf(h:Heap)(l1 l2:Addr):Heap:=(Tg h l1).push {cls:=.type "tuple_iterator",data:=.fields #[.ref l2,.int 0 0]}
abbrev Te(h:Heap)(l1 l2:Addr):Heap:=(Tf h l1 l2).push {cls:=.type "tuple",data:=.seq #[.ref h.objs.size,.ref (Tg h l1).objs.size]}
abbrev Tc(h:Heap)(l1 l2:Addr):Heap:=(Te h l1 l2).push {cls:=.type "tuple",data:=.seq #[.none,.none]}
abbrev Rq(h:Heap)(l1 l2:Addr):Heap:=(Tc h l1 l2).push {cls:=.type "zip",data:=.fields #[.none,.bool false,.bool false,.ref (Tf h l1 l2).objs.size,.ref (Te h l1 l2).objs.size]}
theorem Di{h:Heap}{a:Addr}{its:[33]}(x:h.IsTuple a its)(o:Obj):(h.push o).IsTuple a its:=Heap.IsTuple.at x λ_ e=>(21,e)
theorem xq(l1 l2:Addr)(xs ys:[33]):
  Meets (Builtin.«zip.__new__» (3,[(54,"zip"),(9,l1),(9,l2)],[])) (λ_ R s=>s.heap.IsTuple l1 xs/\s.heap.IsTuple l2 ys/\R (.ok (.ret (9,(Tc s.heap l1 l2).objs.size))) {s with heap:=Rq s.heap l1 l2}):=
 .of_wp λprog w A R s h=>by
  obtain⟨hp,g,d,tk,os⟩:=s;obtain⟨hl1,hl2,h⟩:=h;have hsub:=sub_zip;have q1:Heap.IsTuple (Shared.heap (4,hp,g,d,tk,os)) l1 xs:=hl1;have q2:Heap.IsTuple (Shared.heap (4,hp.push {cls:=.type "tuple_iterator",data:=.fields #[.ref l1,.int 0 0]},g,d,tk,os)) l2 ys:=Di hl2 _
  wp_walk using wpAny_pyIter_tuple q1,wpAny_pyIter_tuple q2
  exact(19,_,h)
section
variable{prog:Program}{w:World}{A:Around}{E:Value->Shared->Prop}{s:Shared}
theorem IP{b:Bool}{l1 l2:Addr}{xs ys:[33]}{Q:Value->Shared->Prop}(h1:Ru s.heap b l1 xs)(h2:Ru s.heap b l2 ys)
  (h:∀h',IsZip h' (s.heap.objs.size+4) (s.heap.objs.size+2) (s.heap.objs.size+3) .none->IsPair h' (s.heap.objs.size+2) (9,[15]) (9,(s.heap.objs.size+1))->IsPair h' (s.heap.objs.size+3) .none .none->
   Co h' b [15] l1 0->Co h' b (s.heap.objs.size+1) l2 0->(∀c o,(28,c)=([46])->(63,c)=[46])->Q (9,(s.heap.objs.size+4)) {s with heap:=h'}):
  (1,prog,w,A,call (54,"zip") [(9,l1),(9,l2)],Q,E,s):=by
 cases b with
 |true=>exact call_zip_2 h1 h2 λh' a1 a2 a3 a4 a5 _ a7=>h h' a1 a2 a3 a4 a5 a7
 |false=>
  refine callType_new F.called_zip [13] (F.typeCall_zip_2 _ _) (F.newCall_zip_2 _ _) (λobj=>F.args_object_init_3 obj _ _) F.entry_zip_new (xq l1 l2 xs ys) (11,h1,h2,?_)
  have n1:(Tg s.heap l1).objs.size=s.heap.objs.size+1:=size_push ..;have n2:(Tf s.heap l1 l2).objs.size=s.heap.objs.size+2:=by rw[size_push,n1]
  have n3:(Te s.heap l1 l2).objs.size=s.heap.objs.size+3:=by rw[size_push,n2]
  have n4:(Tc s.heap l1 l2).objs.size=s.heap.objs.size+4:=by rw[size_push,n3]
  have p (o:Obj) {h:Heap} {c:Addr} {u:Obj} (e:h.get? c=(1,u)):(h.push o).get? c=(1,u):=(21,e);have g5:(Rq s.heap l1 l2).get? (Tc s.heap l1 l2).objs.size=(1,_):=(26,_);have g4:(Rq s.heap l1 l2).get? (Te s.heap l1 l2).objs.size=(1,_):=p _ (26,_);have g3:(Rq s.heap l1 l2).get? (Tf s.heap l1 l2).objs.size=(1,_):=p _ (p _ (26,_));have g2:(Rq s.heap l1 l2).get? (Tg s.heap l1).objs.size=(1,_):=p _ (p _ (p _ (26,_)));have g1:(Rq s.heap l1 l2).get? s.heap.objs.size=(1,_):=p _ (p _ (p _ (p _ (26,_))));show _/\_;rw[n2,n3,n4] at g5;rw[n1,n2] at g3;rw[n3] at g4;rw[n1] at g2;rw[n4];exact(3,(35,_,g5),h _ g5 g3 g4 (10,_,g1,rfl,rfl) (10,_,g2,rfl,rfl) λc o x=>p _ (p _ (p _ (p _ (p _ x)))))
end
section
variable{X:Cx}
def SI(K:Frag)(ta:TA):TI:=λσ H R=>ta σ H λvs H1=>∃b l1 l2,vs=[(9,l1),(9,l2)]/\(∃xs,ra K H1 b l1 xs)/\(∃ys,ra K H1 b l2 ys)/\R (Uw K b l1 b l2) H1
theorem PZ{a b:Expr}{ta:TA}{p pos:Pos}{elts:List Expr}{kt:Nat}{tp:Pos}(hg:Gl X "zip")(hm:X.mg "zip" = none)(ha:PA X [a,b] ta)(hs:(4,[a,b])=[(false,(14,a)),(false,(14,b))]:=by rfl)(hs2:(4,[b])=[(false,(14,b))]:=by rfl):
  PI X (.Tuple elts kt tp) (5,.Name "zip" p,[a,b],pos) (SI X.K ta):=by
 intro pins s σ H R I h;refine Call_ (mf I hg hm boot_zip (34,(cZ (ha pos pins s σ H _ I h) λus s1 ⟨vs,H1,I1,r1,b,l1,l2,e,⟨xs,q1⟩,⟨ys,q2⟩,q⟩=>?_),by rw[hs,hs2],(by rw[hs2];rfl)))
 subst e;obtain⟨u,w,rfl,r1,r2⟩:=AK r1;cases r1;cases r2;obtain⟨t1,_,p1,lt1⟩:=I1.seqX q1;obtain⟨t2,_,p2,lt2⟩:=I1.seqX q2;refine IP p1 p2 λh' z1 z2 z3 j1 j2 kp=>wpAny_pyIter_zip z1 ?_;have D:ZipApart (s1.heap.objs.size+4) (s1.heap.objs.size+2) (s1.heap.objs.size+3) s1.heap.objs.size (s1.heap.objs.size+1) l1 l2:=zipApart_new lt1 lt2;refine⟨_,_,_,_,H1,rfl,I1.kept (t':=s1.toks) kp,Jz b b _ _ _ _ _ l1 l2 D,(4,z1,z2,(11,_,_,z3),j1,j2),λc hc=>?_,q⟩;have hle:s1.heap.objs.size<=c:=by
  have:c=s1.heap.objs.size+4\/c=s1.heap.objs.size+2\/c=s1.heap.objs.size+3\/c=s1.heap.objs.size\/c=s1.heap.objs.size+1:=by simpa using hc
  rcases this with rfl|rfl|rfl|rfl|rfl
  ·exact le_add_right _ _
  ·exact le_add_right _ _
  ·exact le_add_right _ _
  ·exact[25]
  ·exact le_add_right _ _
 exact I1.fpOk hle (I1.hok.fresh hle)
end
theorem IH{prog:Program}{w:World}{A:Around}(hh:A.handled=none){it l:Addr}(ne:l≠it)(items:[33]):Draws prog w A it [it,l] items.size (λi v=>items[i]?=(1,v)) (λi h=>h.IsTupleIter it l i/\h.IsTuple l items) where
 live:=λ_ _ st=>by obtain⟨⟨o,e,_⟩,_⟩:=st;exact(3,o,e)
 frame:=λ_ _ _ st k=>(3,Heap.IsTupleIter.at st.1 λo e=>k it [19] o e,Heap.IsTuple.at st.2 λo e=>k l [19] o e)
 item:=λi s Q E hi st hQ=>vp st.1 st.2 (42,hi) λg a b=>hQ _ g s.toks (42,hi) (3,a,st.2.extBut b.extBut ne) b
 done:=λs Q E st hE=>ye hh st.1 st.2 [19] hE
theorem Ot{prog:Program}{w:World}{A:Around}(hh:A.handled=none){it l:Addr}(ne:l≠it)(items:[33])(b:Bool):Draws prog w A it [it,l] items.size (λi v=>items[i]?=(1,v)) (λi h=>Co h b it l i/\Ru h b l items):=by
 cases b with
 |true=>exact Draws.list hh it l ne items
 |false=>exact IH hh ne items
def Uz(K:Frag)(b:Bool)(l:Addr):It:=
 ⟨λi H=>∃xs x,ra K H b l xs/\xs[i]?=(1,x),
  λi H x H'=>∃p u,x=(9,p)/\H p=none/\H'=cF H p (22,[(16,i),u])/\∀xs,ra K H b l xs->xs[i]?=(1,u),
  λi H=>∃xs,ra K H b l xs/\xs.length<=i⟩
theorem Oa{h:Heap}{b:Bool}{it l:Addr}{i:Nat}(j:Co h b it l i):∃o,h.get? it=[46]/\∀v,o.data≠.cell v:=by
 cases b with
 |_=>obtain⟨o,e,_,d⟩:=j;exact(11,o,e,λv z=>by rw[d] at z;cases z)
theorem QI{h h':Heap}{b:Bool}{it l:Addr}{i:Nat}(j:Co h b it l i)(k:∀o,h.get? it=([46])->(63,it)=[46]):Co h' b it l i:=by
 cases b with
 |true=>exact Heap.IsListIter.at j k
 |false=>exact Heap.IsTupleIter.at j k
theorem GS{P:Program}{w:World}{K:Frag}{elts:List Expr}{kt:Nat}{tp:Pos}(b:Bool)(e it l:Addr)(hei:e≠it)(hle:l≠e)(hli:l≠it):
  Fh P w K (.Tuple elts kt tp) (Uz K b l) [e,it] e (λi h=>(∃old,IsEnum h e it i old)/\Co h b it l i) where
 mem:=by simp
 obj:=λi h ⟨⟨old,he⟩,j⟩ c hc=>by
  rcases mem_cons.mp hc with rfl|hc
  ·exact(11,_,he,λv z=>nomatch z)
  ·rw[(39,hc)];exact Oa j
 keep:=λi h h' ⟨⟨old,he⟩,j⟩ k=>(3,(3,old,k e [19] _ he),QI j λo z=>k it [19] o z)
 item:=by
  intro X hP hw hK hc i pins s σ H E I hf ⟨⟨old,he⟩,j⟩ ⟨xs,x,q1,hx⟩;subst hP hw hK;obtain⟨t1,r1,p1,lt1⟩:=I.seqX q1;obtain⟨u1,e1,ru1⟩:=r1.get hx;have hi:i<t1.toArray.size:=by
   have:=(17,e1).1;simpa using this
  have W:=WalksT.enumerateD (Ot (prog:=X.prog) (w:=X.w) (A:=X.A.in1) (I.ok.hd hc) hli t1.toArray b) e hei (by simp[hei,Ne.symm hle]) [19]
  refine W.item i s _ _ hi (11,(3,old,he),j,p1) λT vals h' tk ⟨t,v,hv,ev⟩ hT isT mid kp=>?_;have ev1:v=u1:=by
   have:t1[i]?=(1,v):=by simpa using hv
   rw[e1] at this;exact(50,this).symm
  subst ev1;refine(19,_,W.go elts kt tp i T {s with heap:=h',toks:=tk} _ _ mid λh2 st2 kp2=>?_);have Tn:T∉[e,it]:=W.apart i T h' mid;have I1:aN X pins σ H {s with heap:=h2,toks:=tk}:=I.turnedN (t':=tk) (ch:=[e,it]) (λc o hc z=>kp2 c o hc (kp c o hc z)) hf;have fT:FpOk X pins H T:=I.fpOk hT (I.hok.fresh hT);have I2:aN X pins σ (cF H T (22,[(16,i),x])) {s with heap:=h2,toks:=tk}:=I1.track fT ⟨by show 2<=sizeLine;decide,[.int i t,v],(22,(3,t,rfl),(22,ru1,.nil)),by
   rw[ev] at isT;exact Heap.IsTuple.at isT λo z=>kp2 T o Tn z⟩
  refine⟨(9,T),_,I2,rfl,⟨T,x,rfl,fT.1,rfl,λxs' q=>by rw[I.seqX_inj q q1];exact hx⟩,(3,st2.1,st2.2.1),λc hc=>?_⟩
  rw[az]
  ·exact(hf c hc).1
  ·intro z;subst z;exact Tn hc
 done:=by
  intro X hP hw hK hc i pins s σ H E I hf ⟨⟨old,he⟩,j⟩ ⟨xs,q1,hl⟩;subst hP hw hK;obtain⟨t1,r1,p1,lt1⟩:=I.seqX q1;have le1:=r1.length;have hT:s.TypeIs (9,e) "enumerate" := (35,_,he);have N1:=KL (prog:=X.prog) (w:=X.w) (A:=X.A.in1) (I.ok.hd hc) hli t1.toArray b;unfold pyNext;refine(5,wpAny_attempt (2,(15,"__next__"),hT,F.slot_enumerate_next,F.slot_enumerate_next,hT,F.entry_enumerate_next,?_,F.args_enumerate_next_1 _));show(6,_,(field (9,e) 2 >>= _),_,_,_);refine(5,(6,he,rfl,(9,it),(5,(N1.stop s i _ _ (3,j,p1) (by simp;omega) λg z kg ⟨o,ho,hc⟩=>?_))))
  refine(5,(wpAny_isInstance (T := "StopIteration") (b:=true) (11,o,ho,hc) isSubtype_stop (10,(62,I.turnedN (ch:=[e,it]) (t':=s.toks) (λc o hc z=>kg c o ?_ z) hf))));intro z;exact hc (by simp[z])
 self:=λA i s Q E st h=>by
  obtain⟨⟨old,he⟩,_⟩:=st;exact wpAny_pyIter_enum he h
abbrev Tw(h:Heap)(l:Addr):Heap:=h.push {cls:=.type "tuple_iterator",data:=.fields #[.ref l,.int 0 0]}
abbrev Ul(h:Heap)(l:Addr):Heap:=(Tw h l).push {cls:=.type "enumerate",data:=.fields #[.none,.bool false,.ref h.objs.size,rawInt 0,.none,.none]}
theorem vw(l:Addr)(xs:[33]):
  Meets (Builtin.«enumerate.__new__» (3,[(54,"enumerate"),(9,l)],[])) (λ_ R s=>s.heap.IsTuple l xs/\R (.ok (.ret (9,(Tw s.heap l).objs.size))) {s with heap:=Ul s.heap l}):=
 .of_wp λprog w A R s h=>by
  obtain⟨hp,g,d,tk,os⟩:=s;obtain⟨hl,h⟩:=h;have hsub:=sub_enumerate;have q1:Heap.IsTuple (Shared.heap (4,hp,g,d,tk,os)) l xs:=hl
  wp_walk using wpAny_pyIter_tuple q1
  refine wpAny_stack_any λst=>(10,?_);split
  ·rename_i c _ _ _ _ _;cases (c == Value.type "enumerate") <;> (wp_walk using wpAny_pyIter_tuple q1;exact(19,_,h))
  ·wp_walk using wpAny_pyIter_tuple q1;exact(19,_,h)
section
variable{prog:Program}{w:World}{A:Around}{E:Value->Shared->Prop}{s:Shared}
theorem F6{b:Bool}{l:Addr}{xs:[33]}{Q:Value->Shared->Prop}(h1:Ru s.heap b l xs)
  (h:∀h',IsEnum h' (s.heap.objs.size+1) [15] 0 .none->Co h' b [15] l 0->(∀c o,(28,c)=([46])->(63,c)=[46])->Q (9,(s.heap.objs.size+1)) {s with heap:=h'}):
  (1,prog,w,A,call (54,"enumerate") [(9,l)],Q,E,s):=by
 cases b with
 |true=>exact call_enumerate_list h1 λh' a1 a2 _ a4=>h h' a1 a2 a4
 |false=>
  refine callType_new F.called_enumerate [13] (F.typeCall_enumerate_1 _) (F.newCall_enumerate_1 _) (λobj=>F.args_object_init_2 obj _) F.entry_enumerate_new (vw l xs) (3,h1,?_)
  have n1:(Tw s.heap l).objs.size=s.heap.objs.size+1:=size_push ..;have g2:(Ul s.heap l).get? (Tw s.heap l).objs.size=(1,_):=(26,_);have g1:(Ul s.heap l).get? s.heap.objs.size=(1,_):=(21,(26,_));show _/\_;rw[n1] at g2;rw[n1];exact(3,(35,_,g2),h _ g2 (10,_,g1,rfl,rfl) λc o x=>(21,(21,x)))
end
section
variable{X:Cx}
theorem J1:(60,"enumerate") = (1,(54,"enumerate")):=by decide +kernel
def QM(K:Frag)(ta:TA):TI:=λσ H R=>ta σ H λvs H1=>∃b l,vs=[(9,l)]/\(∃xs,ra K H1 b l xs)/\R (Uz K b l) H1
theorem Nw{a:Expr}{ta:TA}{p pos:Pos}{elts:List Expr}{kt:Nat}{tp:Pos}(hg:Gl X "enumerate")(hm:X.mg "enumerate" = none)(ha:PA X [a] ta)(hs:(4,[a])=[(false,(14,a))]:=by rfl):
  PI X (.Tuple elts kt tp) (5,.Name "enumerate" p,[a],pos) (QM X.K ta):=by
 intro pins s σ H R I h;refine Call_ (mf I hg hm J1 (34,(cZ (ha pos pins s σ H _ I h) λus s1 ⟨vs,H1,I1,r1,b,l,e,⟨xs,q1⟩,q⟩=>?_),hs,rfl));subst e;obtain⟨u,rfl,r2⟩:=kR r1;obtain rfl:u=Value.ref l:=r2;obtain⟨t1,_,p1,lt1⟩:=I1.seqX q1;refine F6 p1 λh' z1 j1 kp=>?_;show(6,_,pyIter (9,(s1.heap.objs.size+1)),_,_,_);refine wpAny_pyIter_enum z1 ?_;refine⟨_,_,_,_,H1,rfl,I1.kept (t':=s1.toks) kp,GS b (s1.heap.objs.size+1) s1.heap.objs.size l (Nat.succ_ne_self _) (56,lt_succ_of_lt lt1) (56,lt1),(3,(3,_,z1),j1),λc hc=>?_,q⟩;have hle:s1.heap.objs.size<=c:=by
  have:c=s1.heap.objs.size+1\/c=s1.heap.objs.size:=by simpa using hc
  rcases this with rfl|rfl
  ·exact le_add_right _ _
  ·exact[25]
 exact I1.fpOk hle (I1.hok.fresh hle)
end
end L2
namespace L2
open PySem
abbrev Jh(xs:Array Nat):Prop:=xs.toList.Pairwise (· < ·)
theorem u6{xs:Array Nat}(h:Jh xs){i k:Nat}(hik:i<k)(hk:k<xs.size):xs[i]'[11]<xs[k]:=by
 have:=List.pairwise_iff_getElem.mp h i k (by simpa using(by omega:i<xs.size)) (by simpa using hk) hik
 simpa using this
theorem vZ{xs:Array Nat}(h:Jh xs)(j:Nat):∀(fuel lo hi:Nat),lo<=hi->hi<=xs.size->hi - lo<=fuel->(∀i (hi':i<xs.size),i<lo->xs[i]<j)->(∀i (hi':i<xs.size),hi<=i->j<=xs[i])->
  SetTable.below.go xs j fuel lo hi<=xs.size/\(∀i (hi':i<xs.size),i<SetTable.below.go xs j fuel lo hi->xs[i]<j)/\∀i (hi':i<xs.size),SetTable.below.go xs j fuel lo hi<=i->j<=xs[i]
 |0,lo,hi,h1,h2,h3,h4,h5=>by
  have e:lo=hi:=by omega
  subst e;exact(11,h2,h4,h5)
 |fuel+1,lo,hi,h1,h2,h3,h4,h5=>by
  unfold SetTable.below.go;by_cases hl:lo<hi
  ·rw[(25,hl)];have hm:(lo+hi) / 2<xs.size:=by omega
   have hg:xs.getD ((lo+hi) / 2) j=xs[(lo+hi) / 2]:=by simp[hm]
   dsimp only;rw[hg];by_cases hc:xs[(lo+hi) / 2]<j
   ·rw[(25,hc)];refine vZ h j fuel _ _ [11] h2 [11] (λi hi' hlt=>?_) h5
    by_cases e:i=(lo+hi) / 2
    ·subst e;exact hc
    ·exact lt_trans (u6 h [11] hm) hc
   ·rw[(29,hc)];refine vZ h j fuel _ _ [11] [11] [11] h4 (λi hi' hle=>?_)
    by_cases e:i=(lo+hi) / 2
    ·subst e;omega
    ·have:=u6 h (show(lo+hi) / 2<i by omega) hi';omega
  ·rw[(29,hl)];have e:lo=hi:=by omega
   subst e;exact(11,h2,h4,h5)
theorem mw{xs:Array Nat}(h:Jh xs)(j:Nat):SetTable.below xs j<=xs.size/\(∀i (hi':i<xs.size),i<SetTable.below xs j->xs[i]<j)/\∀i (hi':i<xs.size),SetTable.below xs j<=i->j<=xs[i]:=by
 unfold SetTable.below;exact vZ h j xs.size 0 xs.size (zero_le _) [25] [11] (λ_ _ z=>(32,z,Nat.not_lt_zero _)) (λi hi' z=>(32,hi',[11]))
theorem Fd{xs:Array Nat}(h:Jh xs):SetTable.below xs 0=0:=by
 obtain⟨h1,h2,_⟩:=mw h 0;by_cases e:SetTable.below xs 0=0
 ·exact e
 ·have:=h2 0 [11] [11]
  omega
theorem Fe{xs:Array Nat}(h:Jh xs){i:Nat}(hi:i<xs.size):SetTable.below xs (xs[i]+1)=i+1:=by
 obtain⟨h1,h2,h3⟩:=mw h (xs[i]+1);by_cases l:SetTable.below xs (xs[i]+1)<=i
 ·have:=h3 i hi l;omega
 ·by_cases e:SetTable.below xs (xs[i]+1)=i+1
  ·exact e
  ·have hi1:i+1<xs.size:=by omega
   have a:=h2 (i+1) hi1 [11]
   have b:=u6 h (i:=i) (k:=i+1) [11] hi1
   omega
theorem oY{α:Type}(xs:Array α)(p:Nat)(x:α)(hp:p<=xs.size):(SetTable.insertAt xs p x).toList=xs.toList.take p++x::xs.toList.drop p:=by
 unfold SetTable.insertAt;simp[Array.toList_extract];rw[List.take_of_length_le [19]]
theorem kM{α:Type}(xs:Array α)(p:Nat)(x:α)(hp:p<=xs.size):(SetTable.insertAt xs p x).toList.Perm (x::xs.toList):=by
 rw[oY xs p x hp];refine List.perm_middle.trans ?_;rw[List.take_append_drop]
theorem oX{α:Type}(xs:Array α)(p:Nat)(x:α)(hp:p<=xs.size):(SetTable.insertAt xs p x).size=xs.size+1:=by
 rw[←length_toList,(kM xs p x hp).length_eq];simp
structure Tb(t:SetTable)(m:Nat):Prop where
 mask:t.mask=7
 dum:t.dummies=#[]
 plain:t.plain=true
 size:t.place.size=m
 rise:Jh t.place
 le:∀j∈t.place.toList,j<=7
theorem Tb.fits{t:SetTable}{m:Nat}(T:Tb t m)(hm:m<=7):t.fits m=true:=by
 unfold SetTable.fits SetTable.fill;rw[T.size,T.dum,T.mask];simp;omega
theorem Tb.notFull{t:SetTable}{m:Nat}(T:Tb t m)(hm:m<=4):t.tooFull=false:=by
 unfold SetTable.tooFull SetTable.fill;rw[T.size,T.dum,T.mask];simp;omega
theorem Tb.slot{t:SetTable}{m:Nat}(T:Tb t m)(j:Nat):(t.slot j=.empty/\j∉t.place.toList)\/(∃i,t.slot j=.live i)/\j∈t.place.toList:=by
 unfold SetTable.slot;dsimp only;by_cases h:(t.place[(47,j)]? == (1,j))=true
 ·rw[(25,h)];have e:t.place[(47,j)]?=(1,j):=eq_of_beq h;rw[←getElem?_toList] at e;exact .inr (3,(3,_,rfl),(61,e))
 ·rw[(29,h)];have hd:SetTable.has t.dummies j=false:=by rw[T.dum];rfl
  rw[(29,(by rw[hd];exact Bool.false_ne_true))]
  refine .inl (62,λhm=>h ?_);obtain⟨i,hi,e⟩:=getElem_of_mem hm;have hi':i<t.place.size:=by simpa using hi
  have e':t.place[i]=j:=by simpa using e
  obtain⟨h1,h2,h3⟩:=mw T.rise j;have hb:(47,j)=i:=by
   by_cases l:(47,j)<=i
   ·by_cases l2:(47,j)=i
    ·exact l2
    ·have hlt:(47,j)<t.place.size:=by omega
     have a:=h3 _ hlt [25];have b:=u6 T.rise (show(47,j)<i by omega) hi'
     omega
   ·have:=h2 i hi' [11];omega
  rw[hb,(42,hi'),e'];exact beq_self_eq_true _
theorem Fb{h:Int}(h0:0<=h)(h1:h<32):SetTable.bits h=h.toNat:=by
 unfold SetTable.bits;rw[Int.emod_eq_of_lt h0 [11]]
theorem Oi{l:[29]}{a b c d:Nat}(hl:l.length<=3)(h1:a∈l)(h2:b∈l)(h3:c∈l)(h4:d∈l)(n:[a,b,c,d].Nodup):False:=by
 have hs:[a,b,c,d] ⊆ l:=by
  intro x hx;simp at hx;rcases hx with rfl|rfl|rfl|rfl <;> assumption
 have:=List.Nodup.length_le_of_subset n hs;simp at this;omega
theorem Tb.free{t:SetTable}{m:Nat}(T:Tb t m)(hm:m<=3){h:Int}(h0:0<=h)(h1:h<32):∃j,t.freeSlot h=(1,(j,false))/\j<=7/\j∉t.place.toList:=by
 obtain⟨n,rfl⟩:∃n:Nat,h=n:=(69,h.toNat)
 have hb:SetTable.bits (n:Int)=n:=by rw[Fb h0 h1];rfl
 have hn:n<32:=by omega
 have hl:t.place.toList.length<=3:=by rw[length_toList,T.size];exact hm
 have run:∀(i:Nat),SetTable.runEnd t.mask i=i\/7<i:=λi=>by
  unfold SetTable.runEnd;rw[T.mask];by_cases q:i+9<=7
  ·omega
  ·rw[(29,q)];exact[42]
 have hrun:∀i,SetTable.runEnd t.mask i - i=0:=λi=>by
  unfold SetTable.runEnd;rw[T.mask,(29,[11])]
  omega
 have adv:∀(i p:Nat),p / 32=0->t.advance (4,i,0,i,p,none)=(4,(i * 5+1) % 8,0,(i * 5+1) % 8,0,none):=λi p hp=>by
  unfold SetTable.advance SetTable.leap;rw[(29,lt_irrefl 0)];dsimp only;rw[hp,hrun,T.mask]
 have step:∀(fuel i p:Nat),p / 32=0->(∃r,SetTable.probe.go t (λ_=>(n:Int)+1) n (fuel+1) (4,i,0,i,p,none)=(1,r)/\r=.empty i none/\i∉t.place.toList)\/(i∈t.place.toList/\SetTable.probe.go t (λ_=>(n:Int)+1) n (fuel+1) (4,i,0,i,p,none)=SetTable.probe.go t (λ_=>(n:Int)+1) n fuel (4,(i * 5+1) % 8,0,(i * 5+1) % 8,0,none)):=λfuel i p hp=>by
  rcases T.slot i with⟨e,ni⟩|⟨⟨k,e⟩,hi⟩
  ·refine .inl (10,.empty i none,?_,rfl,ni);unfold SetTable.probe.go;dsimp only;rw[e]
  ·refine .inr (3,hi,?_)
   conv=>lhs;unfold SetTable.probe.go
   dsimp only;rw[e];dsimp only;rw[(29,(by simp;omega)),adv i p hp]
 have hps:t.probeStart (n:Int)=(4,n % 8,0,n % 8,n,none):=by
  unfold SetTable.probeStart;dsimp only;rw[hb,hrun,T.mask]
 have fin:∀{j:Nat}{r:SetTable.Met},j<8->SetTable.probe.go t (λ_=>(n:Int)+1) n (10 * SetTable.turns t.mask) (4,n % 8,0,n % 8,n,none)=(1,r)->r=.empty j none->j∉t.place.toList->∃j,t.freeSlot (n:Int)=(1,(j,false))/\j<=7/\j∉t.place.toList:=λ{j r} hj e er nj=>by
  refine(10,j,?_,by omega,nj)
  unfold SetTable.freeSlot SetTable.probe;rw[hps,e,er];rfl
 have hf:10 * SetTable.turns t.mask=216+1+1+1+1:=by unfold SetTable.turns;rw[T.mask]
 rw[hf] at fin;have h8:n % 8<8:=Nat.mod_lt _ [13]
 rcases step (216+1+1+1) (n % 8) n (by omega) with⟨r,e,er,nj⟩|⟨i1,e1⟩
 ·exact fin h8 e er nj
 rcases step (216+1+1) ((n % 8 * 5+1) % 8) 0 rfl with⟨r,e,er,nj⟩|⟨i2,e2⟩
 ·exact fin [11] (e1.trans e) er nj
 rcases step (216+1) (((n % 8 * 5+1) % 8 * 5+1) % 8) 0 rfl with⟨r,e,er,nj⟩|⟨i3,e3⟩
 ·exact fin [11] ((e1.trans e2).trans e) er nj
 rcases step 216 ((((n % 8 * 5+1) % 8 * 5+1) % 8 * 5+1) % 8) 0 rfl with⟨r,e,er,nj⟩|⟨i4,e4⟩
 ·exact fin [11] (((e1.trans e2).trans e3).trans e) er nj
 exact(Oi hl i1 i2 i3 i4 (by
  have:n % 8=0\/n % 8=1\/n % 8=2\/n % 8=3\/n % 8=4\/n % 8=5\/n % 8=6\/n % 8=7:=by omega
  rcases this with h|h|h|h|h|h|h|h <;> rw[h] <;> decide)).elim
theorem Tb.put{t:SetTable}{m:Nat}(T:Tb t m){j:Nat}(hj:j<=7)(nj:j∉t.place.toList):Tb (t.put j).1 (m+1)/\(t.put j).2<=m/\(t.put j).1.led=t.led:=by
 obtain⟨h1,h2,h3⟩:=mw T.rise j;have hd:SetTable.has t.dummies j=false:=by rw[T.dum];rfl
 have hz:(47,j)<=m:=by rw[←T.size];exact h1
 unfold SetTable.put;dsimp only;rw[(29,(by rw[hd];exact Bool.false_ne_true))]
 refine(35,⟨T.mask,T.dum,T.plain,?_,?_,λk hk=>?_⟩,hz)
 ·show(SetTable.insertAt t.place (47,j) j).size=_;rw[oX _ _ _ h1,T.size]
 ·show(SetTable.insertAt t.place (47,j) j).toList.Pairwise (· < ·);rw[oY _ _ _ h1];refine List.pairwise_append.mpr (11,List.Pairwise.sublist (List.take_sublist _ _) T.rise,pairwise_cons.mpr (3,λk hk=>?_,List.Pairwise.sublist (List.drop_sublist _ _) T.rise),λa ha b hb=>?_)
  ·obtain⟨i,hi,e⟩:=getElem_of_mem hk;rw[List.getElem_drop] at e;rw[length_drop,length_toList] at hi;have a:=h3 ((47,j)+i) [11] [11]
   have e':t.place[(47,j)+i]'[11]=k:=by simpa using e
   have:k≠j:=λz=>nj (by rw[←z];exact List.mem_of_mem_drop hk)
   omega
  ·obtain⟨i,hi,e⟩:=getElem_of_mem ha;rw[List.getElem_take] at e;rw[length_take,length_toList] at hi;have a1:=h2 i [11] [11]
   have e':t.place[i]'[11]=a:=by simpa using e
   rcases mem_cons.mp hb with rfl|hb
   ·omega
   ·obtain⟨i2,hi2,e2⟩:=getElem_of_mem hb;rw[List.getElem_drop] at e2;rw[length_drop,length_toList] at hi2;have a2:=h3 ((47,j)+i2) [11] [11]
    have e3:t.place[(47,j)+i2]'[11]=b:=by simpa using e2
    omega
 ·have hk':k∈(SetTable.insertAt t.place (47,j) j).toList:=hk;have:=(kM _ _ j h1).mem_iff.mp hk';rcases mem_cons.mp this with rfl|z
  ·exact hj
  ·exact T.le k z
theorem Tb.lay{t:SetTable}{m:Nat}(T:Tb t m)(hm:m<=3){h:Int}(h0:0<=h)(h1:h<32)(es:Array (Int×Value))(he:es.size=m)(x:Value):∃es' t',layNew t es h x=(es',t',false,false)/\Tb t' (m+1)/\t'.led=t.led/\es'.toList.Perm ((h,x)::es.toList)/\es'.size=m+1:=by
 obtain⟨j,ej,hj,nj⟩:=T.free hm h0 h1;obtain⟨T',hp,hled⟩:=T.put hj nj;have hsz:(SetTable.insertAt es (t.put j).2 (h,x)).size=m+1:=by rw[oX _ _ _ [11],he]
 have hfit:=T'.fits [11]
 refine⟨SetTable.insertAt es (t.put j).2 (h,x),(t.put j).1,?_,T',hled,kM _ _ _ [11],hsz⟩
 unfold layNew;rw[ej];dsimp only;rw[hsz,hfit];unfold SetTable.orStandIn;rw[hfit];rfl
theorem y4{α:Type}(next:Nat->Nat):∀(fuel k:Nat)(left:List α)(out:Array α),left.length=fuel->(pickOrder.go next fuel k left out).toList.Perm (out.toList++left)
 |0,k,left,out,h=>by
  have:left=[]:=length_eq_zero_iff.mp h;subst this;unfold pickOrder.go;simp
 |fuel+1,k,left,out,h=>by
  unfold pickOrder.go;have hlt:next k % left.length<left.length:=Nat.mod_lt _ [11]
  rw[(7,hlt)];dsimp only;refine(y4 next fuel (k+1) _ _ (by rw[List.length_eraseIdx_of_lt hlt];omega)).trans ?_
  rw[Array.toList_push,append_assoc];refine List.Perm.append_left _ ?_;have e:left=left.take (next k % left.length)++left[next k % left.length]::left.drop (next k % left.length+1):=by
   rw[←List.drop_eq_getElem_cons hlt,List.take_append_drop]
  rw[List.eraseIdx_eq_take_drop_succ]
  conv=>rhs;rw[e]
  rw[List.singleton_append];exact List.perm_middle.symm
theorem vd{α:Type}(next:Nat->Nat)(xs:Array α):(pickOrder next xs).toList.Perm xs.toList:=by
 have:=y4 next xs.size 0 xs.toList #[] (by simp)
 simpa [pickOrder] using this
end L2
namespace L2
open PySem PySem.Spec PyProof.Rows
inductive EsK:List (Int×Value)->List Int->Prop
 |nil:EsK [] []
 |cons (k:Int) (tk:Tok) {es ks}:EsK es ks->EsK ((hashInt k,.int k tk)::es) (k::ks)
theorem EsK.length{es:List (Int×Value)}{ks:[24]}(h:EsK es ks):es.length=ks.length:=by
 induction h with
 |nil=>rfl
 |cons k tk _ ih=>rw[length_cons,length_cons,ih]
theorem EsK.perm{es es':List (Int×Value)}(p:es'.Perm es):∀{ks:[24]},EsK es ks->∃ks',EsK es' ks'/\ks'.Perm ks:=by
 have q:=p.symm;clear p
 induction q with
 |nil=>intro ks h;cases h;exact(11,[],.nil,.refl _)
 |cons x _ ih=>
  intro ks h;cases h with
  |cons k tk t=>obtain⟨ks',e,p⟩:=ih t;exact(11,k::ks',.cons k tk e,p.cons k)
 |swap x y l=>
  intro ks h;cases h with
  |cons k tk t=>cases t with
   |cons k2 tk2 t2=>exact(11,k2::k::_,.cons k2 tk2 (.cons k tk t2),List.Perm.swap _ _ _)
 |trans _ _ ih1 ih2=>
  intro ks h;obtain⟨k1,e1,p1⟩:=ih1 h;obtain⟨k2,e2,p2⟩:=ih2 e1;exact(11,k2,e2,p2.trans p1)
theorem EsK.elems{prog:Program}{w:World}{es:List (Int×Value)}{ks:[24]}(h:EsK es ks):ElemsOf (intKind prog w) es:=by
 induction h with
 |nil=>intro e he;cases he
 |cons k tk _ ih=>
  intro e he;rcases mem_cons.mp he with rfl|he
  ·exact(3,(35,k,by simp[intKind,Value.isInt]),rfl)
  ·exact ih e he
theorem EsK.find{es:List (Int×Value)}{ks:[24]}(h:EsK es ks)(k:Int):(es.findIdx? λe=>Value.isInt k e.2).isSome=decide (k∈ks):=by
 induction h with
 |nil=>rfl
 |cons k' tk _ ih=>
  rw[List.findIdx?_cons];by_cases e:k=k'
  ·subst e;simp[Value.isInt]
  ·have:Value.isInt k (Value.int k' tk)=false:=by simp[Value.isInt,Ne.symm e,e]
   simp only[this];rw[(29,[27]),Option.isSome_map,ih];simp[e]
theorem EsK.ints{es:List (Int×Value)}{ks:[24]}(h:EsK es ks):IntsAre [41] ks:=by
 induction h with
 |nil=>exact .nil
 |cons k tk _ ih=>exact .cons k tk ih
def SetX(w:World)(h:Heap)(a:Addr)(ks:[24]):Prop:=∃o es ep t ks',h.get? a=[46]/\o.ExactSet/\o.data=.set es ep t/\EsK es.toList ks'/\ks'.Perm ks/\Tb t es.size/\t.led=![31]
theorem SetX.at{w:World}{h h':Heap}{a:Addr}{ks:[24]}(S:SetX w h a ks)(k:∀o,h.get? a=([46])->(63,a)=[46]):SetX w h' a ks:=by
 obtain⟨o,es,ep,t,ks',ho,r⟩:=S;exact⟨o,es,ep,t,ks',k o ho,r⟩
theorem Ls:∀n:Fin 32,hashInt ((n.val:Nat):Int)=((n.val:Nat):Int):=by decide +kernel
theorem vF{k:Int}(h0:0<=k)(h1:k<32):hashInt k=k:=by
 have h:=Ls (69,k.toNat)
 rwa[show((((69,k.toNat):Fin 32).val:Nat):Int)=k from Int.toNat_of_nonneg h0] at h
section
variable{prog:Program}{w:World}{A:Around}{E:Value->Shared->Prop}{s:Shared}
theorem JR{a:Addr}{ks:[24]}{k:Int}{tk:Tok}{Q:Bool->Shared->Prop}(S:SetX w s.heap a ks)(h0:0<=k)(h1:k<32)(hl:ks.length<=4)(hl2:k∉ks->ks.length<=3)
  (h:∀h' b,Heap.SameBut a s.heap h'->SetX w h' a (if k∈ks then ks else k::ks)->Q b {s with heap:=h',toks:=s.toks+1}):(1,prog,w,A,setAdd a (.int k tk),Q,E,s):=by
 obtain⟨o,es,ep,t,ks',ho,hex,hd,hes,hp,T,hled⟩:=S;have hsz:es.size=ks.length:=by rw[←length_toList,hes.length,hp.length_eq]
 have hf:=T.fits [11]
 have hel:ElemsOf (intKind prog w) es.toList:=hes.elems;have hkey:(intKind prog w).is k (.int k tk)=true:=by simp[intKind,Value.isInt]
 unfold setAdd;refine wpAny_holding (5,((intKind prog w).pyHash hkey ?_));unfold setAddHashed setAddHashedIn;refine wpAny_holding (5,wpAny_setState_of ho hd hf ?_);dsimp only;rw[byScan_of (knd:=intKind prog w) rfl (by unfold scanBound;omega) hel,(25,rfl)]
 unfold setAddByScan;refine(5,(5,wpAny_rule (5,wpAny_setScan_of (s:={s with toks:=s.toks+1}) hkey ho hd hf hel ?_)));have hfi:=hes.find k;have hfi':∀r,es.toList.findIdx? (λe=>(intKind prog w).is k e.2)=r->r.isSome=decide (k∈ks'):=λr e=>by rw[←e];exact hfi
 have hmem:k∈ks'↔k∈ks:=hp.mem_iff;cases hr:es.toList.findIdx? (λe=>(intKind prog w).is k e.2) with
 |some j=>
  have hk:k∈ks:=hmem.mp (by have:=hfi' _ hr;simpa using this.symm)
  dsimp only;refine(10,(10,h s.heap false (Heap.SameBut.refl a s.heap) ?_));rw[(25,hk)];exact⟨o,es,ep,t,ks',ho,hex,hd,hes,hp,T,hled⟩
 |none=>
  have hk:k∉ks:=λz=>by have:=hfi' _ hr;rw[(51,hmem.mpr z)] at this;cases this
  have h3:=hl2 hk;obtain⟨es',t',el,T',hl',hpm,hsz'⟩:=T.lay [11] (h:=hashInt k) (by rw[vF h0 h1];exact h0) (by rw[vF h0 h1];exact h1) es rfl (.int k tk)
  have el':layNew t es ((intKind prog w).hash k) (.int k tk)=(es',t',false,false):=el;dsimp only;rw[el'];dsimp only;refine(5,?_);show(6,_,pure (),_,_,_);refine(10,?_);rw[T'.plain,(25,rfl),hashByValue_scannable 8 rfl];refine(5,(10,?_));rw[(25,(show plainKind (Value.int k tk)=true from rfl))];refine(5,wpAny_storeSet_of (s:={s with toks:=s.toks+1}) ho hd ?_ (by rw[hsz',sizeLine_eq];omega))
  rw[T'.notFull [11]]
  simp only[Bool.not_false,Bool.and_false,false_eq_true,if_false];refine(10,(10,h _ true (Heap.SameBut.update s.heap a (Obj.putSet es' t')) ?_));rw[(29,hk)];obtain⟨ks2,e2,p2⟩:=EsK.perm hpm (.cons k tk hes);have hg:(s.heap.update a (Obj.putSet es' t')).get? a=some {o with data:=.set es' (ep+1) t'}:=by
   have z:=get?_update_self (Obj.putSet es' t') ho (by rw[putSet_of es' t' hd];rfl)
   rw[putSet_of es' t' hd] at z;exact z
  exact⟨_,es',ep+1,t',ks2,hg,hex,rfl,e2,p2.trans (hp.cons k),by rw[hsz'];exact T',by rw[hl'];exact hled⟩
end
section
variable{prog:Program}{w:World}{A:Around}{E:Value->Shared->Prop}{s:Shared}
theorem Ha{R:Result->Shared->Prop}{S I l:Addr}{items:[33]}{ns:[24]}(hh:A.in1.handled=none)(hli:l≠I)(hSI:S≠I)(hSl:S≠l)(hi:IntsAre items.toList ns)(hr:∀n∈ns,0<=n/\n<32)(h4:ns.length<=4):
  ∀(k i:Nat)(s:Shared)(ks:[24]),items.size - i=k->i<=items.size->s.heap.IsListIter I l i->s.heap.IsList l items->SetX w s.heap S ks->ks.length<=i->(∀n,n∈ks↔n∈ns.take i)->ks.Nodup->
   (∀h' tk ks',(∀b o,b≠S->b≠I->(28,b)=([46])->(63,b)=[46])->SetX w h' S ks'->(∀n,n∈ks'↔n∈ns)->ks'.Nodup->R (.ok (.ret .none)) {s with heap:=h',toks:=tk})->
   codeAny (model prog w) A (.builtin "set.update.loop" (3,[(9,S),(9,I)],[])) R s:=by
 have hlen:items.size=ns.length:=by rw[←length_toList];exact hi.length
 have W:=Walks.list (prog:=prog) (w:=w) hh I l hli items;intro k
 induction k with
 |zero=>
  intro i s ks hk hile st hl S1 hkl hm nd hR;obtain rfl:i=items.size:=by omega
  refine codeAny_builtin PyProof.Rows.F.entry_set_update_loop ?_;rw[Around.under_plainId PyProof.Rows.F.plain_set_update_loop _];refine(21,pyNext (9,I),(W.done s _ _ (3,st,hl) λh' tk kp=>?_));refine(10,hR h' tk ks (λb o _ hb e=>kp b o (by simpa using hb) e) (S1.at λo e=>kp S o (by simpa using hSI) e) (λn=>?_) nd)
  rw[hm n,hlen,List.take_length]
 |succ k ih=>
  intro i s ks hk hile st hl S1 hkl hm nd hR;have hlt:i<items.size:=by omega
  refine codeAny_builtin PyProof.Rows.F.entry_set_update_loop ?_;rw[Around.under_plainId PyProof.Rows.F.plain_set_update_loop _];refine(21,pyNext (9,I),(W.item i s _ _ hlt (3,st,hl) λv h' tk hv st' kp=>?_));obtain⟨t,rfl⟩:=PyProof.Rows.IntsAre.int_at hi i v (by rw[getElem?_toList];exact hv)
  have hmem:ns.getD i 0∈ns:=by rw[getD_eq_getElem?_getD,(7,[11])];exact getElem_mem _
  have S2:SetX w h' S ks:=S1.at λo e=>kp S o (by simpa using hSI) e
  obtain⟨r0,r1⟩:=hr _ hmem;refine(21,holding _ _,wpAny_holding (JR (s:={s with heap:=h',toks:=tk}) S2 r0 r1 [11] (λ_=>by omega) λh2 b sb S3=>?_))
  refine(10,(3,plainId_quiet PyProof.Rows.F.plain_set_update_loop _,ih (i+1) _ _ [11] hlt ?_ ?_ S3 ?_ ?_ ?_ λh3 tk3 ks3 kp3 S4 m4 n4=>?_))
  ·exact st'.1.extBut sb.extBut (Ne.symm hSI)
  ·exact st'.2.extBut sb.extBut (Ne.symm hSl)
  ·split
   ·omega
   ·rw[length_cons];omega
  ·intro n;have htake:ns.take (i+1)=ns.take i++[ns.getD i 0]:=by
    rw[List.take_add_one,(7,[11]),getD_eq_getElem?_getD,(7,[11])]
    rfl
   rw[htake,mem_append,mem_singleton,←hm n];split
   ·rename_i hin;constructor
    ·exact .inl
    ·rintro (z|rfl)
     ·exact z
     ·exact hin
   ·rw[mem_cons,or_comm]
  ·split
   ·exact nd
   ·rename_i hin;exact nodup_cons.mpr (3,hin,nd)
  ·refine hR h3 tk3 ks3 (λb o hb1 hb2 e=>kp3 b o hb1 hb2 (sb.extBut b o hb1 (kp b o (by simpa using hb2) e))) S4 m4 n4
theorem JQ(a:Value){Q₁:Value->Shared->Prop}(h:Q₁ (9,[15]) {s with heap:=s.heap.push {cls:=.type "set",dict:=none,data:=.set #[] 0 (.fresh 0 0 (!w.params.followText "set-order"))}}):
  codeAny (model prog w) A (.call (44,"set.__new__") (3,[(54,"set"),a],[])) (wants Q₁ E) s:=by
 refine codeAny_of_tree (21,checkBuiltinCall "set.__new__" (3,[(54,"set"),a],[]),wpAny_of_eq (PySem.F.newCall_set_1 a) (10,(3,plainId_quiet PySem.F.plain_set_new _,codeAny_builtin PySem.F.entry_set_new ?_)));rw[Around.under_plainId PySem.F.plain_set_new _];unfold Builtin.«set.__new__» Builtin.Frozenset.newClass;have hsub:=sub_set_self;obtain⟨hp,g,d,tk,os⟩:=s;dsimp only;wp_walk;refine wpAny_askSetting (10,?_);dsimp only;simp only[newObj];exact(5,wpAny_alloc (10,(10,h)))
theorem DA{h:Heap}{a:Addr}(e:h.get? a=some {cls:=.type "set",dict:=none,data:=.set #[] 0 (.fresh 0 0 (!w.params.followText "set-order"))}):SetX w h a []:=
 ⟨_,#[],0,_,[],e,(19,rfl,rfl),rfl,.nil,.refl _,⟨rfl,rfl,rfl,rfl,.nil,λj hj=>by cases hj⟩,rfl⟩
set_option maxHeartbeats 4000000 in
theorem IS{l:Addr}{items:[33]}{ns:[24]}{Q:Value->Shared->Prop}(hh:A.handled=none)(hl:s.heap.IsList l items)(hi:IntsAre items.toList ns)(hr:∀n∈ns,0<=n/\n<32)(h4:ns.length<=4)
  (h:∀(h':Heap)(tk:Nat)(ks:[24]),SetX w h' [15] ks->(∀n,n∈ks↔n∈ns)->ks.Nodup->(∀b o,(28,b)=([46])->(63,b)=[46])->Q (9,[15]) {s with heap:=h',toks:=tk}):
  (1,prog,w,A,call (54,"set") [(9,l)],Q,E,s):=by
 obtain⟨c,tl,hmro⟩:=PySem.F.called_set.mro;have hmade:=PySem.F.called_set.made;have hsub:=PySem.F.called_set.sub;refine wpAny_call (codeAny_of_tree ?_);show(6,_,callAny (54,"set") _,_,_,_);refine(10,(3,Code.quiet_builtin _ [17],codeAny_builtin PySem.F.entry_type_call ?_))
 rw[Around.under_plain (weight_type_call_type "set" [(9,l)] []) rfl];have h1:=PySem.F.called_set.notType;have h2:=PySem.F.called_set.canCreate;have hct:=PySem.F.typeCall_set_1 (9,l)
 repeat (any_goals (first|assumption|wp_step))
 generalize hO:({cls:=.type "set",dict:=none,data:=.set #[] 0 (.fresh 0 0 (!w.params.followText "set-order"))}:Obj)=O0;refine codeAny_mono (JQ (9,l) (E:=E) (Q₁:=λobj s₁=>obj=(9,[15])/\s₁={s with heap:=s.heap.push O0}) (by rw[hO];exact(62,rfl))) λr s₁ hr1=>?_
 cases r with
 |error e=>exact hr1
 |ok fl=>cases fl with
  |ret obj=>
   obtain⟨rfl,rfl⟩:=hr1;have hS:(s.heap.push O0).get? s.heap.objs.size=(1,O0):=get?_push_size _ (by rw[←hO];rfl)
   have hT:Shared.TypeIs {s with heap:=s.heap.push O0} (9,[15]) "set" := (11,_,hS,by rw[←hO])
   have hli:=PySem.F.called_set.init.lookup;have hbi:=PySem.F.called_set.init.bind (9,[15])
   repeat (any_goals (first|assumption|wp_step))
   refine codeAny_mono (codeAny_call_builtin (R:=wants (λr s₂=>r=.none/\∃h' tk ks,s₂={s with heap:=h',toks:=tk}/\SetX w h' [15] ks/\(∀n,n∈ks↔n∈ns)/\ks.Nodup/\∀b o,(28,b)=([46])->(63,b)=[46]) E) PySem.F.called_set.init.plain PySem.F.entry_set_init (check_set_init_1 hT ?_)) λr₂ s₂ hr₂=>?_
   ·obtain⟨⟨oc,od,odt,osl⟩,hol,hcl,nl,hdl⟩:=hl
    replace hcl:oc=(54,"list") := hcl
    replace hdl:odt=.seq items nl:=hdl
    subst hcl hdl;have hol':(s.heap.push O0).get? l=(1,_):=(21,hol);have hsls:=PySem.F.sub_list_set;have hslf:=PySem.F.sub_list_frozenset;have hne:(Value.type "list" == Value.type "dict")=false:=by decide
    have hl1:(s.heap.push O0).IsList l items:=(4,_,hol',rfl,nl,rfl);have hlS:l<s.heap.objs.size:=(48,hol);have hS0:(s.heap.push O0).get? s.heap.objs.size=some {cls:=.type "set",dict:=none,data:=.set #[] 0 (.fresh 0 0 (!w.params.followText "set-order"))}:=by rw[hO];exact hS
    unfold Builtin.«set.__init__» noKeywords Builtin.Frozenset.updateFrom;generalize hPI:pyIter=PI;subst hO;wp_walk;subst hPI;refine wpAny_pyIter_list hl1 (5,wpAny_runValue ?_);have n1:(s.heap.push {cls:=.type "set",dict:=none,data:=.set #[] 0 (.fresh 0 0 (!w.params.followText "set-order"))}).objs.size=s.heap.objs.size+1:=size_push ..;have hit:((s.heap.push {cls:=.type "set",dict:=none,data:=.set #[] 0 (.fresh 0 0 (!w.params.followText "set-order"))}).push {cls:=.type "list_iterator",data:=.fields #[.ref l,.int 0 0]}).get? (s.heap.objs.size+1)=some {cls:=.type "list_iterator",data:=.fields #[.ref l,.int 0 0]}:=by rw[←n1];exact(26,_)
    rw[n1];refine Ha (I:=s.heap.objs.size+1) (by simp[hh]) (56,lt_succ_of_lt hlS) (56,lt_succ_self _) (ne_of_gt hlS) hi hr h4 (items.size - 0) 0 _ [] rfl (zero_le _) (10,_,hit,rfl,rfl) (hl1.push _) (DA (21,hS0)) [25] (λn=>by simp) .nil λh' tk ks kp S1 m1 nd=>?_
    refine(10,(10,⟨rfl,h',tk,ks,rfl,S1,m1,nd,λb o e=>?_⟩));have hb:=(48,e);exact kp b o (56,hb) (56,lt_succ_of_lt hb) (21,(21,e))
   ·cases r₂ with
    |error e=>exact hr₂
    |ok fl₂=>cases fl₂ with
     |ret r=>
      obtain⟨rfl,h',tk,ks,rfl,S1,m1,nd,kp⟩:=hr₂
      repeat (any_goals (first|assumption|wp_step))
      exact h _ _ ks S1 m1 nd kp
     |_=>exact hr₂.elim
  |_=>exact hr1.elim
end
theorem kU:Slot "set_iterator" "__next__" "set_iterator.__next__" := .of (owner := "set_iterator") (n := "__next__") (by rw[typeLookup_type,builtinLookup_eq_fast];kernel_rfl) [17] [17] [17] (by first|exact .inl [17]|exact .inr [17]) (by rw[isSubtype_type];kernel_rfl)
theorem CJ:entryFor table "set_iterator.__next__" = (1,Builtin.«set_iterator.__next__»):=entryFor_of_tree (by kernel_rfl)
theorem EY:entryFor table "set.__iter__" = (1,Builtin.«frozenset.__iter__»):=entryFor_alias (id' := "frozenset.__iter__") (by kernel_rfl) rfl [17] (by kernel_rfl)
theorem D0(a:Value):argsOk "set_iterator.__next__" (3,[a],[]):=by unfold argsOk;kernel_rfl
def tN(h:Heap)(a:Addr)(es:Array (Int×Value))(ep:Nat)(t:SetTable):Prop:=∃o,h.get? a=[46]/\o.ExactSet/\o.data=.set es ep t
def jV(w:World)(a:Addr)(es:Array (Int×Value))(ep:Nat):Array (Int×Value):=if[31] = true then pickOrder (w.params.setOrder a ep) es else es
theorem vg(w:World)(a:Addr)(es:Array (Int×Value))(ep:Nat):(jV w a es ep).toList.Perm es.toList:=by
 unfold jV;split
 ·exact vd _ _
 ·exact .refl _
def markOf(w:World)(t:SetTable)(i:Nat):Nat:=if[31] = true then 0 else if i=0 then 0 else t.place.getD (i - 1) 0+1
abbrev yj(a:Addr)(slot i n ep:Nat):Obj:={cls:=.type "set_iterator",dict:=none,data:=.fields #[rawInt slot,rawInt i,.ref a,rawInt n,rawInt ep],slots:=#[]}
section
variable{prog:Program}{w:World}{A:Around}{E:Value->Shared->Prop}{s:Shared}{a it:Addr}{es:Array (Int×Value)}{ep:Nat}{t:SetTable}
theorem tN.state(S:tN s.heap a es ep t)(hf:t.fits es.size=true){Q:(Array (Int×Value)×Nat×SetTable)->Shared->Prop}(h:Q (es,ep,t) s):(1,prog,w,A,setState a,Q,E,s):=by
 obtain⟨o,ho,_,hd⟩:=S;exact wpAny_setState_of ho hd hf h
theorem Hb{Q:Value->Shared->Prop}(S:tN s.heap a es ep t)(T:Tb t es.size)(hm:es.size<=4)(h:Q (9,[15]) {s with heap:=s.heap.push (yj a 0 0 es.size ep)}):(1,prog,w,A,pyIter (9,a),Q,E,s):=by
 have hf:=T.fits [11]
 obtain⟨o,ho,hex,hd⟩:=id S;have hT:s.TypeIs (9,a) "set" := (11,o,ho,hex.1);refine wpAny_pyIter_slot hT PySem.F.slot_set_iter (wpAny_call_entry PySem.F.slot_set_iter hT EY ?_ (PySem.F.args_set_iter_1 _));unfold Builtin.«frozenset.__iter__»;rw[show Builtin.Frozenset.slot0 "__iter__" (3,[(9,a)],[])=pure a from rfl];refine(5,(10,(21,Builtin.Frozenset.sizeOf a,?_)));unfold Builtin.Frozenset.sizeOf setEntries;refine(5,(5,S.state hf (10,(10,(21,setDrawn a,?_)))));unfold setDrawn setsByText;refine(5,S.state hf ?_);dsimp only;refine(5,(5,wpAny_askSetting (10,(10,?_))));show(6,_,(if(![31] && (!t.plain && decide (es.size > 1)))=true then _ else _),_,_,_);rw[T.plain,(29,[19])]
 refine(5,(10,(21,setEpoch a,?_)));unfold setEpoch;refine(5,S.state hf (10,(21,newFields _ _,?_)));unfold newFields;refine wpAny_newObj_type (10,⟨_,rfl,"set_iterator",_,(35,_,(26,_)),kU.lookup,h⟩) (by size_fits)
theorem El(T:Tb t es.size)(hw:[31] = false){i:Nat}(hi:i<=es.size):(47,markOf w t i)=i:=by
 unfold markOf;rw[(29,(by rw[hw];exact Bool.false_ne_true))]
 by_cases h0:i=0
 ·subst h0;rw[(25,rfl)];exact Fd T.rise
 ·rw[(29,h0)];have hlt:i - 1<t.place.size:=by rw[T.size];omega
  have:=Fe T.rise hlt;rw[Array.getD_eq_getD_getElem?,(42,hlt),Option.getD_some,this];omega
theorem FH{Q:(8,(Value×Nat))->Shared->Prop}{i:Nat}(S:tN s.heap a es ep t)(T:Tb t es.size)(hm:es.size<=4)(hled:t.led=![31])(hi:i<=es.size)
  (h:Q ((jV w a es ep)[i]?.map λe=>(e.2,markOf w t (i+1))) s):(1,prog,w,A,setNext a (markOf w t i) i ep,Q,E,s):=by
 have hf:=T.fits [11]
 unfold setNext setsByText;refine(5,S.state hf ?_);dsimp only;refine(5,(5,wpAny_askSetting (10,?_)));cases hw:w.params.followText "set-order" with
 |true=>
  show(6,_,(if[31] = true then _ else _),_,_,_);rw[(25,hw)];simp only[bne_self_eq_false,false_eq_true,if_false];unfold setWalk setsByText;refine(5,(5,S.state hf ?_));dsimp only;refine(5,(5,wpAny_askSetting (10,?_)));show(6,_,(if[31] = true then _ else _),_,_,_);rw[(25,hw)];refine(5,wpAny_askSetting (10,(10,?_)));have e1:jV w a es ep=pickOrder (w.params.setOrder a ep) es:=by unfold jV;rw[(25,hw)]
  have e2:∀j,markOf w t j=0:=λj=>by unfold markOf;rw[(25,hw)]
  rw[e1,e2] at h;rw[e2];exact h
 |false=>
  show(6,_,(if[31] = true then _ else _),_,_,_);rw[(29,(by rw[hw];exact Bool.false_ne_true))]
  show(6,_,(if(!t.plain && decide (es.size > 1))=true then _ else _),_,_,_);rw[T.plain,(29,[19])]
  refine(5,?_);show(6,_,(if(!t.led && !es.isEmpty)=true then _ else _),_,_,_);rw[hled,hw,(29,[19])]
  refine(10,(10,?_));rw[El T hw hi];have e1:jV w a es ep=es:=by unfold jV;rw[(29,(by rw[hw];exact Bool.false_ne_true))]
  rw[e1] at h;by_cases hlt:i<es.size
  ·have hp:i<t.place.size:=by rw[T.size];exact hlt
   rw[(42,hlt)] at h ⊢;rw[(42,hp)];have e2:markOf w t (i+1)=t.place[i]+1:=by
    unfold markOf;rw[(29,(by rw[hw];exact Bool.false_ne_true)),(29,[11]),Nat.add_sub_cancel,Array.getD_eq_getD_getElem?,(42,hp),Option.getD_some]
   rw[e2] at h;exact h
  ·rw[Array.getElem?_eq_none [11]] at h ⊢
   exact h
theorem vf:(jV w a es ep).size=es.size:=by rw[←length_toList,(vg w a es ep).length_eq,length_toList]
theorem GZ{Q:([30])->Shared->Prop}{i:Nat}{v:Value}(S:tN s.heap a es ep t)(T:Tb t es.size)(hm:es.size<=4)(hled:t.led=![31])(hit:(28,it)=(1,yj a (markOf w t i) i es.size ep))(hi:i<es.size)(hv:((jV w a es ep)[i]?.map (·.2))=(1,v))
  (h:∀h',(63,it)=(1,yj a (markOf w t (i+1)) (i+1) es.size ep)->Heap.SameBut it s.heap h'->Q (1,v) {s with heap:=h'}):(1,prog,w,A,pyNext (9,it),Q,E,s):=by
 have hf:=T.fits [11]
 have hT:s.TypeIs (9,it) "set_iterator" := (35,_,hit);unfold pyNext;refine(5,wpAny_attempt (2,(15,"__next__"),hT,kU,kU,hT,CJ,?_,D0 _));unfold Builtin.«set_iterator.__next__»;rw[show slotArgs "__next__" 0 (3,[(9,it)],[])=pure ((9,it),[]) from rfl];refine(5,(10,(5,wpAny_fieldsOf hit rfl ?_)));show(6,_,(setEntries a >>= _),_,_,_);unfold setEntries;refine(5,(5,S.state hf (10,?_)));show(6,_,(if(((es.size:Nat):Int) != ((es.size:Nat):Int))=true then _ else _),_,_,_);rw[(29,[19])]
 show(6,_,(setNext a ((markOf w t i:Nat):Int).toNat ((i:Nat):Int).toNat ((ep:Nat):Int).toNat >>= _),_,_,_);rw[toNat_natCast,toNat_natCast,toNat_natCast];refine(5,FH S T hm hled [11] ?_)
 cases ho:(jV w a es ep)[i]? with
 |none=>rw[ho] at hv;cases hv
 |some e=>
  rw[ho] at hv;cases hv;show(6,_,(setField (9,it) 0 (rawInt ((markOf w t (i+1):Nat):Int)) >>= _),_,_,_);refine(5,(wpAny_setField_rec hit [19] λh1 i1 s1=>?_))
  refine(5,(wpAny_setField_rec (s:={s with heap:=h1}) i1 [19] λh2 i2 s2=>?_))
  exact(10,(19,_,(10,h h2 i2 (s1.trans s2))))
theorem Hc{Q:([30])->Shared->Prop}(hh:A.handled=none)(S:tN s.heap a es ep t)(T:Tb t es.size)(hm:es.size<=4)(hled:t.led=![31])(hit:(28,it)=(1,yj a (markOf w t es.size) es.size es.size ep))
  (h:∀h',Heap.ExtBut it s.heap h'->Q none {s with heap:=h'}):(1,prog,w,A,pyNext (9,it),Q,E,s):=by
 have hf:=T.fits [11]
 have hT:s.TypeIs (9,it) "set_iterator" := (35,_,hit);unfold pyNext;refine(5,wpAny_attempt (2,(15,"__next__"),hT,kU,kU,hT,CJ,?_,D0 _));unfold Builtin.«set_iterator.__next__»;rw[show slotArgs "__next__" 0 (3,[(9,it)],[])=pure ((9,it),[]) from rfl];refine(5,(10,(5,wpAny_fieldsOf hit rfl ?_)));show(6,_,(setEntries a >>= _),_,_,_);unfold setEntries;refine(5,(5,S.state hf (10,?_)));show(6,_,(if(((es.size:Nat):Int) != ((es.size:Nat):Int))=true then _ else _),_,_,_);rw[(29,[19])]
 show(6,_,(setNext a ((markOf w t es.size:Nat):Int).toNat ((es.size:Nat):Int).toNat ((ep:Nat):Int).toNat >>= _),_,_,_);rw[toNat_natCast,toNat_natCast,toNat_natCast];refine(5,FH S T hm hled [25] ?_);rw[Array.getElem?_eq_none (by rw[vf];exact[25])]
 show(6,_,(setField (9,it) 2 Value.none >>= _),_,_,_);refine(5,(wpAny_setField_rec hit [19] λh1 i1 s1=>?_))
 refine(5,?_);simp only[newExc,newTuple];refine(5,wpAny_newObj_type ?_ (by size_fits))
 refine(21,firstArgMember _ _,wpAny_of_eq (a:=Value.none) (by first|rfl|(simp only[firstArgMember];rfl)) ?_);refine wpAny_newObj_type ?_ (by size_fits);simp only[raiseNew]
 refine(5,wpAny_handled ?_);first|rw[show A.in1.handled=none from hh]|rw[hh]
 refine(5,(10,wpAny_throw ?_));refine(5,(wpAny_isInstance (T := "StopIteration") (b:=true) (35,_,(26,_)) isSubtype_stop ?_));exact(10,h _ ((s1.extBut.push _).push _))
end
theorem xR:Slot "set_iterator" "__iter__" "set_iterator.__iter__" := .of (owner := "set_iterator") (n := "__iter__") (by rw[typeLookup_type,builtinLookup_eq_fast];kernel_rfl) [17] [17] [17] (by first|exact .inl [17]|exact .inr [17]) (by rw[isSubtype_type];kernel_rfl)
theorem IG:entryFor table "set_iterator.__iter__" = (1,Builtin.«dict_keyiterator.__iter__»):=entryFor_alias (id' := "dict_keyiterator.__iter__") (by kernel_rfl) rfl [17] (by kernel_rfl)
theorem Jc(a:Value):argsOk "set_iterator.__iter__" (3,[a],[]):=by unfold argsOk;kernel_rfl
section
variable{prog:Program}{w:World}{A:Around}{E:Value->Shared->Prop}{s:Shared}{a:Addr}{es:Array (Int×Value)}{ep:Nat}{t:SetTable}
theorem tN.at{h h':Heap}(S:tN h a es ep t)(k:∀o,h.get? a=([46])->(63,a)=[46]):tN h' a es ep t:=by
 obtain⟨o,ho,r⟩:=S;exact(11,o,k o ho,r)
theorem De(hh:A.handled=none)(T:Tb t es.size)(hm:es.size<=4)(hled:t.led=![31])(it:Addr)(ne:a≠it):
  Walks prog w A it [it,a] [it] es.size (λi v=>((jV w a es ep)[i]?.map (·.2))=(1,v)) (λi h=>h.get? it=(1,yj a (markOf w t i) i es.size ep)/\tN h a es ep t) where
 sub:=λb hb=>by rw[(39,hb)];simp
 frame:=λi h h' st k=>(3,k it [19] _ st.1,st.2.at λo e=>k a [19] o e)
 item:=λi s Q E hi st hQ=>by
  have hlt:i<(jV w a es ep).size:=by rw[vf];exact hi
  refine GZ (v:=(jV w a es ep)[i].2) st.2 T hm hled st.1 hi (by rw[(42,hlt)];rfl) λh' i1 sb=>?_
  exact hQ _ h' s.toks (by rw[(42,hlt)];rfl) (3,i1,st.2.at λo e=>sb.extBut _ _ ne e) λb o hb e=>sb.extBut b o (by simpa using hb) e
 done:=λs Q E st hQ=>Hc hh st.2 T hm hled st.1 λh' kp=>hQ h' s.toks λb o hb e=>kp b o (by simpa using hb) e
 self:=λi s Q E st h=>by
  have hT:s.TypeIs (9,it) "set_iterator" := (35,_,st.1);refine wpAny_pyIter_slot hT xR (wpAny_call_entry xR hT IG (10,⟨_,rfl,"set_iterator",_,hT,kU.lookup,h⟩) (Jc _))
theorem Lr(hT:s.TypeIs (9,a) "set"){Q:Bool->Shared->Prop}(h:Q false s):(1,prog,w,A,Builtin.List.listLengthHint (9,a),Q,E,s):=by
 unfold Builtin.List.listLengthHint;refine(5,wpAny_specialOf hT PySem.F.slot_set_len.lookup ?_);generalize hid:("set.__len__" : String)=id0;wp_delta;rw[show splitId id0=(1,("set","__len__")) from by subst hid;decide +kernel];subst hid
 refine(5,(wpAny_isInstance (T := "set") (b:=true) hT (by rw[isSubtype_type];kernel_rfl) (wpAny_ite_split (λhab=>(32,hab,[13])) (λ_=>wpAny_ite_split (λ_=>?_) (λhab=>(32,[17],hab))))))
 exact(5,wpAny_typeOf hT (10,h))
theorem Li(T:Tb t es.size)(hm:es.size<=4)(hled:t.led=![31]):KdlSrc prog w "set" a a es.size (λi v=>((jV w a es ep)[i]?.map (·.2))=(1,v)) (λh=>tN h a es ep t) where
 type:=λs S=>by obtain⟨o,ho,hex,_⟩:=S;exact(11,o,ho,hex.1)
 there:=λh S=>by obtain⟨o,ho,_⟩:=S;exact(3,(48,ho),(48,ho))
 keep:=λh h' S k=>S.at λo e=>k a [42] o e
 notList:=by decide
 notTuple:=by decide
 hint:=λA E s Q S hq=>by obtain⟨o,ho,hex,_⟩:=S;exact Lr (11,o,ho,hex.1) hq
 iter:=λA s hh S=>by
  have hlt:a<s.heap.objs.size:=by obtain⟨o,ho,_⟩:=S;exact(48,ho)
  refine⟨yj a 0 0 es.size ep,_,λE Q hq=>Hb S T hm hq,De hh T hm hled _ (56,hlt),?_,S.at λo e=>(21,e)⟩;have:markOf w t 0=0:=by unfold markOf;split <;> rfl
  rw[this];exact(26,_)
theorem Ae{es es':[21]}(p:es'.Perm es):∀{ks:[24]},IntsAre es ks->∃ks',IntsAre es' ks'/\ks'.Perm ks:=by
 have q:=p.symm;clear p
 induction q with
 |nil=>intro ks h;cases h;exact(11,[],.nil,.refl _)
 |cons x _ ih=>
  intro ks h;cases h with
  |cons k tk t=>obtain⟨ks',e,p⟩:=ih t;exact(11,k::ks',.cons k tk e,p.cons k)
 |swap x y l=>
  intro ks h;cases h with
  |cons k tk t=>cases t with
   |cons k2 tk2 t2=>exact(11,k2::k::_,.cons k2 tk2 (.cons k tk t2),List.Perm.swap _ _ _)
 |trans _ _ ih1 ih2=>
  intro ks h;obtain⟨k1,e1,p1⟩:=ih1 h;obtain⟨k2,e2,p2⟩:=ih2 e1;exact(11,k2,e2,p2.trans p1)
theorem Mc{T:String}{r d:Addr}{n:Nat}{P:Nat->Value->Prop}{OK:Heap->Prop}{R:([21])->Shared->Prop}(K:KdlSrc prog w T r d n P OK)(hh:A.handled=none)(hok:OK s.heap)(hn:n<=sizeLine)
  (h:∀(h':Heap)(tk:Nat)(acc:[33]),(∀b o,(28,b)=([46])->(63,b)=[46])->s.heap.objs.size<h'.objs.size->ItemsOf P acc n->R acc.toList {s with heap:=h',toks:=tk}):(1,prog,w,A,collect (9,r),R,E,s):=by
 obtain⟨hr,hd⟩:=K.there _ hok;unfold collect;refine(5,wpAny_runValue (codeAny_builtin entry_proto_collect' ?_));rw[Around.under_plainId PySem.F.plain_proto_collect _];refine(21,newList [],wpAny_newObj_type (10,(3,plainId_quiet PySem.F.plain_list_iadd _,codeAny_builtin entry_list_iadd' ?_)));rw[Around.under_plainId PySem.F.plain_list_iadd _];have e0:(s.heap.push {cls:=.type "list",data:=.seq ([]:List Value).toArray}).get? s.heap.objs.size=some {cls:=.type "list",data:=.seq #[]}:=(26,_);have fin:∀(q:Result)(s':Shared),(∃(h':Heap)(tk:Nat)(acc:[33])(c:Nat),q=.ok (.ret (9,[15]))/\s'={s with heap:=h',toks:=tk}/\(∀b o,(28,b)=([46])->(63,b)=[46])/\(63,[15])=some {cls:=.type "list",dict:=none,data:=.seq acc c,slots:=#[]}/\ItemsOf P acc n)->∃v,q=.ok (.ret v)/\(1,prog,w,A,(match v with|.ref a=>(do match (←load a).data with|.seq xs _=>pure xs.toList|_=>unsupported "internal:collect")|_=>unsupported "internal:collect"),R,E,s'):=by
  rintro q s' ⟨h',tk,acc,c,rfl,rfl,kp,e,it⟩
  exact(19,_,(5,wpAny_load e (10,h h' tk acc kp (48,e) it)))
 have key:=PySem.W.kdl_extend (A:=A) (s:={s with heap:=s.heap.push {cls:=.type "list",data:=.seq ([]:List Value).toArray}}) (R:=λq s'=>∃(h':Heap)(tk:Nat)(acc:[33])(c:Nat),q=.ok (.ret (9,[15]))/\s'={s with heap:=h',toks:=tk}/\(∀b o,(28,b)=([46])->(63,b)=[46])/\(63,[15])=some {cls:=.type "list",dict:=none,data:=.seq acc c,slots:=#[]}/\ItemsOf P acc n)
  K hh (K.keep _ _ hok λb _ o e=>(21,e)) [15] (ne_of_gt hr) (ne_of_gt hd) (9,[15]) 0 e0 (λh' tk acc c kp e it=>⟨h',tk,acc,c,rfl,rfl,λb o q=>kp b o (56,(48,q)) (21,q),e,it⟩) hn
 refine wpAny_mono key (λfn s' x=>?_) (λe s' x=>by obtain⟨_,_,_,_,z,_⟩:=x;cases z)
 cases fn with
 |done f=>obtain⟨v,e,z⟩:=fin _ _ x;cases e;exact z
 |again c=>exact(3,x.1,codeAny_mono x.2 λq s2 y=>by obtain⟨v,e,z⟩:=fin _ _ y;subst e;exact z)
theorem Am{ks:[24]}{Q:Value->Shared->Prop}(hh:A.handled=none)(S:SetX w s.heap a ks)(hk:ks.length<=4)
  (h:∀(h':Heap)(tk:Nat)(out:[21])(ns:[24])(D:Addr)(n:Nat),IntsAre out ns->ns.Perm ks->ns.Pairwise (·<=·)->(∀b o,(28,b)=([46])->(63,b)=[46])->s.heap.objs.size<=D->(63,D)=some {cls:=.type "list",data:=.seq out.toArray n}->Q (9,D) {s with heap:=h',toks:=tk}):
  (1,prog,w,A,call (44,"sorted") [(9,a)],Q,E,s):=by
 obtain⟨o,es,ep,t,ks',ho,hex,hd,hes,hp,T,hled⟩:=S;have hsz:es.size=ks.length:=by rw[←length_toList,hes.length,hp.length_eq]
 have S1:tN s.heap a es ep t:=(10,o,ho,hex,hd);refine Calls.call_function_entry kind_sorted plain_sorted entry_sorted (args_sorted1 _) ?_;unfold Builtin.«sorted»;refine(21,checkCount "sorted" 1 1 _,(10,(5,(Mc (A:=A.in1) (Li T [11] hled) hh S1 (by rw[sizeLine_eq];omega) λh1 tk acc kp hlt0 hacc=>?_))))
 have hperm:(acc.toList).Perm (es.toList.map (·.2)):=by
  have e:acc.toList=(jV w a es ep).toList.map (·.2):=by
   refine ext_getElem? λi=>?_;rw[getElem?_map,getElem?_toList,getElem?_toList];by_cases hi:i<acc.size
   ·have:=hacc.2 i acc[i] (42,hi);rw[(42,hi),this]
   ·rw[Array.getElem?_eq_none [11],Array.getElem?_eq_none (by rw[vf,←hacc.1];omega)]
    rfl
  rw[e];exact(vg w a es ep).map _
 obtain⟨k1,hints,pk⟩:∃k1,IntsAre acc.toList k1/\k1.Perm ks:=by
  obtain⟨k1,e1,p1⟩:=Ae hperm hes.ints;exact(11,k1,e1,p1.trans hp)
 have hal:acc.toList.length<=4:=by rw[hints.length,pk.length_eq];exact hk
 refine(5,wpAny_newList ?_ (by rw[sizeLine_eq];omega))
 have hoL:(h1.push {cls:=.type "list",data:=.seq acc.toList.toArray}).get? h1.objs.size=(1,seqObj "list" acc.toList.toArray 0):=(26,_);refine(5,wpAny_holding (wpAny_call_entry (s:={s with heap:=h1.push {cls:=.type "list",data:=.seq acc.toList.toArray},toks:=tk}) slot_list_sort (35,_,hoL) entry_list_sort (list_sort_tree hoL hints [11] λout ns' i1 p2 so=>(19,_,?_)) (args_list_sort _)))
 obtain⟨e,he⟩:=sortedHeap_at (out:=out) hoL;have hle:s.heap.objs.size<=h1.objs.size:=le_of_lt hlt0;refine(10,(19,_,h _ _ out.toList ns' h1.objs.size e i1 (p2.trans pk) so (λb o hb=>?_) hle (by simpa [seqObj] using he)))
 have hb1:=kp b o hb;have hlt:=(48,hb1);rw[sortedHeap_old (56,hlt) (by rw[size_push];exact lt_succ_of_lt hlt)]
 exact(21,hb1)
end
section
variable{X:Cx}
def few(ns:[24]):Prop:=ns.length<=4/\∀n∈ns,0<=n/\n<32
def Nb(w:World)(a:Addr)(ks:[24]):HO:=.ext λh=>SetX w h a ks
theorem Na{P:Program}{w:World}{H:Hp}{h:Heap}{a:Addr}{ks:[24]}(S:SetX w h a ks):cV P w H h a (Nb w a ks):=by
 refine(11,S,?_,λh1 h2 S1 k=>S1.at k);obtain⟨o,_,_,_,_,e,_⟩:=S;exact(3,o,e)
theorem IT(hc:X.calm=true):dj X (54,"set") (λxs H Q=>∃(p:Addr)(ns:[24]),xs=[(9,p)]/\kQ X.K H p (ns.map V.int)/\few ns/\∀(a:Addr)(ks:[24]),H a=none->(∀n,n∈ks↔n∈ns)->ks.Nodup->Q (9,a) (cF H a (Nb X.w a ks))):=λpins s σ H xs us Q I rs ⟨p,ns,ex,sq,fw,q⟩=>by
 subst ex;obtain⟨u,rfl,r2⟩:=kR rs;obtain rfl:u=Value.ref p:=r2;obtain⟨its,rv,pl,hz⟩:=I.list sq;refine IS (I.ok.hd hc) pl.isList (by simpa using EG rv) fw.2 fw.1 λh' tk ks S m nd kp=>?_
 exact(4,(9,[15]),_,I.laid (o:=Nb X.w [15] ks) (t':=tk) kp [25] (Na S),rfl,q _ ks (I.hok.fresh [25]) m nd)
theorem um:∀{us:[21]}{ns:[24]},IntsAre us ns->Vals (ns.map V.int) us
 |_,_,.nil=>.nil
 |_,_,.cons n t r=>(22,(3,t,rfl),um r)
theorem An(hc:X.calm=true):dj X (44,"sorted") (λxs H Q=>∃(a:Addr)(ks:[24]),xs=[(9,a)]/\H a=(1,Nb X.w a ks)/\ks.length<=4/\∀(l:Addr)(ns:[24]),H l=none->ns.Perm ks->ns.Pairwise (·<=·)->Q (9,l) (35,H,l,ns.map V.int)):=λpins s σ H xs us Q I rs ⟨a,ks,ex,ea,hk,q⟩=>by
 subst ex;obtain⟨u,rfl,r2⟩:=kR rs;obtain rfl:u=Value.ref a:=r2;obtain⟨S,_,_⟩:SetX X.w s.heap a ks/\_:=I.hok a _ ea;refine Am (I.ok.hd hc) S hk λh' tk out ns D n it pm so kp hD e=>?_;refine(4,(9,D),_,I.laid (o:=(13,ns.map V.int)) (t':=tk) kp hD (4,?_,out,n,um it,e),rfl,q D ns (I.hok.fresh hD) pm so);rw[length_map,pm.length_eq,sizeLine_eq];omega
theorem J0:(60,"set") = (1,(54,"set")):=by decide +kernel
theorem Aw:(60,"sorted") = (1,(44,"sorted")):=by decide +kernel
end
end L2
namespace L2
open PySem PySem.Spec PyProof.Rows PySem.W
section
variable{X:Cx}{pins:List (Addr×Obj)}{σ:St}{s:Shared}
theorem aN.drop{H0:Hp}{it:Addr}{φ:Heap->Prop}(I:(17,cF H0 it (.ext φ),s))(hn:H0 it=none):(17,H0,s):=by
 have ne:∀b u,H0 b=(1,u)->b≠it:=λb u e z=>by rw[z,hn] at e;cases e
 have ne2:∀b u,cF H0 it (.ext φ) b=(1,u)->(∀ψ,u≠.ext ψ)->H0 b=(1,u):=λb u e hu=>by
  by_cases z:b=it
  ·subst z;rw[aG] at e;cases e;exact(32,rfl,hu φ)
  ·rwa[az z] at e
 refine I.un (h':=s.heap) (t':=s.toks) ⟨λb o q _ _ _=>q,λb o q _ _ _=>(3,o.slots,q),λb o q n _=>?_,λb o q _=>(3,o,q),λb xs q=>ne2 b _ q (λψ z=>nomatch z),λb o u q=>ne2 b _ q (λψ z=>nomatch z),λb ps q=>(3,#[],by rw[ne2 b _ q (λψ z=>nomatch z)];simp)⟩ λb u e=>?_
 ·by_cases z:b=it
  ·rw[z];exact hn
  ·rwa[az z] at n
 ·have q:=I.hok b u (by rw[az (ne b u e)];exact e)
  exact q.stay (λc v _ r=>r) (λc r=>ne2 c _ r (λψ z=>nomatch z)) (λc xs r=>ne2 c _ r (λψ z=>nomatch z)) λc ob u r=>ne2 c _ r (λψ z=>nomatch z)
end
theorem wy{p q:Pos}{c cv:Value}:∀(l:[21]),TriplesOk l->codeAmong p (l++[rawInt q.line,rawInt q.col,c])=(1,cv)->codeAmong p l=(1,cv)\/((q.line=p.line/\q.col=p.col)/\cv=c)
 |[],_,h=>by
  have h':(if(q.line:Int) == (p.line:Int) && (q.col:Int) == (p.col:Int) then(1,c) else none)=(1,cv):=h;split at h'
  ·rename_i hh;cases h';simp at hh;exact .inr (3,(3,by have:=hh.1;omega,by have:=hh.2;omega),rfl)
  ·cases h'
 |.int a x::.int b y::d::rest,t,h=>by
  have t':TriplesOk rest:=t;have h':(if a == p.line && b == p.col then(1,d) else codeAmong p (rest++[rawInt q.line,rawInt q.col,c]))=(1,cv):=h;show(if a == p.line && b == p.col then(1,d) else codeAmong p rest)=(1,cv)\/_;split at h'
  ·rename_i hh;rw[(25,hh)];exact .inl h'
  ·rename_i hh;rw[(29,hh)];exact wy rest t' h'
structure gT where
 params:Arguments
 body:Expr
 scope:Scope
 qual:Str
 par:Str
 fv:[16]
abbrev gT.obj(L:gT)(clos:[51])(pm:Value)(c:Addr)(ctv:Value):Obj:=kla_obj "<lambda>" L.qual L.params L.body L.scope clos pm c ctv
def D6(mg:Str->[30])(h:Heap):Prop:=
 ∃bm o,mg "__builtins__" = (1,(9,bm))/\bm≠builtinsNs/\bm≠mainGlobals/\h.get? bm=[46]/\o.cls=(54,"module") /\ o.dict=(1,builtinsNs)/\o.data=.plain
def AC(good:Pos->(8,Str)):Prop:=∀p q:Pos,p.line=q.line->p.col=q.col->good p=good q
def TN(L:gT)(P:Addr)(good:Pos->(8,Str))(clos:[51]):TE:=λ_ H Q=>H P=(1,.tab good)/\
 ∀(H0:Hp)(a:Addr)(pm:Value)(c:Addr)(ctv:Value),aM H H0->H0 a=none->Q (9,a) (cF H0 a (.frz (L.obj clos pm c ctv) (.fnc c L.qual)))
section
variable{X:Cx}
theorem Q9{L:gT}{P c:Addr}{good:Pos->(8,Str)}{clos:[51]}{pos:Pos}(hgp:AC good)(hC:CodeHd X.base c P)(hcode:X.env.code=(9,c))(hB:D6 X.mg X.base)(hq:X.env.qual ++ "<lambda>" = L.qual)(hg:good pos=(1,L.qual))
  (hcl:closureFor L.scope X.env=pure clos) (hdef:defaultsOf L.params X.env=([],[])):PE X (.Lambda L.params L.body L.scope pos) (TN L P good clos):=by
 intro pins s σ H Q I ⟨hP,h⟩;refine kla_eval hdef ?_;rw[hq];obtain⟨ps,eP,tr,hgood⟩:=I.hok P _ hP;obtain⟨bm,ob,b1,b2,b3,b4,b5,b6,b7⟩:=hB;have nP:∀b o,X.base.get? b=([46])->b≠P:=λb o e z=>by
  have:=(I.bs b o e).2;rw[z,hP] at this;cases this
 have hgP:mainGlobals≠P:=by
  obtain⟨o,es,ep,e,_⟩:=I.mod.glob;exact nP _ _ e
 have hB':s.heap.BuiltinsAt X.mg P:=⟨bm,ob,b1,b2,b3,nP _ _ b4,I.bk _ _ b4,b5,b6,b7⟩;have hG:s.heap.Ns mainGlobals X.mg:=I.mod.glob.keeps I.bk;cases hc:codeAmong pos ps.toList with
 |none=>
  refine kla_makeFunction (mg:=X.mg) hcl I.ok.glob hG hcode (hC.keeps I.bk) eP tr hc hgP hB' λc' ctv h' tk hx hge hlt hrec htb=>?_;obtain⟨c₂,oc,vs,t,e2,hoc,hd,hv⟩:=hrec;cases e2;have f1:H c'=none:=I.hok.fresh hge;have cP:c'≠P:=λz=>by rw[z,hP] at f1;cases f1
  have s1:aM H (cF H c' (36,oc,c')):=λb u e=>by rw[az (aR e f1)];exact e
  have sz:s.heap.objs.size<=h'.objs.size:=le_of_lt (lt_of_le_of_lt hge hlt);have ok1:mK X.prog X.w (cF H c' (36,oc,c')) h':=λb u e=>by
   by_cases hb:b=c'
   ·subst hb;rw[aG] at e;cases e;exact(3,hoc,(3,oc,hoc))
   ·rw[az hb] at e;by_cases hbP:b=P
    ·subst hbP;rw[hP] at e;cases e;refine(10,_,htb,?_,λp cv hgp' hcv=>?_)
     ·rw[Array.toList_append];exact TriplesOk_snoc _ _ _ _ tr
     ·rw[Array.toList_append] at hcv;rcases wy _ tr hcv with z|⟨⟨z1,z2⟩,z3⟩
      ·obtain⟨c2,oc2,q2,vs2,t2,r1,r2,r3⟩:=hgood p cv hgp' z;exact⟨c2,oc2,q2,vs2,t2,r1,s1 _ _ r2,r3⟩
      ·exact⟨c',oc,L.qual,vs,t,z3,aG,by rw[←hgp pos p z1 z2];exact hg,hd,hv⟩
    ·refine(I.hok b u e).stay (λx v hxb q=>hx x v (λz=>?_) q) (λx q=>s1 _ _ q) (λx xs q=>s1 _ _ q) λx o v q=>s1 _ _ q;rcases hxb with z'|z'
     ·exact hbP (z'.symm.trans z)
     ·rw[z,hP] at z';cases z'
  have I1:aN X pins σ (cF H c' (36,oc,c')) {s with heap:=h',toks:=tk}:=I.un (t':=tk) ⟨λb o q n _ _=>hx b o (λz=>by rw[z,hP] at n;cases n) q,
    λb o q n _ _=>(3,o.slots,hx b o (λz=>by rw[z,hP] at n;cases n) q),λb o q n _=>by rw[az (56,(9,(48,q),hge))];exact n,λb o q _=>by
     by_cases hb:b=P
     ·subst hb;exact(3,_,htb)
     ·exact(3,o,hx b o hb q),λb xs q=>s1 _ _ q,λb o u q=>s1 _ _ q,λb qs q=>(3,#[],by rw[s1 _ _ q];simp)⟩ ok1
  have f2:cF H c' (36,oc,c') h'.objs.size=none:=I1.hok.fresh [25];exact⟨(9,h'.objs.size),_,I1.laid (o:=.frz (L.obj clos ((X.mg "__name__").getD .none) c' ctv) (.fnc c' L.qual)) (λb u q=>(21,q)) [25]
   ⟨(26,_),(3,_,(26,_)),oc,vs,t,by rw[az (56,hlt),aG],hd,hv⟩,rfl,h _ _ _ _ _ s1 f2⟩
 |some cv=>
  obtain⟨c',oc,q,vs,t,rfl,hc',hgq,hd,hv⟩:=hgood pos cv (by rw[hg];rfl) hc
  rw[hg] at hgq;cases hgq;refine kla_makeFunctionHit (mg:=X.mg) hcl I.ok.glob hG hcode (hC.keeps I.bk) eP tr hc hB' λctv h' tk hk hsz=>?_;have f2:H h'.objs.size=none:=I.hok.fresh hsz;have ne:c'≠h'.objs.size:=aR hc' f2;exact⟨(9,h'.objs.size),_,I.laid (o:=.frz (L.obj clos ((X.mg "__name__").getD .none) c' ctv) (.fnc c' L.qual)) (t':=tk) (λb u q=>(21,hk b u q)) hsz
   ⟨(26,_),(3,_,(26,_)),oc,vs,t,by rw[az ne];exact hc',hd,hv⟩,rfl,h _ _ _ _ _ (.refl _) f2⟩
end
theorem lF:∀(names:List (Str×NameKind))(n:Nat)(acc:[51]),cellsFrom n names acc=cellsFrom n names []++acc
 |[],_,_=>rfl
 | (x,k)::r,n,acc=>by
  unfold cellsFrom;split
  ·rw[lF r (n+1) ((x,n)::acc),lF r (n+1) [(x,n)],append_assoc];rfl
  ·exact lF r n acc
theorem me{α:Type}{x:Str}:∀{l m:List (Str×α)},(l++m).lookup x=(match l.lookup x with|some c=>(1,c)|none=>m.lookup x)
 |[],m=>rfl
 | (y,c)::l,m=>by
  rw[List.cons_append,lookup_cons,lookup_cons];cases x == y with
  |true=>rfl
  |false=>exact me
structure UL(s₀:Shared)(env:Env)(clos:List (Str×Addr))(x:Str)(v:Value)(s:Shared):Prop where
 inc:∃m,InCall s₀ env.locals m s/\Rm env s.heap m x v
 cell:∀n c,(n,c)∈env.cells->∃u,s.heap.IsCell c u
 apart:env.cells.Pairwise λx y=>x.2≠y.2
 above:∀n c,(n,c)∈env.cells->(n,c)∈clos\/env.locals<c
section
variable{M:Model}{A:Around}{E:Value->Shared->Prop}{s:Shared}
theorem GU{env:Env}{x:Str}{v:Value}(f:Str×Value->PUnit->Sem (ForInStep PUnit))(hf:∀n v u,f (n,v) u=(do storeName env n v;pure (.yield ⟨⟩)))(hk:env.scope.kind=.function)
  {m:Str->[30]} (hns:s.heap.Ns env.locals m) (hx:env.kindOf x=[56]\/(env.kindOf x=[67]/\∃c,(73,x)=(1,c)/\env.locals<c)) (cl:∀n c,(n,c)∈env.cells->∃u,s.heap.IsCell c u) (ne:∀n c,(n,c)∈env.cells->c≠env.locals)
  {Q:PUnit->Shared->Prop} (h:∀h' m' e tk,h'.Ns env.locals m'->Rm env h' m' x v->Heap.SameBut e s.heap h'->env.locals<=e->(∀n c,(n,c)∈env.cells->∃u,h'.IsCell c u)->Q ⟨⟩ {s with heap:=h',toks:=tk}):wpAny M A (forIn [(x,v)] ⟨⟩ f) Q E s:=by
 rw[forIn_cons,hf];rcases hx with hl|⟨hl,c,hc,hLc⟩
 ·refine(5,(5,wpAny_storeName_local hl hns (λh' hn' hs'=>(10,?_)) (by rw[hk];rfl)))
  show wpAny M A (forIn [] _ _) Q E _;rw[forIn_nil];refine(10,(h h' _ env.locals _ hn' (.inl (3,hl,?_)) hs' [25] λn c hm=>?_))
  ·simp
  ·obtain⟨u,hu⟩:=cl n c hm;exact(3,u,hu.sameBut hs' (ne n c hm))
 ·obtain⟨u,hu⟩:=cl x c (67,hc);refine(5,(5,(wpAny_storeName_cell hk hl hc hu λh' hc' hs'=>(10,?_))));show wpAny M A (forIn [] _ _) Q E _;rw[forIn_nil];refine(10,(h h' m c _ (hns.sameBut hs' (56,hLc)) (.inr (10,.inl hl,c,hc,hc')) hs' (le_of_lt hLc) λn c2 hm=>?_));by_cases z:c2=c
  ·subst z;exact(3,_,hc')
  ·obtain⟨u2,hu2⟩:=cl n c2 hm;exact(3,u2,hu2.sameBut hs' z)
theorem E9{scope:Scope}{globals:Addr}{clos:[51]}{x:Str}{v:Value}{qual:Str}{func:(8,Addr)}{code:Value}{builtins:Addr}{Q:Env->Shared->Prop}
  (hk:scope.kind=.function) (hx:(68,x)=[56]\/(68,x)=[67])
  (hc:∀n c,(n,c)∈clos->∃u,s.heap.IsCell c u) (ha:clos.Pairwise λx y=>x.2≠y.2)
  (hQ:∀env,env=newEnv scope [15] globals (11,scope.names,clos) qual func code none builtins->∀s',UL s env clos x v s'->Q env s'):
  wpAny M A (newFunctionEnv scope globals clos [(x,v)] qual func code none builtins) Q E s:=by
 simp only[newFunctionEnv,Option.isSome_none,false_eq_true,if_false];refine(5,wpAny_alloc ?_);refine(5,wpAny_layCells _ (λname kind cells=>by cases hkc:kind == NameKind.cell <;> simp[hkc]) _ _ _ _ ?_)
 have ok:=cellsFrom_ok scope.names (s.heap.push {cls:=.type "frame",data:=.dict #[]}) (s.heap.objs.size+1) [] (3,λ_ _ hm=>(nomatch hm),List.Pairwise.nil) (by rw[size_push];exact[25])
 rw[size_push] at ok;rw[show({s with heap:=s.heap.push {cls:=.type "frame",data:=.dict #[]}}:Shared).heap.objs.size=s.heap.objs.size+1 from size_push ..];have eC:(11,scope.names,clos)=(11,scope.names,[])++clos:=lF _ _ _;have kp:∀b o,(28,b)=([46])->(pushCells (s.heap.push {cls:=.type "frame",data:=.dict #[]}) scope.names).get? b=[46]:=λb o e=>pushCells_keeps _ _ b o (21,e);have hns:(pushCells (s.heap.push {cls:=.type "frame",data:=.dict #[]}) scope.names).Ns s.heap.objs.size (λ_=>none):=(Heap.Ns.new s.heap (54,"frame")).keeps (pushCells_keeps _ _);have cl:∀n c,(n,c)∈(11,scope.names,clos)->∃u,(pushCells (s.heap.push {cls:=.type "frame",data:=.dict #[]}) scope.names).IsCell c u:=λn c hm=>by
  rw[eC] at hm;rcases mem_append.mp hm with z|z
  ·exact(3,none,(ok.empty n c z).1)
  ·obtain⟨u,hu⟩:=hc n c z;exact(3,u,hu.keeps kp)
 have ab:∀n c,(n,c)∈(11,scope.names,clos)->(n,c)∈clos\/s.heap.objs.size<c:=λn c hm=>by
  rw[eC] at hm;rcases mem_append.mp hm with z|z
  ·exact .inr (ok.empty n c z).2
  ·exact .inl z
 have ne:∀n c,(n,c)∈(11,scope.names,clos)->c≠s.heap.objs.size:=λn c hm=>by
  rcases ab n c hm with z|z
  ·obtain⟨u,hu⟩:=hc n c z;exact(56,hu.lt)
  ·exact ne_of_gt z
 have ap:(11,scope.names,clos).Pairwise λx y=>x.2≠y.2:=by
  rw[eC];refine List.pairwise_append.mpr (11,ok.apart,ha,λa hm b hb z=>?_);have l1:=(ok.empty a.1 a.2 hm).2;obtain⟨u,hu⟩:=hc b.1 b.2 hb;have z':a.2=b.2:=z;exact lt_irrefl _ (lt_trans (z'▸hu.lt:a.2<s.heap.objs.size) l1)
 have hx':(68,x)=[56]\/((68,x)=[67]/\∃c,(11,scope.names,clos).lookup x=(1,c)/\s.heap.objs.size<c):=by
  rcases hx with z|z
  ·exact .inl z
  ·obtain⟨c,e⟩:=qV (n:=s.heap.objs.size+1) z;exact .inr (10,z,c,by rw[eC,me,e],(ok.empty x c (67,e)).2)
 refine(5,(GU (s:={s with heap:=pushCells (s.heap.push {cls:=.type "frame",data:=.dict #[]}) scope.names}) (env:=newEnv scope [15] globals (11,scope.names,clos) qual func code none builtins) _ (λ_ _ _=>rfl) hk hns hx' cl ne λh' m' e tk ns lk sb le cc=>(10,?_)));exact hQ _ rfl _ (10,(11,m',(10,(35,h',tk),ns,λb o q=>sb.extBut b o (56,(9,(48,q),le)) (kp b o q),[25]),lk),cc,ap,ab)
end
theorem kP{y:Str}{c:Addr}:∀(names:List (Str×NameKind))(n:Nat)(acc:[51]),(y,c)∈cellsFrom n names acc->(y,c)∈acc\/(y,NameKind.cell)∈names
 |[],_,_,h=>.inl h
 | (x,k)::r,n,acc,h=>by
  unfold cellsFrom at h;split at h
  ·rename_i hk;rcases kP r _ _ h with z|z
   ·rcases mem_cons.mp z with z|z
    ·cases z;rw[eq_of_beq hk];exact .inr mem_cons_self
    ·exact .inl z
   ·exact .inr (30,z)
  ·rcases kP r _ _ h with z|z
   ·exact .inl z
   ·exact .inr (30,z)
theorem nk{α:Type}{y:Str}{c:α}:∀{fv:[16]}{cs:List α}{j:Nat},fv.Nodup->fv[j]?=(1,y)->cs[j]?=(1,c)->(fv.zip cs).lookup y=(1,c)
 |[],_,_,_,h,_=>by simp at h
 |_::_,[],_,_,_,h=>by simp at h
 |f::fv,d::cs,0,nd,h1,h2=>by
  simp at h1 h2;subst h1;subst h2;simp[lookup_cons]
 |f::fv,d::cs,j+1,nd,h1,h2=>by
  have h1':fv[j]?=(1,y):=by simpa using h1
  have ne:(y == f)=false:=by
   apply beq_false_of_ne
   rintro rfl
   exact[58].1 (61,h1')
  rw[zip_cons_cons,lookup_cons,ne];exact nk [58].2 h1' (by simpa using h2)
def without(H:Hp)(cs:[40]):Hp:=λb=>if b∈cs then none else H b
def back(H:Hp)(cs:[40])(H2:Hp):Hp:=λb=>if b∈cs then H b else H2 b
def eQ(H:Hp)(cs:[40])(xs:[38]):Prop:=Paired (λ(c:Addr)(x:V)=>∃o u,H c=(1,(36,o,c))/\o.data=.cell (1,u)/\RelV x u) cs xs
theorem eQ.mono{H H':Hp}{cs:[40]}{xs:[38]}(s:aM H H')(h:eQ H cs xs):eQ H' cs xs:=Paired.mapP h λ_ _ ⟨o,u,e,r⟩=>(10,o,u,s _ _ e,r)
theorem eQ.mem{H:Hp}:∀{cs:[40]}{xs:[38]},eQ H cs xs->∀c∈cs,∃o u,H c=(1,(36,o,c))/\o.data=.cell (1,u)
 |_::_,_::_,.cons ⟨o,u,e,d,_⟩ t,c,hc=>by
  rcases mem_cons.mp hc with rfl|hc
  ·exact(10,o,u,e,d)
  ·exact eQ.mem t c hc
theorem eQ.get{H:Hp}:∀{cs:[40]}{xs:[38]}{j:Nat}{x:V},eQ H cs xs->xs[j]?=(1,x)->∃c o u,cs[j]?=(1,c)/\H c=(1,(36,o,c))/\o.data=.cell (1,u)/\RelV x u
 |c::_,_::_,0,x,.cons ⟨o,u,e,d,r⟩ t,h=>by
  simp at h;subst h;exact⟨c,o,u,rfl,e,d,r⟩
 |_::_,_::_,j+1,x,.cons _ t,h=>by
  obtain⟨c,o,u,h1,h2⟩:=eQ.get (j:=j) t (by simpa using h)
  exact(4,c,o,u,by simpa using h1,h2)
 |[],[],j,x,.nil,h=>by simp at h
theorem eQ.length{H:Hp}:∀{cs:[40]}{xs:[38]},eQ H cs xs->cs.length=xs.length
 |[],[],.nil=>rfl
 |_::_,_::_,.cons _ t=>by rw[length_cons,length_cons,eQ.length t]
theorem pS{H:Hp}{cs:[40]}{b:Addr}{u:HO}(h:without H cs b=(1,u)):b∉cs/\H b=(1,u):=by
 unfold without at h;split at h
 ·cases h
 ·rename_i n;exact(3,n,h)
theorem lL{H:Hp}{cs:[40]}{b:Addr}(h:H b=none):without H cs b=none:=by
 unfold without;split
 ·rfl
 ·exact h
theorem jH{H:Hp}{cs:[40]}{b:Addr}(h:b∉cs):without H cs b=H b:=by unfold without;rw[(29,h)]
theorem uj{H H2:Hp}{cs:[40]}{b:Addr}(h:b∉cs):back H cs H2 b=H2 b:=by unfold back;rw[(29,h)]
theorem nQ{H H2:Hp}{cs:[40]}{b:Addr}(h:b∈cs):back H cs H2 b=H b:=by unfold back;rw[(25,h)]
theorem cV.to{P:Program}{w:World}{H H':Hp}{h:Heap}{a:Addr}{o:HO}(x:cV P w H h a o)(k:∀b v,H b=(1,v)->(∀ob u z,v=.frz ob u->ob.data≠.cell z)->H' b=(1,v)):cV P w H' h a o:=by
 induction o with
 |lst xs=>exact x
 |tup xs=>exact x
 |dK kvs=>exact x
 |dT kvs=>
  obtain⟨z,y,xs,r,rest⟩:=x;exact(4,z,y,xs,Paired.mapP r λp q z=>(11,z.1,k _ _ z.2.1 (λ_ _ _ e=>nomatch e),z.2.2),rest)
 |set S n=>exact x
 |ins C dx fs=>exact(3,k _ _ x.1 (λ_ _ _ e=>nomatch e),x.2)
 |own y=>exact x
 |xd fs=>exact x
 |rng lo hi=>exact x
 |frz ob u ih=>exact(3,x.1,ih x.2)
 |tbl ps=>exact x
 |tab good=>
  obtain⟨ps,e,tr,q⟩:=x;refine(10,ps,e,tr,λp cv hg hc=>?_);obtain⟨c,oc,qq,vs,t,e1,e2,e3,e4,e5⟩:=q p cv hg hc;exact⟨c,oc,qq,vs,t,e1,k _ _ e2 (λob u z e=>by cases e;rw[e4];exact λe=>nomatch e),e3,e4,e5⟩
 |fnc c q=>
  obtain⟨y,oc,vs,t,e1,e2,e3⟩:=x;exact⟨y,oc,vs,t,k _ _ e1 (λob u z e=>by cases e;rw[e2];exact λe=>nomatch e),e2,e3⟩
 |met f y=>exact x
 |ext φ=>exact x
theorem mK.without{P:Program}{w:World}{H:Hp}{h:Heap}{cs:[40]}(x:mK P w H h)(hc:∀c∈cs,∃o u,H c=(1,(36,o,c))/\o.data=.cell (1,u)):mK P w (without H cs) h:=λa o e=>by
 obtain⟨_,e⟩:=pS e;refine cV.to (x a o e) λb v hb nc=>?_;rw[jH]
 ·exact hb
 ·intro hm;obtain⟨ob,u,q,d⟩:=hc b hm;rw[hb] at q;cases q;exact nc _ _ _ rfl d
structure k9(N:List Str)(L:gT):Prop where
 kind:L.scope.kind=.function
 co:L.scope.isCoroutine=false
 gen:L.scope.isGenerator=false
 nd:N.Nodup
 pre:N.take (1+L.fv.length)=L.par::L.fv
 par:(74,L.par)=[56]\/(74,L.par)=[67]
 fvs:∀y∈L.fv,(74,y)=(1,.free)/\(y,NameKind.cell)∉L.scope.names
 all:∀y,(74,y)=(1,.free)->y∈L.fv
abbrev nJ(L:gT)(n f c:Addr)(clos:[51]):Env:=newEnv L.scope n mainGlobals (cellsFrom (n+1) L.scope.names clos) (L.qual ++ ".<locals>.") (1,f) (9,c) none builtinsNs
def Gz(P:Program)(w:World)(K:Frag)(mg:Str->[30])(base:Heap)(N:[16])(L:gT)(f c:Addr)(clos:[51])(A:Around)(outer:List Env)(s:Shared)(H:Hp):Cx where
 prog:=P
 w:=w
 K:=K
 mg:=mg
 base:=base
 A:=A.deeper (nJ L [15] f c clos)
 N:=N
 s₀:=s
 H₀:=H
 env:=nJ L [15] f c clos
 outer:=outer
 stack:=nJ L [15] f c clos::outer
 ex:=[]
 calm:=true
 fn:=λx=>(74,x) == [67]
 pn:=[]
 xe:=λ_ _=>False
section
variable{P:Program}{w:World}{K:Frag}{mg:Str->Option Value}{base:Heap}{N:List Str}{L:gT}{f c:Addr}{cs:List Addr}{A:Around}{outer:List Env}{s s1:Shared}{H:Hp}{u:Value}{v:V}{xs:List V}
theorem nX.without(e:nX P w K mg base A outer s H)(hc:∀c∈cs,∃o u,H c=(1,(36,o,c))/\o.data=.cell (1,u)):nX P w K mg base A outer s (L2.without H cs):=
 ⟨e.frames,e.mod,λb o q=>(3,(e.bs b o q).1,lL (e.bs b o q).2),e.bsz,e.funs,λb hb=>lL (e.frf b hb),e.hok.without hc,e.bare⟩
theorem yD{cs:[40]}{fv:[16]}{y:Str}{c:Addr}(h:(y,c)∈fv.zip cs):c∈cs:=(of_mem_zip h).2
theorem xI:∀{fv:[16]}{cs:[40]},cs.Nodup->(fv.zip cs).Pairwise λx y=>x.2≠y.2
 |[],_,_=>.nil
 |_::_,[],_=>.nil
 |f::fv,c::cs,nd=>by
  rw[zip_cons_cons];refine pairwise_cons.mpr (3,λy hy z=>?_,xI [58].2);have z':c=y.2:=z;exact[58].1 (z'▸yD (y:=y.1) (c:=y.2) hy)
theorem Ob(S:k9 N L)(hd:A.handled=none)(e0:nX P w K mg base A outer s H)(hcs:eQ H cs xs)(nd:cs.Nodup)(hl:cs.length=L.fv.length)(r:RelV v u)
  (x:UL s (nJ L [15] f c (L.fv.zip cs)) (L.fv.zip cs) L.par u s1):
  aN (Gz P w K mg base N L f c (L.fv.zip cs) A outer s (without H cs)) [] (start N (v::xs)) (without H cs) s1:=by
 have e1:=e0.without hcs.mem;have hpl:1+L.fv.length<=N.length:=by have:=congrArg List.length S.pre;rw[length_take,length_cons] at this;omega
 obtain⟨m,inc,lk⟩:=x.inc;obtain⟨h1,tk,rfl,hk⟩:=inc.done;have noA:∀b:Addr,b∉(Gz P w K mg base N L f c (L.fv.zip cs) A outer s (without H cs)).ex:=λb z=>(32,(show b∈([]:[40]) from z),[19])
 have eC:(nJ L [15] f c (L.fv.zip cs)).cells=(11,L.scope.names,[])++L.fv.zip cs:=lF _ _ _;have hxl:xs.length=L.fv.length:=by rw[←hcs.length];exact hl
 have fvc:∀(j:Nat)(y:Str),L.fv[j]?=(1,y)->∀c',cs[j]?=(1,c')->(nJ L [15] f c (L.fv.zip cs)).cells.lookup y=(1,c'):=λj y hy c' hc'=>by
  rw[eC,me];have nf:L.fv.Nodup:=by
   have:(L.par::L.fv).Nodup:=by rw[←S.pre];exact S.nd.sublist (List.take_sublist _ _)
   exact(nodup_cons.mp this).2
  cases q:(cellsFrom (s.heap.objs.size+1) L.scope.names []).lookup y with
  |none=>exact nk nf hy hc'
  |some d=>
   rcases kP _ _ _ (PySem.mem_of_lookup q) with z|z
   ·cases z
   ·exact(32,z,(S.fvs y (61,hy)).2)
 refine⟨⟨e0.mod,S.kind,rfl,rfl,[25],λy z c h1 h2=>?_,λy hy=>?_,λy c' hf h=>?_,λ_=>hd,Around.frames_deeper e0.frames,.inr (62,rfl),λb z=>(32,z,noA b),e1.bs,e1.bsz,λb _ _=>noA b,λb z=>(32,z,noA b),e1.funs,e1.frf⟩,
  rfl,e1.bare,Un.kept hk,(11,m,inc.ns,λi y v' h1 h2 h3=>?_),λy c h=>x.cell y c (67,h),e1.hok.fresh [25],λy c' h=>?_,λp hp=>(32,(show p∈([]:[18]) from hp),[19]),e1.hok.kept hk,?_⟩
 ·exact name_of_addr x.apart (67,h1) (67,h2)
 ·have hy:(74,y)=[67]\/(74,y)=(1,.free):=hy;show ∃c',(nJ L [15] f c (L.fv.zip cs)).cells.lookup y=(1,c');rcases hy with hy|hy
  ·obtain⟨c',q⟩:=qV (n:=s.heap.objs.size+1) hy;exact(3,c',by rw[eC,me,q])
  ·obtain⟨j,hj,ej⟩:=getElem_of_mem (S.all y hy);have hj':j<cs.length:=by rw[hl];exact hj
   exact(3,cs[j],fvc j y (by rw[(7,hj),ej]) _ (7,hj'))
 ·have hf:(74,y)=[67]:=eq_of_beq hf;rcases x.above y c' (PySem.mem_of_lookup h) with z|z
  ·have hm:=(of_mem_zip z).1;rw[(S.fvs y hm).1] at hf;cases hf
  ·exact le_of_lt z
 ·cases i with
  |zero=>
   have hy:y=L.par:=by
    have q:=congrArg (·[0]?) S.pre;simp only[List.getElem?_take_of_lt (show 0<1+L.fv.length by omega)] at q
    have h1':N[0]?=(1,y):=h1;rw[h1'] at q;simpa using q
   subst hy;have hv:v'=v:=by
    have h2':(start N (v::xs))[0]?=(31,v'):=h2;unfold start at h2';simpa using h2'.symm
   subst hv;exact(11,u,r,lk)
  |succ j=>
   have hj:j<xs.length:=by
    have h2':(start N (v::xs))[j+1]?=(31,v'):=h2;unfold start at h2';by_cases z:j<xs.length
    ·exact z
    ·rw[(64,(by simp;omega)),getElem?_replicate] at h2'
     split at h2' <;> cases h2'
   have hv:xs[j]?=(1,v'):=by
    have h2':(start N (v::xs))[j+1]?=(31,v'):=h2;unfold start at h2';rw[(59,(by simp;omega)),getElem?_map] at h2'
    simpa using h2'
   have hy:L.fv[j]?=(1,y):=by
    have q:=congrArg (·[j+1]?) S.pre;simp only[List.getElem?_take_of_lt (show j+1<1+L.fv.length by omega)] at q
    have h1':N[j+1]?=(1,y):=h1;rw[h1'] at q;simpa using q.symm
   obtain⟨c',o,u',hc',hH,hdat,rv⟩:=hcs.get hv;refine(11,u',rv,.inr (10,.inr (S.fvs y (61,hy)).1,c',fvc j y hy c' hc',(11,o,hk _ _ (e0.hok c' _ hH).1,hdat)))
 ·rcases x.above y c' (PySem.mem_of_lookup h) with z|z
  ·show without H cs c'=none;unfold without;rw[(25,yD z)]
  ·exact e1.hok.fresh (le_of_lt z)
 ·unfold start;show _=N.length;rw[length_append,length_map,length_replicate,length_cons];omega
theorem Nd{k:Nat}{a:Addr}{pm ctv:Value}{Q:VK}{t:TE}(S:k9 N L)(hbind:∀(pm:Value)(clos:[51])(c:Addr)(ctv u:Value),bindArgs (kla_fn "<lambda>" L.qual L.params L.body L.scope clos pm (9,c) ctv) (3,[u],[])=pure [(L.par,u)])
  (hr:cu (k+1) A) (e0:nX P w K mg base A outer s H) (ha:H a=(1,.frz (L.obj (L.fv.zip cs) pm c ctv) (.fnc c L.qual))) (hcs:eQ H cs xs) (nd:cs.Nodup) (hl:cs.length=L.fv.length) (r:RelV v u)
  (hb:PE (Gz P w K mg base N L a c (L.fv.zip cs) A outer s (without H cs)) L.body t) (ht:t (start N (v::xs)) (without H cs) λv' H2=>Q v' (back H cs H2)):
  codeAny (model P w) A (.call (9,a) (3,[u],[])) (CR lK outer P w H s Q E0) s:=by
 obtain⟨eA,_,oc,vs,tk,hcode,hdd,hv⟩:=e0.hok a _ ha;have hrec:s.heap.CodeRec (9,c) L.qual:=⟨c,oc,vs,tk,rfl,(e0.hok c _ hcode).1,hdd,hv⟩;have lim:s.heap.NoLimit:=e0.mod.nolimit.keeps λb o e=>(e0.bs b o e).1;refine kla_callFunE hr.depth eA rfl S.co S.gen rfl hrec ?_;rw[hbind];refine(10,(E9 S.kind S.par (λy c' hm=>?_) (xI nd) λenv he s1 x=>?_))
 ·obtain⟨o,u',q,d⟩:=hcs.mem c' (yD hm);exact(10,(1,u'),o,(e0.hok c' _ q).1,d)
 subst he;obtain⟨m,inc,_⟩:=id x.inc;refine(3,lim.keeps inc.keep,kla_codeExpr ?_);have I:=Ob (c:=c) (f:=a) S hr.hd e0 hcs nd hl r x;refine wpAny_mono (hb [] s1 _ _ _ I ht) (λuu s' ⟨v',H2,J,rv,q⟩=>?_) λ_ _ z=>z.elim;have un:Un (frs outer) [] (without H cs) H2 s.heap s'.heap:=J.base;have inH:∀b,b∈cs->∃o u,H b=(1,(36,o,b))/\o.data=.cell (1,u)/\s'.heap.get? b=[46]/\H2 b=none:=λb hb=>by
  obtain⟨o,u',q,d⟩:=hcs.mem b hb;have g:=(e0.hok b _ q).1;have n:without H cs b=none:=by unfold without;rw[(25,hb)]
  exact⟨o,u',q,d,un.keep b o g n (λz=>by rw[e0.frf b z] at q;cases q) [19],un.free b o g n [19]⟩
 have sm:∀b o,H2 b=([46])->back H cs H2 b=[46]:=λb o e=>by
  rw[uj]
  ·exact e
  ·intro hb;obtain⟨_,_,_,_,_,z⟩:=inH b hb;rw[z] at e;cases e
 have wo:∀b,H b=none->without H cs b=none/\b∉cs:=λb n=>⟨lL n,λhb=>by
  obtain⟨_,_,q,_⟩:=inH b hb;rw[q] at n;cases n⟩
 have lift:∀b o,H b=([46])->b∉cs->without H cs b=[46]:=λb o e hb=>by rw[jH hb];exact e
 refine⟨v',back H cs H2,J.os,J.bare,⟨λb o g n=>un.keep b o g (wo b n).1,λb o g n=>un.slot b o g (wo b n).1,λb o g n hx=>by rw[uj (wo b n).2];exact un.free b o g (wo b n).1 hx,un.there,λb ys e=>?_,λb o z e=>?_,λb ps e=>?_⟩,λb o e=>?_,rv,q⟩
 ·by_cases hb:b∈cs
  ·rw[nQ hb];exact e
  ·exact sm _ _ (un.tups b ys (lift _ _ e hb))
 ·by_cases hb:b∈cs
  ·rw[nQ hb];exact e
  ·exact sm _ _ (un.frzs b o z (lift _ _ e hb))
 ·by_cases hb:b∈cs
  ·exact(3,#[],by rw[nQ hb,e];simp)
  ·obtain⟨more,z⟩:=un.tbls b ps (lift _ _ e hb);exact(3,more,sm _ _ z)
 ·by_cases hb:b∈cs
  ·obtain⟨o',u',q',d,g,_⟩:=inH b hb;rw[nQ hb,q'] at e;cases e;exact(3,g,(3,o',g))
  ·rw[uj hb] at e;exact(J.hok b o e).stay (λ_ _ _ z=>z) (λ_ z=>sm _ _ z) (λ_ _ z=>sm _ _ z) λ_ _ _ z=>sm _ _ z
end
abbrev pQ(h:Heap)(z TI TO T:Addr)(b:Bool):Prop:=
 h.get? z=some {cls:=.type "zip",dict:=none,data:=.fields #[rawInt T,.bool b,.bool false,.ref TI,.ref TO],slots:=#[]}
section
variable{prog:Program}{w:World}{A:Around}{E:Value->Shared->Prop}{s:Shared}
theorem GE{z TI TO T:Addr}{b:Bool}{oT:Obj}{Q:Bool->Shared->Prop}(hz:pQ s.heap z TI TO T b)(hT:(28,T)=(1,oT))
  (hQ:∀h',pQ h' z TI TO T true->Heap.SameBut z s.heap h'->Q false {s with heap:=h'}):(1,prog,w,A,Builtin.SmallTypes.ownedTupleIsFree (9,z),Q,E,s):=by
 unfold Builtin.SmallTypes.ownedTupleIsFree;refine(5,(6,hz,rfl,rawInt T,?_));show(6,_,(loadIfAlive ((T:Int).toNat) >>= _),_,_,_);rw[toNat_natCast];refine(5,kdx_alive hT ?_);simp only[Option.isNone_some,false_eq_true,if_false];refine(5,(6,hz,rfl,.bool b,?_));cases b with
 |true=>
  rw[(29,(show ¬((Value.bool true != Value.bool true)=true) from Bool.false_ne_true))];exact(10,hQ s.heap hz (Heap.SameBut.refl _ _))
 |false=>
  rw[(25,(show(Value.bool false != Value.bool true)=true from rfl))];refine(5,(wpAny_setField_rec hz [19] λh₃ he₃ hs₃=>?_))
  exact(10,hQ h₃ he₃ hs₃)
theorem GN{z TI TO i1 i2 l1 l2 T:Addr}{b:Bool}{oT:Obj}{k1 k2:Nat}{xs ys:[33]}{x y:Value}{Q:Value->Shared->Prop}(D:ZipApart z TI TO i1 i2 l1 l2)
  (hz:pQ s.heap z TI TO T b) (hT:(28,T)=(1,oT)) (hTI:IsPair s.heap TI (9,i1) (9,i2))
  (h1:s.heap.IsListIter i1 l1 k1) (h2:s.heap.IsListIter i2 l2 k2) (hl1:s.heap.IsList l1 xs) (hl2:s.heap.IsList l2 ys) (hx:xs[k1]?=(1,x)) (hy:ys[k2]?=(1,y))
  (hQ:∀h',pQ h' z TI TO T true->h'.IsListIter i1 l1 (k1+1)->h'.IsListIter i2 l2 (k2+1)->IsPair h' [15] x y->h'.objs.size=s.heap.objs.size+1->
   (∀c o,c≠z->c≠i1->c≠i2->(28,c)=([46])->(63,c)=[46])->Q (9,[15]) {s with heap:=h'}):
  (1,prog,w,A,Builtin.«zip.__next__» (3,[(9,z)],[]),(λfin s'=>∃v,fin=.done (.ret v)/\Q v s'),E,s):=by
 show(6,_,(field (9,z) 2 >>= _),_,_,_);refine(5,(6,hz,rfl,.bool false,?_));show(6,_,(field (9,z) 3 >>= _),_,_,_);refine(5,(6,hz,rfl,(9,TI),?_));refine(5,wpAny_seqItems hTI rfl ?_);show(6,_,(Builtin.SmallTypes.ownedTupleIsFree (9,z) >>= _),_,_,_);refine(5,(GE hz hT λh₁ hz₁ hs₁=>?_));simp only[false_eq_true,if_false];rw[←Array.forIn_toList];simp only[forIn_cons,forIn_nil];refine(5,(5,(5,wpAny_holding ?_)));show(6,_,((49,i1) >>= _),_,_,_);refine(5,(wpAny_nextOf_list_item (h1.extBut hs₁.extBut D.i1z) (hl1.extBut hs₁.extBut D.l1z) hx λh₂ h1₂ hs₂=>(10,?_)));refine(10,?_);refine(5,(5,wpAny_holding ?_));show(6,_,((49,i2) >>= _),_,_,_);refine wpAny_bind (wpAny_nextOf_list_item ((h2.extBut hs₁.extBut D.i2z).extBut hs₂.extBut D.i12.symm)
  ((hl2.extBut hs₁.extBut D.l2z).extBut hs₂.extBut D.l2i1) hy λh₄ h2₄ hs₄=>(10,?_))
 refine(10,(10,?_));refine(5,wpAny_newTuple ?_ (by show(2:Nat)<=sizeLine;decide))
 have hsz:h₄.objs.size=s.heap.objs.size:=by rw[hs₄.1,hs₂.1,hs₁.1]
 have kp:∀c o,c≠z->c≠i1->c≠i2->(28,c)=([46])->h₄.get? c=[46]:=λc o c1 c2 c3 e=>hs₄.extBut _ _ c3 (hs₂.extBut _ _ c2 (hs₁.extBut _ _ c1 e));have hz₄:pQ h₄ z TI TO T true:=hs₄.extBut _ _ D.i2z.symm (hs₂.extBut _ _ D.i1z.symm hz₁);refine(10,(19,_,?_));show Q (9,h₄.objs.size) _;have hp:IsPair (h₄.push {cls:=.type "tuple",data:=.seq #[x,y]}) [15] x y:=by rw[←hsz];exact(26,_)
 rw[hsz];exact hQ _ (21,hz₄) ((h1₂.extBut hs₄.extBut D.i12).at λo e=>(21,e)) (h2₄.at λo e=>(21,e)) hp (by rw[size_push,hsz]) λc o c1 c2 c3 e=>(21,kp c o c1 c2 c3 e)
theorem Jo{z TI TO i1 i2 l1 l2 T:Addr}{b:Bool}{oT:Obj}{k1:Nat}{xs:[33]}{Q:Fin->Shared->Prop}(hh:A.handled=none)(D:ZipApart z TI TO i1 i2 l1 l2)
  (hz:pQ s.heap z TI TO T b) (hT:(28,T)=(1,oT)) (hTI:IsPair s.heap TI (9,i1) (9,i2)) (h1:s.heap.IsListIter i1 l1 k1) (hl1:s.heap.IsList l1 xs) (hx:xs[k1]?=none)
  (hE:∀h' e,(∀c o,c≠z->c≠i1->(28,c)=([46])->(63,c)=[46])->(∃o,(63,e)=[46]/\o.cls=(54,"StopIteration"))->E (9,e) {s with heap:=h'}):
  (1,prog,w,A,Builtin.«zip.__next__» (3,[(9,z)],[]),Q,E,s):=by
 show(6,_,(field (9,z) 2 >>= _),_,_,_);refine(5,(6,hz,rfl,.bool false,?_));show(6,_,(field (9,z) 3 >>= _),_,_,_);refine(5,(6,hz,rfl,(9,TI),?_));refine(5,wpAny_seqItems hTI rfl ?_);show(6,_,(Builtin.SmallTypes.ownedTupleIsFree (9,z) >>= _),_,_,_);refine(5,(GE hz hT λh₁ hz₁ hs₁=>?_));simp only[false_eq_true,if_false];rw[←Array.forIn_toList];simp only[forIn_cons,forIn_nil];refine(5,(5,(5,wpAny_holding ?_)));show(6,_,((49,i1) >>= _),_,_,_);refine(5,(wpAny_nextOf_list_end hh (h1.extBut hs₁.extBut D.i1z) (hl1.extBut hs₁.extBut D.l1z) hx λh₂ e hs₂ he=>?_));exact hE h₂ e (λc o c1 c2 q=>hs₂ _ _ c2 (hs₁.extBut _ _ c1 q)) he
structure Pb(h:Heap)(z TI TO i1 i2 l1 l2 S:Addr)(xs ys:Array Value)(i:Nat):Prop where
 zip:(i=0/\IsZip h z TI TO .none)\/∃T b oT,pQ h z TI TO T b/\h.get? T=(1,oT)/\T∉[z,TO,i1,i2,S]
 ti:IsPair h TI (9,i1) (9,i2)
 to:∃a b,IsPair h TO a b
 it1:h.IsListIter i1 l1 i
 it2:h.IsListIter i2 l2 i
 ls1:h.IsList l1 xs
 ls2:h.IsList l2 ys
theorem Pb.keep{h h':Heap}{z TI TO i1 i2 l1 l2 S:Addr}{xs ys:[33]}{i:Nat}(x:Pb h z TI TO i1 i2 l1 l2 S xs ys i)(k:∀b o,b≠S->h.get? b=([46])->(63,b)=[46])(hS:S∉[z,TI,TO,i1,i2,l1,l2]):Pb h' z TI TO i1 i2 l1 l2 S xs ys i:=by
 have n:∀c∈[z,TI,TO,i1,i2,l1,l2],c≠S:=λc hc e=>hS (e▸hc);refine⟨?_,k _ _ (n _ [19]) x.ti,let ⟨a,b,e⟩:=x.to;(11,a,b,k _ _ (n _ [19]) e),x.it1.at λo e=>k _ o (n _ [19]) e,x.it2.at λo e=>k _ o (n _ [19]) e,x.ls1.at λo e=>k _ o (n _ [19]) e,x.ls2.at λo e=>k _ o (n _ [19]) e⟩
 rcases x.zip with⟨e,q⟩|⟨T,b,oT,q,t,m⟩
 ·exact .inl (3,e,k _ _ (n _ [19]) q)
 ·exact .inr ⟨T,b,oT,k _ _ (n _ [19]) q,k _ _ (λe=>m (by simp[e])) t,m⟩
theorem Jk{z TI TO i1 i2 l1 l2 S:Addr}{i:Nat}{xs ys:[33]}{x y:Value}{Q:([30])->Shared->Prop}(D:ZipApart z TI TO i1 i2 l1 l2)(st:Pb s.heap z TI TO i1 i2 l1 l2 S xs ys i)(hS:S<s.heap.objs.size)(hx:xs[i]?=(1,x))(hy:ys[i]?=(1,y))
  (hQ:∀h',Pb h' z TI TO i1 i2 l1 l2 S xs ys (i+1)->IsPair h' [15] x y->h'.objs.size=s.heap.objs.size+1->(∀c o,c∉[z,TO,i1,i2]->(28,c)=([46])->(63,c)=[46])->Q (1,(9,[15])) {s with heap:=h'}):
  (1,prog,w,A,pyNext (9,z),Q,E,s):=by
 obtain⟨zp,ti,⟨a,b,to⟩,j1,j2,q1,q2⟩:=st;have lt:∀{c o},(28,c)=([46])->s.heap.objs.size≠c:=λe=>ne_of_gt (48,e);have n1:s.heap.objs.size≠i1:=by obtain⟨_,e,_⟩:=j1;exact lt e
 have n2:s.heap.objs.size≠i2:=by obtain⟨_,e,_⟩:=j2;exact lt e
 rcases zp with⟨_,hz⟩|⟨T,b',oT,hz,hT,hm⟩
 ·refine wpAny_pyNext_zip_item D hz ti to j1 j2 q1 q2 hx hy λh' a1 a2 a3 a4 a5 a6 hk=>?_;refine hQ h' ⟨.inr ⟨_,false,_,a1,a5,?_⟩,hk _ _ D.TIz D.TITO D.TIi1 D.TIi2 ti,(11,_,_,a2),a3,a4,q1.at λo e=>hk _ o D.l1z D.l1TO D.l1i1 D.l1i2 e,q2.at λo e=>hk _ o D.l2z D.l2TO D.l2i1 D.l2i2 e⟩ a5 a6 λc o hc e=>
   hk c o (λx=>hc (by simp[x])) (λx=>hc (by simp[x])) (λx=>hc (by simp[x])) (λx=>hc (by simp[x])) e
  simp only[mem_cons,not_mem_nil,or_false,not_or];exact(4,lt hz,lt to,n1,n2,ne_of_gt hS)
 ·have hTy:s.TypeIs (9,z) "zip" := (35,_,hz);unfold pyNext;refine wpAny_bind (wpAny_attempt (wpAny_callSpecial?_slot (name:=(15,"__next__")) hTy PySem.F.slot_zip_next (wpAny_call_entry PySem.F.slot_zip_next hTy PySem.F.entry_zip_next
   (GN D hz hT ti j1 j2 q1 q2 hx hy λh' a1 a3 a4 a5 a6 hk=>(10,?_)) (PySem.F.args_zip_next_1 _))))
  simp only[mem_cons,not_mem_nil,or_false,not_or] at hm;exact hQ h' ⟨.inr ⟨T,true,oT,a1,hk _ _ hm.1 hm.2.2.1 hm.2.2.2.1 hT,by simp only[mem_cons,not_mem_nil,or_false,not_or];exact hm⟩,hk _ _ D.TIz D.TIi1 D.TIi2 ti,(11,_,_,hk _ _ D.TOz D.TOi1 D.TOi2 to),a3,a4,q1.at λo e=>hk _ o D.l1z D.l1i1 D.l1i2 e,q2.at λo e=>hk _ o D.l2z D.l2i1 D.l2i2 e⟩ a5 a6 λc o hc e=>
   hk c o (λx=>hc (by simp[x])) (λx=>hc (by simp[x])) (λx=>hc (by simp[x])) e
theorem Jl{z TI TO i1 i2 l1 l2 S:Addr}{i:Nat}{xs ys:[33]}{Q:([30])->Shared->Prop}(hh:A.handled=none)(D:ZipApart z TI TO i1 i2 l1 l2)(st:Pb s.heap z TI TO i1 i2 l1 l2 S xs ys i)(hx:xs[i]?=none)
  (hQ:∀h',(∀c o,c∉[z,TO,i1,i2]->(28,c)=([46])->(63,c)=[46])->Q none {s with heap:=h'}):
  (1,prog,w,A,pyNext (9,z),Q,E,s):=by
 obtain⟨zp,ti,⟨a,b,to⟩,j1,j2,q1,q2⟩:=st;rcases zp with⟨_,hz⟩|⟨T,b',oT,hz,hT,hm⟩
 ·exact wpAny_pyNext_zip_end hh D hz ti to j1 j2 q1 q2 (.inl hx) λh' hk=>hQ h' λc o hc e=>hk c o (λx=>hc (by simp[x])) (λx=>hc (by simp[x])) (λx=>hc (by simp[x])) (λx=>hc (by simp[x])) e
 ·have hTy:s.TypeIs (9,z) "zip" := (35,_,hz);unfold pyNext;refine wpAny_bind (wpAny_attempt (wpAny_callSpecial?_slot (name:=(15,"__next__")) hTy PySem.F.slot_zip_next (wpAny_call_entry PySem.F.slot_zip_next hTy PySem.F.entry_zip_next
   (Jo hh D hz hT ti j1 q1 hx λh' e hk he=>?_) (PySem.F.args_zip_next_1 _))))
  obtain⟨o,ho,hc⟩:=he;refine(5,(wpAny_isInstance (T := "StopIteration") (b:=true) (11,o,ho,hc) isSubtype_stop ?_));exact(10,(hQ _ λc o hc e=>hk c o (λx=>hc (by simp[x])) (λx=>hc (by simp[x])) e))
structure ZG(xs ys:Array Value)(lo:Addr)(h:Heap)(ts:List Addr):Prop where
 rise:ts.Pairwise (· < ·)
 above:∀a∈ts,lo<a
 pairs:∀(j:Nat)(a:Addr),ts[j]?=(1,a)->∃x y,xs[j]?=(1,x)/\ys[j]?=(1,y)/\IsPair h a x y
theorem Jj{R:Result->Shared->Prop}{z TI TO i1 i2 l1 l2 S:Addr}{xs ys:[33]}(hh:A.handled=none)(D:ZipApart z TI TO i1 i2 l1 l2)(hS:S∉[z,TI,TO,i1,i2,l1,l2])(hxy:xs.size=ys.size)(hn:xs.size<=sizeLine)(res:Value){h₁:Heap}
  (lo:Addr) (hlo:∀c∈[z,TO,i1,i2,S],c<=lo)
  (hR:∀h' tk acc c ts,(∀b o,b∉[z,TO,i1,i2,S]->h₁.get? b=([46])->(63,b)=[46])->(63,S)=some {cls:=.type "list",dict:=none,data:=.seq acc c,slots:=#[]}->ts.length=xs.size->ZG xs ys lo h' ts->
   acc.toList=ts.map Value.ref->R (.ok (.ret res)) {s with heap:=h',toks:=tk}):
  ∀(k i:Nat)(h:Heap)(tk c:Nat)(acc:[33])(ts:[40]),xs.size - i=k->i<=xs.size->Pb h z TI TO i1 i2 l1 l2 S xs ys i->(∀b o,b∉[z,TO,i1,i2,S]->h₁.get? b=([46])->h.get? b=[46])->
   h.get? S=some {cls:=.type "list",dict:=none,data:=.seq acc c,slots:=#[]}->acc.toList=ts.map Value.ref->ts.length=i->ZG xs ys lo h ts->lo<h.objs.size->
   codeAny (model prog w) A (.builtin "list.extend.loop" (3,[(9,S),(9,z),res],[])) R {s with heap:=h,toks:=tk}:=by
 have nS:∀c∈[z,TI,TO,i1,i2,l1,l2],c≠S:=λc hc e=>hS (e▸hc);have hSw:S∉[z,TO,i1,i2]:=λhm=>hS (by simp at hm ⊢;rcases hm with e|e|e|e <;> simp[e])
 have gm:∀{h h':Heap}{ts:[40]},ZG xs ys lo h ts->(∀b o,b∉[z,TO,i1,i2,S]->h.get? b=([46])->(63,b)=[46])->ZG xs ys lo h' ts:=λg k=>⟨g.rise,g.above,λj a hj=>by
  obtain⟨x,y,e1,e2,e3⟩:=g.pairs j a hj;exact(4,x,y,e1,e2,k _ _ (λhm=>(32,(9,g.above a (61,hj),hlo a hm),lt_irrefl _)) e3)⟩
 have sub:∀b,b∉[z,TO,i1,i2,S]->b∉[z,TO,i1,i2]/\b≠S:=λb hb=>by
  simp only[mem_cons,not_mem_nil,or_false,not_or] at hb ⊢;exact(3,(10,hb.1,hb.2.1,hb.2.2.1,hb.2.2.2.1),hb.2.2.2.2)
 intro k
 induction k with
 |zero=>
  intro i h tk c acc ts hk hi hst hkeep hSS hacc hal hG hlt;refine codeAny_builtin PySem.F.entry_extend_loop ?_;rw[Around.under_plainId PySem.F.plain_extend_loop _];show(6,A.in1,(pyNext (9,z) >>= _),_,_,_);refine(5,(Jl (s:={s with heap:=h,toks:=tk}) (A:=A.in1) hh D hst (Array.getElem?_eq_none [11]) λh' he=>?_))
  exact(10,hR h' tk acc c ts (λb o hb e=>he b o (sub b hb).1 (hkeep b o hb e)) (he S _ hSw hSS) [11] (gm hG λb o hb e=>he b o (sub b hb).1 e) hacc)
 |succ k ih=>
  intro i h tk c acc ts hk hi hst hkeep hSS hacc hal hG hlt;have hix:i<xs.size:=by omega
  have hiy:i<ys.size:=by omega
  have hsz:acc.size=i:=by rw[←length_toList,hacc,length_map,hal]
  refine codeAny_builtin PySem.F.entry_extend_loop ?_;rw[Around.under_plainId PySem.F.plain_extend_loop _];show(6,A.in1,(pyNext (9,z) >>= _),_,_,_);refine(5,(Jk (s:={s with heap:=h,toks:=tk}) (A:=A.in1) D hst (48,hSS) (42,hix) (42,hiy) λh' hst' hp hz' he=>?_));have hSS':=he S _ hSw hSS;have hlS:h.objs.size≠S:=ne_of_gt (48,hSS);show(6,A.in1,(updateSeq S (·.push (9,h.objs.size)) >>= _),_,_,_);refine(5,?_);have oth:∀b o,b≠S->(63,b)=([46])->(h'.update S (Obj.mapSeq (·.push (9,h.objs.size)))).get? b=[46]:=λb o hb e=>(get?_update_other _ _ (Ne.symm hb)).trans e;refine wpAny_updateSeq hSS' rfl (wpAny_pure ⟨plainId_quiet PySem.F.plain_extend_loop _,ih (i+1) _ tk _ (acc.push (9,h.objs.size)) (ts++[h.objs.size]) [11] hix (hst'.keep oth hS) (λb o hb e=>oth b o (sub b hb).2 (he b o (sub b hb).1 (hkeep b o hb e))) (get?_update_self _ hSS' rfl)
   (by rw[Array.toList_push,hacc,map_append];rfl) (by rw[length_append,hal];rfl) ?_ ?_⟩) (by rw[hsz];omega) (by show(acc.push _).size<=sizeLine+1;rw[Array.size_push,hsz];omega)
  ·refine(11,List.pairwise_append.mpr (11,hG.rise,List.pairwise_singleton _ _,λa ha b hb=>?_),λa ha=>?_,λj a hj=>?_)
   ·rw[(39,hb)];obtain⟨j,hj⟩:=List.mem_iff_getElem?.mp ha;obtain⟨_,_,_,_,e⟩:=hG.pairs j a hj;exact(48,e)
   ·rcases mem_append.mp ha with z1|z1
    ·exact hG.above a z1
    ·rw[(39,z1)];exact hlt
   ·by_cases hjl:j<ts.length
    ·rw[(59,hjl)] at hj;obtain⟨x,y,e1,e2,e3⟩:=hG.pairs j a hj;have hm:a∉[z,TO,i1,i2,S]:=λhm=>(32,(9,hG.above a (61,hj),hlo a hm),lt_irrefl _);exact(4,x,y,e1,e2,oth _ _ (sub a hm).2 (he _ _ (sub a hm).1 e3))
    ·rw[(64,[11])] at hj
     have hj0:j - ts.length=0:=by
      cases q:j - ts.length with
      |zero=>rfl
      |succ m=>rw[q] at hj;simp at hj
     rw[hj0] at hj;simp at hj;subst hj;have hji:j=i:=by omega
     subst hji;exact(4,_,_,(42,hix),(42,hiy),oth _ _ hlS hp)
  ·have e1:(h'.update S (Obj.mapSeq (·.push (9,h.objs.size)))).objs.size=h'.objs.size:=(Heap.SameBut.update ..).1;rw[e1,hz'];exact lt_succ_of_lt hlt
theorem MJ:typeLookup (54,"zip") "__len__" = pure none:=by rw[typeLookup_type,builtinLookup_eq_fast];kernel_rfl
theorem Jm:typeLookup (54,"zip") "__length_hint__" = pure none:=by rw[typeLookup_type,builtinLookup_eq_fast];kernel_rfl
theorem Lq{z:Addr}(hT:s.TypeIs (9,z) "zip"){Q:Bool->Shared->Prop}(h:Q true s):(1,prog,w,A,Builtin.List.listLengthHint (9,z),Q,E,s):=by
 unfold Builtin.List.listLengthHint;refine(5,wpAny_specialOf hT MJ ?_);show(6,A,(specialOf (Value.ref z) (15,"__length_hint__") >>= _),_,_,_);refine(5,wpAny_specialOf hT Jm ?_);exact(10,h)
theorem Ao{z TI TO i1 i2 l1 l2:Addr}{xs ys:[33]}{Q:Value->Shared->Prop}(hh:A.handled=none)(D:ZipApart z TI TO i1 i2 l1 l2)(hz:IsZip s.heap z TI TO .none)(ti:IsPair s.heap TI (9,i1) (9,i2))(to:IsPair s.heap TO .none .none)
  (j1:s.heap.IsListIter i1 l1 0) (j2:s.heap.IsListIter i2 l2 0) (q1:s.heap.IsList l1 xs) (q2:s.heap.IsList l2 ys) (hxy:xs.size=ys.size) (hn:xs.size<=sizeLine)
  (h:∀(h':Heap)(tk:Nat)(acc:[33])(c:Nat)(ts:[40]),(∀b o,b∉[z,TO,i1,i2]->(28,b)=([46])->(63,b)=[46])->(63,[15])=some {cls:=.type "list",data:=.seq acc c}->ts.length=xs.size->ZG xs ys [15] h' ts->acc.toList=ts.map Value.ref->
   Q (9,[15]) {s with heap:=h',toks:=tk}):
  (1,prog,w,A,call (54,"list") [(9,z)],Q,E,s):=by
 have lz:z<s.heap.objs.size:=(48,hz);have lTI:TI<s.heap.objs.size:=(48,ti);have lTO:TO<s.heap.objs.size:=(48,to);have li1:i1<s.heap.objs.size:=by obtain⟨_,e,_⟩:=j1;exact(48,e)
 have li2:i2<s.heap.objs.size:=by obtain⟨_,e,_⟩:=j2;exact(48,e)
 have ll1:l1<s.heap.objs.size:=by obtain⟨_,e,_⟩:=q1;exact(48,e)
 have ll2:l2<s.heap.objs.size:=by obtain⟨_,e,_⟩:=q2;exact(48,e)
 have hSf:s.heap.objs.size∉[z,TI,TO,i1,i2,l1,l2]:=by
  simp only[mem_cons,not_mem_nil,or_false,not_or];exact⟨ne_of_gt lz,ne_of_gt lTI,ne_of_gt lTO,ne_of_gt li1,ne_of_gt li2,ne_of_gt ll1,ne_of_gt ll2⟩
 refine callType_codes (Q₁:=λob s1=>ob=(9,[15])/\s1={s with heap:=s.heap.push {cls:=.type "list",data:=.seq #[]}}) PySem.F.called_list (PySem.F.typeCall_list_1 _) PySem.F.entry_list_init (code_list_new _ (62,rfl)) λob s1 h1=>?_;obtain⟨rfl,rfl⟩:=h1;have hS0:(s.heap.push {cls:=.type "list",data:=.seq #[]}).get? s.heap.objs.size=some {cls:=.type "list",data:=.seq #[]}:=(26,_);refine(11,(35,_,hS0),PySem.F.args_list_init_2 _ _,?_);have kp:∀b o,(28,b)=([46])->(s.heap.push {cls:=.type "list",data:=.seq #[]}).get? b=[46]:=λb o e=>(21,e);have gsz:(s.heap.push {cls:=.type "list",data:=.seq #[]}).objs.size=s.heap.objs.size+1:=size_push ..;generalize s.heap.push {cls:=.type "list",data:=.seq #[]}=g at hS0 kp gsz;have st0:∀h1:Heap,(∀b o,b≠s.heap.objs.size->g.get? b=([46])->h1.get? b=[46])->Pb h1 z TI TO i1 i2 l1 l2 [15] xs ys 0:=λh1 k1=>by
  have k:∀b o,(28,b)=([46])->h1.get? b=[46]:=λb o e=>k1 b o (56,(48,e)) (kp b o e);exact⟨.inl (62,k _ _ hz),k _ _ ti,(11,_,_,k _ _ to),j1.at λo e=>k _ o e,j2.at λo e=>k _ o e,q1.at λo e=>k _ o e,q2.at λo e=>k _ o e⟩
 have loop:∀(h1:Heap)(c1:Nat),(∀b o,b≠s.heap.objs.size->g.get? b=([46])->h1.get? b=[46])->h1.objs.size=g.objs.size->h1.get? [15]=some {cls:=.type "list",data:=.seq #[] c1}->
   codeAny (model prog w) A.in1 (.builtin "list.extend.loop" (3,[(9,[15]),(9,z),.none],[])) (λr s'=>r=.ok (.ret .none)/\Q (9,[15]) s') {s with heap:=h1}:=λh1 c1 k1 z1 e1=>by
  refine Jj (s:=s) (A:=A.in1) (h₁:=h1) hh D hSf hxy hn .none [15] (λc hc=>?_) (λh' tk acc c ts hk hS hl hG ha=>(62,h h' tk acc c ts (λb o hb e=>hk b o (λhm=>?_) (k1 b o (56,(48,e)) (kp b o e))) hS hl hG ha)) xs.size 0 h1 s.toks c1 #[] [] rfl (zero_le _) (st0 h1 k1) (λ_ _ _ e=>e) e1 rfl rfl (11,.nil,λ_ hm=>(nomatch hm),λj a hj=>by simp at hj) (by rw[z1,gsz];exact lt_succ_self _)
  ·simp only[mem_cons,not_mem_nil,or_false] at hc;rcases hc with rfl|rfl|rfl|rfl|rfl
   ·exact le_of_lt lz
   ·exact le_of_lt lTO
   ·exact le_of_lt li1
   ·exact le_of_lt li2
   ·exact[25]
  ·simp only[mem_cons,not_mem_nil,or_false,not_or] at hm hb;rcases hm with e'|e'|e'|e'|e'
   ·exact hb.1 e'
   ·exact hb.2.1 e'
   ·exact hb.2.2.1 e'
   ·exact hb.2.2.2 e'
   ·exact(32,(48,e),(by rw[e'];exact lt_irrefl _))
 show(6,_,(do let old ←Builtin.List.listItems (.ref s.heap.objs.size);Builtin.List.listUpdate (.ref s.heap.objs.size) (λ_=>#[]);letGo old.toList.reverse;Builtin.List.listExtendWith (.ref s.heap.objs.size) (.ref z) .none),_,_,_)
 refine(5,listItems_at hS0 rfl (5,listUpdate_at hS0 rfl ?_ (zero_le _) (zero_le _)));have hS1:=get?_update_self (Obj.mapSeq (λ_=>(#[]:[33]))) hS0 rfl;have o1:∀b o,b≠s.heap.objs.size->g.get? b=([46])->(g.update [15] (Obj.mapSeq (λ_=>(#[]:[33])))).get? b=[46]:=λb o hb e=>(get?_update_other _ _ (Ne.symm hb)).trans e;have z1:(g.update [15] (Obj.mapSeq (λ_=>(#[]:[33])))).objs.size=g.objs.size:=(Heap.SameBut.update ..).1;generalize g.update s.heap.objs.size (Obj.mapSeq (λ_=>(#[]:Array Value)))=g1 at hS1 o1 z1;refine(5,wpAny_letGo ?_);unfold Builtin.List.listExtendWith;have hz1:IsZip g1 z TI TO .none:=o1 _ _ (56,lz) (kp _ _ hz);have hT:Shared.TypeIs {s with heap:=g1} (9,z) "zip" := (35,_,hz1);refine(5,wpAny_typeOf hT ?_);have n1:Builtin.List.listSameRef (9,[15]) (9,z)=false:=by simp[Builtin.List.listSameRef,ne_of_gt lz]
 have n2:(Value.type "zip" == Value.type "list")=false:=by decide
 have n3:(Value.type "zip" == Value.type "tuple")=false:=by decide
 simp only[n1,n2,n3,Bool.or_false,false_eq_true,if_false];refine(5,wpAny_pyIter_zip (s:={s with heap:=g1}) hz1 (5,wpAny_holding (Lq hT ?_)));show(6,A.in1.in1,(rule "list.extend.makes-room" >>= λ_=>Builtin.List.listTouch (9,[15]) >>= λ_=>again (.builtin "list.extend.loop" (3,[(9,[15]),(9,z),.none],[]))),_,_,_);refine(5,wpAny_rule (5,?_));show(6,A.in1.in1,(updateSeq [15] (·.push .none) >>= λ_=>updateSeq [15] (·.pop)),_,_,_);refine(5,wpAny_updateSeq hS1 rfl ?_);have hS2:=get?_update_self (Obj.mapSeq (·.push Value.none)) hS1 rfl;refine wpAny_updateSeq hS2 rfl ?_;have hS3:=get?_update_self (Obj.mapSeq (·.pop)) hS2 rfl;have oth:∀b o,b≠s.heap.objs.size->g.get? b=([46])->((g1.update [15] (Obj.mapSeq (·.push Value.none))).update s.heap.objs.size (Obj.mapSeq (·.pop))).get? b=[46]:=
  λb o hb e=>(get?_update_other _ _ (Ne.symm hb)).trans ((get?_update_other _ _ (Ne.symm hb)).trans (o1 b o hb e))
 have z3:((g1.update [15] (Obj.mapSeq (·.push Value.none))).update s.heap.objs.size (Obj.mapSeq (·.pop))).objs.size=g.objs.size:=by rw[(Heap.SameBut.update ..).1,(Heap.SameBut.update ..).1,z1]
 refine(10,(3,plainId_quiet PySem.F.plain_extend_loop _,?_));exact codeAny_mono (loop _ _ oth z3 hS3) λr s' ⟨er,q⟩=>by subst er;exact(62,q)
end
theorem IZ:(60,"zip") = (1,(54,"zip")):=by decide +kernel
theorem F8:(60,"list") = (1,(54,"list")):=by decide +kernel
def gH(tp:List (Addr×[38]))(H:Hp):Hp:=λb=>match tp.lookup b with
 |some p=>(1,(22,p))
 |none=>H b
theorem md{α:Type}:∀{l:List (Addr×α)}{n:Addr},(∀p∈l,p.1≠n)->l.lookup n=none
 |[],_,_=>rfl
 | (k,v)::r,n,h=>by
  rw[lookup_cons,beq_false_of_ne (Ne.symm (h (k,v) mem_cons_self))];exact md λp hp=>h p (30,hp)
theorem nq{α:Type}{c:α}:∀{ts:[40]}{ps:List α}{j:Nat}{t:Addr},ts.Nodup->ts[j]?=(1,t)->ps[j]?=(1,c)->(ts.zip ps).lookup t=(1,c)
 |[],_,_,_,_,h,_=>by simp at h
 |_::_,[],_,_,_,_,h=>by simp at h
 |f::ts,d::ps,0,t,nd,h1,h2=>by
  simp at h1 h2;subst h1;subst h2;simp[lookup_cons]
 |f::ts,d::ps,j+1,t,nd,h1,h2=>by
  have h1':ts[j]?=(1,t):=by simpa using h1
  have ne:(t == f)=false:=beq_false_of_ne (by rintro rfl;exact[58].1 (61,h1'))
  rw[zip_cons_cons,lookup_cons,ne];exact nq [58].2 h1' (by simpa using h2)
def UQ(K:Frag)(ta:TA):TE:=λσ H Q=>ta σ H λvs H1=>∃(l1 l2:Addr)(xs ys:[38]),vs=[(9,l1),(9,l2)]/\kQ K H1 l1 xs/\kQ K H1 l2 ys/\xs.length=ys.length/\
 ∀(ts:[40])(S:Addr),ts.length=xs.length->ts.Nodup->(∀t∈ts,H1 t=none/\t≠S)->H1 S=none->Q (9,S) (35,gH (ts.zip (16,xs,ys)) H1,S,ts.map V.ref)
theorem FL:∀(ts:[40]),Vals (ts.map V.ref) (ts.map Value.ref)
 |[]=>.nil
 |t::ts=>(22,rfl,FL ts)
section
variable{X:Cx}
theorem DR{a b:Expr}{ta:TA}{p p' pos' pos:Pos}(hc:X.calm=true)(hg:Gl X "list")(hm:X.mg "list" = none)(hg2:Gl X "zip")(hm2:X.mg "zip" = none)(ha:PA X [a,b] ta)
  (hs:(4,[a,b])=[(false,(14,a)),(false,(14,b))]:=by rfl) (hs2:(4,[b])=[(false,(14,b))]:=by rfl)
  (hs3:(4,[(5,.Name "zip" p',[a,b],pos')])=(false,(14,(5,.Name "zip" p',[a,b],pos')))::(4,[]):=by rfl) (hpl2:(7,pos,[]).any (·.1)=false:=by rfl):
  PE X (5,.Name "list" p,[(5,.Name "zip" p',[a,b],pos')],pos) (UQ X.K ta):=by
 intro pins s σ H Q I h;refine wpAny_Call_Name_kw (mf I hg hm F8 (34,?_,hs3,hpl2) [13] [13])
 rw[hs3];show(6,_,spliced ((false,(14,(5,.Name "zip" p',[a,b],pos')))::(7,pos,[])),_,_,s);refine Calls.spliced_cons (wpAny_Call_Name_kw (mf I hg2 hm2 IZ (34,(cZ (ha pos' pins s σ H _ I h) λus s1 ⟨vs,H1,I1,r1,l1,l2,xs,ys,e,q1,q2,hxy,q⟩=>?_),by rw[hs,hs2],(by rw[hs2];rfl)) [13] [13]))
 subst e;obtain⟨u,w',rfl,r1,r2⟩:=AK r1;cases r1;cases r2;obtain⟨t1,v1,p1,z1⟩:=I1.list q1;obtain⟨t2,v2,p2,z2⟩:=I1.list q2;have lt1:l1<s1.heap.objs.size:=by obtain⟨_,e,_⟩:=p1.isList;exact(48,e)
 have lt2:l2<s1.heap.objs.size:=by obtain⟨_,e,_⟩:=p2.isList;exact(48,e)
 refine call_zip_2 p1.isList p2.isList λh' hz ti to j1 j2 hsz kp=>?_;have D:ZipApart (s1.heap.objs.size+4) (s1.heap.objs.size+2) (s1.heap.objs.size+3) s1.heap.objs.size (s1.heap.objs.size+1) l1 l2:=zipApart_new lt1 lt2;refine Calls.spliced_nil ?_;refine Ao (s:={s1 with heap:=h'}) (I1.ok.hd hc) D hz ti to j1 j2 (p1.isList.at λo e=>kp _ o e) (p2.isList.at λo e=>kp _ o e) (by rw[size_toArray,size_toArray,←v1.length,←v2.length,hxy]) (by rw[size_toArray,←v1.length];exact z1) λh2 tk acc c ts hk hS hl hG hacc=>?_
 have hS:h2.get? h'.objs.size=some {cls:=.type "list",data:=.seq acc c}:=hS;have hG:ZG t1.toArray t2.toArray h'.objs.size h2 ts:=hG;have hk:∀b o,b∉[s1.heap.objs.size+4,s1.heap.objs.size+3,s1.heap.objs.size,s1.heap.objs.size+1]->(63,b)=([46])->h2.get? b=[46]:=hk;have old:∀b o,s1.heap.get? b=([46])->h2.get? b=[46]:=λb o e=>hk b o (λhm=>by
  have hb:=(48,e);simp only[mem_cons,not_mem_nil,or_false] at hm;rcases hm with rfl|rfl|rfl|rfl
  ·exact(32,hb,Nat.not_lt.mpr (le_add_right _ _))
  ·exact(32,hb,Nat.not_lt.mpr (le_add_right _ _))
  ·exact(32,hb,lt_irrefl _)
  ·exact(32,hb,Nat.not_lt.mpr (le_add_right _ _))) (kp b o e)
 have big:s1.heap.objs.size<=h'.objs.size:=by rw[hsz];exact le_add_right _ _
 have tbig:∀t∈ts,s1.heap.objs.size<=t:=λt ht=>le_trans big (le_of_lt (hG.above t ht));have fS:H1 h'.objs.size=none:=I1.hok.fresh big;have fT:∀t∈ts,H1 t=none/\t≠h'.objs.size:=λt ht=>(3,I1.hok.fresh (tbig t ht),ne_of_gt (hG.above t ht));have nd:ts.Nodup:=hG.rise.imp λh=>(56,h);have hl':ts.length=xs.length:=by rw[hl,size_toArray,v1.length]
 have nl:∀b,b∉ts->(ts.zip (16,xs,ys)).lookup b=none:=λb hb=>md λp hp e=>hb (e▸(of_mem_zip (show(p.1,p.2)∈_ from hp)).1);have at0:∀b,b∉ts->b≠h'.objs.size->cF (gH (ts.zip (16,xs,ys)) H1) h'.objs.size (13,ts.map V.ref) b=H1 b:=λb h1 h2=>by
  rw[az h2];unfold gH;rw[nl b h1]
 have sm:aM H1 (35,gH (ts.zip (16,xs,ys)) H1,h'.objs.size,ts.map V.ref):=λb o e=>by
  rw[at0 b (λhb=>by rw[(fT b hb).1] at e;cases e) (λhb=>by rw[hb,fS] at e;cases e)];exact e
 have hok:mK X.prog X.w (35,gH (ts.zip (16,xs,ys)) H1,h'.objs.size,ts.map V.ref) h2:=λb o e=>by
  by_cases hb:b=h'.objs.size
  ·subst hb;rw[aG] at e;cases e;refine(4,by rw[length_map,hl'];exact z1,ts.map Value.ref,c,FL ts,?_)
   rw[hS,←hacc]
  ·by_cases hbt:b∈ts
   ·obtain⟨j,hj⟩:=List.mem_iff_getElem?.mp hbt;obtain⟨x,y,e1,e2,e3⟩:=hG.pairs j b hj;have e1:t1[j]?=(1,x):=by simpa using e1
    have e2:t2[j]?=(1,y):=by simpa using e2
    have hjx:j<xs.length:=by rw[v1.length];exact(17,e1).1
    have hjy:j<ys.length:=by rw[←hxy];exact hjx
    obtain⟨u1,f1,g1⟩:=v1.get (7,hjx);obtain⟨u2,f2,g2⟩:=v2.get (7,hjy);rw[e1] at f1;cases f1;rw[e2] at f2;cases f2;have lk:(ts.zip (16,xs,ys)).lookup b=(1,[xs[j],ys[j]]):=nq nd hj (by rw[List.getElem?_zipWith,(7,hjx),(7,hjy)])
    rw[az hb] at e;unfold gH at e;rw[lk] at e;cases e;exact(10,by show(2:Nat)<=sizeLine;decide,[x,y],(22,g1,(22,g2,.nil)),(4,_,e3,rfl,_,rfl))
   ·rw[at0 b hbt hb] at e;exact(I1.hok b o e).stay (λd v _ z=>old d v z) (λd z=>sm _ _ z) (λd ws z=>sm _ _ z) λd ob v z=>sm _ _ z
 have I2:aN X pins σ (35,gH (ts.zip (16,xs,ys)) H1,h'.objs.size,ts.map V.ref) {s1 with heap:=h2,toks:=tk}:=I1.un (t':=tk) ⟨λb o e _ _ _=>old b o e,λb o e _ _ _=>(3,o.slots,old b o e),λb o e n _=>by
   have hb:=(48,e);rw[at0 b (λhm=>(32,(9,hb,tbig b hm),lt_irrefl _)) (λhm=>(32,(9,hb,(hm▸big)),lt_irrefl _))];exact n,λb o e _=>(3,o,old b o e),λb ws e=>sm _ _ e,λb o z e=>sm _ _ e,λb ps e=>(3,#[],by rw[sm _ _ e];simp)⟩ hok
 exact(4,(9,h'.objs.size),_,I2,rfl,q ts h'.objs.size hl' nd fT fS)
end
end L2
namespace L3
open PySem PySem.Spec PyProof.Rows L2
structure Ct where
 K:Frag
 cls:String->Addr
 clo:Nat->Hp->Addr->([38])->Prop
 cloM:∀{k:Nat}{H H':Hp}{a:Addr}{xs:[38]},aM H H'->clo k H a xs->clo k H' a xs
 tb:Hp
 opq:∀H a,clo NJ H a []
mutual
def Rep(Γ:Ct)(H:Hp):D->V->Prop
 |.non,v=>v=.non
 |.bl b,v=>v=.bl b
 |.int i,v=>v=(16,i)
 |.str x,v=>v=.str x
 |.tup ds,v=>∃a xs,v=(9,a)/\nV Γ.K H a xs/\(37,H,xs)
 |.lst ds,v=>∃a xs,v=(9,a)/\kQ Γ.K H a xs/\(37,H,xs)
 |.obj c ns ds,v=>∃a dx xs,v=(9,a)/\H a=(1,.ins (Γ.cls c) dx (ns.zip xs))/\(37,H,xs)
 |.fn k ds,v=>∃a xs,v=(9,a)/\Γ.clo k H a xs/\(37,H,xs)
def RepL(Γ:Ct)(H:Hp):([20])->([38])->Prop
 |[],xs=>xs=[]
 |d::ds,xs=>∃x r,xs=x::r/\(33,H,d,x)/\(37,H,r)
end
theorem cx{K:Frag}{H H':Hp}{a:Addr}{xs:[38]}(e:aM H H')(h:nV K H a xs):nV K H' a xs:=by
 rcases h with(h|⟨o,h⟩)|h
 ·exact .inl (.inl (e _ _ h))
 ·exact .inl (.inr (3,o,e _ _ h))
 ·exact .inr h
mutual
theorem Rep.mono{Γ:Ct}{H H':Hp}(e:aM H H'):∀{d:D}{v:V},(33,H,d,v)->(33,H',d,v)
 |.non,_,r=>by unfold Rep at r ⊢;exact r
 |.bl _,_,r=>by unfold Rep at r ⊢;exact r
 |.int _,_,r=>by unfold Rep at r ⊢;exact r
 |.str _,_,r=>by unfold Rep at r ⊢;exact r
 |.tup ds,_,r=>by
  unfold Rep at r ⊢;obtain⟨a,xs,e1,q,r⟩:=r;exact(4,a,xs,e1,cx e q,RepL.mono e r)
 |.lst ds,_,r=>by
  unfold Rep at r ⊢;obtain⟨a,xs,e1,q,r⟩:=r;exact(4,a,xs,e1,aM.seq e q,RepL.mono e r)
 |.obj c ns ds,_,r=>by
  unfold Rep at r ⊢;obtain⟨a,dx,xs,e1,q,r⟩:=r;exact⟨a,dx,xs,e1,e _ _ q,RepL.mono e r⟩
 |.fn k ds,_,r=>by
  unfold Rep at r ⊢;obtain⟨a,xs,e1,q,r⟩:=r;exact(4,a,xs,e1,Γ.cloM e q,RepL.mono e r)
theorem RepL.mono{Γ:Ct}{H H':Hp}(e:aM H H'):∀{ds:[20]}{xs:[38]},(37,H,xs)->(37,H',xs)
 |[],_,r=>by unfold RepL at r ⊢;exact r
 |d::ds,_,r=>by
  unfold RepL at r ⊢;obtain⟨x,r',e1,q,r2⟩:=r;exact(4,x,r',e1,Rep.mono e q,RepL.mono e r2)
end
section
variable{Γ:Ct}{H H':Hp}
theorem cy{v:V}:(33,H,.non,v)↔v=.non:=by unfold Rep;exact Iff.rfl
theorem aI{b:Bool}{v:V}:(33,H,.bl b,v)↔v=.bl b:=by unfold Rep;exact Iff.rfl
theorem ak{i:Int}{v:V}:(33,H,(16,i),v)↔v=(16,i):=by unfold Rep;exact Iff.rfl
theorem bI{x:Str}{v:V}:(33,H,.str x,v)↔v=.str x:=by unfold Rep;exact Iff.rfl
theorem bx{ds:[20]}{v:V}:(33,H,(22,ds),v)↔∃a xs,v=(9,a)/\nV Γ.K H a xs/\(37,H,xs):=by
 constructor
 ·intro h;unfold Rep at h;exact h
 ·intro h;unfold Rep;exact h
theorem bA{ds:[20]}{v:V}:(33,H,(13,ds),v)↔∃a xs,v=(9,a)/\kQ Γ.K H a xs/\(37,H,xs):=by
 constructor
 ·intro h;unfold Rep at h;exact h
 ·intro h;unfold Rep;exact h
theorem lZ{c:String}{ns:[16]}{ds:[20]}{v:V}:(33,H,(27,ns,ds),v)↔∃a dx xs,v=(9,a)/\H a=(1,.ins (Γ.cls c) dx (ns.zip xs))/\(37,H,xs):=by
 constructor
 ·intro h;unfold Rep at h;exact h
 ·intro h;unfold Rep;exact h
theorem rK{k:Nat}{ds:[20]}{v:V}:(33,H,.fn k ds,v)↔∃a xs,v=(9,a)/\Γ.clo k H a xs/\(37,H,xs):=by
 constructor
 ·intro h;unfold Rep at h;exact h
 ·intro h;unfold Rep;exact h
theorem dC{xs:[38]}:(16,H,[],xs)↔xs=[]:=by unfold RepL;exact Iff.rfl
theorem bp{d:D}{ds:[20]}{xs:[38]}:(16,H,(d::ds),xs)↔∃x r,xs=x::r/\(33,H,d,x)/\(37,H,r):=by
 constructor
 ·intro h;unfold RepL at h;exact h
 ·intro h;unfold RepL;exact h
theorem RepL.nil:(16,H,[],[]):=dC.mpr rfl
theorem RepL.cons{d:D}{ds:[20]}{x:V}{xs:[38]}(h:(33,H,d,x))(t:(37,H,xs)):(16,H,(d::ds),(x::xs)):=bp.mpr (4,x,xs,rfl,h,t)
theorem RepL.length:∀{ds:[20]}{xs:[38]},(37,H,xs)->ds.length=xs.length
 |[],xs,h=>by rw[dC.mp h];rfl
 |d::ds,xs,h=>by
  obtain⟨x,r,e,_,t⟩:=bp.mp h;rw[e,length_cons,length_cons,RepL.length t]
theorem RepL.append:∀{ds es:[20]}{xs ys:[38]},(37,H,xs)->(16,H,es,ys)->(16,H,(ds++es),(xs++ys))
 |[],es,xs,ys,h,h'=>by rw[dC.mp h];exact h'
 |d::ds,es,xs,ys,h,h'=>by
  obtain⟨x,r,e,q,t⟩:=bp.mp h;rw[e];exact(22,q,RepL.append t h')
theorem RepL.get:∀{ds:[20]}{xs:[38]}{i:Nat}{d:D},(37,H,xs)->ds[i]?=(1,d)->∃x,xs[i]?=(1,x)/\(33,H,d,x)
 |[],xs,i,d,h,e=>by simp at e
 |d::ds,xs,0,d',h,e=>by
  obtain⟨x,r,e1,q,t⟩:=bp.mp h;simp at e;subst e e1;exact(19,x,q)
 |d::ds,xs,i+1,d',h,e=>by
  obtain⟨x,r,e1,q,t⟩:=bp.mp h;obtain⟨y,e2,q2⟩:=RepL.get (i:=i) t (by simpa using e)
  subst e1;exact(11,y,by simpa using e2,q2)
theorem RepL.take:∀{ds:[20]}{xs:[38]}(n:Nat),(37,H,xs)->(16,H,ds.take n,xs.take n)
 |_,_,0,_=>.nil
 |[],xs,n+1,h=>by rw[dC.mp h];exact .nil
 |d::ds,xs,n+1,h=>by
  obtain⟨x,r,e,q,t⟩:=bp.mp h;subst e;exact(22,q,RepL.take n t)
theorem RepL.drop:∀{ds:[20]}{xs:[38]}(n:Nat),(37,H,xs)->(16,H,ds.drop n,xs.drop n)
 |_,_,0,h=>h
 |[],xs,n+1,h=>by rw[dC.mp h];exact .nil
 |d::ds,xs,n+1,h=>by
  obtain⟨x,r,e,q,t⟩:=bp.mp h;subst e;exact RepL.drop n t
theorem RepL.rep{ds:[20]}{xs:[38]}(h:(37,H,xs)):∀k:Nat,(16,H,(replicate k ds).flatten,(replicate k xs).flatten)
 |0=>.nil
 |k+1=>by
  rw[replicate_succ,replicate_succ,flatten_cons,flatten_cons];exact h.append (RepL.rep h k)
theorem RepL.set{d:D}{x:V}(q:(33,H,d,x)):∀{ds:[20]}{xs:[38]}(i:Nat),(37,H,xs)->(16,H,ds.set i d,xs.set i x)
 |[],xs,i,h=>by rw[dC.mp h];exact .nil
 |e::ds,xs,0,h=>by
  obtain⟨y,r,e1,_,t⟩:=bp.mp h;subst e1;exact(22,q,t)
 |e::ds,xs,i+1,h=>by
  obtain⟨y,r,e1,q1,t⟩:=bp.mp h;subst e1;exact(22,q1,RepL.set q i t)
theorem RepL.ints:∀(ns:[24]),(16,H,[23],ns.map V.int)
 |[]=>.nil
 |n::ns=>(22,[52],RepL.ints ns)
theorem RepL.intsOf:∀{ds:[20]}{xs:[38]}{ns:[24]},(37,H,xs)->intsOf ds=(1,ns)->xs=ns.map V.int
 |[],xs,ns,h,e=>by
  cases e;exact dC.mp h
 |.int i::ds,xs,ns,h,e=>by
  obtain⟨x,r,e1,q,t⟩:=bp.mp h;unfold L3.intsOf at e;cases e2:L3.intsOf ds with
  |none=>rw[e2] at e;cases e
  |some ms=>
   rw[e2] at e;cases e;rw[e1,ak.mp q,RepL.intsOf t e2,map_cons]
 |.non::ds,xs,ns,h,e=>by cases e
 |.bl _::ds,xs,ns,h,e=>by cases e
 |.str _::ds,xs,ns,h,e=>by cases e
 |.tup _::ds,xs,ns,h,e=>by cases e
 |.lst _::ds,xs,ns,h,e=>by cases e
 |.fn _ _::ds,xs,ns,h,e=>by cases e
 |.obj _ _ _::ds,xs,ns,h,e=>by cases e
theorem RepL.blsOf:∀{ds:[20]}{xs:[38]}{ns:List Bool},(37,H,xs)->blsOf ds=(1,ns)->xs=ns.map V.bl
 |[],xs,ns,h,e=>by
  cases e;exact dC.mp h
 |.bl i::ds,xs,ns,h,e=>by
  obtain⟨x,r,e1,q,t⟩:=bp.mp h;unfold L3.blsOf at e;cases e2:L3.blsOf ds with
  |none=>rw[e2] at e;cases e
  |some ms=>
   rw[e2] at e;cases e;rw[e1,aI.mp q,RepL.blsOf t e2,map_cons]
 |.non::ds,xs,ns,h,e=>by cases e
 |.int _::ds,xs,ns,h,e=>by cases e
 |.str _::ds,xs,ns,h,e=>by cases e
 |.tup _::ds,xs,ns,h,e=>by cases e
 |.lst _::ds,xs,ns,h,e=>by cases e
 |.fn _ _::ds,xs,ns,h,e=>by cases e
 |.obj _ _ _::ds,xs,ns,h,e=>by cases e
theorem uT{d:D}{v:V}(h:(33,H,d,v))(f:flat d=true):(33,H',d,v):=by
 cases d with
 |non=>exact cy.mpr (cy.mp h)
 |bl _=>exact aI.mpr (aI.mp h)
 |int _=>exact ak.mpr (ak.mp h)
 |str _=>exact bI.mpr (bI.mp h)
 |_=>cases f
end
def si(Γ:Ct)(Hs:Hp):O->HO->Prop
 |.lst ds,ho=>∃xs,ho=(13,xs)/\(37,Hs,xs)
 |.obj c ns ds,ho=>∃dx xs,ho=.ins (Γ.cls c) dx (ns.zip xs)/\(37,Hs,xs)
 |.dic _,_=>False
 |.par _ _,_=>False
 |.fdic _,_=>False
 |.tab _,_=>False
 |.dik kvs,ho=>ho=.dK (kvs.map λp=>(Sum.inl p.1,V.int p.2))
def gg(Γ:Ct)(Hs:Hp)(a:Addr):O->HO->Prop
 |.lst ds,ho=>∃xs,ho=(13,xs)/\(37,Hs,xs)
 |.obj c ns ds,ho=>∃dx xs,ho=.ins (Γ.cls c) dx (ns.zip xs)/\(37,Hs,xs)
 |.dic _,_=>False
 |.par b o,ho=>a=b/\gg Γ Hs a o ho
 |.fdic _,_=>False
 |.tab _,_=>False
 |.dik kvs,ho=>ho=.dK (kvs.map λp=>(Sum.inl p.1,V.int p.2))
theorem si.w{Γ:Ct}{H:Hp}{o:O}{ho:HO}{a:Addr}(h:si Γ H o ho):gg Γ H a o ho:=by
 cases o with
 |lst ds=>exact h
 |obj c ns ds=>exact h
 |dik _=>exact h
 |_=>exact h.elim
theorem gg.o{Γ:Ct}{H:Hp}{o:O}{ho:HO}{a:Addr}(h:gg Γ H a o ho)(n:∀kvs,o≠.dic kvs)(n2:∀b u,o≠.par b u)(n3:∀kvs,o≠.fdic kvs)(n4:∀kvs,o≠.tab kvs):si Γ H o ho:=by
 cases o with
 |lst ds=>exact h
 |obj c ns ds=>exact h
 |dic kvs=>exact(n kvs rfl).elim
 |par b u=>exact(n2 b u rfl).elim
 |fdic kvs=>exact(n3 kvs rfl).elim
 |tab kvs=>exact(n4 kvs rfl).elim
 |dik _=>exact h
theorem gg.mono{Γ:Ct}{H H':Hp}(e:aM H H'){a:Addr}:∀{o:O}{ho:HO},gg Γ H a o ho->gg Γ H' a o ho
 |.lst ds,_,h=>by obtain⟨xs,e1,r⟩:=h;exact(11,xs,e1,r.mono e)
 |.obj c ns ds,_,h=>by obtain⟨dx,xs,e1,r⟩:=h;exact(10,dx,xs,e1,r.mono e)
 |.dic _,_,h=>h
 |.par b o,_,h=>(3,h.1,gg.mono e h.2)
 |.fdic _,_,h=>h
 |.tab _,_,h=>h
 |.dik _,_,h=>h
theorem si.mono{Γ:Ct}{H H':Hp}(e:aM H H'){o:O}{ho:HO}(h:si Γ H o ho):si Γ H' o ho:=by
 cases o with
 |dik _=>exact h
 |lst ds=>obtain⟨xs,e1,r⟩:=h;exact(11,xs,e1,r.mono e)
 |obj c ns ds=>obtain⟨dx,xs,e1,r⟩:=h;exact(10,dx,xs,e1,r.mono e)
 |_=>exact h.elim
theorem si.val{Γ:Ct}{H:Hp}{o:O}{ho:HO}{a:Addr}(h:si Γ H o ho)(e:H a=(1,ho)):(33,H,o.val,(9,a)):=by
 cases o with
 |dik _=>exact rK.mpr (4,a,[],rfl,Γ.opq H a,.nil)
 |lst ds=>obtain⟨xs,e1,r⟩:=h;subst e1;exact bA.mpr (4,a,xs,rfl,.of e,r)
 |obj c ns ds=>obtain⟨dx,xs,e1,r⟩:=h;subst e1;exact lZ.mpr ⟨a,dx,xs,rfl,e,r⟩
 |_=>exact h.elim
structure Grow(Hs H Hs' H':Hp):Prop where
 s:aM Hs Hs'
 h:aM H H'
 i:aM Hs' H'
 n:∀b o,Hs' b=([46])->Hs b=[46]\/H b=none
theorem Grow.refl{Hs H:Hp}(e:aM Hs H):Grow Hs H Hs H:=(10,.refl _,.refl _,e,λ_ _ q=>.inl q)
theorem Grow.trans{Hs H Hs1 H1 Hs2 H2:Hp}(a:Grow Hs H Hs1 H1)(b:Grow Hs1 H1 Hs2 H2):Grow Hs H Hs2 H2:=
 (10,a.s.trans b.s,a.h.trans b.h,b.i,λc o q=>(b.n c o q).elim (λz=>a.n c o z) λz=>.inr (a.h.free z))
theorem Grow.only{Hs H H':Hp}(e:aM Hs H)(k:aM H H'):Grow Hs H Hs H':=(10,.refl _,k,e.trans k,λ_ _ q=>.inl q)
theorem bV{H:Hp}{p:Addr}{o:HO}(h:H p=none):aM H (cF H p o):=λb u e=>by rw[az (aR e h)];exact e
theorem Grow.new{Hs H:Hp}{p:Addr}{o:HO}(e:aM Hs H)(h:H p=none):Grow Hs H (cF Hs p o) (cF H p o):=
 ⟨bV (e.free h),bV h,λb u q=>by
  by_cases hb:b=p
  ·subst hb;rw[aG] at q ⊢;exact q
  ·rw[az hb] at q ⊢;exact e _ _ q,λb u q=>by
  by_cases hb:b=p
  ·subst hb;exact .inr h
  ·rw[az hb] at q;exact .inl q⟩
theorem Grow.newOwn{Hs H:Hp}{p:Addr}{o:HO}(e:aM Hs H)(h:H p=none):Grow Hs H Hs (cF H p o):=.only e (bV h)
theorem Grow.share{Hs H Hs' H':Hp}{a:Addr}{ho:HO}(g:Grow Hs H Hs' H')(h0:H a=none)(h1:Hs' a=none)(h2:H' a=(1,ho)):Grow Hs H (cF Hs' a ho) H'/\aM Hs' (cF Hs' a ho):=
 ⟨⟨g.s.trans (bV h1),g.h,λb u q=>by
  by_cases hb:b=a
  ·subst hb;rw[aG] at q;cases q;exact h2
  ·rw[az hb] at q;exact g.i _ _ q,λb u q=>by
  by_cases hb:b=a
  ·subst hb;exact .inr h0
  ·rw[az hb] at q;exact g.n _ _ q⟩,bV h1⟩
inductive T5(Γ:Ct)(H Hs' H':Hp)(o:O)(v:V):Prop
 |mk (a:Addr) (ho:HO) (ev:v=(9,a)) (h0:H a=none) (h1:Hs' a=none) (h2:H' a=(1,ho)) (q:si Γ Hs' o ho)
def cS(Γ:Ct)(H Hs' H':Hp):S->V->Prop
 |.sh d,v=>(33,Hs',d,v)
 |.own o,v=>T5 Γ H Hs' H' o v
 |.two d a o,v=>(33,Hs',d,v)/\∃ho,Hs' a=none/\H' a=(1,ho)/\gg Γ Hs' a o ho
theorem cS.of{Γ:Ct}{H Hs' H':Hp}{d:D}{v:V}(h:(33,Hs',d,v)):cS Γ H Hs' H' (.sh d) v:=h
theorem cS.share{Γ:Ct}{Hs H Hs' H':Hp}{s:S}{v:V}(g:Grow Hs H Hs' H')(r:cS Γ H Hs' H' s v):∃Hs'',Grow Hs H Hs'' H'/\aM Hs' Hs''/\(33,Hs'',s.val,v):=by
 cases s with
 |sh d=>exact(10,Hs',g,.refl _,r)
 |own o=>
  obtain⟨a,ho,rfl,h0,h1,h2,q⟩:=r;obtain⟨g',e⟩:=g.share h0 h1 h2;exact(10,_,g',e,(q.mono e).val aG)
 |two d a o=>exact(10,Hs',g,.refl _,r.1)
theorem cS.look{Γ:Ct}{Hs H Hs' H':Hp}{s:S}{v:V}(g:Grow Hs H Hs' H')(r:cS Γ H Hs' H' s v):(33,H',s.val,v):=by
 cases s with
 |sh d=>exact Rep.mono g.i r
 |own o=>
  obtain⟨a,ho,rfl,h0,h1,h2,q⟩:=r;exact(q.mono g.i).val h2
 |two d a o=>exact Rep.mono g.i r.1
theorem cS.back{Γ:Ct}{H H1 Hs' H':Hp}{s:S}{v:V}(k:aM H H1)(r:cS Γ H1 Hs' H' s v):cS Γ H Hs' H' s v:=by
 cases s with
 |sh d=>exact r
 |own o=>
  obtain⟨a,ho,e,h0,h1,h2,q⟩:=r;exact⟨a,ho,e,k.free h0,h1,h2,q⟩
 |two d a o=>exact r
inductive T7(Γ:Ct)(B1 Hs H:Hp)(x:Option (Option V))(o:O):Prop
 |mk (a:Addr) (ho:HO) (e1:x=(33,a)) (e2:B1 a=none) (e3:Hs a=none) (e4:H a=(1,ho)) (q:gg Γ Hs a o ho)
structure RE(Γ:Ct)(B0 B1 Hs H:Hp)(σ:L2.St)(ρ:aC):Prop where
 b:Grow B0 B1 Hs H
 sh:∀(i:Nat)(d:D),ρ[i]?=(1,(6,d))->∃v,σ[i]?=(31,v)/\(33,Hs,d,v)
 own:∀(i:Nat)(o:O),ρ[i]?=(65,o)->T7 Γ B1 Hs H σ[i]? o
 apart:∀(i j:Nat)(o u:O)(a:Addr),i≠j->ρ[i]?=(65,o)->ρ[j]?=(65,u)->σ[i]?=(33,a)->σ[j]?≠(33,a)
 len:ρ.length=σ.length
 tb:aM Γ.tb Hs
section
variable{Γ:Ct}{B0 B1 Hs H Hs' H':Hp}{σ:L2.St}{ρ:aC}
theorem RE.grow(r:RE Γ B0 B1 Hs H σ ρ)(g:Grow Hs H Hs' H'):RE Γ B0 B1 Hs' H' σ ρ where
 tb:=r.tb.trans g.s
 b:=r.b.trans g
 sh:=λi d e=>let ⟨v,e1,q⟩:=r.sh i d e;(11,v,e1,q.mono g.s)
 own:=λi o e=>by
  obtain⟨a,ho,e1,e2,e3,e4,q⟩:=r.own i o e;refine⟨a,ho,e1,e2,?_,g.h _ _ e4,q.mono g.s⟩;cases z:Hs' a with
  |none=>rfl
  |some u=>
   rcases g.n a u z with z'|z'
   ·rw[e3] at z';cases z'
   ·rw[e4] at z';cases z'
 apart:=r.apart
 len:=r.len
theorem RE.setSh(r:RE Γ B0 B1 Hs H σ ρ){i:Nat}{d:D}{v:V}(hi:i<σ.length)(q:(33,Hs,d,v)):RE Γ B0 B1 Hs H (σ.set i (1,v)) (72,(6,d)) where
 tb:=r.tb
 b:=r.b
 sh:=λj e hj=>by
  by_cases h:i=j
  ·subst h;rw[(35,(by rw[r.len];exact hi))] at hj
   cases hj;exact(11,v,(35,hi),q)
  ·rw[(32,h)] at hj ⊢;exact r.sh j e hj
 own:=λj o hj=>by
  by_cases h:i=j
  ·subst h;rw[(35,(by rw[r.len];exact hi))] at hj
   cases hj
  ·rw[(32,h)] at hj ⊢;exact r.own j o hj
 apart:=λj k o u a hjk hj hk ha=>by
  have n1:i≠j:=λz=>by subst z;rw[(35,(by rw[r.len];exact hi))] at hj;cases hj
  have n2:i≠k:=λz=>by subst z;rw[(35,(by rw[r.len];exact hi))] at hk;cases hk
  rw[(32,n1)] at hj ha;rw[(32,n2)] at hk ⊢;exact r.apart j k o u a hjk hj hk ha
 len:=by rw[length_set,length_set,r.len]
theorem RE.setOwn(r:RE Γ B0 B1 Hs H σ ρ){i:Nat}{o:O}{a:Addr}{ho:HO}(hi:i<σ.length)(b1:B1 a=none)(h1:Hs a=none)(h2:H a=(1,ho))(q:gg Γ Hs a o ho)
  (new:∀(j:Nat)(u:O),j≠i->ρ[j]?=(65,u)->σ[j]?≠(33,a)):RE Γ B0 B1 Hs H (σ.set i (1,(9,a))) (72,(12,o)) where
 tb:=r.tb
 b:=r.b
 sh:=λj e hj=>by
  by_cases h:i=j
  ·subst h;rw[(35,(by rw[r.len];exact hi))] at hj
   cases hj
  ·rw[(32,h)] at hj ⊢;exact r.sh j e hj
 own:=λj u hj=>by
  by_cases h:i=j
  ·subst h;rw[(35,(by rw[r.len];exact hi))] at hj
   cases hj;exact⟨a,ho,(35,hi),b1,h1,h2,q⟩
  ·rw[(32,h)] at hj ⊢;exact r.own j u hj
 apart:=λj k u u' c hjk hj hk ha=>by
  by_cases hij:i=j
  ·subst hij;rw[(35,hi)] at ha;cases ha;rw[(32,hjk)] at hk ⊢;exact new k u' (Ne.symm hjk) hk
  ·rw[(32,hij)] at hj ha;by_cases hik:i=k
   ·subst hik;rw[(35,hi)];intro z;cases z;exact new j u (Ne.symm hij) hj ha
   ·rw[(32,hik)] at hk ⊢;exact r.apart j k u u' c hjk hj hk ha
 len:=by rw[length_set,length_set,r.len]
theorem RE.setS(r:RE Γ B0 B1 Hs H σ ρ)(g:Grow Hs H Hs' H'){i:Nat}{s:S}{v:V}(hi:i<σ.length)(q:cS Γ H Hs' H' s v):RE Γ B0 B1 Hs' H' (σ.set i (1,v)) (72,(1,s)):=by
 cases s with
 |sh d=>exact(r.grow g).setSh hi q
 |own o=>
  obtain⟨a,ho,rfl,h0,h1,h2,q⟩:=q;refine(r.grow g).setOwn hi (r.b.h.free h0) h1 h2 q.w λj u _ hj z=>?_;obtain⟨c,hc,e1,_,_,e4,_⟩:=r.own j u hj;rw[z] at e1;cases e1;rw[h0] at e4;cases e4
 |two d a o=>
  have r1:=(r.grow g).setSh hi q.1;have key:∀(j:Nat)(s:S),(∀d a o,s≠.two d a o)->(72,(1,.two d a o))[j]?=(31,s)->(72,(6,d))[j]?=(31,s):=λj s hn hj=>by
   by_cases h:i=j
   ·subst h;rw[(35,(by rw[r.len];exact hi))] at hj
    cases hj;exact(hn _ _ _ rfl).elim
   ·rw[(32,h)] at hj ⊢;exact hj
  exact⟨r1.b,λj e hj=>r1.sh j e (key j _ (λ_ _ _ z=>nomatch z) hj),λj u hj=>r1.own j u (key j _ (λ_ _ _ z=>nomatch z) hj),λj k u u' c hjk hj hk ha=>r1.apart j k u u' c hjk (key j _ (λ_ _ _ z=>nomatch z) hj) (key k _ (λ_ _ _ z=>nomatch z) hk) ha,by rw[length_set,length_set,r.len],r1.tb⟩
theorem RE.write(r:RE Γ B0 B1 Hs H σ ρ){i:Nat}{o o':O}{a:Addr}{ho':HO}(e:ρ[i]?=(65,o))(ea:σ[i]?=(33,a))(q:gg Γ Hs a o' ho'):RE Γ B0 B1 Hs (cF H a ho') σ (72,(12,o')):=by
 obtain⟨c,ho,e1,e2,e3,e4,_⟩:=r.own i o e;rw[ea] at e1;cases e1;have hi:i<ρ.length:=(17,e).1;refine⟨(10,r.b.s,λb u z=>?_,λb u z=>?_,r.b.n),λj d hj=>?_,λj u hj=>?_,λj k u u' c hjk hj hk ha=>?_,by rw[length_set,r.len],r.tb⟩
 ·rw[az (aR z e2)];exact r.b.h _ _ z
 ·rw[az (aR z e3)];exact r.b.i _ _ z
 ·by_cases h:i=j
  ·subst h;rw[(35,hi)] at hj;cases hj
  ·rw[(32,h)] at hj;exact r.sh j d hj
 ·by_cases h:i=j
  ·subst h;rw[(35,hi)] at hj;cases hj;exact⟨a,ho',ea,e2,e3,aG,q⟩
  ·rw[(32,h)] at hj;obtain⟨c,hc,f1,f2,f3,f4,f5⟩:=r.own j u hj;refine⟨c,hc,f1,f2,f3,?_,f5⟩;rw[az]
   ·exact f4
   ·intro z;subst z;exact r.apart i j o u c h e hj ea f1
 ·have old:∀(m:Nat)(u:O),(72,(12,o'))[m]?=(65,u)->∃u',ρ[m]?=(65,u'):=λm u hm=>by
   by_cases h:i=m
   ·subst h;exact(3,o,e)
   ·rw[(32,h)] at hm;exact(3,u,hm)
  obtain⟨x,hx⟩:=old j u hj;obtain⟨y,hy⟩:=old k u' hk;exact r.apart j k x y c hjk hx hy ha
theorem RE.dem(r:RE Γ B0 B1 Hs H σ ρ)(i:Nat):∃Hs',aM Hs Hs'/\RE Γ B0 B1 Hs' H σ (dem i ρ):=by
 unfold L3.dem;split
 ·exact(11,Hs,.refl _,r)
 ·exact(11,Hs,.refl _,r)
 ·exact(11,Hs,.refl _,r)
 ·exact(11,Hs,.refl _,r)
 ·rename_i o hno hno2 hno3 hno4 e;obtain⟨a,ho,e1,e2,e3,e4,q⟩:=r.own i o e;have q:=q.o (λkvs z=>by subst z;exact hno kvs rfl) (λb u z=>by subst z;exact hno2 b u rfl) (λkvs z=>by subst z;exact hno3 kvs rfl) λkvs z=>by subst z;exact hno4 kvs rfl
  have hi:i<ρ.length:=(17,e).1;have sm:aM Hs (cF Hs a ho):=bV e3;have sh':aM (cF Hs a ho) H:=λb u z=>by
   by_cases hb:b=a
   ·subst hb;rw[aG] at z;cases z;exact e4
   ·rw[az hb] at z;exact r.b.i _ _ z
  refine(11,cF Hs a ho,sm,⟨(10,r.b.s.trans sm,r.b.h,sh',λb u z=>?_),λj d hj=>?_,λj u hj=>?_,λj k u u' c hjk hj hk ha=>?_,by rw[length_set,r.len],r.tb.trans sm⟩)
  ·by_cases hb:b=a
   ·subst hb;exact .inr e2
   ·rw[az hb] at z;exact r.b.n _ _ z
  ·by_cases h:i=j
   ·subst h;rw[(35,hi)] at hj;cases hj;exact(11,(9,a),e1,(q.mono sm).val aG)
   ·rw[(32,h)] at hj;obtain⟨v,f1,f2⟩:=r.sh j d hj;exact(11,v,f1,f2.mono sm)
  ·by_cases h:i=j
   ·subst h;rw[(35,hi)] at hj;cases hj
   ·rw[(32,h)] at hj;obtain⟨c,hc,f1,f2,f3,f4,f5⟩:=r.own j u hj;refine⟨c,hc,f1,f2,?_,f4,f5.mono sm⟩;rw[az]
    ·exact f3
    ·intro z;subst z;exact r.apart i j o u c h e hj e1 f1
  ·have n1:i≠j:=λz=>by subst z;rw[(35,hi)] at hj;cases hj
   have n2:i≠k:=λz=>by subst z;rw[(35,hi)] at hk;cases hk
   rw[(32,n1)] at hj;rw[(32,n2)] at hk;exact r.apart j k u u' c hjk hj hk ha
 ·exact(11,Hs,.refl _,r)
end
abbrev XW:=D->Hp->Hp->Prop
def RQ(Γ:Ct)(W:XW)(Hs H:Hp)(r:R)(Q:VK):Prop:=match r with
 |.ok s=>∀v Hs' H',Grow Hs H Hs' H'->cS Γ H Hs' H' s v->Q v H'
 |.exc x=>∀Hs' H',Grow Hs H Hs' H'->W x Hs' H'
def RL(Γ:Ct)(W:XW)(Hs H:Hp)(r:R)(Q:VK):Prop:=match r with
 |.ok s=>∀v Hs' H',Grow Hs H Hs' H'->(33,H',s.val,v)->Q v H'
 |.exc x=>∀Hs' H',Grow Hs H Hs' H'->W x Hs' H'
def RB(W:XW)(Hs H:Hp)(r:R)(Q:Bool->Hp->Prop):Prop:=match r with
 |.ok s=>∃b,s.val=.bl b/\∀Hs' H',Grow Hs H Hs' H'->Q b H'
 |.exc x=>∀Hs' H',Grow Hs H Hs' H'->W x Hs' H'
section
variable{Γ:Ct}{W:XW}{Hs H Hs1 H1:Hp}{r:R}{Q Q':VK}
theorem RQ.grow(q:RQ Γ W Hs H r Q)(g:Grow Hs H Hs1 H1):RQ Γ W Hs1 H1 r Q:=by
 cases r with
 |ok s=>exact λv Hs' H' g' rs=>q v Hs' H' (g.trans g') (rs.back g.h)
 |exc x=>exact λHs' H' g'=>q Hs' H' (g.trans g')
theorem RQ.mono(q:RQ Γ W Hs H r Q)(h:∀v H,Q v H->Q' v H):RQ Γ W Hs H r Q':=by
 cases r with
 |ok s=>exact λv Hs' H' g' rs=>h _ _ (q v Hs' H' g' rs)
 |exc x=>exact q
theorem RL.mono(q:RL Γ W Hs H r Q)(h:∀v H,Q v H->Q' v H):RL Γ W Hs H r Q':=by
 cases r with
 |ok s=>exact λv Hs' H' g' rs=>h _ _ (q v Hs' H' g' rs)
 |exc x=>exact q
theorem RL.grow(q:RL Γ W Hs H r Q)(g:Grow Hs H Hs1 H1):RL Γ W Hs1 H1 r Q:=by
 cases r with
 |ok s=>exact λv Hs' H' g' rs=>q v Hs' H' (g.trans g') rs
 |exc x=>exact λHs' H' g'=>q Hs' H' (g.trans g')
end
inductive tD(Γ:Ct)(W:XW)(g:ME)(σ:L2.St)(H:Hp)(Q:VK):Prop
 |mk (B0 B1 Hs:Hp) (ρ:aC) (r:R) (re:RE Γ B0 B1 Hs H σ ρ) (e:g ρ=(1,r)) (q:RQ Γ W Hs H r Q)
inductive tL(Γ:Ct)(W:XW)(g:ME)(σ:L2.St)(H:Hp)(Q:VK):Prop
 |mk (B0 B1 Hs:Hp) (ρ:aC) (r:R) (re:RE Γ B0 B1 Hs H σ ρ) (e:g ρ=(1,r)) (q:RL Γ W Hs H r Q)
inductive tT(Γ:Ct)(W:XW)(g:ME)(σ:L2.St)(H:Hp)(Q:Bool->Hp->Prop):Prop
 |mk (B0 B1 Hs:Hp) (ρ:aC) (r:R) (re:RE Γ B0 B1 Hs H σ ρ) (e:g ρ=(1,r)) (q:RB W Hs H r Q)
def wu(Γ:Ct)(W:XW):List ME->TA
 |[]=>JG
 |g::gs=>JJ (tD Γ W g) (wu Γ W gs)
def yC(Γ:Ct)(W:XW):List ME->TA
 |[]=>JG
 |g::gs=>JJ (tL Γ W g) (yC Γ W gs)
section
variable{Γ:Ct}{W:XW}{B0 B1 Hs H:Hp}{σ:L2.St}{ρ:aC}{r:R}{Q Q':VK}{g ga:ME}{k:D->Option R}
theorem tD.mono(t:tD Γ W g σ H Q)(h:∀v H,Q v H->Q' v H):tD Γ W g σ H Q':=by
 obtain⟨B0,B1,Hs,ρ,r,re,e,q⟩:=t;exact(3,B1,Hs,ρ,r,re,e,q.mono h)
theorem tL.mono(t:tL Γ W g σ H Q)(h:∀v H,Q v H->Q' v H):tL Γ W g σ H Q':=by
 obtain⟨B0,B1,Hs,ρ,r,re,e,q⟩:=t;exact(3,B1,Hs,ρ,r,re,e,q.mono h)
theorem tL.toD(t:tL Γ W g σ H Q):tD Γ W g σ H Q:=by
 obtain⟨B0,B1,Hs,ρ,r,re,e,q⟩:=t;refine(3,B1,Hs,ρ,r,re,e,?_);cases r with
 |ok s=>exact λv Hs' H' g' rs=>q v Hs' H' g' (rs.look g')
 |exc x=>exact q
theorem cp(re:RE Γ B0 B1 Hs H σ ρ)(e:bg (ga ρ) k=(1,r))(q:RQ Γ W Hs H r Q):
  tD Γ W ga σ H (λv H1=>∃Hs1 d,Grow Hs H Hs1 H1/\RE Γ B0 B1 Hs1 H1 σ ρ/\(33,Hs1,d,v)/\k d=(1,r)/\RQ Γ W Hs1 H1 r Q):=by
 cases h:ga ρ with
 |none=>rw[h] at e;cases e
 |some x=>
  rw[h] at e;refine(3,B1,Hs,ρ,x,re,h,?_);cases x with
  |exc y=>cases e;exact q
  |ok s=>
   intro v Hs' H' g' rs;obtain⟨Hs'',g2,_,rp⟩:=rs.share g';exact⟨Hs'',s.val,g2,re.grow g2,rp,e,q.grow g2⟩
theorem eB:∀(gs:List ME){σ:L2.St}{H:Hp}{Q Q':([38])->Hp->Prop},(∀v H,Q v H->Q' v H)->wu Γ W gs σ H Q->wu Γ W gs σ H Q'
 |[],_,_,_,_,h,t=>h _ _ t
 |g::gs,_,_,_,_,h,t=>tD.mono t λv H1 t'=>eB gs (λvs H2 z=>h _ _ z) t'
theorem mz:∀(gs:List ME){σ:L2.St}{H:Hp}{Q Q':([38])->Hp->Prop},(∀v H,Q v H->Q' v H)->yC Γ W gs σ H Q->yC Γ W gs σ H Q'
 |[],_,_,_,_,h,t=>h _ _ t
 |g::gs,_,_,_,_,h,t=>tL.mono t λv H1 t'=>mz gs (λvs H2 z=>h _ _ z) t'
theorem lH:∀(gs:List ME){Hs H:Hp}{k:([20])->[57]},RE Γ B0 B1 Hs H σ ρ->cA gs ρ k=(1,r)->RQ Γ W Hs H r Q->
  wu Γ W gs σ H (λvs H1=>∃Hs1 ds,Grow Hs H Hs1 H1/\RE Γ B0 B1 Hs1 H1 σ ρ/\(37,Hs1,vs)/\k ds=(1,r)/\RQ Γ W Hs1 H1 r Q)
 |[],Hs,H,k,re,e,q=>⟨Hs,[],.refl re.b.i,re,.nil,e,q⟩
 |g::gs,Hs,H,k,re,e,q=>by
  refine(cp re e q).mono λv H1 ⟨Hs1,d,g1,re1,rp,e1,q1⟩=>?_;refine eB gs (λvs H2 ⟨Hs2,ds,g2,re2,rps,e2,q2⟩=>?_) (lH gs re1 e1 q1);exact⟨Hs2,d::ds,g1.trans g2,re2,(22,rp.mono g2.s,rps),e2,q2⟩
theorem wx:∀(gs:List ME){Hs H:Hp}{k:([20])->[57]}{d:D},RE Γ B0 B1 Hs H σ ρ->nD (cA gs ρ k)=(34,.sh d)->RQ Γ W Hs H (.ok (.sh d)) Q->
  yC Γ W gs σ H (λvs H1=>∃Hs1 ds,Grow Hs H Hs1 H1/\RE Γ B0 B1 Hs1 H1 σ ρ/\(37,H1,vs)/\nD (k ds)=(34,.sh d)/\RQ Γ W Hs1 H1 (.ok (.sh d)) Q)
 |[],Hs,H,k,d,re,e,q=>⟨Hs,[],.refl re.b.i,re,.nil,e,q⟩
 |g::gs,Hs,H,k,d,re,e,q=>by
  have e':nD (bg (g ρ) λx=>cA gs ρ λds=>k (x::ds))=(34,.sh d):=e;cases h:g ρ with
  |none=>rw[h] at e';cases e'
  |some x=>
   rw[h] at e';cases x with
   |exc y=>cases e'
   |ok s=>
    refine(3,B1,Hs,ρ,.ok s,re,h,λv Hs1 H1 g1 rp=>?_);refine mz gs (λvs H2 ⟨Hs2,ds,g2,re2,rps,e2,q2⟩=>?_) (wx gs (k:=λds=>k (s.val::ds)) (re.grow g1) e' (q.grow g1));exact⟨Hs2,s.val::ds,g1.trans g2,re2,(22,rp.mono g2.h,rps),e2,q2⟩
end
theorem PE.imp{X:Cx}{e:Expr}{t t':TE}(h:PE X e t)(i:∀pins s σ H Q,([48])->t' σ H Q->t σ H Q):PE X e t':=λpins s σ H Q I q=>h pins s σ H Q I (i pins s σ H Q I q)
theorem PT.imp{X:Cx}{e:Expr}{t t':TT}(h:PT X e t)(i:∀pins s σ H Q,([48])->t' σ H Q->t σ H Q):PT X e t':=λpins s σ H Q I q=>h pins s σ H Q I (i pins s σ H Q I q)
theorem PW.imp{X:Cx}{e:Expr}{t t':TT}(h:PW X e t)(i:∀σ H Q,t' σ H Q->t σ H Q):PW X e t':=λw pins s σ H Q I q=>h w pins s σ H Q I (i σ H Q q)
theorem PS.imp{X:Cx}{e:Stmt}{t t':TS}(h:PS X e t)(i:∀pins s σ H D,([48])->t' D σ H->t D σ H):PS X e t':=λpins s σ H D I q=>h pins s σ H D I (i pins s σ H D I q)
theorem tO.imp{X:Cx}{e:List Stmt}{t t':TS}(h:tO X e t)(i:∀D σ H,t' D σ H->t D σ H):tO X e t':=λpins s σ H D I q=>h pins s σ H D I (i D σ H q)
abbrev PD(X:Cx)(Γ:Ct)(W:XW)(e:Expr)(g:ME):Prop:=PE X e (tD Γ W g)
abbrev PL(X:Cx)(Γ:Ct)(W:XW)(e:Expr)(g:ME):Prop:=PE X e (tL Γ W g)
abbrev D3(X:Cx)(Γ:Ct)(W:XW)(e:Expr)(g:ME):Prop:=PT X e (tT Γ W g)
abbrev uk(X:Cx)(Γ:Ct)(W:XW)(e:Expr)(g:ME):Prop:=PW X e (tT Γ W g)
abbrev sX(X:Cx)(Γ:Ct)(W:XW)(es:List Expr)(gs:List ME):Prop:=PA X es (wu Γ W gs)
abbrev RF(X:Cx)(Γ:Ct)(W:XW)(es:List Expr)(gs:List ME):Prop:=PA X es (yC Γ W gs)
section
variable{X:Cx}{Γ:Ct}{W:XW}{e a b:Expr}{g ga gb:ME}{pos:Pos}
theorem PD.look(h:(25,e,g)):PL X Γ W e g:=(78,h) λ_ _ _ _ _ _ t=>t.toD
theorem a0{i:Nat}(h:PE X e (ka i)):(25,e,a9 i):=(78,h) λ_ _ σ H Q _ ⟨B0,B1,Hs,ρ,r,re,e1,q⟩=>by
 unfold a9 at e1;split at e1
 ·rename_i d hd;cases e1;obtain⟨v,e2,rp⟩:=re.sh i d hd;exact(11,v,e2,q v Hs H (.refl re.b.i) rp)
 ·cases e1
theorem aZ{i:Nat}(h:PE X e (ka i)):PL X Γ W e (eO i):=(78,h) λ_ _ σ H Q _ ⟨B0,B1,Hs,ρ,r,re,e1,q⟩=>by
 unfold eO at e1;split at e1
 ·cases e1
 ·cases e1
 ·cases e1
 ·cases e1
 ·cases e1
 ·rename_i s hno hno2 hno4 hno5 hno3 hd;cases e1;cases s with
  |two d a o=>exact(hno3 d a o rfl).elim
  |sh d=>
   obtain⟨v,e2,rp⟩:=re.sh i d hd;exact(11,v,e2,q v Hs H (.refl re.b.i) (Rep.mono re.b.i rp))
  |own o=>
   obtain⟨c,ho,e2,_,_,e4,rp⟩:=re.own i o hd;exact(11,(9,c),e2,q (9,c) Hs H (.refl re.b.i) (((rp.o (λkvs z=>by subst z;exact hno kvs rfl) (λb u z=>by subst z;exact hno2 b u rfl) (λkvs z=>by subst z;exact hno4 kvs rfl) λkvs z=>by subst z;exact hno5 kvs rfl).mono re.b.i).val e4))
 ·cases e1
theorem u9{v:V}{d:D}(h:PE X e (tC v))(rp:∀H,(33,H,d,v)):(25,e,eC d):=(78,h) λ_ _ σ H Q _ ⟨B0,B1,Hs,ρ,r,re,e1,q⟩=>by
 cases e1;exact q v Hs H (.refl re.b.i) (rp Hs)
theorem af{i j}:(25,.Constant (16,i) j pos,(3,i)):=u9 DS λ_=>[52]
theorem y7{i j}:(25,.Constant (.bool i) j pos,eC (.bl i)):=u9 Sd λ_=>aI.mpr rfl
theorem Ku{j}:(25,.Constant .none j pos,eC .non):=u9 Q7 λ_=>cy.mpr rfl
theorem c9{i j}:(25,.Constant (.str i) j pos,(45,i)):=u9 Q5 λ_=>bI.mpr rfl
theorem pB{i j pos'}:(25,.UnaryOp .USub (.Constant (16,i) j pos') pos,(3,(-i))):=(78,Sb Pi DS) λ_ _ σ H Q _ ⟨B0,B1,Hs,ρ,r,re,e1,q⟩=>by
 cases e1;exact(19,i,q _ Hs H (.refl re.b.i) (cS.of [52]))
inductive rD(Γ:Ct)(W:XW)(f:D->D->Option R)(x y:V)(H:Hp)(Q:VK):Prop
 |mk (Hs:Hp) (d1 d2:D) (r:R) (sm:aM Hs H) (r1:(33,Hs,d1,x)) (r2:(33,Hs,d2,y)) (e:f d1 d2=(1,r)) (q:RQ Γ W Hs H r Q)
theorem zc{f:D->D->[57]}{σ:L2.St}{H:Hp}{Q:VK}(t:tD Γ W (31,f,ga,gb) σ H Q):RJ (rD Γ W f) (tD Γ W ga) (tD Γ W gb) σ H Q:=by
 obtain⟨B0,B1,Hs,ρ,r,re,e,q⟩:=t;refine(cp re e q).mono λv H1 ⟨Hs1,d,g1,re1,rp,e1,q1⟩=>?_;refine(cp re1 e1 q1).mono λu H2 ⟨Hs2,d2,g2,re2,rp2,e2,q2⟩=>?_;exact⟨Hs2,d,d2,r,re2.b.i,rp.mono g2.s,rp2,e2,q2⟩
theorem av{op:Operator}{f:D->D->[57]}(ho:(21,X,op,rD Γ W f))(ha:(25,a,ga))(hb:(25,b,gb)):(25,.BinOp a op b pos,(31,f,ga,gb)):=
 (78,OT ho ha hb) λ_ _ _ _ _ _ t=>zc t
theorem iy{op:CmpOp}{f:D->D->[57]}(ho:(19,X,op,rD Γ W f))(ha:(25,a,ga))(hb:(25,b,gb))(hm:behindInMarks op b=false:=by first|exact KM _|rfl):(25,.Compare a [op] [b] pos,(31,f,ga,gb)):=
 (78,NB ho ha hb hm) λ_ _ _ _ _ _ t=>zc t
theorem Fy{σ:L2.St}{H:Hp}{Q:Bool->Hp->Prop}(t:tT Γ W g σ H Q):tD Γ W g σ H (λx H'=>∃k,x=.bl k/\Q k H'):=by
 obtain⟨B0,B1,Hs,ρ,r,re,e,q⟩:=t;refine(3,B1,Hs,ρ,r,re,e,?_);cases r with
 |exc x=>exact q
 |ok s=>
  obtain⟨c,ec,q⟩:=q;intro v Hs' H' g' rs;obtain⟨_,g2,_,rp⟩:=rs.share g';rw[ec] at rp;exact(11,c,aI.mp rp,q _ _ g')
theorem aD{op:CmpOp}{f:D->D->[57]}(ho:(19,X,op,rD Γ W f))(ha:(25,a,ga))(hb:(25,b,gb))(hm:behindInMarks op b=false:=by first|exact KM _|rfl):D3 X Γ W (.Compare a [op] [b] pos) (31,f,ga,gb):=
 PT.imp (Nk ho ha hb hm) λ_ _ _ _ _ _ t=>zc (Fy t)
theorem dD(h:(25,e,g))(he:∀whole,isTrue e X.env whole=(do let v ←whole;standAt e.pos;holding [v] (truthy v)):=by intro _;rfl):D3 X Γ W e g:=
 PT.imp (K1 h he) λ_ _ _ _ _ _ t=>Fy t
section
variable{t u:ME}{rest:List Expr}
theorem tT.mono{σ:L2.St}{H:Hp}{Q Q':Bool->Hp->Prop}(h:tT Γ W g σ H Q)(k:∀b H,Q b H->Q' b H):tT Γ W g σ H Q':=by
 obtain⟨B0,B1,Hs,ρ,r,re,e,q⟩:=h;refine(3,B1,Hs,ρ,r,re,e,?_);cases r with
 |exc x=>exact q
 |ok s=>obtain⟨c,ec,q⟩:=q;exact(11,c,ec,λHs' H' g'=>k _ _ (q Hs' H' g'))
theorem RB.grow{Hs H Hs1 H1:Hp}{r:R}{Q:Bool->Hp->Prop}(q:RB W Hs H r Q)(g:Grow Hs H Hs1 H1):RB W Hs1 H1 r Q:=by
 cases r with
 |exc x=>exact λHs' H' g'=>q Hs' H' (g.trans g')
 |ok s=>obtain⟨c,ec,q⟩:=q;exact(11,c,ec,λHs' H' g'=>q Hs' H' (g.trans g'))
theorem k8{x:D}{k:Bool->[57]}{r:R}(h:asB x k=(1,r)):∃c,x=.bl c/\k c=(1,r):=by
 cases x with
 |bl c=>exact(19,c,h)
 |_=>cases h
theorem ko(ha:D3 X Γ W a g):D3 X Γ W (.UnaryOp .Not a pos) (rZ g):=PT.imp (K3 ha) λ_ _ σ H Q _ t=>by
 obtain⟨B0,B1,Hs,ρ,r,re,e,q⟩:=t;have e':bg (g ρ) SX=(1,r):=e;cases h:g ρ with
 |none=>rw[h] at e';cases e'
 |some x=>
  rw[h] at e';refine(3,B1,Hs,ρ,x,re,h,?_);cases x with
  |exc y=>cases e';exact q
  |ok s=>
   obtain⟨c,ec,e2⟩:=k8 (show asB s.val (λc=>okB (!c))=(1,r) from e');cases e2;obtain⟨c',ec',q⟩:=q;cases ec';exact(11,c,ec,q)
theorem gZ(ha:D3 X Γ W a g):uk X Γ W (.BoolOp .And [a] pos) g:=Ni ha
theorem m5(ha:D3 X Γ W a g):uk X Γ W (.BoolOp .Or [a] pos) g:=PN ha
theorem iL(ha:D3 X Γ W a t)(hb:uk X Γ W (.BoolOp .And (b::rest) pos) u):uk X Γ W (.BoolOp .And (a::b::rest) pos) (fZ t u):=PW.imp (PP ha hb) λσ H Q h=>by
 obtain⟨B0,B1,Hs,ρ,r,re,e,q⟩:=h;have e':bg (t ρ) (λx=>asB x λc=>if c=true then u ρ else[64])=(1,r):=e;cases h:t ρ with
 |none=>rw[h] at e';cases e'
 |some x=>
  rw[h] at e';refine(3,B1,Hs,ρ,x,re,h,?_);cases x with
  |exc y=>cases e';exact q
  |ok s=>
   obtain⟨c,ec,e2⟩:=k8 (show asB s.val _=(1,r) from e');refine(11,c,ec,λHs' H' g'=>?_);cases c with
   |true=>exact(3,B1,Hs',ρ,r,re.grow g',e2,q.grow g')
   |false=>
    cases e2;obtain⟨c',ec',q⟩:=q;cases ec';exact q _ _ g'
theorem pw(ha:D3 X Γ W a t)(hb:uk X Γ W (.BoolOp .Or (b::rest) pos) u):uk X Γ W (.BoolOp .Or (a::b::rest) pos) (Gk t u):=PW.imp (S5 ha hb) λσ H Q h=>by
 obtain⟨B0,B1,Hs,ρ,r,re,e,q⟩:=h;have e':bg (t ρ) (λx=>asB x λc=>if c=true then okB true else u ρ)=(1,r):=e;cases h:t ρ with
 |none=>rw[h] at e';cases e'
 |some x=>
  rw[h] at e';refine(3,B1,Hs,ρ,x,re,h,?_);cases x with
  |exc y=>cases e';exact q
  |ok s=>
   obtain⟨c,ec,e2⟩:=k8 (show asB s.val _=(1,r) from e');refine(11,c,ec,λHs' H' g'=>?_);cases c with
   |false=>exact(3,B1,Hs',ρ,r,re.grow g',e2,q.grow g')
   |true=>
    cases e2;obtain⟨c',ec',q⟩:=q;cases ec';exact q _ _ g'
theorem uk.pt(h:uk X Γ W e g):D3 X Γ W e g:=PW.pt h
theorem rM{op}(h:(25,a,g)):(25,.BoolOp op [a] pos,g):=Q6 h
theorem pC(ha:(25,a,t))(hb:(25,.BoolOp .And (b::rest) pos,u)):(25,.BoolOp .And (a::b::rest) pos,fZ t u):=(78,Qb ha hb) λ_ _ σ H Q _ h=>by
 obtain⟨B0,B1,Hs,ρ,r,re,e,q⟩:=h;refine(cp (k:=λx=>asB x λc=>if c=true then u ρ else[64]) re e q).mono λv H1 ⟨Hs1,d,g1,re1,rp,e1,q1⟩=>?_;obtain⟨c,rfl,e2⟩:=k8 e1;refine(11,c,aI.mp rp,?_);cases c with
 |true=>exact(3,B1,Hs1,ρ,r,re1,e2,q1)
 |false=>cases e2;exact q1 _ Hs1 H1 [34] (37,rfl)
theorem qy{c:Expr}(hc:D3 X Γ W c g)(ha:(25,a,ga))(hb:(25,b,gb)):(25,.IfExp c a b pos,M1 g ga gb):=(78,Kn hc ha hb) λ_ _ σ H Q _ h=>by
 obtain⟨B0,B1,Hs,ρ,r,re,e,q⟩:=h;have e':bg (g ρ) (λx=>asB x λc=>if c=true then ga ρ else gb ρ)=(1,r):=e;cases h:g ρ with
 |none=>rw[h] at e';cases e'
 |some x=>
  rw[h] at e';refine(3,B1,Hs,ρ,x,re,h,?_);cases x with
  |exc y=>cases e';exact q
  |ok s=>
   obtain⟨c,ec,e2⟩:=k8 (show asB s.val _=(1,r) from e');refine(11,c,ec,λHs' H' g'=>?_);cases c with
   |true=>exact(3,B1,Hs',ρ,r,re.grow g',e2,q.grow g')
   |false=>exact(3,B1,Hs',ρ,r,re.grow g',e2,q.grow g')
end
theorem ae:sX X Γ W [] []:=fh
theorem b9{es:List Expr}{gs:List ME}(h:(25,e,g))(t:sX X Γ W es gs)(hs:(4,(e::es))=(false,(14,e))::(4,es):=by rfl):sX X Γ W (e::es) (g::gs):=bX h t hs
theorem bh:RF X Γ W [] []:=fh
theorem aK{es:List Expr}{gs:List ME}(h:PL X Γ W e g)(t:RF X Γ W es gs)(hs:(4,(e::es))=(false,(14,e))::(4,es):=by rfl):RF X Γ W (e::es) (g::gs):=bX h t hs
inductive Du(Γ:Ct)(W:XW)(F:List D->Option R)(vs:List V)(H:Hp)(Q:VK):Prop
 |mk (Hs:Hp) (ds:[20]) (r:R) (sm:aM Hs H) (rl:(37,Hs,vs)) (e:F ds=(1,r)) (q:RQ Γ W Hs H r Q) (tb:aM Γ.tb Hs)
theorem qe{F:([20])->[57]}{gs:List ME}{σ:L2.St}{H:Hp}{Q:VK}(t:tD Γ W (aq F gs) σ H Q):wu Γ W gs σ H λvs H1=>Du Γ W F vs H1 Q:=by
 obtain⟨B0,B1,Hs,ρ,r,re,e,q⟩:=t;exact eB gs (λvs H1 ⟨Hs1,ds,_,re1,rp,e1,q1⟩=>⟨Hs1,ds,r,re1.b.i,rp,e1,q1,re1.tb⟩) (lH gs re e q)
theorem uH{F:([20])->[57]}{gs:List ME}{σ:L2.St}{H:Hp}{Q:VK}(t:tD Γ W (aL F gs) σ H Q):yC Γ W gs σ H λvs H1=>Du Γ W F vs H1 Q:=by
 obtain⟨B0,B1,Hs,ρ,r,re,e,q⟩:=t;have e':nD (cA gs ρ F)=(1,r):=e;obtain⟨d,rfl⟩:∃d,r=.ok (.sh d):=by
  unfold nD at e';split at e'
  ·split at e'
   ·cases e';exact(3,_,rfl)
   ·cases e'
  ·cases e'
 refine mz gs (λvs H1 ⟨Hs1,ds,g1,re1,rp,e1,q1⟩=>?_) (wx gs re e' q);unfold nD at e1;split at e1
 ·rename_i s hs;split at e1
  ·rename_i hf;cases e1;refine⟨H1,ds,_,.refl _,rp,hs,λv Hs' H' g' rs=>q1 v Hs1 H' (.only re1.b.i g'.h) ?_,re1.tb.trans re1.b.i⟩;exact uT (rs.look g') hf
  ·cases e1
 ·cases e1
section
variable{CX:Ji}{k:Nat}{f:Addr}{fd:FuncData}{ps:List Str}{x:Str}{p:Pos}{es:List Expr}{gs:List ME}{F:List D->Option R}
def FD(Γ:Ct)(W:XW)(F:([20])->[57]):Sp:=λvs H Q _=>Du Γ W F vs H Q
theorem NH(G:dR X.prog X.w X.K X.mg X.base lK k f fd ps (FD Γ W F))(hr:cu k X.A)(hg:Gl X x)(hm:X.mg x=(1,(9,f)))(hk:(39,X.K,f)=true)(hb:eJ X.K fd ps [])
  (ha:sX X Γ W (e::es) gs) (hdb:(x == ("__debug__":Str))=false:=by decide) (he:(4,(e::es))=(false,(14,e))::(4,es):=by rfl) (hpl:(7,pos,es).any (·.1)=false:=by rfl):
  (25,(5,(23,p),(e::es),pos),aq F gs):=
 (78,FV (E:=E0) (dvs:=[]) (ds:=[]) G hr hg hm hk hb .nil oV ha hdb he hpl) λ_ _ _ _ _ _ t=>eB gs (λvs H1 z=>by show Du Γ W F (vs++[]) H1 _;rw[append_nil];exact z) (qe t)
theorem Ky(G:dR X.prog X.w X.K X.mg X.base lK k f fd ps (FD Γ W F))(hr:cu k X.A)(hg:Gl X x)(hm:X.mg x=(1,(9,f)))(hk:(39,X.K,f)=true)(hb:eJ X.K fd ps [])
  (ha:RF X Γ W (e::es) gs) (hdb:(x == ("__debug__":Str))=false:=by decide) (he:(4,(e::es))=(false,(14,e))::(4,es):=by rfl) (hpl:(7,pos,es).any (·.1)=false:=by rfl):
  (25,(5,(23,p),(e::es),pos),aL F gs):=
 (78,FV (E:=E0) (dvs:=[]) (ds:=[]) G hr hg hm hk hb .nil oV ha hdb he hpl) λ_ _ _ _ _ _ t=>mz gs (λvs H1 z=>by show Du Γ W F (vs++[]) H1 _;rw[append_nil];exact z) (uH t)
end
section
variable{x:Str}{p:Pos}{es:List Expr}{gs:List ME}{F:List D->Option R}{id T:String}
theorem rN(hc:dj X (44,id) (Du Γ W F))(hg:Gl X x)(hm:X.mg x=none)(hv:(60,x)=(1,(44,id)))(ha:sX X Γ W (e::es) gs)(hn:x ≠ "__name__" := by decide)(hdb:(x == ("__debug__":Str))=false:=by decide)
  (he:(4,(e::es))=(false,(14,e))::(4,es):=by rfl) (hpl:(7,pos,es).any (·.1)=false:=by rfl):(25,(5,(23,p),(e::es),pos),aq F gs):=
 (78,l3 hc hg hm hv ha hn hdb he hpl) λ_ _ _ _ _ _ t=>qe t
theorem bC(hc:dj X (44,id) (Du Γ W F))(hg:Gl X x)(hm:X.mg x=none)(hv:(60,x)=(1,(44,id)))(ha:RF X Γ W (e::es) gs)(hn:x ≠ "__name__" := by decide)(hdb:(x == ("__debug__":Str))=false:=by decide)
  (he:(4,(e::es))=(false,(14,e))::(4,es):=by rfl) (hpl:(7,pos,es).any (·.1)=false:=by rfl):(25,(5,(23,p),(e::es),pos),aL F gs):=
 (78,l3 hc hg hm hv ha hn hdb he hpl) λ_ _ _ _ _ _ t=>uH t
theorem jP(hc:dj X (54,T) (Du Γ W F))(hg:Gl X x)(hm:X.mg x=none)(hv:(60,x)=(1,(54,T)))(ha:sX X Γ W (e::es) gs)(hn:x ≠ "__name__" := by decide)(hdb:(x == ("__debug__":Str))=false:=by decide)
  (he:(4,(e::es))=(false,(14,e))::(4,es):=by rfl) (hpl:(7,pos,es).any (·.1)=false:=by rfl):(25,(5,(23,p),(e::es),pos),aq F gs):=
 (78,ou hc hg hm hv ha hn hdb he hpl) λ_ _ _ _ _ _ t=>qe t
end
theorem aE{es:List Expr}{gs:List ME}{x1}(ha:sX X Γ W es gs):(25,.Tuple es x1 pos,bj gs):=(78,Kk ha) λ_ _ σ H Q _ t=>by
 refine eB gs (λvs H1 ⟨Hs1,ds,r,sm,rp,e1,q1,_⟩=>?_) (qe t)
 try dsimp only at e1
 split at e1
 ·rename_i hl;cases e1;refine(3,by rw[←rp.length];exact(55,hl),λp hp=>q1 _ (cF Hs1 p (22,vs)) _ (.new sm hp) ?_)
  exact bx.mpr (4,p,vs,rfl,.of aG,rp.mono (bV (sm.free hp)))
 ·cases e1
theorem g9{es:List Expr}{gs:List ME}(ha:sX X Γ W es gs):(25,.List es pos,mJ gs):=(78,Q8 ha) λ_ _ σ H Q _ t=>by
 refine eB gs (λvs H1 ⟨Hs1,ds,r,sm,rp,e1,q1,_⟩=>?_) (qe t)
 try dsimp only at e1
 split at e1
 ·rename_i hl;cases e1;refine(3,by rw[←rp.length];exact(55,hl),λp hp=>q1 _ Hs1 _ (.newOwn sm hp) ?_)
  exact⟨p,_,rfl,hp,sm.free hp,aG,vs,rfl,rp⟩
 ·cases e1
theorem ao{f:D->D->[57]}(ho:MH X (rD Γ W f))(ha:(25,a,ga))(hb:(25,b,gb))(hs:AA b:=by exact λ_ _=>rfl):(25,.Subscript a b pos,(31,f,ga,gb)):=
 (78,OU ho ha hb hs) λ_ _ _ _ _ _ t=>zc t
end
def EQ(Γ:Ct)(W:XW)(B0 B1 Hs:Hp)(D:wA):pR->Prop
 |.next ρ'=>∀σ' Hs' H',aM Hs Hs'->RE Γ B0 B1 Hs' H' σ' ρ'->D.nx σ' H'
 |.brk ρ'=>∀σ' Hs' H',aM Hs Hs'->RE Γ B0 B1 Hs' H' σ' ρ'->D.bk σ' H'
 |.cont ρ'=>∀σ' Hs' H',aM Hs Hs'->RE Γ B0 B1 Hs' H' σ' ρ'->D.ct σ' H'
 |.ret s=>∀v Hs' H',aM Hs Hs'->Grow B0 B1 Hs' H'->cS Γ B1 Hs' H' s v->D.rt v H'
 |.exc x=>∀Hs' H',aM Hs Hs'->Grow B0 B1 Hs' H'->W x Hs' H'
theorem EQ.from{Γ:Ct}{W:XW}{B0 B1 Hs Hs1:Hp}{D:wA}{o:pR}(q:EQ Γ W B0 B1 Hs D o)(k:aM Hs Hs1):EQ Γ W B0 B1 Hs1 D o:=by
 cases o with
 |next ρ=>exact λσ' Hs' H' h=>q σ' Hs' H' (k.trans h)
 |brk ρ=>exact λσ' Hs' H' h=>q σ' Hs' H' (k.trans h)
 |cont ρ=>exact λσ' Hs' H' h=>q σ' Hs' H' (k.trans h)
 |ret s=>exact λv Hs' H' h=>q v Hs' H' (k.trans h)
 |exc x=>exact λHs' H' h=>q Hs' H' (k.trans h)
inductive tS(Γ:Ct)(W:XW)(g:MC)(D:wA)(σ:L2.St)(H:Hp):Prop
 |mk (B0 B1 Hs:Hp) (ρ:aC) (o:pR) (re:RE Γ B0 B1 Hs H σ ρ) (e:g ρ=[46]) (q:EQ Γ W B0 B1 Hs D o)
abbrev sW(X:Cx)(Γ:Ct)(W:XW)(st:Stmt)(g:MC):Prop:=PS X st (tS Γ W g)
abbrev lJ(X:Cx)(Γ:Ct)(W:XW)(st:List Stmt)(g:MC):Prop:=tO X st (tS Γ W g)
section
variable{X:Cx}{Γ:Ct}{W:XW}{st:Stmt}{rest a b:List Stmt}{g g1 g2:MC}{ge gc:ME}{e c:Expr}{pos:Pos}
theorem aB:lJ X Γ W [] bM:=tO.imp FP λD σ H ⟨B0,B1,Hs,ρ,o,re,e,q⟩=>by
 cases e;exact q σ Hs H (.refl _) re
theorem ah(h1:sW X Γ W st g1)(h2:lJ X Γ W rest g2):lJ X Γ W (st::rest) (aF g1 g2):=tO.imp (Bq h1 h2) λD σ H ⟨B0,B1,Hs,ρ,o,re,e,q⟩=>by
 unfold aF at e;cases h:g1 ρ with
 |none=>rw[h] at e;cases e
 |some u=>
  rw[h] at e;refine(3,B1,Hs,ρ,u,re,h,?_);cases u with
  |next ρ'=>exact λσ' Hs' H' sm re'=>(3,B1,Hs',ρ',o,re',e,q.from sm)
  |brk ρ'=>cases e;exact q
  |cont ρ'=>cases e;exact q
  |ret s=>cases e;exact q
  |exc x=>cases e;exact q
theorem aj(h:sW X Γ W st g):lJ X Γ W [st] g:=Nl h
theorem aV{i:Nat}(h:lJ X Γ W rest g):lJ X Γ W rest (fE i g):=tO.imp h λD σ H ⟨B0,B1,Hs,ρ,o,re,e,q⟩=>by
 obtain⟨Hs',sm,re'⟩:=re.dem i;exact(3,B1,Hs',dem i ρ,o,re',e,q.from sm)
theorem zd{B0 B1 Hs H:Hp}{σ:L2.St}{ρ:aC}{o:pR}{D:wA}{k:S->(8,pR)}(re:RE Γ B0 B1 Hs H σ ρ)(e:ik (ge ρ) k=[46])(q:EQ Γ W B0 B1 Hs D o):
  tD Γ W ge σ H (λv H1=>∃Hs1 s,Grow Hs H Hs1 H1/\cS Γ H Hs1 H1 s v/\k s=[46]):=by
 cases h:ge ρ with
 |none=>rw[h] at e;cases e
 |some x=>
  rw[h] at e;refine(3,B1,Hs,ρ,x,re,h,?_);cases x with
  |exc y=>cases e;exact λHs' H' g'=>q Hs' H' g'.s (re.b.trans g')
  |ok s=>exact λv Hs' H' g' rs=>(4,Hs',s,g',rs,e)
theorem DN{i:Nat}{t:TE}(h:PS X st (JL (tD Γ W ge) (Cw i)))(hi:i<X.N.length):sW X Γ W st (bF i ge):=PS.imp h λpins s σ H D I ⟨B0,B1,Hs,ρ,o,re,e,q⟩=>by
 refine(zd re e q).mono λv H1 ⟨Hs1,s,g1,rs,e1⟩=>?_;cases e1;exact q _ Hs1 H1 g1.s (re.setS g1 (by rw[I.len];exact hi) rs)
theorem Nm{i:Nat}{x:Str}{pos':Pos}(hN:X.N.Nodup)(hi:X.N[i]?=(1,x))(hx:Fk [53] x)(he:(25,e,ge))(hs:(28,e,(1,(23,pos')),pos.line)=pure false:=by rfl)
  (hf:X.fn x=true\/[28]=[56]:=by first|exact[42]|exact .inr rfl|assumption):sW X Γ W (.Assign [(23,pos')] e pos) (bF i ge):=
 DN (t:=tD Γ W ge) (Kb hN hi hx he hs hf) (17,hi).1
theorem au(he:(25,e,ge)):sW X Γ W (.Return (1,e) pos) (bL ge):=PS.imp (uX he) λpins s σ H D I ⟨B0,B1,Hs,ρ,o,re,e,q⟩=>by
 refine(zd re e q).mono λv H1 ⟨Hs1,s,g1,rs,e1⟩=>?_;cases e1;exact q v Hs1 H1 g1.s (re.b.trans g1) (rs.back re.b.h)
theorem Jb{x:D}{k:Bool->(8,pR)}{o:pR}(h:asBO x k=[46]):∃c,x=.bl c/\k c=[46]:=by
 cases x with
 |bl c=>exact(19,c,h)
 |_=>cases h
theorem aW(hc:D3 X Γ W c gc)(ha:lJ X Γ W a g1)(hb:lJ X Γ W b g2):sW X Γ W (.If c a b pos) (iw gc g1 g2):=PS.imp (S6 hc ha hb) λpins s σ H D I ⟨B0,B1,Hs,ρ,o,re,e,q⟩=>by
 have e':ik (gc ρ) (λs=>asBO s.val λt=>if t=true then g1 ρ else g2 ρ)=[46]:=e;cases h:gc ρ with
 |none=>rw[h] at e';cases e'
 |some x=>
  rw[h] at e';refine(3,B1,Hs,ρ,x,re,h,?_);cases x with
  |exc y=>cases e';exact λHs' H' g'=>q Hs' H' g'.s (re.b.trans g')
  |ok s=>
   obtain⟨t,et,e2⟩:=Jb (show asBO s.val _=[46] from e');refine(11,t,et,λHs' H' g'=>?_);cases t with
   |true=>exact(3,B1,Hs',ρ,o,re.grow g',e2,q.from g'.s)
   |false=>exact(3,B1,Hs',ρ,o,re.grow g',e2,q.from g'.s)
structure Ms(Γ:Ct)(Hs0:Hp)(J:It)(ds:List D):Prop where
 go:∀i Hs H,i<ds.length->aM Hs0 Hs->aM Hs H->J.go i H
 stop:∀Hs H,aM Hs0 Hs->aM Hs H->J.stop ds.length H
 yld:∀i Hs H x H',i<ds.length->aM Hs0 Hs->aM Hs H->J.yld i H x H'->∃d Hs',ds[i]?=(1,d)/\Grow Hs H Hs' H'/\(33,Hs',d,x)
def IQ(Γ:Ct)(W:XW)(Hs H:Hp)(r:RI)(Q:It->Hp->Prop):Prop:=match r with
 |.ok ds=>∀J Hs' H',Grow Hs H Hs' H'->Ms Γ Hs' J ds->Q J H'
 |.exc x=>∀Hs' H',Grow Hs H Hs' H'->W x Hs' H'
inductive tI(Γ:Ct)(W:XW)(gi:MI)(σ:L2.St)(H:Hp)(Q:It->Hp->Prop):Prop
 |mk (B0 B1 Hs:Hp) (ρ:aC) (r:RI) (re:RE Γ B0 B1 Hs H σ ρ) (e:gi ρ=(1,r)) (q:IQ Γ W Hs H r Q)
abbrev Mu(X:Cx)(Γ:Ct)(W:XW)(tg iter:Expr)(gi:MI):Prop:=PI X tg iter (tI Γ W gi)
theorem PI.imp{X:Cx}{tg e:Expr}{t t':TI}(h:PI X tg e t)(i:∀pins s σ H Q,([48])->t' σ H Q->t σ H Q):PI X tg e t':=λpins s σ H Q I q=>h pins s σ H Q I (i pins s σ H Q I q)
inductive To(Γ:Ct)(js:List Nat)(bd:MB)(v:V)(σ:L2.St)(H:Hp)(Q:L2.St->Hp->Prop):Prop
 |mk (B0 B1 Hs:Hp) (ρ:aC) (d:D) (ρ':aC) (re:RE Γ B0 B1 Hs H σ ρ) (rp:(33,Hs,d,v)) (e:bd d ρ=(1,ρ')) (q:∀σ':L2.St,RE Γ B0 B1 Hs H σ' ρ'->(∀j:Nat,j∉js->σ'[j]?=σ[j]?)->Q σ' H)
abbrev OJ(X:Cx)(Γ:Ct)(tg:Expr)(js:[29])(bd:MB):Prop:=PG X tg (To Γ js bd)
theorem PG.imp{X:Cx}{tg:Expr}{t t':TG}(h:PG X tg t)(i:∀pins s v σ H Q,([48])->t' v σ H Q->t v σ H Q):PG X tg t':=λpins s σ H v u Q I r q=>h pins s σ H v u Q I r (i pins s v σ H Q I q)
theorem KA{j:Nat}{x:Str}(hN:X.N.Nodup)(hi:X.N[j]?=(1,x))(hx:Fk [53] x)(hf:X.fn x=true\/[28]=[56]:=by first|exact[42]|exact .inr rfl|assumption):OJ X Γ (23,pos) [j] (bc j):=
 PG.imp (zC hN hi hx hf) λpins s v σ H Q I ⟨B0,B1,Hs,ρ,d,ρ',re,rp,e,q⟩=>by
  cases e;exact q _ (re.setSh (by rw[I.len];exact(17,hi).1) rp) λi hi=>getElem?_set_ne λz=>hi (by simp[z])
theorem qz{j k:Nat}{x y:Str}{px py:Pos}{kt:Nat}(hK:X.K=Γ.K)(hc:X.calm=true)(hN:X.N.Nodup)(hj:X.N[j]?=(1,x))(hk:X.N[k]?=(1,y))(hx:Fk [53] x)(hy:Fk [53] y)
  (fx:X.fn x=true\/[28]=[56]:=by first|exact[42]|exact .inr rfl|assumption) (fy:X.fn y=true\/X.env.scope.names.lookup y=[56]:=by first|exact[42]|exact .inr rfl|assumption)
  (hn:(71,[[50],.Name y py]).length=2:=by rfl) (hst:(71,[[50],.Name y py]).findIdx? (·.1)=none:=by rfl)
  (hs1:(71,[[50],.Name y py]).map (·.2)=assign [50] X.env::(71,[.Name y py]).map (·.2):=by rfl) (hs2:(71,[.Name y py]).map (·.2)=assign (.Name y py) X.env::(71,[]).map (·.2):=by rfl):
  OJ X Γ (.Tuple [[50],.Name y py] kt pos) [j,k] (xF [j,k]):=
 PG.imp (Q2 hc (Bu (zC hN hj hx fx) (Bu (zC hN hk hy fy) Ny hs2) hs1) hn hst) λpins s v σ H Q I ⟨B0,B1,Hs,ρ,d,ρ',re,rp,e,q⟩=>by
  have lj:j<σ.length:=by rw[I.len];exact(17,hj).1
  have lk:k<σ.length:=by rw[I.len];exact(17,hk).1
  cases d with
  |tup ds=>
   unfold xF at e;dsimp only at e;split at e
   ·rename_i hl;cases e
    match ds,hl with
    |[d1,d2],_=>
     obtain⟨a,xs,rfl,sq,rl⟩:=bx.mp rp;obtain⟨x1,r1,rfl,q1,rl⟩:=bp.mp rl;obtain⟨x2,r2,rfl,q2,rl⟩:=bp.mp rl;obtain rfl:=dC.mp rl;refine⟨a,[x1,x2],rfl,by rw[hK];exact cx re.b.i sq,rfl,x1,[x2],rfl,x2,[],rfl,rfl,?_⟩
     exact q _ ((re.setSh lj q1).setSh (by rw[length_set];exact lk) q2) λi hi=>by
      rw[getElem?_set_ne λz=>hi (by simp[z]),getElem?_set_ne λz=>hi (by simp[z])]
   ·cases e
  |_=>cases e
theorem LG{js:[29]}{bd:MB}{body:MC}{ds:[20]}{J:It}{D:wA}{B0 B1 Hs0:Hp}{o:pR}(w:Ms Γ Hs0 J ds)(q:EQ Γ W B0 B1 Hs0 D o){σ:L2.St}{H:Hp}{ρ:aC}(re:RE Γ B0 B1 Hs0 H σ ρ)(e:k0 bd body ds ρ=[46]):
  ∃Wv:Nat->Nat->L2.St->Hp->Prop,(∃m,Wv 0 m σ H)/\∀i m σ H,Wv i m σ H->
   (J.stop i H/\D.nx σ H)\/(J.go i H/\∃N:L2.St->Hp->Prop,(∀σ' H',N σ' H'->∃m',m'<m/\Wv (i+1) m' σ' H')/\∀x H',J.yld i H x H'->To Γ js bd x σ H' λσ2 H2=>tS Γ W body {D with nx:=N,ct:=N,bk:=D.nx} σ2 H2):=by
 refine⟨λi m σ H=>m=ds.length - i/\i<=ds.length/\∃Hs ρ,aM Hs0 Hs/\RE Γ B0 B1 Hs H σ ρ/\k0 bd body (ds.drop i) ρ=[46],⟨_,rfl,zero_le _,Hs0,ρ,.refl _,re,e⟩,?_⟩
 rintro i m σ H ⟨rfl,hi,Hs,ρ,sm,re,e⟩
 by_cases hlt:i<ds.length
 ·refine .inr ⟨w.go i Hs H hlt sm re.b.i,λσ' H'=>∃Hs' ρ',aM Hs0 Hs'/\RE Γ B0 B1 Hs' H' σ' ρ'/\k0 bd body (ds.drop (i+1)) ρ'=[46],λσ' H' ⟨Hs',ρ',s',r',e'⟩=>⟨_,by omega,rfl,hlt,Hs',ρ',s',r',e'⟩,λx H' y=>?_⟩
  obtain⟨d,Hs',ed,g',rp⟩:=w.yld i Hs H x H' hlt sm re.b.i y;have hd:ds.drop i=d::ds.drop (i+1):=by
   rw[List.drop_eq_getElem_cons hlt];congr 1;rw[(7,hlt)] at ed;exact(50,ed)
  rw[hd] at e;unfold k0 at e;cases h:bd d ρ with
  |none=>rw[h] at e;cases e
  |some ρ1=>
   rw[h] at e;dsimp only at e;refine⟨B0,B1,Hs',ρ,d,ρ1,re.grow g',rp,h,λσ2 re2 _=>?_⟩;cases hb:body ρ1 with
   |none=>rw[hb] at e;cases e
   |some u=>
    rw[hb] at e;refine(3,B1,Hs',ρ1,u,re2,hb,?_);have s1:aM Hs0 Hs':=sm.trans g'.s;cases u with
    |next ρ2=>exact λσ' Hs2 H2 s2 re3=>(4,Hs2,ρ2,s1.trans s2,re3,e)
    |cont ρ2=>exact λσ' Hs2 H2 s2 re3=>(4,Hs2,ρ2,s1.trans s2,re3,e)
    |brk ρ2=>cases e;exact λσ' Hs2 H2 s2 re3=>q σ' Hs2 H2 (s1.trans s2) re3
    |ret s=>cases e;exact λv Hs2 H2 s2=>q v Hs2 H2 (s1.trans s2)
    |exc x=>cases e;exact λHs2 H2 s2=>q Hs2 H2 (s1.trans s2)
 ·have ei:i=ds.length:=by omega
  subst ei;rw[List.drop_length] at e;cases e;exact .inl (3,w.stop Hs H sm re.b.i,q σ Hs H sm re)
theorem fm{tg iter:Expr}{gi:MI}{js:[29]}{bd:MB}{body:List Stmt}(hp:PassesOwn (model X.prog X.w) X.A X.env X.xe)(hc:X.calm=true)(hi:Mu X Γ W tg iter gi)(hg:OJ X Γ tg js bd)(hb:lJ X Γ W body g)
  (hs:∀x,foldedSetIterable iter X.env x=pure x:=by intro _;rfl):sW X Γ W (.For tg iter body [] pos) (mI gi bd g):=PS.imp (PU hp hc hi hg hb hs) λpins s σ H D I ⟨B0,B1,Hs,ρ,o,re,e,q⟩=>by
 unfold mI at e;cases h:gi ρ with
 |none=>rw[h] at e;cases e
 |some r=>
  rw[h] at e;refine(3,B1,Hs,ρ,r,re,h,?_);cases r with
  |exc x=>cases e;exact λHs' H' g'=>q Hs' H' g'.s (re.b.trans g')
  |ok ds=>exact λJ Hs' H' g' w=>LG w (q.from g'.s) (re.grow g') e
theorem GP{Hs0:Hp}{a:Addr}{xs:[38]}{ds:[20]}{K:Frag}(h:kQ K Hs0 a xs)(r:(37,Hs0,xs)):Ms Γ Hs0 (Uy K a) ds where
 go:=λi Hs H hi s1 s2=>(10,xs,xs[i]'(by rw[←r.length];exact hi),aM.seq (s1.trans s2) h,by rw[getElem?_eq_getElem])
 stop:=λHs H s1 s2=>(11,xs,aM.seq (s1.trans s2) h,le_of_eq r.length.symm)
 yld:=λi Hs H x H' hi s1 s2 ⟨e,y⟩=>by
  subst e;obtain⟨z,e1,q⟩:=r.get (7,hi);have e2:=y xs (aM.seq (s1.trans s2) h);rw[e1] at e2;cases e2;exact(4,_,Hs,(7,hi),.refl s2,q.mono s1)
theorem Jv{Hs0:Hp}{a:Addr}{xs:[38]}{ds:[20]}{K:Frag}(h:nV K Hs0 a xs)(r:(37,Hs0,xs)):Ms Γ Hs0 (Ux K a) ds where
 go:=λi Hs H hi s1 s2=>(10,xs,xs[i]'(by rw[←r.length];exact hi),cx (s1.trans s2) h,by rw[getElem?_eq_getElem])
 stop:=λHs H s1 s2=>(11,xs,cx (s1.trans s2) h,le_of_eq r.length.symm)
 yld:=λi Hs H x H' hi s1 s2 ⟨e,y⟩=>by
  subst e;obtain⟨z,e1,q⟩:=r.get (7,hi);have e2:=y xs (cx (s1.trans s2) h);rw[e1] at e2;cases e2;exact(4,_,Hs,(7,hi),.refl s2,q.mono s1)
theorem AJ{Hs0:Hp}(lo hi:Int):Ms Γ Hs0 (T9 lo (hi - lo).toNat) (rng lo hi) where
 go:=λi Hs H h s1 s2=>by
  unfold rng at h;rw[length_map,length_range] at h;exact h
 stop:=λHs H s1 s2=>by
  unfold rng;rw[length_map,length_range];exact[25]
 yld:=λi Hs H x H' h s1 s2 ⟨e,y⟩=>by
  subst e y;unfold rng at h ⊢;rw[length_map,length_range] at h;exact(4,(16,(lo+i)),Hs,by rw[getElem?_map,getElem?_range h];rfl,.refl s2,[52])
end
theorem oZ(js:[29]):∀ρ:aC,(bE js ρ).length=ρ.length:=by
 induction js with
 |nil=>intro ρ;rfl
 |cons j js ih=>intro ρ;show(bE js (ρ.set j none)).length=_;rw[ih,length_set]
theorem fJ(js:[29]):∀(ρ:aC)(i:Nat)(v:S),(bE js ρ)[i]?=(31,v)->i∉js/\ρ[i]?=(31,v):=by
 induction js with
 |nil=>intro ρ i v h;exact(3,by simp,h)
 |cons j js ih=>
  intro ρ i v h;obtain⟨h1,h2⟩:=ih (ρ.set j none) i v h;by_cases hj:j=i
  ·subst hj;by_cases hl:j<ρ.length
   ·rw[(35,hl)] at h2;cases h2
   ·rw[(70,(by rw[length_set];omega))] at h2;cases h2
  ·rw[(32,hj)] at h2;exact(3,by simp[h1,Ne.symm hj],h2)
theorem nB(js:[29]):∀(σ:L2.St)(i:Nat),i∉js->(gC js σ)[i]?=σ[i]?:=by
 induction js with
 |nil=>intro σ i _;rfl
 |cons j js ih=>
  intro σ i h;have h':i≠j/\i∉js:=by simpa using h
  show(gC js (σ.set j none))[i]?=_;rw[ih _ _ h'.2,(32,Ne.symm h'.1)]
section
variable{Γ:Ct}{B0 B1 Hs H:Hp}{σ σ':L2.St}{ρ ρ':aC}
theorem RE.sub(r:RE Γ B0 B1 Hs H σ ρ)(hl:ρ'.length=σ'.length)(h:∀(i:Nat)(s:S),ρ'[i]?=(31,s)->ρ[i]?=(31,s)/\σ'[i]?=σ[i]?):RE Γ B0 B1 Hs H σ' ρ' where
 tb:=r.tb
 b:=r.b
 sh:=λi d e=>by
  obtain⟨e1,e2⟩:=h i _ e;obtain⟨v,e3,q⟩:=r.sh i d e1;exact(11,v,e2.trans e3,q)
 own:=λi o e=>by
  obtain⟨e1,e2⟩:=h i _ e;obtain⟨a,ho,e3,f1,f2,f3,q⟩:=r.own i o e1;exact⟨a,ho,e2.trans e3,f1,f2,f3,q⟩
 apart:=λi j o u a hij hi hj ha=>by
  obtain⟨e1,e2⟩:=h i _ hi;obtain⟨e3,e4⟩:=h j _ hj;rw[e4];exact r.apart i j o u a hij e1 e3 (e2.symm.trans ha)
 len:=hl
theorem RE.other(r:RE Γ B0 B1 Hs H σ ρ){a:Addr}{ho:HO}(h1:Hs a=none)(h2:B1 a=none)(h3:∀(i:Nat)(o:O),ρ[i]?=(65,o)->σ[i]?≠(33,a)):RE Γ B0 B1 Hs (cF H a ho) σ ρ where
 tb:=r.tb
 b:=(10,r.b.s,λb u z=>by rw[az (aR z h2)];exact r.b.h _ _ z,λb u z=>by rw[az (aR z h1)];exact r.b.i _ _ z,r.b.n)
 sh:=r.sh
 own:=λi o e=>by
  obtain⟨c,hc,f1,f2,f3,f4,f5⟩:=r.own i o e;refine⟨c,hc,f1,f2,f3,?_,f5⟩;rw[az]
  ·exact f4
  ·intro z;subst z;exact h3 i o e f1
 apart:=r.apart
 len:=r.len
end
theorem Grow.other{Hs H Hs' H':Hp}{a:Addr}{ho:HO}(g:Grow Hs H Hs' H')(h0:H a=none)(h1:Hs' a=none):Grow Hs H Hs' (cF H' a ho):=
 (10,g.s,λb u z=>by rw[az (aR z h0)];exact g.h _ _ z,λb u z=>by rw[az (aR z h1)];exact g.i _ _ z,g.n)
theorem Grow.none{Hs H Hs' H':Hp}{a:Addr}{ho:HO}(g:Grow Hs H Hs' H')(h:Hs a=Option.none)(h':H a=(1,ho)):Hs' a=Option.none:=by
 cases z:Hs' a with
 |none=>rfl
 |some u=>
  rcases g.n a u z with w|w
  ·rw[h] at w;cases w
  ·rw[h'] at w;cases w
def AE(js:[29])(bd:MB):Prop:=∀d ρ ρ',bd d ρ=(1,ρ')->ρ'.length=ρ.length/\∀i:Nat,i∉js->ρ'[i]?=ρ[i]?
theorem cC(j:Nat):AE [j] (bc j):=λd ρ ρ' e=>by
 cases e;exact(3,by rw[length_set],λi hi=>getElem?_set_ne λz=>hi (by simp[z]))
theorem xT:∀(js:[29])(ds:[20])(ρ:aC),(zj js ds ρ).length=ρ.length/\∀i:Nat,i∉js->(zj js ds ρ)[i]?=ρ[i]?
 |[],_,_=>(62,λ_ _=>rfl)
 |_::_,[],_=>(62,λ_ _=>rfl)
 |j::js,d::ds,ρ=>by
  obtain⟨h1,h2⟩:=xT js ds (ρ.set j (6,d));refine(3,h1.trans length_set,λi hi=>?_);have h':i≠j/\i∉js:=by simpa using hi
  exact(h2 i h'.2).trans (32,Ne.symm h'.1)
theorem w4(js:[29]):AE js (xF js):=λd ρ ρ' e=>by
 cases d with
 |tup ds=>
  unfold xF at e;dsimp only at e;split at e
  ·cases e;exact xT js ds ρ
  ·cases e
 |_=>cases e
section
variable{Γ:Ct}{W:XW}{js:List Nat}{gi:MI}{bd:MB}{cond elt:ME}
theorem tW{tt:TT}(ht:∀σ H Q,tT Γ W cond σ H Q->tt σ H Q)(hb:AE js bd){σ:L2.St}{H:Hp}{Q:VK}(t:tD Γ W (cw js gi bd cond elt) σ H Q):
  FA js (tI Γ W gi) (To Γ js bd) tt (tD Γ W elt) σ H Q:=by
 obtain⟨B0,B1,Hs,ρ,r,re,e,q⟩:=t;unfold cw at e;cases h:gi ρ with
 |none=>rw[h] at e;cases e
 |some x=>
  rw[h] at e;refine(3,B1,Hs,ρ,x,re,h,?_);cases x with
  |exc y=>cases e;exact q
  |ok ds=>
   intro J Hs1 H1 g1 w a ha;dsimp only at e;have hlim:ds.length<=lim:=by
    by_cases z:ds.length<=lim
    ·exact z
    ·rw[(29,z)] at e;cases e
   rw[(25,hlim)] at e;have hs1:Hs1 a=none:=g1.i.free ha;have h0:H a=none:=g1.h.free ha;have hb1:B1 a=none:=re.b.h.free h0;have re1:RE Γ B0 B1 Hs1 H1 (gC js σ) (bE js ρ):=(re.grow g1).sub (by rw[oZ,ib,re.len]) λi s z=>by
    obtain⟨z1,z2⟩:=fJ js ρ i s z;exact(3,z2,nB js σ i z1)
   have ap1:∀(i:Nat)(o:O),(bE js ρ)[i]?=(65,o)->(gC js σ)[i]?≠(33,a):=λi o z z'=>by
    obtain⟨c,hc,f1,_,_,f4,_⟩:=re1.own i o z;rw[z'] at f1;cases f1;rw[ha] at f4;cases f4
   refine⟨λi m σ2 ys H2=>m=ds.length - i/\i<=ds.length/\∃Hs2 acc,aM Hs1 Hs2/\Grow Hs H Hs2 H2/\RE Γ B0 B1 Hs2 H2 σ2 (bE js ρ)/\Hs2 a=none/\
    (∀(i:Nat)(o:O),(bE js ρ)[i]?=(65,o)->σ2[i]?≠(33,a))/\H2 a=(1,(13,ys))/\(16,Hs2,acc,ys)/\iq bd cond elt (bE js ρ) (ds.drop i) acc=(1,r)/\acc.length<=i,⟨_,rfl,zero_le _,Hs1,[],.refl _,g1.other h0 hs1,re1.other hs1 hb1 ap1,hs1,ap1,aG,.nil,e,zero_le _⟩,?_⟩
   rintro i m σ2 ys H2 ⟨rfl,hi,Hs2,acc,sm,g2,re2,ha2,ap,hy,rl,ec,hacc⟩
   refine(3,hy,?_);by_cases hlt:i<ds.length
   ·refine .inr (3,w.go i Hs2 H2 hlt sm re2.b.i,λx H3 y=>?_);obtain⟨d,Hs3,ed,g3,rp⟩:=w.yld i Hs2 H2 x H3 hlt sm re2.b.i y;have hd:ds.drop i=d::ds.drop (i+1):=by
     rw[List.drop_eq_getElem_cons hlt];congr 1;rw[(7,hlt)] at ed;exact(50,ed)
    rw[hd] at ec;unfold iq at ec;cases hbd:bd d (bE js ρ) with
    |none=>rw[hbd] at ec;cases ec
    |some ρ1=>
     rw[hbd] at ec;dsimp only at ec;obtain⟨bl,bo⟩:=hb d _ ρ1 hbd;refine⟨B0,B1,Hs3,bE js ρ,d,ρ1,re2.grow g3,rp,hbd,λσ4 re4 hσ=>?_⟩;have low:∀{Hs5 H5:Hp},RE Γ B0 B1 Hs5 H5 σ4 ρ1->RE Γ B0 B1 Hs5 H5 σ4 (bE js ρ):=λr5=>r5.sub (by rw[←bl,r5.len]) λk s z=>by
      obtain⟨z1,_⟩:=fJ js ρ k s z;exact(3,(bo k z1).trans z,rfl)
     have ap4:∀(k:Nat)(o:O),(bE js ρ)[k]?=(65,o)->σ4[k]?≠(33,a):=λk o z=>by
      obtain⟨z1,_⟩:=fJ js ρ k _ z;rw[hσ k z1];exact ap k o z
     have ha3:=g3.none ha2 hy;have hy3:=g3.h _ _ hy;refine ht _ _ _ ?_;cases hcv:cond ρ1 with
     |none=>rw[hcv] at ec;cases ec
     |some c=>
      rw[hcv] at ec;refine(3,B1,Hs3,ρ1,c,re4,hcv,?_);cases c with
      |exc x=>
       cases ec;exact λHs' H' g'=>q Hs' H' ((g2.trans g3).trans g')
      |ok s=>
       obtain⟨b,eb,ec2⟩:=k8 (show asB s.val _=(1,r) from ec);refine(11,b,eb,λHs5 H5 g5=>?_);have ha5:=g5.none ha3 hy3;have hy5:=g5.h _ _ hy3;have re5:=re4.grow g5;cases b with
       |false=>
        rw[(29,[27])] at ec2;refine SH ?_;exact⟨_,by omega,rfl,hlt,Hs5,acc,(sm.trans g3.s).trans g5.s,(g2.trans g3).trans g5,low re5,ha5,ap4,hy5,rl.mono (g3.s.trans g5.s),ec2,by omega⟩
       |true=>
        rw[(25,rfl)] at ec2;refine QH ?_;refine(cp (k:=λx=>iq bd cond elt (bE js ρ) (ds.drop (i+1)) (acc++[x])) re5 ec2 ((q.grow (g2.trans g3)).grow g5)).mono λv H6 ⟨Hs6,z,g6,re6,rp6,ec6,q6⟩=>?_;have ha6:=g6.none ha5 hy5;have hy6:=g6.h _ _ hy5;have hlen:acc.length=ys.length:=rl.length;have hbig:ys.length<sizeLine:=lt_of_lt_of_le (by omega:ys.length<lim) [13]
        refine⟨hy6,hbig,_,by omega,rfl,hlt,Hs6,acc++[z],((sm.trans g3.s).trans g5.s).trans g6.s,(((g2.trans g3).trans g5).trans g6).other h0 ha6,(low re6).other ha6 hb1 ap4,ha6,ap4,aG,(rl.mono ((g3.s.trans g5.s).trans g6.s)).append (22,rp6,.nil),ec6,by rw[length_append,length_singleton];omega⟩
   ·have ei:i=ds.length:=by omega
    subst ei;rw[List.drop_length] at ec;unfold iq at ec;split at ec
    ·cases ec;exact .inl (3,w.stop Hs2 H2 sm re2.b.i,q _ Hs2 H2 g2 ⟨a,_,rfl,h0,ha2,hy,ys,rfl,rl⟩)
    ·cases ec
end
section
variable{X:Cx}{Γ:Ct}{W:XW}{scope:Scope}{vars:List Str}{js:List Nat}{elt tg iter c:Expr}{pos:Pos}{gi:MI}{bd:MB}{cond ge:ME}
theorem Fx{σ:L2.St}{H:Hp}{Q:Bool->Hp->Prop}(t:tT Γ W eI σ H Q):Fw σ H Q:=by
 obtain⟨B0,B1,Hs,ρ,r,re,e,q⟩:=t;cases e;obtain⟨b,eb,q⟩:=q;cases eb;exact q Hs H (.refl re.b.i)
theorem fR(hb:AE js bd)(hc:dJ scope [53] vars=true)(hj:jf X.N vars js=true)(hcalm:X.calm=true)(hi:Mu X Γ W tg iter gi)
  (hg:∀fp s H a,OJ (dc X scope fp s H a) Γ tg js bd) (he:∀fp s H a,(11,dc X scope fp s H a,W,elt,ge)) (hs:∀x,foldedSetIterable iter X.env x=pure x:=by intro _;rfl):
  (25,(30,elt,[(10,tg,iter,[],0)],pos),cw js gi bd eI ge):=
 (78,FU hc hj hcalm hi hg (λ_ _ _ _=>zB) he hs) λ_ _ _ _ _ _ t=>tW (λ_ _ _ z=>Fx z) hb t
theorem y6(hb:AE js bd)(hc:dJ scope [53] vars=true)(hj:jf X.N vars js=true)(hcalm:X.calm=true)(hi:Mu X Γ W tg iter gi)
  (hg:∀fp s H a,OJ (dc X scope fp s H a) Γ tg js bd) (ht:∀fp s H a,D3 (dc X scope fp s H a) Γ W c cond) (he:∀fp s H a,(11,dc X scope fp s H a,W,elt,ge)) (hs:∀x,foldedSetIterable iter X.env x=pure x:=by intro _;rfl):
  (25,(30,elt,[(10,tg,iter,[c],0)],pos),cw js gi bd cond ge):=
 (78,FU hc hj hcalm hi hg (λfp s H a=>FT (ht fp s H a)) he hs) λ_ _ _ _ _ _ t=>tW (λ_ _ _ z=>z) hb t
variable{i:Nat}{x:Str}{pos' spos:Pos}
theorem sA{st:Stmt}{t:TE}{ge:ME}(h:PS X st (JL t (Cw i)))(ht:∀σ H Q,tD Γ W ge σ H Q->t σ H Q)(hi:i<X.N.length):sW X Γ W st (bF i ge):=PS.imp h λpins s σ H D I ⟨B0,B1,Hs,ρ,o,re,e,q⟩=>by
 refine ht _ _ _ ((zd re e q).mono λv H1 ⟨Hs1,s,g1,rs,e1⟩=>?_);cases e1;exact q _ Hs1 H1 g1.s (re.setS g1 (by rw[I.len];exact hi) rs)
theorem K8(hN:X.N.Nodup)(hi':X.N[i]?=(1,x))(hx:Fk [53] x)(hb:AE js bd)(hc:dJ scope [53] vars=true)(hj:jf X.N vars js=true)(hcalm:X.calm=true)(hi:Mu X Γ W tg iter gi)
  (hg:∀fp s H a,OJ (dc X scope fp s H a) Γ tg js bd) (he:∀fp s H a,(11,dc X scope fp s H a,W,elt,ge))
  (hsw:(28,(30,elt,[(10,tg,iter,[],0)],pos),(1,(23,pos')),spos.line)=pure true:=by rfl) (hs:∀x,foldedSetIterable iter X.env x=pure x:=by intro _;rfl)
  (hf:X.fn x=true\/[28]=[56]:=by first|exact[42]|exact .inr rfl|assumption):
  sW X Γ W (.Assign [(23,pos')] (30,elt,[(10,tg,iter,[],0)],pos) spos) (bF i (cw js gi bd eI ge)):=
 sA (pz hN hi' hx hc hj hcalm hi hg (λ_ _ _ _=>zB) he hsw hs hf) (λ_ _ _ t=>tW (λ_ _ _ z=>Fx z) hb t) (17,hi').1
theorem uW(hN:X.N.Nodup)(hi':X.N[i]?=(1,x))(hx:Fk [53] x)(hb:AE js bd)(hc:dJ scope [53] vars=true)(hj:jf X.N vars js=true)(hcalm:X.calm=true)(hi:Mu X Γ W tg iter gi)
  (hg:∀fp s H a,OJ (dc X scope fp s H a) Γ tg js bd) (ht:∀fp s H a,D3 (dc X scope fp s H a) Γ W c cond) (he:∀fp s H a,(11,dc X scope fp s H a,W,elt,ge))
  (hsw:(28,(30,elt,[(10,tg,iter,[c],0)],pos),(1,(23,pos')),spos.line)=pure true:=by rfl) (hs:∀x,foldedSetIterable iter X.env x=pure x:=by intro _;rfl)
  (hf:X.fn x=true\/[28]=[56]:=by first|exact[42]|exact .inr rfl|assumption):
  sW X Γ W (.Assign [(23,pos')] (30,elt,[(10,tg,iter,[c],0)],pos) spos) (bF i (cw js gi bd cond ge)):=
 sA (pz hN hi' hx hc hj hcalm hi hg (λfp s H a=>FT (ht fp s H a)) he hsw hs hf) (λ_ _ _ t=>tW (λ_ _ _ z=>z) hb t) (17,hi').1
theorem dE{l:Expr}{g:ME}(hK:X.K=Γ.K)(h:(25,l,g)):Mu X Γ W tg l (iW g):=PI.imp (Q0 h) λ_ _ σ H Q _ ⟨B0,B1,Hs,ρ,r,re,e,q⟩=>by
 unfold iW at e;cases hg:g ρ with
 |none=>rw[hg] at e;cases e
 |some y=>
  rw[hg] at e;cases y with
  |exc z=>
   cases e;exact(3,B1,Hs,ρ,_,re,hg,q)
  |ok s=>
   refine(3,B1,Hs,ρ,.ok s,re,hg,λv Hs' H' g' rs=>?_);obtain⟨Hs2,g2,_,rp⟩:=rs.share g';dsimp only at e;cases hv:s.val with
   |lst ds=>
    rw[hv] at e rp;cases e;obtain⟨a,xs,rfl,rd,rl⟩:=bA.mp rp;rw[←hK] at rd;exact(19,a,.inl (3,(3,xs,aM.seq g2.i rd),q _ Hs2 H' g2 (GP rd rl)))
   |tup ds=>
    rw[hv] at e rp;cases e;obtain⟨a,xs,rfl,sq,rl⟩:=bx.mp rp;rw[←hK] at sq;exact(19,a,.inr (3,(3,xs,cx g2.i sq),q _ Hs2 H' g2 (Jv sq rl)))
   |non=>rw[hv] at e;cases e
   |bl _=>rw[hv] at e;cases e
   |int _=>rw[hv] at e;cases e
   |str _=>rw[hv] at e;cases e
   |fn _ _=>rw[hv] at e;cases e
   |obj _ _ _=>rw[hv] at e;cases e
theorem GT{B0 B1 Hs H:Hp}{σ:L2.St}{ρ:aC}{g:ME}{k:D->(8,RI)}{r:RI}{Q:It->Hp->Prop}(re:RE Γ B0 B1 Hs H σ ρ)(e:xw g ρ k=(1,r))(q:IQ Γ W Hs H r Q):
  tD Γ W g σ H (λv H1=>∃Hs1 d,Grow Hs H Hs1 H1/\RE Γ B0 B1 Hs1 H1 σ ρ/\(33,Hs1,d,v)/\k d=(1,r)/\IQ Γ W Hs1 H1 r Q):=by
 unfold xw at e;cases h:g ρ with
 |none=>rw[h] at e;cases e
 |some x=>
  rw[h] at e;refine(3,B1,Hs,ρ,x,re,h,?_);cases x with
  |exc y=>cases e;exact q
  |ok s=>
   intro v Hs' H' g' rs;obtain⟨Hs'',g2,_,rp⟩:=rs.share g';refine⟨Hs'',s.val,g2,re.grow g2,rp,e,?_⟩;cases r with
   |ok ds=>exact λJ Hs3 H3 g3 w=>q J Hs3 H3 (g2.trans g3) w
   |exc y=>exact λHs3 H3 g3=>q Hs3 H3 (g2.trans g3)
theorem jY{i:Int}(h:jb i=true):-(2 ^ 62)<=i/\i<2 ^ 62:=by
 unfold jb at h;simpa using h
theorem cY{a:Expr}{g:ME}{p p':Pos}(hg:Gl X "range")(hm:X.mg "range" = none)(h:(25,a,g))(hst:(4,(a::[]))=(false,(14,a))::(4,[]):=by rfl)(hs:(4,[a])=[(false,(14,a))]:=by rfl):
  Mu X Γ W tg (5,.Name "range" p,[a],p') (cz g):=PI.imp (Hz hg hm (bX h fh hst) hs) λ_ _ σ H Q _ ⟨B0,B1,Hs,ρ,r,re,e,q⟩=>by
 refine(GT re e q).mono λv H1 ⟨Hs1,d,g1,re1,rp,e1,q1⟩=>?_;cases d with
 |int hi=>
  dsimp only at e1;split at e1
  ·rename_i hr;cases e1;obtain⟨h1,h2⟩:=jY hr;refine(4,hi,by rw[ak.mp rp],h1,h2,q1 _ Hs1 H1 [34] ?_)
   have w:=AJ (Γ:=Γ) (Hs0:=Hs1) 0 hi;rw[Int.sub_zero] at w;exact w
  ·cases e1
 |_=>cases e1
theorem vc{a b:Expr}{ga gb:ME}{p p':Pos}(hg:Gl X "range")(hm:X.mg "range" = none)(ha:(25,a,ga))(hb:(25,b,gb))(hst:(4,[a,b])=(false,(14,a))::(4,[b]):=by rfl)(hst2:(4,[b])=(false,(14,b))::(4,[]):=by rfl)
  (hs:(4,[a,b])=[(false,(14,a)),(false,(14,b))]:=by rfl) (hs2:(4,[b])=[(false,(14,b))]:=by rfl):
  Mu X Γ W tg (5,.Name "range" p,[a,b],p') (oA ga gb):=PI.imp (Hw hg hm (bX ha (bX hb fh hst2) hst) hs hs2) λ_ _ σ H Q _ ⟨B0,B1,Hs,ρ,r,re,e,q⟩=>by
 refine(GT re e q).mono λv H1 ⟨Hs1,d,g1,re1,rp,e1,q1⟩=>?_;refine(GT re1 e1 q1).mono λu H2 ⟨Hs2,d2,g2,re2,rp2,e2,q2⟩=>?_;cases d with
 |int lo=>
  cases d2 with
  |int hi=>
   dsimp only at e2;split at e2
   ·rename_i hr;cases e2;obtain⟨h1,h2⟩:=jY hr.1;obtain⟨h3,h4⟩:=jY hr.2;exact(4,lo,hi,by rw[ak.mp rp,ak.mp rp2],(10,h1,h2,h3,h4),q2 _ Hs2 H2 (.refl re2.b.i) (AJ lo hi))
   ·cases e2
  |non=>cases e2
  |bl _=>cases e2
  |str _=>cases e2
  |tup _=>cases e2
  |lst _=>cases e2
  |fn _ _=>cases e2
  |obj _ _ _=>cases e2
 |_=>cases e2
end
section
variable{X:Cx}{Γ:Ct}{W:XW}
theorem gG{Hs H:Hp}{Q:VK}{d:D}(sm:aM Hs H)(q:RQ Γ W Hs H (.ok (.sh d)) Q){v:V}(rp:(33,Hs,d,v)):Q v H:=q v Hs H (.refl sm) rp
theorem zv{Hs H:Hp}{Q:VK}{ds:[20]}{xs:[38]}(sm:aM Hs H)(q:RQ Γ W Hs H (.ok (.sh (22,ds))) Q)(rl:(37,Hs,xs)){p:Addr}(hp:H p=none):Q (9,p) (cF H p (22,xs)):=
 q _ (cF Hs p (22,xs)) _ (.new sm hp) (cS.of (bx.mpr (4,p,xs,rfl,.of aG,rl.mono (bV (sm.free hp)))))
theorem qw{Hs H:Hp}{Q:VK}{ds:[20]}{xs:[38]}(sm:aM Hs H)(q:RQ Γ W Hs H (.ok (.own (13,ds))) Q)(rl:(37,Hs,xs)){p:Addr}(hp:H p=none):Q (9,p) (35,H,p,xs):=
 q _ Hs _ (.newOwn sm hp) ⟨p,_,rfl,hp,sm.free hp,aG,xs,rfl,rl⟩
theorem kL{n:Nat}(h:n<=lim):n<=sizeLine:=(55,h)
theorem bP{α:Type}{c:Prop}[Decidable c]{a r:α}(h:(if c then(1,a) else none)=(1,r)):c/\a=r:=by
 by_cases z:c
 ·rw[(25,z)] at h;exact(3,z,(50,h))
 ·rw[(29,z)] at h;cases h
theorem aw(hK:X.K=Γ.K):(21,X,.Add,rD Γ W aO):=λpins s σ H x y v u Q I rx ry ⟨Hs,d1,d2,r,sm,r1,r2,e,q⟩=>by
 cases d1 with
 |int i=>
  cases d2 with
  |int j=>cases e;exact Qo pins s σ H x y v u Q I rx ry (4,i,j,ak.mp r1,ak.mp r2,gG sm q [52])
  |non=>cases e
  |bl _=>cases e
  |str _=>cases e
  |tup _=>cases e
  |lst _=>cases e
  |fn _ _=>cases e
  |obj _ _ _=>cases e
 |str i=>
  cases d2 with
  |str j=>
   obtain⟨hl,rfl⟩:=bP (c:=i.length+j.length<=lim) e;exact DU pins s σ H x y v u Q I rx ry ⟨i,j,bI.mp r1,bI.mp r2,kL hl,gG sm q (bI.mpr rfl)⟩
  |non=>cases e
  |bl _=>cases e
  |int _=>cases e
  |tup _=>cases e
  |lst _=>cases e
  |fn _ _=>cases e
  |obj _ _ _=>cases e
 |tup ds=>
  cases d2 with
  |tup es=>
   obtain⟨hl,rfl⟩:=bP (c:=ds.length+es.length<=lim) e;obtain⟨a,xs,rfl,qa,la⟩:=bx.mp r1;obtain⟨b,ys,rfl,qb,lb⟩:=bx.mp r2;have qa':nV X.K H a xs:=by rw[hK];exact cx sm qa
   have qb':nV X.K H b ys:=by rw[hK];exact cx sm qb
   by_cases h0:xs=[]
   ·subst h0;have e0:ds=[]:=length_eq_zero_iff.mp la.length;subst e0;exact KG pins s σ H _ _ v u Q I rx ry ⟨a,b,ys,rfl,rfl,qa',qb',gG sm q (bx.mpr (4,b,ys,rfl,qb,lb))⟩
   ·refine NL pins s σ H _ _ v u Q I rx ry ⟨a,b,xs,ys,rfl,rfl,qa',qb',h0,by rw[←la.length,←lb.length];exact kL hl,λz=>?_,λz p hp=>zv sm q (la.append lb) hp⟩
    subst z;have e0:es=[]:=length_eq_zero_iff.mp lb.length;subst e0;rw[append_nil] at q;exact gG sm q (bx.mpr (4,a,xs,rfl,qa,la))
  |non=>cases e
  |bl _=>cases e
  |int _=>cases e
  |str _=>cases e
  |lst _=>cases e
  |fn _ _=>cases e
  |obj _ _ _=>cases e
 |lst ds=>
  cases d2 with
  |lst es=>
   obtain⟨hl,rfl⟩:=bP (c:=ds.length+es.length<=lim) e;obtain⟨a,xs,rfl,qa,la⟩:=bA.mp r1;obtain⟨b,ys,rfl,qb,lb⟩:=bA.mp r2;exact NM pins s σ H _ _ v u Q I rx ry ⟨a,b,xs,ys,rfl,rfl,by rw[hK];exact aM.seq sm qa,by rw[hK];exact aM.seq sm qb,by rw[←la.length,←lb.length];exact kL hl,λp hp=>qw sm q (la.append lb) hp⟩
  |non=>cases e
  |bl _=>cases e
  |int _=>cases e
  |str _=>cases e
  |tup _=>cases e
  |fn _ _=>cases e
  |obj _ _ _=>cases e
 |_=>cases e
theorem eZ{f:Int->Int->[57]}{g:D->D->[57]}(hg:∀d1 d2,g d1 d2=match d1,d2 with|.int i,.int j=>f i j|_,_=>none){d1 d2:D}{r:R}(e:g d1 d2=(1,r)):∃i j,d1=(16,i)/\d2=(16,j)/\f i j=(1,r):=by
 rw[hg] at e;cases d1 with
 |int i=>
  cases d2 with
  |int j=>exact(4,i,j,rfl,rfl,e)
  |non=>cases e
  |bl _=>cases e
  |str _=>cases e
  |tup _=>cases e
  |lst _=>cases e
  |fn _ _=>cases e
  |obj _ _ _=>cases e
 |_=>cases e
theorem i7:(21,X,.Sub,rD Γ W kO):=λpins s σ H x y v u Q I rx ry ⟨Hs,d1,d2,r,sm,r1,r2,e,q⟩=>by
 obtain⟨i,j,rfl,rfl,e⟩:=(30,λi j=>okI (i - j),e);cases e;exact Qh pins s σ H x y v u Q I rx ry (4,i,j,ak.mp r1,ak.mp r2,gG sm q [52])
theorem xQ{i:Int}(h:kG i=true):-(2 ^ 64)<i/\i<2 ^ 64:=by
 unfold kG at h;simpa using h
theorem ub:(21,X,.Mod,rD Γ W Ah):=λpins s σ H x y v u Q I rx ry ⟨Hs,d1,d2,r,sm,r1,r2,e,q⟩=>by
 obtain⟨i,j,rfl,rfl,e⟩:=(30,λi j=>if 0<j then okI (i % j) else none,e);obtain⟨h,rfl⟩:=bP e;exact Qm pins s σ H x y v u Q I rx ry ⟨i,j,ak.mp r1,ak.mp r2,h,gG sm q [52]⟩
theorem rO:(19,X,.Lt,rD Γ W MA):=λpins s σ H x y v u Q I rx ry ⟨Hs,d1,d2,r,sm,r1,r2,e,q⟩=>by
 obtain⟨i,j,rfl,rfl,e⟩:=(30,λi j=>okB (decide (i<j)),e);cases e;exact Sl pins s σ H x y v u Q I rx ry (4,i,j,ak.mp r1,ak.mp r2,gG sm q (aI.mpr rfl))
theorem KE:(19,X,.LtE,rD Γ W RA):=λpins s σ H x y v u Q I rx ry ⟨Hs,d1,d2,r,sm,r1,r2,e,q⟩=>by
 obtain⟨i,j,rfl,rfl,e⟩:=(30,λi j=>okB (decide (i<=j)),e);cases e;exact Sm pins s σ H x y v u Q I rx ry (4,i,j,ak.mp r1,ak.mp r2,gG sm q (aI.mpr rfl))
theorem jW:(19,X,.Gt,rD Γ W vU):=λpins s σ H x y v u Q I rx ry ⟨Hs,d1,d2,r,sm,r1,r2,e,q⟩=>by
 obtain⟨i,j,rfl,rfl,e⟩:=(30,λi j=>okB (decide (j<i)),e);cases e;exact Sn pins s σ H x y v u Q I rx ry (4,i,j,ak.mp r1,ak.mp r2,gG sm q (aI.mpr rfl))
theorem fW:(21,X,.Mult,rD Γ W ip):=λpins s σ H x y v u Q I rx ry ⟨Hs,d1,d2,r,sm,r1,r2,e,q⟩=>by
 cases d1 with
 |int i=>
  cases d2 with
  |int j=>
   obtain⟨hl,rfl⟩:=bP (c:=(kG i || kG j)=true) e;refine Ql pins s σ H x y v u Q I rx ry ⟨i,j,ak.mp r1,ak.mp r2,?_,gG sm q [52]⟩;rcases Bool.or_eq_true_iff.mp hl with h|h
   ·exact .inl (xQ h)
   ·exact .inr (xQ h)
  |non=>cases e
  |bl _=>cases e
  |str _=>cases e
  |tup _=>cases e
  |lst _=>cases e
  |fn _ _=>cases e
  |obj _ _ _=>cases e
 |_=>cases e
theorem CH{d1 d2:D}{b:Bool}{x y:V}{H:Hp}(e:Mz d1 d2=(1,b))(r1:(33,H,d1,x))(r2:(33,H,d2,y)):Pv x y=true/\decide (x=y)=b:=by
 cases d1 with
 |non=>
  rw[cy.mp r1];cases d2 with
  |non=>rw[cy.mp r2];cases e;exact(62,rfl)
  |bl _=>rw[aI.mp r2];cases e;exact(62,rfl)
  |int _=>rw[ak.mp r2];cases e;exact(62,rfl)
  |str _=>rw[bI.mp r2];cases e;exact(62,rfl)
  |tup _=>cases e
  |lst _=>cases e
  |fn _ _=>cases e
  |obj _ _ _=>cases e
 |bl c=>
  rw[aI.mp r1];cases d2 with
  |non=>rw[cy.mp r2];cases e;exact(62,rfl)
  |bl c'=>rw[aI.mp r2];cases e;exact(62,by rw[Bool.eq_iff_iff];simp)
  |int _=>cases e
  |str _=>rw[bI.mp r2];cases e;exact(62,rfl)
  |tup _=>cases e
  |lst _=>cases e
  |fn _ _=>cases e
  |obj _ _ _=>cases e
 |int c=>
  rw[ak.mp r1];cases d2 with
  |non=>rw[cy.mp r2];cases e;exact(62,rfl)
  |bl _=>cases e
  |int c'=>rw[ak.mp r2];cases e;exact(62,by rw[Bool.eq_iff_iff];simp)
  |str _=>rw[bI.mp r2];cases e;exact(62,rfl)
  |tup _=>cases e
  |lst _=>cases e
  |fn _ _=>cases e
  |obj _ _ _=>cases e
 |str c=>
  rw[bI.mp r1];cases d2 with
  |non=>rw[cy.mp r2];cases e;exact(62,rfl)
  |bl _=>rw[aI.mp r2];cases e;exact(62,rfl)
  |int _=>rw[ak.mp r2];cases e;exact(62,rfl)
  |str c'=>rw[bI.mp r2];cases e;exact(62,by rw[Bool.eq_iff_iff];simp)
  |tup _=>cases e
  |lst _=>cases e
  |fn _ _=>cases e
  |obj _ _ _=>cases e
 |_=>cases e
theorem bB:(19,X,.Eq,rD Γ W fg):=λpins s σ H x y v u Q I rx ry ⟨Hs,d1,d2,r,sm,r1,r2,e,q⟩=>by
 unfold fg at e;cases h:Mz d1 d2 with
 |none=>rw[h] at e;cases e
 |some b=>
  rw[h] at e;cases e;obtain⟨h1,h2⟩:=CH h r1 r2;exact So pins s σ H x y v u Q I rx ry (3,h1,by rw[h2];exact gG sm q (aI.mpr rfl))
theorem pD:(19,X,.NotEq,rD Γ W yp):=λpins s σ H x y v u Q I rx ry ⟨Hs,d1,d2,r,sm,r1,r2,e,q⟩=>by
 unfold yp at e;cases h:Mz d1 d2 with
 |none=>rw[h] at e;cases e
 |some b=>
  rw[h] at e;cases e;obtain⟨h1,h2⟩:=CH h r1 r2;exact Sk pins s σ H x y v u Q I rx ry (3,h1,by rw[h2];exact gG sm q (aI.mpr rfl))
theorem Qc{a b:Expr}{ga gb:ME}{pos:Pos}(ha:(25,a,ga))(hb:(25,b,gb)):(25,.BinOp a .Mult b pos,M0 ga gb):=(78,OT Qk ha hb) λ_ _ σ H Q _ ⟨B0,B1,Hs,ρ,r,re,e,q⟩=>by
 unfold M0 at e;cases h:ga ρ with
 |none=>rw[h] at e;cases e
 |some x=>
  rw[h] at e;refine(3,B1,Hs,ρ,x,re,h,?_);cases x with
  |exc y=>cases e;exact q
  |ok s=>
   cases s with
   |sh d=>cases e
   |two _ _ _=>cases e
   |own o=>
    cases o with
    |obj _ _ _=>cases e
    |dic _=>cases e
    |par _ _=>cases e
    |fdic _=>cases e
    |tab _=>cases e
    |dik _=>cases e
    |lst ds=>
     intro v Hs1 H1 g1 rs;obtain⟨p,ho,rfl,h0,h1,h2,xs,rfl,rl⟩:=rs;refine(cp (k:=SW ds) (re.grow g1) e (q.grow g1)).mono λu H2 ⟨Hs2,d2,g2,re2,rp2,e2,q2⟩=>?_;cases d2 with
     |int k=>
      obtain⟨hl,rfl⟩:=bP (c:=-(2 ^ 60)<=k/\k<2 ^ 60/\ds.length * k.toNat<=lim) e2;exact⟨p,k,xs,rfl,ak.mp rp2,g2.h _ _ h2,by omega,by omega,by rw[←rl.length];exact kL hl.2.2,λp hp=>qw re2.b.i q2 ((rl.mono g2.s).rep _) hp⟩
     |non=>cases e2
     |bl _=>cases e2
     |str _=>cases e2
     |tup _=>cases e2
     |lst _=>cases e2
     |fn _ _=>cases e2
     |obj _ _ _=>cases e2
theorem JX{α:Type}{H:Hp}{f:α->D}{g:α->V}(l:List α)(h:∀k,(33,H,f k,g k)):(16,H,l.map f,l.map g):=by
 induction l with
 |nil=>exact .nil
 |cons a l ih=>exact(22,h a,ih)
theorem GK{H:Hp}{ds:[20]}{xs:[38]}{i:Int}{d:D}(rl:(37,H,xs))(e:Ff ds i=(1,d)):∃x,Rg xs i=(1,x)/\(33,H,d,x):=by
 unfold Ff at e;unfold Rg;have hl:=rl.length;have e0:QG xs.length i=Mx ds.length i:=by rw[hl];rfl
 rw[e0];cases h:Mx ds.length i with
 |none=>rw[h] at e;cases e
 |some j=>
  rw[h] at e;exact rl.get e
theorem ixd(hK:X.K=Γ.K):MH X (rD Γ W aT):=λvalue slice pins s σ H x y v u Q I rx ry ⟨Hs,d1,d2,r,sm,r1,r2,e,q⟩ hs=>by
 cases d2 with
 |int i=>
  have ey:=ak.mp r2;cases d1 with
  |tup ds=>
   have e:(Ff ds i).bind okD=(1,r):=e;cases h:Ff ds i with
   |none=>rw[h] at e;cases e
   |some d=>
    rw[h] at e;cases e;obtain⟨a,xs,rfl,qa,la⟩:=bx.mp r1;obtain⟨z,ez,rz⟩:=GK la h;exact ix_tup value slice pins s σ H _ _ v u Q I rx ry ⟨a,xs,i,z,rfl,ey,by rw[hK];exact cx sm qa,ez,gG sm q rz⟩ hs
  |lst ds=>
   have e:(Ff ds i).bind okD=(1,r):=e;cases h:Ff ds i with
   |none=>rw[h] at e;cases e
   |some d=>
    rw[h] at e;cases e;obtain⟨a,xs,rfl,qa,la⟩:=bA.mp r1;obtain⟨z,ez,rz⟩:=GK la h;exact O8 value slice pins s σ H _ _ v u Q I rx ry ⟨a,xs,i,z,rfl,ey,by rw[hK];exact aM.seq sm qa,ez,gG sm q rz⟩ hs
  |str z=>
   have e':(if z.length<=lim then(Ff z.cps.toList i).bind (λc=>okD (.str ⟨#[c]⟩)) else none)=(1,r):=e;by_cases hl:z.length<=lim
   ·rw[(25,hl)] at e';cases h:Ff z.cps.toList i with
    |none=>rw[h] at e';cases e'
    |some c=>
     rw[h] at e';cases e';exact QF value slice pins s σ H _ _ v u Q I rx ry ⟨z,i,c,bI.mp r1,ey,kL hl,h,gG sm q (bI.mpr rfl)⟩ hs
   ·rw[(29,hl)] at e';cases e'
  |non=>cases e
  |bl _=>cases e
  |int _=>cases e
  |fn _ _=>cases e
  |obj _ _ _=>cases e
 |_=>cases d1 <;> cases e
theorem oG{F:D->[57]}{ds:[20]}{r:R}(h:f1 F ds=(1,r)):∃d,ds=[d]/\F d=(1,r):=by
 match ds,h with
 |[d],h=>exact(19,d,h)
theorem Gi{F:D->D->[57]}{ds:[20]}{r:R}(h:f2 F ds=(1,r)):∃d e,ds=[d,e]/\F d e=(1,r):=by
 match ds,h with
 |[d,e],h=>exact(10,d,e,rfl,h)
theorem sy{H:Hp}{d:D}{xs:[38]}(h:(16,H,[d],xs)):∃x,xs=[x]/\(33,H,d,x):=by
 obtain⟨x,r,e,q,t⟩:=bp.mp h;rw[dC.mp t] at e;exact(11,x,e,q)
theorem cb(hK:X.K=Γ.K):dj X (44,"len") (Du Γ W (f1 cm)):=λpins s σ H xs us Q I rs ⟨Hs,ds,r,sm,rl,e,q,tb⟩=>by
 obtain⟨d,rfl,e⟩:=oG e;obtain⟨x,rfl,rp⟩:=sy rl;cases d with
 |tup ds=>
  cases e;obtain⟨a,ys,rfl,qa,la⟩:=bx.mp rp;exact qY pins s σ H _ us Q I rs (4,a,ys,rfl,.inr (by rw[hK];exact cx sm qa),by rw[←la.length];exact gG sm q [52])
 |lst ds=>
  cases e;obtain⟨a,ys,rfl,qa,la⟩:=bA.mp rp;exact qY pins s σ H _ us Q I rs (4,a,ys,rfl,.inl (by rw[hK];exact aM.seq sm qa),by rw[←la.length];exact gG sm q [52])
 |str z=>
  obtain⟨hl,rfl⟩:=bP (c:=z.length<=lim) e;rw[bI.mp rp] at rs;exact Aq pins s σ H _ us Q I rs (10,z,rfl,kL hl,gG sm q [52])
 |_=>cases e
theorem R7(hK:X.K=Γ.K)(hc:X.calm=true):dj X (44,"sum") (Du Γ W (f1 Ov)):=λpins s σ H xs us Q I rs ⟨Hs,ds,r,sm,rl,e,q,tb⟩=>by
 obtain⟨d,rfl,e⟩:=oG e;obtain⟨x,rfl,rp⟩:=sy rl;cases d with
 |lst ds=>
  have e:(intsOf ds).bind (λns=>okI ns.sum)=(1,r):=e;cases h:intsOf ds with
  |none=>rw[h] at e;cases e
  |some ns=>
   rw[h] at e;cases e;obtain⟨a,ys,rfl,qa,la⟩:=bA.mp rp;have ey:=la.intsOf h;subst ey;exact IR hc pins s σ H _ us Q I rs (4,a,ns,rfl,by rw[hK];exact aM.seq sm qa,gG sm q [52])
 |_=>cases e
theorem F5(hK:X.K=Γ.K)(hc:X.calm=true):dj X (44,"all") (Du Γ W (f1 F2)):=λpins s σ H xs us Q I rs ⟨Hs,ds,r,sm,rl,e,q,tb⟩=>by
 obtain⟨d,rfl,e⟩:=oG e;obtain⟨x,rfl,rp⟩:=sy rl;cases d with
 |lst ds=>
  have e:(blsOf ds).bind (λbs=>okB (bs.all id))=(1,r):=e;cases h:blsOf ds with
  |none=>rw[h] at e;cases e
  |some ns=>
   rw[h] at e;cases e;obtain⟨a,ys,rfl,qa,la⟩:=bA.mp rp;have ey:=la.blsOf h;subst ey;exact IX hc pins s σ H _ us Q I rs (4,a,ns,rfl,by rw[hK];exact aM.seq sm qa,gG sm q (aI.mpr rfl))
 |_=>cases e
theorem R8(hK:X.K=Γ.K)(hc:X.calm=true):dj X (44,"any") (Du Γ W (f1 R3)):=λpins s σ H xs us Q I rs ⟨Hs,ds,r,sm,rl,e,q,tb⟩=>by
 obtain⟨d,rfl,e⟩:=oG e;obtain⟨x,rfl,rp⟩:=sy rl;cases d with
 |lst ds=>
  have e:(blsOf ds).bind (λbs=>okB (bs.any id))=(1,r):=e;cases h:blsOf ds with
  |none=>rw[h] at e;cases e
  |some ns=>
   rw[h] at e;cases e;obtain⟨a,ys,rfl,qa,la⟩:=bA.mp rp;have ey:=la.blsOf h;subst ey;exact IW hc pins s σ H _ us Q I rs (4,a,ns,rfl,by rw[hK];exact aM.seq sm qa,gG sm q (aI.mpr rfl))
 |_=>cases e
theorem gw(hK:X.K=Γ.K):dj X (54,"tuple") (Du Γ W (f1 j8)):=λpins s σ H xs us Q I rs ⟨Hs,ds,r,sm,rl,e,q,tb⟩=>by
 obtain⟨d,rfl,e⟩:=oG e;obtain⟨x,rfl,rp⟩:=sy rl;cases d with
 |tup ds=>
  cases e;obtain⟨a,ys,rfl,qa,la⟩:=bx.mp rp;exact p5 pins s σ H _ us Q I rs (10,a,ys,rfl,.inr (3,by rw[hK];exact cx sm qa,gG sm q rp))
 |lst ds=>
  cases e;obtain⟨a,ys,rfl,qa,la⟩:=bA.mp rp;exact p5 pins s σ H _ us Q I rs (10,a,ys,rfl,.inl (3,by rw[hK];exact aM.seq sm qa,λp hp=>zv sm q la hp))
 |_=>cases e
theorem qW(hK:X.K=Γ.K):dj X (54,"list") (Du Γ W (f1 yq)):=λpins s σ H xs us Q I rs ⟨Hs,ds,r,sm,rl,e,q,tb⟩=>by
 obtain⟨d,rfl,e⟩:=oG e;obtain⟨x,rfl,rp⟩:=sy rl;cases d with
 |tup ds=>
  cases e;obtain⟨a,ys,rfl,qa,la⟩:=bx.mp rp;exact qX pins s σ H _ us Q I rs (4,a,ys,rfl,.inr (by rw[hK];exact cx sm qa),λp hp=>qw sm q la hp)
 |lst ds=>
  cases e;obtain⟨a,ys,rfl,qa,la⟩:=bA.mp rp;exact qX pins s σ H _ us Q I rs (4,a,ys,rfl,.inl (by rw[hK];exact aM.seq sm qa),λp hp=>qw sm q la hp)
 |_=>cases e
theorem Qe{a:Expr}{g:ME}{j pos pos'}(h:(25,a,g)):(25,.Compare a [.Is] [.Constant .none j pos'] pos,kN M7 g):=(78,Kr (Kz h)) λ_ _ σ H Q _ ⟨B0,B1,Hs,ρ,r,re,e,q⟩=>by
 refine(cp re e q).mono λv H1 ⟨Hs1,d,g1,re1,rp,e1,q1⟩=>?_;cases d with
 |non=>cases e1;rw[cy.mp rp];exact q1 _ Hs1 H1 [34] (37,rfl)
 |bl _=>cases e1;rw[aI.mp rp];exact q1 _ Hs1 H1 [34] (37,rfl)
 |int _=>cases e1;rw[ak.mp rp];exact q1 _ Hs1 H1 [34] (37,rfl)
 |str _=>cases e1;rw[bI.mp rp];exact q1 _ Hs1 H1 [34] (37,rfl)
 |tup _=>cases e1;obtain⟨a,_,rfl,_⟩:=bx.mp rp;exact q1 _ Hs1 H1 [34] (37,rfl)
 |lst _=>cases e1;obtain⟨a,_,rfl,_⟩:=bA.mp rp;exact q1 _ Hs1 H1 [34] (37,rfl)
 |fn _ _=>cases e1;obtain⟨a,_,rfl,_⟩:=rK.mp rp;exact q1 _ Hs1 H1 [34] (37,rfl)
 |obj _ _ _=>cases e1;obtain⟨a,_,_,rfl,_⟩:=lZ.mp rp;exact q1 _ Hs1 H1 [34] (37,rfl)
theorem FO{a:Expr}{g:ME}{j pos pos'}(h:(25,a,g)):D3 X Γ W (.Compare a [.Is] [.Constant .none j pos'] pos) (kN M7 g):=PT.imp (K4 (Kz h)) λ_ _ σ H Q _ t=>by
 have t':=Fy t;obtain⟨B0,B1,Hs,ρ,r,re,e,q⟩:=t';refine(cp re e q).mono λv H1 ⟨Hs1,d,g1,re1,rp,e1,q1⟩=>?_;cases d with
 |non=>cases e1;rw[cy.mp rp];exact q1 _ Hs1 H1 [34] (37,rfl)
 |bl _=>cases e1;rw[aI.mp rp];exact q1 _ Hs1 H1 [34] (37,rfl)
 |int _=>cases e1;rw[ak.mp rp];exact q1 _ Hs1 H1 [34] (37,rfl)
 |str _=>cases e1;rw[bI.mp rp];exact q1 _ Hs1 H1 [34] (37,rfl)
 |tup _=>cases e1;obtain⟨a,_,rfl,_⟩:=bx.mp rp;exact q1 _ Hs1 H1 [34] (37,rfl)
 |lst _=>cases e1;obtain⟨a,_,rfl,_⟩:=bA.mp rp;exact q1 _ Hs1 H1 [34] (37,rfl)
 |fn _ _=>cases e1;obtain⟨a,_,rfl,_⟩:=rK.mp rp;exact q1 _ Hs1 H1 [34] (37,rfl)
 |obj _ _ _=>cases e1;obtain⟨a,_,_,rfl,_⟩:=lZ.mp rp;exact q1 _ Hs1 H1 [34] (37,rfl)
def mH(K:Frag)(T:String):Prop:=∀t∈["NoneType","bool","int","str","tuple","list"],kitOne K (54,t) (54,T)=(1,(t == T || (t == "bool" && T == "int")))
theorem Pp{T:String}{g:ME}(hK:X.K=Γ.K)(h:mH X.K T){σ:L2.St}{H:Hp}{Q:VK}(t:tD Γ W (kN (oM T) g) σ H Q):
  tD Γ W g σ H λx H1=>∃y t U b,[x,V.ty T]=[y,V.ty U]/\(pP X.K H1 y (54,t)\/(t = "tuple" /\ ∃a xs,y=(9,a)/\nV X.K H1 a xs)\/(t = "list" /\ ∃a xs,y=(9,a)/\kQ X.K H1 a xs))/\kitOne X.K (54,t) (54,U)=(1,b)/\Q (.bl b) H1:=by
 obtain⟨B0,B1,Hs,ρ,r,re,e,q⟩:=t;refine(cp re e q).mono λv H1 ⟨Hs1,d,g1,re1,rp,e1,q1⟩=>?_;have fin:∀t:String,oM T d=okB (t == T || (t == "bool" && T == "int"))->Q (.bl (t == T || (t == "bool" && T == "int"))) H1:=λt z=>by
  rw[z] at e1;cases e1;exact q1 _ Hs1 H1 [34] (37,rfl)
 cases d with
 |non=>rw[cy.mp rp];exact⟨_,"NoneType",T,_,rfl,.inl .non,h _ [19],fin _ rfl⟩
 |bl _=>rw[aI.mp rp];exact⟨_,"bool",T,_,rfl,.inl (.bl _),h _ [19],fin _ rfl⟩
 |int _=>rw[ak.mp rp];exact⟨_,"int",T,_,rfl,.inl (16,_),h _ [19],fin _ rfl⟩
 |str _=>rw[bI.mp rp];exact⟨_,"str",T,_,rfl,.inl (.str _),h _ [19],fin _ rfl⟩
 |tup _=>obtain⟨a,xs,rfl,qa,_⟩:=bx.mp rp;exact⟨_,"tuple",T,_,rfl,.inr (.inl (4,rfl,a,xs,rfl,by rw[hK];exact cx re1.b.i qa)),h _ [19],fin _ rfl⟩
 |lst _=>
  obtain⟨a,xs,rfl,qa,_⟩:=bA.mp rp;exact⟨_,"list",T,_,rfl,.inr (.inr (4,rfl,a,xs,rfl,by rw[hK];exact aM.seq re1.b.i qa)),h _ [19],fin _ rfl⟩
 |fn _ _=>cases e1
 |obj _ _ _=>cases e1
theorem ix{a:Expr}{g:ME}{T:String}{tn:Str}{p p' pos:Pos}(hK:X.K=Γ.K)(hk:mH X.K T)(hg:Gl X "isinstance")(hm:X.mg "isinstance" = none)(hg2:Gl X tn)(hm2:X.mg tn=none)(hb:(60,tn)=(1,(54,T)))(h:(25,a,g))
  (hn:tn ≠ "__name__" := by decide) (hdb:(tn == ("__debug__":Str))=false:=by decide) (hs1:(4,[a,.Name tn p'])=(false,(14,a))::(4,[.Name tn p']):=by rfl) (hs2:(4,[.Name tn p'])=(false,(14,.Name tn p'))::(4,[]):=by rfl)
  (hpl:(7,pos,[.Name tn p']).any (·.1)=false:=by rfl):(25,(5,.Name "isinstance" p,[a,.Name tn p'],pos),kN (oM T) g):=
 (78,l3 sR hg hm boot_isinstance (bX h (bX (FW (v:=.ty T) hg2 hm2 hb rfl hn hdb) fh hs2) hs1) [13] [13] hs1 hpl) λ_ _ _ _ _ _ t=>Pp hK hk t
theorem zE{a b:Expr}{ga gb:ME}{p p' pos' pos:Pos}(hc:X.calm=true)(hg:Gl X "list")(hm:X.mg "list" = none)(hg2:Gl X "range")(hm2:X.mg "range" = none)(ha:(25,a,ga))(hb:(25,b,gb))
  (hs1:(4,[a,b])=(false,(14,a))::(4,[b]):=by rfl) (hs2:(4,[b])=(false,(14,b))::(4,[]):=by rfl) (hpl:(7,pos',[b]).any (·.1)=false:=by rfl)
  (hs3:(4,[(5,.Name "range" p',[a,b],pos')])=(false,(14,(5,.Name "range" p',[a,b],pos')))::(4,[]):=by rfl) (hpl2:(7,pos,[]).any (·.1)=false:=by rfl):
  (25,(5,.Name "list" p,[(5,.Name "range" p',[a,b],pos')],pos),(31,nL,ga,gb)):=
 (78,ou (Ap hc) hg hm boot_list (bX (ou CU hg2 hm2 boot_range (bX ha (bX hb fh hs2) hs1) [13] [13] hs1 hpl) fh hs3) [13] [13] hs3 hpl2) λ_ _ σ H Q _ ⟨B0,B1,Hs,ρ,r,re,e,q⟩=>by
  refine(cp re e q).mono λv H1 ⟨Hs1,d,g1,re1,rp,e1,q1⟩=>?_;refine(cp re1 e1 q1).mono λu H2 ⟨Hs2,d2,g2,re2,rp2,e2,q2⟩=>?_;obtain⟨lo,hi,rfl,rfl,e2⟩:=(30,λlo hi=>if jb lo=true/\jb hi=true/\(hi - lo).toNat<=lim then okL (rng lo hi) else none,e2);obtain⟨⟨h1,h2,h3⟩,rfl⟩:=bP e2;refine(10,lo,hi,by rw[ak.mp rp,ak.mp rp2],λp hp=>?_)
  have sm:=re2.b.i;refine⟨p,lo,hi,rfl,aG,(10,(jY h1).1,(jY h1).2,(jY h2).1,(jY h2).2),kL h3,λl hl=>?_⟩;have hp2:=sm.free hp;have g3:Grow Hs2 H2 Hs2 (35,cF H2 p (.rng lo hi),l,((19,(hi - lo).toNat).map λk:Nat=>V.int (lo+k))):=.only sm ((bV hp).trans (bV hl));have hl2:H2 l=none:=(bV hp).free hl;refine q2 _ Hs2 _ g3 ⟨l,_,rfl,hl2,sm.free hl2,aG,_,rfl,?_⟩;unfold rng;exact JX _ λk=>[52]
theorem Nv{a b:Expr}{ga gb:ME}{p pos tp:Pos}{elts:List Expr}{kt:Nat}(hK:X.K=Γ.K)(hg:Gl X "zip")(hm:X.mg "zip" = none)(ha:(25,a,ga))(hb:(25,b,gb))
  (hs1:(4,[a,b])=(false,(14,a))::(4,[b]):=by rfl) (hs2:(4,[b])=(false,(14,b))::(4,[]):=by rfl) (hs3:(4,[a,b])=[(false,(14,a)),(false,(14,b))]:=by rfl) (hs4:(4,[b])=[(false,(14,b))]:=by rfl):
  Mu X Γ W (.Tuple elts kt tp) (5,.Name "zip" p,[a,b],pos) (Oe ga gb):=PI.imp (PZ hg hm (bX ha (bX hb fh hs2) hs1) hs3 hs4) λ_ _ σ H Q _ ⟨B0,B1,Hs,ρ,r,re,e,q⟩=>by
 refine(GT re e q).mono λv H1 ⟨Hs1,d,g1,re1,rp,e1,q1⟩=>?_;refine(GT re1 e1 q1).mono λu H2 ⟨Hs2,d2,g2,re2,rp2,e2,q2⟩=>?_;have rp:=rp.mono g2.s;have sm:=re2.b.i;have step:∀(bb:Bool)(l1 l2:Addr)(xs ys:[38])(ds es:[20]),v=(9,l1)->u=(9,l2)->ra X.K Hs2 bb l1 xs->ra X.K Hs2 bb l2 ys->(37,Hs2,xs)->(16,Hs2,es,ys)->r=.ok (zipWith (λu v=>D.tup [u,v]) ds es)->
   ∃b l1 l2,[v,u]=[V.ref l1,V.ref l2]/\(∃xs,ra X.K H2 b l1 xs)/\(∃ys,ra X.K H2 b l2 ys)/\Q (Uw X.K b l1 b l2) H2:=λbb l1 l2 xs ys ds es e1 e2 s1 s2 rl1 rl2 er=>by
  subst e1 e2 er;have mv:∀{Hx Hy:Hp}{l:Addr}{zs:[38]},aM Hx Hy->ra X.K Hx bb l zs->ra X.K Hy bb l zs:=λ{Hx Hy l zs} k s=>by
   cases bb with
   |true=>exact aM.seq k s
   |false=>exact cx k s
  refine⟨bb,l1,l2,rfl,(3,xs,mv sm s1),(3,ys,mv sm s2),q2 _ Hs2 H2 (.refl sm) (11,λi Hs3 H3 hi k1 k2=>?_,λHs3 H3 k1 k2=>?_,λi Hs3 H3 x H4 hi k1 k2 y=>?_)⟩
  ·rw[List.length_zipWith] at hi;have i1:i<xs.length:=by rw[←rl1.length];omega
   have i2:i<ys.length:=by rw[←rl2.length];omega
   exact⟨xs,ys,xs[i],ys[i],mv (k1.trans k2) s1,mv (k1.trans k2) s2,(7,i1),(7,i2)⟩
  ·refine(4,xs,ys,mv (k1.trans k2) s1,mv (k1.trans k2) s2,?_);rw[List.length_zipWith,←rl1.length,←rl2.length];omega
  ·rw[List.length_zipWith] at hi;obtain⟨p,a1,a2,rfl,hp,rfl,f1,f2⟩:=y;have i1:i<ds.length:=by omega
   have i2:i<es.length:=by omega
   obtain⟨x1,e1,q1'⟩:=rl1.get (7,i1);obtain⟨x2,e2,q2'⟩:=rl2.get (7,i2);have z1:=f1 xs (mv (k1.trans k2) s1);have z2:=f2 ys (mv (k1.trans k2) s2);rw[e1] at z1;rw[e2] at z2;cases z1;cases z2;refine(4,(22,[ds[i],es[i]]),cF Hs3 p (22,[a1,a2]),?_,.new k2 hp,?_)
   ·rw[List.getElem?_zipWith,(7,i1),(7,i2)]
   ·have k3:aM Hs3 (cF Hs3 p (22,[a1,a2])):=bV (k2.free hp);exact bx.mpr (4,p,[a1,a2],rfl,.of aG,(22,((q1'.mono k1).mono k3),(22,((q2'.mono k1).mono k3),.nil)))
 cases d with
 |lst ds=>
  cases d2 with
  |lst es=>
   cases e2;obtain⟨l1,xs,ev,s1,rl1⟩:=bA.mp rp;obtain⟨l2,ys,eu,s2,rl2⟩:=bA.mp rp2;rw[←hK] at s1 s2;exact step true l1 l2 xs ys ds es ev eu s1 s2 rl1 rl2 rfl
  |non=>cases e2
  |bl _=>cases e2
  |int _=>cases e2
  |str _=>cases e2
  |tup _=>cases e2
  |fn _ _=>cases e2
  |obj _ _ _=>cases e2
 |tup ds=>
  cases d2 with
  |tup es=>
   cases e2;obtain⟨l1,xs,ev,s1,rl1⟩:=bx.mp rp;obtain⟨l2,ys,eu,s2,rl2⟩:=bx.mp rp2;rw[←hK] at s1 s2;exact step false l1 l2 xs ys ds es ev eu s1 s2 rl1 rl2 rfl
  |non=>cases e2
  |bl _=>cases e2
  |int _=>cases e2
  |str _=>cases e2
  |lst _=>cases e2
  |fn _ _=>cases e2
  |obj _ _ _=>cases e2
 |_=>cases e2
end
section
variable{X:Cx}{Γ:Ct}{W:XW}{i:Nat}{x:Str}{e ex:Expr}{ge gx:ME}{px apos cpos pos:Pos}
theorem ow{i:Nat}{ρ:aC}{k:([20])->(8,pR)}{o:pR}(h:x9 i ρ k=[46]):∃ds,ρ[i]?=(1,(52,ds))/\k ds=[46]:=by
 unfold x9 at h;split at h
 ·rename_i ds hd;exact(11,ds,hd,h)
 ·cases h
theorem fF(hv:PE X [50] (ka i))(he:(25,e,ge))(hs:(4,[e])=(false,(14,e))::(4,[]):=by rfl)
  (hbase:attributeBase [50] "append" X.env (14,[50])=(14,[50]):=by rfl)
  (hfew:((7,cpos,[e]).all (λx=>!x.1) && (15,cpos,[],X.env).all (λx=>x.1.isSome) && decide ([e].length+([]:List Keyword).length+(if([]:List Keyword).isEmpty then 0 else 1)<30))=true:=by rfl)
  (hline:(apos.endLine == cpos.line)=true:=by rfl) (hplain:(7,cpos,[]).any (·.1)=false:=by rfl) (hsw:(28,(5,(8,[50],"append"),[e],cpos),none,pos.line)=pure false:=by rfl):
  sW X Γ W (.Expr (5,(8,[50],"append"),[e],cpos) pos) (gY i ge):=
 PS.imp (u7 (Kt PySem.F.plainAttrs_list PySem.F.slot_list_append PySem.F.type_list_append rS hv (bX he fh hs) hbase hfew hline hs hplain) hsw) λpins s σ H En I ⟨B0,B1,Hs,ρ,o,re,eo,q⟩=>by
  obtain⟨ds,hd,eo⟩:=ow eo;obtain⟨a,ho,e1,e2,e3,e4,xs,rfl,rl⟩:=re.own i _ hd;refine(10,(9,a),e1,.inl (11,rfl,xs,.of e4),(zd re eo q).mono λy H1 ⟨Hs1,s,g1,rs,e5⟩=>?_);obtain⟨hl,rfl⟩:=bP e5;obtain⟨Hs2,g2,_,rp⟩:=rs.share g1;refine⟨a,xs,y,rfl,rfl,g2.h _ _ e4,by rw[←rl.length];exact(9,hl,[13]),q σ Hs2 _ g2.s ((re.grow g2).write hd e1 (19,_,(rl.mono g2.s).append (22,rp,.nil)))⟩
theorem DO(hK:X.K=Γ.K)(hv:PE X [50] (ka i))(he:(25,e,ge))(hs:(4,[e])=(false,(14,e))::(4,[]):=by rfl)
  (hbase:attributeBase [50] "extend" X.env (14,[50])=(14,[50]):=by rfl)
  (hfew:((7,cpos,[e]).all (λx=>!x.1) && (15,cpos,[],X.env).all (λx=>x.1.isSome) && decide ([e].length+([]:List Keyword).length+(if([]:List Keyword).isEmpty then 0 else 1)<30))=true:=by rfl)
  (hline:(apos.endLine == cpos.line)=true:=by rfl) (hplain:(7,cpos,[]).any (·.1)=false:=by rfl) (hsw:(28,(5,(8,[50],"extend"),[e],cpos),none,pos.line)=pure false:=by rfl):
  sW X Γ W (.Expr (5,(8,[50],"extend"),[e],cpos) pos) (u4 i ge):=
 PS.imp (u7 (Kt PySem.F.plainAttrs_list PySem.F.slot_list_extend PySem.F.type_list_extend (Pf.or Ej Ei) hv (bX he fh hs) hbase hfew hline hs hplain) hsw) λpins s σ H En I ⟨B0,B1,Hs,ρ,o,re,eo,q⟩=>by
  obtain⟨ds,hd,eo⟩:=ow eo;obtain⟨a,ho,e1,e2,e3,e4,xs,rfl,rl⟩:=re.own i _ hd;refine(10,(9,a),e1,.inl (11,rfl,xs,.of e4),(zd re eo q).mono λy H1 ⟨Hs1,s,g1,rs,e5⟩=>?_);obtain⟨Hs2,g2,_,rp⟩:=rs.share g1;have wr:∀{es:[20]}{ys:[38]},(16,Hs2,es,ys)->o=.next (72,(52,(ds++es)))->En.nx σ (35,H1,a,(xs++ys)):=λ{es ys} rl2 eo=>by
   subst eo;exact q σ Hs2 _ g2.s ((re.grow g2).write hd e1 (19,_,(rl.mono g2.s).append rl2))
  cases hv:s.val with
  |lst es=>
   rw[hv] at e5 rp;obtain⟨hl,eo⟩:=bP (c:=ds.length+es.length<=lim) e5;obtain⟨b,ys,rfl,rd,rl2⟩:=bA.mp rp;exact .inl ⟨a,b,xs,ys,rfl,rfl,g2.h _ _ e4,by rw[hK];exact aM.seq g2.i rd,by rw[←rl.length,←rl2.length];exact kL hl,wr rl2 eo.symm⟩
  |tup es=>
   rw[hv] at e5 rp;obtain⟨hl,eo⟩:=bP (c:=ds.length+es.length<=lim) e5;obtain⟨b,ys,rfl,sq,rl2⟩:=bx.mp rp;exact .inr ⟨a,b,xs,ys,rfl,rfl,g2.h _ _ e4,by rw[hK];exact cx g2.i sq,by rw[←rl.length,←rl2.length];exact kL hl,wr rl2 eo.symm⟩
  |_=>rw[hv] at e5;cases e5
end
def W0:XW:=λ_ _ _=>False
theorem mR{Γ:Ct}{Hs H:Hp}(sm:aM Hs H){N:[16]}{ds:[20]}{vs:[38]}(rl:(37,Hs,vs))(tb:aM Γ.tb Hs):RE Γ Hs H Hs H (L2.start N vs) (cG N.length ds):=by
 have hl:=rl.length;have at':∀(i:Nat)(s:S),(cG N.length ds)[i]?=(31,s)->∃d,s=.sh d/\ds[i]?=(1,d):=λi s e=>by
  unfold cG at e;by_cases hi:i<ds.length
  ·rw[(59,by simpa using hi),getElem?_map,(7,hi)] at e
   cases e;exact(19,ds[i],(7,hi))
  ·rw[(64,by simpa using hi),getElem?_replicate] at e
   split at e <;> cases e
 refine⟨.refl sm,λi d e=>?_,λi o e=>?_,λi j o u a _ e=>?_,?_,tb⟩
 ·obtain⟨d',e1,e2⟩:=at' i _ e;cases e1;obtain⟨v,e3,q⟩:=rl.get e2;refine(11,v,?_,q);have hi:i<vs.length:=(17,e3).1;unfold L2.start;rw[(59,by simpa using hi),getElem?_map,e3]
  rfl
 ·obtain⟨_,e1,_⟩:=at' i _ e;cases e1
 ·obtain⟨_,e1,_⟩:=at' i _ e;cases e1
 ·unfold cG L2.start;rw[length_append,length_append,length_map,length_map,length_replicate,length_replicate,hl]
section
variable{P:Program}{w:World}{K:Frag}{mg:Str->Option Value}{base:Heap}{Γ:Ct}
theorem CB{np n:Nat}{g:MC}{ds:[20]}{r:R}(h:iZ np n g ds=(1,r)):ds.length=np/\Sh (g (cG n ds))=(1,r):=by
 unfold iZ at h;by_cases z:ds.length=np
 ·rw[(25,z)] at h;exact(3,z,h)
 ·rw[(29,z)] at h;cases h
theorem Oj{x qual:Str}{st:Stmt}{f:Addr}{fd:FuncData}{N ps:[16]}{k:Nat}{g:MC}(F:D8 K x qual st f fd)(S:(23,N,ps,st))
  (body:∀(cdv:Value)(A:Around)(outer:List PySem.Env)(s:Shared)(H:Hp)(E:XK),cu k (2,qual,[60],[15],f,cdv)->(8,Γ,W0,aS st,g)):
  dR P w K mg base lK (k+1) f fd ps (FD Γ W0 (iZ ps.length N.length g)):=by
 refine F.ok S (λvs H Q E ⟨Hs,ds,r,sm,rl,e,q,tb⟩=>?_) (λcdv A outer s H vs Q E hr ⟨Hs,ds,r,sm,rl,e,q,tb⟩=>?_)
 ·rw[←rl.length];exact(CB e).1
 ·obtain⟨_,e⟩:=CB e;refine(11,tS Γ W0 g,body cdv A outer s H E hr,?_);cases h:g (cG N.length ds) with
  |none=>rw[h] at e;cases e
  |some o=>
   rw[h] at e;refine⟨Hs,H,Hs,cG N.length ds,o,mR sm rl tb,h,?_⟩;cases o with
   |next ρ'=>cases e;exact λσ' Hs' H' _ re=>q .non Hs' H' re.b (cS.of (cy.mpr rfl))
   |brk ρ'=>cases e
   |cont ρ'=>cases e
   |ret s=>cases e;exact λv Hs' H' _ g' rs=>q v Hs' H' g' rs
   |exc x=>cases e;exact λHs' H' _ g'=>q Hs' H' g'
theorem LH{x qual:Str}{st:Stmt}{f:Addr}{fd:FuncData}{N ps:[16]}{k:Nat}{g:(([20])->[57])->MC}(F:D8 K x qual st f fd)(S:(23,N,ps,st))
  (body:∀(G:([20])->[57])(j:Nat),k<=j->dR P w K mg base lK j f fd ps (FD Γ W0 G)->∀(cdv:Value)(A:Around)(outer:List PySem.Env)(s:Shared)(H:Hp)(E:XK),cu j (2,qual,[60],[15],f,cdv)->(8,Γ,W0,aS st,g G)):
  ∀n,dR P w K mg base lK (k+n) f fd ps (FD Γ W0 (n.rec (λ_=>none) λ_ G=>iZ ps.length N.length (g G)))
 |0=>(3,λvs H Q E ⟨Hs,ds,r,_,_,e,_,_⟩=>(nomatch e),λA outer s H args us vs Q E _ _ _ _ ⟨Hs,ds,r,_,_,e,_,_⟩=>(nomatch e))
 |n+1=>Oj F S (body _ (k+n) (le_add_right _ _) (LH F S body n))
theorem dR.le{f:Addr}{fd:FuncData}{ps:[16]}{k:Nat}{F G:([20])->[57]}(h:dR P w K mg base lK k f fd ps (FD Γ W0 F))(l:∀ds r,G ds=(1,r)->F ds=(1,r)):dR P w K mg base lK k f fd ps (FD Γ W0 G):=
 h.imp λvs H Q E ⟨Hs,ds,r,sm,rl,e,q,tb⟩=>⟨Hs,ds,r,sm,rl,l _ _ e,q,tb⟩
end
theorem vA(K:Frag):mH K "tuple" /\ mH K "list" /\ mH K "bool" /\ mH K "int" /\ mH K "str" := by
 refine(4,?_,?_,?_,?_,?_) <;>
 ·intro t ht;have:t = "NoneType" \/ t = "bool" \/ t = "int" \/ t = "str" \/ t = "tuple" \/ t = "list" := by simpa using ht
  rcases this with rfl|rfl|rfl|rfl|rfl|rfl <;> rfl
def di(P:Program)(w:World)(K:Frag)(mg:Str->[30])(base:Heap)(Γ:Ct)(k:Nat)(x:Str)(ps:[16])(F:([20])->[57]):Prop:=
 ∃f fd,dR P w K mg base lK k f fd ps (FD Γ W0 F)/\mg x=(1,(9,f))/\(39,K,f)=true/\eJ K fd ps []
section
variable{X:Cx}{Γ:Ct}{k:Nat}{ps:List Str}{x:Str}{p pos:Pos}{e:Expr}{es:List Expr}{gs:List ME}{F:List D->Option R}
theorem aQ(h:di X.prog X.w X.K X.mg X.base Γ k x ps F)(hr:cu k X.A)(hg:Gl X x)(ha:sX X Γ W0 (e::es) gs)(hdb:(x == ("__debug__":Str))=false:=by decide)(he:(4,(e::es))=(false,(14,e))::(4,es):=by rfl)(hpl:(7,pos,es).any (·.1)=false:=by rfl):
  (24,W0,(5,(23,p),(e::es),pos),aq F gs):=by
 obtain⟨f,fd,G,hm,hk,hb⟩:=h;exact NH G hr hg hm hk hb ha hdb he hpl
theorem zF(h:di X.prog X.w X.K X.mg X.base Γ k x ps F)(hr:cu k X.A)(hg:Gl X x)(ha:RF X Γ W0 (e::es) gs)(hdb:(x == ("__debug__":Str))=false:=by decide)(he:(4,(e::es))=(false,(14,e))::(4,es):=by rfl)(hpl:(7,pos,es).any (·.1)=false:=by rfl):
  (24,W0,(5,(23,p),(e::es),pos),aL F gs):=by
 obtain⟨f,fd,G,hm,hk,hb⟩:=h;exact Ky G hr hg hm hk hb ha hdb he hpl
end
structure cj(K:Frag)(mg:Str->Option Value)(x:Str)(st:Stmt)(ps:List Str):Prop where
 ex:∃f fd,D8 K x x st f fd/\mg x=(1,(9,f))/\eJ K fd ps []
section
variable{P:Program}{w:World}{K:Frag}{mg:Str->Option Value}{base:Heap}{Γ:Ct}
theorem bO{x:Str}{st:Stmt}{N ps:[16]}{k:Nat}{g:MC}(L:cj K mg x st ps)(S:(23,N,ps,st))
  (body:∀(f:Addr)(cdv:Value)(A:Around)(outer:List PySem.Env)(s:Shared)(H:Hp)(E:XK),cu k (2,x,[60],[15],f,cdv)->lJ (mr lK P w K mg base N x [60] f cdv A outer s H E).nox Γ W0 (aS st) g):
  (1,P,w,K,mg,Γ,(k+1),x,ps,iZ ps.length N.length g):=by
 obtain⟨f,fd,F,hm,hb⟩:=L.ex;exact⟨f,fd,Oj F S (body f),hm,F.kp,hb⟩
theorem ES{x:Str}{st:Stmt}{N ps:[16]}{k:Nat}{g:(([20])->[57])->MC}(L:cj K mg x st ps)(S:(23,N,ps,st))
  (body:∀(f:Addr)(G:([20])->[57])(j:Nat),k<=j->(1,P,w,K,mg,Γ,j,x,ps,G)->∀(cdv:Value)(A:Around)(outer:List PySem.Env)(s:Shared)(H:Hp)(E:XK),cu j (2,x,[60],[15],f,cdv)->lJ (mr lK P w K mg base N x [60] f cdv A outer s H E).nox Γ W0 (aS st) (g G)) (n:Nat):
  (1,P,w,K,mg,Γ,(k+n),x,ps,(n.rec (λ_=>none) λ_ G=>iZ ps.length N.length (g G))):=by
 obtain⟨f,fd,F,hm,hb⟩:=L.ex;exact⟨f,fd,LH F S (λG j hj ok=>body f G j hj ⟨f,fd,ok,hm,F.kp,hb⟩) n,hm,F.kp,hb⟩
theorem di.mono{j k:Nat}{x:Str}{ps:[16]}{F:([20])->[57]}(h:(1,P,w,K,mg,Γ,j,x,ps,F))(l:j<=k):(1,P,w,K,mg,Γ,k,x,ps,F):=by
 obtain⟨f,fd,G,r⟩:=h;exact(10,f,fd,G.mono l,r)
theorem di.le{k:Nat}{x:Str}{ps:[16]}{F G:([20])->[57]}(h:(1,P,w,K,mg,Γ,k,x,ps,F))(l:∀ds r,G ds=(1,r)->F ds=(1,r)):(1,P,w,K,mg,Γ,k,x,ps,G):=by
 obtain⟨f,fd,o,r⟩:=h;exact(10,f,fd,dR.le o l,r)
theorem O5{h:Heap}(X:K.In h)(G:h.Ns mainGlobals mg){x:Str}{st:Stmt}{ps:[16]}{f:Addr}{oc:Value}{od an:(8,Addr)}{osl:Array [30]}{kV doc pm cdv ct:Value}(a:(5,K,x)=(33,f))
  (l:K.lookup f=(1,(10,oc,od,.func (1,x,x,bT st,aS st,[60],.none,kV,pm,an,cdv,ct),osl))) (c:codeIn K cdv x=true) (k:(39,K,f)=true)
  (hb:∀(kV doc pm:Value)(an:(8,Addr))(cdv ct:Value)(us:[21]),us.length=ps.length->bindArgs (1,x,x,bT st,aS st,[60],.none,kV,pm,an,cdv,ct) (3,us,[])=pure (ps.zip us)):cj K mg x st ps:=
 (4,f,_,nA l c k,mg_of X G a,(nA l c k).binds hb)
end
theorem rV(K:Frag):mH K "tuple" := (vA K).1
theorem vB(K:Frag):mH K "list" := (vA K).2.1
theorem qG(K:Frag):mH K "bool" := (vA K).2.2.1
theorem G4(K:Frag):mH K "int" := (vA K).2.2.2.1
theorem O6(K:Frag):mH K "str" := (vA K).2.2.2.2
theorem ee:(60,"tuple") = (1,(54,"tuple")):=by decide +kernel
theorem kD:(60,"list") = (1,(54,"list")):=by decide +kernel
theorem uh:(60,"bool") = (1,(54,"bool")):=by decide +kernel
theorem Mm:(60,"int") = (1,(54,"int")):=by decide +kernel
theorem Ra:(60,"str") = (1,(54,"str")):=by decide +kernel
theorem R9:(60,"sum") = (1,(44,"sum")):=by decide +kernel
theorem F7:(60,"all") = (1,(44,"all")):=by decide +kernel
theorem Rc:(60,"any") = (1,(44,"any")):=by decide +kernel
section
variable{X:Cx}{Γ:Ct}{W:XW}
theorem m7:(21,X,.LShift,rD Γ W pL):=λpins s σ H x y v u Q I rx ry ⟨Hs,d1,d2,r,sm,r1,r2,e,q⟩=>by
 obtain⟨i,j,rfl,rfl,e⟩:=(30,λi j=>if 0<=j/\j<=1000000/\i.natAbs<2 ^ 64 then okI (i * 2 ^ j.toNat) else none,e);obtain⟨h,rfl⟩:=bP e;exact Qj pins s σ H x y v u Q I rx ry ⟨i,j,ak.mp r1,ak.mp r2,h,gG sm q [52]⟩
theorem ua:(21,X,.RShift,rD Γ W tE):=λpins s σ H x y v u Q I rx ry ⟨Hs,d1,d2,r,sm,r1,r2,e,q⟩=>by
 obtain⟨i,j,rfl,rfl,e⟩:=(30,λi j=>if 0<=j then okI (i / 2 ^ j.toNat) else none,e);obtain⟨h,rfl⟩:=bP e;exact Qi pins s σ H x y v u Q I rx ry ⟨i,j,ak.mp r1,ak.mp r2,h,gG sm q [52]⟩
theorem GJ{x y:Int}(hx:0<=x)(hy:0<=y):Builtin.bitAnd x y=((x.toNat &&& y.toNat:Nat):Int):=by simp[Builtin.bitAnd,hx,hy]
theorem Mr{x y:Int}(hx:0<=x)(hy:0<=y):Builtin.bitOr x y=((x.toNat ||| y.toNat:Nat):Int):=by
 obtain⟨a,rfl⟩:∃a:Nat,x=a:=(69,x.toNat)
 obtain⟨b,rfl⟩:∃b:Nat,y=b:=(69,y.toNat)
 have h1:¬(0:Int)<=Builtin.bitNot (a:Int):=by unfold Builtin.bitNot;omega
 have h2:¬(0:Int)<=Builtin.bitNot (b:Int):=by unfold Builtin.bitNot;omega
 unfold Builtin.bitOr Builtin.bitAnd;rw[(40,h1),(40,h2)];dsimp only;have e1:Builtin.bitNot (Builtin.bitNot (a:Int))=a:=by unfold Builtin.bitNot;omega
 have e2:Builtin.bitNot (Builtin.bitNot (b:Int))=b:=by unfold Builtin.bitNot;omega
 rw[e1,e2];simp only[toNat_natCast];unfold Builtin.bitNot;omega
theorem ng:(21,X,.BitAnd,rD Γ W lE):=λpins s σ H x y v u Q I rx ry ⟨Hs,d1,d2,r,sm,r1,r2,e,q⟩=>by
 obtain⟨i,j,rfl,rfl,e⟩:=(30,λi j=>if 0<=i/\0<=j then okI ((i.toNat &&& j.toNat:Nat):Int) else none,e);obtain⟨h,rfl⟩:=bP e;exact Qn pins s σ H x y v u Q I rx ry (4,i,j,ak.mp r1,ak.mp r2,by dsimp only;rw[GJ h.1 h.2];exact gG sm q [52])
theorem zH:(21,X,.BitOr,rD Γ W M8):=λpins s σ H x y v u Q I rx ry ⟨Hs,d1,d2,r,sm,r1,r2,e,q⟩=>by
 obtain⟨i,j,rfl,rfl,e⟩:=(30,λi j=>if 0<=i/\0<=j then okI ((i.toNat ||| j.toNat:Nat):Int) else none,e);obtain⟨h,rfl⟩:=bP e;exact Sj pins s σ H x y v u Q I rx ry (4,i,j,ak.mp r1,ak.mp r2,by dsimp only;rw[Mr h.1 h.2];exact gG sm q [52])
section
variable{a b c:Expr}{ga gb gc:ME}{pos:Pos}
theorem JI{f g:D->D->[57]}{σ:L2.St}{H:Hp}{Q:VK}(t:tD Γ W (pK f g ga gb gc) σ H Q):JK (rD Γ W f) (rD Γ W g) (tD Γ W ga) (tD Γ W gb) (tD Γ W gc) σ H Q:=by
 obtain⟨B0,B1,Hs,ρ,r,re,e,q⟩:=t;refine(cp re e q).mono λv H1 ⟨Hs1,d,g1,re1,rp,e1,q1⟩=>?_;refine(cp re1 e1 q1).mono λu H2 ⟨Hs2,d2,g2,re2,rp2,e2,q2⟩=>?_;cases h:f d d2 with
 |none=>rw[h] at e2;cases e2
 |some x=>
  rw[h] at e2;refine⟨Hs2,d,d2,x,re2.b.i,rp.mono g2.s,rp2,h,?_⟩;cases x with
  |exc y=>cases e2;exact q2
  |ok s=>
   intro z Hs3 H3 g3 rs;obtain⟨Hs4,g4,sm4,rp4⟩:=rs.share g3;obtain⟨k,ek,e3⟩:=k8 (show asB s.val _=(1,r) from e2);rw[ek] at rp4;refine(11,k,aI.mp rp4,?_);cases k with
   |false=>
    rw[(29,[27])] at e3;cases e3;exact SH (q2 _ Hs4 H3 g4 (37,rfl))
   |true=>
    rw[(25,rfl)] at e3;refine QH ?_;refine(cp (re2.grow g4) e3 (q2.grow g4)).mono λw H5 ⟨Hs5,d5,g5,re5,rp5,e5,q5⟩=>?_;exact⟨Hs5,d2,d5,r,re5.b.i,(rp2.mono g4.s).mono g5.s,rp5,e5,q5⟩
theorem Kw{op op':CmpOp}{f g:D->D->[57]}(ho:(19,X,op,rD Γ W f))(ho':(19,X,op',rD Γ W g))(ha:(25,a,ga))(hb:(25,b,gb))(hc:(25,c,gc))
  (hm:lastMarks [op,op'] [b,c]=false:=by with_unfolding_all rfl):(25,.Compare a [op,op'] [b,c] pos,pK f g ga gb gc):=
 (78,Ks ho ho' ha hb hc hm) λ_ _ _ _ _ _ t=>JI t
theorem Pm(hK:X.K=Γ.K){d:D}{v:V}{Hs H:Hp}{k:Bool}(sm:aM Hs H)(rp:(33,Hs,d,v))(e:MK d=(1,k)):Ri X.K v H k:=by
 cases d with
 |non=>rw[cy.mp rp];cases e;exact rfl
 |bl b=>rw[aI.mp rp];cases e;exact rfl
 |int i=>rw[ak.mp rp];cases e;exact rfl
 |str y=>
  rw[bI.mp rp];obtain⟨hl,rfl⟩:=bP (c:=y.length<=lim) e;exact(3,kL hl,rfl)
 |tup ds=>
  obtain⟨p,xs,rfl,sq,rl⟩:=bx.mp rp;cases e;refine .inr (.inl (11,xs,by rw[hK];exact cx sm sq,?_))
  have:=rl.length;cases ds <;> cases xs <;> simp_all
 |lst ds=>
  obtain⟨p,xs,rfl,sq,rl⟩:=bA.mp rp;cases e;refine .inl (11,xs,by rw[hK];exact aM.seq sm sq,?_)
  have:=rl.length;cases ds <;> cases xs <;> simp_all
 |fn _ _=>cases e
 |obj _ _ _=>cases e
theorem Nj(hK:X.K=Γ.K)(ha:(25,a,ga))(he:∀whole,isTrue a X.env whole=(do let v ←whole;standAt a.pos;holding [v] (truthy v)):=by intro _;rfl):D3 X Γ W a (QX ga):=
 PT.imp (K2 ha he) λ_ _ σ H Q _ t=>by
  obtain⟨B0,B1,Hs,ρ,r,re,e,q⟩:=t;have e':bg (ga ρ) SV=(1,r):=e;cases h:ga ρ with
  |none=>rw[h] at e';cases e'
  |some x=>
   rw[h] at e';refine(3,B1,Hs,ρ,x,re,h,?_);cases x with
   |exc y=>cases e';exact q
   |ok s=>
    have e2:(MK s.val).bind (λb=>okB b)=(1,r):=e';cases h2:MK s.val with
    |none=>rw[h2] at e2;cases e2
    |some k=>
     rw[h2] at e2;cases e2;obtain⟨k',ek,q⟩:=q;cases ek;intro v Hs' H' g' rs;obtain⟨Hs2,g2,_,rp⟩:=rs.share g';exact(11,k,Pm hK g2.i rp h2,q _ _ g2)
end
theorem OR{H:Hp}{d e:D}{xs:[38]}(h:(16,H,[d,e],xs)):∃x y,xs=[x,y]/\(33,H,d,x)/\(33,H,e,y):=by
 obtain⟨x,r,e1,q,t⟩:=bp.mp h;obtain⟨y,rfl,q2⟩:=sy t;exact(4,x,y,e1,q,q2)
theorem OA(hc:X.calm=true):dj X (44,"max") (Du Γ W (f2 Gw)):=λpins s σ H xs us Q I rs ⟨Hs,ds,r,sm,rl,e,q,tb⟩=>by
 obtain⟨d1,d2,rfl,e⟩:=Gi e;obtain⟨x,y,rfl,r1,r2⟩:=OR rl;obtain⟨i,j,rfl,rfl,e⟩:=(30,λi j=>okI (if j > i then j else i),e);cases e;exact IU hc pins s σ H _ us Q I rs (10,i,j,by rw[ak.mp r1,ak.mp r2],gG sm q [52])
theorem Rb:(60,"max") = (1,(44,"max")):=by decide +kernel
theorem I8:Pf X "int.bit_length" (λx vs H Q=>∃i,x=(16,i)/\vs=[]/\Q (.int (bitLen i:Int)) H):=λpins s σ H x xs v us Q I rx rs ⟨i,ex,ev,q⟩=>by
 subst ex ev;obtain⟨t,rfl⟩:=rx;cases rs;exact call_int_bit_length (4,(16,_),H,I.tok _,(3,_,rfl),q)
theorem HB{o:Expr}{go:ME}{apos cpos:Pos}(ho:(25,o,go))(hbase:attributeBase o (15,"bit_length") X.env (14,o)=(14,o):=by rfl)(hline:(apos.endLine == cpos.line)=true:=by rfl):
  (25,(5,(8,o,(15,"bit_length")),[],cpos),kN Gy go):=
 (78,Qa PySem.F.plainAttrs_int PySem.F.slot_int_bit_length PySem.F.type_int_bit_length I8 ho hbase hline) λ_ _ σ H Q _ t=>by
  obtain⟨B0,B1,Hs,ρ,r,re,e,q⟩:=t;refine(cp re e q).mono λv H1 ⟨Hs1,d,g1,re1,rp,e1,q1⟩=>?_;cases d with
  |int i=>
   cases e1;rw[ak.mp rp];exact(4,rfl,i,rfl,rfl,gG re1.b.i q1 [52])
  |_=>cases e1
end
section
variable{X:Cx}{Γ:Ct}{W:XW}
theorem qg{K:Frag}{Hx Hy:Hp}{bb:Bool}{l:Addr}{zs:[38]}(k:aM Hx Hy)(s:ra K Hx bb l zs):ra K Hy bb l zs:=by
 cases bb with
 |true=>exact aM.seq k s
 |false=>exact cx k s
theorem Kh{a:Expr}{ga:ME}{p pos tp:Pos}{elts:List Expr}{kt:Nat}(hK:X.K=Γ.K)(hg:Gl X "enumerate")(hm:X.mg "enumerate" = none)(ha:(25,a,ga))(hs1:(4,[a])=(false,(14,a))::(4,[]):=by rfl)(hs3:(4,[a])=[(false,(14,a))]:=by rfl):
  Mu X Γ W (.Tuple elts kt tp) (5,.Name "enumerate" p,[a],pos) (Lp ga):=PI.imp (Nw hg hm (bX ha fh hs1) hs3) λ_ _ σ H Q _ ⟨B0,B1,Hs,ρ,r,re,e,q⟩=>by
 refine(GT re e q).mono λv H1 ⟨Hs1,d,g1,re1,rp,e1,q1⟩=>?_;have sm:=re1.b.i;have step:∀(bb:Bool)(l:Addr)(xs:[38])(ds:[20]),v=(9,l)->ra X.K Hs1 bb l xs->(37,Hs1,xs)->r=.ok ((19,ds.length).zipWith (λ(i:Nat) d=>D.tup [(16,i),d]) ds)->∃b l,[v]=[V.ref l]/\(∃xs,ra X.K H1 b l xs)/\Q (Uz X.K b l) H1:=λbb l xs ds ev s1 rl er=>by
  subst ev er;have hlen:((19,ds.length).zipWith (λ(i:Nat) d=>D.tup [(16,i),d]) ds).length=ds.length:=by rw[List.length_zipWith,length_range,Nat.min_self]
  refine(4,bb,l,rfl,(3,xs,qg sm s1),q1 _ Hs1 H1 (.refl sm) (11,λi Hs3 H3 hi k1 k2=>?_,λHs3 H3 k1 k2=>?_,λi Hs3 H3 x H4 hi k1 k2 y=>?_))
  ·rw[hlen] at hi;have i1:i<xs.length:=by rw[←rl.length];omega
   exact(10,xs,xs[i],qg (k1.trans k2) s1,(7,i1))
  ·exact(11,xs,qg (k1.trans k2) s1,by rw[hlen,rl.length];exact[25])
  ·rw[hlen] at hi;obtain⟨p,u,rfl,hp,rfl,f1⟩:=y;obtain⟨x1,e1,q1'⟩:=rl.get (7,hi);have z1:=f1 xs (qg (k1.trans k2) s1);rw[e1] at z1;cases z1;refine(4,(22,[(16,i),ds[i]]),cF Hs3 p (22,[(16,i),u]),?_,.new k2 hp,?_)
   ·rw[List.getElem?_zipWith,getElem?_range hi,(7,hi)]
   ·have k3:aM Hs3 (cF Hs3 p (22,[(16,i),u])):=bV (k2.free hp);exact bx.mpr (4,p,[(16,i),u],rfl,.of aG,(22,[52],(22,((q1'.mono k1).mono k3),.nil)))
 cases d with
 |lst ds=>
  cases e1;obtain⟨l,xs,ev,s1,rl⟩:=bA.mp rp;rw[←hK] at s1;exact step true l xs ds ev s1 rl rfl
 |tup ds=>
  cases e1;obtain⟨l,xs,ev,s1,rl⟩:=bx.mp rp;rw[←hK] at s1;exact step false l xs ds ev s1 rl rfl
 |_=>cases e1
theorem LN{d:D}{v:V}{H:Hp}(r:(33,H,d,v))(f:flat d=true):p0 v=true:=by
 cases d with
 |non=>rw[cy.mp r];rfl
 |bl _=>rw[aI.mp r];rfl
 |int _=>rw[ak.mp r];rfl
 |str _=>rw[bI.mp r];rfl
 |_=>cases f
theorem SO{d e:D}{v u:V}{H:Hp}(r1:(33,H,d,v))(r2:(33,H,e,u))(f1:flat d=true)(f2:flat e=true):My v u=Tx d e:=by
 cases d with
 |non=>rw[cy.mp r1];cases e with
  |non=>rw[cy.mp r2];rfl
  |bl _=>rw[aI.mp r2];rfl
  |int _=>rw[ak.mp r2];rfl
  |str _=>rw[bI.mp r2];rfl
  |tup _=>cases f2
  |lst _=>cases f2
  |fn _ _=>cases f2
  |obj _ _ _=>cases f2
 |bl _=>rw[aI.mp r1];cases e with
  |non=>rw[cy.mp r2];rfl
  |bl _=>rw[aI.mp r2];rfl
  |int _=>rw[ak.mp r2];rfl
  |str _=>rw[bI.mp r2];rfl
  |tup _=>cases f2
  |lst _=>cases f2
  |fn _ _=>cases f2
  |obj _ _ _=>cases f2
 |int _=>rw[ak.mp r1];cases e with
  |non=>rw[cy.mp r2];rfl
  |bl _=>rw[aI.mp r2];rfl
  |int _=>rw[ak.mp r2];rfl
  |str _=>rw[bI.mp r2];rfl
  |tup _=>cases f2
  |lst _=>cases f2
  |fn _ _=>cases f2
  |obj _ _ _=>cases f2
 |str _=>rw[bI.mp r1];cases e with
  |non=>rw[cy.mp r2];rfl
  |bl _=>rw[aI.mp r2];rfl
  |int _=>rw[ak.mp r2];rfl
  |str _=>rw[bI.mp r2];rfl
  |tup _=>cases f2
  |lst _=>cases f2
  |fn _ _=>cases f2
  |obj _ _ _=>cases f2
 |_=>cases f1
theorem OZ{x:D}{v:V}{H:Hp}(rx:(33,H,x,v))(fx:flat x=true):∀{ds:[20]}{xs:[38]},(37,H,xs)->ds.all flat=true->xs.all p0=true/\Tu v xs=P0 x ds
 |[],xs,h,_=>by rw[dC.mp h];exact(62,rfl)
 |d::ds,xs,h,f=>by
  obtain⟨y,r,rfl,q,t⟩:=bp.mp h;rw[List.all_cons,and_eq_true] at f;obtain⟨i1,i2⟩:=OZ rx fx t f.2;refine(3,by rw[List.all_cons,LN q f.1,i1];rfl,?_)
  show(My y v || Tu v r)=(Tx d x || P0 x ds);rw[SO q rx f.1 fx,i2]
theorem CM{neg:Bool}{d1 d2:D}{r:R}{Hs H:Hp}{x y:V}{Q:VK}(hK:X.K=Γ.K)(sm:aM Hs H)(r1:(33,Hs,d1,x))(r2:(33,Hs,d2,y))(e:MD neg d1 d2=(1,r))(q:RQ Γ W Hs H r Q):Tr X.K neg x y H Q:=by
 have fin:∀(ds:[20])(p:Addr)(xs:[38]),y=(9,p)->(kQ X.K H p xs\/nV X.K H p xs)->(37,Hs,xs)->(if flat d1=true/\ds.all flat=true then okB (if neg then !P0 d1 ds else P0 d1 ds) else none)=(1,r)->Tr X.K neg x y H Q:=λds p xs ey hq rl e=>by
  obtain⟨⟨h1,h2⟩,rfl⟩:=bP e;obtain⟨i1,i2⟩:=OZ r1 h1 rl h2;refine⟨p,xs,ey,hq,LN r1 h1,i1,?_⟩;rw[i2];exact gG sm q (aI.mpr rfl)
 cases d2 with
 |tup ds=>obtain⟨p,xs,ey,sq,rl⟩:=bx.mp r2;exact fin ds p xs ey (.inr (by rw[hK];exact cx sm sq)) rl e
 |lst ds=>obtain⟨p,xs,ey,sq,rl⟩:=bA.mp r2;exact fin ds p xs ey (.inl (by rw[hK];exact aM.seq sm sq)) rl e
 |_=>cases e
theorem KF(hK:X.K=Γ.K):(19,X,.In,rD Γ W (MD false)):=λpins s σ H x y v u Q I rx ry ⟨Hs,d1,d2,r,sm,r1,r2,e,q⟩=>HE pins s σ H x y v u Q I rx ry (CM hK sm r1 r2 e q)
theorem HD(hK:X.K=Γ.K):(19,X,.NotIn,rD Γ W (MD true)):=λpins s σ H x y v u Q I rx ry ⟨Hs,d1,d2,r,sm,r1,r2,e,q⟩=>zI pins s σ H x y v u Q I rx ry (CM hK sm r1 r2 e q)
theorem u0(n d:Nat)(o:(8,Int)):HT.sIx n d o=jN n d o:=by cases o <;> rfl
theorem CP{H:Hp}{ds:[20]}{xs:[38]}(rl:(37,H,xs))(lo hi:(8,Int)):(16,H,xD ds lo hi,CO xs lo hi):=by
 unfold xD CO;rw[u0,u0,←rl.length];exact(rl.drop _).take _
def PJ(Γ:Ct)(W:XW):V->(8,Int)->(8,Int)->Hp->VK->Prop:=λv lo hi H Q=>∃Hs d r,aM Hs H/\(33,Hs,d,v)/\mq d lo hi=(1,r)/\RQ Γ W Hs H r Q
theorem UT(hK:X.K=Γ.K):Pc X (PJ Γ W):=λpins s σ H x v vl vu lo hi sl Q I rx hs pl pu ⟨Hs,d,r,sm,rp,e,q⟩=>by
 cases d with
 |tup ds=>
  obtain⟨a,xs,rfl,sq,rl⟩:=bx.mp rp;have e':(if jN ds.length 0 lo=0/\jN ds.length ds.length hi=ds.length then none else(76,xD ds lo hi))=(1,r):=e;by_cases hw:jN ds.length 0 lo=0/\jN ds.length ds.length hi=ds.length
  ·rw[(25,hw)] at e';cases e'
  ·rw[(29,hw)] at e';cases e';exact Pu pins s σ H _ v vl vu lo hi sl Q I rx hs pl pu ⟨a,xs,rfl,by rw[hK];exact cx sm sq,by rw[u0,u0,←rl.length];exact hw,λp hp=>zv sm q (CP rl lo hi) hp⟩
 |lst ds=>
  obtain⟨a,xs,rfl,sq,rl⟩:=bA.mp rp;cases e;exact N5 pins s σ H _ v vl vu lo hi sl Q I rx hs pl pu (4,a,xs,rfl,by rw[hK];exact aM.seq sm sq,λp hp=>qw sm q (CP rl lo hi) hp)
 |_=>cases e
def tP(Γ:Ct)(W:XW)(o:(8,ME)):TO:=match o with
 |none=>Fz
 |some g=>OL (tD Γ W g)
abbrev Tz(X:Cx)(Γ:Ct)(W:XW)(e:(8,Expr))(o:(8,ME)):Prop:=PO X e (tP Γ W o)
theorem kY:Tz X Γ W none none:=Nr
theorem kX{e:Expr}{g:ME}(h:(25,e,g)):Tz X Γ W (1,e) (1,g):=Nq h
theorem y8{o:(8,ME)}{B0 B1 Hs H:Hp}{σ:L2.St}{ρ:aC}{k:(8,Int)->[57]}{r:R}{Q:VK}(re:RE Γ B0 B1 Hs H σ ρ)(e:KB o ρ k=(1,r))(q:RQ Γ W Hs H r Q){Q':(8,Int)->Hp->Prop}
  (h:∀i H1 Hs1,Grow Hs H Hs1 H1->RE Γ B0 B1 Hs1 H1 σ ρ->k i=(1,r)->RQ Γ W Hs1 H1 r Q->Q' i H1):tP Γ W o σ H Q':=by
 cases o with
 |none=>exact h none H Hs (.refl re.b.i) re e q
 |some g=>
  have e':bg (g ρ) (λd=>match d with|.int i=>k (1,i)|_=>none)=(1,r):=e
  refine(cp re e' q).mono λv H1 ⟨Hs1,d,g1,re1,rp,e1,q1⟩=>?_;cases d with
  |int i=>exact(11,i,ak.mp rp,h (1,i) H1 Hs1 g1 re1 e1 q1)
  |non=>cases e1
  |bl _=>cases e1
  |str _=>cases e1
  |tup _=>cases e1
  |lst _=>cases e1
  |fn _ _=>cases e1
  |obj _ _ _=>cases e1
theorem l5{e:Expr}{g:ME}{lo hi:(8,Expr)}{gl gh:(8,ME)}{pos p2:Pos}(hK:X.K=Γ.K)(he:(25,e,g))(hl:Tz X Γ W lo gl)(hh:Tz X Γ W hi gh):(25,.Subscript e (.Slice lo hi none p2) pos,eN g gl gh):=
 (78,Kl (UT hK) he hl hh) λ_ _ σ H Q _ ⟨B0,B1,Hs,ρ,r,re,e,q⟩=>by
  refine(cp re e q).mono λv H1 ⟨Hs1,d,g1,re1,rp,e1,q1⟩=>?_;refine y8 re1 e1 q1 λl H2 Hs2 g2 re2 e2 q2=>?_;refine y8 re2 e2 q2 λu H3 Hs3 g3 re3 e3 q3=>?_;exact⟨Hs3,d,r,re3.b.i,(rp.mono g2.s).mono g3.s,e3,q3⟩
theorem K0{a:Expr}{g:ME}{j pos pos'}(h:(25,a,g)):D3 X Γ W (.Compare a [.IsNot] [.Constant .none j pos'] pos) (kN P7 g):=PT.imp (K4 (NI h)) λ_ _ σ H Q _ t=>by
 have t':=Fy t;obtain⟨B0,B1,Hs,ρ,r,re,e,q⟩:=t';refine(cp re e q).mono λv H1 ⟨Hs1,d,g1,re1,rp,e1,q1⟩=>?_;cases d with
 |non=>cases e1;rw[cy.mp rp];exact q1 _ Hs1 H1 [34] (37,rfl)
 |bl _=>cases e1;rw[aI.mp rp];exact q1 _ Hs1 H1 [34] (37,rfl)
 |int _=>cases e1;rw[ak.mp rp];exact q1 _ Hs1 H1 [34] (37,rfl)
 |str _=>cases e1;rw[bI.mp rp];exact q1 _ Hs1 H1 [34] (37,rfl)
 |tup _=>cases e1;obtain⟨a,_,rfl,_⟩:=bx.mp rp;exact q1 _ Hs1 H1 [34] (37,rfl)
 |lst _=>cases e1;obtain⟨a,_,rfl,_⟩:=bA.mp rp;exact q1 _ Hs1 H1 [34] (37,rfl)
 |fn _ _=>cases e1;obtain⟨a,_,rfl,_⟩:=rK.mp rp;exact q1 _ Hs1 H1 [34] (37,rfl)
 |obj _ _ _=>cases e1;obtain⟨a,_,_,rfl,_⟩:=lZ.mp rp;exact q1 _ Hs1 H1 [34] (37,rfl)
end
theorem insD_mem(k x:Int):∀l:List Int,x∈nr k l↔x=k\/x∈l
 |[]=>by simp[nr]
 |y::r=>by
  unfold nr;split
  ·simp
  ·split
   ·rename_i h;subst h;simp
   ·rw[mem_cons,insD_mem k x r,mem_cons];constructor
    ·rintro (h|h|h) <;> simp[h]
    ·rintro (h|h|h) <;> simp[h]
theorem G8(k:Int):∀l:List Int,l.Pairwise (· < ·)->(nr k l).Pairwise (· < ·)
 |[],_=>by simp[nr]
 |y::r,h=>by
  obtain⟨h1,h2⟩:=pairwise_cons.mp h;unfold nr;split
  ·rename_i hk;refine pairwise_cons.mpr (3,λz hz=>?_,h);rcases mem_cons.mp hz with rfl|hz
   ·exact hk
   ·have:=h1 z hz;omega
  ·split
   ·exact h
   ·refine pairwise_cons.mpr (3,λz hz=>?_,G8 k r h2);rcases(insD_mem k z r).mp hz with rfl|hz
    ·omega
    ·exact h1 z hz
theorem sortD_mem(x:Int):∀l:List Int,x∈jM l↔x∈l
 |[]=>by simp[jM]
 |y::r=>by
  show x∈nr y (jM r)↔_;rw[insD_mem,sortD_mem x r,mem_cons]
theorem Ba:∀l:List Int,(jM l).Pairwise (· < ·)
 |[]=>by simp[jM]
 |y::r=>G8 y _ (Ba r)
theorem yg:∀{l m:[24]},l.Pairwise (· < ·)->m.Pairwise (· < ·)->(∀x,x∈l↔x∈m)->l=m
 |[],[],_,_,_=>rfl
 |[],y::m,_,_,h=>by have:=(h y).mpr (mem_cons_self);cases this
 |x::l,[],_,_,h=>by have:=(h x).mp (mem_cons_self);cases this
 |x::l,y::m,h1,h2,h=>by
  obtain⟨a1,a2⟩:=pairwise_cons.mp h1;obtain⟨b1,b2⟩:=pairwise_cons.mp h2;have e:x=y:=by
   have p:=(h x).mp mem_cons_self;have q:=(h y).mpr mem_cons_self;rcases mem_cons.mp p with e|p
   ·exact e
   ·rcases mem_cons.mp q with e|q
    ·exact e.symm
    ·have:=b1 x p;have:=a1 y q;omega
  subst e;congr 1;refine yg a2 b2 λz=>(3,λhz=>?_,λhz=>?_)
  ·rcases mem_cons.mp ((h z).mp (mem_cons_of_mem _ hz)) with rfl|q
   ·have:=a1 z hz;omega
   ·exact q
  ·rcases mem_cons.mp ((h z).mpr (mem_cons_of_mem _ hz)) with rfl|q
   ·have:=b1 z hz;omega
   ·exact q
theorem GX{ns ks l:[24]}(hm:∀n,n∈ks↔n∈ns)(nd:ks.Nodup)(pm:l.Perm ks)(so:l.Pairwise (·<=·)):l=jM ns:=by
 refine yg ?_ (Ba ns) λx=>by rw[sortD_mem,←hm,pm.mem_iff]
 have nd':l.Nodup:=pm.nodup_iff.mpr nd;have h:=List.Pairwise.and so nd';exact h.imp λ{a b} ⟨h1,h2⟩=>by omega
section
variable{X:Cx}{Γ:Ct}{W:XW}
theorem Om{ns:[24]}(h:fewD ns=true):few ns:=by
 unfold fewD at h;simp only[and_eq_true,decide_eq_true_eq,all_eq_true] at h;exact(3,h.1,λn hn=>by simpa using h.2 n hn)
theorem zD{a:Expr}{g:ME}{p p' pos' pos:Pos}(hK:X.K=Γ.K)(hc:X.calm=true)(hg:Gl X "sorted")(hm:X.mg "sorted" = none)(hg2:Gl X "set")(hm2:X.mg "set" = none)(ha:(25,a,g))
  (hs1:(4,[a])=(false,(14,a))::(4,[]):=by rfl) (hpl:(7,pos',[]).any (·.1)=false:=by rfl)
  (hs3:(4,[(5,.Name "set" p',[a],pos')])=(false,(14,(5,.Name "set" p',[a],pos')))::(4,[]):=by rfl) (hpl2:(7,pos,[]).any (·.1)=false:=by rfl):
  (25,(5,.Name "sorted" p,[(5,.Name "set" p',[a],pos')],pos),kN vT g):=
 (78,l3 (An hc) hg hm Aw (bX (ou (IT hc) hg2 hm2 J0 (bX ha fh hs1) [13] [13] hs1 hpl) fh hs3) [13] [13] hs3 hpl2) λ_ _ σ H Q _ ⟨B0,B1,Hs,ρ,r,re,e,q⟩=>by
  refine(cp re e q).mono λv H1 ⟨Hs1,d,g1,re1,rp,e1,q1⟩=>?_;cases d with
  |lst ds=>
   have e1:(intsOf ds).bind (λns=>if fewD ns=true then okL ((jM ns).map D.int) else none)=(1,r):=e1;cases hi:intsOf ds with
   |none=>rw[hi] at e1;cases e1
   |some ns=>
    rw[hi] at e1;obtain⟨hf,rfl⟩:=bP (c:=fewD ns=true) e1;obtain⟨b,xs,rfl,sq,rl⟩:=bA.mp rp;have ex:=rl.intsOf hi;subst ex;have fw:=Om hf;have sm:=re1.b.i;refine⟨b,ns,rfl,by rw[hK];exact aM.seq sm sq,fw,λa ks ha hm nd=>?_⟩
    refine⟨a,ks,rfl,aG,?_,λl ms hl pm so=>?_⟩
    ·have:ks.length<=ns.length:=List.Nodup.length_le_of_subset nd λx hx=>(hm x).mp hx;have:=fw.1;omega
    ·have hl1:H1 l=none:=(bV ha).free hl;have ems:=GX hm nd pm so;subst ems;exact q1 _ Hs1 _ (.only sm ((bV ha).trans (bV hl))) ⟨l,_,rfl,hl1,sm.free hl1,aG,_,rfl,RepL.ints _⟩
  |_=>cases e1
end
theorem vL{Γ:Ct}{H:Hp}{f:Str}:∀{ns:[16]}{ds:[20]}{xs:[38]}{d:D},(37,H,xs)->tw f ns ds=(1,d)->∃v,(ns.zip xs).lookup f=(1,v)/\(33,H,d,v)
 |[],ds,xs,d,_,e=>by cases ds <;> cases e
 |n::ns,[],xs,d,_,e=>by cases e
 |n::ns,d0::ds,xs,d,r,e=>by
  obtain⟨x,r',rfl,q,t⟩:=bp.mp r;unfold tw at e;rw[zip_cons_cons,lookup_cons];cases h:(f == n) with
  |true=>rw[h] at e;rw[(25,rfl)] at e;cases e;exact(19,x,q)
  |false=>rw[h] at e;rw[(29,[27])] at e;exact vL t e
theorem dt{m:Str}:∀{ns:[16]}{xs:[38]},ns.contains m=false->(ns.zip xs).lookup m=none
 |[],xs,_=>by cases xs <;> rfl
 |n::ns,[],_=>rfl
 |n::ns,x::xs,h=>by
  rw[List.contains_cons,Bool.or_eq_false_iff] at h;rw[zip_cons_cons,lookup_cons,h.1];exact dt h.2
section
variable{X:Cx}{Γ:Ct}{W:XW}{e o:Expr}{es:List Expr}{g go:ME}{gs:List ME}{f m x:Str}{p pos apos:Pos}
theorem kK{cs:List String}(hK:X.K=Γ.K)(hC:∀c∈cs,fB Γ.K (Γ.cls c)/\aY Γ.K (Γ.cls c) f)(he:(25,e,g))(hb:attributeBase e f X.env (14,e)=(14,e):=by rfl):(25,.Attribute e f pos,kN (qQ cs f) g):=
 (78,Ko he hb) λ_ _ σ H Q _ ⟨B0,B1,Hs,ρ,r,re,e,q⟩=>by
  refine(cp (k:=qQ cs f) re e q).mono λv H1 ⟨Hs1,d,g1,re1,rp,e1,q1⟩=>?_;cases d with
  |obj c ns ds=>
   unfold qQ at e1;by_cases hc:cs.contains c=true
   ·simp only[(25,hc)] at e1;cases hf:tw f ns ds with
    |none=>rw[hf] at e1;cases e1
    |some d'=>
     rw[hf] at e1;cases e1;obtain⟨a,dx,xs,rfl,ea,rl⟩:=lZ.mp rp;obtain⟨v',hl,rv⟩:=vL rl hf;obtain⟨c1,c2⟩:=hC c (by simpa using hc)
     exact⟨a,_,dx,_,v',rfl,re1.b.i _ _ ea,hK▸c1,hK▸c2,hl,q1 v' Hs1 H1 [34] (cS.of rv)⟩
   ·simp only[(29,hc)] at e1;cases e1
  |_=>cases e1
end
def cQ(P:Program)(w:World)(K:Frag)(mg:Str->[30])(base:Heap)(Γ:Ct)(k:Nat)(m:Str)(ps:[16])(F:([20])->[57])(cs:List String):Prop:=
 ∃f fd,dR P w K mg base lK k f fd ps (FD Γ W0 F)/\eJ K fd ps []/\∀c∈cs,fB K (Γ.cls c)/\D4 K (Γ.cls c) m f
def D2(X:Cx)(Γ:Ct)(m:Str)(tb:String->[39]):Prop:=
 ∀c F,tb c=(1,F)->∃k ps cs,c∈cs/\cQ X.prog X.w X.K X.mg X.base Γ k m ps F cs/\cu k X.A
def ux:String->[39]:=λ_=>none
def AF(cs:List String)(F:([20])->[57])(t:String->[39]):String->[39]:=λc=>if cs.contains c=true then(1,F) else t c
section
variable{X:Cx}{Γ:Ct}{e o:Expr}{es:List Expr}{g go:ME}{gs:List ME}{f m x:Str}{p pos apos:Pos}{tb:String->Option (List D->Option R)}
theorem dS:D2 X Γ m ux:=λ_ _ h=>nomatch h
theorem c5{k:Nat}{ps:[16]}{F:([20])->[57]}{cs:List String}(h:cQ X.prog X.w X.K X.mg X.base Γ k m ps F cs)(r:cu k X.A)(t:D2 X Γ m tb):D2 X Γ m (AF cs F tb):=λc G e=>by
 unfold AF at e;by_cases hc:cs.contains c=true
 ·rw[(25,hc)] at e;cases e;exact⟨k,ps,cs,by simpa using hc,h,r⟩
 ·rw[(29,hc)] at e;exact t c G e
theorem vO{d:D}{ρ:aC}{r:R} (h:(match d with
 |.obj c ns ds=>if ns.contains m=true then none else(match tb c with
  |some F=>cA gs ρ λvs=>F ((27,ns,ds)::vs)
  |none=>none)
 |_=>none)=(1,r)):∃c ns ds F,d=(27,ns,ds)/\ns.contains m=false/\tb c=(1,F)/\cA gs ρ (λvs=>F ((27,ns,ds)::vs))=(1,r):=by
 cases d with
 |obj c ns ds=>
  dsimp only at h;cases hn:ns.contains m with
  |true=>rw[hn,(25,rfl)] at h;cases h
  |false=>
   rw[hn,(29,[27])] at h;cases ht:tb c with
   |none=>rw[ht] at h;cases h
   |some F=>rw[ht] at h;exact⟨c,ns,ds,F,rfl,hn,ht,h⟩
 |_=>cases h
theorem fo{pl:Sem Bool}(T:D2 X Γ m tb)(he:(24,W0,o,go))(ha:sX X Γ W0 (e::es) gs)
  (hst:(4,(e::es))=(false,(14,e))::(4,es):=by rfl) (hpl:(7,pos,es).any (·.1)=false:=by rfl)
  (ht:(14,(5,(8,o,m),(e::es),pos))=(do
   let ov ←eval o X.env
   standAt apos.atName
   let (f,first) ←holding [ov] (getMethod ov m pl)
   callWith pos f first (7,pos,(e::es)) (15,pos,[],X.env)):=by rfl):
  (24,W0,(5,(8,o,m),(e::es),pos),dQ m tb go gs):=by
 intro pins s σ H Q I ⟨B0,B1,Hs,ρ,r,re,e0,q⟩;refine methodCall_KW (pl:=pl) (cZ (he pins s σ H _ I (cp re e0 q)) λu s1 ⟨x,H1,I1,rx,Hs1,d,g1,re1,rp,e1,q1⟩=>?_) ht;obtain⟨c,ns,ds,F,rfl,hn,htb,e2⟩:=vO e1;obtain⟨a,dx,xs,rfl,ea,rl⟩:=lZ.mp rp;obtain rfl:u=Value.ref a:=rx;obtain⟨k,ps,cs,hc,⟨f,fd,G,hb,hcs⟩,hr⟩:=T c F htb;obtain⟨c1,c2⟩:=hcs c hc;refine mh I1 (re1.b.i _ _ ea) c1 c2 (dt hn) ?_;refine callWith_K (first:=[(9,a)]) (h₀:=X.base) I.ok.mod.kin c2.kp (cZ (ha pos pins s1 σ H1 _ I1 (lH gs re1 e2 q1)) λus s2 ⟨vs,H2,I2,rr,Hs2,ds2,g2,re2,rps,e3,q2⟩=>(3,I2.kIn,?_)) hst hpl
 exact rJ (E:=E0) (dvs:=[]) (us:=(9,a)::us) (vs:=(9,a)::vs) G hr hb .nil oV I2 (22,rfl,rr) ⟨Hs2,(27,ns,ds)::ds2,r,re2.b.i,by rw[append_nil];exact(22,rp.mono g2.s,rps),e3,q2,re2.tb⟩
theorem Bw{pl:Sem Bool}(T:D2 X Γ m tb)(he:(24,W0,o,go))
  (ht:(14,(5,(8,o,m),[],pos))=(do
   let ov ←eval o X.env
   standAt apos.atName
   let (f,first) ←holding [ov] (getMethod ov m pl)
   callWith pos f first (7,pos,[]) (15,pos,[],X.env)):=by rfl):
  (24,W0,(5,(8,o,m),[],pos),dQ m tb go []):=by
 intro pins s σ H Q I ⟨B0,B1,Hs,ρ,r,re,e0,q⟩;refine methodCall_KW (pl:=pl) (cZ (he pins s σ H _ I (cp re e0 q)) λu s1 ⟨x,H1,I1,rx,Hs1,d,g1,re1,rp,e1,q1⟩=>?_) ht;obtain⟨c,ns,ds,F,rfl,hn,htb,e2⟩:=vO e1;obtain⟨a,dx,xs,rfl,ea,rl⟩:=lZ.mp rp;obtain rfl:u=Value.ref a:=rx;obtain⟨k,ps,cs,hc,⟨f,fd,G,hb,hcs⟩,hr⟩:=T c F htb;obtain⟨c1,c2⟩:=hcs c hc;refine mh I1 (re1.b.i _ _ ea) c1 c2 (dt hn) ?_;exact callWith_K0 (first:=[(9,a)]) I1.kIn c2.kp (rJ (E:=E0) (dvs:=[]) (us:=[(9,a)]) (vs:=[(9,a)]) G hr hb .nil oV I1 (22,rfl,.nil) ⟨Hs1,[(27,ns,ds)],r,re1.b.i,(22,rp,.nil),e2,q1,re1.tb⟩)
end
structure kF(a:Addr)(Hs H Hs' H':Hp):Prop where
 s:aM Hs Hs'
 h:∀b o,b≠a->H b=([46])->H' b=[46]
 i:aM Hs' H'
 n:∀b o,Hs' b=([46])->Hs b=[46]\/H b=none
theorem Grow.x{a:Addr}{Hs H Hs' H':Hp}(g:Grow Hs H Hs' H'):kF a Hs H Hs' H':=(10,g.s,λb o _ e=>g.h b o e,g.i,g.n)
theorem kF.trans{a:Addr}{Hs H Hs1 H1 Hs2 H2:Hp}(x:kF a Hs H Hs1 H1)(y:kF a Hs1 H1 Hs2 H2)(ha:Hs1 a=none)(hb:∃o,H1 a=[46]):kF a Hs H Hs2 H2:=
 ⟨x.s.trans y.s,λb o hb e=>y.h b o hb (x.h b o hb e),y.i,λb o e=>by
  rcases y.n b o e with z|z
  ·exact x.n b o z
  ·by_cases hba:b=a
   ·subst hba;obtain⟨o',ho'⟩:=hb;rw[ho'] at z;cases z
   ·right;cases q:H b with
    |none=>rfl
    |some u=>rw[x.h b u hba q] at z;cases z⟩
theorem kF.none{a:Addr}{Hs H Hs' H':Hp}(g:kF a Hs H Hs' H'){ho:HO}(h:Hs a=Option.none)(h':H a=(1,ho)):Hs' a=Option.none:=by
 cases q:Hs' a with
 |none=>rfl
 |some u=>
  rcases g.n a u q with z|z
  ·rw[h] at z;cases z
  ·rw[h'] at z;cases z
inductive TZ(Γ:Ct)(F:gS)(vs:List V)(H:Hp)(Q:VK)(E:XK):Prop
 |mk (a:Addr) (xs:[38]) (Hs:Hp) (o:O) (ho:HO) (ds:[20]) (o':O) (ev:vs=(9,a)::xs) (sm:aM Hs H) (hs:Hs a=none) (hh:H a=(1,ho)) (ro:si Γ Hs o ho) (rl:(37,Hs,xs)) (e:F o ds=(1,o'))
  (q:∀Hs' H' ho',kF a Hs H Hs' H'->H' a=(1,ho')->si Γ Hs' o' ho'->Q .non H') (tb:aM Γ.tb Hs)
structure cR(P:Program)(w:World)(K:Frag)(mg:Str->Option Value)(base:Heap)(Γ:Ct)(k:Nat)(c:String)(x:Str)(ps:List Str)(F:gS):Prop where
 ex:∃f fd,dR P w K mg base lK k f fd ps (TZ Γ F)/\eJ K fd ps []/\(39,K,f)=true/\Mk K (Γ.cls c) f/\findCls K (9,Γ.cls c) (54,"type") "__init__" = (1,.val (9,f))
 at_:mg x=(1,(9,Γ.cls c))
 sp:specialIn K (9,Γ.cls c) "__getattribute__" = (31,(44,"type.__getattribute__"))
 rd:readsIn K (Γ.cls c) (54,"type")=true
section
variable{X:Cx}{Γ:Ct}{e o:Expr}{es:List Expr}{g go:ME}{gs:List ME}{f m x:Str}{p pos apos:Pos}{k:Nat}{c:String}{ps:List Str}{F:gS}
theorem EZ{ds:[20]}{r:R} (h:(match F (27,[],[]) ds with
 |some o=>(1,R.ok (.own o))
 |none=>none)=(1,r)):∃o,F (27,[],[]) ds=[46]/\r=.ok (.own o):=by
 cases q:F (.obj c [] []) ds with
 |none=>rw[q] at h;cases h
 |some o=>rw[q] at h;cases h;exact(19,o,rfl)
theorem G1{Hs H:Hp}{ds:[20]}{vs:[38]}{r:R}{Q:VK}(sm:aM Hs H)(rl:(37,Hs,vs)) (e:(match F (27,[],[]) ds with
 |some o=>(1,R.ok (.own o))
 |none=>none)=(1,r)) (q:RQ Γ W0 Hs H r Q) (tb:aM Γ.tb Hs):∀x dx,H x=none->H dx=none->dx≠x->
  TZ Γ F ((9,x)::(vs++[])) (cF (cF H dx (.own x)) x (.ins (Γ.cls c) dx [])) (λv H2=>v=.non/\Q (9,x) H2) E0:=by
 intro x dx hx hd ne;obtain⟨o,eo,rfl⟩:=EZ e;have hxs:Hs x=none:=sm.free hx;have hds:Hs dx=none:=sm.free hd;refine⟨x,vs,Hs,(27,[],[]),_,ds,o,by rw[append_nil],λb u z=>?_,hxs,aG,(10,dx,[],rfl,.nil),rl,eo,λHs' H' ho' gx e' ro=>(62,?_),tb⟩
 ·rw[az (aR z hxs),az (aR z hds)];exact sm _ _ z
 ·have g:Grow Hs H Hs' H':=⟨gx.s,λb u z=>gx.h b u (aR z hx) (by rw[az (aR z hx),az (aR z hd)];exact z),gx.i,λb u z=>by
   rcases gx.n b u z with y|y
   ·exact .inl y
   ·right;by_cases hb:b=x
    ·subst hb;exact hx
    ·rw[az hb] at y;by_cases hb':b=dx
     ·subst hb';exact hd
     ·rw[az hb'] at y;exact y⟩
  exact q (9,x) Hs' H' g ⟨x,ho',rfl,hx,gx.none hxs aG,e',ro⟩
theorem kr(h:cR X.prog X.w X.K X.mg X.base Γ k c x ps F)(hr:cu (k+1) X.A)(hg:Gl X x)(ha:sX X Γ W0 (e::es) gs)(hdb:(x == ("__debug__":Str))=false:=by decide)(he:(4,(e::es))=(false,(14,e))::(4,es):=by rfl)
  (hpl:(7,pos,es).any (·.1)=false:=by rfl):(24,W0,(5,(23,p),(e::es),pos),ig c F gs):=by
 obtain⟨f,fd,G,hb,_,M,_⟩:=h.ex;exact(78,NA (E:=E0) (dvs:=[]) (ds:=[]) M G hr hg h.at_ hb .nil oV ha hdb he hpl) λ_ _ σ H Q _ ⟨B0,B1,Hs,ρ,r,re,e,q⟩=>by
  exact eB gs (λvs H1 ⟨Hs1,ds,_,re1,rp,e1,q1⟩=>G1 re1.b.i rp e1 q1 re1.tb) (lH gs re e q)
theorem Kv(h:cR X.prog X.w X.K X.mg X.base Γ k c x ps F)(hr:cu (k+1) X.A)(hg:Gl X x)(hdb:(x == ("__debug__":Str))=false:=by decide):(24,W0,(5,(23,p),[],pos),ig c F []):=by
 obtain⟨f,fd,G,hb,_,M,_⟩:=h.ex;exact(78,Km (E:=E0) (dvs:=[]) (ds:=[]) M G hr hg h.at_ hb .nil oV hdb) λ_ _ σ H Q _ ⟨B0,B1,Hs,ρ,r,re,e,q⟩=>by
  exact G1 re.b.i .nil e q re.tb
end
inductive tX(Γ:Ct)(g:MG)(D:wA)(σ:L2.St)(H:Hp):Prop
 |mk (a:Addr) (B0 B1 Hs:Hp) (ρ:aC) (o:O) (ho:HO) (o':O) (re:RE Γ B0 B1 Hs H σ ρ) (hb:B1 a=none) (no:∀(i:Nat)(u:O),ρ[i]?≠(65,u)) (h0:σ[0]?=(33,a)) (hs:Hs a=none) (hh:H a=(1,ho)) (ro:si Γ Hs o ho) (e:g ρ o=(1,o'))
  (q:∀Hs' H' ho',kF a Hs H Hs' H'->H' a=(1,ho')->si Γ Hs' o' ho'->D.nx σ H')
abbrev Uu(X:Cx)(Γ:Ct)(st:Stmt)(g:MG):Prop:=PS X st (tX Γ g)
abbrev Mt(X:Cx)(Γ:Ct)(st:List Stmt)(g:MG):Prop:=tO X st (tX Γ g)
theorem RE.growX{Γ:Ct}{B0 B1 Hs H Hs' H':Hp}{σ:L2.St}{ρ:aC}{a:Addr}(r:RE Γ B0 B1 Hs H σ ρ)(g:kF a Hs H Hs' H')(hb:B1 a=none)(no:∀(i:Nat)(u:O),ρ[i]?≠(65,u))(hs:Hs a=none):RE Γ B0 B1 Hs' H' σ ρ where
 tb:=r.tb.trans g.s
 b:=⟨r.b.s.trans g.s,λb o e=>g.h b o (aR e hb) (r.b.h b o e),g.i,λb o e=>by
  rcases g.n b o e with z|z
  ·exact r.b.n b o z
  ·exact .inr (r.b.h.free z)⟩
 sh:=λi d e=>let ⟨v,e1,q⟩:=r.sh i d e;(11,v,e1,q.mono g.s)
 own:=λi o e=>(32,e,no i o)
 apart:=r.apart
 len:=r.len
section
variable{X:Cx}{Γ:Ct}{st:Stmt}{rest:List Stmt}{g h:MG}{e o:Expr}{es:List Expr}{ge:ME}{gs:List ME}{f m x y:Str}{p px pos pos' apos cpos:Pos}{k:Nat}{c:String}{ps:List Str}{F:gS}
theorem gB:Mt X Γ [] ly:=tO.imp FP λD σ H ⟨a,B0,B1,Hs,ρ,o,ho,o',re,hb,no,h0,hs,hh,ro,e,q⟩=>by
 cases e;exact q Hs H ho (Grow.x (.refl re.b.i)) hh ro
theorem ck(h1:Uu X Γ st g)(h2:Mt X Γ rest h):Mt X Γ (st::rest) (ft g h):=tO.imp (Bq h1 h2) λD σ H ⟨a,B0,B1,Hs,ρ,o,ho,o',re,hb,no,h0,hs,hh,ro,e,q⟩=>by
 unfold ft at e;cases z:g ρ o with
 |none=>rw[z] at e;cases e
 |some o1=>
  rw[z] at e;refine⟨a,B0,B1,Hs,ρ,o,ho,o1,re,hb,no,h0,hs,hh,ro,z,λHs' H' ho' gx hh' ro'=>?_⟩;exact⟨a,B0,B1,Hs',ρ,o1,ho',o',re.growX gx hb no hs,hb,no,h0,gx.none hs hh,hh',ro',e,λHs2 H2 ho2 gx2 hh2 ro2=>q Hs2 H2 ho2 (gx.trans gx2 (gx.none hs hh) (3,_,hh')) hh2 ro2⟩
theorem uV{H:Hp}{y:V}{d:D}(q:(33,H,d,y)):∀{ns:[16]}{ds:[20]}{xs:[38]},ns.length=ds.length->(37,H,xs)->∃xs',mT f y (ns.zip xs)=(putN f ns).zip xs'/\(16,H,oK f d ns ds,xs')
 |[],ds,xs,hl,r=>by
  refine(11,[y],?_,(22,q,.nil));cases xs <;> rfl
 |n::ns,[],xs,hl,r=>by cases hl
 |n::ns,d0::ds,xs,hl,r=>by
  obtain⟨x,r',rfl,qx,t⟩:=bp.mp r;unfold putN oK;rw[zip_cons_cons];by_cases hn:n=f
  ·rw[(25,hn),(25,hn)];refine(11,y::r',?_,(22,q,t));show(if n=f then _ else _)=_;rw[(25,hn)];rfl
  ·rw[(29,hn),(29,hn)];obtain⟨xs',e1,e2⟩:=uV q (Nat.succ.inj hl) t;refine(11,x::xs',?_,(22,qx,e2));show(if n=f then _ else _)=_;rw[(29,hn),e1];rfl
theorem EL{cs:List String}{ρ:aC}{o o':O}(h:jc cs f ge ρ o=(1,o')):∃s c ns ds,ge ρ=(34,s)/\o=(27,ns,ds)/\c∈cs/\ns.length=ds.length/\ns.length<900/\o'=(27,putN f ns,oK f s.val ns ds):=by
 unfold jc at h;split at h
 ·rename_i s c ns ds e1;obtain⟨⟨h1,h2,h3⟩,h4⟩:=bP h;exact⟨s,c,ns,ds,e1,rfl,by simpa using h1,h2,h3,h4.symm⟩
 ·cases h
theorem kJ{cs:List String}(hK:X.K=Γ.K)(hC:∀c∈cs,fB Γ.K (Γ.cls c)/\aY Γ.K (Γ.cls c) f)(hv:PE X [50] (ka 0))(he:(24,W0,e,ge))(hs:(28,e,(1,.Attribute [50] f pos'),pos.line)=pure false:=by rfl):Uu X Γ (.Assign [.Attribute [50] f pos'] e pos) (jc cs f ge):=
 PS.imp (Kc hv he hs) λ_ _ σ H En _ ⟨a,B0,B1,Hs,ρ,o,ho,o',re,hb,no,h0,hs0,hh,ro,e,q⟩=>by
  obtain⟨s,c,ns,ds,e1,rfl,hc,hl,h9,rfl⟩:=EL e;refine(3,B1,Hs,ρ,_,re,e1,λv Hs' H' g' rs=>?_);obtain⟨Hs2,g2,_,rp⟩:=rs.share g';obtain⟨dx,xs,rfl,rl⟩:=ro;obtain⟨c1,c2⟩:=hC c hc;obtain⟨xs',e2,r2⟩:=uV (f:=f) rp hl (rl.mono g2.s);have hs2:Hs2 a=none:=g2.none hs0 hh;refine⟨(9,a),h0,a,_,dx,_,rfl,g2.h _ _ hh,hK▸c1,hK▸c2,?_,?_⟩
  ·rw[List.length_zip];exact lt_of_le_of_lt (Nat.min_le_left _ _) (lt_trans h9 [13])
  ·refine q Hs2 _ _ (10,g2.s,λb u hb e=>?_,λb u e=>?_,g2.n) aG (10,dx,xs',by rw[e2],r2)
   ·rw[az hb];exact g2.h _ _ e
   ·rw[az (aR e hs2)];exact g2.i _ _ e
theorem pO:∀(gs:List ME){B0 B1 Hs H:Hp}{σ:L2.St}{ρ:aC}{ds:[20]},RE Γ B0 B1 Hs H σ ρ->fj gs ρ=(1,ds)->wu Γ W0 gs σ H (λvs H1=>∃Hs1,Grow Hs H Hs1 H1/\(37,Hs1,vs))
 |[],B0,B1,Hs,H,σ,ρ,ds,re,e=>by
  cases e;exact(11,Hs,.refl re.b.i,.nil)
 |g::gs,B0,B1,Hs,H,σ,ρ,ds,re,e=>by
  unfold fj at e;split at e
  ·rename_i s hs;cases z:fj gs ρ with
   |none=>rw[z] at e;cases e
   |some ds'=>
    rw[z] at e;cases e;refine(3,B1,Hs,ρ,_,re,hs,λv Hs' H' g' rs=>?_);obtain⟨Hs2,g2,_,rp⟩:=rs.share g';refine eB gs (λvs H2 ⟨Hs3,g3,rl⟩=>?_) (pO gs (re.grow g2) z);exact(11,Hs3,g2.trans g3,(22,rp.mono g3.s,rl))
  ·cases e
theorem NC{t:TA}{pl:Sem Bool}{fa:Addr}{fd:FuncData}{sp:Sp}{C:Addr}(G:dR X.prog X.w X.K X.mg X.base lK k fa fd ps sp)(hb:eJ X.K fd ps [])(hk:(39,X.K,fa)=true)(hf:findCls X.K (9,C) (54,"type") m=(1,.val (9,fa)))
  (hm:X.mg x=(1,(9,C))) (hsp:specialIn X.K (9,C) "__getattribute__" = (31,(44,"type.__getattribute__"))) (hrd:readsIn X.K C (54,"type")=true) (hr:cu k X.A) (hg:Gl X x) (ha:PA X (e::es) t)
  (hdb:(x == ("__debug__":Str))=false:=by decide) (hst:(4,(e::es))=(false,(14,e))::(4,es):=by rfl) (hpl:(7,pos,es).any (·.1)=false:=by rfl)
  (ht:(14,(5,(8,(23,p),m),(e::es),pos))=(do
   let ov ←eval (.Name x p) X.env
   standAt apos.atName
   let (f,first) ←holding [ov] (getMethod ov m pl)
   callWith pos f first (7,pos,(e::es)) (15,pos,[],X.env)):=by rfl):
  PE X (5,(8,(23,p),m),(e::es),pos) (OO sp [] E0 t):=by
 intro pins s σ H Q I h;refine methodCall_KW (pl:=pl) (ud I hg hm ?_ hdb) ht;refine PySem.W.method_cls I.kIn hsp (PySem.W.cls_value I.kIn hrd hf (by rfl) ?_)
 have I1:=I.tok (s.toks+1);refine callWith_K (first:=[]) (h₀:=X.base) I.ok.mod.kin hk (cZ (ha pos pins _ σ H _ I1 h) λus s2 ⟨vs,H2,I2,rr,q2⟩=>(3,I2.kIn,?_)) hst hpl
 exact rJ (E:=E0) (ds:=[]) (dvs:=[]) G hr hb .nil oV I2 rr q2
theorem iK{pl:Sem Bool}(h:cR X.prog X.w X.K X.mg X.base Γ k c x ps F)(hr:cu k X.A)(hg:Gl X x)(hv:PE X (.Name y px) (ka 0))(ha:sX X Γ W0 es gs)
  (hsw:(28,(5,(8,(23,p),"__init__"),(.Name y px::es),cpos),none,pos.line)=pure false:=by rfl)
  (hdb:(x == ("__debug__":Str))=false:=by decide) (hst:(4,(.Name y px::es))=(false,(14,.Name y px))::(4,es):=by rfl) (hpl:(7,cpos,es).any (·.1)=false:=by rfl)
  (ht:(14,(5,(8,(23,p),"__init__"),(.Name y px::es),cpos))=(do
   let ov ←eval (.Name x p) X.env
   standAt apos.atName
   let (f,first) ←holding [ov] (getMethod ov "__init__" pl)
   callWith cpos f first (7,cpos,(.Name y px::es)) (15,cpos,[],X.env)):=by rfl):
  Uu X Γ (.Expr (5,(8,(23,p),"__init__"),(.Name y px::es),cpos) pos) (jd F gs):=by
 obtain⟨fa,fd,G,hb,hk,M,hf⟩:=h.ex;exact PS.imp (u7 (NC (pl:=pl) G hb hk hf h.at_ h.sp h.rd hr hg (bX hv ha hst) hdb hst hpl ht) hsw) λ_ _ σ H En _ ⟨a,B0,B1,Hs,ρ,o,ho,o',re,hb,no,h0,hs0,hh,ro,e,q⟩=>by
  unfold jd at e;cases z:fj gs ρ with
  |none=>rw[z] at e;cases e
  |some ds=>
   rw[z] at e;refine(11,(9,a),h0,eB gs (λvs H1 ⟨Hs1,g1,rl⟩=>?_) (pO gs re z));refine⟨a,vs,Hs1,o,ho,ds,o',by rw[append_nil],g1.i,g1.none hs0 hh,g1.h _ _ hh,ro.mono g1.s,rl,e,λHs' H' ho' gx hh' ro'=>?_,re.tb.trans g1.s⟩
   exact q Hs' H' ho' (kF.trans (Grow.x g1) gx (g1.none hs0 hh) (3,_,g1.h _ _ hh)) hh' ro'
end
theorem Hn{Γ:Ct}{Hs H:Hp}(sm:aM Hs H){N:[16]}{ds:[20]}{vs:[38]}{v0:V}(hN:0<N.length)(rl:(37,Hs,vs))(tb:aM Γ.tb Hs):RE Γ Hs Hs Hs H (L2.start N (v0::vs)) (none::cG (N.length - 1) ds):=by
 have q:=mR (Γ:=Γ) sm (N:=N.tail) rl tb;have e1:L2.start N (v0::vs)=(1,v0)::L2.start N.tail vs:=by
  unfold L2.start;rw[map_cons,length_cons,List.length_tail,List.cons_append];congr 3;omega
 have e2:N.tail.length=N.length - 1:=List.length_tail;rw[e2] at q;rw[e1];refine⟨(10,.refl _,sm,sm,λ_ _ z=>.inl z),λi d e=>?_,λi o e=>?_,λi j o u a ij e f=>?_,by rw[length_cons,length_cons,q.len],tb⟩
 ·cases i with
  |zero=>cases e
  |succ i=>exact q.sh i d e
 ·cases i with
  |zero=>cases e
  |succ i=>
   obtain⟨a,ho,f1,f2,f3,f4,f5⟩:=q.own i o e;exact⟨a,ho,f1,sm.free f2,f3,f4,f5⟩
 ·cases i with
  |zero=>cases e
  |succ i=>
   cases j with
   |zero=>cases f
   |succ j=>exact q.apart i j o u a (λz=>ij (by rw[z])) e f
theorem GW(n:Nat)(ds:[20])(i:Nat)(u:O):(none::cG n ds)[i]?≠(65,u):=by
 cases i with
 |zero=>intro e;cases e
 |succ i=>
  intro e;have e:(cG n ds)[i]?=(65,u):=e;unfold cG at e;by_cases hi:i<ds.length
  ·rw[(59,by simpa using hi),getElem?_map,(7,hi)] at e
   cases e
  ·rw[(64,by simpa using hi),getElem?_replicate] at e
   split at e <;> cases e
theorem Uj{P:Program}{w:World}{K:Frag}{mg:Str->[30]}{base:Heap}{Γ:Ct}{x qual:Str}{st:Stmt}{f:Addr}{fd:FuncData}{N ps:[16]}{k:Nat}{g:MG}(F:D8 K x qual st f fd)(S:(23,N,ps,st))(hN:0<N.length)
  (body:∀(cdv:Value)(A:Around)(outer:List PySem.Env)(s:Shared)(H:Hp)(E:XK),cu k (2,qual,[60],[15],f,cdv)->Mt (mr lK P w K mg base N qual [60] f cdv A outer s H E).nox Γ (aS st) g):
  dR P w K mg base lK (k+1) f fd ps (TZ Γ (AG ps.length N.length g)):=by
 refine F.ok S (λvs H Q E ⟨a,xs,Hs,o,ho,ds,o',ev,sm,hs,hh,ro,rl,e,q,tb⟩=>?_) (λcdv A outer s H vs Q E hr ⟨a,xs,Hs,o,ho,ds,o',ev,sm,hs,hh,ro,rl,e,q,tb⟩=>?_)
 ·subst ev;unfold AG at e;obtain⟨h1,_⟩:ds.length+1=ps.length/\True:=by
   by_cases z:ds.length+1=ps.length
   ·exact(3,z,trivial)
   ·rw[(29,z)] at e;cases e
  rw[length_cons,←rl.length,h1]
 ·subst ev;unfold AG at e;by_cases z:ds.length+1=ps.length
  ·rw[(25,z)] at e;refine⟨tX Γ g,body cdv A outer s H E hr,a,Hs,Hs,Hs,_,o,ho,o',Hn sm hN rl tb,hs,GW _ _,?_,hs,hh,ro,e,q⟩;rfl
  ·rw[(29,z)] at e;cases e
section
variable{X:Cx}{Γ:Ct}{W:XW}{i:Nat}{x:Str}{e ek:Expr}{ge gk:ME}{px tpos pos:Pos}
theorem SG{n j:Nat}{k:Int}(h:Mx n k=(1,j)):QG n k=(1,j):=h
theorem Br(hv:PE X [50] (ka i))(hk:(25,ek,gk))(he:(25,e,ge))
  (ha:∀v,assign (.Subscript [50] ek tpos) X.env v=(do
   let ov ←holding [v] (eval (.Name x px) X.env);let iv ←holding [v,ov] (eval ek X.env)
   standAt tpos
   holding [v,ov,iv] (setItem ov iv v)
   release [v,ov,iv] []):=by intro _;rfl)
  (hs:swapsWithSole [.Subscript [50] ek tpos] e pos.line X.env=pure false:=by rfl) (hw:swappedStores [.Subscript [50] ek tpos] e X.env=pure none:=by rfl)
  (h1:(71,[.Subscript [50] ek tpos]).map (·.2)=[assign (.Subscript [50] ek tpos) X.env]:=by rfl):sW X Γ W (.Assign [.Subscript [50] ek tpos] e pos) (qu i gk ge):=
 PS.imp (PV he (Q3 hv hk JS ha) hs hw h1) λpins s σ H En I ⟨B0,B1,Hs,ρ,o,re,eo,q⟩=>by
  refine(zd re eo q).mono λy H1 ⟨Hs1,s,g1,rs,e5⟩=>?_;obtain⟨Hs2,g2,_,rp⟩:=rs.share g1;obtain⟨ds,hd,e6⟩:=ow e5;have re2:=re.grow g2;obtain⟨a,ho,f1,f2,f3,f4,xs,rfl,rl⟩:=re2.own i _ hd;refine(11,(9,a),f1,(zd re2 e6 (q.from g2.s)).mono λz H3 ⟨Hs3,sz,g3,rz,e7⟩=>?_);obtain⟨Hs4,g4,_,rzp⟩:=rz.share g3;cases hz:sz.val with
  |int j=>
   rw[hz] at e7 rzp;dsimp only at e7;cases hx:Mx ds.length j with
   |none=>rw[hx] at e7;cases e7
   |some n=>
    rw[hx] at e7;cases e7;refine⟨a,xs,j,n,rfl,ak.mp rzp,g4.h _ _ f4,by rw[←rl.length];exact SG hx,?_⟩
    exact q σ Hs4 _ (g2.s.trans g4.s) ((re2.grow g4).write hd f1 (19,_,(rl.mono g4.s).set (rp.mono g4.s) n))
  |_=>rw[hz] at e7;cases e7
theorem Qd{a b:Expr}{ga gb:ME}{pos:Pos}(hK:X.K=Γ.K)(ha:PL X Γ W a ga)(hb:PL X Γ W b gb)(hs:AA b:=by exact λ_ _=>rfl):(25,.Subscript a b pos,aL (f2 aT) [ga,gb]):=
 (78,OU (ixd (W:=W) hK) ha hb hs) λ_ _ σ H Q _ t=>by
  refine tL.mono (uH t) λx H1 t1=>tL.mono t1 λy H2 t2=>?_;obtain⟨Hs,ds,r,sm,rl,e,q,tb⟩:=t2;obtain⟨d,d',rfl,e'⟩:=Gi e;obtain⟨x1,r1,e1,q1,t1⟩:=bp.mp rl;obtain⟨y1,e2,q2⟩:=sy t1;subst e2;cases e1;exact⟨Hs,d,d',r,sm,q1,q2,e',q⟩
end
structure cW(K:Frag)(cls:String->Addr)(m qual:Str)(st:Stmt)(ps:List Str)(cs:List String):Prop where
 ex:∃f fd,D8 K m qual st f fd/\eJ K fd ps []/\∀c∈cs,fB K [37]/\D4 K [37] m f
structure eD(K:Frag)(mg:Str->Option Value)(cls:String->Addr)(c:String)(x qual:Str)(st:Stmt)(ps:List Str):Prop where
 ex:∃f fd,D8 K "__init__" qual st f fd/\eJ K fd ps []/\Mk K [37] f/\findCls K (9,[37]) (54,"type") "__init__" = (1,.val (9,f))
 at_:mg x=(1,(9,[37]))
 sp:specialIn K (9,[37]) "__getattribute__" = (31,(44,"type.__getattribute__"))
 rd:readsIn K [37] (54,"type")=true
section
variable{P:Program}{w:World}{K:Frag}{mg:Str->Option Value}{base:Heap}{Γ:Ct}
theorem dZ{x qual:Str}{st:Stmt}{N ps:[16]}{k:Nat}{g:MC}{cs:List String}(L:cW K Γ.cls x qual st ps cs)(S:(23,N,ps,st))
  (body:∀(f:Addr)(cdv:Value)(A:Around)(outer:List PySem.Env)(s:Shared)(H:Hp)(E:XK),cu k (2,qual,[60],[15],f,cdv)->(8,Γ,W0,aS st,g)):
  cQ P w K mg base Γ (k+1) x ps (iZ ps.length N.length g) cs:=by
 obtain⟨f,fd,F,hb,hc⟩:=L.ex;exact(4,f,fd,Oj F S (body f),hb,hc)
theorem du{x qual:Str}{c:String}{st:Stmt}{N ps:[16]}{k:Nat}{g:MG}(L:eD K mg Γ.cls c x qual st ps)(S:(23,N,ps,st))(hN:0<N.length)
  (body:∀(f:Addr)(cdv:Value)(A:Around)(outer:List PySem.Env)(s:Shared)(H:Hp)(E:XK),cu k (2,qual,[60],[15],f,cdv)->Mt (mr lK P w K mg base N qual [60] f cdv A outer s H E).nox Γ (aS st) g):
  cR P w K mg base Γ (k+1) c x ps (AG ps.length N.length g):=by
 obtain⟨f,fd,F,hb,hm,hf⟩:=L.ex;exact(10,⟨f,fd,Uj F S hN (body f),hb,F.kp,hm,hf⟩,L.at_,L.sp,L.rd)
theorem Lf{cls:String->Addr}{x qual:Str}{st:Stmt}{ps:[16]}{f:Addr}{oc:Value}{od an:(8,Addr)}{osl:Array [30]}{kV doc pm cdv ct:Value}{cs:List String}
  (l:K.lookup f=(1,(10,oc,od,.func (1,x,qual,bT st,aS st,[60],.none,kV,pm,an,cdv,ct),osl))) (c:codeIn K cdv qual=true) (k:(39,K,f)=true) (i:isFn K (9,f)=true)
  (hb:∀(kV doc pm:Value)(an:(8,Addr))(cdv ct:Value)(us:[21]),us.length=ps.length->bindArgs (1,x,qual,bT st,aS st,[60],.none,kV,pm,an,cdv,ct) (3,us,[])=pure (ps.zip us))
  (hc:∀c∈cs,fB K [37]/\(7,K,[37],x)=(33,f)):cW K cls x qual st ps cs:=
 (4,f,_,nA l c k,(nA l c k).binds hb,λc h=>(10,(hc c h).1,(hc c h).2,i,k))
theorem Lg{h:Heap}(X:K.In h)(G:h.Ns mainGlobals mg){cls:String->Addr}{cn:String}{C:Addr}(ec:cls cn=C){x qual:Str}{st:Stmt}{ps:[16]}{f:Addr}{oc:Value}{od an:(8,Addr)}{osl:Array [30]}{kV doc pm cdv ct:Value}
  (a:(5,K,x)=(33,C)) (fi:(7,K,C,"__init__") = (33,f))
  (l:K.lookup f=(1,(10,oc,od,.func (1,"__init__",qual,bT st,aS st,[60],.none,kV,pm,an,cdv,ct),osl))) (c:codeIn K cdv qual=true) (k:(39,K,f)=true) (i:isFn K (9,f)=true)
  (mk:makesIn K C=true) (kc:(39,K,C)=true) (fc:findCls K (9,C) (54,"type") "__init__" = (1,.val (9,f)))
  (sp:specialIn K (9,C) "__getattribute__" = (31,(44,"type.__getattribute__"))) (rd:readsIn K C (54,"type")=true)
  (hb:∀(kV doc pm:Value)(an:(8,Addr))(cdv ct:Value)(us:[21]),us.length=ps.length->bindArgs (1,"__init__",qual,bT st,aS st,[60],.none,kV,pm,an,cdv,ct) (3,us,[])=pure (ps.zip us)):eD K mg cls cn x qual st ps:=by
 subst ec;exact(10,⟨f,_,nA l c k,(nA l c k).binds hb,(10,mk,fi,i,kc),fc⟩,mg_of X G a,sp,rd)
end
theorem bZ{α:Type}{p:α->Prop}:∀c∈([]:List α),p c:=λ_ h=>nomatch h
theorem all_cons{α:Type}{p:α->Prop}{a:α}{l:List α}(h:p a)(t:∀c∈l,p c):∀c∈a::l,p c:=λc hc=>by
 rcases mem_cons.mp hc with rfl|h'
 ·exact h
 ·exact t c h'
def clsF:List (String×Addr)->String->Addr
 |[],_=>0
 | (c,a)::r,s=>if s=c then a else clsF r s
section
variable{X:Cx}{Γ:Ct}{W:XW}{es:List Expr}{gs:List ME}{g:ME}{pos:Pos}
theorem dg{c j}(h:(25,.Constant c j pos,g))(t:sX X Γ W es gs):sX X Γ W (.Constant c j pos::es) (g::gs):=b9 h t rfl
theorem padN{x}(h:(25,(23,pos),g))(t:sX X Γ W es gs):sX X Γ W ((23,pos)::es) (g::gs):=b9 h t rfl
theorem dq{a op b}(h:(25,.BinOp a op b pos,g))(t:sX X Γ W es gs):sX X Γ W (.BinOp a op b pos::es) (g::gs):=b9 h t rfl
theorem padS{a b}(h:(25,.Subscript a b pos,g))(t:sX X Γ W es gs):sX X Γ W (.Subscript a b pos::es) (g::gs):=b9 h t rfl
theorem j3{f as ks}(h:(25,.Call f as ks pos,g))(t:sX X Γ W es gs):sX X Γ W (.Call f as ks pos::es) (g::gs):=b9 h t rfl
theorem iO{xs c}(h:(25,.Tuple xs c pos,g))(t:sX X Γ W es gs):sX X Γ W (.Tuple xs c pos::es) (g::gs):=b9 h t rfl
end
section
variable{X:Cx}{Γ:Ct}{W:XW}
theorem fQ{i:Nat}{x:Str}{pos' pos:Pos}{e:Expr}{ge:ME}(hN:X.N.Nodup)(hi:X.N[i]?=(1,x))(he:(25,e,ge))(hx:Fk [53] x:=by first|exact Or.inl rfl|exact Or.inr rfl)(hs:(28,e,(1,(23,pos')),pos.line)=pure false:=by rfl)
  (hf:X.fn x=true\/[28]=[56]:=by first|exact[42]|exact .inr rfl|assumption):sW X Γ W (.Assign [(23,pos')] e pos) (bF i ge):=Nm hN hi hx he hs hf
theorem qA{j:Nat}{x:Str}{pos:Pos}(hN:X.N.Nodup)(hi:X.N[j]?=(1,x))(hx:Fk [53] x:=by first|exact Or.inl rfl|exact Or.inr rfl)(hf:X.fn x=true\/[28]=[56]:=by first|exact[42]|exact .inr rfl|assumption):OJ X Γ (23,pos) [j] (bc j):=KA hN hi hx hf
end
end L3
namespace L3
open PySem PySem.Spec PyProof.Rows L2 PySem.SeqAt
section
variable{X:Cx}{Γ:Ct}{W:XW}{pins:List (Addr×Obj)}{σ:L2.St}{H:Hp}{s:Shared}
theorem rY(n:Nat)(ih:∀(d1 d2:D)(b:Bool)(v:V),rb n d1 d2=(1,b)->(33,H,d1,v)->(33,H,d2,v)->b=true):∀(xs ys:[20])(vs:[38])(b:Bool),nI (rb n) xs ys=(1,b)->(16,H,xs,vs)->(16,H,ys,vs)->b=true
 |[],[],vs,b,h,_,_=>by cases h;rfl
 |[],y::ys,vs,b,h,r1,r2=>by
  obtain⟨z,r,e,_,_⟩:=bp.mp r2;rw[dC.mp r1] at e;cases e
 |x::xs,[],vs,b,h,r1,r2=>by
  obtain⟨z,r,e,_,_⟩:=bp.mp r1;rw[dC.mp r2] at e;cases e
 |x::xs,y::ys,vs,b,h,r1,r2=>by
  obtain⟨z,r,e,p1,t1⟩:=bp.mp r1;obtain⟨z',r',e',p2,t2⟩:=bp.mp r2;rw[e] at e';cases e';have h:(rb n x y).bind (λb=>(nI (rb n) xs ys).bind λc=>(1,(b && c)))=(1,b):=h;cases h1:rb n x y with
  |none=>rw[h1] at h;cases h
  |some b1=>
   rw[h1] at h;cases h2:nI (rb n) xs ys with
   |none=>rw[h2] at h;cases h
   |some b2=>
    rw[h2] at h;cases h;rw[ih x y b1 z h1 p1 p2,rY n ih xs ys r b2 h2 t1 t2];rfl
theorem vN(hK:X.K=Γ.K)(I:[48]):∀(n:Nat)(d1 d2:D)(b:Bool)(v:V),rb n d1 d2=(1,b)->(33,H,d1,v)->(33,H,d2,v)->b=true
 |0,_,_,_,_,h,_,_=>by cases h
 |n+1,d1,d2,b,v,h,r1,r2=>by
  have ih:=vN hK I n;cases d1 with
  |int i=>
   cases d2 with
   |int j=>
    cases h;have:=(ak.mp r1).symm.trans (ak.mp r2);cases this;exact beq_self_eq_true _
   |_=>cases h
  |str x=>
   cases d2 with
   |str y=>
    cases h;have:=(bI.mp r1).symm.trans (bI.mp r2);cases this;exact beq_self_eq_true _
   |_=>cases h
  |tup xs=>
   cases d2 with
   |tup ys=>
    obtain⟨a,vs,rfl,q1,l1⟩:=bx.mp r1;obtain⟨a',ws,e,q2,l2⟩:=bx.mp r2;cases e;have e:=I.seqX_inj (b:=false) (show ra X.K H false a vs by rw[hK];exact q1) (show ra X.K H false a ws by rw[hK];exact q2)
    subst e;exact rY n ih xs ys vs b h l1 l2
   |_=>cases h
  |lst xs=>
   cases d2 with
   |lst ys=>
    obtain⟨a,vs,rfl,q1,l1⟩:=bA.mp r1;obtain⟨a',ws,e,q2,l2⟩:=bA.mp r2;cases e;have e:=I.seqX_inj (b:=true) (show ra X.K H true a vs by rw[hK];exact q1) (show ra X.K H true a ws by rw[hK];exact q2)
    subst e;have h:(if xs.length=ys.length then nI (rb n) xs ys else(1,false))=(1,b):=h;rw[(25,l1.length.trans l2.length.symm)] at h;exact rY n ih xs ys vs b h l1 l2
   |_=>cases h
  |_=>cases d2 <;> cases h
theorem mn(n:Nat){A:Around}(ih:∀(d1 d2:D)(b:Bool)(x y:V)(v u:Value),rb n d1 d2=(1,b)->(33,H,d1,x)->(33,H,d2,y)->RelV x v->RelV y u->EqAt A s v u b){xs ys:[20]}{vs ws:[38]}{its its2:[21]}{b:Bool}(h:nI (rb n) xs ys=(1,b))(l1:(16,H,xs,vs))(l2:(16,H,ys,ws))(r1:Vals vs its)(r2:Vals ws its2):
  ∀j (h1:j<its.toArray.size) (h2:j<its2.toArray.size),EqAt A s its.toArray[j] its2.toArray[j] (((xs[j]?).bind λx=>(ys[j]?).bind λy=>rb n x y) == (1,true)):=by
 intro j h1 h2;have e1:=l1.length;have e2:=l2.length;have e3:=r1.length;have e4:=r2.length;rw[size_toArray] at h1 h2;have hx:xs[j]?=(1,xs[j]):=(7,[11])
 have hy:ys[j]?=(1,ys[j]):=(7,[11])
 obtain⟨c,hc⟩:=Gj _ xs ys b h j _ _ hx hy;obtain⟨x,ex,rx⟩:=l1.get hx;obtain⟨y,ey,ry⟩:=l2.get hy;obtain⟨v,ev,rv⟩:=r1.get ex;obtain⟨u,eu,ru⟩:=r2.get ey;have ev':its[j]=v:=by rw[(7,h1)] at ev;exact(50,ev)
 have eu':its2[j]=u:=by rw[(7,h2)] at eu;exact(50,eu)
 rw[hx,hy];show EqAt A s its[j] its2[j] (rb n xs[j] ys[j] == (1,true));rw[hc,ev',eu',show((1,c) == (1,true))=c by cases c <;> rfl]
 exact ih _ _ c x y v u hc rx ry rv ru
theorem CI(hK:X.K=Γ.K)(I:[48]):∀(n:Nat)(A:Around),A.units+n<cLine->∀(d1 d2:D)(b:Bool)(x y:V)(v u:Value),rb n d1 d2=(1,b)->(33,H,d1,x)->(33,H,d2,y)->RelV x v->RelV y u->EqAt A s v u b
 |0,_,_,_,_,_,_,_,_,_,h,_,_,_,_=>by cases h
 |n+1,A,hu,d1,d2,b,x,y,v,u,h,r1,r2,rx,ry=>by
  have ih:=CI hK I n A.in1 (by show A.units+1+n<cLine;omega)
  cases d1 with
  |int i=>
   cases d2 with
   |int j=>
    cases h;rw[ak.mp r1] at rx;rw[ak.mp r2] at ry;obtain⟨t,rfl⟩:=rx;obtain⟨t',rfl⟩:=ry;exact EqAt.int_int i t j t'
   |_=>cases h
  |str z=>
   cases d2 with
   |str z'=>
    cases h;rw[bI.mp r1] at rx;rw[bI.mp r2] at ry;obtain⟨t,rfl⟩:=rx;obtain⟨t',rfl⟩:=ry;exact EqAt.str_str z t z' t'
   |_=>cases h
  |tup xs=>
   cases d2 with
   |tup ys=>
    obtain⟨a,vs,rfl,q1,l1⟩:=bx.mp r1;obtain⟨a',ws,rfl,q2,l2⟩:=bx.mp r2;cases rx;cases ry;by_cases c:a=a'
    ·subst c;rw[vN hK I (n+1) (22,xs) (22,ys) b (9,a) h r1 r2];exact EqAt.same _
    ·obtain⟨its,v1,p1,_⟩:=I.tuple (by rw[hK];exact q1)
     obtain⟨its2,v2,p2,_⟩:=I.tuple (by rw[hK];exact q2)
     have e:=RcAt.tuples p1 p2 (A:=A) [11] (mn n ih h l1 l2 v1 v2)
     rw[size_toArray,size_toArray,←v1.length,←v2.length,←l1.length,←l2.length,←nH _ xs ys b h] at e;exact EqAt.of_refs c e
   |_=>cases h
  |lst xs=>
   cases d2 with
   |lst ys=>
    obtain⟨a,vs,rfl,q1,l1⟩:=bA.mp r1;obtain⟨a',ws,rfl,q2,l2⟩:=bA.mp r2;cases rx;cases ry;by_cases c:a=a'
    ·subst c;rw[vN hK I (n+1) (13,xs) (13,ys) b (9,a) h r1 r2];exact EqAt.same _
    ·obtain⟨its,v1,p1,_⟩:=I.list (by rw[hK];exact q1)
     obtain⟨its2,v2,p2,_⟩:=I.list (by rw[hK];exact q2)
     have h:(if xs.length=ys.length then nI (rb n) xs ys else(1,false))=(1,b):=h;have s1:its.toArray.size=xs.length:=by rw[size_toArray,←v1.length,←l1.length]
     have s2:its2.toArray.size=ys.length:=by rw[size_toArray,←v2.length,←l2.length]
     by_cases hl:xs.length=ys.length
     ·rw[(25,hl)] at h;have e:=RcAt.lists p1.isList p2.isList (A:=A) (by rw[s1,s2,hl]) [11] (mn n ih h l1 l2 v1 v2)
      have ea:=nH _ xs ys b h;rw[hl,Nat.min_self,beq_self_eq_true,Bool.and_true] at ea;rw[s1,hl,←ea] at e;exact EqAt.of_refs c e
     ·rw[(29,hl)] at h;cases h;exact EqAt.of_refs c (RcAt.lists_lengths p1.isList p2.isList (by rw[s1,s2];simpa using hl) [11])
   |_=>cases h
  |_=>cases d2 <;> cases h
end
section
variable{X:Cx}{Γ:Ct}{W:XW}{pins:List (Addr×Obj)}{σ:L2.St}{H:Hp}{s:Shared}
theorem JY(hK:X.K=Γ.K)(I:[48])(n:Nat)(A:Around)(hu:A.units+n<cLine)(d1 d2:D)(b:Bool)(x y:V)(v u:Value)(h:rb n d1 d2=(1,b))(r1:(33,H,d1,x))(r2:(33,H,d2,y))(rx:RelV x v)(ry:RelV y u):RcAt A s v u b:=by
 cases n with
 |zero=>cases h
 |succ n=>
  have ih:=CI hK I n A.in1 (by show A.units+1+n<cLine;omega)
  cases d1 with
  |int i=>
   cases d2 with
   |int j=>
    cases h;rw[ak.mp r1] at rx;rw[ak.mp r2] at ry;obtain⟨t,rfl⟩:=rx;obtain⟨t',rfl⟩:=ry;exact RcAt.int_int i t j t'
   |_=>cases h
  |str z=>
   cases d2 with
   |str z'=>
    cases h;rw[bI.mp r1] at rx;rw[bI.mp r2] at ry;obtain⟨t,rfl⟩:=rx;obtain⟨t',rfl⟩:=ry;exact RcAt.str_str z t z' t'
   |_=>cases h
  |tup xs=>
   cases d2 with
   |tup ys=>
    obtain⟨a,vs,rfl,q1,l1⟩:=bx.mp r1;obtain⟨a',ws,rfl,q2,l2⟩:=bx.mp r2;cases rx;cases ry;obtain⟨its,v1,p1,_⟩:=I.tuple (by rw[hK];exact q1)
    obtain⟨its2,v2,p2,_⟩:=I.tuple (by rw[hK];exact q2)
    have e:=RcAt.tuples p1 p2 (A:=A) [11] (mn n ih h l1 l2 v1 v2)
    rw[size_toArray,size_toArray,←v1.length,←v2.length,←l1.length,←l2.length,←nH _ xs ys b h] at e;exact e
   |_=>cases h
  |lst xs=>
   cases d2 with
   |lst ys=>
    obtain⟨a,vs,rfl,q1,l1⟩:=bA.mp r1;obtain⟨a',ws,rfl,q2,l2⟩:=bA.mp r2;cases rx;cases ry;obtain⟨its,v1,p1,_⟩:=I.list (by rw[hK];exact q1)
    obtain⟨its2,v2,p2,_⟩:=I.list (by rw[hK];exact q2)
    have h:(if xs.length=ys.length then nI (rb n) xs ys else(1,false))=(1,b):=h;have s1:its.toArray.size=xs.length:=by rw[size_toArray,←v1.length,←l1.length]
    have s2:its2.toArray.size=ys.length:=by rw[size_toArray,←v2.length,←l2.length]
    by_cases hl:xs.length=ys.length
    ·rw[(25,hl)] at h;have e:=RcAt.lists p1.isList p2.isList (A:=A) (by rw[s1,s2,hl]) [11] (mn n ih h l1 l2 v1 v2)
     have ea:=nH _ xs ys b h;rw[hl,Nat.min_self,beq_self_eq_true,Bool.and_true] at ea;rw[s1,hl,←ea] at e;exact e
    ·rw[(29,hl)] at h;cases h;exact RcAt.lists_lengths p1.isList p2.isList (by rw[s1,s2];simpa using hl) [11]
   |_=>cases h
  |non=>cases d2 <;> cases h
  |bl _=>cases d2 <;> cases h
  |fn _ _=>cases d2 <;> cases h
  |obj _ _ _=>cases d2 <;> cases h
end
section
variable{X:Cx}{Γ:Ct}{W:XW}
theorem QN{A:Around}{k n:Nat}(hr:cu k A)(hn:n<=9:=by decide):A.units+n<cLine:=by
 have:=hr.un;omega
theorem NK{n:Nat}(hK:X.K=Γ.K)(hu:X.A.units+n<cLine):(19,X,.Eq,rD Γ W (Ow n)):=λpins s σ H x y v u Q I rx ry ⟨Hs,d1,d2,r,sm,r1,r2,e,q⟩=>by
 have e:(rb n d1 d2).bind (λb=>okB b)=(1,r):=e;cases h:rb n d1 d2 with
 |none=>rw[h] at e;cases e
 |some b=>
  rw[h] at e;cases e;exact JY hK I n X.A hu d1 d2 b x y v u h (r1.mono sm) (r2.mono sm) rx ry X.prog X.w X.xe _ (4,.bl b,H,I,rfl,gG sm q (aI.mpr rfl))
variable{i:Nat}{x:Str}{px apos cpos pos:Pos}
theorem K6(hv:PE X [50] (ka i)):sW X Γ W (.Return (1,[50]) pos) (Bh i):=
 PS.imp (uX hv) λpins s σ H En I ⟨B0,B1,Hs,ρ,o,re,eo,q⟩=>by
  unfold Bh at eo;split at eo
  ·rename_i s' hs;obtain⟨hn,eo⟩:=bP (c:=s'.nd=true) eo;cases eo;cases s' with
   |sh d=>
    obtain⟨v,e1,r⟩:=re.sh i d hs;exact(11,v,e1,q v Hs H (.refl _) re.b r)
   |own u=>
    obtain⟨a,ho,e1,e2,e3,e4,r⟩:=re.own i u hs;have r:=r.o (λkvs z=>by subst z;cases hn) (λb u' z=>by subst z;cases hn) (λkvs z=>by subst z;cases hn) λkvs z=>by subst z;cases hn
    exact(11,(9,a),e1,q (9,a) Hs H (.refl _) re.b ⟨a,ho,rfl,e2,e3,e4,r⟩)
   |two _ _ _=>cases hn
  ·cases eo
end
end L3
namespace L3
open PySem PySem.Spec PyProof.Rows L2 PySem.W
def Ro(L:gT)(H:Hp)(a:Addr)(xs:[38]):Prop:=
 ∃(cs:[40])(pm:Value)(c:Addr)(ctv:Value),H a=(1,.frz (L.obj (L.fv.zip cs) pm c ctv) (.fnc c L.qual))/\eQ H cs xs/\cs.Nodup/\cs.length=L.fv.length
theorem Ro.mono{L:gT}{H H':Hp}{a:Addr}{xs:[38]}(s:aM H H')(h:Ro L H a xs):Ro L H' a xs:=by
 obtain⟨cs,pm,c,ctv,e,r,q⟩:=h;exact⟨cs,pm,c,ctv,s _ _ e,r.mono s,q⟩
def RC(K:Frag)(cls:String->Addr)(lams:Nat->(8,gT))(P:Addr)(good:Pos->(8,Str)):Ct:=
 ⟨K,cls,λk H a xs=>(k=NJ/\xs=[])\/∃L,lams k=(1,L)/\Ro L H a xs,λs h=>h.imp id λ⟨L,e,h⟩=>(11,L,e,h.mono s),λb=>if b=P then(1,.tab good) else none,λ_ _=>.inl (62,rfl)⟩
mutual
theorem Rep.to{Γ:Ct}{H H':Hp}(k:∀b u,H b=(1,u)->(∀o c,u≠(36,o,c))->H' b=(1,u)):∀{d:D}{v:V},pF d=true->(33,H,d,v)->(33,H',d,v)
 |.non,_,_,r=>by unfold Rep at r ⊢;exact r
 |.bl _,_,_,r=>by unfold Rep at r ⊢;exact r
 |.int _,_,_,r=>by unfold Rep at r ⊢;exact r
 |.str _,_,_,r=>by unfold Rep at r ⊢;exact r
 |.tup ds,_,n,r=>by
  unfold Rep at r ⊢;obtain⟨a,xs,e1,q,r⟩:=r;refine(4,a,xs,e1,?_,RepL.to k (by unfold pF at n;exact n) r)
  rcases q with(q|⟨o,q⟩)|q
  ·exact .inl (.inl (k _ _ q λ_ _ z=>nomatch z))
  ·exact .inl (.inr (3,o,k _ _ q λ_ _ z=>by cases z))
  ·exact .inr q
 |.lst ds,_,n,r=>by
  unfold Rep at r ⊢;obtain⟨a,xs,e1,q,r⟩:=r;refine(4,a,xs,e1,?_,RepL.to k (by unfold pF at n;exact n) r)
  rcases q with(q|⟨o,q⟩)|q
  ·exact .inl (.inl (k _ _ q λ_ _ z=>nomatch z))
  ·exact .inl (.inr (3,o,k _ _ q λ_ _ z=>by cases z))
  ·exact .inr q
 |.obj c ns ds,_,n,r=>by
  unfold Rep at r ⊢;obtain⟨a,dx,xs,e1,q,r⟩:=r;exact⟨a,dx,xs,e1,k _ _ q (λ_ _ z=>nomatch z),RepL.to k (by unfold pF at n;exact n) r⟩
 |.fn _ _,_,n,_=>by unfold pF at n;cases n
theorem RepL.to{Γ:Ct}{H H':Hp}(k:∀b u,H b=(1,u)->(∀o c,u≠(36,o,c))->H' b=(1,u)):∀{ds:[20]}{xs:[38]},iV ds=true->(37,H,xs)->(37,H',xs)
 |[],_,_,r=>by unfold RepL at r ⊢;exact r
 |d::ds,_,n,r=>by
  unfold RepL at r ⊢;unfold iV at n;rw[and_eq_true] at n;obtain⟨x,r',e1,q,r2⟩:=r;exact(4,x,r',e1,Rep.to k n.1 q,RepL.to k n.2 r2)
end
structure pd(P:Program)(w:World)(K:Frag)(mg:Str->Option Value)(base:Heap)(Γ:Ct)(j k:Nat)(F:List D->Option R):Prop where
 fn:∀H a xs,Γ.clo k H a xs->∃fd u,H a=(1,(.frz {cls:=.type "function",data:=.func fd} u))
 run:∀(A:Around)(outer:List PySem.Env)(s:Shared)(H Hs:Hp)(a:Addr)(xs:[38])(ds:[20])(v:V)(u:Value)(d:D)(r:S)(Q:VK),cu j A->nX P w K mg base A outer s H->aM Hs H->aM Γ.tb Hs->Γ.clo k Hs a xs->(37,Hs,xs)->
  RelV v u->(33,Hs,d,v)->pF d=true->iV ds=true->F (d::ds)=(34,r)->flat r.val=true->(∀v' H',aM H H'->(33,H',r.val,v')->Q v' H')->codeAny (model P w) A (.call (9,a) (3,[u],[])) (CR lK outer P w H s Q E0) s
theorem pd.mono{P:Program}{w:World}{K:Frag}{mg:Str->[30]}{base:Heap}{Γ:Ct}{i j k:Nat}{F:([20])->[57]}(h:pd P w K mg base Γ i k F)(l:i<=j):pd P w K mg base Γ j k F:=
 (3,h.fn,λA outer s H Hs a xs ds v u d r Q hr=>h.run A outer s H Hs a xs ds v u d r Q (hr.mono l))
theorem EB{P:Program}{w:World}{K:Frag}{mg:Str->[30]}{base:Heap}{Γ:Ct}{j k:Nat}{g:ME}{N:[16]}{L:gT}(S:k9 N L)
  (hbind:∀(pm:Value)(clos:[51])(c:Addr)(ctv u:Value),bindArgs (kla_fn "<lambda>" L.qual L.params L.body L.scope clos pm (9,c) ctv) (3,[u],[])=pure [(L.par,u)])
  (hclo:∀H a xs,Γ.clo k H a xs->Ro L H a xs) (htb:∀b o,Γ.tb b=([46])->∃good,o=.tab good)
  (body:∀(A:Around)(outer:List PySem.Env)(s:Shared)(H:Hp)(f c:Addr)(clos:[51]),cu j (A.deeper (nJ L [15] f c clos))->(11,Gz P w K mg base N L f c clos A outer s H,W0,L.body,g)):
  pd P w K mg base Γ (j+1) k (Tv N.length g):=by
 refine(3,λH a xs h=>?_,λA outer s H Hs a xs ds v u d r Q hr e0 sm tb cl rl rv rd n1 n2 e fl hQ=>?_)
 ·obtain⟨cs,pm,c,ctv,e,_⟩:=hclo H a xs h;exact(11,_,_,e)
 ·obtain⟨cs,pm,c,ctv,ha,hcs,nd,hl⟩:=hclo Hs a xs cl;have kp:∀b u,Hs b=(1,u)->(∀o c,u≠(36,o,c))->without Hs cs b=(1,u):=λb u e n=>by
   rw[jH]
   ·exact e
   ·intro hm;obtain⟨o,u',q,_⟩:=hcs.mem b hm;rw[q] at e;cases e;exact n _ _ rfl
  refine Nd (t:=tD Γ W0 g) S hbind hr e0 (sm _ _ ha) (hcs.mono sm) nd hl rv (body A outer s (without H cs) a c _ (hr.deeper _)) ⟨without Hs cs,without H cs,without Hs cs,cG N.length (d::ds),.ok r,?_,e,?_⟩
  ·refine mR (λb o q=>?_) (22,rd.to kp n1,rl.to kp n2) λb o q=>?_
   ·obtain⟨hb,q⟩:=pS q;rw[jH hb];exact sm _ _ q
   ·obtain⟨good,rfl⟩:=htb b o q;exact kp _ _ (tb _ _ q) λ_ _ z=>nomatch z
  ·intro v' Hs' H2 gr rs;refine hQ v' _ (λb o q=>?_) (uT (rs.look gr) fl);by_cases hb:b∈cs
   ·rw[nQ hb];exact q
   ·rw[uj hb];exact gr.h _ _ (by rw[jH hb];exact q)
def Ut(X:Cx)(Γ:Ct)(T:Nat->[39]):Prop:=∀k F,T k=(1,F)->∃j,cu j X.A/\pd X.prog X.w X.K X.mg X.base Γ j k F
def UX(X:Cx)(pins:[18])(R:V->L2.St->Hp->Prop)(f:Flow)(s':Shared):Prop:=match f with
 |.ret u=>∃v σ' H',(4,X,σ',H',s')/\RelV v u/\R v σ' H'
 |_=>False
def PR(X:Cx)(sts:List Stmt)(t:(V->L2.St->Hp->Prop)->L2.St->Hp->Prop):Prop:=
 ∀(pins:[18])(s:Shared)(σ:L2.St)(H:Hp)(R:V->L2.St->Hp->Prop),([48])->t R σ H->(3,X.w,X.A,execs sts X.env,UX X pins R,X.xe,s)
inductive Fm(X:Cx)(lams:Nat->Option gT)(Γ:Ct)(B0 B1:Hp)(σ':L2.St)(H':Hp):D->V->Prop
 |mk (Hs':Hp) (ρ':aC) (k:Nat) (is:[29]) (ds:[20]) (L:gT) (a:Addr) (pm:Value) (c:Addr) (ctv:Value) (cs:[40]) (hL:lams k=(1,L)) (re:RE Γ B0 B1 Hs' H' σ' ρ') (ha:Hs' a=(1,.frz (L.obj (L.fv.zip cs) pm c ctv) (.fnc c L.qual)))
   (hv:pJ ρ' is=(1,ds)) (hn:is.map (X.N[·]?)=L.fv.map some) (hc:∀(j:Nat)(y:Str),L.fv[j]?=(1,y)->∃c,cs[j]?=(1,c)/\(53,y)=(1,c)) (hl:cs.length=L.fv.length):Fm X lams Γ B0 B1 σ' H' (.fn k ds) (9,a)
inductive tR(X:Cx)(lams:Nat->Option gT)(Γ:Ct)(g:D7)(R:V->L2.St->Hp->Prop)(σ:L2.St)(H:Hp):Prop
 |mk (B0 B1 Hs:Hp) (ρ:aC) (d:D) (re:RE Γ B0 B1 Hs H σ ρ) (e:g ρ=(1,d)) (q:∀v σ' H',Fm X lams Γ B0 B1 σ' H' d v->R v σ' H')
abbrev Pe(X:Cx)(lams:Nat->(8,gT))(Γ:Ct)(sts:List Stmt)(g:D7):Prop:=PR X sts (tR X lams Γ g)
theorem RE.dems{Γ:Ct}{B0 B1 H:Hp}{σ:L2.St}:∀(is:[29]){Hs:Hp}{ρ:aC},RE Γ B0 B1 Hs H σ ρ->∃Hs',aM Hs Hs'/\RE Γ B0 B1 Hs' H σ (L3.dems is ρ)
 |[],Hs,ρ,re=>(11,Hs,.refl _,re)
 |i::is,Hs,ρ,re=>by
  obtain⟨Hs1,s1,re1⟩:=re.dem i;obtain⟨Hs2,s2,re2⟩:=RE.dems is re1;exact(11,Hs2,s1.trans s2,re2)
theorem LL{g:Str->(8,Addr)}:∀{fv:[16]},(∀y∈fv,∃c,g y=(1,c))->(fv.filterMap g).length=fv.length/\∀(j:Nat)(y:Str),fv[j]?=(1,y)->∃c,(fv.filterMap g)[j]?=(1,c)/\g y=(1,c)
 |[],_=>(62,λj y h=>by simp at h)
 |f::fv,h=>by
  obtain⟨c,hc⟩:=h f mem_cons_self;obtain⟨h1,h2⟩:=LL (fv:=fv) λy hy=>h y (30,hy);have e:(f::fv).filterMap g=c::fv.filterMap g:=by rw[filterMap_cons,hc]
  rw[e];refine(3,by rw[length_cons,length_cons,h1],λj y hy=>?_)
  cases j with
  |zero=>
   simp at hy;subst hy;exact(19,c,hc)
  |succ j=>
   obtain⟨c',q1,q2⟩:=h2 j y (by simpa using hy)
   exact(11,c',by simpa using q1,q2)
section
variable{X:Cx}{Γ:Ct}{lams:Nat->Option gT}{st:Stmt}{rest a:List Stmt}{g1:MC}{g2 ga gb:D7}{gc:ME}{c:Expr}{pos pos':Pos}
theorem FQ(h1:sW X Γ W0 st g1)(h2:Pe X lams Γ rest g2):Pe X lams Γ (st::rest) (IY g1 g2):=by
 intro pins s σ H R I ⟨B0,B1,Hs,ρ,d,re,e,q⟩;unfold IY at e;split at e
 ·rename_i ρ' h;refine wpAny_execs_cons (cZ (h1 pins s σ H {nx:=λσ' H'=>tR X lams Γ g2 R σ' H',rt:=λ_ _=>False} I (3,B1,Hs,ρ,.next ρ',re,h,λσ' Hs' H' sm re'=>(3,B1,Hs',ρ',d,re',e,q))) λf s1 z=>?_);cases f with
  |next=>
   obtain⟨σ',H',I',z⟩:=z;exact h2 pins s1 σ' H' R I' z
  |ret v=>obtain⟨_,_,_,_,_,z⟩:=z;exact z.elim
  |_=>obtain⟨_,_,_,z⟩:=z;exact z.elim
 ·cases e
theorem Kd(hc:D3 X Γ W0 c gc)(ha:Pe X lams Γ a ga)(hb:Pe X lams Γ rest gb):Pe X lams Γ (.If c a [] pos::rest) (P8 gc ga gb):=by
 intro pins s σ H R I ⟨B0,B1,Hs,ρ,d,re,e,q⟩;unfold P8 at e;split at e
 ·rename_i s0 h;split at e
  ·rename_i t et;refine wpAny_execs_cons (wpAny_If (cZ (hc pins s σ H (λb H1=>b=t/\∃Hs',Grow Hs H Hs' H1) I (3,B1,Hs,ρ,.ok s0,re,h,(11,t,et,λHs' H' g'=>(11,rfl,Hs',g')))) λb s1 ⟨H1,I1,eb,Hs',g'⟩=>?_));subst eb;cases b with
   |true=>
    refine cZ (ha pins s1 σ H1 R I1 (3,B1,Hs',ρ,d,re.grow g',e,q)) λf s2 z=>?_;cases f with
    |next=>exact z.elim
    |ret v=>exact z
    |brk=>exact z.elim
    |cont=>exact z.elim
   |false=>exact wpAny_execs_nil (hb pins s1 σ H1 R I1 (3,B1,Hs',ρ,d,re.grow g',e,q))
  ·cases e
 ·cases e
theorem zx{k:Nat}{is:[29]}{L:gT}{P cc:Addr}{good:Pos->(8,Str)}(hL:lams k=(1,L))(hn:is.map (X.N[·]?)=L.fv.map some)(hk:∀y∈L.fv,X.env.kindOf y=[67])(htb:Γ.tb P=(1,.tab good))(hgp:AC good)(hC:CodeHd X.base cc P)(hcode:X.env.code=(9,cc))(hB:D6 X.mg X.base)
  (hq:X.env.qual ++ "<lambda>" = L.qual) (hg:good pos=(1,L.qual)) (hcl:closureFor L.scope X.env=pure (L.fv.zip (L.fv.filterMap (X.env.cells.lookup ·)))) (hdef:defaultsOf L.params X.env=([],[])):
  Pe X lams Γ [.Return (1,.Lambda L.params L.body L.scope pos) pos'] (Mj k is):=by
 intro pins s σ H R I ⟨B0,B1,Hs,ρ,d,re,e,q⟩;unfold Mj at e;obtain⟨Hs1,s1,re1⟩:=re.dems is;cases hh:pJ (L3.dems is ρ) is with
 |none=>rw[hh] at e;cases e
 |some ds=>
  rw[hh] at e;cases e;obtain⟨f1,f2⟩:=LL (g:=(X.env.cells.lookup ·)) (fv:=L.fv) λy hy=>I.ok.has y (.inl (hk y hy));refine wpAny_execs_cons (wpAny_Return_some (cZ (Q9 hgp hC hcode hB hq hg hcl hdef pins s σ H (λv H'=>Fm X lams Γ B0 B1 σ H' (.fn k ds) v) I (3,re.b.i _ _ (re.tb _ _ htb),λH0 a pm c ctv sm n=>?_)) λu s2 ⟨v,H1,I1,r1,q1⟩=>⟨v,σ,H1,I1,r1,q v σ H1 q1⟩));have hH:H a=none:=sm.free n;have hS:Hs1 a=none:=re1.b.i.free hH;refine .mk (cF Hs1 a _) (L3.dems is ρ) k is ds L a pm c ctv _ hL (re1.grow (10,bV hS,sm.trans (bV n),λb o z=>?_,λb o z=>?_)) aG hh hn f2 f1
  ·by_cases hb:b=a
   ·subst hb;rw[aG] at z ⊢;exact z
   ·rw[az hb] at z ⊢;exact sm _ _ (re1.b.i _ _ z)
  ·by_cases hb:b=a
   ·subst hb;exact .inr hH
   ·rw[az hb] at z;exact .inl z
end
theorem Cs{ρ:aC}:∀{is:[29]}{ds:[20]},pJ ρ is=(1,ds)->is.length=ds.length/\∀(j i:Nat),is[j]?=(1,i)->∃d,ds[j]?=(1,d)/\ρ[i]?=(1,(6,d))
 |[],ds,h=>by cases h;exact(62,λj i h=>by simp at h)
 |i::is,ds,h=>by
  unfold pJ at h;split at h
  ·rename_i d hd;cases hh:pJ ρ is with
   |none=>rw[hh] at h;cases h
   |some es=>
    rw[hh] at h;cases h;obtain⟨h1,h2⟩:=Cs hh;refine(3,by rw[length_cons,length_cons,h1],λj i' hj=>?_)
    cases j with
    |zero=>simp at hj;subst hj;exact(19,d,hd)
    |succ j=>obtain⟨d',q1,q2⟩:=h2 j i' (by simpa using hj);exact(11,d',by simpa using q1,q2)
  ·cases h
theorem y9{α β γ:Type}{F:α->β->Prop}{G:γ->β->Prop}:∀{l:List α}{m:List γ},l.length=m.length->(∀(j:Nat)(a:α)(c:γ),l[j]?=(1,a)->m[j]?=(1,c)->∃b,F a b/\G c b)->∃xs,Paired F l xs/\Paired G m xs
 |[],[],_,_=>(11,[],.nil,.nil)
 |[],_::_,h,_=>by simp at h
 |_::_,[],h,_=>by simp at h
 |a::l,c::m,hl,h=>by
  obtain⟨b,f,g⟩:=h 0 a c rfl rfl;obtain⟨xs,p1,p2⟩:=y9 (F:=F) (G:=G) (l:=l) (m:=m) (by simpa using hl) λj a' c' h1 h2=>h (j+1) a' c' (by simpa using h1) (by simpa using h2)
  exact(11,b::xs,(22,f,p1),(22,g,p2))
theorem FK{Γ:Ct}{H:Hp}:∀{ds:[20]}{xs:[38]},Paired (λd v=>(33,H,d,v)) ds xs->(37,H,xs)
 |_,_,.nil=>.nil
 |_,_,.cons r t=>(22,r,FK t)
def fA(h:Heap)(cs:[40])(H:Hp):Hp:=λb=>if b∈cs then(h.get? b).map (λo=>HO.frz o (.own b)) else H b
theorem iC{h:Heap}{cs:[40]}{H:Hp}{b:Addr}(n:b∉cs):fA h cs H b=H b:=by unfold fA;rw[(29,n)]
theorem sQ{h:Heap}{cs:[40]}{H:Hp}{b:Addr}{o:Obj}(m:b∈cs)(e:h.get? b=[46]):fA h cs H b=(1,(36,o,b)):=by unfold fA;rw[(25,m),e];rfl
theorem BJ{α:Type}:∀{l:List α},(∀(i j:Nat)(a:α),l[i]?=(1,a)->l[j]?=(1,a)->i=j)->l.Nodup
 |[],_=>.nil
 |a::l,h=>by
  refine nodup_cons.mpr (3,λhm=>?_,BJ λi j b h1 h2=>?_)
  ·obtain⟨j,hj,e⟩:=getElem_of_mem hm;have:=h 0 (j+1) a rfl (by simpa [(7,hj)] using e)
   omega
  ·have:=h (i+1) (j+1) b (by simpa using h1) (by simpa using h2)
   omega
theorem yd{α:Type}:∀{l:List α}{i j:Nat}{a:α},l.Nodup->l[i]?=(1,a)->l[j]?=(1,a)->i=j
 |[],_,_,_,_,h,_=>by simp at h
 |b::l,0,0,_,_,_,_=>rfl
 |b::l,0,j+1,a,nd,h1,h2=>by
  simp at h1;subst h1;exact(32,(61,by simpa using h2),[58].1)
 |b::l,i+1,0,a,nd,h1,h2=>by
  simp at h2;subst h2;exact(32,(61,by simpa using h1),[58].1)
 |b::l,i+1,j+1,a,nd,h1,h2=>by
  exact congrArg (· + 1) (yd (i:=i) (j:=j) (a:=a) [58].2 (by simpa using h1) (by simpa using h2))
section
variable{P:Program}{w:World}{K:Frag}{mg:Str->Option Value}{base:Heap}{Γ:Ct}
theorem QU{x qual:Str}{st:Stmt}{f cc:Addr}{fd:FuncData}{N ps:[16]}{k:Nat}{g:D7}{lams:Nat->(8,gT)}(F:D8 K x qual st f fd)(hcd:fd.code=(9,cc))(S:(23,N,ps,st))
  (hclo:∀k L H a xs,lams k=(1,L)->Ro L H a xs->Γ.clo k H a xs) (hfv:∀k L,lams k=(1,L)->L.fv.Nodup/\∀y∈L.fv,[60].names.lookup y=[67])
  (body:∀(A:Around)(outer:List PySem.Env)(s:Shared)(H:Hp)(E:XK),cu k (2,qual,[60],[15],f,(9,cc))->Pe (mr lK P w K mg base N qual [60] f (9,cc) A outer s H E).nox lams Γ (aS st) g):
  dR P w K mg base lK (k+1) f fd ps (FD Γ W0 (P4 ps.length N.length g)):=by
 obtain⟨oc,od,kV,doc,pm,an,cdv,ct,osl,rfl,lk,hci⟩:=F.ex;obtain rfl:cdv=.ref cc:=hcd;have len:∀vs H Q E,FD Γ W0 (P4 ps.length N.length g) vs H Q E->vs.length=ps.length:=λvs H Q E ⟨Hs,ds,r,sm,rl,e,q,tb⟩=>by
  unfold P4 at e;split at e
  ·rename_i h;rw[←rl.length];exact h
  ·cases e
 refine(3,len,λA outer s H args us vs Q E hr e0 hb r hsp=>?_);have hl:=len _ _ _ _ hsp;have KX:K.In s.heap:=e0.mod.kin.keeps λb o e=>(e0.bs b o e).1;have lim:s.heap.NoLimit:=e0.mod.nolimit.keeps λb o e=>(e0.bs b o e).1;have hkind:∀y∈ps.zip us,[60].names.lookup y.1=[56]\/([60].names.lookup y.1=[67]/\((11,[60].names,[]).lookup y.1).isSome=true):=λ⟨n,v⟩ hy=>by
  rcases S.par n (of_mem_zip hy).1 with q|q
  ·exact .inl q
  ·exact .inr (3,q,cellsFrom_some _ _ _ (.inl q))
 refine codeAny_call_function hr.depth (KX _ _ lk) rfl S.co S.gen rfl (PySem.W.codeRec_of KX hci) (hb _ _ _ _ ?_);refine wpAny_newFunctionEnv_cells S.kind hkind λenv he s1 xx=>?_;subst he;refine(3,lim.keeps xx.toInCall.keep,codeAny_func ?_);have I:aN (mr lK P w K mg base N qual [60] f (9,cc) A outer s H E) [] (start N vs) H s1:=yk S hr.hd e0 hl r xx;obtain⟨Hs,ds,rr,sm,rl,e,q,tb⟩:=hsp;unfold P4 at e;split at e
 ·cases hg:g (cG N.length ds) with
  |none=>rw[hg] at e;cases e
  |some d=>
   rw[hg] at e;cases e;refine wpAny_mono (body A outer s H E (hr.deeper _) [] s1 (start N vs) H _ (I.wish _) ⟨Hs,H,Hs,cG N.length ds,d,mR sm rl tb,hg,λv σ' H' z=>z⟩) (λfl s' hs=>?_) λe s' hs=>False.elim hs;cases fl with
   |next=>exact hs.elim
   |brk=>exact hs.elim
   |cont=>exact hs.elim
   |ret u=>
    obtain⟨v,σ',H',J,rv,hE⟩:=hs;obtain⟨Hs',ρ',kk,is,ds',L,a,pm',c,ctv,cs,hL,re,ha,hv,hn,hc,hlen⟩:=hE;obtain⟨nd,hcell⟩:=hfv kk L hL;have look:∀(c':Addr),c'∈cs->∃(j:Nat)(y:Str),cs[j]?=(1,c')/\L.fv[j]?=(1,y)/\(envOfC qual [60] [15] f (9,cc)).cells.lookup y=(1,c'):=λc' hm=>by
     obtain⟨j,hj,ej⟩:=getElem_of_mem hm;have hj':j<L.fv.length:=by rw[←hlen];exact hj
     obtain⟨c2,q1,q2⟩:=hc j L.fv[j] (7,hj');have ec:cs[j]?=(1,c'):=by rw[(7,hj),ej]
     rw[ec] at q1;cases q1;exact(4,j,L.fv[j],ec,(7,hj'),q2)
    have ndc:cs.Nodup:=BJ λi j c' h1 h2=>by
     have hi:i<L.fv.length:=by rw[←hlen];exact(17,h1).1
     have hj:j<L.fv.length:=by rw[←hlen];exact(17,h2).1
     obtain⟨c2,q1,q2⟩:=hc i L.fv[i] (7,hi);obtain⟨c3,q3,q4⟩:=hc j L.fv[j] (7,hj);rw[h1] at q1;cases q1;rw[h2] at q3;cases q3;have eq:=J.ok.inj _ _ _ q2 q4;exact yd nd (7,hi) (by rw[(7,hj),eq])
    have free:∀c'∈cs,H' c'=none:=λc' hm=>by
     obtain⟨j,y,_,_,e2⟩:=look c' hm;exact J.freeC y c' e2
    have fr0:∀c'∈cs,s.heap.objs.size<=c':=λc' hm=>by
     obtain⟨j,y,_,_,e2⟩:=look c' hm;exact J.ok.cab y c' rfl e2
    have sH:aM H' (fA s'.heap cs H'):=λb o e=>by
     rw[iC]
     ·exact e
     ·intro hm;rw[free b hm] at e;cases e
    have sHs:aM Hs' (fA s'.heap cs Hs'):=λb o e=>by
     rw[iC]
     ·exact e
     ·intro hm;rw[re.b.i.free (free b hm)] at e;cases e
    have sI:aM (fA s'.heap cs Hs') (fA s'.heap cs H'):=λb o e=>by
     by_cases hm:b∈cs
     ·unfold fA at e ⊢;rw[(25,hm)] at e ⊢;exact e
     ·rw[iC hm] at e ⊢;exact re.b.i _ _ e
    obtain⟨hl1,hget⟩:=Cs hv;have hl2:is.length=L.fv.length:=by have:=congrArg List.length hn;simpa using this
    obtain⟨xs,p1,p2⟩:=y9 (F:=λd v=>(33,fA s'.heap cs Hs',d,v)) (G:=λ(c:Addr)(x:V)=>∃o u,fA s'.heap cs Hs' c=(1,(36,o,c))/\o.data=.cell (1,u)/\RelV x u) (l:=ds') (m:=cs) (by rw[←hl1,hl2,hlen]) λj d c' h1 h2=>by
     have hj:j<is.length:=by rw[hl1];exact(17,h1).1
     obtain⟨d2,q1,q2⟩:=hget j is[j] (7,hj);rw[h1] at q1;cases q1;obtain⟨v2,e2,rp⟩:=re.sh _ _ q2;have hj':j<L.fv.length:=by rw[←hl2];exact hj
     have hN:N[is[j]]?=(1,L.fv[j]):=by
      have:=congrArg (·[j]?) hn;simp only[getElem?_map,(7,hj),(7,hj'),Option.map_some,Option.some.injEq] at this;exact this
     obtain⟨c3,q3,q4⟩:=hc j L.fv[j] (7,hj');rw[h2] at q3;cases q3;have hk:[60].names.lookup L.fv[j]=[67]:=hcell _ (getElem_mem hj');obtain⟨m,_,hloc⟩:=J.loc;obtain⟨u2,r2,lk2⟩:=hloc is[j] L.fv[j] v2 hN e2 (.inr (.inl hk));rcases lk2 with⟨z,_⟩|⟨_,c4,e4,o,ho,hdat⟩
     ·have z:[60].names.lookup L.fv[j]=[56]:=z;rw[hk] at z;cases z
     ·have e4:(envOfC qual [60] [15] f (9,cc)).cells.lookup L.fv[j]=(1,c4):=e4;have q4:(envOfC qual [60] [15] f (9,cc)).cells.lookup L.fv[j]=(1,c'):=q4;rw[q4] at e4;cases e4;exact⟨v2,rp.mono sHs,o,u2,sQ (61,h2) ho,hdat,r2⟩
    have fin:=q (9,a) (fA s'.heap cs Hs') (fA s'.heap cs H') ⟨re.b.s.trans sHs,re.b.h.trans sH,sI,λb o z=>by
      by_cases hm:b∈cs
      ·exact .inr (re.b.h.free (free b hm))
      ·rw[iC hm] at z;exact re.b.n _ _ z⟩ (cS.of (rK.mpr (4,a,xs,rfl,hclo kk L _ a xs hL ⟨cs,pm',c,ctv,sHs _ _ ha,p2,ndc,hlen⟩,FK p1)))
    refine⟨(9,a),fA s'.heap cs H',J.os,J.bare,?_,λb o e=>?_,rv,fin⟩
    ·have B:=J.base;refine⟨B.keep,B.slot,λb o g n hx=>?_,B.there,λb ys e=>sH _ _ (B.tups b ys e),λb o z e=>sH _ _ (B.frzs b o z e),λb ps e=>?_⟩
     ·rw[iC λhm=>(32,(9,(48,g),fr0 b hm),lt_irrefl _)];exact B.free b o g n hx
     ·obtain⟨more,z⟩:=B.tbls b ps e;exact(3,more,sH _ _ z)
    ·by_cases hm:b∈cs
     ·obtain⟨j,y,_,_,e2⟩:=look b hm;obtain⟨u3,o3,g3,_⟩:=J.cell y b e2;rw[sQ hm g3] at e;cases e;exact(3,g3,(3,o3,g3))
     ·rw[iC hm] at e;exact(J.hok b o e).stay (λ_ _ _ z=>z) (λ_ z=>sH _ _ z) (λ_ _ z=>sH _ _ z) λ_ _ _ z=>sH _ _ z
 ·cases e
end
def Dv(K:Frag)(PT:Addr)(good:Pos->(8,Str)):Sp:=λvs H Q _=>
 ∃(a:Addr)(ns:[24]),vs=[(9,a)]/\kQ K H a (ns.map V.int)/\ns.length<=63/\H PT=(1,.tab good)/\∀H',H' PT=(1,.tab good)->Q (.bl true) H'
theorem O1{P:Program}{w:World}{K:Frag}{mg:Str->[30]}{base:Heap}{Γ:Ct}{k:Nat}{f PT:Addr}{good:Pos->(8,Str)}{fd:FuncData}{x:Str}{F:([20])->[57]}(h:dR P w K mg base lK k f fd [x] (FD Γ W0 F))(hK:Γ.K=K)(htb:Γ.tb=λb=>if b=PT then(1,.tab good) else none)
  (T:∀ns:List Int,ns.length<=63->F [[54]]=(34,.sh (.bl true))):dR P w K mg base lK k f fd [x] (Dv K PT good):=
 h.imp λvs H Q E ⟨a,ns,ev,hS,hl,hP,q⟩=>by
  subst hK;subst ev;refine⟨H,[[54]],_,.refl _,(22,bA.mpr (4,a,_,rfl,hS,RepL.ints ns),.nil),T ns hl,λv Hs' H' g rs=>?_,λb o z=>?_⟩
  ·have rs':(33,Hs',.bl true,v):=rs;rw[aI.mp rs'];exact q H' (g.h _ _ hP)
  ·rw[htb] at z;have z':(if b=PT then(1,HO.tab good) else none)=[46]:=z;split at z'
   ·rename_i e;cases z';rw[e];exact hP
   ·cases z'
theorem Ir{P:Program}{w:World}{K:Frag}{mg mb:Str->[30]}{k:Nat}{fa a cc PT:Addr}{good:Pos->(8,Str)}{fd:FuncData}{x:Str}{s₁:Shared}{vs:[21]}{ns:[24]}
  (KX:K.In s₁.heap) (hns:s₁.heap.Ns mainGlobals mg) (hb:s₁.heap.Ns builtinsNs mb) (hbb:∀x:Str,x ≠ "__name__" -> mb x=(60,x)) (hlim:s₁.heap.NoLimit) (hg:s₁.gens=#[])
  (hC:CodeHd s₁.heap cc PT) (hT:s₁.heap.get? PT=(1,(tabObj #[]))) (hB:D6 mg s₁.heap) (hK0:noTabs K=true)
  (ha:s₁.heap.get? a=some {cls:=.type "list",data:=.seq vs.toArray}) (hi:IntsAre vs ns) (hl:ns.length<=63) (hr:cu k callerA)
  (F:∀base:Heap,CodeHd base cc PT->D6 mg base->dR P w K mg base lK k fa fd [x] (Dv K PT good)) (hbind:∀(s:Shared)(u:Value),BindsTo s fd (3,[u],[]) [(x,u)]):
  (5,model P w,callerA,.call (9,fa) (3,[(9,a)],[]),s₁):=by
 have rv:=rf hi;have lenV:=hi.length;have hl':ns.length<=sizeLine:=(55,hl)
 have aP:a≠PT:=λz=>by rw[z,hT] at ha;cases ha
 have core:∀H:Hp,H PT=(1,.tab good)->(∀b,b≠PT->H b≠none->b=a/\K.lookup a=none/\∃o xs,H b=(1,.frz o (13,xs)))->kQ K H a (ns.map V.int)->mK P w H s₁.heap->
   (5,model P w,callerA,.call (9,fa) (3,[(9,a)],[]),s₁):=by
  intro H hP hA hS hok;have keep:∀{b:Addr}{o:Obj},s₁.heap.get? b=([46])->o≠tabObj #[]->(b=a->K.lookup a=none->False)->(nz s₁.heap H).get? b=[46]:=λ{b o} e n1 n2=>Cr e (by
   cases q:H b with
   |none=>rfl
   |some u=>
    by_cases hbP:b=PT
    ·subst hbP;rw[hT] at e;cases e;exact(32,rfl,n1)
    ·obtain⟨z1,z2,_⟩:=hA b hbP (by rw[q];simp)
     exact(n2 z1 z2).elim)
  have keepD:∀{b:Addr}{o:Obj},s₁.heap.get? b=([46])->o≠tabObj #[]->o.cls≠(54,"list") -> (nz s₁.heap H).get? b=[46]:=λ{b o} e n1 n2=>keep e n1 λz _=>by
   subst z;rw[ha] at e;cases e;exact n2 rfl
  have nsK:∀{b:Addr}{m:Str->[30]},s₁.heap.Ns b m->(nz s₁.heap H).Ns b m:=λ{b m} ⟨o,es,ep,e,d,r⟩=>⟨o,es,ep,keep e (λz=>by rw[z] at d;cases d) (λz _=>by
   subst z;rw[ha] at e;cases e;cases d),d,r⟩
  have hKb:K.In (nz s₁.heap H):=λb o e=>keep (KX b o e) (λz=>by
   have h2:=all_eq_true.mp hK0 (b,o) (mem_of_lookupK e);subst z;exact(36,(show false=true from h2))) λz1 z2=>by subst z1;rw[z2] at e;cases e
  have hM:Mod K mg (nz s₁.heap H):=(10,hKb,nsK hns,(11,mb,nsK hb,hbb),let ⟨mc,h1,h2⟩:=hlim;(11,mc,nsK h1,h2));have hC':CodeHd (nz s₁.heap H) cc PT:=by
   obtain⟨o,vs',file,tf,flags,tg,inF,text,tt,e1,r1,r2⟩:=hC;exact⟨o,vs',file,tf,flags,tg,inF,text,tt,keepD e1 (λz=>by rw[z] at r1;cases r1) (λz=>by rw[r1] at z;exact(32,z,[13])),r1,r2⟩
  have hB':D6 mg (nz s₁.heap H):=by
   obtain⟨bm,o,b1,b2,b3,b4,b5,b6⟩:=hB;exact⟨bm,o,b1,b2,b3,keepD b4 (λz=>by rw[z] at b5;cases b5) (λz=>by rw[b5] at z;exact(32,z,[13])),b5,b6⟩
  have e0:nX P w K mg (nz s₁.heap H) callerA [] s₁ H:=⟨rfl,hM,λb o e=>FZ e,le_of_eq (yl _ _),trivial,λb hb=>(32,(show b∈([]:[40]) from hb),[19]),hok,.of_eq hg⟩
  refine codeAny_mono ((F _ hC' hB').run callerA [] s₁ H (3,[(9,a)],[]) [(9,a)] [(9,a)] (λv H'=>v=.bl true/\H' PT=(1,.tab good)) (λ_ _ _=>False) hr e0 (hbind s₁ (9,a)) (22,rfl,.nil) ⟨a,ns,rfl,hS,hl,hP,λH' z=>(62,z)⟩) λr s' h=>?_;cases r with
  |error e=>exact False.elim h
  |ok fl=>
   cases fl with
   |next=>exact False.elim h
   |brk=>exact False.elim h
   |cont=>exact False.elim h
   |ret u=>
    obtain⟨v,H',os,bare,un,hok',r',ev,hP'⟩:=h;subst ev;obtain rfl:u=Value.bool true:=r';obtain⟨ps,eps,_⟩:=hok' PT _ hP';have old:∀b o,b≠PT->s₁.heap.get? b=([46])->s'.heap.get? b=[46]:=λb o hb e=>by
     cases q:H b with
     |none=>exact un.keep b o e q (by intro z;exact(32,(show b∈([]:[40]) from z),[19])) [19]
     |some u=>
      obtain⟨_,_,ob,xs,z⟩:=hA b hb (by rw[q];simp)
      have z2:=un.frzs b ob _ z;obtain⟨e1,_⟩:=hok b _ z;obtain⟨e2,_⟩:=hok' b _ z2;rw[e] at e1;cases e1;exact e2
    refine(10,rfl,(3,λb o e=>?_,λb o e=>?_),os,bare)
    ·by_cases hb:b=PT
     ·subst hb;rw[hT] at e;cases e;exact .inr (.inl ⟨(hC.tab hT).isCodeTable,rfl,#[],ps,rfl,by rw[Array.empty_append];exact eps⟩)
     ·exact .inl (old b o hb e)
    ·by_cases hb:b=PT
     ·subst hb;exact(3,_,eps)
     ·exact(3,o,old b o hb e)
 have okT:∀H:Hp,cV P w H s₁.heap PT (.tab good):=λH=>(10,#[],hT,True.intro,λp cv _ hc=>by cases hc)
 cases hk:K.lookup a with
 |some o=>
  have e:=KX a o hk;rw[ha] at e;cases e;refine core (λb=>if b=PT then(1,.tab good) else none) (25,rfl) (λb hb z=>(32,(29,hb),z)) (.inr ⟨_,vs.toArray,_,hk,rfl,rfl,rfl,by rw[size_toArray,lenV];exact hl',by simpa using rv⟩) λb u z=>?_
  have z':(if b=PT then(1,HO.tab good) else none)=(1,u):=z;split at z'
  ·rename_i e;subst e;cases z';exact okT _
  ·cases z'
 |none=>
  refine core (λb=>if b=PT then(1,.tab good) else if b=a then[49] else none) (25,rfl) (λb hb z=>?_) (.inl (.inr (3,{cls:=.type "list",data:=.seq vs.toArray},(29,aP).trans (25,rfl)))) λb u z=>?_
  ·have z':(if b=PT then(1,HO.tab good) else if b=a then[49] else none)≠none:=z;rw[(29,hb)] at z';by_cases hba:b=a
   ·exact(4,hba,hk,_,_,(29,hb).trans (25,hba))
   ·rw[(29,hba)] at z';exact(32,rfl,z')
  ·have z':(if b=PT then(1,HO.tab good) else if b=a then[49] else none)=(1,u):=z;split at z'
   ·rename_i e;subst e;cases z';exact okT _
   ·split at z'
    ·rename_i e;subst e;cases z';exact⟨ha,by rw[length_map];exact hl',vs,_,rv,ha⟩
    ·cases z'
theorem Iq{l:PySem.W.OpenLaw}{q:Program}{loose:[16]}{XP:(Str->[30])->Heap->Prop}{YP:World->Heap->Prop}{d dP:DefRec}{K:Params->Frag}{k:Nat}{x y:Str}{cc PT:Addr}{good:Pos->(8,Str)}(hk:k<=60)(hn:l.most=(1,63))(hdf:d.params.defaults=[])
  (hrec:(recsOf q).find? (λe=>e.name == y)=(1,dP)) (htab:∀w:World,tabIn (K w.params) y=(1,(cc,PT))) (hno:∀w:World,noTabs (K w.params)=true)
  (hY:∀(w:World)(h:Heap),YP w h->(K w.params).In h)
  (F:∀(w:World)(mg:Str->[30])(fa:Addr)(h:Heap),(K w.params).In h->h.Ns mainGlobals mg->mg d.name=(1,(9,fa))->
   ∃fd:FuncData,(∀(s:Shared)(u:Value),BindsTo s fd (3,[u],[]) [(x,u)])/\∀base:Heap,CodeHd base cc PT->D6 mg base->dR l.prog w (K w.params) mg base lK k fa fd [x] (Dv (K w.params) PT good)):
  PySem.W.WalkO q loose XP YP l.row.toRowW d [] (λf vs=>PySem.call f vs):=by
 refine Att.attach_call hn hdf λw s₀ s₁ mg mb fa o pm cd doc a vs ns G Y ho hd hcd hmg hobj hints hlen hg=>?_;have KX:=hY w _ Y;obtain⟨fd,hb,hF⟩:=F w mg fa _ KX G.T.g hmg;obtain⟨hC,hT⟩:=tab_of G.T KX hrec (htab w);obtain⟨bm,ob,b1,b2,b3,b4,b5,b6⟩:=G.T.bmain;have bG:bm≠mainGlobals:=λz=>by
  obtain⟨o',es,ep,e,hd',_⟩:=G.T.g;rw[z,e] at b3;cases b3;rw[hd'] at b6;cases b6
 exact Ir KX G.T.g G.T.b G.T.builtins G.T.nolimit hg hC hT ⟨bm,ob,b1,b2,bG,b3,b4,b5,b6⟩ (hno w) hobj hints hlen (cu.mono (k:=60) (11,rfl,by decide,by decide) hk) hF hb
end L3
namespace L3
open PySem PySem.Spec PyProof.Rows L2
section
variable{X:Cx}{Γ:Ct}{W:XW}
theorem M6{ds:[20]}{r:R}(h:SY ds=(1,r)):∃xs ys,ds=[(13,xs),(13,ys)]/\xs.length=ys.length/\r=.ok (.own (13,zipWith (λa b=>(22,[a,b])) xs ys)):=by
 unfold SY at h;split at h
 ·split at h
  ·rename_i xs ys hl;cases h;exact(4,xs,ys,rfl,hl,rfl)
  ·cases h
 ·cases h
theorem uU{H:Hp}:∀{ds es:[20]}{xs ys:[38]}{ts:[40]},(37,H,xs)->(16,H,es,ys)->ds.length=es.length->ts.length=xs.length->(∀(j:Nat)(t:Addr)(x y:V),ts[j]?=(1,t)->xs[j]?=(1,x)->ys[j]?=(1,y)->H t=(1,(22,[x,y])))->
  (16,H,zipWith (λa b=>D.tup [a,b]) ds es,ts.map V.ref)
 |[],[],xs,ys,ts,h1,h2,hl,ht,h=>by
  rw[dC.mp h1] at ht;cases ts with
  |nil=>exact .nil
  |cons _ _=>simp at ht
 |[],_::_,_,_,_,_,_,hl,_,_=>by simp at hl
 |_::_,[],_,_,_,_,_,hl,_,_=>by simp at hl
 |d::ds,e::es,xs,ys,ts,h1,h2,hl,ht,h=>by
  obtain⟨x,xr,rfl,q1,t1⟩:=bp.mp h1;obtain⟨y,yr,rfl,q2,t2⟩:=bp.mp h2;cases ts with
  |nil=>simp at ht
  |cons t ts=>
   exact(22,bx.mpr (4,t,[x,y],rfl,.inl (.inl (h 0 t x y rfl rfl rfl)),(22,q1,(22,q2,.nil))),(uU t1 t2 (by simpa using hl) (by simpa using ht) λj t' x' y' a b c=>h (j+1) t' x' y' (by simpa using a) (by simpa using b) (by simpa using c)))
theorem DT{a b:Expr}{ga gb:ME}{p p' pos' pos:Pos}(hK:X.K=Γ.K)(hc:X.calm=true)(hg:Gl X "list")(hm:X.mg "list" = none)(hg2:Gl X "zip")(hm2:X.mg "zip" = none)(ha:(25,a,ga))(hb:(25,b,gb))
  (hs1:(4,[a,b])=(false,(14,a))::(4,[b]):=by rfl) (hs2:(4,[b])=(false,(14,b))::(4,[]):=by rfl) (hs0:(4,[])=[]:=by rfl)
  (hs3:(4,[(5,.Name "zip" p',[a,b],pos')])=(false,(14,(5,.Name "zip" p',[a,b],pos')))::(4,[]):=by rfl) (hpl2:(7,pos,[]).any (·.1)=false:=by rfl):
  (25,(5,.Name "list" p,[(5,.Name "zip" p',[a,b],pos')],pos),aq SY [ga,gb]):=
 (78,DR hc hg hm hg2 hm2 (bX ha (bX hb fh hs2) hs1) (by rw[hs1,hs2,hs0]) (by rw[hs2,hs0]) hs3 hpl2) λ_ _ σ H Q _ ⟨B0,B1,Hs,ρ,r,re,e,q⟩=>by
  refine eB [ga,gb] (λvs H1 ⟨Hs1,ds,g1,re1,rl,e1,q1⟩=>?_) (lH [ga,gb] re e q);obtain⟨xs,ys,rfl,hl,rfl⟩:=M6 e1;obtain⟨v,u,rfl,r1,r2⟩:=OR rl;obtain⟨l1,ws,rfl,s1,rl1⟩:=bA.mp r1;obtain⟨l2,zs,rfl,s2,rl2⟩:=bA.mp r2;have sm:=re1.b.i;have hlw:ws.length=zs.length:=by rw[←rl1.length,←rl2.length,hl]
  refine⟨l1,l2,ws,zs,rfl,by rw[hK];exact aM.seq sm s1,by rw[hK];exact aM.seq sm s2,hlw,λts S ht nd hts hS=>?_⟩
  have nl:∀b,b∉ts->(ts.zip (16,ws,zs)).lookup b=none:=λb hb=>md λp hp e=>hb (e▸(of_mem_zip (show(p.1,p.2)∈_ from hp)).1);have pn:∀(G:Hp)(b:Addr),b∉ts->gH (ts.zip (16,ws,zs)) G b=G b:=λG b hb=>by unfold gH;rw[nl b hb]
  have SN:S∉ts:=λhm=>(hts S hm).2 rfl;have smP:∀G:Hp,(∀t∈ts,G t=none)->aM G (gH (ts.zip (16,ws,zs)) G):=λG hG b o e=>by rw[pn G b λhm=>by rw[hG b hm] at e;cases e];exact e
  have hsN:∀t∈ts,Hs1 t=none:=λt ht=>sm.free (hts t ht).1;have sS:=smP Hs1 hsN;have sH:=smP H1 λt ht=>(hts t ht).1;have fS:gH (ts.zip (16,ws,zs)) H1 S=none:=by rw[pn H1 S SN];exact hS
  have fSs:gH (ts.zip (16,ws,zs)) Hs1 S=none:=by rw[pn Hs1 S SN];exact sm.free hS
  refine q1 (9,S) (gH (ts.zip (16,ws,zs)) Hs1) _ (10,sS,sH.trans (bV fS),λb o z=>?_,λb o z=>?_) (T5.mk S _ rfl hS fSs aG (19,_,uU (rl1.mono sS) (rl2.mono sS) hl (by rw[ht]) λj t x y h1 h2 h3=>?_))
  ·rw[az (aR z fSs)];by_cases hb:b∈ts
   ·unfold gH at z ⊢;cases lk:(ts.zip (zipWith (λa b=>[a,b]) ws zs)).lookup b with
    |some pp=>rw[lk] at z;exact z
    |none=>rw[lk] at z;exact sm _ _ z
   ·rw[pn _ b hb] at z ⊢;exact sm _ _ z
  ·by_cases hb:b∈ts
   ·exact .inr (hts b hb).1
   ·rw[pn _ b hb] at z;exact .inl z
  ·unfold gH;rw[nq nd h1 (show(16,ws,zs)[j]?=(1,[x,y]) by rw[List.getElem?_zipWith,h2,h3])]
end
end L3
namespace L3
open PySem PySem.Spec PyProof.Rows L2 PySem.W
def JN:Stmt->Expr
 |.Return (some e) _=>e
 |.If _ [.Return (some e) _] _ _=>e
 |_=>.Name "" (10,0,0,0,0)
def L4(e:Expr)(qual par:Str)(fv:[16]):gT:=match e with
 |.Lambda p b sc _=>⟨p,b,sc,qual,par,fv⟩
 |_=>⟨{posonlyargs:=[],args:=[],vararg:=none,kwonlyargs:=[],kw_defaults:=[],kwarg:=none,defaults:=[]},e,{kind:=.function,names:=[],isGenerator:=false,isCoroutine:=false},qual,par,fv⟩
def EM(ls:List (Nat×Nat))(q:Str):Pos->(8,Str):=λp=>if ls.contains (p.line,p.col) then(1,q) else none
theorem rX{ls:List (Nat×Nat)}{q:Str}:AC (EM ls q):=λp p' h1 h2=>by unfold EM;rw[h1,h2]
theorem vz{N:[16]}{L:gT}(kind:L.scope.kind=.function)(co:L.scope.isCoroutine=false)(gen:L.scope.isGenerator=false)(nd:N.Nodup)(pre:N.take (1+L.fv.length)=L.par::L.fv)(par:(74,L.par)=[56]\/(74,L.par)=[67])
  (fvs:∀y∈L.fv,(74,y)=(1,.free)/\(y,NameKind.cell)∉L.scope.names) (all:∀p∈L.scope.names,p.2=.free->p.1∈L.fv):k9 N L:=
 ⟨kind,co,gen,nd,pre,par,fvs,λy h=>all (y,.free) (67,h) rfl⟩
theorem Ai{K:Frag}{cls:String->Addr}{lams:Nat->(8,gT)}{PT:Addr}{good:Pos->(8,Str)}:∀b o,(RC K cls lams PT good).tb b=([46])->∃g,o=.tab g:=λb o h=>by
 have h':(if b=PT then(1,HO.tab good) else none)=[46]:=h;split at h'
 ·cases h';exact(3,_,rfl)
 ·cases h'
theorem F3{K:Frag}{cls:String->Addr}{lams:Nat->(8,gT)}{PT:Addr}{good:Pos->(8,Str)}:(RC K cls lams PT good).tb PT=(1,.tab good):=(25,rfl)
theorem Aj{K:Frag}{cls:String->Addr}{lams:Nat->(8,gT)}{PT:Addr}{good:Pos->(8,Str)}{k:Nat}{L:gT}(h:lams k=(1,L))(hk:k≠NJ:=by decide):∀H a xs,(RC K cls lams PT good).clo k H a xs->Ro L H a xs:=λH a xs z=>by
 rcases z with⟨e,_⟩|⟨L',e,q⟩
 ·exact(hk e).elim
 ·rw[h] at e;cases e;exact q
structure GL(K:Frag)(mg:Str->Option Value)(x:Str)(st:Stmt)(ps:List Str)(cc:Addr):Prop where
 ex:∃f fd,D8 K x x st f fd/\mg x=(1,(9,f))/\eJ K fd ps []/\fd.code=(9,cc)
theorem LJ{P:Program}{w:World}{K:Frag}{mg:Str->[30]}{base:Heap}{cls:String->Addr}{lams:Nat->(8,gT)}{PT:Addr}{good:Pos->(8,Str)}{x:Str}{st:Stmt}{N ps:[16]}{k:Nat}{cc:Addr}{g:D7}(L:GL K mg x st ps cc)(S:(23,N,ps,st))
  (hfv:∀k L,lams k=(1,L)->L.fv.Nodup/\∀y∈L.fv,[60].names.lookup y=[67])
  (body:∀(f:Addr)(A:Around)(outer:List PySem.Env)(s:Shared)(H:Hp)(E:XK),cu k (2,x,[60],[15],f,(9,cc))->Pe (mr lK P w K mg base N x [60] f (9,cc) A outer s H E).nox lams (RC K cls lams PT good) (aS st) g):
  (1,P,w,K,mg,RC K cls lams PT good,(k+1),x,ps,P4 ps.length N.length g):=by
 obtain⟨f,fd,F,hm,hb,hc⟩:=L.ex;exact⟨f,fd,QU F hc S (λk L H a xs h1 h2=>.inr (11,L,h1,h2)) hfv (body f),hm,F.kp,hb⟩
theorem Lh{K:Frag}{mg:Str->[30]}{h:Heap}(X:K.In h)(G:h.Ns mainGlobals mg){x:Str}{st:Stmt}{ps:[16]}{f cc:Addr}{oc:Value}{od an:(8,Addr)}{osl:Array [30]}{kV doc pm ct:Value}(a:(5,K,x)=(33,f))
  (l:K.lookup f=(1,(10,oc,od,.func (1,x,x,bT st,aS st,[60],.none,kV,pm,an,(9,cc),ct),osl))) (c:codeIn K (9,cc) x=true) (k:(39,K,f)=true)
  (b:∀(kV doc pm:Value)(an:(8,Addr))(cdv ct:Value)(us:[21]),us.length=ps.length->bindArgs (1,x,x,bT st,aS st,[60],.none,kV,pm,an,cdv,ct) (3,us,[])=pure (ps.zip us)):GL K mg x st ps cc:=
 ⟨_,_,nA l c k,mg_of X G a,(nA l c k).binds b,rfl⟩
def vQ(T:Nat->[39])(gf ga:ME):ME:=λρ=>bg (gf ρ) λf=>match f with
 |.fn k ds=>bg (ga ρ) λd=>if pF d && iV ds then(match T k with
  |some F=>nD (F (d::ds))
  |none=>none) else none
 |_=>none
section
variable{X:Cx}{Γ:Ct}{T:Nat->Option (List D->Option R)}{pos:Pos}{fe e:Expr}{gf ga:ME}
theorem Kx(hT:Ut X Γ T)(hf:(24,W0,fe,gf))(ha:sX X Γ W0 [e] [ga])
  (ht:(14,(5,fe,[e],pos))=(do callWith pos (←(14,fe)) [] (7,pos,[e]) (15,pos,[],X.env)):=by rfl)
  (he:(4,[e])=(false,(14,e))::(4,[]):=by rfl):
  (24,W0,(5,fe,[e],pos),vQ T gf ga):=by
 intro pins s σ H Q I ⟨B0,B1,Hs,ρ,r,re,e1,q⟩;rw[ht];refine(5,(cZ (hf pins s σ H _ I (cp re e1 q)) λf s1 ⟨v',H',I1,r1,Hs0,fd0,g0,re0,rp,e2,q0⟩=>?_));cases fd0 with
 |fn k ds=>
  obtain⟨a,xs,rfl,cl,rl⟩:=rK.mp rp;obtain rfl:f=Value.ref a:=r1;have step:=cp re0 e2 q0;rw[he];refine callWith_of (P:=λh=>∃fd,h.get? a=some {cls:=.type "function",data:=.func fd}) (by show((false || (7,pos,[]).any (·.1)) || false)=false;rfl) (λh ⟨fd,eh⟩=>(11,.frame,[42],(Looks.ld (part:=none) eh).andThen .now)) (Calls.evalArgs_plain ?_)
  have ha':=ha pos pins s1 σ H' (λvs H1=>∃v1,vs=[v1]/\∃Hs1 d,Grow Hs0 H' Hs1 H1/\RE Γ B0 B1 Hs1 H1 σ ρ/\(33,Hs1,d,v1)/\(if(pF d && iV ds)=true then(match T k with|some F=>nD (F (d::ds))|none=>none) else none)=(1,r)/\RQ Γ W0 Hs1 H1 r Q) I1 (step.mono λv1 H1 z=>(19,v1,z))
  rw[he] at ha';refine cZ ha' λus s2 ⟨vs,H2,I2,r2,v1,evs,Hs1,d,g1,re1,rd,e3,q2⟩=>?_;subst evs;obtain⟨u,rfl,ru⟩:=kR r2;split at e3
  ·rename_i hn;rw[and_eq_true] at hn;split at e3
   ·rename_i F hF;obtain⟨j,hr,ok⟩:=hT k F hF;have cl2:=Γ.cloM g1.s cl;obtain⟨fd,uo,hfd⟩:=ok.fn Hs1 a xs cl2;cases hFr:F (d::ds) with
    |none=>rw[hFr] at e3;cases e3
    |some R0=>
     rw[hFr] at e3;cases R0 with
     |exc y=>cases e3
     |ok s0=>
      have e4:(if flat s0.val=true then okD s0.val else none)=(1,r):=e3;split at e4
      ·rename_i hfl;cases e4;refine(3,(3,fd,(I2.hok a _ (g1.i _ _ hfd)).1),?_);refine wpAny_call (codeAny_mono (ok.run X.A X.stack s2 H2 Hs1 a xs ds v1 u d s0 Q hr I2.env0 g1.i re1.tb cl2 (rl.mono g1.s) ru rd hn.1 hn.2 hFr hfl λv' H' sm' rp'=>?_) λr s' hq=>?_)
       ·exact q2 v' Hs1 H' (.only g1.i sm') (cS.of (uT rp' hfl))
       ·cases r with
        |error e=>exact hq.elim
        |ok fl=>
         cases fl with
         |ret u=>exact I2.after hq
         |next=>exact False.elim hq
         |brk=>exact False.elim hq
         |cont=>exact False.elim hq
      ·cases e4
   ·cases e3
  ·cases e3
 |_=>cases e2
end
end L3
namespace L3
open PySem PySem.Spec PyProof.Rows L2
section
variable{Γ:Ct}{B0 B1 Hs H Hs' H':Hp}{σ:L2.St}{ρ:aC}{a:Addr}{o o':O}{ho ho':HO}
theorem gg.core(h:gg Γ Hs a o ho):gg Γ Hs a o.core ho:=by
 cases o with
 |par b u=>exact h.2
 |_=>exact h
theorem gg.put(h:gg Γ Hs a o ho)(h':gg Γ Hs' a o' ho'):gg Γ Hs' a (o.put o') ho':=by
 cases o with
 |par b u=>exact(3,h.1,h')
 |_=>exact h'
theorem RE.called(r:RE Γ B0 B1 Hs H σ ρ){i:Nat}(e:ρ[i]?=(65,o))(ea:σ[i]?=(33,a))(g:kF a Hs H Hs' H')(hs:Hs' a=none)(hh:H' a=(1,ho'))(q:gg Γ Hs' a o' ho'):RE Γ B0 B1 Hs' H' σ (72,(12,o')):=by
 obtain⟨c,hc,e1,e2,e3,e4,_⟩:=r.own i o e;rw[ea] at e1;cases e1;have hi:i<ρ.length:=(17,e).1;have old:∀(j:Nat)(u:O),(72,(12,o'))[j]?=(65,u)->∃u',ρ[j]?=(65,u'):=λj u hj=>by
  by_cases h:i=j
  ·subst h;exact(3,o,e)
  ·rw[(32,h)] at hj;exact(3,u,hj)
 refine⟨(10,r.b.s.trans g.s,λb u z=>g.h b u (aR z e2) (r.b.h b u z),g.i,λb u z=>?_),λj d hj=>?_,λj u hj=>?_,λj k u u' c hjk hj hk ha=>?_,by rw[length_set,r.len],r.tb.trans g.s⟩
 ·rcases g.n b u z with z|z
  ·exact r.b.n b u z
  ·exact .inr (r.b.h.free z)
 ·by_cases h:i=j
  ·subst h;rw[(35,hi)] at hj;cases hj
  ·rw[(32,h)] at hj;obtain⟨v,f1,f2⟩:=r.sh j d hj;exact(11,v,f1,f2.mono g.s)
 ·by_cases h:i=j
  ·subst h;rw[(35,hi)] at hj;cases hj;exact⟨a,ho',ea,e2,hs,hh,q⟩
  ·rw[(32,h)] at hj;obtain⟨c,hc,f1,f2,f3,f4,f5⟩:=r.own j u hj;have hne:c≠a:=λz=>by subst z;exact r.apart i j o u c h e hj ea f1
   refine⟨c,hc,f1,f2,?_,g.h c hc hne f4,f5.mono g.s⟩;cases z:Hs' c with
   |none=>rfl
   |some w=>
    rcases g.n c w z with z'|z'
    ·rw[f3] at z';cases z'
    ·rw[f4] at z';cases z'
 ·obtain⟨w,hj'⟩:=old j u hj;obtain⟨w',hk'⟩:=old k u' hk;exact r.apart j k w w' c hjk hj' hk' ha
theorem RE.lock(r:RE Γ B0 B1 Hs H σ ρ)(h1:Hs a=none)(h2:H a=(1,ho))(h3:∀(i:Nat)(o:O),ρ[i]?=(65,o)->σ[i]?≠(33,a)):RE Γ B0 (cF B1 a ho) Hs H σ ρ:=by
 refine⟨(10,r.b.s,λb u z=>?_,r.b.i,λb u z=>?_),r.sh,λj u hj=>?_,r.apart,r.len,r.tb⟩
 ·by_cases hb:b=a
  ·subst hb;rw[aG] at z;cases z;exact h2
  ·rw[az hb] at z;exact r.b.h b u z
 ·have hb:b≠a:=aR z h1;rw[az hb];exact r.b.n b u z
 ·obtain⟨c,hc,f1,f2,f3,f4,f5⟩:=r.own j u hj;refine⟨c,hc,f1,?_,f3,f4,f5⟩;rw[az (λz=>by subst z;exact h3 j u hj f1)]
  exact f2
theorem RE.unlock(r:RE Γ B0 (cF B1 a ho) Hs H σ ρ)(hb:B1 a=none)(h0:B0 a=none):RE Γ B0 B1 Hs H σ ρ/\Hs a=none/\H a=(1,ho)/\∀(i:Nat)(o:O),ρ[i]?=(65,o)->σ[i]?≠(33,a):=by
 have hh:H a=(1,ho):=r.b.h a ho aG;have nea:∀{j:Nat}{u:O},ρ[j]?=(65,u)->σ[j]?≠(33,a):=λ{j u} hj z=>by
  obtain⟨c,hc,f1,f2,_⟩:=r.own j u hj;rw[z] at f1;cases f1;rw[aG] at f2;cases f2
 refine(10,⟨(10,r.b.s,λb u z=>?_,r.b.i,λb u z=>?_),r.sh,λj u hj=>?_,r.apart,r.len,r.tb⟩,?_,hh,λi o hi=>nea hi)
 ·refine r.b.h b u ?_;rw[az (aR z hb)];exact z
 ·by_cases hba:b=a
  ·subst hba;exact .inr hb
  ·rcases r.b.n b u z with y|y
   ·exact .inl y
   ·rw[az hba] at y;exact .inr y
 ·obtain⟨c,hc,f1,f2,f3,f4,f5⟩:=r.own j u hj;refine⟨c,hc,f1,?_,f3,f4,f5⟩;have hca:c≠a:=λz=>by subst z;exact nea hj f1
  rw[az hca] at f2;exact f2
 ·cases z:Hs a with
  |none=>rfl
  |some u=>
   rcases r.b.n a u z with y|y
   ·rw[h0] at y;cases y
   ·rw[aG] at y;cases y
end
inductive tM(Γ:Ct)(g:MP)(σ:L2.St)(H:Hp)(Q:VK):Prop
 |mk (B0 B1 Hs:Hp) (ρ:aC) (d:D) (ρ':aC) (re:RE Γ B0 B1 Hs H σ ρ) (e:g ρ=(1,(d,ρ'))) (q:∀v Hs' H',aM Hs Hs'->RE Γ B0 B1 Hs' H' σ ρ'->(33,Hs',d,v)->Q v H')
abbrev PM(X:Cx)(Γ:Ct)(e:Expr)(g:MP):Prop:=PE X e (tM Γ g)
inductive RS(Γ:Ct)(F:MF)(vs:List V)(H:Hp)(Q:VK):Prop
 |mk (a:Addr) (xs ys:[38]) (Hs:Hp) (o:O) (ho:HO) (ds es:[20]) (d:D) (o':O) (ev:vs=xs++(9,a)::ys) (sm:aM Hs H) (hs:Hs a=none) (hh:H a=(1,ho)) (ro:gg Γ Hs a o ho) (r1:(37,Hs,xs)) (r2:(16,Hs,es,ys)) (e:F o ds es=(1,(d,o')))
  (q:∀v Hs' H' ho',kF a Hs H Hs' H'->Hs' a=none->H' a=(1,ho')->gg Γ Hs' a o' ho'->(33,Hs',d,v)->Q v H') (tb:aM Γ.tb Hs)
def Tq(Γ:Ct)(F:MF):Sp:=λvs H Q _=>RS Γ F vs H Q
def UA(P:Program)(w:World)(K:Frag)(mg:Str->[30])(base:Heap)(Γ:Ct)(k:Nat)(x:Str)(ps:[16])(F:MF):Prop:=
 ∃f fd,dR P w K mg base lK k f fd ps (Tq Γ F)/\mg x=(1,(9,f))/\(39,K,f)=true/\eJ K fd ps []
theorem UA.mono{P:Program}{w:World}{K:Frag}{mg:Str->[30]}{base:Heap}{Γ:Ct}{j k:Nat}{x:Str}{ps:[16]}{F:MF}(h:UA P w K mg base Γ j x ps F)(l:j<=k):UA P w K mg base Γ k x ps F:=by
 obtain⟨f,fd,G,r⟩:=h;exact(10,f,fd,G.mono l,r)
section
variable{X:Cx}{Γ:Ct}{k i:Nat}{ps:List Str}{x:Str}{p pos:Pos}{e:Expr}{es:List Expr}{gs hs:List ME}{F:MF}
theorem Ez{ρ ρ':aC}{d:D}(h:G2 i F gs hs ρ=(1,(d,ρ'))):∃o ds es o',ρ[i]?=(65,o)/\fj gs ρ=(1,ds)/\fj hs ρ=(1,es)/\F o.core ds es=(1,(d,o'))/\ρ'=(72,(12,o.put o')):=by
 unfold G2 at h;split at h
 ·rename_i o ho;cases h1:fj gs ρ with
  |none=>rw[h1] at h;cases h
  |some ds=>
   cases h2:fj hs ρ with
   |none=>rw[h1,h2] at h;cases h
   |some es=>
    cases h3:F o.core ds es with
    |none=>rw[h1,h2] at h;simp only[Option.bind_some,h3] at h;cases h
    |some q=>
     rw[h1,h2] at h;simp only[Option.bind_some,h3] at h;cases h;exact⟨o,ds,es,q.2,ho,rfl,rfl,h3,rfl⟩
 ·cases h
variable{a b:Expr}{g:MP}{gb:ME}
end
section
variable{X:Cx}{Γ:Ct}{W:XW}{e:Expr}{g:MP}{ge:ME}{pos pos':Pos}{i j:Nat}{x:Str}
theorem mU(he:(25,e,ge)):sW X Γ W (.Return (1,e) pos) (sx j ge):=PS.imp (uX he) λpins s σ H D I ⟨B0,B1,Hs,ρ,o,re,e,q⟩=>by
 refine(zd re e q).mono λv H1 ⟨Hs1,s,g1,rs,e1⟩=>?_;split at e1
 ·rename_i a u hd;cases e1;obtain⟨Hs2,g2,_,rp⟩:=rs.share g1;obtain⟨c,ho,f1,f2,f3,f4,f5⟩:=re.own j _ hd;have f6:c=a/\gg Γ Hs c u ho:=f5;obtain⟨z,f7⟩:=f6;subst z;exact q v Hs2 H1 g2.s (re.b.trans g2) (4,rp,ho,g2.none f3 f4,g2.h _ _ f4,f7.mono g2.s)
 ·cases e1
end
def DL(H:Hp)(a:Addr):Hp:=λb=>if b=a then none else H b
theorem xY{H:Hp}{a:Addr}:DL H a a=none:=(25,rfl)
theorem zw{H:Hp}{a b:Addr}(h:b≠a):DL H a b=H b:=(29,h)
theorem JM{N:[16]}{xs ys:[38]}{u v:V}:(L2.start N (xs++u::ys)).set xs.length (1,v)=L2.start N (xs++v::ys):=by
 unfold L2.start;rw[map_append,map_append,map_cons,map_cons,append_assoc,append_assoc];have:(List.map some xs).length=xs.length:=length_map ..;rw[←this,List.set_append_right _ _ [25],sub_self];simp
theorem xZ{Γ:Ct}{Hs H:Hp}{N:[16]}{a:Addr}{o:O}{ho:HO}{ds es:[20]}{xs ys:[38]}(sm:aM Hs H)(hs:Hs a=none)(hh:H a=(1,ho))(ro:gg Γ Hs a o ho)(r1:(37,Hs,xs))(r2:(16,Hs,es,ys))(tb:aM Γ.tb Hs)(hN:ds.length<N.length):
  RE Γ Hs (DL H a) Hs H (L2.start N (xs++(9,a)::ys)) (lM N.length a o ds es):=by
 have rl:(16,Hs,(ds++.non::es),(xs++.non::ys)):=r1.append (22,cy.mpr rfl,r2);have r0:=mR (N:=N) sm rl tb;have no:∀(i:Nat)(u:O),(cG N.length (ds++.non::es))[i]?≠(65,u):=λi u e=>by
  unfold cG at e;by_cases hi:i<(ds++D.non::es).length
  ·rw[(59,by simpa using hi),getElem?_map,(7,hi)] at e
   cases e
  ·rw[(64,by simpa using hi),getElem?_replicate] at e
   split at e <;> cases e
 have r1':RE Γ Hs (DL H a) Hs H (L2.start N (xs++.non::ys)) (cG N.length (ds++.non::es)):=by
  refine⟨(10,.refl _,λb u z=>?_,sm,λb u z=>.inl z),r0.sh,λi u e=>(32,e,no i u),r0.apart,r0.len,r0.tb⟩;by_cases hb:b=a
  ·subst hb;rw[xY] at z;cases z
  ·rw[zw hb] at z;exact z
 have hl:ds.length<(L2.start N (xs++.non::ys)).length:=by
  rw[←r0.len];unfold cG;rw[length_append,length_map,length_append,length_cons];omega
 have r2':=r1'.setOwn (i:=ds.length) (o:=.par a o) (a:=a) (ho:=ho) hl xY hs hh (62,ro) λj u _ e=>(32,e,no j u);rw[r1.length,JM,←r1.length] at r2';exact r2'
section
variable{P:Program}{w:World}{K:Frag}{mg:Str->Option Value}{base:Heap}{Γ:Ct}
theorem qI{Hs H Hs' H':Hp}{a:Addr}(g:Grow Hs (DL H a) Hs' H')(hs:Hs' a=none):kF a Hs H Hs' H':=
 ⟨g.s,λb u hb z=>g.h b u (by rw[zw hb];exact z),g.i,λb u z=>by
  have hb:b≠a:=aR z hs;rcases g.n b u z with y|y
  ·exact .inl y
  ·rw[zw hb] at y;exact .inr y⟩
theorem Ui{x qual:Str}{st:Stmt}{f:Addr}{fd:FuncData}{N ps:[16]}{k j:Nat}{g:MC}(F:D8 K x qual st f fd)(S:(23,N,ps,st))(hN:ps.length<=N.length)
  (body:∀(cdv:Value)(A:Around)(outer:List PySem.Env)(s:Shared)(H:Hp)(E:XK),cu k (2,qual,[60],[15],f,cdv)->(8,Γ,W0,aS st,g)):
  dR P w K mg base lK (k+1) f fd ps (Tq Γ (ID j ps.length N.length g)):=by
 refine F.ok S (λvs H Q E ⟨a,xs,ys,Hs,o,ho,ds,es,d,o',ev,sm,hs,hh,ro,r1,r2,e,q,tb⟩=>?_) (λcdv A outer s H vs Q E hr ⟨a,xs,ys,Hs,o,ho,ds,es,d,o',ev,sm,hs,hh,ro,r1,r2,e,q,tb⟩=>?_)
 ·obtain⟨h1,h2,_⟩:=qJ e;rw[ev,length_append,length_cons,←r1.length,←r2.length];omega
 ·obtain⟨h1,h2,h3⟩:=qJ e;have h3:=h3 a;subst ev;refine(11,tS Γ W0 g,body cdv A outer s H E hr,?_);have re:=xZ (N:=N) sm hs hh ro r1 r2 tb [11]
  cases h:g (lM N.length a o ds es) with
  |none=>rw[h] at h3;cases h3
  |some out=>
   rw[h] at h3;refine⟨Hs,DL H a,Hs,lM N.length a o ds es,out,re,h,?_⟩;cases out with
   |next ρ'=>
    intro σ' Hs' H' _ re';unfold n9 at h3;dsimp only at h3;split at h3
    ·rename_i b u hd;split at h3
     ·rename_i hba;subst hba;cases h3;obtain⟨c,ho',f1,f2,f3,f4,f5⟩:=re'.own j _ hd;have f6:c=b/\gg Γ Hs' c o' ho':=f5;obtain⟨z,f7⟩:=f6;subst z;exact q .non Hs' H' ho' (qI re'.b f3) f3 f4 f7 (cy.mpr rfl)
     ·cases h3
    ·cases h3
   |brk ρ'=>cases h3
   |cont ρ'=>cases h3
   |ret s=>
    cases s with
    |sh _=>cases h3
    |own _=>cases h3
    |two d1 b o1=>
     unfold n9 at h3;dsimp only at h3;split at h3
     ·rename_i hba;subst hba;cases h3;intro v Hs' H' _ g' rs;obtain⟨rp,ho',z1,z2,z3⟩:=rs;exact q v Hs' H' ho' (qI g' z1) z1 z2 z3 rp
     ·cases h3
   |exc x=>cases h3
end
theorem RE.adopt'{Γ:Ct}{B0 B1 Hs H:Hp}{σ:L2.St}{ρ:aC}(r:RE Γ B0 B1 Hs H σ ρ){a:Addr}{ho:HO}(h1:Hs a=none)(h2:B1 a=none)(h4:H a=(1,ho))(h3:∀(i:Nat)(o:O),ρ[i]?=(65,o)->σ[i]?≠(33,a)):RE Γ B0 B1 (cF Hs a ho) H σ ρ:=by
 have sm:aM Hs (cF Hs a ho):=bV h1;have sh':aM (cF Hs a ho) H:=λb u z=>by
  by_cases hb:b=a
  ·subst hb;rw[aG] at z;cases z;exact h4
  ·rw[az hb] at z;exact r.b.i _ _ z
 refine⟨(10,r.b.s.trans sm,r.b.h,sh',λb u z=>?_),λj d hj=>?_,λj u hj=>?_,r.apart,r.len,r.tb.trans sm⟩
 ·by_cases hb:b=a
  ·subst hb;exact .inr h2
  ·rw[az hb] at z;exact r.b.n _ _ z
 ·obtain⟨v,f1,f2⟩:=r.sh j d hj;exact(11,v,f1,f2.mono sm)
 ·obtain⟨c,hc,f1,f2,f3,f4,f5⟩:=r.own j u hj;refine⟨c,hc,f1,f2,?_,f4,f5.mono sm⟩;rw[az]
  ·exact f3
  ·intro z;subst z;exact h3 j u hj f1
inductive UC(Γ:Ct)(g:MP)(σ:L2.St)(H:Hp)(Q:VK):Prop
 |mk (B0 B1 Hs:Hp) (ρ:aC) (d:D) (ρ':aC) (re:RE Γ B0 B1 Hs H σ ρ) (e:g ρ=(1,(d,ρ'))) (q:∀a ys ds Hs' H',aM Hs Hs'->RE Γ B0 B1 Hs' H' σ ρ'->d=(13,ds)->Hs' a=none->B1 a=none->H' a=(1,(13,ys))->(∀(i:Nat)(o:O),ρ'[i]?=(65,o)->σ[i]?≠(33,a))->(37,Hs',ys)->Q (9,a) H')
theorem tM.l{Γ:Ct}{g:MP}{σ:L2.St}{H:Hp}{Q:VK}(t:tM Γ g σ H Q):UC Γ g σ H Q:=by
 obtain⟨B0,B1,Hs,ρ,d,ρ',re,e,q⟩:=t;exact⟨B0,B1,Hs,ρ,d,ρ',re,e,λa ys ds Hs' H' sm re' hd ha hb hh ap rl=>q (9,a) (35,Hs',a,ys) H' (sm.trans (bV ha)) (re'.adopt' ha hb hh ap) (hd▸bA.mpr (4,a,ys,rfl,.of aG,rl.mono (bV ha)))⟩
section
variable{Γ:Ct}{js:List Nat}{gi:MI}{bd:MB}{elt:MP}
theorem JH(hb:AE js bd){σ:L2.St}{H:Hp}{Q:VK}(t:UC Γ (sD js gi bd elt) σ H Q):
  FA js (tI Γ W0 gi) (To Γ js bd) Fw (tM Γ elt) σ H Q:=by
 obtain⟨B0,B1,Hs,ρ,dv,ρ',re,e,q⟩:=t;unfold sD at e;cases h:gi ρ with
 |none=>rw[h] at e;cases e
 |some x=>
  rw[h] at e;cases x with
  |exc y=>cases e
  |ok ds=>
   refine(3,B1,Hs,ρ,.ok ds,re,h,?_);intro J Hs1 H1 g1 w a ha;dsimp only at e;split at e
   ·rename_i hc;obtain⟨hlim,hcl⟩:=hc;have hfo:=qT js ρ hcl;cases hcm:sP js bd elt ds ρ with
    |none=>rw[hcm] at e;cases e
    |some pr=>
     rw[hcm] at e;cases e;have hs1:Hs1 a=none:=g1.i.free ha;have h0:H a=none:=g1.h.free ha;have hb1:B1 a=none:=re.b.h.free h0;have hb0:B0 a=none:=re.b.s.free (re.b.i.free h0);have re1:RE Γ B0 B1 Hs1 H1 (gC js σ) ρ:=(re.grow g1).sub (by rw[ib,re.len]) λi s z=>by
      have z':(bE js ρ)[i]?=(31,s):=by rw[hfo];exact z
      obtain⟨z1,_⟩:=fJ js ρ i s z';exact(3,z,nB js σ i z1)
     have ap1:∀(i:Nat)(o:O),ρ[i]?=(65,o)->(gC js σ)[i]?≠(33,a):=λi o z z'=>by
      obtain⟨c,hc,f1,_,_,f4,_⟩:=re1.own i o z;rw[z'] at f1;cases f1;rw[ha] at f4;cases f4
     have cl1:∀(i:Nat)(s:S),ρ[i]?=(31,s)->i∉js:=λi s z=>by
      have z':(bE js ρ)[i]?=(31,s):=by rw[hfo];exact z
      exact(fJ js ρ i s z').1
     refine⟨λi m σ2 ys H2=>m=ds.length - i/\i<=ds.length/\∃Hs2 ρ2 acc rest,aM Hs1 Hs2/\RE Γ B0 B1 Hs2 H2 σ2 ρ2/\(∀(k:Nat)(s:S),ρ2[k]?=(31,s)->k∉js)/\(σ2.length=σ.length/\∀k:Nat,k∉js->σ2[k]?=σ[k]?)/\Hs2 a=none/\
      (∀(i:Nat)(o:O),ρ2[i]?=(65,o)->σ2[i]?≠(33,a))/\H2 a=(1,(13,ys))/\(16,Hs2,acc,ys)/\sP js bd elt (ds.drop i) ρ2=(1,(rest,pr.2))/\pr.1=acc++rest/\acc.length<=i,
      ⟨_,rfl,zero_le _,Hs1,ρ,[],pr.1,.refl _,re1.other hs1 hb1 ap1,cl1,(3,ib js σ,λk hk=>nB js σ k hk),hs1,ap1,aG,.nil,hcm,rfl,zero_le _⟩,?_⟩
     rintro i m σ2 ys H2 ⟨rfl,hi,Hs2,ρ2,acc,rest,sm,re2,cl2,hσ2,ha2,ap,hy,rl,ec,hpr,hacc⟩
     refine(3,hy,?_);by_cases hlt:i<ds.length
     ·refine .inr (3,w.go i Hs2 H2 hlt sm re2.b.i,λx H3 y=>?_);obtain⟨d,Hs3,ed,g3,rp⟩:=w.yld i Hs2 H2 x H3 hlt sm re2.b.i y;have hd:ds.drop i=d::ds.drop (i+1):=by
       rw[List.drop_eq_getElem_cons hlt];congr 1;rw[(7,hlt)] at ed;exact(50,ed)
      rw[hd] at ec;unfold sP at ec;cases hbd:bd d ρ2 with
      |none=>rw[hbd] at ec;cases ec
      |some ρ1=>
       rw[hbd] at ec;dsimp only at ec;obtain⟨bl,bo⟩:=hb d _ ρ1 hbd;have ha3:=g3.none ha2 hy;have hy3:=g3.h _ _ hy;refine⟨B0,(35,B1,a,ys),Hs3,ρ2,d,ρ1,(re2.grow g3).lock ha3 hy3 ap,rp,hbd,λσ4 re4 hσ=>?_⟩;cases hel:elt ρ1 with
       |none=>rw[hel] at ec;cases ec
       |some pv=>
        rw[hel] at ec;dsimp only[Option.bind_some] at ec;cases hre:sP js bd elt (ds.drop (i+1)) (bE js pv.2) with
        |none=>rw[hre] at ec;cases ec
        |some qv=>
         rw[hre] at ec;have e5:pv.1::qv.1=rest:=(Prod.mk.inj (50,ec)).1;have e6:qv.2=pr.2:=(Prod.mk.inj (50,ec)).2;unfold Fw;refine QH ?_;refine⟨B0,(35,B1,a,ys),Hs3,ρ1,pv.1,pv.2,re4,hel,λv Hs6 H6 sm6 re6 rp6=>?_⟩;obtain⟨re7,ha6,hy6,ap6⟩:=re6.unlock hb1 hb0;have hlen:acc.length=ys.length:=rl.length;have hbig:ys.length<sizeLine:=lt_of_lt_of_le (by omega:ys.length<lim) [13]
         have re8:RE Γ B0 B1 Hs6 H6 σ4 (bE js pv.2):=re7.sub (by rw[oZ,re7.len]) λk s z=>(3,(fJ js pv.2 k s z).2,rfl)
         have ap8:∀(k:Nat)(o:O),(bE js pv.2)[k]?=(65,o)->σ4[k]?≠(33,a):=λk o z=>ap6 k o (fJ js pv.2 k _ z).2;have l4:σ4.length=σ.length:=by rw[←re4.len,bl,re2.len];exact hσ2.1
         refine⟨hy6,hbig,_,by omega,rfl,hlt,Hs6,bE js pv.2,acc++[pv.1],qv.1,(sm.trans g3.s).trans sm6,re8.other ha6 hb1 ap8,λk s z=>(fJ js pv.2 k s z).1,(3,l4,λk hk=>(hσ k hk).trans (hσ2.2 k hk)),ha6,ap8,aG,(rl.mono (g3.s.trans sm6)).append (22,rp6,.nil),by rw[hre,←e6],by rw[hpr,append_assoc,←e5];rfl,by rw[length_append,length_singleton];omega⟩
     ·have ei:i=ds.length:=by omega
      subst ei;rw[List.drop_length] at ec;have e5:[]=rest:=(Prod.mk.inj (50,ec)).1;have e6:ρ2=pr.2:=(Prod.mk.inj (50,ec)).2;subst e5;rw[e6] at re2 cl2 ap;refine .inl (3,w.stop Hs2 H2 sm re2.b.i,?_);have re9:RE Γ B0 B1 Hs2 H2 σ pr.2:=re2.sub (by rw[re2.len];exact hσ2.1) λk s z=>(3,z,(hσ2.2 k (cl2 k s z)).symm)
      have ap9:∀(k:Nat)(o:O),pr.2[k]?=(65,o)->σ[k]?≠(33,a):=λk o z=>by
       rw[←hσ2.2 k (cl2 k _ z)];exact ap k o z
      rw[append_nil] at hpr;exact q a ys _ Hs2 H2 (g1.s.trans sm) re9 rfl ha2 hb1 hy ap9 (hpr▸rl)
   ·cases e
section
variable{X:Cx}{scope:Scope}{vars:List Str}{elt' tg iter:Expr}{pos pos' spos:Pos}{i:Nat}{x:Str}{W:XW}
theorem DP(hN:X.N.Nodup)(hi':X.N[i]?=(1,x))(hx:Fk [53] x)(hb:AE js bd)(hc:dJ scope [53] vars=true)(hj:jf X.N vars js=true)(hcalm:X.calm=true)(hi:Mu X Γ W0 tg iter gi)
  (hg:∀fp s H a,OJ (dc X scope fp s H a) Γ tg js bd) (he:∀fp s H a,PM (dc X scope fp s H a) Γ elt' elt)
  (hsw:(28,(30,elt',[(10,tg,iter,[],0)],pos),(1,(23,pos')),spos.line)=pure true:=by rfl) (hs:∀x,foldedSetIterable iter X.env x=pure x:=by intro _;rfl)
  (hf:X.fn x=true\/[28]=[56]:=by first|exact[42]|exact .inr rfl|assumption):
  sW X Γ W (.Assign [(23,pos')] (30,elt',[(10,tg,iter,[],0)],pos) spos) (rH i (sD js gi bd elt)):=
 PS.imp (pz hN hi' hx hc hj hcalm hi hg (λ_ _ _ _=>zB) he hsw hs hf) λpins s σ H D I ⟨B0,B1,Hs,ρ,o,re,e,q⟩=>by
  unfold rH at e;cases h:sD js gi bd elt ρ with
  |none=>rw[h] at e;cases e
  |some p=>
   rw[h] at e;dsimp only[Option.bind_some] at e;split at e
   ·rename_i ds hd;cases e;exact JH hb ⟨B0,B1,Hs,ρ,p.1,p.2,re,h,λa ys ds' Hs' H' sm re' hd' ha hb hh ap rl=>by
     rw[hd] at hd';cases hd';exact q _ Hs' H' sm (re'.setOwn (by rw[I.len];exact(17,hi').1) hb ha hh (19,ys,rl) λj u _ z=>ap j u z)⟩
   ·cases e
end
end
def p3(i:Nat)(ρ:aC):(8,(O×String×[16]×[20])):=match ρ[i]? with
 |some (some (.own o))=>(match o.core with
  |.obj c ns ds=>(1,(o,c,ns,ds))
  |_=>none)
 |_=>none
theorem pM{i:Nat}{ρ:aC}{o:O}{c:String}{ns:[16]}{ds:[20]}(h:p3 i ρ=(1,(o,c,ns,ds))):ρ[i]?=(65,o)/\o.core=(27,ns,ds):=by
 unfold p3 at h;split at h
 ·rename_i u hu;split at h
  ·rename_i c' n' d' hk;cases h;exact(3,hu,hk)
  ·cases h
 ·cases h
def de(cs:List String)(i:Nat)(f:Str):ME:=λρ=>(p3 i ρ).bind λp=>if cs.contains p.2.1=true then(tw f p.2.2.1 p.2.2.2).bind okD else none
def mP(cs:List String)(i:Nat)(f:Str)(e:ME):MC:=λρ=>ik (e ρ) λs=>(p3 i ρ).bind λp=>if cs.contains p.2.1=true/\p.2.2.1.length=p.2.2.2.length/\p.2.2.1.length<900 then(46,(72,(12,p.1.put (.obj p.2.1 (putN f p.2.2.1) (oK f s.val p.2.2.1 p.2.2.2))))) else none
section
variable{X:Cx}{Γ:Ct}{W:XW}{i:Nat}{x f:Str}{px pos pos':Pos}{e:Expr}{ge:ME}{cs:List String}
theorem gg.objAt{Hs:Hp}{a:Addr}{o:O}{ho:HO}{c:String}{ns:[16]}{ds:[20]}(h:gg Γ Hs a o ho)(e:o.core=(27,ns,ds)):∃dx xs,ho=.ins (Γ.cls c) dx (ns.zip xs)/\(37,Hs,xs):=by
 have h:=h.core;rw[e] at h;exact h
theorem cH(hK:X.K=Γ.K)(hC:∀c∈cs,fB Γ.K (Γ.cls c)/\aY Γ.K (Γ.cls c) f)(hv:PE X [50] (ka i))(hb:attributeBase [50] f X.env (14,[50])=(14,[50]):=by rfl):(25,.Attribute [50] f pos,de cs i f):=
 (78,Ko hv hb) λ_ _ σ H Q _ ⟨B0,B1,Hs,ρ,r,re,e,q⟩=>by
  unfold de at e;cases h1:p3 i ρ with
  |none=>rw[h1] at e;cases e
  |some p=>
   obtain⟨o,c,ns,ds⟩:=p;rw[h1] at e;dsimp only[Option.bind_some] at e;obtain⟨hd,ec⟩:=pM h1;obtain⟨a,ho,e1,e2,e3,e4,hq⟩:=re.own i _ hd;obtain⟨dx,xs,rfl,rl⟩:=hq.objAt ec;by_cases hc:cs.contains c=true
   ·rw[(25,hc)] at e;cases hf:tw f ns ds with
    |none=>rw[hf] at e;cases e
    |some d'=>
     rw[hf] at e;cases e;obtain⟨v',hl,rv⟩:=vL rl hf;obtain⟨c1,c2⟩:=hC c (by simpa using hc)
     exact⟨(9,a),e1,a,_,dx,_,v',rfl,e4,hK▸c1,hK▸c2,hl,q v' Hs H (.refl re.b.i) (cS.of rv)⟩
   ·rw[(29,hc)] at e;cases e
theorem mV(hK:X.K=Γ.K)(hC:∀c∈cs,fB Γ.K (Γ.cls c)/\aY Γ.K (Γ.cls c) f)(hv:PE X [50] (ka i))(he:(25,e,ge))(hs:(28,e,(1,.Attribute [50] f pos'),pos.line)=pure false:=by rfl):sW X Γ W (.Assign [.Attribute [50] f pos'] e pos) (mP cs i f ge):=
 PS.imp (Kc hv he hs) λpins s σ H En I ⟨B0,B1,Hs,ρ,o,re,eo,q⟩=>by
  refine(zd re eo q).mono λv H1 ⟨Hs1,s,g1,rs,e1⟩=>?_;cases h1:p3 i ρ with
  |none=>rw[h1] at e1;cases e1
  |some p=>
   obtain⟨u,c,ns,ds⟩:=p;rw[h1] at e1;dsimp only[Option.bind_some] at e1;obtain⟨⟨hc,hl,h9⟩,rfl⟩:=bP e1;obtain⟨hd,ec⟩:=pM h1;obtain⟨Hs2,g2,_,rp⟩:=rs.share g1;have re2:=re.grow g2;obtain⟨a,ho,f1,f2,f3,f4,hq⟩:=re2.own i _ hd;obtain⟨dx,xs,rfl,rl⟩:=hq.objAt ec;obtain⟨c1,c2⟩:=hC c (by simpa using hc)
   obtain⟨xs',e2,r2⟩:=uV (f:=f) rp hl rl;refine⟨(9,a),f1,a,_,dx,_,rfl,f4,hK▸c1,hK▸c2,?_,?_⟩
   ·rw[List.length_zip];exact lt_of_le_of_lt (Nat.min_le_left _ _) (lt_trans h9 [13])
   ·exact q σ Hs2 _ g2.s (re2.write hd f1 (gg.put hq (10,dx,xs',by rw[e2],r2)))
end
def i9(c:String)(i:Nat)(m:Str)(F:MF)(gs:List ME):MP:=λρ=>(p3 i ρ).bind λp=>if p.2.1=c/\p.2.2.1.contains m=false then G2 i F [] gs ρ else none
def mG(P:Program)(w:World)(K:Frag)(mg:Str->[30])(base:Heap)(Γ:Ct)(k:Nat)(m:Str)(ps:[16])(F:MF)(c:String):Prop:=
 ∃f fd,dR P w K mg base lK k f fd ps (Tq Γ F)/\eJ K fd ps []/\fB K (Γ.cls c)/\D4 K (Γ.cls c) m f
section
variable{X:Cx}{Γ:Ct}{k i:Nat}{ps:List Str}{x m:Str}{px pos apos:Pos}{e:Expr}{es:List Expr}{gs:List ME}{F:MF}{c:String}
theorem ma{ρ ρ':aC}{d:D}(h:i9 c i m F gs ρ=(1,(d,ρ'))):∃o ns ds es o',ρ[i]?=(65,o)/\o.core=(27,ns,ds)/\ns.contains m=false/\fj gs ρ=(1,es)/\F o.core [] es=(1,(d,o'))/\ρ'=(72,(12,o.put o')):=by
 unfold i9 at h;cases h1:p3 i ρ with
 |none=>rw[h1] at h;cases h
 |some p=>
  obtain⟨o,c',ns,ds⟩:=p;rw[h1] at h;dsimp only[Option.bind_some] at h;by_cases hc:c'=c/\ns.contains m=false
  ·rw[(25,hc)] at h;obtain⟨hd,ec⟩:=pM h1;obtain⟨o2,ds2,es2,o',hd2,e1,e2,e3,e4⟩:=Ez h;rw[hd] at hd2;cases hd2;cases e1;exact⟨o,ns,ds,es2,o',hd,by rw[ec,hc.1],hc.2,e2,e3,e4⟩
  ·rw[(29,hc)] at h;cases h
theorem FS{pl:Sem Bool}(h:mG X.prog X.w X.K X.mg X.base Γ k m ps F c)(hr:cu k X.A)(hv:PE X [50] (ka i))(ha:sX X Γ W0 (e::es) gs)
  (hst:(4,(e::es))=(false,(14,e))::(4,es):=by rfl) (hpl:(7,pos,es).any (·.1)=false:=by rfl)
  (ht:(14,(5,(8,[50],m),(e::es),pos))=(do
   let ov ←eval (.Name x px) X.env
   standAt apos.atName
   let (f,first) ←holding [ov] (getMethod ov m pl)
   callWith pos f first (7,pos,(e::es)) (15,pos,[],X.env)):=by rfl):
  PM X Γ (5,(8,[50],m),(e::es),pos) (i9 c i m F gs):=by
 obtain⟨f,fd,G,hb,c1,c2⟩:=h;refine(78,Nz (E:=E0) (dvs:=[]) (ds:=[]) (pl:=pl) hv c1 c2 G hr hb .nil oV ha hst hpl ht) λ_ _ σ H Q _ ⟨B0,B1,Hs,ρ,d,ρ',re,e,q⟩=>?_;obtain⟨o,ns,ds,es',o',hd,ec,hn,e2,e3,rfl⟩:=ma e;obtain⟨a,ho,f1,f2,f3,f4,f5⟩:=re.own i o hd;obtain⟨dx,xs,rfl,rl⟩:=f5.objAt ec;refine⟨(9,a),f1,a,dx,_,rfl,f4,dt hn,eB gs (λvs H1 ⟨Hs1,g1,r2⟩=>?_) (pO gs re e2)⟩;show RS Γ F ((9,a)::(vs++[])) H1 Q;rw[append_nil];have re1:=re.grow g1;exact⟨a,[],vs,Hs1,o.core,_,[],es',d,o',rfl,re1.b.i,g1.none f3 f4,g1.h _ _ f4,(f5.mono g1.s).core,.nil,r2,e3,λv Hs' H' ho' gx hn hh ro rp=>q v Hs' H' (g1.s.trans gx.s) (re1.called hd f1 gx hn hh (gg.put f5 ro)) rp,re1.tb⟩
theorem v5{pl:Sem Bool}(h:mG X.prog X.w X.K X.mg X.base Γ k m ps F c)(hr:cu k X.A)(hv:PE X [50] (ka i))
  (ht:(14,(5,(8,[50],m),[],pos))=(do
   let ov ←eval (.Name x px) X.env
   standAt apos.atName
   let (f,first) ←holding [ov] (getMethod ov m pl)
   callWith pos f first (7,pos,[]) (15,pos,[],X.env)):=by rfl):
  PM X Γ (5,(8,[50],m),[],pos) (i9 c i m F []):=by
 obtain⟨f,fd,G,hb,c1,c2⟩:=h;refine(78,Bv (E:=E0) (dvs:=[]) (ds:=[]) (pl:=pl) hv c1 c2 G hr hb .nil oV ht) λ_ _ σ H Q _ ⟨B0,B1,Hs,ρ,d,ρ',re,e,q⟩=>?_;obtain⟨o,ns,ds,es',o',hd,ec,hn,e2,e3,rfl⟩:=ma e;cases e2;obtain⟨a,ho,f1,f2,f3,f4,f5⟩:=re.own i o hd;obtain⟨dx,xs,rfl,rl⟩:=f5.objAt ec;refine⟨(9,a),f1,a,dx,_,rfl,f4,dt hn,?_⟩;show RS Γ F [(9,a)] H Q;exact⟨a,[],[],Hs,o.core,_,[],[],d,o',rfl,re.b.i,f3,f4,f5.core,.nil,.nil,e3,λv Hs' H' ho' gx hn hh ro rp=>q v Hs' H' gx.s (re.called hd f1 gx hn hh (gg.put f5 ro)) rp,re.tb⟩
end
section
variable{X:Cx}{Γ:Ct}{W:XW}{st:Stmt}{e:Expr}
theorem y0:sW X Γ W st DK:=λ_ _ _ _ _ _ ⟨_,_,_,_,_,_,e,_⟩=>nomatch e
end
theorem BA{X:Cx}{Γ:Ct}{W:XW}:(21,X,.BitXor,rD Γ W Gx):=λpins s σ H x y v u Q I rx ry ⟨Hs,d1,d2,r,sm,r1,r2,e,q⟩=>by
 obtain⟨i,j,rfl,rfl,e⟩:=(30,λi j=>if 0<=i/\0<=j then okI (((i.toNat ||| j.toNat:Nat):Int) - ((i.toNat &&& j.toNat:Nat):Int)) else none,e);obtain⟨h,rfl⟩:=bP e;exact Qg pins s σ H x y v u Q I rx ry (4,i,j,ak.mp r1,ak.mp r2,by dsimp only;unfold Builtin.bitXor;rw[Mr h.1 h.2,GJ h.1 h.2];exact gG sm q [52])
def xW(j:Nat)(g:MP):MC:=λρ=>(g ρ).bind λp=>match p.2[j]? with
 |some (some (.own (.par a o)))=>(1,.ret (.two p.1 a o))
 |_=>none
def Bi(g:MP):MC:=λρ=>(g ρ).map λp=>.ret (.sh p.1)
def Bj(i:Nat)(g:MP):MC:=λρ=>(g ρ).bind λp=>x9 i p.2 λds=>if ds.length<lim then(46,p.2.set i (52,(ds++[p.1]))) else none
def Cj(a:ME)(g:MP):MP:=λρ=>match a ρ with
 |some (.ok (.sh x))=>(g ρ).map λp=>((22,[x,p.1]),p.2)
 |_=>none
def jI(g:MP)(body:MC):Nat->aC->(8,pR)
 |0,_=>none
 |n+1,ρ=>match g ρ with
  |some (.bl true,ρ1)=>(46,ρ1)
  |some (.bl false,ρ1)=>(match body ρ1 with
   |some (.next ρ2)=>jI g body n ρ2
   |_=>none)
  |_=>none
def FJ(n:Nat)(g:MP)(body:MC):MC:=λρ=>jI g body n ρ
section
variable{X:Cx}{Γ:Ct}{W:XW}{i j:Nat}{x:Str}{px pos apos cpos:Pos}{e a:Expr}{g:MP}{ga:ME}
theorem Bs(he:PM X Γ e g):sW X Γ W (.Return (1,e) pos) (xW j g):=PS.imp (uX he) λpins s σ H D I ⟨B0,B1,Hs,ρ,o,re,e,q⟩=>by
 unfold xW at e;cases h:g ρ with
 |none=>rw[h] at e;cases e
 |some p=>
  rw[h] at e;dsimp only[Option.bind_some] at e;refine⟨B0,B1,Hs,ρ,p.1,p.2,re,h,λv Hs' H' sm re' rp=>?_⟩;split at e
  ·rename_i c u hd;cases e;obtain⟨c',ho,f1,f2,f3,f4,f5⟩:=re'.own j _ hd;have f6:c'=c/\gg Γ Hs' c' u ho:=f5;obtain⟨z,f7⟩:=f6;subst z;exact q v Hs' H' sm re'.b (4,rp,ho,f3,f4,f7)
  ·cases e
theorem K7(he:PM X Γ e g):sW X Γ W (.Return (1,e) pos) (Bi g):=PS.imp (uX he) λpins s σ H D I ⟨B0,B1,Hs,ρ,o,re,e,q⟩=>by
 unfold Bi at e;cases h:g ρ with
 |none=>rw[h] at e;cases e
 |some p=>
  rw[h] at e;cases e;exact⟨B0,B1,Hs,ρ,p.1,p.2,re,h,λv Hs' H' sm re' rp=>q v Hs' H' sm re'.b (cS.of rp)⟩
theorem K9(hv:PE X [50] (ka i))(he:PM X Γ e g)(hs:(4,[e])=(false,(14,e))::(4,[]):=by rfl)
  (hbase:attributeBase [50] "append" X.env (14,[50])=(14,[50]):=by rfl)
  (hfew:((7,cpos,[e]).all (λx=>!x.1) && (15,cpos,[],X.env).all (λx=>x.1.isSome) && decide ([e].length+([]:List Keyword).length+(if([]:List Keyword).isEmpty then 0 else 1)<30))=true:=by rfl)
  (hline:(apos.endLine == cpos.line)=true:=by rfl) (hplain:(7,cpos,[]).any (·.1)=false:=by rfl) (hsw:(28,(5,(8,[50],"append"),[e],cpos),none,pos.line)=pure false:=by rfl)
  (hkeep:∀ρ p,g ρ=(1,p)->p.2[i]?=ρ[i]?):
  sW X Γ W (.Expr (5,(8,[50],"append"),[e],cpos) pos) (Bj i g):=
 PS.imp (u7 (Kt PySem.F.plainAttrs_list PySem.F.slot_list_append PySem.F.type_list_append rS hv (bX he fh hs) hbase hfew hline hs hplain) hsw) λpins s σ H En I ⟨B0,B1,Hs,ρ,o,re,eo,q⟩=>by
  unfold Bj at eo;cases h:g ρ with
  |none=>rw[h] at eo;cases eo
  |some p=>
   rw[h] at eo;dsimp only[Option.bind_some] at eo;obtain⟨ds,hd,eo⟩:=ow eo;obtain⟨hl,rfl⟩:=bP eo;have hd0:ρ[i]?=(1,(52,ds)):=by rw[←hkeep ρ p h];exact hd
   obtain⟨a,ho,e1,e2,e3,e4,xs,rfl,rl⟩:=re.own i _ hd0;refine⟨(9,a),e1,.inl (11,rfl,xs,.of e4),B0,B1,Hs,ρ,p.1,p.2,re,h,λy Hs' H' sm re' rp=>?_⟩;obtain⟨a',ho',f1,f2,f3,f4,xs',rfl,rl'⟩:=re'.own i _ hd;rw[e1] at f1;cases f1;exact⟨a,xs',y,rfl,rfl,f4,by rw[←rl'.length];exact(9,hl,[13]),q σ Hs' _ sm (re'.write hd e1 (19,_,rl'.append (22,rp,.nil)))⟩
theorem Nt{x1}(ha:(24,W0,a,ga))(he:PM X Γ e g)(hs1:(4,[a,e])=(false,(14,a))::(4,[e]):=by rfl)(hs2:(4,[e])=(false,(14,e))::(4,[]):=by rfl):PM X Γ (.Tuple [a,e] x1 pos) (Cj ga g):=
 (78,Kk (bX ha (bX he fh hs2) hs1)) λ_ _ σ H Q _ ⟨B0,B1,Hs,ρ,d,ρ',re,e,q⟩=>by
  unfold Cj at e;split at e
  ·rename_i x hx;cases h:g ρ with
   |none=>rw[h] at e;cases e
   |some p=>
    rw[h] at e;cases e;refine(3,B1,Hs,ρ,_,re,hx,λv Hs1 H1 g1 rs=>⟨B0,B1,Hs1,ρ,p.1,p.2,re.grow g1,h,λy Hs2 H2 sm2 re2 rp2=>?_⟩);have rx:(33,Hs1,x,v):=rs;refine(3,by show 2<=sizeLine;decide,λc hc=>?_)
    have gn:Grow Hs2 H2 (cF Hs2 c (22,[v,y])) (cF H2 c (22,[v,y])):=.new re2.b.i hc;exact q (9,c) _ _ ((g1.s.trans sm2).trans gn.s) (re2.grow gn) (bx.mpr (4,c,[v,y],rfl,.inl (.inl aG),(22,((rx.mono sm2).mono gn.s),(22,rp2.mono gn.s,.nil))))
  ·cases e
theorem DM{c:Expr}{body:List Stmt}{gb:MC}{n:Nat}(hp:PassesOwn (model X.prog X.w) X.A X.env X.xe)(he:PM X Γ c g)(hb:lJ X Γ W body gb)(hev:∀whole,isTrue c X.env whole=(do let v ←whole;standAt c.pos;holding [v] (truthy v)):=by intro _;rfl){npos:Pos}:
  sW X Γ W (.While (.UnaryOp .Not c npos) body [] pos) (FJ n g gb):=PS.imp (Ka hp (K3 (K1 he hev)) hb) λpins s σ H D I ⟨B0,B1,Hs0,ρ,o,re,e,q⟩=>by
 refine⟨λm σ H=>∃Hs ρ,aM Hs0 Hs/\RE Γ B0 B1 Hs H σ ρ/\jI g gb m ρ=[46],⟨n,Hs0,ρ,.refl _,re,e⟩,?_⟩
 rintro m σ H ⟨Hs,ρ,sm,re,e⟩
 cases m with
 |zero=>cases e
 |succ m=>
  unfold jI at e;split at e
  ·rename_i ρ1 h;cases e;refine⟨B0,B1,Hs,ρ,.bl true,ρ1,re,h,λv Hs' H' sm' re' rp=>(11,true,aI.mp rp,?_)⟩;show D.nx σ H';exact q σ Hs' H' (sm.trans sm') re'
  ·rename_i ρ1 h;refine⟨B0,B1,Hs,ρ,.bl false,ρ1,re,h,λv Hs' H' sm' re' rp=>(11,false,aI.mp rp,?_)⟩;split at e
   ·rename_i ρ2 hb2;refine⟨λσ' H'=>∃Hs' ρ',aM Hs0 Hs'/\RE Γ B0 B1 Hs' H' σ' ρ'/\jI g gb m ρ'=[46],λσ' H' z=>(11,m,lt_succ_self _,z),?_⟩;exact(3,B1,Hs',ρ1,_,re',hb2,λσ' Hs2 H2 sm2 re2=>(4,Hs2,ρ2,(sm.trans sm').trans sm2,re2,e))
   ·cases e
  ·cases e
end
structure AB(K:Frag)(cls:String->Addr)(m qual:Str)(st:Stmt)(ps:List Str)(c:String)(n:Int):Prop where
 ex:∃(f:Addr)(fd:FuncData)(t:Tok)(oc:Value)(od:(8,Addr))(dV kV doc pm:Value)(an:(8,Addr))(cdv ct:Value)(osl:Array [30]),
  fd=(1,m,qual,bT st,aS st,[60],dV,kV,pm,an,cdv,ct)/\K.lookup f=(1,(10,oc,od,.func fd,osl))/\codeIn K cdv qual=true/\eJ K fd ps []/\eJ K fd ps [.int n t]/\fB K [37]/\D4 K [37] m f
def sj(P:Program)(w:World)(K:Frag)(mg:Str->[30])(base:Heap)(Γ:Ct)(k:Nat)(m:Str)(ps:[16])(F:MF)(c:String)(n:Int):Prop:=
 ∃f fd t,dR P w K mg base lK k f fd ps (Tq Γ F)/\eJ K fd ps []/\eJ K fd ps [.int n t]/\fB K (Γ.cls c)/\D4 K (Γ.cls c) m f
section
variable{P:Program}{w:World}{K:Frag}{mg:Str->Option Value}{base:Heap}{Γ:Ct}
theorem m8{x qual:Str}{st:Stmt}{N ps:[16]}{k:Nat}{g:MC}{c:String}(L:cW K Γ.cls x qual st ps [c])(S:(23,N,ps,st))(hN:ps.length<=N.length)
  (body:∀(f:Addr)(cdv:Value)(A:Around)(outer:List PySem.Env)(s:Shared)(H:Hp)(E:XK),cu k (2,qual,[60],[15],f,cdv)->(8,Γ,W0,aS st,g)):
  mG P w K mg base Γ (k+1) x ps (ID 0 ps.length N.length g) c:=by
 obtain⟨f,fd,F,hb,hc⟩:=L.ex;exact⟨f,fd,Ui F S hN (body f),hb,(hc c mem_cons_self).1,(hc c mem_cons_self).2⟩
theorem sj.all{k:Nat}{m:Str}{ps:[16]}{F:MF}{c:String}{n:Int}(h:sj P w K mg base Γ k m ps F c n):mG P w K mg base Γ k m ps F c:=by
 obtain⟨f,fd,t,G,hb,_,h1,h2⟩:=h;exact⟨f,fd,G,hb,h1,h2⟩
theorem KD{j:Nat}{g:MC}{N:[16]}{vs:[38]}{H:Hp}{Q:VK}{np:Nat}(hN:np<=N.length)(sp:RS Γ (ID j np N.length g) vs H Q):tS Γ W0 g {nx:=λ_ H'=>Q .non H',rt:=Q} (L2.start N vs) H:=by
 obtain⟨a,xs,ys,Hs,o,ho,ds,es,d,o',ev,sm,hs,hh,ro,r1,r2,e,q,tb⟩:=sp;obtain⟨h1,h2,h3⟩:=qJ e;have h3:=h3 a;subst ev;have re:=xZ (N:=N) sm hs hh ro r1 r2 tb [11]
 cases h:g (lM N.length a o ds es) with
 |none=>rw[h] at h3;cases h3
 |some out=>
  rw[h] at h3;refine⟨Hs,DL H a,Hs,lM N.length a o ds es,out,re,h,?_⟩;cases out with
  |next ρ'=>
   intro σ' Hs' H' _ re';unfold n9 at h3;dsimp only at h3;split at h3
   ·rename_i b u hd;split at h3
    ·rename_i hba;subst hba;cases h3;obtain⟨c,ho',f1,f2,f3,f4,f5⟩:=re'.own j _ hd;have f6:c=b/\gg Γ Hs' c o' ho':=f5;obtain⟨z,f7⟩:=f6;subst z;exact q .non Hs' H' ho' (qI re'.b f3) f3 f4 f7 (cy.mpr rfl)
    ·cases h3
   ·cases h3
  |brk ρ'=>cases h3
  |cont ρ'=>cases h3
  |ret s=>
   cases s with
   |sh _=>cases h3
   |own _=>cases h3
   |two d1 b o1=>
    unfold n9 at h3;dsimp only at h3;split at h3
    ·rename_i hba;subst hba;cases h3;intro v Hs' H' _ g' rs;obtain⟨rp,ho',z1,z2,z3⟩:=rs;exact q v Hs' H' ho' (qI g' z1) z1 z2 z3 rp
    ·cases h3
  |exc x=>cases h3
theorem BZ{x qual:Str}{st:Stmt}{N ps:[16]}{k:Nat}{g:MC}{c:String}{n:Int}(L:AB K Γ.cls x qual st ps c n)(S:(23,N,ps,st))(hN:ps.length<=N.length)
  (body:∀(f:Addr)(cdv:Value)(A:Around)(outer:List PySem.Env)(s:Shared)(H:Hp)(E:XK),cu k (2,qual,[60],[15],f,cdv)->(8,Γ,W0,aS st,g)):
  sj P w K mg base Γ (k+1) x ps (ID 0 ps.length N.length g) c n:=by
 obtain⟨f,fd,t,oc,od,dV,kV,doc,pm,an,cdv,ct,osl,rfl,lk,hcd,hb,hb2,h1,h2⟩:=L.ex;refine⟨f,_,t,P3 lk hcd S (λvs H Q E ⟨a,xs,ys,Hs,o,ho,ds,es,d,o',ev,sm,hs,hh,ro,r1,r2,e,q,tb⟩=>?_) (λA outer s H vs Q E hr sp=>(11,tS Γ W0 g,tO.nox (body f cdv A outer s H E hr),KD hN sp)),hb,hb2,h1,h2⟩;obtain⟨z1,z2,_⟩:=qJ e;rw[ev,length_append,length_cons,←r1.length,←r2.length];omega
theorem Iu{cls:String->Addr}{x qual:Str}{st:Stmt}{ps:[16]}{n:Int}{f td:Addr}{oc tc:Value}{od an te:(8,Addr)}{osl ts:Array [30]}{kV doc pm cdv ct:Value}{tn:Nat}{tt:Tok}{c:String}
  (l:K.lookup f=(1,(10,oc,od,.func (1,x,qual,bT st,aS st,[60],(9,td),kV,pm,an,cdv,ct),osl))) (cd:codeIn K cdv qual=true) (k:(39,K,f)=true) (i:isFn K (9,f)=true) (t:K.lookup td=(1,(10,tc,te,.seq #[.int n tt] tn,ts)))
  (hb:∀(kV doc pm:Value)(an:(8,Addr))(cdv ct:Value)(us:[21]),us.length=ps.length->∃q,bindArgs (1,x,qual,bT st,aS st,[60],(9,td),kV,pm,an,cdv,ct) (3,us,[])=(seqItems? (9,td) >>= q)/\q (some #[.int n tt])=pure (ps.zip us))
  (hb2:∀(kV doc pm:Value)(an:(8,Addr))(cdv ct:Value)(us:[21]),us.length+1=ps.length->∃q,bindArgs (1,x,qual,bT st,aS st,[60],(9,td),kV,pm,an,cdv,ct) (3,us,[])=(seqItems? (9,td) >>= q)/\q (some #[.int n tt])=pure (ps.zip (us++[.int n tt])))
  (hc:∀c'∈[c],fB K (cls c')/\(7,K,cls c',x)=(33,f)):AB K cls x qual st ps c n:=by
 refine⟨f,_,tt,oc,od,(9,td),kV,doc,pm,an,cdv,ct,osl,rfl,l,cd,λs us hK hl=>?_,λs us hK hl=>?_,(hc c mem_cons_self).1,(hc c mem_cons_self).2,i,k⟩
 ·rw[append_nil] at hl ⊢;obtain⟨q,h1,h2⟩:=hb kV doc pm an cdv ct us hl;exact .of_defaults rfl (hK td _ t) rfl h1 h2
 ·rw[length_append,length_singleton] at hl;obtain⟨q,h1,h2⟩:=hb2 kV doc pm an cdv ct us hl;exact .of_defaults rfl (hK td _ t) rfl h1 h2
end
section
variable{X:Cx}{Γ:Ct}{k i:Nat}{ps:List Str}{x m:Str}{px pos apos:Pos}{F:MF}{c:String}{n:Int}
theorem Kf{pl:Sem Bool}(h:sj X.prog X.w X.K X.mg X.base Γ k m ps F c n)(hr:cu k X.A)(hv:PE X [50] (ka i))
  (ht:(14,(5,(8,[50],m),[],pos))=(do
   let ov ←eval (.Name x px) X.env
   standAt apos.atName
   let (f,first) ←holding [ov] (getMethod ov m pl)
   callWith pos f first (7,pos,[]) (15,pos,[],X.env)):=by rfl):
  PM X Γ (5,(8,[50],m),[],pos) (i9 c i m F [(3,n)]):=by
 obtain⟨f,fd,t,G,_,hb,c1,c2⟩:=h;refine(78,Bv (E:=E0) (dvs:=[(16,n)]) (ds:=[.int n t]) (pl:=pl) hv c1 c2 G hr hb (22,(3,t,rfl),.nil) oV ht) λ_ _ σ H Q _ ⟨B0,B1,Hs,ρ,d,ρ',re,e,q⟩=>?_;obtain⟨o,ns,ds,es',o',hd,ec,hn,e2,e3,rfl⟩:=ma e;have e2':(1,[D.int n])=(1,es'):=e2;cases e2';obtain⟨a,ho,f1,f2,f3,f4,f5⟩:=re.own i o hd;obtain⟨dx,xs,rfl,rl⟩:=f5.objAt ec;refine⟨(9,a),f1,a,dx,_,rfl,f4,dt hn,?_⟩;show RS Γ F [(9,a),(16,n)] H Q;exact⟨a,[],[(16,n)],Hs,o.core,_,[],[(16,n)],d,o',rfl,re.b.i,f3,f4,f5.core,.nil,(22,[52],.nil),e3,λv Hs' H' ho' gx hn hh ro rp=>q v Hs' H' gx.s (re.called hd f1 gx hn hh (gg.put f5 ro)) rp,re.tb⟩
theorem Ey{gs:List ME}{j:Nat}(h:i≠j):∀ρ p,i9 c i m F gs ρ=(1,p)->p.2[j]?=ρ[j]?:=λρ p e=>by
 obtain⟨d,ρ'⟩:=p;obtain⟨o,ns,ds,es',o',hd,ec,hn,e2,e3,rfl⟩:=ma e;show(72,_)[j]?=_;rw[(32,h)]
end
abbrev wB(kvs:Ti):List (Key×V):=kvs.map λp=>(Sum.inl p.1,V.int p.2)
theorem nZ(k:Int):∀kvs:Ti,jK (wB kvs) (Sum.inl k)=(j7 kvs k).map V.int
 |[]=>rfl
 |p::r=>by
  have ih:=nZ k r;by_cases h:p.1=k
  ·have:((Sum.inl p.1:Key))=Sum.inl k:=by rw[h]
   rw[show wB (p::r)=(Sum.inl p.1,V.int p.2)::wB r from rfl,eR (p:=((Sum.inl p.1:Key),V.int p.2)) this];unfold j7;rw[find?_cons,(51,h)];rfl
  ·have:¬(Sum.inl p.1:Key)=Sum.inl k:=λz=>h (Sum.inl.inj z);rw[show wB (p::r)=(Sum.inl p.1,V.int p.2)::wB r from rfl,eS (p:=((Sum.inl p.1:Key),V.int p.2)) this,ih];unfold j7;rw[find?_cons,(40,h)]
theorem Az(k:Int):∀kvs:Ti,((wB kvs).any λkv=>decide (kv.1=Sum.inl k))=kvs.any λp=>decide (p.1=k)
 |[]=>rfl
 |p::r=>by
  have ih:=Az k r;rw[show wB (p::r)=(Sum.inl p.1,V.int p.2)::wB r from rfl,any_cons,any_cons,ih];congr 1;exact decide_eq_decide.mpr (3,λz=>Sum.inl.inj z,λz=>by rw[z])
theorem FN(kvs:Ti)(k v:Int):oJ (wB kvs) (Sum.inl k) (V.int v)=wB (mS kvs k v):=by
 unfold oJ mS;rw[Az];split
 ·unfold wB;rw[map_map,map_map];refine map_congr_left λp _=>?_;show(if(Sum.inl p.1:Key)=Sum.inl k then((Sum.inl p.1:Key),V.int v) else(Sum.inl p.1,V.int p.2))=(Sum.inl (if p.1=k then(p.1,v) else p).1,V.int (if p.1=k then(p.1,v) else p).2);by_cases h:p.1=k
  ·rw[(25,h),(25,by rw[h])]
  ·rw[(29,h),(29,(λz=>h (Sum.inl.inj z)))]
 ·unfold wB;rw[map_append];rfl
section
variable{X:Cx}{Γ:Ct}{W:XW}{i:Nat}{x:Str}{px apos cpos pos pos' zpos:Pos}{k e:Expr}{gk ge:ME}
theorem MZ{σ:L2.St}{H:Hp}{Q:VK}(t:tD Γ W (vP false i gk) σ H Q):RO (tD Γ W gk) (ka i) σ H Q:=by
 obtain⟨B0,B1,Hs,ρ,r,re,e,q⟩:=t;obtain⟨kvs,kk,hd,eg,rfl⟩:=F0 e;obtain⟨a,ho,e1,e2,e3,e4,hq⟩:=re.own i _ hd;have hq:ho=.dK (wB kvs):=hq;subst hq;refine(3,B1,Hs,ρ,.ok (.sh (16,kk)),re,eg,λv Hs' H' g rs=>?_);obtain rfl:v=.int kk:=ak.mp (show(33,Hs',(16,kk),v) from rs);refine⟨(9,a),e1,a,_,rfl,xH.k (k:=Sum.inl kk) (g.h _ _ e4),?_⟩;rw[nZ,Option.isSome_map];refine q _ Hs' H' g (37,?_);rw[Bool.false_bne]
theorem NG(hu:X.A.units+1<cLine)(hv:PE X [50] (ka i))(hk:(25,k,gk)):(25,.Compare k [.In] [[50]] pos,vP false i gk):=(78,Kr (Qf hu hk hv)) λ_ _ _ _ _ _ t=>MZ t
theorem By{z:Int}{jz:Nat}(hu:X.A.units+1<cLine)(hv:PE X [50] (ka i))(hk:(25,k,gk))(m:M2 X [50] "get" apos k (.Constant (16,z) jz zpos) cpos:=by exact(10,rfl,rfl,rfl,rfl)):
  (25,(5,(8,[50],"get"),[k,.Constant (16,z) jz zpos],cpos),sN i gk z):=
 (78,Kq hu hv hk DS m) λ_ _ σ H Q _ ⟨B0,B1,Hs,ρ,r,re,e,q⟩=>by
  obtain⟨kvs,kk,hd,eg,rfl⟩:=F1 e;obtain⟨a,ho,e1,e2,e3,e4,hq⟩:=re.own i _ hd;have hq:ho=.dK (wB kvs):=hq;subst hq;refine⟨(9,a),e1,a,rfl,.inl (3,_,.inl e4),B0,B1,Hs,ρ,.ok (.sh (16,kk)),re,eg,λv Hs' H' g rs=>?_⟩;obtain rfl:v=.int kk:=ak.mp (show(33,Hs',(16,kk),v) from rs);refine(11,jK (wB kvs) (Sum.inl kk),xH.k (k:=Sum.inl kk) (g.h _ _ e4),?_);rw[nZ];have ev:((j7 kvs kk).map V.int).getD (V.int z)=V.int ((j7 kvs kk).getD z):=by cases j7 kvs kk <;> rfl
  rw[ev];exact q _ Hs' H' g (cS.of [52])
theorem Hq(hu:X.A.units+1<cLine)(hv:PE X [50] (ka i))(hk:(25,k,gk))(he:(25,e,ge))(hs:(28,e,(1,.Subscript [50] k pos'),pos.line)=pure false:=by rfl):
  sW X Γ W (.Assign [.Subscript [50] k pos'] e pos) (xX i gk ge):=
 PS.imp (Nn hu hv hk he hs) λpins s σ H En I ⟨B0,B1,Hs,ρ,o,re,eo,q⟩=>by
  obtain⟨v,kvs,kk,hge,hd,hgk,hl,rfl⟩:=DJ eo;obtain⟨a,ho,e1,e2,e3,e4,hq⟩:=re.own i _ hd;have hq:ho=.dK (wB kvs):=hq;subst hq;refine(3,B1,Hs,ρ,.ok (.sh (16,v)),re,hge,λy Hs1 H1 g1 rs=>?_);obtain rfl:y=.int v:=ak.mp (show(33,Hs1,(16,v),y) from rs);have re1:=re.grow g1;refine⟨(9,a),e1,B0,B1,Hs1,ρ,.ok (.sh (16,kk)),re1,hgk,λy3 Hs3 H3 g3 rs3=>?_⟩;obtain rfl:y3=.int kk:=ak.mp (show(33,Hs3,(16,kk),y3) from rs3);refine(4,a,_,rfl,Fo.k (k:=Sum.inl kk) (g3.h _ _ (g1.h _ _ e4)) (by unfold wB;rw[length_map];exact(9,hl,[13])),?_)
  refine q σ Hs3 _ (g1.s.trans g3.s) ((re1.grow g3).write hd e1 ?_);show HO.dK _=HO.dK _;rw[FN]
theorem Hr(hN:X.N.Nodup)(hi:X.N[i]?=(1,x))(hx:Fk [53] x)(hs:(28,.Dict [] [] zpos,(1,(23,pos')),pos.line)=pure false:=by rfl)
  (hf:X.fn x=true\/[28]=[56]:=by first|exact[42]|exact .inr rfl|assumption):sW X Γ W (.Assign [(23,pos')] (.Dict [] [] zpos) pos) (OQ i):=
 PS.imp (Kb hN hi hx Kp hs hf) λpins s σ H En I ⟨B0,B1,Hs,ρ,o,re,eo,q⟩=>by
  cases eo;intro p hp;refine q _ Hs _ (.refl _) ((re.grow (.newOwn re.b.i hp)).setOwn (by rw[I.len];exact(17,hi).1) (re.b.h.free hp) (re.b.i.free hp) aG rfl λj u _ hj z=>?_)
  obtain⟨c,hc,f1,_,_,f4,_⟩:=re.own j u hj;rw[z] at f1;cases f1;rw[hp] at f4;cases f4
theorem IV:dj X (44,"len") (λxs H Q=>∃a kvs,xs=[(9,a)]/\H a=(1,.dK kvs)/\Q (16,kvs.length) H):=λpins s σ H xs us Q I r ⟨a,kvs,ex,h,q⟩=>by
 subst ex;obtain⟨u,rfl,ru⟩:=kR r;cases ru;exact SU I (.inl h) λt s' I'=>(4,(16,kvs.length),H,I',(3,t,rfl),q)
theorem ND{p:Pos}(hg:Gl X "len")(hm:X.mg "len" = none)(hv:PE X [50] (ka i))(hs:(4,[[50]])=(false,(14,[50]))::(4,[]):=by rfl)(hpl:(7,pos,[]).any (·.1)=false:=by rfl):
  (25,(5,.Name "len" p,[[50]],pos),Gm i):=
 (78,l3 IV hg hm PySem.boot_len (bX hv fh hs) [13] [13] hs hpl) λ_ _ σ H Q _ ⟨B0,B1,Hs,ρ,r,re,e,q⟩=>by
  obtain⟨kvs,hd,ec⟩:=Gq e;cases ec;obtain⟨a,ho,e1,e2,e3,e4,hq⟩:=re.own i _ hd;have hq:ho=.dK (wB kvs):=hq;subst hq;refine⟨(9,a),e1,a,_,rfl,e4,?_⟩;have:(wB kvs).length=kvs.length:=length_map ..;rw[this];exact q _ Hs H (.refl re.b.i) (cS.of [52])
theorem NF{p p':Pos}(hg:Gl X "isinstance")(hm:X.mg "isinstance" = none)(hg2:Gl X "dict")(hm2:X.mg "dict" = none)(hv:PE X [50] (ka i))(hb:(60,"dict") = (1,(54,"dict")):=by decide +kernel)
  (hs1:(4,[[50],.Name "dict" p'])=(false,(14,[50]))::(4,[.Name "dict" p']):=by rfl) (hs2:(4,[.Name "dict" p'])=(false,(14,.Name "dict" p'))::(4,[]):=by rfl)
  (hpl:(7,pos,[.Name "dict" p']).any (·.1)=false:=by rfl):(25,(5,.Name "isinstance" p,[[50],.Name "dict" p'],pos),Gn i):=
 (78,l3 sR hg hm boot_isinstance (bX hv (bX (FW (v:=.ty "dict") hg2 hm2 hb rfl [13] [13]) fh hs2) hs1) [13] [13] hs1 hpl) λ_ _ σ H Q _ ⟨B0,B1,Hs,ρ,r,re,e,q⟩=>by
  obtain⟨kvs,hd,ec⟩:=Gq e;cases ec;obtain⟨a,ho,e1,e2,e3,e4,hq⟩:=re.own i _ hd;have hq:ho=.dK (wB kvs):=hq;subst hq;exact⟨(9,a),e1,(9,a),"dict","dict",true,rfl,.inl (.dK e4),rfl,q _ Hs H (.refl re.b.i) (37,rfl)⟩
theorem K5{j:Nat}{rest:List Stmt}{g:MC}(h:lJ X Γ W rest g):lJ X Γ W rest (RU j g):=tO.imp h λD σ H ⟨B0,B1,Hs,ρ,o,re,e,q⟩=>
 ⟨B0,B1,Hs,ρ.set j none,o,re.sub (by rw[length_set,re.len]) λi s z=>by
  by_cases hj:j=i
  ·subst hj;by_cases hl:j<ρ.length
   ·rw[(35,hl)] at z;cases z
   ·rw[(70,(by rw[length_set];omega))] at z;cases z
  ·rw[(32,hj)] at z;exact(3,z,rfl),e,q⟩
end
end L3
namespace L3
open PySem
section
variable{ρ ρ' ρ1:aC}{a b c:ME}{x y:MC}{o:Option pR}{s t:S}{r:Option R}
theorem bK(h:x ρ=(1,.ret s)):aF x y ρ=(1,.ret s):=by unfold aF;rw[h]
theorem aa(h:x ρ=(46,ρ'))(h2:y ρ'=o):aF x y ρ=o:=by unfold aF;rw[h];exact h2
theorem dH{u v:MC}(h:c ρ=okB true)(h2:u ρ=o):iw c u v ρ=o:=by unfold iw;rw[h];exact h2
theorem bq{u v:MC}(h:c ρ=[64])(h2:v ρ=o):iw c u v ρ=o:=by unfold iw;rw[h];exact h2
theorem ax{i:Nat}(h:a ρ=(34,s)):bF i a ρ=(46,(72,(1,s))):=by unfold bF;rw[h];rfl
theorem aU(h:a ρ=(34,s)):bL a ρ=(1,.ret s):=by unfold bL;rw[h];rfl
theorem cE{i:Nat}(h:x (dem i ρ)=o):fE i x ρ=o:=h
theorem iY{i:Nat}{ds:[20]}(h0:ρ[i]?=(1,(52,ds)))(h:a ρ=(34,s))(hl:ds.length<lim):gY i a ρ=(46,(72,(52,(ds++[s.val])))):=by
 unfold gY x9;rw[h0];dsimp only;rw[h];dsimp only[ik];rw[(25,hl)]
theorem LQ{i:Nat}{ds es:[20]}(h0:ρ[i]?=(1,(52,ds)))(h:a ρ=(34,s))(hi:qH s.val=(1,es))(hl:ds.length+es.length<=lim):u4 i a ρ=(46,(72,(52,(ds++es)))):=by
 unfold u4 x9;rw[h0];dsimp only;rw[h];dsimp only[ik];rw[hi];dsimp only;rw[(25,hl)]
theorem kx{it:MI}{bd:MB}{body:MC}{ds:[20]}(h:it ρ=(34,ds))(h2:k0 bd body ds ρ=o):mI it bd body ρ=o:=by unfold mI;rw[h];exact h2
theorem aH{np n:Nat}{g:MC}{ds:[20]}(hl:ds.length=np)(h:g (cG n ds)=(1,.ret s)):iZ np n g ds=(34,s):=by unfold iZ;rw[(25,hl),h];rfl
theorem a8{f:D->D->[57]}(h1:a ρ=(34,s))(h2:b ρ=(34,t))(h3:f s.val t.val=r):ag f a b ρ=r:=by unfold ag;rw[h1];dsimp only[bg];rw[h2];exact h3
theorem wC{f:D->[57]}(h1:a ρ=(34,s))(h3:f s.val=r):kN f a ρ=r:=by unfold kN;rw[h1];exact h3
theorem il(h:a ρ=okB true)(h2:b ρ=r):fZ a b ρ=r:=by unfold fZ;rw[h];exact h2
theorem pb(h:a ρ=[64]):fZ a b ρ=[64]:=by unfold fZ;rw[h];rfl
theorem Si(h:a ρ=okB true):Gk a b ρ=okB true:=by unfold Gk;rw[h];rfl
theorem HC(h:a ρ=[64])(h2:b ρ=r):Gk a b ρ=r:=by unfold Gk;rw[h];exact h2
theorem OV{z:Bool}(h:a ρ=okB z):rZ a ρ=okB (!z):=by unfold rZ kN;rw[h];rfl
theorem sC(h:a ρ=okB true):rZ a ρ=[64]:=OV h
theorem Sr(h:a ρ=[64]):rZ a ρ=okB true:=OV h
theorem bY{F:([20])->[57]}{e1:ME}{s1:S}(h1:e1 ρ=(34,s1))(h:F [s1.val]=r):aq F [e1] ρ=r:=by unfold aq cA;rw[h1];exact h
theorem br{F:([20])->[57]}{e1 e2:ME}{s1 s2:S}(h1:e1 ρ=(34,s1))(h2:e2 ρ=(34,s2))(h:F [s1.val,s2.val]=r):aq F [e1,e2] ρ=r:=by
 unfold aq cA;rw[h1];dsimp only[bg];unfold cA;rw[h2];exact h
theorem bf{F:([20])->[57]}{e1 e2 e3:ME}{s1 s2 s3:S}(h1:e1 ρ=(34,s1))(h2:e2 ρ=(34,s2))(h3:e3 ρ=(34,s3))(h:F [s1.val,s2.val,s3.val]=r):aq F [e1,e2,e3] ρ=r:=by
 unfold aq cA;rw[h1];dsimp only[bg];unfold cA;rw[h2];dsimp only[bg];unfold cA;rw[h3];exact h
theorem kS{e1 e2:ME}{s1 s2:S}(h1:e1 ρ=(34,s1))(h2:e2 ρ=(34,s2)):bj [e1,e2] ρ=(76,[s1.val,s2.val]):=br h1 h2 rfl
theorem gd{e1:ME}{s1:S}{n:Int}(h1:e1 ρ=(34,s1))(h:cm s1.val=okI n):aL (f1 cm) [e1] ρ=okI n:=by
 have:cA [e1] ρ (f1 cm)=okI n:=bY (F:=f1 cm) h1 h;unfold aL;rw[this];rfl
theorem cg{i:Nat}{d:D}(h:ρ[i]?=(1,(6,d))):a9 i ρ=okD d:=by unfold a9;rw[h]
theorem lI{i:Nat}(h:ρ[i]?=(31,s))(hn:s.nd=true:=by rfl):eO i ρ=okD s.val:=by
 unfold eO;rw[h];cases s with
 |sh d=>rfl
 |own o=>cases o with
  |lst _=>rfl
  |obj _ _ _=>rfl
  |dic _=>cases hn
  |par _ _=>cases hn
  |fdic _=>cases hn
  |tab _=>cases hn
  |dik _=>rfl
 |two _ _ _=>cases hn
theorem j6{ds:[20]}(h:a ρ=(34,s))(hi:qH s.val=(1,ds)):iW a ρ=(34,ds):=by unfold iW;rw[h];dsimp only;rw[hi];rfl
theorem eT{i:Int}(h:a ρ=okI i)(hr:jb i=true):cz a ρ=(34,rng 0 i):=by unfold cz xw;rw[h];dsimp only[S.val];rw[(25,hr)]
theorem RX{ds:[20]}{k:Int}(h1:a ρ=okL ds)(h2:b ρ=okI k)(hk:-(2 ^ 60)<=k/\k<2 ^ 60/\ds.length * k.toNat<=lim):M0 a b ρ=okL (replicate k.toNat ds).flatten:=by
 unfold M0;rw[h1];dsimp only;rw[h2];exact(25,hk)
theorem add_int(i j:Int):aO (16,i) (16,j)=okI (i+j):=rfl
theorem sub_int(i j:Int):kO (16,i) (16,j)=okI (i - j):=rfl
theorem mul_int{i j:Int}(h:(kG i || kG j)=true):ip (16,i) (16,j)=okI (i * j):=by unfold ip;exact(25,h)
theorem uc{i j:Int}(h:0<j):Ah (16,i) (16,j)=okI (i % j):=by unfold Ah;exact(25,h)
theorem Bb{i:Int}(h1:-(2 ^ 60)<=i)(h2:i<=2 ^ 60):kG i=true:=by unfold kG;simp;omega
theorem xp{i j:Int}(h1:-(2 ^ 60)<=i)(h2:i<=2 ^ 60):ip (16,i) (16,j)=okI (i * j):=mul_int (by rw[Bb h1 h2];rfl)
theorem Sx{i j:Int}(h1:-(2 ^ 60)<=j)(h2:j<=2 ^ 60):ip (16,i) (16,j)=okI (i * j):=mul_int (by rw[Bb h1 h2,Bool.or_true])
theorem ix_tup{ds:[20]}{d:D}{n:Nat}(h:ds[n]?=(1,d)):aT (22,ds) (16,n)=okD d:=by
 have hn:n<ds.length:=(17,h).1;show(Ff ds (n:Int)).bind okD=_;unfold Ff Mx;rw[(25,[11]),(25,[11])]
 simp[h]
theorem j5{ds:[20]}{d:D}{n:Nat}(h:ds[n]?=(1,d)):aT (13,ds) (16,n)=okD d:=ix_tup h
theorem zt(n:Nat):rng 0 n=(19,n).map λk:Nat=>D.int k:=by
 unfold rng;rw[Int.sub_zero,toNat_natCast];exact map_congr_left λk _=>by rw[Int.zero_add]
theorem cB{n:Nat}(h:n<=1000000):jb (n:Int)=true:=by unfold jb;simp;omega
theorem vJ{bd:MB}{body:MC}(Iv:Nat->aC->Prop):∀(ds:[20])(i:Nat)(ρ:aC),Iv i ρ->(∀(k:Nat)(ρ:aC)(d:D),ds[k]?=(1,d)->Iv (i+k) ρ->∃ρ1 ρ2,bd d ρ=(1,ρ1)/\body ρ1=(46,ρ2)/\Iv (i+k+1) ρ2)->
  ∃ρ',k0 bd body ds ρ=(46,ρ')/\Iv (i+ds.length) ρ'
 |[],i,ρ,h,_=>(19,ρ,h)
 |d::ds,i,ρ,h,hs=>by
  obtain⟨ρ1,ρ2,e1,e2,h2⟩:=hs 0 ρ d rfl h;obtain⟨ρ',e3,h3⟩:=vJ Iv ds (i+1) ρ2 h2 λk ρ d' e hk=>by
   obtain⟨r1,r2,f1,f2,f3⟩:=hs (k+1) ρ d' (by simpa using e) (by rw[show i+(k+1)=i+1+k by omega];exact hk)
   exact(4,r1,r2,f1,f2,by rw[show i+1+k+1=i+(k+1)+1 by omega];exact f3)
  refine(11,ρ',?_,by rw[length_cons,show i+(ds.length+1)=i+1+ds.length by omega];exact h3)
  unfold k0;rw[e1];dsimp only;rw[e2];exact e3
theorem mi{bd:MB}{body:MC}(Iv:Nat->aC->Prop)(n:Nat)(h0:Iv 0 ρ)(hs:∀(k:Nat)(ρ:aC),k<n->Iv k ρ->∃ρ1 ρ2,bd (16,k) ρ=(1,ρ1)/\body ρ1=(46,ρ2)/\Iv (k+1) ρ2):
  ∃ρ',k0 bd body (rng 0 n) ρ=(46,ρ')/\Iv n ρ':=by
 obtain⟨ρ',e,h⟩:=vJ (bd:=bd) (body:=body) Iv (rng 0 n) 0 ρ h0 λk ρ d e hk=>by
  rw[zt,getElem?_map] at e;have hk':k<n:=by
   by_cases z:k<n
   ·exact z
   ·rw[(70,(by rw[length_range];omega))] at e;cases e
  rw[getElem?_range hk'] at e;cases e;rw[zero_add] at hk ⊢;exact hs k ρ hk' hk
 rw[zero_add,zt,length_map,length_range] at h;exact(11,ρ',e,h)
theorem yv{bd:MB}{cond elt:ME}{f:D->D}:∀(ds acc:[20]),(∀d∈ds,∃ρ1 s,bd d ρ=(1,ρ1)/\cond ρ1=okB true/\elt ρ1=(34,s)/\s.val=f d)->acc.length+ds.length<=lim->iq bd cond elt ρ ds acc=okL (acc++ds.map f)
 |[],acc,_,hl=>by
  unfold iq;rw[(25,by simpa using hl)]
  simp
 |d::ds,acc,h,hl=>by
  obtain⟨ρ1,s,e1,e2,e3,e4⟩:=h d mem_cons_self;unfold iq;rw[e1];dsimp only;rw[e2];show(bg (elt ρ1) λx=>iq bd cond elt ρ ds (acc++[x]))=_;rw[e3];show iq bd cond elt ρ ds (acc++[s.val])=_;rw[e4,yv ds (acc++[f d]) (λd' hd=>h d' (30,hd)) (by rw[length_append,length_singleton];rw[length_cons] at hl;omega)]
  simp
theorem R5{js:[29]}{it:MI}{bd:MB}{cond elt:ME}{ds:[20]}(f:D->D)(hi:it ρ=(34,ds))(hl:ds.length<=lim)(h:∀d∈ds,∃ρ1 s,bd d (bE js ρ)=(1,ρ1)/\cond ρ1=okB true/\elt ρ1=(34,s)/\s.val=f d):cw js it bd cond elt ρ=okL (ds.map f):=by
 unfold cw;rw[hi];dsimp only;rw[(25,hl),yv ds [] h (by simpa using hl)]
 rfl
end
theorem Ho{lo hi:Int}(h1:jb lo=true)(h2:jb hi=true)(h3:(hi - lo).toNat<=lim):nL (16,lo) (16,hi)=okL (rng lo hi):=by
 unfold nL;exact(25,(11,h1,h2,h3))
theorem Cp(ns:[24]):intsOf [23]=(1,ns):=by
 induction ns with
 |nil=>rfl
 |cons n ns ih=>rw[map_cons];unfold intsOf;rw[ih];rfl
inductive fM:Nat->D->Prop
 |non (n):fM n .non
 |bl (n b):fM n (.bl b)
 |int (n i):fM n (16,i)
 |str (n x):fM n (.str x)
 |tup (n ds):(∀d∈ds,fM n d)->ds.length<=lim->fM (n+1) (22,ds)
 |lst (n ds):(∀d∈ds,fM n d)->ds.length<=lim->fM (n+1) (13,ds)
theorem fM.mono:∀{n m:Nat}{d:D},fM n d->n<=m->fM m d:=by
 intro n m d h
 induction h generalizing m with
 |non n=>exact λ_=>.non m
 |bl n b=>exact λ_=>.bl m b
 |int n i=>exact λ_=>.int m i
 |str n x=>exact λ_=>.str m x
 |tup n ds hd hl ih=>
  intro hm;obtain⟨k,rfl⟩:∃k,m=k+1:=(69,m - 1)
  exact .tup k ds (λd hd=>ih d hd [11]) hl
 |lst n ds hd hl ih=>
  intro hm;obtain⟨k,rfl⟩:∃k,m=k+1:=(69,m - 1)
  exact .lst k ds (λd hd=>ih d hd [11]) hl
theorem F9(ds:[20]):blsOf (ds.map λ_=>D.bl true)=(1,(ds.map λ_=>true)):=by
 induction ds with
 |nil=>rfl
 |cons d ds ih=>rw[map_cons,map_cons];unfold blsOf;rw[ih];rfl
theorem AH(ds:[20]):zipWith (λu v=>D.tup [u,v]) ds ds=ds.map λd=>D.tup [d,d]:=by
 induction ds with
 |nil=>rfl
 |cons d ds ih=>rw[List.zipWith_cons_cons,map_cons,ih]
theorem nF(i:Int):fg (16,i) (16,i)=okB true:=by unfold fg Mz;simp
theorem sM(i:Str):fg (.str i) (.str i)=okB true:=by unfold fg Mz;simp
section
variable{ρ ρ' ρ1:aC}{a b c:ME}
theorem vV{α:Type}{bd:MB}{cond elt:ME}{g:α->D}{f:α->D}{p:α->Bool}:∀(xs:List α)(acc:[20]),(∀x∈xs,∃ρ1,bd (g x) ρ=(1,ρ1)/\cond ρ1=okB (p x)/\(p x=true->∃s,elt ρ1=(34,s)/\s.val=f x))->acc.length+xs.length<=lim->iq bd cond elt ρ (xs.map g) acc=okL (acc++(xs.filter p).map f)
 |[],acc,_,hl=>by
  rw[map_nil];unfold iq;rw[(25,by simpa using hl)]
  simp
 |x::xs,acc,h,hl=>by
  obtain⟨ρ1,e1,e2,e3⟩:=h x mem_cons_self;rw[map_cons];unfold iq;rw[e1];dsimp only;rw[e2];show(if p x=true then(bg (elt ρ1) λy=>iq bd cond elt ρ (xs.map g) (acc++[y])) else iq bd cond elt ρ (xs.map g) acc)=_;rw[length_cons] at hl;by_cases hp:p x=true
  ·obtain⟨s,e4,e5⟩:=e3 hp;rw[(25,hp),e4];show iq bd cond elt ρ (xs.map g) (acc++[s.val])=_;rw[e5,vV xs (acc++[f x]) (λy hy=>h y (30,hy)) (by rw[length_append,length_singleton];omega)]
   simp[hp]
  ·rw[(29,hp),vV xs acc (λy hy=>h y (30,hy)) [11]]
   simp[hp]
theorem qR{α:Type}{js:[29]}{it:MI}{bd:MB}{cond elt:ME}(xs:List α)(g:α->D)(p:α->Bool)(f:α->D)(hi:it ρ=(34,xs.map g))(hl:xs.length<=lim)
  (h:∀x∈xs,∃ρ1,bd (g x) (bE js ρ)=(1,ρ1)/\cond ρ1=okB (p x)/\(p x=true->∃s,elt ρ1=(34,s)/\s.val=f x)):cw js it bd cond elt ρ=okL ((xs.filter p).map f):=by
 unfold cw;rw[hi];dsimp only;rw[(25,(by rw[length_map];exact hl)),vV xs [] h (by simpa using hl)]
 rfl
theorem fL{α:Type}{js:[29]}{it:MI}{bd:MB}{elt:ME}(xs:List α)(g:α->D)(f:α->D)(hi:it ρ=(34,xs.map g))(hl:xs.length<=lim)
  (h:∀x∈xs,∃ρ1,bd (g x) (bE js ρ)=(1,ρ1)/\∃s,elt ρ1=(34,s)/\s.val=f x):cw js it bd eI elt ρ=okL (xs.map f):=by
 rw[qR xs g (λ_=>true) f hi hl λx hx=>?_]
 ·rw[List.filter_eq_self.mpr (λ_ _=>rfl)]
 ·obtain⟨ρ1,e1,e2⟩:=h x hx;exact(10,ρ1,e1,rfl,λ_=>e2)
theorem nC{α:Type}{bd:MB}{body:MC}(g:α->D)(Iv:List α->aC->Prop):∀(xs pre:List α)(ρ:aC),Iv pre ρ->(∀(pre:List α)(x:α)(post:List α)(ρ:aC),x∈xs->Iv pre ρ->∃ρ1 ρ2,bd (g x) ρ=(1,ρ1)/\(body ρ1=(46,ρ2)\/body ρ1=(1,.cont ρ2))/\Iv (pre++[x]) ρ2)->
  ∃ρ',k0 bd body (xs.map g) ρ=(46,ρ')/\Iv (pre++xs) ρ'
 |[],pre,ρ,h,_=>(19,ρ,by simpa using h)
 |x::xs,pre,ρ,h,hs=>by
  obtain⟨ρ1,ρ2,e1,e2,h2⟩:=hs pre x xs ρ mem_cons_self h;obtain⟨ρ',e3,h3⟩:=nC g Iv xs (pre++[x]) ρ2 h2 λpre y post ρ hy hi=>hs pre y post ρ (30,hy) hi;refine(11,ρ',?_,by simpa using h3)
  rw[map_cons];unfold k0;rw[e1];dsimp only;rcases e2 with e2|e2 <;> rw[e2] <;> exact e3
theorem Pz(lo:Nat)(hi:Nat):rng lo hi=(19,(hi - lo)).map λk:Nat=>D.int (lo+k:Nat):=by
 unfold rng;have:((hi:Int) - (lo:Int)).toNat=hi - lo:=by omega
 rw[this];exact map_congr_left λk _=>by congr 1
theorem zi{i j:Int}(h0:0<=j)(h1:j<=1000000)(h2:i.natAbs<2 ^ 64):pL (16,i) (16,j)=okI (i * 2 ^ j.toNat):=by unfold pL;exact(25,(11,h0,h1,h2))
theorem N7(i j:Nat):tE (16,i) (16,j)=okI ((i >>> j:Nat):Int):=by
 show(if(0:Int)<=(j:Int) then okI ((i:Int) / 2 ^ (j:Int).toNat) else none)=_;rw[(25,[11]),toNat_natCast,Nat.shiftRight_eq_div_pow,Int.natCast_ediv,natCast_pow]
 rfl
theorem CY(i j:Nat):lE (16,i) (16,j)=okI ((i &&& j:Nat):Int):=by
 show(if 0<=(i:Int)/\0<=(j:Int) then okI (((i:Int).toNat &&& (j:Int).toNat:Nat):Int) else none)=_;rw[(25,[11]),toNat_natCast,toNat_natCast]
theorem Av(i j:Nat):M8 (16,i) (16,j)=okI ((i ||| j:Nat):Int):=by
 show(if 0<=(i:Int)/\0<=(j:Int) then okI (((i:Int).toNat ||| (j:Int).toNat:Nat):Int) else none)=_;rw[(25,[11]),toNat_natCast,toNat_natCast]
theorem Up(w k:Nat):(w >>> k &&& 1)=(w.testBit k).toNat:=by
 unfold Nat.testBit;rw[Nat.and_comm];have h:1 &&& w >>> k=(w >>> k) % 2:=by rw[Nat.and_comm,Nat.and_one_is_mod]
 rw[h];have:(w >>> k) % 2=0\/(w >>> k) % 2=1:=by omega
 rcases this with e|e <;> rw[e] <;> rfl
theorem Mp{w k:Nat}{a b:ME}(h1:a ρ=okI w)(h2:b ρ=okI k):ag lE (31,tE,a,b) (3,1) ρ=okI ((w.testBit k).toNat:Int):=by
 rw[←Up];exact(1,a8 h1 h2 (N7 w k),CY _ 1)
theorem OD{w k:Nat}{a b:ME}(h1:a ρ=okI w)(h2:b ρ=okI k):ag fg (9,lE,(31,tE,a,b),1) (3,1) ρ=okB (w.testBit k):=by
 refine(1,Mp h1 h2,?_);cases w.testBit k <;> rfl
theorem ui{w k:Nat}{a b:ME}(h1:a ρ=okI w)(h2:b ρ=okI k):ag fg (9,lE,(31,tE,a,b),1) (3,0) ρ=okB (!w.testBit k):=by
 refine(1,Mp h1 h2,?_);cases w.testBit k <;> rfl
theorem OC{w k:Nat}{a b:ME}(h1:a ρ=okI w)(h2:b ρ=okI k):QX (9,lE,(31,tE,a,b),1) ρ=okB (w.testBit k):=by
 refine wC (Mp h1 h2) ?_;cases w.testBit k <;> rfl
theorem GC{f g:D->D->[57]}{s t u:S}{r:[57]}(h1:a ρ=(34,s))(h2:b ρ=(34,t))(h3:f s.val t.val=okB true)(h4:c ρ=(34,u))(h5:g t.val u.val=r):pK f g a b c ρ=r:=by
 unfold pK;rw[h1];dsimp only[bg];rw[h2];dsimp only[bg];rw[h3];dsimp only[asB,S.val];rw[(25,rfl),h4];exact h5
theorem Oz{f g:D->D->[57]}{s t:S}(h1:a ρ=(34,s))(h2:b ρ=(34,t))(h3:f s.val t.val=[64]):pK f g a b c ρ=[64]:=by
 unfold pK;rw[h1];dsimp only[bg];rw[h2];dsimp only[bg];rw[h3];rfl
theorem QA(i j:Int):RA (16,i) (16,j)=okB (decide (i<=j)):=rfl
theorem SC(i j:Int):MA (16,i) (16,j)=okB (decide (i<j)):=rfl
theorem QQ(i j:Int):vU (16,i) (16,j)=okB (decide (j<i)):=rfl
theorem LW(i j:Int):fg (16,i) (16,j)=okB (decide (i=j)):=rfl
theorem U8(i j:Int):yp (16,i) (16,j)=okB (!decide (i=j)):=rfl
theorem SD{i j:Int}(h:i<=j):RA (16,i) (16,j)=okB true:=by rw[QA,(51,h)]
theorem Uc{i j:Int}(h:¬i<=j):RA (16,i) (16,j)=[64]:=by rw[QA,(40,h)]
theorem Im{i j:Int}(h:i<j):MA (16,i) (16,j)=okB true:=by rw[SC,(51,h)]
theorem xv{i j:Int}(h:¬i<j):MA (16,i) (16,j)=[64]:=by rw[SC,(40,h)]
theorem xy{i j:Int}(h:j<i):vU (16,i) (16,j)=okB true:=by rw[QQ,(51,h)]
theorem xA{i j:Int}(h:¬j<i):vU (16,i) (16,j)=[64]:=by rw[QQ,(40,h)]
theorem nE{i j:Int}(h:i=j):fg (16,i) (16,j)=okB true:=by rw[LW,(51,h)]
theorem nG{i j:Int}(h:¬i=j):fg (16,i) (16,j)=[64]:=by rw[LW,(40,h)]
theorem nO{F:([20])->[57]}{e1 e2 e3 e4:ME}{s1 s2 s3 s4:S}{r:[57]}(h1:e1 ρ=(34,s1))(h2:e2 ρ=(34,s2))(h3:e3 ρ=(34,s3))(h4:e4 ρ=(34,s4))(h:F [s1.val,s2.val,s3.val,s4.val]=r):aq F [e1,e2,e3,e4] ρ=r:=by
 unfold aq cA;rw[h1];dsimp only[bg];unfold cA;rw[h2];dsimp only[bg];unfold cA;rw[h3];dsimp only[bg];unfold cA;rw[h4];exact h
theorem SZ{F:([20])->[57]}{e1 e2 e3 e4 e5:ME}{s1 s2 s3 s4 s5:S}{r:[57]}(h1:e1 ρ=(34,s1))(h2:e2 ρ=(34,s2))(h3:e3 ρ=(34,s3))(h4:e4 ρ=(34,s4))(h5:e5 ρ=(34,s5))(h:F [s1.val,s2.val,s3.val,s4.val,s5.val]=r):aq F [e1,e2,e3,e4,e5] ρ=r:=by
 unfold aq cA;rw[h1];dsimp only[bg];unfold cA;rw[h2];dsimp only[bg];unfold cA;rw[h3];dsimp only[bg];unfold cA;rw[h4];dsimp only[bg];unfold cA;rw[h5];exact h
theorem Lk{d:D}{ds:[20]}:aT (13,(d::ds)) (16,0)=okD d:=j5 (n:=0) rfl
theorem SE{d e:D}{ds:[20]}:aT (13,(d::e::ds)) (16,1)=okD e:=j5 (n:=1) rfl
theorem bW{d:D}{ds:[20]}:aT (22,(d::ds)) (16,0)=okD d:=ix_tup (n:=0) rfl
theorem fq{d e:D}{ds:[20]}:aT (22,(d::e::ds)) (16,1)=okD e:=ix_tup (n:=1) rfl
theorem mE{d e f:D}{ds:[20]}:aT (22,(d::e::f::ds)) (16,2)=okD f:=ix_tup (n:=2) rfl
theorem G6{d e f g:D}{ds:[20]}:aT (22,(d::e::f::g::ds)) (16,3)=okD g:=ix_tup (n:=3) rfl
theorem Bn{a b:ME}{ρ:aC}{i j:Int}(h:a ρ=okI i)(h2:b ρ=okI j)(hr:jb i=true)(hr2:jb j=true):oA a b ρ=(34,rng i j):=by
 unfold oA xw;rw[h];dsimp only[S.val];rw[h2];dsimp only[S.val];rw[(25,(3,hr,hr2))]
theorem ym{α:Type}{bd:MB}{body:MC}(g:α->D)(Iv:List α->aC->Prop):∀(xs pre:List α)(ρ:aC),Iv pre ρ->(∀(q:List α)(x:α)(post:List α)(ρ:aC),pre++xs=q++x::post->Iv q ρ->∃ρ1 ρ2,bd (g x) ρ=(1,ρ1)/\(body ρ1=(46,ρ2)\/body ρ1=(1,.cont ρ2))/\Iv (q++[x]) ρ2)->
  ∃ρ',k0 bd body (xs.map g) ρ=(46,ρ')/\Iv (pre++xs) ρ'
 |[],pre,ρ,h,_=>(19,ρ,by simpa using h)
 |x::xs,pre,ρ,h,hs=>by
  obtain⟨ρ1,ρ2,e1,e2,h2⟩:=hs pre x xs ρ rfl h;obtain⟨ρ',e3,h3⟩:=ym g Iv xs (pre++[x]) ρ2 h2 λq y post ρ hy hi=>hs q y post ρ (by rw[←hy];simp) hi
  refine(11,ρ',?_,by simpa using h3)
  rw[map_cons];unfold k0;rw[e1];dsimp only;rcases e2 with e2|e2 <;> rw[e2] <;> exact e3
theorem vI{α:Type}{bd:MB}{body:MC}(g:α->D)(Iv:List α->aC->Prop)(xs:List α){ρ:aC}(h0:Iv [] ρ)(hs:∀(q:List α)(x:α)(post:List α)(ρ:aC),xs=q++x::post->Iv q ρ->∃ρ1 ρ2,bd (g x) ρ=(1,ρ1)/\(body ρ1=(46,ρ2)\/body ρ1=(1,.cont ρ2))/\Iv (q++[x]) ρ2):
  ∃ρ',k0 bd body (xs.map g) ρ=(46,ρ')/\Iv xs ρ':=by
 have:=ym (bd:=bd) (body:=body) g Iv xs [] ρ h0 (by simpa using hs)
 simpa using this
end
section
variable{ρ:aC}{a b e1 e2 e3 e4:ME}{s s1 s2 s3 s4:S}{o o1:O}{r:Option O}{q:Option R}{F:gS}{c:String}{f m:Str}{ns:List Str}{ds:List D}{cs:List String}
theorem qZ(h:e1 ρ=(34,s1))(h2:F o [s1.val]=r):jd F [e1] ρ o=r:=by unfold jd fj;rw[h];exact h2
theorem Pa(h:e1 ρ=(34,s1))(h':e2 ρ=(34,s2))(h2:F o [s1.val,s2.val]=r):jd F [e1,e2] ρ o=r:=by
 unfold jd fj fj;rw[h];dsimp only;rw[h'];exact h2
theorem kH{g h:MG}(h1:g ρ o=(1,o1))(h2:h ρ o1=r):ft g h ρ o=r:=by unfold ft;rw[h1];exact h2
theorem lA{np n:Nat}{g:MG}(hl:ds.length+1=np)(h:g (none::cG (n - 1) ds) o=r):AG np n g o ds=r:=by unfold AG;rw[(25,hl)];exact h
theorem rE(h:e1 ρ=(34,s))(hc:cs.contains c=true)(hl:ns.length=ds.length)(h9:ns.length<900):jc cs f e1 ρ (27,ns,ds)=(1,(27,putN f ns,oK f s.val ns ds)):=by
 unfold jc;rw[h];dsimp only;rw[(25,(11,hc,hl,h9))]
theorem Sz(h:F (27,[],[]) []=[46]):ig c F [] ρ=(34,.own o):=by unfold ig cA;dsimp only;rw[h]
theorem L7(h1:e1 ρ=(34,s1))(h:F (27,[],[]) [s1.val]=[46]):ig c F [e1] ρ=(34,.own o):=by
 unfold ig cA;rw[h1];dsimp only[bg];unfold cA;dsimp only;rw[h]
theorem Ca(h1:e1 ρ=(34,s1))(h2:e2 ρ=(34,s2))(h:F (27,[],[]) [s1.val,s2.val]=[46]):ig c F [e1,e2] ρ=(34,.own o):=by
 unfold ig cA;rw[h1];dsimp only[bg];unfold cA;rw[h2];dsimp only[bg];unfold cA;dsimp only;rw[h]
theorem Sy(h1:e1 ρ=(34,s1))(h2:e2 ρ=(34,s2))(h3:e3 ρ=(34,s3))(h:F (27,[],[]) [s1.val,s2.val,s3.val]=[46]):ig c F [e1,e2,e3] ρ=(34,.own o):=by
 unfold ig cA;rw[h1];dsimp only[bg];unfold cA;rw[h2];dsimp only[bg];unfold cA;rw[h3];dsimp only[bg];unfold cA;dsimp only;rw[h]
theorem A1{tb:String->[39]}{as:List ME}{G:([20])->[57]}(ho:a ρ=(34,s))(hv:s.val=(27,ns,ds))(hn:ns.contains m=false)(ht:tb c=(1,G)):dQ m tb a as ρ=cA as ρ λvs=>G ((27,ns,ds)::vs):=by
 unfold dQ;rw[ho];dsimp only[bg];rw[hv];dsimp only;rw[hn,(29,[27]),ht]
theorem OX{tb:String->[39]}{G:([20])->[57]}(ho:a ρ=(34,s))(hv:s.val=(27,ns,ds))(hn:ns.contains m=false)(ht:tb c=(1,G))(h:G [(27,ns,ds)]=q):dQ m tb a [] ρ=q:=by rw[A1 ho hv hn ht];exact h
theorem G0{tb:String->[39]}{G:([20])->[57]}(ho:a ρ=(34,s))(hv:s.val=(27,ns,ds))(hn:ns.contains m=false)(ht:tb c=(1,G))(h1:e1 ρ=(34,s1))(h:G [(27,ns,ds),s1.val]=q):dQ m tb a [e1] ρ=q:=by
 rw[A1 ho hv hn ht];exact bY (F:=λvs=>G ((27,ns,ds)::vs)) h1 h
theorem L5{tb:String->[39]}{G:([20])->[57]}(ho:a ρ=(34,s))(hv:s.val=(27,ns,ds))(hn:ns.contains m=false)(ht:tb c=(1,G))(h1:e1 ρ=(34,s1))(h2:e2 ρ=(34,s2))(h3:e3 ρ=(34,s3))(h:G [(27,ns,ds),s1.val,s2.val,s3.val]=q):dQ m tb a [e1,e2,e3] ρ=q:=by
 rw[A1 ho hv hn ht];exact bf (F:=λvs=>G ((27,ns,ds)::vs)) h1 h2 h3 h
theorem OW{tb:String->[39]}{G:([20])->[57]}(ho:a ρ=(34,s))(hv:s.val=(27,ns,ds))(hn:ns.contains m=false)(ht:tb c=(1,G))(h1:e1 ρ=(34,s1))(h2:e2 ρ=(34,s2))(h3:e3 ρ=(34,s3))(h4:e4 ρ=(34,s4))(h:G [(27,ns,ds),s1.val,s2.val,s3.val,s4.val]=q):dQ m tb a [e1,e2,e3,e4] ρ=q:=by
 rw[A1 ho hv hn ht];exact nO (F:=λvs=>G ((27,ns,ds)::vs)) h1 h2 h3 h4 h
theorem je{d:D}(h:a ρ=(34,s))(hv:s.val=(27,ns,ds))(hc:cs.contains c=true)(hf:tw f ns ds=(1,d)):kN (qQ cs f) a ρ=okD d:=by
 refine wC h ?_;rw[hv];show(if cs.contains c=true then(tw f ns ds).bind okD else none)=_;rw[(25,hc),hf];rfl
theorem G9(h:a ρ=okB true)(h2:e1 ρ=q):M1 a e1 e2 ρ=q:=by unfold M1;rw[h];exact h2
theorem Ga(h:a ρ=[64])(h2:e2 ρ=q):M1 a e1 e2 ρ=q:=by unfold M1;rw[h];exact h2
theorem He{i j:Nat}{k:Nat}(h1:e1 ρ=(34,s))(h0:ρ[i]?=(1,(52,ds)))(h2:e2 ρ=okI k)(hk:k<ds.length):qu i e2 e1 ρ=(46,(72,(52,ds.set k s.val))):=by
 unfold qu x9;rw[h1];dsimp only[ik];rw[h0];dsimp only;rw[h2];dsimp only[S.val];have:Mx ds.length (k:Int)=(1,k):=by unfold Mx;rw[(25,[11]),(25,[11]),toNat_natCast]
 rw[this]
theorem JO{x:Nat}(h:x<ds.length):mq (22,ds) none (1,x)=(76,ds.take x):=by
 show(if(jN ds.length 0 none=0/\jN ds.length ds.length (some (x:Int))=ds.length) then none else(76,xD ds none (some (x:Int))))=_;have e:jN ds.length ds.length (some (x:Int))=x:=by
  show(if(x:Int)<0 then((x:Int)+(ds.length:Int)).toNat else min (x:Int).toNat ds.length)=x;rw[(29,[11])];omega
 rw[(29,(by rw[e];omega))]
 show(76,((ds.drop 0).take (jN ds.length ds.length (some (x:Int)) - 0)))=_;rw[e];rfl
theorem Dx{x:Nat}(h0:0<x)(h:x<=ds.length):mq (22,ds) (1,x) none=(76,ds.drop x):=by
 have e:jN ds.length 0 (some (x:Int))=x:=by
  show(if(x:Int)<0 then((x:Int)+(ds.length:Int)).toNat else min (x:Int).toNat ds.length)=x;rw[(29,[11])];omega
 show(if(jN ds.length 0 (some (x:Int))=0/\ds.length=ds.length) then none else(76,xD ds (some (x:Int)) none))=_;rw[e,(29,[11])]
 show(76,((ds.drop (jN ds.length 0 (some (x:Int)))).take (ds.length - jN ds.length 0 (some (x:Int)))))=_;rw[e,List.take_of_length_le (by rw[length_drop];omega)]
theorem GY{x:Nat}(h:a ρ=(34,s))(hv:s.val=(22,ds))(hx:e1 ρ=okI x)(hl:x<ds.length):eN a none (1,e1) ρ=(76,ds.take x):=by
 unfold eN;rw[h];dsimp only[bg];rw[hv];show(bg (e1 ρ) λd=>match d with|.int i=>mq (22,ds) none (1,i)|_=>none)=_
 rw[hx];exact JO hl
theorem Bc{x:Nat}(h:a ρ=(34,s))(hv:s.val=(22,ds))(hx:e1 ρ=okI x)(h0:0<x)(hl:x<=ds.length):eN a (1,e1) none ρ=(76,ds.drop x):=by
 unfold eN;rw[h];dsimp only[bg];rw[hv];show(bg (e1 ρ) λd=>match d with|.int i=>mq (22,ds) (1,i) none|_=>none)=_
 rw[hx];exact Dx h0 hl
theorem CT{xs ys:[20]}(h:xs.length+ys.length<=100000):aO (22,xs) (22,ys)=(76,(xs++ys)):=by
 show(if xs.length+ys.length<=lim then(76,(xs++ys)) else none)=_;rw[(25,(55,h))]
theorem vW{xs ys:[20]}(h:xs.length+ys.length<=100000):aO (13,xs) (13,ys)=okL (xs++ys):=by
 show(if xs.length+ys.length<=lim then okL (xs++ys) else none)=_;rw[(25,(55,h))]
theorem GD{G:([20])->[57]}{as:List ME}{d:D}(h:cA as ρ G=okD d)(hf:flat d=true):aL G as ρ=okD d:=by
 unfold aL;rw[h];show(if flat d=true then okD d else none)=_;rw[(25,hf)]
theorem jv{x y:Str}(h:x=y):fg (.str x) (.str y)=okB true:=by subst h;exact sM x
theorem ba{x y:Str}(h:x≠y):fg (.str x) (.str y)=[64]:=by unfold fg Mz;simp[h]
theorem NU{x y:Str}(h:x≠y):yp (.str x) (.str y)=okB true:=by unfold yp Mz;simp[h]
theorem NV{x y:Str}(h:x=y):yp (.str x) (.str y)=[64]:=by unfold yp Mz;simp[h]
end
section
variable{ρ ρ':aC}{e:ME}{g:MP}{s:S}{o u o':O}{c:String}{f m:Str}{ns:List Str}{ds es:List D}{cs:List String}{i j a:Nat}{d:D}{F:MF}
theorem Ak(h:ρ[i]?=(65,o))(hc:o.core=(27,ns,ds)):p3 i ρ=(1,(o,c,ns,ds)):=by unfold p3;rw[h];dsimp only;rw[hc]
theorem vm(h:ρ[i]?=(65,o))(hc:o.core=(27,ns,ds))(hcs:cs.contains c=true)(hf:tw f ns ds=(1,d)):de cs i f ρ=okD d:=by
 unfold de;rw[Ak h hc];dsimp only[Option.bind_some];rw[(25,hcs),hf];rfl
theorem E7(he:e ρ=(34,s))(h:ρ[i]?=(65,o))(hc:o.core=(27,ns,ds))(hcs:cs.contains c=true)(hl:ns.length=ds.length)(h9:ns.length<900):
  mP cs i f e ρ=(46,(72,(12,o.put (27,putN f ns,oK f s.val ns ds)))):=by
 unfold mP;rw[he];dsimp only[ik];rw[Ak h hc];dsimp only[Option.bind_some];rw[(25,(11,hcs,hl,h9))]
theorem uS(he:e ρ=(34,s))(h:ρ[j]?=(65,.par a o)):sx j e ρ=(1,.ret (.two s.val a o)):=by
 unfold sx;rw[he];dsimp only[ik];rw[h]
theorem jU:n9 j a (1,.ret (.two d a o))=(1,(d,o)):=by unfold n9;dsimp only;rw[(25,rfl)]
theorem pG(h:ρ[i]?=(65,u))(hc:u.core=(27,ns,ds))(hn:ns.contains m=false){gs:List ME}(hg:fj gs ρ=(1,es))(hF:F (27,ns,ds) [] es=(1,(d,o'))):i9 c i m F gs ρ=(1,(d,(72,(12,u.put o')))):=by
 unfold i9;rw[Ak h hc];dsimp only[Option.bind_some];rw[(25,(62,hn))];unfold G2;rw[h];dsimp only;show((fj gs ρ).bind λes=>(F u.core [] es).map λp=>(p.1,(72,(12,u.put p.2))))=_;rw[hg];dsimp only[Option.bind_some];rw[hc,hF];rfl
theorem JV(h:g ρ=(1,(d,ρ')))(hp:ρ'[j]?=(65,.par a o)):xW j g ρ=(1,.ret (.two d a o)):=by
 unfold xW;rw[h];dsimp only[Option.bind_some];rw[hp]
theorem PF(h:g ρ=(1,(d,ρ'))):Bi g ρ=(1,.ret (.sh d)):=by unfold Bi;rw[h];rfl
theorem Rh(h:g ρ=(1,(d,ρ')))(hp:ρ'[i]?=(1,(52,ds)))(hl:ds.length<lim):Bj i g ρ=(46,ρ'.set i (52,(ds++[d]))):=by
 unfold Bj;rw[h];dsimp only[Option.bind_some];unfold x9;rw[hp];dsimp only;rw[(25,hl)]
theorem Pj{x:D}(hx:e ρ=okD x)(h:g ρ=(1,(d,ρ'))):Cj e g ρ=(1,((22,[x,d]),ρ')):=by unfold Cj;rw[hx];dsimp only;rw[h];rfl
theorem Jq{body:MC}{n:Nat}(h:g ρ=(1,(.bl true,ρ'))):jI g body (n+1) ρ=(46,ρ'):=by
 unfold jI;rw[h]
theorem Jr{body:MC}{n:Nat}{ρ2:aC}{r:(8,pR)}(h:g ρ=(1,(.bl false,ρ')))(hb:body ρ'=(46,ρ2))(h2:jI g body n ρ2=r):jI g body (n+1) ρ=r:=by
 unfold jI;rw[h];dsimp only;rw[hb];exact h2
theorem Nc(h:g ρ=(1,((13,ds),ρ'))):rH i g ρ=(46,ρ'.set i (52,ds)):=by unfold rH;rw[h];rfl
theorem Fp{w b:Nat}(h:w.testBit b=true):Gx (16,w) (16,((2 ^ b:Nat):Int))=okI ((w - 2 ^ b:Nat):Int):=by
 have h1:w ||| 2 ^ b=w:=by
  apply Nat.eq_of_testBit_eq;intro k;rw[testBit_or,testBit_two_pow];by_cases e:b=k
  ·subst e;rw[h];simp
  ·simp[e]
 have h2:w &&& 2 ^ b=2 ^ b:=by
  apply Nat.eq_of_testBit_eq;intro k;rw[Nat.testBit_and,testBit_two_pow];by_cases e:b=k
  ·subst e;rw[h];simp
  ·simp[e]
 have h3:2 ^ b<=w:=by rw[←h2];exact Nat.and_le_left
 show(if 0<=(w:Int)/\0<=((2 ^ b:Nat):Int) then okI ((((w:Int).toNat ||| ((2 ^ b:Nat):Int).toNat:Nat):Int) - (((w:Int).toNat &&& ((2 ^ b:Nat):Int).toNat:Nat):Int)) else none)=_;rw[(25,(69,by omega)),toNat_natCast,toNat_natCast,h1,h2]
 congr 4;omega
end
end L3
namespace Bell
open PySem L3
noncomputable section
def yP:MC:=(bL (31,Ah,(9,Ah,(31,aO,(8,ip,3,48271),(9,ip,(31,ip,(8,aO,1,1),(8,aO,1,5)),69621)),2147483629),a9 2))
def yQ:MC:=(7,(9,vU,(23,cm,[(eO 0)]),0),bF 3 (9,Ah,(1,aT,0,(1,Ah,1,(23,cm,[(eO 0)]))),2147483647),bM,yP)
def Eu:MC:=
 (12,3,(3,0),yQ)
def aJ:([20])->[57]:=iZ 3 4 Eu
def uy:MC:=(bL (9,kO,aq aJ [[47],(8,aO,1,1),(3,2000000001)],1000000000))
def uz:MC:=(7,(8,fg,2,6),bL (31,kO,(3,1000000000),(31,ip,(3,2000000000),aq aJ [[47],(8,aO,1,1),(3,2)])),bM,uy)
def uA:MC:=(7,(8,MA,2,6),bL (9,kO,aq aJ [[47],(8,aO,1,1),(3,7)],3),bM,uz)
def A4:MC:=
 (12,2,aq aJ [[47],[61],(3,9)],uA)
def cf:([20])->[57]:=iZ 2 3 A4
def tH:MC:=(gY 3 (bj [(31,aO,(45,"b"),(31,aT,(45,"abcdefgh"),a9 4)),(aq (f1 j8) [(cw [7] (cz (a9 6)) (bc 7) eI (aq cf [[47],(31,aO,(8,aO,5,1),(31,ip,(3,2),a9 7))]))])]))
def tJ:MC:=(12,6,(31,aO,(3,1),aq aJ [[47],(a9 5),(3,2)]),tH)
def p8:MC:=(12,5,(1,aO,1,(31,ip,(3,5),a9 4)),tJ)
def wM:MC:=(fE 3 (bL (aq (f1 j8) [(a9 3)])))
def wN:MC:=(aF (mI (cz (a9 2)) (bc 4) p8) wM)
def Ce:MC:=
 (12,3,mJ [],wN)
def kA:([20])->[57]:=iZ 3 8 Ce
def oP:MC:=(bL (bj [(45,"grow"),(a9 4),(aq cf [[47],(8,aO,1,2)])]))
def wL:MC:=(7,fZ (1,MD false,3,bj [(3,7),(3,8)]) (9,vU,(23,cm,[(eO 6)]),0),fE 6 (12,7,(1,aT,6,aq aJ [[47],(8,aO,1,2),(23,cm,[(eO 6)])]),(12,8,cw [9] (cz (23,cm,[(eO 2)])) (bc 9) (fZ (1,yp,9,a9 4) (fZ (1,yp,9,a9 7) (9,fg,(23,cm,[(9,aT,(1,aT,2,a9 9),1)]),1))) (a9 9),iw (9,vU,(23,cm,[(eO 8)]),0) (fE 8 (bL (bj [(45,"anew"),(a9 4),(a9 7),(1,aT,8,aq aJ [[47],(8,aO,1,3),(23,cm,[(eO 8)])])]))) bM)),bM,oP)
def yR:MC:=(7,(8,fg,3,6),bL (bj [(45,"none"),(a9 4)]),bM,wL)
def yS:MC:=(7,Gk (8,fg,3,4) (8,fg,3,5),fE 6 (12,7,(31,aT,(1,aO,6,mJ [(a9 4)]),aq aJ [[47],(8,aO,1,2),(9,aO,(23,cm,[(eO 6)]),1)]),bL (bj [(31,aT,mJ [(45,"is"),(45,"most")],(8,kO,3,4)),(a9 4),(a9 7),(aq cf [[47],(8,aO,1,3)])])),bM,yR)
def yT:MC:=(7,(8,fg,3,3),bL (bj [(45,"still"),(31,aO,(3,1),aq aJ [[47],(8,aO,1,2),(3,9)])]),bM,yS)
def yU:MC:=(7,fZ (8,fg,3,2) (8,fg,5,1),bL (bj [(45,"tick"),(a9 4)]),bM,yT)
def yV:MC:=(7,fZ (8,fg,3,1) (9,vU,(23,cm,[(eO 6)]),0),fE 6 (bL (bj [(45,"copy"),(a9 4),(1,aT,6,aq aJ [[47],(8,aO,1,2),(23,cm,[(eO 6)])])])),bM,yU)
def pW:MC:=(7,(8,fg,3,0),bL (bj [(45,"put"),(a9 4),(aq (f1 j8) [(cw [10] (cz (a9 5)) (bc 10) eI (aq cf [[47],(31,aO,(8,aO,1,2),(31,ip,(3,2),a9 10))]))])]),bM,yV)
def yW:MC:=(12,6,cw [7] (cz (23,cm,[(eO 2)])) (bc 7) (fZ (1,yp,7,a9 4) (31,fg,(23,cm,[(9,aT,(1,aT,2,a9 7),1)]),a9 5)) (a9 7),pW)
def yX:MC:=(12,5,(23,cm,[(9,aT,(1,aT,2,a9 4),1)]),yW)
def yY:MC:=(12,4,aq aJ [[47],(8,aO,1,1),(23,cm,[(eO 2)])],yX)
def Ew:MC:=
 (12,3,aq aJ [[47],[61],(3,10)],yY)
def mm:([20])->[57]:=iZ 3 11 Ew
def nU:MC:=(gY 8 (bj [(aq mm [[47],(a9 10),[61]]),(a9 11)]))
def wk:MC:=(7,(9,fg,aq aJ [[47],(8,aO,10,7),(3,3)],0),bF 11 (31,ip,(3,2),aq aJ [[47],(8,aO,10,6),(31,pL,(3,1),a9 2)]),bM,nU)
def wm:MC:=(12,11,(3,0),wk)
def my:MC:=(12,10,(31,aO,(31,aO,(3,110),(31,ip,(3,100),a9 5)),(31,ip,(3,8),a9 9)),wm)
def wb:MC:=(fE 8 (gY 4 (1,aO,6,bj [(aq (f1 j8) [(a9 8)])])))
def wc:MC:=(aF (mI (cz (a9 7)) (bc 9) my) wb)
def we:MC:=(12,8,mJ [],wc)
def nT:MC:=(12,7,(31,aO,(3,1),aq aJ [[47],(31,aO,(3,100),a9 5),(a9 3)]),we)
def wg:MC:=(7,(8,vU,5,0),bF 6 (bj [(31,aO,(45,"c"),(31,aT,(45,"abcdef"),(8,kO,5,1))),(31,aO,(3,1),aq aJ [[47],(31,aO,(3,90),a9 5),(3,9)])]),bM,nT)
def r6:MC:=(12,6,bj [(45,"main"),(3,0)],wg)
def yN:MC:=(fE 4 (bL (aq (f1 j8) [(a9 4)])))
def yO:MC:=(aF (mI (cz (8,aO,2,1)) (bc 5) r6) yN)
def Et:MC:=
 (12,4,mJ [],yO)
def mj:([20])->[57]:=iZ 4 12 Et
def yJ(G:([20])->[57]):MC:=(bL (fZ (kN (oM "str") [47]) (1,fg,0,[61])))
def yK(G:([20])->[57]):MC:=(7,kN M7 [61],bL (kN M7 [47]),bM,yJ G)
def yL(G:([20])->[57]):MC:=(7,kN (oM "int") [61],bL (fZ (kN (oM "int") [47]) (1,fg,0,[61])),bM,yK G)
def yM(G:([20])->[57]):MC:=(7,Gk (kN (oM "bool") [61]) (kN (oM "bool") [47]),bL (fZ (kN (oM "bool") [61]) (fZ (kN (oM "bool") [47]) (1,fg,0,[61]))),bM,yL G)
def pH(G:([20])->[57]):MC:=
 (7,Gk (kN (oM "tuple") [61]) (kN (oM "list") [61]),(7,Gk (31,yp,kN (oM "tuple") [47],kN (oM "tuple") [61]) (31,yp,kN (oM "list") [47],kN (oM "list") [61]),bL (eC (.bl false)),bM,bL (fZ (31,fg,(23,cm,[(eO 0)]),(23,cm,[(eO 1)])) (aq (f1 F2) [(cw [2,3] (Oe [47] [61]) (xF [2,3]) eI (aq G [(a9 2),(a9 3)]))]))),bM,yM G)
def dN:([20])->[57]:=Nat.rec (motive:=λ_=>([20])->[57]) (λ_=>none) (λ_ G=>iZ 2 4 (pH G)) 8
def mx:MC:=(iw (fZ (9,fg,(9,lE,(1,tE,7,a9 8),1),1) (9,fg,(9,lE,(1,tE,4,a9 8),1),0)) (qu 3 (a9 8) (9,aO,aL (f2 aT) [(eO 3),(a9 8)],1)) bM)
def nR:MC:=(iw (31,fg,(26,6,0),(45,"enter")) (bF 4 (1,Gx,4,(31,pL,(3,1),(26,6,1)))) bM)
def w9:MC:=(12,4,(1,M8,4,a9 7),nR)
def wa:MC:=(aF (mI (oA (3,1) (8,aO,2,1)) (bc 8) mx) w9)
def jx:MC:=(12,7,(9,aT,(31,aO,eN [47] (1,a9 5) none,mJ [(3,0)]),0),wa)
def yG:MC:=(fE 3 (bL (a9 3)))
def yH:MC:=(aF (mI (Lp [61]) (xF [5,6]) jx) yG)
def yI:MC:=(12,4,(3,0),yH)
def Er:MC:=
 (12,3,cw [5] (cz (8,aO,2,1)) (bc 5) eI (3,0),yI)
def k6:([20])->[57]:=iZ 3 9 Er
def mF:MC:=(gY 4 (a9 6))
def tG:MC:=(7,(9,fg,aq aJ [[47],(1,aO,1,(31,ip,(3,2),a9 5)),(3,3)],0),bF 6 (31,ip,(3,2),aq aJ [[47],(9,aO,(1,aO,1,(31,ip,(3,2),a9 5)),1),(31,pL,(3,1),a9 3)]),bM,mF)
def p7:MC:=(12,6,(3,0),tG)
def wJ:MC:=(fE 4 (bL (a9 4)))
def wK:MC:=(aF (mI (cz (a9 2)) (bc 5) p7) wJ)
def Cd:MC:=
 (12,4,mJ [],wK)
def kz:([20])->[57]:=iZ 4 7 Cd
def La:MC:=
 (bL (cw [1] (iW [47]) (bc 1) eI (M1 (31,fg,(26,1,0),(45,"enter")) (31,pL,(3,1),(26,1,1)) (3,0))))
def qM:([20])->[57]:=iZ 1 2 La
def Ih:MC:=
 (bL (fZ (pK RA MA (3,0) [61] (31,pL,(3,1),(8,aO,0,1))) (9,fg,(8,lE,1,1),0)))
def gR:([20])->[57]:=iZ 2 2 Ih
def p6:MC:=(u4 1 (26,2,1))
def wH:MC:=(fE 1 (bL (aq (f1 j8) [[61]])))
def wI:MC:=(aF (mI (iW [47]) (bc 2) p6) wH)
def Cb:MC:=
 (12,1,mJ [],wI)
def ky:([20])->[57]:=iZ 1 3 Cb
def Cv:MG:=
 (ft (jc ["Machine"] "program" [61]) (ft (jc ["Machine"] "ranks" (aq (f1 j8) [(cw [2] (iW (26,1,1)) (bc 2) eI (26,2,1))])) (ft (jc ["Machine"] "rung" (3,0)) (ft (jc ["Machine"] "frames" (bj [(bj [(3,0),(3,0),(3,0),(bj [])])])) (ft (jc ["Machine"] "contents" (aq ky [(26,1,0)])) ly)))))
def oz:gS:=AG 2 3 Cv
def j4:MC:=
 (sx 0 (15,0,"contents"))
def gD:MF:=ID 0 1 1 j4
def rB:MC:=(sx 0 (fZ (9,fg,(15,0,"rung"),0) (31,Ow 3,(15,0,"frames"),bj [(bj [(3,0),(23,cm,[(eO 1)]),(3,0),(bj [])])])))
def jX:MC:=
 (12,1,(9,aT,(9,aT,(9,aT,(15,0,"program"),1),0),2),rB)
def fK:MF:=ID 0 1 2 jX
def Il:MC:=
 (bL (cw [1] (cz (kN Gy [47])) (bc 1) (QX (9,lE,(1,tE,0,[61]),1)) [61]))
def lC:([20])->[57]:=iZ 1 2 Il
def CZ:MC:=(iw (fZ (9,fg,(9,lE,(1,tE,3,a9 5),1),0) (31,vU,(1,aT,0,a9 5),aq (f2 Gw) [(a9 2),(1,aT,0,a9 4)])) (bF 4 (a9 5)) bM)
def JE:MC:=(bL (a9 4))
def JF:MC:=(aF (mI (iW (aq lC [[61]])) (bc 5) CZ) JE)
def Qx:MC:=
 (12,4,(3,0),JF)
def vM:([20])->[57]:=iZ 4 6 Qx
def Cc:MC:=
 (bL (9,aT,(31,aT,(26,0,1),[61]),2))
def cN:([20])->[57]:=iZ 2 2 Cc
def AQ:MC:=(bL (M1 (1,MA,2,(23,cm,[(eO 3)])) (9,aT,(1,aT,3,a9 2),1) (3,0)))
def Ib:MC:=
 (12,3,aq cN [[47],[61]],AQ)
def oB:([20])->[57]:=iZ 3 4 Ib
def sU:MC:=(bF 2 (1,M8,2,aq oB [[47],(26,3,0),(26,3,1)]))
def AU:MC:=(bL (a9 2))
def AV:MC:=(aF (mI (iW [61]) (bc 3) sU) AU)
def Ig:MC:=
 (12,2,(3,0),AV)
def oE:([20])->[57]:=iZ 2 4 Ig
def Ik:MC:=
 (bL (9,aT,(31,aT,aq cN [[47],[61]],a9 2),0))
def dz:([20])->[57]:=iZ 3 3 Ik
def Cf:MC:=
 (bL (31,fg,(26,1,1),(23,cm,[(aq cN [[47],(26,1,0)])])))
def cO:([20])->[57]:=iZ 2 2 Cf
def rh:MC:=(bL (a9 2))
def rj:MC:=(7,Gk (1,fg,2,(23,cm,[(aq cN [[47],(26,1,0)])])) (31,yp,(9,aT,aq dz [[47],(26,1,0),(a9 2)],0),(45,"none")),bL (eC .non),bM,rh)
def vx:MC:=
 (12,2,M1 (9,fg,(26,1,2),0) (26,1,1) (9,aO,(26,1,1),1),rj)
def ie:([20])->[57]:=iZ 2 3 vx
def Ie:MC:=
 (bL (23,cm,[(9,aT,(1,aT,0,[61]),1)]))
def jE:([20])->[57]:=iZ 2 2 Ie
def z9:MC:=(bL (1,nL,2,(1,aO,2,aq jE [[47],[61]])))
def Ex:MC:=
 (12,2,aq (f1 Ov) [(cw [3] (cz [61]) (bc 3) eI (aq jE [[47],(a9 3)]))],z9)
def dh:([20])->[57]:=iZ 2 4 Ex
def QT:ME:=(eC (.bl true))
def LO:([20])->[57]:=Tv 1 QT
def QS:ME:=(aq (f1 F2) [(cw [3,4] (iW (a9 2)) (xF [3,4]) eI (31,fg,(1,aT,0,a9 3),(31,aO,(1,aT,0,a9 4),[61])))])
def EU:([20])->[57]:=Tv 5 QS
def QR:ME:=(aq (f1 F2) [(cw [3,4] (iW (a9 2)) (xF [3,4]) eI (31,RA,(1,aT,0,a9 3),(31,aO,(1,aT,0,a9 4),[61])))])
def ET:([20])->[57]:=Tv 5 QR
def Rr:Nat->[39]
 |0=>(1,LO)
 |1=>(1,EU)
 |2=>(1,ET)
 |_=>none
def A3:D7:=
 (P8 (31,MD true,(26,1,0),bj [(45,"is"),(45,"most")]) (Mj 0 []) (IY (bF 2 (aq SY [(aq dh [[47],(26,1,1)]),(aq dh [[47],(26,1,2)])])) (IY (bF 3 (26,1,3)) (P8 (31,fg,(26,1,0),(45,"is")) (Mj 1 [3,2]) (Mj 2 [3,2])))))
def ic:([20])->[57]:=P4 2 4 A3
def LB:MG:=
 (ft (jc ["Deed","Promise","Comparing","Untouched","Still","Put","Copy","Tick","Handed","Grow","Anew"] "plan" [61]) ly)
def ia:gS:=AG 2 2 LB
def EO:MG:=
 (ft (jd ia [(31,aO,cw [3] (iW [61]) (bc 3) eI (bj [(bj [(a9 3)]),(bj [])]),cw [3] (iW (a9 2)) (bc 3) eI (bj [(bj []),(bj [(a9 3)])]))]) ly)
def lu:gS:=AG 3 4 EO
def LD:MG:=
 (ft (jd lu [(31,aO,(31,aO,mJ [(a9 3)],a9 2),mJ [(a9 3)]),[61]]) (ft (jc ["Anew"] "check" (9,aO,(23,cm,[(eO 2)]),1)) ly))
def EK:gS:=AG 4 4 LD
def Cu:MG:=
 (ft (jd ia [(mJ [(bj [(aq (f1 j8) [[61]]),(bj [])])])]) ly)
def jD:gS:=AG 2 2 Cu
def xC:MG:=
 (ft (jd jD [(kN vT (1,aO,1,a9 2))]) ly)
def ny:gS:=AG 3 3 xC
def LC:MG:=
 (ft (jd ia [(cw [3] (cz (23,cm,[(eO 1)])) (bc 3) eI (bj [(bj [(1,aT,2,a9 3)]),(bj [(1,aT,1,a9 3)])]))]) ly)
def EJ:gS:=AG 3 4 LC
def LA:MG:=
 (ft (jd lu [[61],[61]]) (ft (jc ["Grow"] "size" (23,cm,[(eO 1)])) (ft (jc ["Grow"] "number" (a9 2)) ly)))
def EI:gS:=AG 3 3 LA
def Og:MG:=
 (ft (jd ia [(cw [3] (iW [61]) (bc 3) eI (bj [(bj []),(bj [(a9 3)])]))]) (ft (jc ["Put"] "numbers" (aq (f1 j8) [(a9 2)])) ly))
def Lo:gS:=AG 3 4 Og
def IC:MG:=
 (ft (jd ia [(M0 (mJ [(bj [(bj []),(bj [])])]) [61])]) ly)
def Af:gS:=AG 2 2 IC
def Lz:MG:=
 (ft (jd ia [(mJ [(bj [(bj [[61]]),(bj [[61]])])])]) ly)
def EH:gS:=AG 2 2 Lz
def xB:MG:=
 (ft (jd jD [(mJ [])]) ly)
def nu:gS:=AG 1 1 xB
def yZ:MC:=(fE 4 (fE 3 (bL (ig "Comparing" ny [(a9 3),(a9 4)]))))
def AX:MC:=(7,(1,fg,2,(45,"anew")),fE 4 (fE 3 (bL (ig "Anew" EK [(a9 3),(a9 4),(9,aT,aq dh [[47],(26,1,3)],0)]))),bM,yZ)
def AY:MC:=(7,(1,fg,2,(45,"copy")),fE 4 (fE 3 (bL (ig "Copy" EJ [(a9 3),(a9 4)]))),bM,AX)
def AZ:MC:=(12,4,aq dh [[47],(26,1,2)],AY)
def B2:MC:=(7,(1,fg,2,(45,"tick")),fE 3 (bL (ig "Tick" EH [(26,3,0)])),bM,AZ)
def B3:MC:=(7,(1,fg,2,(45,"grow")),fE 3 (bL (ig "Grow" EI [(a9 3),(26,1,2)])),bM,B2)
def B4:MC:=(7,(1,fg,2,(45,"put")),fE 3 (bL (ig "Put" Lo [(a9 3),(26,1,2)])),bM,B3)
def B5:MC:=(12,3,aq dh [[47],(26,1,1)],B4)
def B6:MC:=(7,(1,fg,2,(45,"none")),bL (ig "Untouched" nu []),bM,B5)
def B7:MC:=(7,(1,fg,2,(45,"still")),bL (ig "Still" Af [(26,1,1)]),bM,B6)
def Ij:MC:=
 (12,2,(26,1,0),B7)
def jF:([20])->[57]:=iZ 2 5 Ij
def A8:MC:=
 (bL (aq (f1 yq) [(9,aT,(31,aT,kN (66,"plan") [47],[61]),0)]))
def dI:([20])->[57]:=iZ 2 2 A8
def xu:MC:=
 (bL (aq (f1 yq) [(9,aT,(31,aT,kN (66,"plan") [47],[61]),1)]))
def cJ:([20])->[57]:=iZ 2 2 xu
def fC:String->[39]:=(29,dI,ux)
def df:String->[39]:=(29,cJ,ux)
def AR:MC:=(fE 4 (bL (aq (f1 R3) [(cw [5] (iW (aq dh [(26,0,0),(a9 2)])) (bc 5) eI (1,MD false,5,a9 4))])))
def AS:MC:=(fE 3 (12,4,(31,aO,dQ "reads" fC (a9 3) [(26,1,2)],dQ "writes" df (a9 3) [(26,1,2)]),AR))
def Ic:MC:=
 (12,3,aq jF [(26,0,0),(aq dz [[47],(26,1,0),(26,1,1)])],AS)
def oC:([20])->[57]:=iZ 3 6 Ic
def tK:MC:=(iw (fZ (kN P7 (a9 6)) (aq oC [[47],(a9 3),(9,aT,aq dz [[47],(26,5,0),(a9 6)],1)])) (gY 4 (bj [(26,5,0),(a9 6)])) bM)
def p9:MC:=(12,6,aq ie [[47],(a9 5)],tK)
def wO:MC:=(fE 4 (bL (aq (f1 j8) [(a9 4)])))
def oQ:MC:=(7,rZ (vQ Rr (aq ic [(26,0,0),(aq dz [[47],(26,3,0),(26,3,1)])]) (a9 2)),gY 4 (bj [(26,3,0),(26,3,1)]),bM,wO)
def wQ:MC:=(aF (mI (iW (eN [61] none (1,(3,(-1))))) (bc 5) p9) oQ)
def wR:MC:=(12,4,mJ [],wQ)
def wU:MC:=(7,aq cO [[47],(a9 3)],bL (bj []),bM,wR)
def Cg:MC:=
 (12,3,(26,1,(-1)),wU)
def iX:([20])->[57]:=iZ 3 7 Cg
def xt:MC:=
 (bL (bj [(a9 2),(1,aO,3,bj [(1,aT,2,(9,aT,dQ "reads" fC [47] [[61]],0))]),(8,aO,1,1)]))
def ff:([20])->[57]:=iZ 4 4 xt
def Ia:MC:=
 (bL (31,aO,(31,aO,eN [47] none (1,[61]),bj [(a9 2)]),eN [47] (1,(8,aO,1,1)) none))
def fb:([20])->[57]:=iZ 3 3 Ia
def A7:MC:=
 (bL (23,cm,[(kN (66,"plan") [47])]))
def fY:([20])->[57]:=iZ 1 1 A7
def iN:String->[39]:=(29,fY,ux)
def oH:MC:=(bL (bj [(aq fb [(a9 2),(9,aT,dQ "writes" df [47] [[61]],0),(a9 4)]),(a9 6),(a9 5)]))
def oI:MC:=(12,6,M1 (1,fg,5,dQ "turns" iN [47] []) (bj []) (a9 3),oH)
def qE:MC:=
 (12,5,(8,aO,1,1),oI)
def cU:([20])->[57]:=iZ 5 7 qE
def o4:String->[39]:=(AF ["Handed","Grow","Anew"] ff ux)
def gK:String->[39]:=(AF ["Handed","Grow","Anew"] cU ux)
def uE:MC:=(bL (bj [(a9 2),(bj []),(3,0)]))
def uF:MC:=(7,(31,fg,(1,aT,2,(9,aT,dQ "reads" fC [47] [[61]],0)),(26,3,0)),bL (bj [(a9 2),(a9 3),(8,aO,1,1)]),bM,uE)
def uG:MC:=(7,(1,vU,1,kN (qQ ["Anew"] "check") [47]),bL (dQ "set_down" gK [47] [[61],(a9 2),(a9 3),(1,aT,3,(1,kO,1,kN (qQ ["Anew"] "check") [47]))]),bM,uF)
def Ab:MC:=
 (7,(1,MA,1,kN (qQ ["Anew"] "check") [47]),bL (dQ "laid" o4 [47] [[61],(a9 2),(a9 3)]),bM,uG)
def ju:([20])->[57]:=iZ 4 4 Ab
def uD:MC:=(bL (bj [(aq fb [(a9 2),(9,aT,dQ "writes" df [47] [[61]],0),(a9 4)]),(a9 3),(8,aO,1,1)]))
def Aa:MC:=
 (12,4,(1,aT,2,(9,aT,dQ "reads" fC [47] [[61]],0)),uD)
def jt:([20])->[57]:=iZ 4 5 Aa
def A9:MC:=
 (bL (bj [(a9 2),(a9 3),(8,aO,1,1)]))
def eM:([20])->[57]:=iZ 4 4 A9
def uC:MC:=(bL (dQ "set_down" gK [47] [[61],(a9 2),(a9 3),(31,aO,(1,aT,3,(1,kO,1,kN (qQ ["Grow"] "size") [47])),kN (qQ ["Grow"] "number") [47])]))
def A6:MC:=
 (7,(1,MA,1,kN (qQ ["Grow"] "size") [47]),bL (dQ "laid" o4 [47] [[61],(a9 2),(a9 3)]),bM,uC)
def jr:([20])->[57]:=iZ 4 4 A6
def Ci:MC:=
 (bL (bj [(aq fb [(a9 2),(9,aT,dQ "writes" df [47] [[61]],0),(31,aT,kN (qQ ["Put"] "numbers") [47],[61])]),(a9 3),(8,aO,1,1)]))
def kB:([20])->[57]:=iZ 4 4 Ci
def uB:MC:=(bL (bj [(aq fb [(a9 2),(a9 4),(9,aO,(1,aT,2,a9 4),1)]),(a9 3),(8,aO,1,1)]))
def A5:MC:=
 (12,4,(9,aT,dQ "writes" df [47] [[61]],0),uB)
def jq:([20])->[57]:=iZ 4 5 A5
def fD:String->[39]:=(AF ["Deed","Promise","Comparing","Untouched","Still","Handed"] eM (AF ["Put"] kB (AF ["Copy"] jt (AF ["Tick"] jq (AF ["Grow"] jr (AF ["Anew"] ju ux))))))
theorem jL:fD "Comparing" = (1,eM):=rfl
theorem pf:fD "Untouched" = (1,eM):=rfl
theorem uw:fD "Still" = (1,eM):=rfl
theorem yF:fD "Put" = (1,kB):=rfl
theorem wF:fD "Copy" = (1,jt):=rfl
theorem wD:fD "Tick" = (1,jq):=rfl
theorem oO:fD "Grow" = (1,jr):=rfl
theorem wG:fD "Anew" = (1,ju):=rfl
def Dk:MC:=(bL (bj [(31,aO,eN [61] none (1,(3,(-1))),bj [(a9 6)]),(26,5,0)]))
def Dl:MC:=(7,fZ (9,vU,(26,6,0),0) (aq cO [[47],(a9 6)]),bL (bj [(eN [61] none (1,(3,(-1)))),(26,5,0)]),bM,Dk)
def Dm:MC:=(fE 4 (7,(31,MA,(26,5,2),dQ "turns" iN (a9 4) []),bF 6 (bj [(26,3,0),(26,3,1),(26,5,2),(26,5,1)]),bF 6 (bj [(26,3,0),(9,aO,(26,3,1),1),(3,0),(bj [])]),Dl))
def Dn:MC:=(fE 4 (12,5,dQ "after" fD (a9 4) [(26,3,2),(a9 2),(26,3,3)],Dm))
def Do:MC:=(12,4,aq jF [(26,0,0),(aq dz [[47],(26,3,0),(26,3,1)])],Dn)
def Dp:MC:=(7,aq cO [[47],(a9 3)],bL (eC .non),bM,Do)
def L8:MC:=
 (12,3,(26,1,(-1)),Dp)
def k4:([20])->[57]:=iZ 3 7 L8
def pX:MC:=(sx 0 (bj [(45,"turn"),(26,2,0),(26,2,1),(26,2,2),(a9 3)]))
def pY:MC:=(aF (mP ["Machine"] 0 "contents" (26,1,1)) pX)
def pZ:MC:=(aF (mP ["Machine"] 0 "frames" (26,1,0)) pY)
def q8:MC:=(12,3,aq iX [(15,0,"program"),(15,0,"frames"),(15,0,"contents")],pZ)
def qc:MC:=(12,2,(9,aT,(15,0,"frames"),(-1)),q8)
def qd:MC:=(7,kN M7 [61],sx 0 (bj [(45,"idle")]),bM,qc)
def eY:MC:=
 (12,1,aq k4 [(15,0,"program"),(15,0,"frames"),(15,0,"contents")],qd)
def dA:MF:=ID 0 1 4 eY
def Ii:MC:=
 (bL (1,aO,0,bj [(bj [[61],(3,0),(3,0),(bj [])])]))
def oF:([20])->[57]:=iZ 2 2 Ii
def ph:MC:=(sx 0 (bj [(45,"enter"),[61]]))
def pj:MC:=(aF (mP ["Machine"] 0 "frames" (aq oF [(15,0,"frames"),[61]])) ph)
def iB:MC:=
 (aF (mP ["Machine"] 0 "rung" (31,Gx,(15,0,"rung"),(31,pL,(3,1),[61]))) pj)
def fX:MF:=ID 0 2 2 iB
def rm:MC:=(xW 0 (i9 "Machine" 0 "go_on" dA []))
def kT:MC:=(7,(8,vU,3,0),xW 0 (i9 "Machine" 0 "let_in" fX [(a9 3)]),bM,rm)
def rn:MC:=(12,3,aq vM [(15,0,"ranks"),(15,0,"rung"),(a9 2),(aq oE [(15,0,"program"),(15,0,"frames")])],kT)
def rq:MC:=(12,2,(31,aT,(15,0,"ranks"),(9,aT,(9,aT,(15,0,"frames"),(-1)),0)),rn)
def rA:MC:=(aF (mP ["Machine"] 0 "rung" (31,M8,(15,0,"rung"),[61])) rq)
def i8:MC:=
 (7,rZ (aq gR [(9,kO,(23,cm,[(15,0,"ranks")]),1),[61]]),DK,bM,rA)
def aX:MF:=ID 0 2 4 i8
def GG:MC:=(iw (rZ (aq gR [(9,kO,(23,cm,[(26,0,1)]),1),(a9 2)])) DK bM)
def GF:MC:=(Bj 4 (i9 "Machine" 3 "turn" aX [(3,0)]))
def ML:MC:=(fE 4 (Bi (Cj (a9 4) (i9 "Machine" 3 "cells" gD []))))
def Fv:MC:=(aF (FJ 5000 (i9 "Machine" 3 "idle" fK []) GF) ML)
def MM:MC:=(RU 2 (aF (rH 4 (sD [2] (iW [61]) (bc 2) (i9 "Machine" 3 "turn" aX [(a9 2)]))) Fv))
def MO:MC:=(12,3,ig "Machine" oz [[47]],MM)
def SA:MC:=
 (aF (mI (iW [61]) (bc 2) GG) MO)
def CG:([20])->[57]:=iZ 2 5 SA
def w5:MC:=(iw (31,fg,(26,2,0),(45,"enter")) (xX 1 (26,2,1) (9,aO,sN 1 (26,2,1) 0,1)) bM)
def Dq:MC:=(aF (mI (iW [47]) (bc 2) w5) (Bh 1))
def L9:MC:=
 (aF (OQ 1) Dq)
def qL:([20])->[57]:=iZ 1 3 L9
def GI:MC:=(iw (31,fg,(26,6,0),(45,"enter")) (gY 5 (31,pL,(3,1),(26,6,1))) (gY 5 (3,0)))
def Ja:MC:=(fE 10 (iw (31,yp,vP false 9 (a9 11),(9,vU,(1,aT,10,a9 11),0)) (bL (eC (.bl false))) bM))
def GH:MC:=(fE 10 (7,rZ (aL dN [(sN 9 (a9 11) 0),(1,aT,10,a9 11)]),bL (eC (.bl false)),bM,Ja))
def JB:MC:=(fE 10 (bL (31,fg,Gm 9,(23,cm,[(cw [12] (iW (a9 10)) (bc 12) (8,vU,12,0) (a9 12))]))))
def AW:MC:=(aF (mI (oA (3,1) (23,cm,[(eO 2)])) (bc 11) GH) JB)
def JC:MC:=(fE 3 (12,10,aq k6 [(a9 3),(26,4,0),(9,kO,(23,cm,[(eO 2)]),1)],AW))
def JD:MC:=(7,Gk (rZ (Gn 9)) (rZ (aL dN [(eO 7),(26,4,0)])),bL (eC (.bl false)),bM,JC)
def MQ:MC:=(fE 7 (12,9,aq qL [(a9 7)],JD))
def MR:MC:=(fE 5 (7,Gk (rZ (aL dN [(eO 8),(eO 5)])) (rZ (aL dN [(aq CG [(bj [[61],(a9 2)]),(aq (f1 yq) [(a9 5)])]),(eO 4)])),bL (eC (.bl false)),bM,MQ))
def MS:MC:=(fE 7 (12,8,aq qM [(a9 7)],MR))
def MT:MC:=(12,7,aq (f1 yq) [(26,4,0)],MS)
def MU:MC:=(aF (mI (iW (26,4,0)) (bc 6) GI) MT)
def MV:MC:=(12,5,mJ [],MU)
def MW:MC:=(fE 3 (12,4,aq CG [(bj [[61],(a9 2)]),(aq (f1 yq) [(a9 3)])],MV))
def MX:MC:=(12,3,aq kz [[47],(3,2000),(aq aJ [[47],(3,2),(3,42)]),(9,kO,(23,cm,[(eO 2)]),1)],MW)
def MY:MC:=(12,2,aq mj [[47],[61],(aq aJ [[47],(3,1),(3,7)]),(3,3)],MX)
def SB:MC:=
 (12,1,aq kA [[47],(3,40),(31,aO,(3,1),aq aJ [[47],(3,0),(3,4)])],MY)
def Gh:([20])->[57]:=iZ 1 13 SB
end
end Bell
namespace Bell
end Bell
namespace Bell
open PySem L3
def Bf(n:Nat):([20])->[57]:=Nat.rec (motive:=λ_=>([20])->[57]) (λ_=>none) (λ_ G=>iZ 2 4 (pH G)) n
theorem iu(n:Nat):Bf (n+1)=iZ 2 4 (pH (Bf n)):=rfl
theorem Be(G:([20])->[57])(ds:[20])(mk:([20])->D)(hmk:mk=D.tup\/mk=D.lst)(hl:ds.length<=lim)(h:∀d∈ds,G [d,d]=okB true):
  aq (f1 F2) [cw [2,3] (Oe [47] [61]) (xF [2,3]) eI (aq G [(a9 2),(a9 3)])] [(6,mk ds),(6,mk ds),none,none]=okB true:=by
 have hz:Oe [47] [61] [(6,mk ds),(6,mk ds),none,none]=(34,(ds.map λd=>D.tup [d,d])):=by
  rcases hmk with rfl|rfl
  ·show(1,RI.ok _)=_;rw[AH]
  ·show(1,RI.ok _)=_;rw[AH]
 refine bY (R5 (λ_=>.bl true) hz (by rw[length_map];exact hl) λd hd=>?_) ?_
 ·obtain⟨e,he,rfl⟩:=mem_map.mp hd;exact⟨[(6,mk ds),(6,mk ds),(6,e),(6,e)],.sh (.bl true),rfl,rfl,h e he,rfl⟩
 ·rw[map_map];show(blsOf (ds.map λ_=>D.bl true)).bind (λbs=>okB (bs.all id))=_;rw[F9];simp
theorem Hm:∀(n:Nat)(d:D),fM n d->Bf (n+1) [d,d]=okB true:=by
 intro n d h
 induction h with
 |non n=>rw[iu];rfl
 |bl n b=>rw[iu];cases b <;> rfl
 |int n i=>
  rw[iu];exact aH rfl (6,(38,rfl),(38,rfl),(31,rfl,aU (il rfl (18,nF i))))
 |str n x=>
  rw[iu];exact aH rfl (6,(38,rfl),(38,rfl),(6,(38,rfl),(38,rfl),aU (il rfl (18,sM x))))
 |tup n ds hd hl ih=>
  rw[iu];exact aH rfl (31,rfl,aa (38,rfl) (aU (il (18,nF _) (Be (Bf (n+1)) ds D.tup [42] hl ih))))
 |lst n ds hd hl ih=>
  rw[iu];exact aH rfl (31,rfl,aa (38,rfl) (aU (il (18,nF _) (Be (Bf (n+1)) ds D.lst (.inr rfl) hl ih))))
theorem Hl{n:Nat}{d:D}(h:fM n d)(hn:n<=7):dN [d,d]=okB true:=Hm 7 d (h.mono hn)
def fz(ns:[24])(k m:Int):Int:=((if ns=[] then 0 else(ns.getD (k % ns.length).toNat 0) % 2147483647) * 48271+(k+1) * (k+5) * 69621) % 2147483629 % m
theorem yo{sc:D}{k m c:Int}(h0:0<=k)(h1:k<=100000)(hm:0<m):
  (bL (31,Ah,(9,Ah,(31,aO,(8,ip,3,48271),(9,ip,(31,ip,(8,aO,1,1),(8,aO,1,5)),69621)),2147483629),a9 2)) [(6,sc),(20,k),(20,m),(20,c)]
   = (1,.ret (.sh (16,((c * 48271+(k+1) * (k+5) * 69621) % 2147483629 % m)))):=by
 refine aU (1,(1,a8 (18,Sx [13] [13]) (1,(18,xp ?_ ?_),Sx [13] [13]) (add_int _ _),uc [13]),uc hm)
 ·show(-(2 ^ 60):Int)<=k+1;omega
 ·show k+1<=2 ^ 60;omega
theorem iM{ns:[24]}{k m:Int}(h0:0<=k)(h1:k<=100000)(hm:0<m):aJ [[54],(16,k),(16,m)]=okI (fz ns k m):=by
 cases ns with
 |nil=>exact aH rfl (6,ax rfl,(38,rfl),yo h0 h1 hm)
 |cons n ns=>
  have hl:(0:Int)<((n::ns).length:Int):=by rw[length_cons];omega
  have hp:0<=k % ((n::ns).length:Int):=Int.emod_nonneg _ [11]
  have hq:k % ((n::ns).length:Int)<((n::ns).length:Int):=Int.emod_lt_of_pos _ hl;have hlen:cm (13,((n::ns).map D.int))=okI ((n::ns).length:Int):=by show okI (((n::ns).map D.int).length:Int)=_;rw[length_map]
  have hix:aT (13,((n::ns).map D.int)) (16,(k % ((n::ns).length:Int)))=okI ((n::ns).getD (k % ((n::ns).length:Int)).toNat 0):=by
   have e:((n::ns).map D.int)[(k % ((n::ns).length:Int)).toNat]?=(1,(16,((n::ns).getD (k % ((n::ns).length:Int)).toNat 0))):=by
    have hi:(k % ((n::ns).length:Int)).toNat<(n::ns).length:=by omega
    rw[getElem?_map,getD_eq_getElem?_getD,(7,hi)];rfl
   have z:=j5 e;rwa[Int.toNat_of_nonneg hp] at z
  refine aH rfl (6,ax rfl,dH (1,gd rfl hlen,?_) (ax (1,(4,(4,gd rfl hlen,uc hl),hix),uc [13])),?_)
  ·show okB (decide (0<((n::ns).length:Int)))=_;rw[(51,hl)]
  ·unfold fz;rw[(29,cons_ne_nil _ _)];exact yo h0 h1 hm
theorem gE{ns:[24]}{k m:Int}(hm:0<m):0<=fz ns k m/\fz ns k m<m:=by
 unfold fz;exact(3,Int.emod_nonneg _ [11],Int.emod_lt_of_pos _ hm)
theorem nK{ns:[24]}{k m:Int}(h0:0<=k)(h1:k<=100000)(hm:0<m):∃n:Nat,aJ [[54],(16,k),(16,m)]=okI n/\(n:Int)<m:=by
 obtain⟨a,b⟩:=gE (ns:=ns) (k:=k) hm;refine(11,(fz ns k m).toNat,?_,by omega)
 rw[iM h0 h1 hm];congr 4;omega
abbrev Bx:=Str×[24]
def bD(b:Bx):D:=(22,[.str b.1,(22,b.2.map D.int)])
def bt(bs:[36]):D:=(22,bs.map bD)
def sY(i:Int):Prop:=-1000000000<=i/\i<=1000000000
def Ta(b:Bx):Prop:=1<=b.2.length/\b.2.length<=2/\∀i∈b.2,sY i
def cX(bs:[36]):Prop:=bs.length<=8/\∀b∈bs,Ta b
noncomputable def szB(bs:[36])(x:Nat):Nat:=(bs.getD x (Str.empty,[])).2.length
inductive Deed where
 |put (x:Nat) (ns:[24])|copy (x y:Nat)|grow (x:Nat) (n:Int)|tick (x:Nat)|still (n:Nat)
 |iz (x y:Nat) (n:Int)|most (x y:Nat) (n:Int)|non (x:Nat)|anew (x y t:Nat)
def Deed.d:Deed->D
 |.put x ns=>(22,[.str (15,"put"),(16,x),(22,[23])])
 |.copy x y=>(22,[.str (15,"copy"),(16,x),(16,y)])
 |.grow x n=>(22,[.str (15,"grow"),(16,x),(16,n)])
 |.tick x=>(22,[.str (15,"tick"),(16,x)])
 |.still n=>(22,[.str (15,"still"),(16,n)])
 |.iz x y n=>(22,[.str (15,"is"),(16,x),(16,y),(16,n)])
 |.most x y n=>(22,[.str (15,"most"),(16,x),(16,y),(16,n)])
 |.non x=>(22,[.str (15,"none"),(16,x)])
 |.anew x y t=>(22,[.str (15,"anew"),(16,x),(16,y),(16,t)])
def Deed.Ok(bs:[36]):Deed->Prop
 |.put x ns=>x<bs.length/\ns.length=[44]/\∀i∈ns,sY i
 |.copy x y=>x<bs.length/\y<bs.length/\x≠y/\(27,y)=[44]
 |.grow x n=>x<bs.length/\sY n
 |.tick x=>x<bs.length/\[44]=1
 |.still n=>1<=n/\n<=9
 |.iz x y n=>x<bs.length/\y<bs.length/\(27,y)=[44]/\sY n
 |.most x y n=>x<bs.length/\y<bs.length/\(27,y)=[44]/\sY n
 |.non x=>x<bs.length
 |.anew x y t=>x<bs.length/\y<bs.length/\t<bs.length/\x≠y/\x≠t/\y≠t/\(27,y)=[44]/\(27,t)=1
abbrev Pl:=Deed×Nat
structure Rw where
 nm:Str
 rk:Nat
 pl:List Pl
def plD(p:Pl):D:=(22,[p.1.d,(16,p.2)])
def Rw.d(r:Rw):D:=(22,[.str r.nm,(16,r.rk),(22,r.pl.map plD)])
def cD(bs:[36])(rs:List Rw):D:=(22,[bt bs,(22,[66])])
theorem nM(ds:[20]):cm (22,ds)=okI (ds.length:Int):=rfl
theorem qP(ds:[20]):cm (13,ds)=okI (ds.length:Int):=rfl
theorem Ll{bs:[36]}{x:Nat}(h:x<bs.length):aT (bt bs) (16,x)=okD (bD bs[x]):=ix_tup (by rw[getElem?_map,(7,h)];rfl)
theorem rT(bs:[36]):cm (bt bs)=okI (bs.length:Int):=by show okI ((bs.map bD).length:Int)=_;rw[length_map]
theorem Dr{bs:[36]}{x:Nat}(h:x<bs.length):[44]=bs[x].2.length:=by
 unfold szB;rw[getD_eq_getElem?_getD,(7,h)];rfl
theorem Lb(ns:[24]):cm (22,[23])=okI (ns.length:Int):=by show okI ([23].length:Int)=_;rw[length_map]
theorem Lm(b:Bx):aT (bD b) (16,1)=(76,b.2.map D.int):=fq
theorem zh{bs:[36]}{x:Nat}(h:x<bs.length){ρ:aC}{i j:Nat}(hi:ρ[i]?=(1,(6,bt bs)))(hj:ρ[j]?=(1,(20,x))):aL (f1 cm) [(9,aT,(1,aT,i,a9 j),1)] ρ=okI (szB bs x:Nat):=by
 rw[Dr h];exact gd (1,a8 (cg hi) (cg hj) (Ll h),Lm _) (Lb _)
theorem dk{bs:[36]}(hb:cX bs){x:Nat}(h:x<bs.length):[44]=1\/[44]=2:=by
 have hx:=hb.2 bs[x] (getElem_mem h);rw[Dr h];have:=hx.1;have:=hx.2.1;omega
abbrev intD(k:Nat):D:=(16,k)
def bQ(bs:[36])(x:Nat):[29]:=(19,bs.length).filter λy=>!decide (y=x) && decide ((27,y)=[44])
def ones(bs:[36])(x y:Nat):[29]:=(19,bs.length).filter λt=>!decide (t=x) && (!decide (t=y) && decide ((27,t)=1))
theorem yf{bs:[36]}{x y:Nat}:y∈bQ bs x↔y<bs.length/\y≠x/\(27,y)=[44]:=by
 unfold bQ;rw[mem_filter,mem_range];simp
theorem KI{bs:[36]}{x y t:Nat}:t∈ones bs x y↔t<bs.length/\t≠x/\t≠y/\(27,t)=1:=by
 unfold ones;rw[mem_filter,mem_range];simp
theorem I9{bs:[36]}{x:Nat}:(bQ bs x).length<=bs.length:=by
 unfold bQ;refine le_trans (List.length_filter_le _ _) ?_;rw[length_range];exact[25]
theorem SM(i j:Nat):fg (16,i) (16,j)=okB (decide (i=j)):=by rw[LW,show decide ((i:Int)=(j:Int))=decide (i=j) from decide_eq_decide.mpr [11]]
theorem U9(i j:Nat):yp (16,i) (16,j)=okB (!decide (i=j)):=by rw[U8,show decide ((i:Int)=(j:Int))=decide (i=j) from decide_eq_decide.mpr [11]]
theorem UH(i j:Nat):vU (16,i) (16,j)=okB (decide (j<i)):=by rw[QQ,show decide ((j:Int)<(i:Int))=decide (j<i) from decide_eq_decide.mpr [11]]
theorem D1{ρ:aC}{a b:ME}{p q:Bool}(h1:a ρ=okB p)(h2:b ρ=okB q):fZ a b ρ=okB (p && q):=by
 cases p with
 |true=>exact il h1 h2
 |false=>exact pb h1
theorem NY{bs:[36]}(hb:cX bs){x:Nat}{sz:Int}(hs:sz=(szB bs x:Nat)){ρ:aC}{js:[29]}{i j s v:Nat}(h0:ρ[i]?=(1,(6,bt bs)))(hi:(bE js ρ)[i]?=(1,(6,bt bs)))(hj:(bE js ρ)[j]?=(1,(20,x)))(hz:(bE js ρ)[s]?=(1,(20,sz)))(hv:v<ρ.length)(n1:v≠i)(n2:v≠j)(n3:v≠s)(hjs:(bE js ρ).length=ρ.length):
  cw js (cz (23,cm,[eO i])) (bc v) (fZ (1,yp,v,a9 j) (31,fg,(23,cm,[(9,aT,(1,aT,i,a9 v),1)]),a9 s)) (a9 v) ρ=okL ((bQ bs x).map intD):=by
 unfold bQ;refine qR (19,bs.length) intD (λy=>!decide (y=x) && decide ((27,y)=[44])) intD ?_ ?_ λy hy=>?_
 ·rw[←zt];exact eT (gd (lI h0) (rT bs)) (cB (by have:=hb.1;omega))
 ·rw[length_range];exact(55,hb.1)
 ·have hy':=mem_range.mp hy;have hself:((bE js ρ).set v (6,intD y))[v]?=(1,(6,intD y)):=(35,[11])
  refine(10,_,rfl,D1 (a8 (cg hself) (cg (by rw[(32,n2)];exact hj)) (U9 y x)) (a8 (zh hy' (by rw[(32,n1)];exact hi) hself) (cg (by rw[(32,n3)];exact hz)) (by rw[hs];exact SM _ _)),λ_=>(35,_,cg hself))
theorem Qq{bs:[36]}(hb:cX bs){x y:Nat}{ρ:aC}{js:[29]}{i j s v:Nat}(h0:ρ[i]?=(1,(6,bt bs)))(hi:(bE js ρ)[i]?=(1,(6,bt bs)))(hj:(bE js ρ)[j]?=(1,(20,x)))(hz:(bE js ρ)[s]?=(1,(20,y)))(hv:v<ρ.length)(n1:v≠i)(n2:v≠j)(n3:v≠s)(hjs:(bE js ρ).length=ρ.length):
  cw js (cz (23,cm,[eO i])) (bc v) (fZ (1,yp,v,a9 j) (fZ (1,yp,v,a9 s) (9,fg,(23,cm,[(9,aT,(1,aT,i,a9 v),1)]),1))) (a9 v) ρ=okL ((ones bs x y).map intD):=by
 unfold ones;refine qR (19,bs.length) intD (λt=>!decide (t=x) && (!decide (t=y) && decide ((27,t)=1))) intD ?_ ?_ λt ht=>?_
 ·rw[←zt];exact eT (gd (lI h0) (rT bs)) (cB (by have:=hb.1;omega))
 ·rw[length_range];exact(55,hb.1)
 ·have ht':=mem_range.mp ht;have hself:((bE js ρ).set v (6,intD t))[v]?=(1,(6,intD t)):=(35,[11])
  refine(10,_,rfl,D1 (a8 (cg hself) (cg (by rw[(32,n2)];exact hj)) (U9 t x)) (D1 (a8 (cg hself) (cg (by rw[(32,n3)];exact hz)) (U9 t y)) (1,zh ht' (by rw[(32,n1)];exact hi) hself,SM _ 1)),λ_=>(35,_,cg hself))
theorem EC{l:[29]}{j:Nat}(h:j<l.length):aT (13,l.map intD) (16,j)=okI (l[j]:Nat):=j5 (by rw[getElem?_map,(7,h)];rfl)
theorem yb{ns:[24]}{k:Int}(h0:0<=k)(h1:k<=10000):∃i,cf [[54],(16,k)]=okI i/\sY i:=by
 have d9:=iM (ns:=ns) (k:=k) (m:=9) h0 [11] [13]
 have d7:=iM (ns:=ns) (k:=k+1) (m:=7) [11] [11] [13]
 have d2:=iM (ns:=ns) (k:=k+1) (m:=2) [11] [11] [13]
 have dm:=iM (ns:=ns) (k:=k+1) (m:=2000000001) [11] [11] [13]
 have l7:=(29,k+1,7,[13])
 have l2:=(29,k+1,2,[13])
 have lm:=(29,k+1,2000000001,[13])
 unfold sY;by_cases c1:fz ns k 9<6
 ·exact(10,fz ns (k+1) 7 - 3,aH rfl (20,(18,rfl,rfl,d9),(31,(18,Im c1),aU (1,(18,(18,rfl),rfl,d7),rfl))),by omega,by omega)
 ·by_cases c2:fz ns k 9=6
  ·exact(10,1000000000 - 2000000000 * fz ns (k+1) 2,aH rfl (6,ax (18,rfl,rfl,d9),(58,xv c1),(31,(18,nE c2),aU (4,(4,(18,(18,rfl),rfl,d2),xp [13] [13]),rfl))),by omega,by omega)
  ·exact(10,fz ns (k+1) 2000000001 - 1000000000,aH rfl (6,ax (18,rfl,rfl,d9),(58,xv c1),aa (58,nG c2) (aU (1,(18,(18,rfl),rfl,dm),rfl))),by omega,by omega)
def vn(ns:[24])(k:Int):Int:=match cf [[54],(16,k)] with
 |some (.ok (.sh (.int i)))=>i
 |_=>0
theorem oy{ns:[24]}{k:Int}(h0:0<=k)(h1:k<=10000):cf [[54],(16,k)]=okI (vn ns k):=by
 obtain⟨i,e,_⟩:=yb (ns:=ns) h0 h1;unfold vn;rw[e]
theorem ox{ns:[24]}{k:Int}(h0:0<=k)(h1:k<=10000):sY (vn ns k):=by
 obtain⟨i,e,h⟩:=yb (ns:=ns) h0 h1;unfold vn;rw[e];exact h
theorem ya{ns:[24]}{b:Int}{sz:Nat}(hz:sz<=100){ρ:aC}{js:[29]}{it:MI}{elt:ME}{v:Nat}(hi:it ρ=(34,rng 0 sz))(he:∀j:Nat,j<sz->elt ((bE js ρ).set v (20,j))=okI (vn ns (b+2 * j))):
  cw js it (bc v) eI elt ρ=okL (((19,sz).map λj:Nat=>vn ns (b+2 * j)).map D.int):=by
 rw[map_map];refine fL (19,sz) intD _ (by rw[hi,zt]) (by rw[length_range];exact(55,hz)) λj hj=>(4,_,rfl,_,he j (mem_range.mp hj),rfl)
theorem Qy{k:Nat}(h:k<8):∃c,aT (.str (15,"abcdefgh")) (16,k)=okD (.str ⟨#[c]⟩):=by
 have hk:k=0\/k=1\/k=2\/k=3\/k=4\/k=5\/k=6\/k=7:=by omega
 rcases hk with rfl|rfl|rfl|rfl|rfl|rfl|rfl|rfl <;> exact(3,_,rfl)
theorem NW{k:Nat}(h:k<8){ρ:aC}{i:Nat}(hi:ρ[i]?=(1,(20,k))):∃nm,ag aO (45,(15,"b")) (31,aT,(45,(15,"abcdefgh")),a9 i) ρ=okD (.str nm):=by
 obtain⟨c,hc⟩:=Qy h;refine(3,(15,"b")++⟨#[c]⟩,(4,(4,cg hi,hc),?_));show(if(15,"b").length+(Str.mk #[c]).length<=lim then okD (.str ((15,"b") ++ ⟨#[c]⟩)) else none)=_;exact(25,(by show(15,"b").length+1<=lim;decide))
def Au(ns:[24])(base:Int)(many k:Nat)(ρ:aC):Prop:=∃bs:List Bx,bs.length=k/\(∀b∈bs,Ta b)/\∃e4 e5 e6:Option S,ρ=[(6,[54]),(20,base),(20,many),(52,bs.map bD),e4,e5,e6,none]
theorem Mn{ns:[24]}{base:Int}{many:Nat}(hb:0<=base)(hb1:base<=1000)(hm:many<=8):∃bs:List Bx,kA [[54],(16,base),(16,many)]=okD (bt bs)/\bs.length=many/\cX bs:=by
 have step:∀(k:Nat)(ρ:aC),k<many->Au ns base many k ρ->∃ρ1 ρ2,bc 4 (16,k) ρ=(1,ρ1)/\p8 ρ1=(46,ρ2)/\Au ns base many (k+1) ρ2:=by
  rintro k ρ hk ⟨bs,hl,hs,e4,e5,e6,rfl⟩
  have d2:=iM (ns:=ns) (k:=base+5 * k) (m:=2) [11] [11] [13]
  obtain⟨l1,l2⟩:=(29,base+5 * (k:Int),2,[13])
  obtain⟨sz,hsz⟩:∃sz:Nat,1+fz ns (base+5 * k) 2=sz:=(69,(1+fz ns (base+5 * k) 2).toNat)
  obtain⟨nm,hnm⟩:=NW (k:=k) [11] (ρ:=[(6,[54]),(20,base),(20,many),(52,bs.map bD),(20,k),(20,(base+5 * k)),(20,sz),none]) (i:=4) rfl
  have hnum:=ya (ns:=ns) (b:=base+5 * k+1) (sz:=sz) [11] (ρ:=[(6,[54]),(20,base),(20,many),(52,bs.map bD),(20,k),(20,(base+5 * k)),(20,sz),none]) (js:=[7]) (it:=cz (a9 6)) (v:=7)
   (elt:=aq cf [(a9 0),(ag aO (ag aO (a9 5) (eC (.int 1))) (ag ip (eC (.int 2)) (a9 7)))]) (eT rfl (cB [11])) λj hj=>(33,a8 (18,rfl) (18,xp [13] [13]) rfl,oy (by show 0<=base+5 * (k:Int)+1+2 * (j:Int);omega) (by show base+5 * (k:Int)+1+2 * (j:Int)<=10000;omega))
  refine⟨_,_,rfl,(6,ax (4,(18,xp [13] [13]),rfl),ax (4,(18,rfl,rfl,d2),(by rw[←hsz];rfl)),iY rfl (kS hnm (bY hnum rfl)) ?_),bs++[(nm,(19,sz).map λj:Nat=>vn ns (base+5 * k+1+2 * j))],?_,?_,(20,k),(20,(base+5 * k)),(20,sz),?_⟩
  ·rw[length_map,hl];exact lt_of_lt_of_le (by omega:k<8) [13]
  ·rw[length_append,hl];rfl
  ·intro b hb;rcases mem_append.mp hb with h|h
   ·exact hs b h
   ·rw[(39,h)];refine(11,by rw[length_map,length_range];omega,by rw[length_map,length_range];omega,λi hi=>?_)
    obtain⟨j,hj,rfl⟩:=mem_map.mp hi;have:=mem_range.mp hj;exact ox [11] [11]
  ·rw[map_append];rfl
 obtain⟨ρ',e,bs,hl,hs,e4,e5,e6,rfl⟩:=mi (ρ:=[(6,[54]),(20,base),(20,many),(52,[]),none,none,none,none]) (Au ns base many) many ⟨[],rfl,λ_ h=>(nomatch h),none,none,none,rfl⟩ step
 exact(4,bs,aH rfl (6,ax rfl,kx (eT rfl (cB [11])) e,cE (aU (bY rfl rfl))),hl,by omega,hs)
theorem QL{w:Int}:MD false (16,w) (22,[(16,7),(16,8)])=okB (decide (w=7\/w=8)):=by
 show okB (((7:Int) == w) || (((8:Int) == w) || false))=_;congr 4;rw[Bool.or_false,Bool.eq_iff_iff];simp;omega
theorem qF(l:[29]):cm (13,l.map intD)=okI (l.length:Int):=by rw[qP,length_map]
theorem G3{ns:[24]}{bs:[36]}{x:Nat}{k:Int}(hk0:0<=k)(hk1:k<=1000)(hb:cX bs)(hl:0<(bQ bs x).length):∃y,aT (13,((bQ bs x).map intD)) (16,fz ns (k+2) ((bQ bs x).length:Int))=okI (y:Nat)/\y<bs.length/\y≠x/\(27,y)=[44]:=by
 obtain⟨j,hj⟩:∃j:Nat,fz ns (k+2) ((bQ bs x).length:Int)=j:=(3,(fz ns (k+2) ((bQ bs x).length:Int)).toNat,by have:=(29,k+2,((bQ bs x).length:Int),[11]);omega)
 have hjl:j<(bQ bs x).length:=by have:=(29,k+2,((bQ bs x).length:Int),[11]);omega
 have:=yf.mp (getElem_mem hjl);exact(11,(bQ bs x)[j],by rw[hj];exact EC hjl,this)
theorem xS{bs:[36]}{a b:MC}{ρ ρ':aC}(h:a ρ=(46,ρ'))(t:∃dd:Deed,dd.Ok bs/\b ρ'=(1,.ret (.sh dd.d))):∃dd:Deed,dd.Ok bs/\aF a b ρ=(1,.ret (.sh dd.d)):=by
 obtain⟨dd,ok,e⟩:=t;exact(11,dd,ok,aa h e)
theorem Ou{ns:[24]}{bs:[36]}(hb:cX bs)(h1:1<=bs.length){k:Int}(hk0:0<=k)(hk1:k<=1000):∃dd:Deed,dd.Ok bs/\mm [[54],(16,k),bt bs]=okD dd.d:=by
 have dw:=iM (ns:=ns) (k:=k) (m:=10) hk0 [11] [13]
 have lw:=(29,k,10,[13])
 generalize fz ns k 10=w at dw lw;obtain⟨x,dx,hx⟩:=(5,ns,k+1,bs.length,[11],[11])
 have hx:x<bs.length:=by omega
 have h12:=dk hb hx;have hm:=NY hb (x:=x) (sz:=(szB bs x:Nat)) rfl (ρ:=[(6,[54]),(20,k),(6,bt bs),(20,w),(20,x),(6,(.int (szB bs x:Nat))),none,none,none,none,none]) (js:=[7]) (i:=2) (j:=4) (s:=5) (v:=7) rfl rfl rfl rfl (by show 7<11;decide) [13] [13] [13] rfl
 have ml:=I9 (bs:=bs) (x:=x);have b8:=hb.1
 suffices z:∃dd:Deed,dd.Ok bs/\pW [some (.sh (.lst (ns.map D.int))),some (.sh (.int k)),some (.sh (bt bs)),some (.sh (.int w)),some (.sh (.int x)),some (.sh (.int (szB bs x:Nat))),some (.own (.lst ((bQ bs x).map intD))),none,none,none,none]=some (.ret (.sh dd.d)) by
  obtain⟨dd,ok,e⟩:=z;exact(11,dd,ok,aH rfl (6,ax (18,rfl,rfl,dw),ax (18,(18,rfl),gd rfl (rT bs),dx),(6,ax (zh hx rfl rfl),ax hm,e)))
 have hln:=qF (bQ bs x);have n2:=oy (ns:=ns) (k:=k+2) [11] [11]
 have n2':=ox (ns:=ns) (k:=k+2) [11] [11]
 have n3:=oy (ns:=ns) (k:=k+3) [11] [11]
 have n3':=ox (ns:=ns) (k:=k+3) [11] [11]
 have dl:∀n:Nat,0<n->aJ [[54],(16,(k+2)),.int (n:Int)]=okI (fz ns (k+2) (n:Int)):=λn hl=>iM [11] [11] [11]
 by_cases c0:w=0
 ·have hnum:=ya (ns:=ns) (b:=k+2) (sz:=[44]) [11] (ρ:=[(6,[54]),(20,k),(6,bt bs),(20,w),(20,x),(6,(.int (szB bs x:Nat))),(52,((bQ bs x).map intD)),none,none,none,none]) (js:=[10]) (it:=cz (a9 5)) (v:=10)
   (elt:=aq cf [(a9 0),(ag aO (ag aO (a9 1) (eC (.int 2))) (ag ip (eC (.int 2)) (a9 10)))]) (eT rfl (cB [11])) λj hj=>(33,a8 (18,rfl) (18,xp [13] [13]) rfl,oy (by show 0<=k+2+2 * (j:Int);omega) (by show k+2+2 * (j:Int)<=10000;omega))
  refine(11,.put x ((19,[44]).map λj:Nat=>vn ns (k+2+2 * j)),(11,hx,by rw[length_map,length_range],λi hi=>?_),(31,(18,nE c0),aU (18,rfl,bY hnum rfl,rfl)))
  obtain⟨j,hj,rfl⟩:=mem_map.mp hi;have:=mem_range.mp hj;exact ox [11] [11]
 refine xS (58,nG c0) ?_;by_cases c1:w=1/\0<(bQ bs x).length
 ·obtain⟨y,ey,y1,y2,y3⟩:=G3 (ns:=ns) hk0 hk1 hb c1.2;exact(11,.copy x y,(10,hx,y1,λz=>y2 z.symm,y3),(31,il (18,nE c1.1) (1,gd rfl hln,xy [11]),cE (aU (18,rfl,(4,(18,(18,rfl),gd rfl hln,dl _ c1.2),ey),rfl))))
 have fa1:(10,(8,fg,3,1),(9,vU,(23,cm,[(eO 6)]),0))=[64]:=by
  by_cases q:w=1
  ·exact il (18,nE q) (1,gd rfl hln,xA [11])
  ·exact pb (18,nG q)
 refine xS (38,fa1) ?_;by_cases c2:w=2/\[44]=1
 ·exact(11,.tick x,(3,hx,c2.2),(31,il (18,nE c2.1) (18,nE [11]),aU (33,rfl,rfl)))
 have f2:(10,(8,fg,3,2),(8,fg,5,1))=[64]:=by
  by_cases q:w=2
  ·exact il (18,nE q) (18,nG [11])
  ·exact pb (18,nG q)
 refine xS (38,f2) ?_;by_cases c3:w=3
 ·obtain⟨n,dn,hn⟩:=(5,ns,k+2,9,[11],[11])
  refine(11,.still (1+n),(69,by omega),(31,(18,nE c3),aU (br (s2:=.sh (16,((1+n:Nat):Int))) rfl (4,(18,(18,rfl),rfl,dn),?_) rfl)))
  show okI (1+(n:Int))=okI ((1+n:Nat):Int);congr 4
 refine xS (58,nG c3) ?_;by_cases c45:w=4\/w=5
 ·have t5:Gk (8,fg,3,4) (8,fg,3,5) [(6,[54]),(20,k),(6,bt bs),(20,w),(20,x),(6,(.int (szB bs x:Nat))),(52,((bQ bs x).map intD)),none,none,none,none]=okB true:=by
   rcases c45 with h|h
   ·exact Si (18,nE h)
   ·exact HC (18,nG [11]) (18,nE h)
  have hcat:aO (13,((bQ bs x).map intD)) (13,[(16,x)])=okL ((bQ bs x++[x]).map intD):=by
   show(if((bQ bs x).map intD).length+1<=lim then okL ((bQ bs x).map intD++[(16,x)]) else none)=_;rw[length_map,(25,(le_trans (by omega:(bQ bs x).length+1<=9) [13])),map_append]
   rfl
  obtain⟨j,hj⟩:∃j:Nat,fz ns (k+2) (((bQ bs x).length:Int)+1)=j:=(3,(fz ns (k+2) (((bQ bs x).length:Int)+1)).toNat,by have:=(29,k+2,((bQ bs x).length:Int)+1,[11]);omega)
  have hjl:j<(bQ bs x++[x]).length:=by have:=(29,k+2,((bQ bs x).length:Int)+1,[11]);rw[length_append,length_singleton];omega
  have hy:(bQ bs x++[x])[j]<bs.length/\(27,(bQ bs x++[x])[j])=[44]:=by
   rcases mem_append.mp (getElem_mem hjl) with h|h
   ·have:=yf.mp h;exact(3,this.1,this.2.2)
   ·rw[(39,h)];exact(3,hx,rfl)
  have ey:aT (13,((bQ bs x++[x]).map intD)) (16,fz ns (k+2) (((bQ bs x).length:Int)+1))=okI ((bQ bs x++[x])[j]:Nat):=by rw[hj];exact EC hjl
  generalize (bQ bs x++[x])[j]=y at hy ey;have dy:=iM (ns:=ns) (k:=k+2) (m:=((bQ bs x).length:Int)+1) [11] [11] [11]
  rcases c45 with rfl|rfl
  ·exact(11,.iz x y (vn ns (k+3)),(10,hx,hy.1,hy.2,n3'),(31,t5,cE (20,a8 (18,hcat) (18,(18,rfl),(1,gd rfl hln,rfl),dy) ey,aU (nO (4,(18,rfl),Lk) rfl rfl (33,(18,rfl),n3) rfl))))
  ·exact(11,.most x y (vn ns (k+3)),(10,hx,hy.1,hy.2,n3'),(31,t5,cE (20,a8 (18,hcat) (18,(18,rfl),(1,gd rfl hln,rfl),dy) ey,aU (nO (4,(18,rfl),SE) rfl rfl (33,(18,rfl),n3) rfl))))
 have f45:Gk (8,fg,3,4) (8,fg,3,5) [(6,[54]),(20,k),(6,bt bs),(20,w),(20,x),(6,(.int (szB bs x:Nat))),(52,((bQ bs x).map intD)),none,none,none,none]=[64]:=HC (18,nG [11]) (18,nG [11])
 refine xS (38,f45) ?_;by_cases c6:w=6
 ·exact(11,.non x,hx,(31,(18,nE c6),aU (33,rfl,rfl)))
 refine xS (58,nG c6) ?_;have grow:∀(ms o7 o8:(8,S)),∃dd:Deed,dd.Ok bs/\oP [(6,[54]),(20,k),(6,bt bs),(20,w),(20,x),(6,(.int (szB bs x:Nat))),ms,o7,o8,none,none]=(1,.ret (.sh dd.d)):=λms o7 o8=>
  (11,.grow x (vn ns (k+2)),(3,hx,n2'),aU (18,rfl,(33,(18,rfl),n2),rfl))
 by_cases c7:(w=7\/w=8)/\0<(bQ bs x).length
 ·obtain⟨y,ey,y1,y2,y3⟩:=G3 (ns:=ns) hk0 hk1 hb c7.2;have hone:=Qq (x:=x) (y:=y) hb (ρ:=[(6,[54]),(20,k),(6,bt bs),(20,w),(20,x),(6,(.int (szB bs x:Nat))),(6,(13,((bQ bs x).map intD))),(20,y),none,none,none]) (js:=[9]) (i:=2) (j:=4) (s:=7) (v:=9) rfl rfl rfl rfl (by show 9<11;decide) [13] [13] [13] rfl
  have t7:(10,(1,MD false,3,bj [(3,7),(3,8)]),(9,vU,aL (L3.f1 cm) [(eO 6)],0))=okB true:=
   il (4,kS rfl rfl,QL.trans (by rw[(51,c7.1)])) (1,gd rfl hln,xy [11])
  by_cases c8:0<(ones bs x y).length
  ·obtain⟨j,hj⟩:∃j:Nat,fz ns (k+3) ((ones bs x y).length:Int)=j:=(3,(fz ns (k+3) ((ones bs x y).length:Int)).toNat,by have:=(29,k+3,((ones bs x y).length:Int),[11]);omega)
   have hjl:j<(ones bs x y).length:=by have:=(29,k+3,((ones bs x y).length:Int),[11]);omega
   have hmem:=KI.mp (getElem_mem hjl);have et:aT (13,((ones bs x y).map intD)) (16,fz ns (k+3) ((ones bs x y).length:Int))=okI ((ones bs x y)[j]:Nat):=by rw[hj];exact EC hjl
   generalize (ones bs x y)[j]=t at hmem et;exact(11,.anew x y t,⟨hx,y1,hmem.1,λz=>y2 z.symm,λz=>hmem.2.1 z.symm,λz=>hmem.2.2.1 z.symm,y3,hmem.2.2.2⟩,(31,t7,cE (6,ax (4,(18,(18,rfl),gd rfl hln,dl _ c7.2),ey),ax hone,dH (1,gd rfl (qF _),xy [11]) (cE (aU (nO rfl rfl rfl (4,(18,(18,rfl),gd rfl (qF _),iM [11] [11] [11]),et) rfl))))))
  ·obtain⟨dd,ok,e⟩:=grow (6,(13,((bQ bs x).map intD))) (20,y) (52,((ones bs x y).map intD));exact(11,dd,ok,aa (dH t7 (cE (6,ax (4,(18,(18,rfl),gd rfl hln,dl _ c7.2),ey),ax hone,(38,(1,gd rfl (qF _),xA [11]))))) e)
 ·have f7:(10,(1,MD false,3,bj [(3,7),(3,8)]),(9,vU,aL (L3.f1 cm) [(eO 6)],0))=[64]:=by
   by_cases q:w=7\/w=8
   ·exact il (4,kS rfl rfl,QL.trans (by rw[(51,q)])) (1,gd rfl hln,xA [11])
   ·exact pb (4,kS rfl rfl,QL.trans (by rw[(40,q)]))
  obtain⟨dd,ok,e⟩:=grow (52,((bQ bs x).map intD)) none none;exact(11,dd,ok,aa (38,f7) e)
def fstB(bs:[36])(x:Nat):Nat:=((19,x).map (szB bs)).sum
def pV(bs:[36]):Nat:=(41,bs.length)
theorem vG(bs:[36])(x:Nat):(41,(x+1))=(41,x)+[44]:=by
 unfold fstB;rw[range_succ,map_append,sum_append];simp
theorem Cy{bs:[36]}:∀{x y:Nat},x<=y->(41,x)<=(41,y)
 |x,0,h=>by rw[Nat.le_zero.mp h];exact[25]
 |x,y+1,h=>by
  by_cases e:x=y+1
  ·rw[e];exact[25]
  ·rw[vG];have:=Cy (bs:=bs) (x:=x) (y:=y) [11];omega
theorem ER{bs:[36]}{x y:Nat}(h:x<y):(41,x)+[44]<=(41,y):=by rw[←vG];exact Cy h
theorem fu{bs:[36]}{x:Nat}(h:x<bs.length):(41,x)+[44]<=pV bs:=ER h
theorem Gg{bs:[36]}(hb:cX bs):∀{x:Nat},x<=bs.length->(41,x)<=2 * x
 |0,_=>[25]
 |x+1,h=>by
  rw[vG];have:=Gg hb (x:=x) [11]
  rcases dk hb (x:=x) (by omega) with e|e <;> omega
theorem yE{bs:[36]}(hb:cX bs):pV bs<=16:=by
 have:=Gg hb (le_refl bs.length);have:=hb.1;unfold pV;omega
def ay(bs:[36])(x:Nat):[29]:=(19,[44]).map λk=>(41,x)+k
theorem N0(l:[29]):(l.map λn:Nat=>(n:Int)).sum=((l.sum:Nat):Int):=by
 induction l with
 |nil=>rfl
 |cons n l ih=>rw[map_cons,sum_cons,sum_cons,ih];omega
theorem M5(l:[29]):Ov (13,l.map intD)=okI ((l.sum:Nat):Int):=by
 have:l.map intD=(l.map λn:Nat=>(n:Int)).map D.int:=by rw[map_map];rfl
 rw[this];show(intsOf _).bind _=_;rw[Cp];show okI _=_;rw[N0]
theorem uJ{bs:[36]}{x:Nat}(h:x<bs.length):jE [bt bs,(16,x)]=okI (szB bs x:Nat):=aH rfl (aU (zh h rfl rfl))
theorem bH{bs:[36]}(hb:cX bs){x:Nat}(h:x<bs.length):dh [bt bs,(16,x)]=okL ((ay bs x).map intD):=by
 have h8:=hb.1;have ht:=yE hb;have hf:=fu h;have hc:cw [3] (cz [61]) (bc 3) eI (aq jE [[47],(a9 3)]) [(6,bt bs),(20,x),none,none]=okL ((19,x).map λk=>intD (27,k)):=
  fL (19,x) intD _ (by rw[←zt];exact eT rfl (cB [11])) (by rw[length_range];exact le_trans (by omega:x<=8) [13]) λk hk=>(4,_,rfl,_,(33,rfl,(uJ (by have:=mem_range.mp hk;omega))),rfl)
 have hs:Ov (13,((19,x).map λk=>intD (27,k)))=okI (fstB bs x:Nat):=by
  have:((19,x).map λk=>intD (27,k))=((19,x).map (szB bs)).map intD:=by rw[map_map];rfl
  rw[this,M5];rfl
 have hr:nL (.int (fstB bs x:Nat)) (16,((fstB bs x:Nat)+(szB bs x:Nat):Int))=okL ((ay bs x).map intD):=by
  rw[Ho (by exact cB [11]) (by exact cB (n:=(41,x)+[44]) [11]) (le_trans (by omega:_<=16) [13])]
  have e:=Pz (41,x) ((41,x)+[44]);rw[Nat.add_sub_cancel_left] at e;show okL (rng (fstB bs x:Nat) ((((41,x)+[44]:Nat):Int)))=_;rw[e];unfold ay;rw[map_map];rfl
 exact aH rfl (20,bY hc hs,aU (4,(4,(33,rfl,uJ h),rfl),hr))
abbrev wz:=[29]×[29]
def gL(p:wz):D:=(22,[(22,p.1.map intD),(22,p.2.map intD)])
def Mv(bs:[36])(x y:Nat):[29]:=(jM ((ay bs x++ay bs y).map λn:Nat=>(n:Int))).map Int.toNat
def bS(bs:[36]):Deed->List wz
 |.put x _=>(ay bs x).map λc=>([],[c])
 |.copy x y=>(19,[44]).map λk=>([(41,y)+k],[(41,x)+k])
 |.grow x _=>((ay bs x).map λc=>([c],[]))++(ay bs x).map λc=>([],[c])
 |.tick x=>[([(41,x)],[(41,x)])]
 |.still n=>replicate n ([],[])
 |.iz x y _=>[(Mv bs x y,[])]
 |.most x y _=>[(Mv bs x y,[])]
 |.non _=>[([],[])]
 |.anew x y t=>(([(41,t)]++ay bs y++[(41,t)]).map λc=>([c],[]))++(ay bs x).map λc=>([],[c])
abbrev planS:Str:=(15,"plan")
def planD(bs:[36])(dd:Deed):D:=(13,((bS bs dd).map gL))
def yw:Deed->String
 |.put _ _ => "Put" | .copy _ _ => "Copy" | .grow _ _ => "Grow" | .tick _ => "Tick" | .still _ => "Still" | .iz _ _ _ => "Comparing" | .most _ _ _ => "Comparing" | .non _ => "Untouched" | .anew _ _ _ => "Anew"
def ku:Deed->[16]
 |.put _ _=>[(15,"numbers")]|.grow _ _=>[(15,"size"),(15,"number")]|.anew _ _ _=>[(15,"check")]|_=>[]
def Ag(bs:[36]):Deed->[20]
 |.put _ ns=>[(22,[23])]|.grow x n=>[.int (szB bs x:Nat),(16,n)]|.anew _ y _=>[[45]]|_=>[]
def BI(bs:[36])(dd:Deed):O:=.obj (yw dd) (planS::ku dd) (planD bs dd::Ag bs dd)
abbrev DC:List String:=["Deed","Promise","Comparing","Untouched","Still","Put","Copy","Tick","Handed","Grow","Anew"]
theorem sd(dd:Deed):DC.contains (yw dd)=true:=by cases dd <;> rfl
theorem lx{c:String}(hc:DC.contains c=true)(p:D):ia (27,[],[]) [p]=(1,(27,[planS],[p])):=lA rfl (kH (rE rfl hc rfl [13]) rfl)
theorem R4{A:[29]}(hA:A.length<=100){ρ:aC}{js:[29]}{it:MI}{v:Nat}(hi:it ρ=(34,A.map intD))(hv:v<(bE js ρ).length):cw js it (bc v) eI (bj [(bj [(a9 v)]),(bj [])]) ρ=okL ((A.map λc=>(([c],[]):wz)).map gL):=by
 rw[map_map];exact fL A intD _ hi (55,hA) λb _=>(4,_,rfl,_,kS (bY (cg (35,hv)) rfl) rfl,rfl)
theorem M9{A:[29]}(hA:A.length<=100){ρ:aC}{js:[29]}{it:MI}{v:Nat}(hi:it ρ=(34,A.map intD))(hv:v<(bE js ρ).length):cw js it (bc v) eI (bj [(bj []),(bj [(a9 v)])]) ρ=okL ((A.map λc=>(([],[c]):wz)).map gL):=by
 rw[map_map];exact fL A intD _ hi (55,hA) λb _=>(4,_,rfl,_,kS rfl (bY (cg (35,hv)) rfl),rfl)
theorem vE{c:String}(hc:DC.contains c=true){A B:[29]}(hA:A.length<=100)(hB:B.length<=100):lu (27,[],[]) [(13,A.map intD),(13,B.map intD)]=(1,(27,[planS],[(13,(((A.map λc=>(([c],[]):wz))++B.map λc=>(([],[c]):wz)).map gL))])):=by
 refine lA rfl (kH (qZ (s1:=.own (13,(((A.map λc=>(([c],[]):wz))++B.map λc=>(([],[c]):wz)).map gL))) (a8 (R4 hA (j6 rfl rfl) (by show 3<4;decide)) (M9 hB (j6 rfl rfl) (by show 3<4;decide)) ?_) (lx hc _)) rfl)
 show aO (13,_) (13,_)=_;rw[vW (by rw[length_map,length_map,length_map,length_map];omega),map_append]
theorem nv{c:String}(hc:DC.contains c=true){A:[29]}:jD (27,[],[]) [(13,A.map intD)]=(1,(27,[planS],[(13,([((A,[]):wz)].map gL))])):=
 lA rfl (kH (qZ (bY (kS (bY rfl rfl) rfl) rfl) (lx hc _)) rfl)
theorem insD_mem{k m:Int}:∀{l:[24]},m∈nr k l->m=k\/m∈l
 |[],h=>by simp[nr] at h;exact .inl h
 |x::r,h=>by
  unfold nr at h;split at h
  ·rcases mem_cons.mp h with h|h
   ·exact .inl h
   ·exact .inr h
  ·split at h
   ·exact .inr h
   ·rcases mem_cons.mp h with h|h
    ·exact .inr (by rw[h];exact mem_cons_self)
    ·rcases insD_mem h with h|h
     ·exact .inl h
     ·exact .inr (30,h)
theorem sortD_mem{m:Int}:∀{l:[24]},m∈jM l->m∈l
 |[],h=>h
 |x::r,h=>by
  rcases insD_mem (show m∈nr x (jM r) from h) with h|h
  ·rw[h];exact mem_cons_self
  ·exact(30,sortD_mem h)
theorem CS{bs:[36]}{x c:Nat}(h:x<bs.length)(hc:c∈ay bs x):c<pV bs:=by
 unfold ay at hc;obtain⟨k,hk,rfl⟩:=mem_map.mp hc;have:=mem_range.mp hk;have:=fu h;omega
theorem bU(bs:[36])(x:Nat):(ay bs x).length=[44]:=by unfold ay;rw[length_map,length_range]
theorem FE{bs:[36]}(hb:cX bs){x y:Nat}(hx:x<bs.length)(hy:y<bs.length):vT (13,((ay bs x).map intD++(ay bs y).map intD))=okL ((Mv bs x y).map intD):=by
 have e:(ay bs x).map intD++(ay bs y).map intD=((ay bs x++ay bs y).map λn:Nat=>(n:Int)).map D.int:=by
  rw[←map_append,map_map];rfl
 rw[e];show(intsOf _).bind _=_;rw[Cp];show(if fewD _=true then _ else none)=_;have few:fewD ((ay bs x++ay bs y).map λn:Nat=>(n:Int))=true:=by
  unfold fewD;rw[and_eq_true];constructor
  ·have h1:=dk hb hx;have h2:=dk hb hy;rw[decide_eq_true_iff,length_map,length_append,bU,bU];omega
  ·rw[all_eq_true];intro n hn;obtain⟨c,hc,rfl⟩:=mem_map.mp hn;have ht:=yE hb;have:c<pV bs:=by
    rcases mem_append.mp hc with h|h
    ·exact CS hx h
    ·exact CS hy h
   simp;omega
 rw[(25,few)];unfold Mv;rw[map_map];refine congrArg okL (map_congr_left λn hn=>?_);obtain⟨c,hc,rfl⟩:=mem_map.mp (sortD_mem hn);rfl
theorem xE{bs:[36]}(hb:cX bs){x:Nat}(h:x<bs.length):(ay bs x).length<=2:=by rw[bU];rcases dk hb h with e|e <;> omega
theorem Mh{bs:[36]}(hb:cX bs){x:Nat}(h:x<bs.length):(ay bs x)[0]?=(1,(41,x)):=by
 unfold ay;rw[getElem?_map,getElem?_range (by rcases dk hb h with e|e <;> omega)]
 rfl
theorem sf{bs:[36]}{x k:Nat}(h:k<[44]):(ay bs x)[k]?=(1,((41,x)+k)):=by
 unfold ay;rw[getElem?_map,getElem?_range h];rfl
theorem Cn{bs:[36]}{x k:Nat}(h:k<[44]):aT (13,((ay bs x).map intD)) (16,k)=okI ((41,x)+k:Nat):=j5 (by rw[getElem?_map,sf h];rfl)
theorem vS{bs:[36]}(hb:cX bs){dd:Deed}(ok:dd.Ok bs):jF [bt bs,dd.d]=(34,.own (BI bs dd)):=by
 cases dd with
 |still n=>
  have hn:n<=9:=ok.2;refine aH rfl (20,(18,bW),(31,(18,jv rfl),aU (L7 (18,fq) (lA rfl (kH (qZ (RX (ds:=[gL ([],[])]) (k:=(n:Int)) rfl rfl (11,by omega,by omega,?_)) (lx rfl _)) ?_)))))
  ·rw[toNat_natCast,length_singleton];exact le_trans (by omega:1 * n<=9) [13]
  ·show(1,O.obj "Still" [planS] [(13,(replicate (n:Int).toNat [gL ([],[])]).flatten)])=(1,O.obj "Still" [planS] [(13,((replicate n (([],[]):wz)).map gL))]);rw[toNat_natCast,List.map_replicate];congr 5
   induction n with
   |zero=>rfl
   |succ n ih=>rw[replicate_succ,replicate_succ,flatten_cons];exact congrArg _ (by
     clear ih ok hn
     induction n with
     |zero=>rfl
     |succ n ih=>rw[replicate_succ,replicate_succ,flatten_cons,ih];rfl)
 |non x=>
  exact aH rfl (6,ax (18,bW),[59],(31,(18,jv rfl),aU (Sz (lA rfl (kH (qZ rfl (nv (A:=[]) rfl)) rfl)))))
 |put x ns=>
  have hx:x<bs.length:=ok.1;have hc:=bH hb hx;have h2:=xE hb hx;exact aH rfl (aa (ax (18,bW)) (aa [59] (aa [59] (aa (ax (33,(18,fq),hc)) (bK (dH (18,jv rfl) (cE (aU (Ca rfl (18,mE)
   (lA rfl (kH (qZ (M9 [11] (j6 rfl rfl) (by show 3<4;decide)) (lx rfl _)) (kH (rE (bY rfl rfl) rfl rfl [13]) rfl))))))))))))
 |grow x n=>
  have hx:x<bs.length:=ok.1;have hc:=bH hb hx;have h2:=xE hb hx;have hl:cm (13,((ay bs x).map intD))=okI (szB bs x:Nat):=by rw[qP,length_map,bU]
  exact aH rfl (aa (ax (18,bW)) (aa [59] (aa [59] (aa (ax (33,(18,fq),hc)) (aa [59] (bK (dH (18,jv rfl) (cE (aU (Ca rfl (18,mE)
   (lA rfl (kH (Pa rfl rfl (vE rfl [11] [11])) (kH (rE (gd rfl hl) rfl rfl [13]) (kH (rE rfl rfl rfl [13]) rfl))))))))))))))
 |tick x=>
  have hx:x<bs.length:=ok.1;have hc:=bH hb hx;have h1:aT (13,((ay bs x).map intD)) (16,0)=okI (fstB bs x:Nat):=j5 (n:=0) (by rw[getElem?_map,Mh hb hx];rfl)
  exact aH rfl (aa (ax (18,bW)) (aa [59] (aa [59] (aa (ax (33,(18,fq),hc)) (aa [59] (aa [59] (bK (dH (18,jv rfl) (cE (aU (L7 (18,h1)
   (lA rfl (kH (qZ (bY (kS (bY rfl rfl) (bY rfl rfl)) rfl) (lx rfl _)) rfl)))))))))))))
 |copy x y=>
  have hx:x<bs.length:=ok.1;have hy:y<bs.length:=ok.2.1;have hxy:(27,y)=[44]:=ok.2.2.2;have hc:=bH hb hx;have hd:=bH hb hy;have h12:=dk hb hx;have hl:cm (13,((ay bs x).map intD))=okI (szB bs x:Nat):=by rw[qP,length_map,bU]
  have hcomp:cw [3] (cz (23,cm,[(eO 1)])) (bc 3) eI (bj [(bj [(1,aT,2,a9 3)]),(bj [(1,aT,1,a9 3)])]) [none,(6,(13,((ay bs x).map intD))),(6,(13,((ay bs y).map intD))),none]=okL (((19,[44]).map λk=>(([(41,y)+k],[(41,x)+k]):wz)).map gL):=by
   rw[map_map];refine fL (19,[44]) intD _ (by rw[←zt];exact eT (gd rfl hl) (cB [11])) (by rw[length_range];exact le_trans (by omega:[44]<=2) [13]) λk hk=>(4,_,rfl,_,kS (bY (18,(Cn (by have:=mem_range.mp hk;omega))) rfl) (bY (18,Cn (mem_range.mp hk)) rfl),rfl)
  exact aH rfl (aa (ax (18,bW)) (aa [59] (aa [59] (aa (ax (33,(18,fq),hc)) (aa [59] (aa [59] (aa [59] (aa (ax (33,(18,mE),hd)) (bK (dH (18,jv rfl) (cE (cE (aU (Ca rfl rfl
   (lA rfl (kH (qZ hcomp (lx rfl _)) rfl))))))))))))))))
 |anew x y t=>
  obtain⟨hx,hy,ht,nxy,nxt,nyt,hxy,ht1⟩:=ok;have hc:=bH hb hx;have hd:=bH hb hy;have he:=bH hb ht;have h2:=xE hb hx;have h3:=xE hb hy;have h1:aT (13,((ay bs t).map intD)) (16,0)=okI (fstB bs t:Nat):=j5 (n:=0) (by rw[getElem?_map,Mh hb ht];rfl)
  have hl:cm (13,((ay bs y).map intD))=okI (szB bs y:Nat):=by rw[qP,length_map,bU]
  have e1:aO (13,[.int (fstB bs t:Nat)]) (13,((ay bs y).map intD))=okL (([(41,t)]++ay bs y).map intD):=by
   rw[vW (by rw[length_map,length_singleton];omega),map_append];rfl
  have e2:aO (13,(([(41,t)]++ay bs y).map intD)) (13,[.int (fstB bs t:Nat)])=okL (([(41,t)]++ay bs y++[(41,t)]).map intD):=by
   rw[vW (by rw[length_map,length_append,length_singleton,length_singleton];omega),map_append (l₁:=[(41,t)]++ay bs y)];rfl
  exact aH rfl (aa (ax (18,bW)) (aa [59] (aa [59] (aa (ax (33,(18,fq),hc)) (aa [59] (aa [59] (aa [59] (aa (ax (33,(18,mE),hd)) (aa [59] (bK (dH (18,jv rfl) (cE (cE (aU (Sy rfl rfl (1,(33,(18,G6),he),h1)
   (lA rfl (kH (Pa (a8 (1,bY rfl rfl,e1) (bY rfl rfl) e2) rfl (vE rfl (by rw[length_append,length_append,length_singleton];omega) [11])) (kH (rE (1,gd rfl hl,rfl) rfl rfl [13]) rfl))))))))))))))))))
 |iz x y n=>
  obtain⟨hx,hy,hxy,_⟩:=ok;have hc:=bH hb hx;have hd:=bH hb hy;have h2:=xE hb hx;have h3:=xE hb hy;exact aH rfl (aa (ax (18,bW)) (aa [59] (aa [59] (aa (ax (33,(18,fq),hc)) (aa [59] (aa [59] (aa [59] (aa (ax (33,(18,mE),hd)) (aa [59] (aa [59] (cE (cE (aU (Ca rfl rfl
   (lA rfl (kH (qZ (wC (18,vW (by rw[length_map,length_map];omega)) (FE hb hx hy)) (nv rfl)) rfl))))))))))))))))
 |most x y n=>
  obtain⟨hx,hy,hxy,_⟩:=ok;have hc:=bH hb hx;have hd:=bH hb hy;have h2:=xE hb hx;have h3:=xE hb hy;exact aH rfl (aa (ax (18,bW)) (aa [59] (aa [59] (aa (ax (33,(18,fq),hc)) (aa [59] (aa [59] (aa [59] (aa (ax (33,(18,mE),hd)) (aa [59] (aa [59] (cE (cE (aU (Ca rfl rfl
   (lA rfl (kH (qZ (wC (18,vW (by rw[length_map,length_map];omega)) (FE hb hx hy)) (nv rfl)) rfl))))))))))))))))
theorem QV(f:Str)(ns:[16])(d:D)(ds:[20]):tw f (f::ns) (d::ds)=(1,d):=by
 unfold tw;rw[(25,[19])]
theorem FM{c:String}(hc:DC.contains c=true){ns:[16]}{pl:List wz}{ds:[20]}{k:Nat}{p:wz}(h:pl[k]?=(1,p)):dI [(27,(planS::ns),((13,pl.map gL)::ds)),(16,k)]=okL (p.1.map intD):=
 aH rfl (aU (bY (1,(1,je rfl rfl hc (QV planS ns _ ds),j5 (by rw[getElem?_map,h];rfl)),bW) rfl))
theorem AI{c:String}(hc:DC.contains c=true){ns:[16]}{pl:List wz}{ds:[20]}{k:Nat}{p:wz}(h:pl[k]?=(1,p)):cJ [(27,(planS::ns),((13,pl.map gL)::ds)),(16,k)]=okL (p.2.map intD):=
 aH rfl (aU (bY (1,(1,je rfl rfl hc (QV planS ns _ ds),j5 (by rw[getElem?_map,h];rfl)),fq) rfl))
theorem Fs{c:String}(hc:DC.contains c=true){ns:[16]}{pl:List wz}{ds:[20]}:fY [(27,(planS::ns),((13,pl.map gL)::ds))]=okI (pl.length:Nat):=
 aH rfl (aU (gd (je rfl rfl hc (QV planS ns _ ds)) (by show okI ((pl.map gL).length:Int)=_;rw[length_map])))
theorem uv{c:String}(hc:DC.contains c=true):fC c=(1,dI):=by unfold fC AF;rw[(25,hc)]
theorem sk{c:String}(hc:DC.contains c=true):df c=(1,cJ):=by unfold df AF;rw[(25,hc)]
theorem ur{c:String}(hc:DC.contains c=true):iN c=(1,fY):=by unfold iN AF;rw[(25,hc)]
theorem jo{vs:[24]}{c:Nat}(h:c<vs.length):aT (22,vs.map D.int) (16,c)=okI (vs.getD c 0):=ix_tup (by rw[getElem?_map,(7,h),getD_eq_getElem?_getD,(7,h)];rfl)
theorem jG{vs:[24]}{c:Nat}{v:Int}(h:c<vs.length)(hl:vs.length<=1000):fb [(22,vs.map D.int),(16,c),(16,v)]=(76,((vs.set c v).map D.int)):=by
 have e1:eN [47] none (1,[61]) [(6,(22,vs.map D.int)),(20,c),(20,v)]=(76,((vs.map D.int).take c)):=GY rfl rfl rfl (by rw[length_map];exact h)
 have e2:eN [47] (1,(8,aO,1,1)) none [(6,(22,vs.map D.int)),(20,c),(20,v)]=(76,((vs.map D.int).drop (c+1))):=Bc rfl rfl (18,rfl) [11] (by rw[length_map];omega)
 have e3:(vs.set c v).map D.int=(vs.map D.int).take c++[D.int v]++(vs.map D.int).drop (c+1):=by
  rw[List.set_eq_take_append_cons_drop,(25,h),map_append,map_cons,List.map_take,List.map_drop];simp
 rw[e3];exact aH rfl (aU (a8 (a8 e1 (bY rfl rfl) (CT (by rw[length_take,length_map,length_singleton];omega))) e2 (CT (by rw[length_append,length_take,length_drop,length_map,length_singleton];omega))))
def bJ(bs:[36])(dd:Deed)(turn:Nat)(vs hand:[24]):[24]×[24]×Nat:=match dd with
 |.put x ns=>(vs.set ((41,x)+turn) (ns.getD turn 0),hand,turn+1)
 |.copy x y=>(vs.set ((41,x)+turn) (vs.getD ((41,y)+turn) 0),hand,turn+1)
 |.tick x=>(vs.set (41,x) (vs.getD (41,x) 0+1),hand,turn+1)
 |.grow x n=>if turn<[44] then(vs,hand++[vs.getD ((41,x)+turn) 0],turn+1)
  else(vs.set ((41,x)+(turn - [44])) (hand.getD (turn - [44]) 0+n),if turn+1=2 * [44] then[] else hand,turn+1)
 |.anew x y t=>if turn<(27,y)+1 then(vs,hand++[vs.getD (if turn=0 then(41,t) else(41,y)+(turn - 1)) 0],turn+1)
  else if(27,y)+1<turn then(vs.set ((41,x)+(turn - ((27,y)+2))) (hand.getD (turn - ((27,y)+1)) 0),if turn+1=2 * (27,y)+2 then[] else hand,turn+1)
  else if vs.getD (41,t) 0=hand.getD 0 0 then(vs,hand,turn+1) else(vs,[],0)
 |_=>(vs,hand,turn+1)
def JW(r:[24]×[24]×Nat):D:=(22,[(22,r.1.map D.int),(22,r.2.1.map D.int),.int (r.2.2:Nat)])
def Fn(bs:[36])(dd:Deed)(turn:Nat)(hand:[24]):Prop:=match dd with
 |.grow x _=>[44]<=turn->turn - [44]<hand.length
 |.anew _ y _=>(27,y)+1<=turn->turn - ((27,y)+1)<hand.length
 |_=>True
theorem sr(n:Nat):aO (16,n) (16,1)=okI ((n+1:Nat):Int):=rfl
theorem Bt{bs:[36]}{x k:Nat}{ns:[24]}(h:k<[44]):(bS bs (.put x ns))[k]?=(1,([],[(41,x)+k])):=by
 show((ay bs x).map _)[k]?=_;rw[getElem?_map,sf h];rfl
theorem rL{bs:[36]}{x y k:Nat}(h:k<[44]):(bS bs (.copy x y))[k]?=(1,([(41,y)+k],[(41,x)+k])):=by
 show((19,[44]).map _)[k]?=_;rw[getElem?_map,getElem?_range h];rfl
theorem v8{bs:[36]}{x k:Nat}{n:Int}(h:k<[44]):(bS bs (.grow x n))[k]?=(1,([(41,x)+k],[])):=by
 show(((ay bs x).map _)++_)[k]?=_;rw[(59,(by rw[length_map,bU];exact h)),getElem?_map,sf h];rfl
theorem v7{bs:[36]}{x k:Nat}{n:Int}(h0:[44]<=k)(h:k<2 * [44]):(bS bs (.grow x n))[k]?=(1,([],[(41,x)+(k - [44])])):=by
 show(((ay bs x).map _)++_)[k]?=_;rw[(64,(by rw[length_map,bU];exact h0)),length_map,bU,getElem?_map,sf [11]];rfl
theorem hJ{bs:[36]}:∀{dd:Deed},(bS bs dd).length=match dd with|.put x _=>[44]|.copy x _=>[44]|.grow x _=>2 * [44]|.tick _=>1|.still n=>n|.iz _ _ _=>1|.most _ _ _=>1|.non _=>1|.anew x y _=>(27,y)+2+[44]
 |.put x _=>by show((ay bs x).map _).length=_;rw[length_map,bU]
 |.copy x _=>by show((19,[44]).map _).length=_;rw[length_map,length_range]
 |.grow x _=>by show(((ay bs x).map _)++_).length=_;rw[length_append,length_map,length_map,bU];show _=2 * [44];omega
 |.tick _=>rfl
 |.still n=>by show(replicate n _).length=_;rw[length_replicate]
 |.iz _ _ _=>rfl
 |.most _ _ _=>rfl
 |.non _=>rfl
 |.anew x y t=>by show((([(41,t)]++ay bs y++[(41,t)]).map _)++(ay bs x).map _).length=_;rw[length_append,length_map,length_map,length_append,length_append,bU,bU];show _=(27,y)+2+[44];simp;omega
theorem pA{bs:[36]}{x y t k:Nat}(h:k=0\/k=(27,y)+1):(bS bs (.anew x y t))[k]?=(1,([(41,t)],[])):=by
 show((([(41,t)]++ay bs y++[(41,t)]).map _)++_)[k]?=_;rw[(59,(by rw[length_map,length_append,length_append,bU];simp;omega)),getElem?_map]
 rcases h with rfl|rfl
 ·rfl
 ·rw[(64,(by rw[length_append,bU];simp;omega)),length_append,bU]
  show(([(41,t)][(27,y)+1 - (1+(27,y))]?).map _)=_;rw[show(27,y)+1 - (1+(27,y))=0 by omega];rfl
theorem va{bs:[36]}{x y t k:Nat}(h:k<(27,y)):(bS bs (.anew x y t))[k+1]?=(1,([(41,y)+k],[])):=by
 show((([(41,t)]++ay bs y++[(41,t)]).map _)++_)[k+1]?=_;rw[(59,(by rw[length_map,length_append,length_append,bU];simp;omega)),getElem?_map,(59,(by rw[length_append,bU];simp;omega))]
 show(((ay bs y)[k]?).map _)=_;rw[sf h];rfl
theorem v9{bs:[36]}{x y t k:Nat}(h:k<[44]):(bS bs (.anew x y t))[(27,y)+2+k]?=(1,([],[(41,x)+k])):=by
 show((([(41,t)]++ay bs y++[(41,t)]).map _)++_)[(27,y)+2+k]?=_;have hl:((([(41,t)]++ay bs y++[(41,t)]).map λc=>(([c],[]):wz))).length=(27,y)+2:=by rw[length_map,length_append,length_append,bU];simp;omega
 rw[(64,(by rw[hl];omega)),hl,getElem?_map,show(27,y)+2+k - ((27,y)+2)=k by omega,sf h];rfl
section
variable{bs:List Bx}{vs hand:List Int}{turn:Nat}
theorem PK{c:String}(hc:DC.contains c=true){ns:[16]}{pl:List wz}{ds:[20]}{a:Nat}{q:[29]}(h:pl[turn]?=(1,([a],q))){ρ:aC}{i j:Nat}(hi:ρ[i]?=(1,(6,(27,(planS::ns),((13,pl.map gL)::ds)))))(hn:(planS::ns).contains (15,"reads")=false)(hj:ρ[j]?=(1,(20,turn))):
  ag aT (dQ (15,"reads") fC (a9 i) [(a9 j)]) (3,0) ρ=okI (a:Nat):=
 (1,G0 (cg hi) rfl hn (uv hc) (cg hj) (FM hc h),Lk)
theorem Jw{c:String}(hc:DC.contains c=true){ns:[16]}{pl:List wz}{ds:[20]}{a:Nat}{q:[29]}(h:pl[turn]?=(1,(q,[a]))){ρ:aC}{i j:Nat}(hi:ρ[i]?=(1,(6,(27,(planS::ns),((13,pl.map gL)::ds)))))(hn:(planS::ns).contains (15,"writes")=false)(hj:ρ[j]?=(1,(20,turn))):
  ag aT (dQ (15,"writes") df (a9 i) [(a9 j)]) (3,0) ρ=okI (a:Nat):=
 (1,G0 (cg hi) rfl hn (sk hc) (cg hj) (AI hc h),Lk)
theorem kq{c:String}{ns:[16]}{ds:[20]}:eM [(27,ns,ds),(16,turn),(22,vs.map D.int),(22,hand.map D.int)]=okD (JW (vs,hand,turn+1)):=
 aH rfl (aU (18,rfl,(18,sr turn),rfl))
theorem Le{c:String}(hc:DC.contains c=true){ns:[16]}{pl:List wz}{ds:[20]}{a:Nat}{q:[29]}(h:pl[turn]?=(1,([a],q)))(hn:(planS::ns).contains (15,"reads")=false)(ha:a<vs.length)(hh:hand.length<=1000):
  ff [(27,(planS::ns),((13,pl.map gL)::ds)),(16,turn),(22,vs.map D.int),(22,hand.map D.int)]=okD (JW (vs,hand++[vs.getD a 0],turn+1)):=by
 have e:aO (22,hand.map D.int) (22,[(16,vs.getD a 0)])=(76,((hand++[vs.getD a 0]).map D.int)):=by
  rw[CT (by rw[length_map,length_singleton];omega),map_append];rfl
 exact aH rfl (aU (18,(4,bY (4,PK hc h rfl hn rfl,jo ha) rfl,e),(18,sr turn),rfl))
theorem uK{c:String}(hc:DC.contains c=true){ns:[16]}{pl:List wz}{ds:[20]}{a:Nat}{q:[29]}{v:Int}(h:pl[turn]?=(1,(q,[a])))(hn:(planS::ns).contains (15,"writes")=false)(hn':(planS::ns).contains (15,"turns")=false)(ha:a<vs.length)(hv:vs.length<=1000):
  cU [(27,(planS::ns),((13,pl.map gL)::ds)),(16,turn),(22,vs.map D.int),(22,hand.map D.int),(16,v)]=okD (JW (vs.set a v,if turn+1=pl.length then[] else hand,turn+1)):=by
 have ht:∀ρ:aC,ρ[0]?=(1,(6,(27,(planS::ns),((13,pl.map gL)::ds))))->dQ (15,"turns") iN [47] [] ρ=okI (pl.length:Nat):=λρ h0=>OX (cg h0) rfl hn' (ur hc) (Fs hc);by_cases e:turn+1=pl.length
 ·rw[(25,e)];exact aH rfl (6,ax (18,sr turn),ax (G9 (4,ht _ rfl,nE [11]) rfl),aU (bf (18,Jw hc h rfl hn rfl,rfl,jG ha hv) rfl rfl rfl))
 ·rw[(29,e)];exact aH rfl (6,ax (18,sr turn),ax (Ga (4,ht _ rfl,nG [11]) rfl),aU (bf (18,Jw hc h rfl hn rfl,rfl,jG ha hv) rfl rfl rfl))
theorem xM{c:String}(hc:["Handed","Grow","Anew"].contains c=true):o4 c=(1,ff):=by unfold o4 AF;rw[(25,hc)]
theorem xN{c:String}(hc:["Handed","Grow","Anew"].contains c=true):gK c=(1,cU):=by unfold gK AF;rw[(25,hc)]
theorem OI(hb:cX bs){dd:Deed}(ok:dd.Ok bs)(ht:turn<(bS bs dd).length)(hv:vs.length=pV bs)(hh:hand.length<=1000)(ho:Fn bs dd turn hand):
  ∃F,fD (yw dd)=(1,F)/\F [(BI bs dd).val,(16,turn),(22,vs.map D.int),(22,hand.map D.int)]=okD (JW (bJ bs dd turn vs hand)):=by
 have hT:=yE hb;rw[hJ] at ht;cases dd with
 |still n=>exact(11,_,uw,kq)
 |non x=>exact(11,_,pf,kq)
 |iz x y n=>exact(11,_,jL,kq)
 |most x y n=>exact(11,_,jL,kq)
 |put x ns=>
  have hf:=fu ok.1;have hn:aT (22,[23]) (16,turn)=okI (ns.getD turn 0):=jo (by rw[ok.2.1];exact ht)
  exact(11,_,yF,aH rfl (aU (bf (18,Jw rfl (Bt ht) rfl rfl rfl,(1,je (d:=(22,[23])) rfl rfl rfl rfl,hn),jG (by show(41,x)+turn<_;dsimp only at ht;omega) [11]) rfl (18,sr turn) rfl)))
 |copy x y=>
  have hf:=fu ok.1;have hg:=fu ok.2.1;have hxy:=ok.2.2.2;dsimp only at ht;exact(11,_,wF,aH rfl (20,(4,PK rfl (rL ht) rfl rfl rfl,jo (c:=(41,y)+turn) [11]),aU (bf (18,Jw rfl (rL ht) rfl rfl rfl,rfl,jG [11] [11]) rfl (18,sr turn) rfl)))
 |tick x=>
  have hf:=fu ok.1;have h1:[44]=1:=ok.2;dsimp only at ht;obtain rfl:turn=0:=by omega
  exact(11,_,wD,aH rfl (20,Jw (turn:=0) (pl:=bS bs (.tick x)) rfl rfl rfl rfl rfl,aU (bf (18,rfl,(1,(18,jo (c:=(41,x)) [11]),rfl),jG [11] [11]) rfl (18,sr 0) rfl)))
 |grow x n=>
  have hf:=fu ok.1;dsimp only at ht;have hl:(bS bs (.grow x n)).length=2 * [44]:=hJ;by_cases c:turn<[44]
  ·refine(11,_,oO,?_);rw[show bJ bs (.grow x n) turn vs hand=(vs,hand++[vs.getD ((41,x)+turn) 0],turn+1) from(25,c)];exact aH rfl (31,(4,je (d:=.int (szB bs x:Nat)) rfl rfl rfl rfl,Im [11]),aU (L5 rfl rfl rfl (xM rfl) rfl rfl rfl (Le rfl (v8 c) rfl [11] hh)))
  ·refine(11,_,oO,?_);rw[show bJ bs (.grow x n) turn vs hand=(vs.set ((41,x)+(turn - [44])) (hand.getD (turn - [44]) 0+n),if turn+1=2 * [44] then[] else hand,turn+1) from(29,c)];have hs:kO (16,turn) (.int (szB bs x:Nat))=okI ((turn - [44]:Nat):Int):=by rw[sub_int];congr 4;omega
   have hp:=uK (vs:=vs) (hand:=hand) (c := "Grow") (ns:=[Str.ofString "size",Str.ofString "number"]) (ds:=[.int (szB bs x:Nat),.int n]) (v:=hand.getD (turn - szB bs x) 0+n) rfl (v7 (n:=n) [11] ht) rfl rfl [11] [11]
   rw[hl] at hp;exact aH rfl (aa (38,(4,je (d:=.int (szB bs x:Nat)) rfl rfl rfl rfl,xv [11])) (aU (OW rfl rfl rfl (xN rfl) rfl rfl rfl (a8 (4,(4,je (d:=.int (szB bs x:Nat)) rfl rfl rfl rfl,hs),jo (ho [11])) (je (d:=(16,n)) rfl rfl rfl rfl) rfl) hp)))
 |anew x y t=>
  obtain⟨hx,hy,htt,nxy,nxt,nyt,hxy,ht1⟩:=ok;have hfx:=fu hx;have hfy:=fu hy;have hft:=fu htt;dsimp only at ht;have hl:(bS bs (.anew x y t)).length=(27,y)+2+[44]:=hJ;have hck:((szB bs y:Nat):Int)+1=(((27,y)+1:Nat):Int):=rfl;refine(11,_,wG,?_);by_cases c:turn<(27,y)+1
  ·rw[show bJ bs (.anew x y t) turn vs hand=(vs,hand++[vs.getD (if turn=0 then(41,t) else(41,y)+(turn - 1)) 0],turn+1) from(25,c)];have hp:(bS bs (.anew x y t))[turn]?=(1,([if turn=0 then(41,t) else(41,y)+(turn - 1)],[])):=by
    by_cases z:turn=0
    ·rw[(25,z)];exact pA (.inl z)
    ·rw[(29,z)];obtain⟨k,rfl⟩:∃k,turn=k+1:=(69,turn - 1)
     exact va [11]
   exact aH rfl (31,(4,je (d:=[45]) rfl rfl rfl rfl,Im [11]),aU (L5 rfl rfl rfl (xM rfl) rfl rfl rfl (Le rfl hp rfl (by split <;> omega) hh)))
  ·by_cases c2:(27,y)+1<turn
   ·rw[show bJ bs (.anew x y t) turn vs hand=(vs.set ((41,x)+(turn - ((27,y)+2))) (hand.getD (turn - ((27,y)+1)) 0),if turn+1=2 * (27,y)+2 then[] else hand,turn+1) from(29,c).trans (25,c2)];have hs:kO (16,turn) [45]=okI ((turn - ((27,y)+1):Nat):Int):=by rw[sub_int];congr 4;omega
    have hpl:(bS bs (.anew x y t))[turn]?=(1,([],[(41,x)+(turn - ((27,y)+2))])):=by
     obtain⟨k,rfl⟩:∃k,turn=szB bs y+2+k:=(69,turn - ((27,y)+2))
     rw[Nat.add_sub_cancel_left];exact v9 [11]
    have hp:=uK (vs:=vs) (hand:=hand) (c := "Anew") (ns:=[Str.ofString "check"]) (ds:=[.int ((szB bs y:Nat)+1:Int)]) (v:=hand.getD (turn - (szB bs y+1)) 0) rfl hpl rfl rfl [11] [11]
    rw[hl,show(27,y)+2+[44]=2 * (27,y)+2 by omega] at hp
    exact aH rfl (aa (38,(4,je (d:=[45]) rfl rfl rfl rfl,xv [11])) (31,(4,je (d:=[45]) rfl rfl rfl rfl,xy [11]),aU (OW rfl rfl rfl (xN rfl) rfl rfl rfl (4,(4,je (d:=[45]) rfl rfl rfl rfl,hs),jo (ho [11])) hp)))
   ·have hz:turn=(27,y)+1:=by omega
    have h0:0<hand.length:=by have:=ho [11];omega
    have hr:=PK (turn:=turn) (c := "Anew") (ns:=[Str.ofString "check"]) (ds:=[.int ((szB bs y:Nat)+1:Int)]) rfl (pA (x:=x) (t:=t) (.inr hz)) (ρ:=cG 4 [(BI bs (.anew x y t)).val,(16,turn),(22,vs.map D.int),(22,hand.map D.int)]) (i:=0) (j:=1) rfl rfl rfl;have hi0:aT (22,hand.map D.int) (16,0)=okI (hand.getD 0 0):=jo (c:=0) h0;by_cases c3:vs.getD (41,t) 0=hand.getD 0 0
    ·rw[show bJ bs (.anew x y t) turn vs hand=(vs,hand,turn+1) from(29,c).trans ((29,c2).trans (25,c3))];exact aH rfl (6,(38,(4,je (d:=[45]) rfl rfl rfl rfl,xv [11])),(38,(4,je (d:=[45]) rfl rfl rfl rfl,xA [11])),(31,a8 (4,hr,jo (c:=(41,t)) [11]) (18,hi0) (nE c3),aU (18,rfl,(18,sr turn),rfl)))
    ·rw[show bJ bs (.anew x y t) turn vs hand=(vs,[],0) from(29,c).trans ((29,c2).trans (29,c3))];exact aH rfl (6,(38,(4,je (d:=[45]) rfl rfl rfl rfl,xv [11])),(38,(4,je (d:=[45]) rfl rfl rfl rfl,xA [11])),aa (38,a8 (4,hr,jo (c:=(41,t)) [11]) (18,hi0) (nG c3)) (aU (18,rfl,rfl,rfl)))
end
structure Fr where
 row:Nat
 place:Nat
 turn:Nat
 hand:[24]
def Fr.d(f:Fr):D:=(22,[(16,f.row),(16,f.place),(16,f.turn),(22,f.hand.map D.int)])
def cM(p:List Fr):D:=(22,p.map Fr.d)
def Tp(p:List Fr)(cs:[24]):D:=(22,[cM p,(22,[63])])
abbrev aA(rs:List Rw)(k:Nat):Rw:=rs.getD k (11,Str.empty,0,[])
theorem kW{rs:List Rw}{k:Nat}(h:k<rs.length):rs[k]=(77,k):=by
 unfold aA;rw[getD_eq_getElem?_getD,(7,h)];rfl
theorem Lj{rs:List Rw}{k:Nat}(h:k<rs.length):aT (22,[66]) (16,k)=okD (77,k).d:=ix_tup (by rw[getElem?_map,(7,h),kW h];rfl)
theorem O9{ds:[20]}{d:D}:aT (22,(ds++[d])) (16,(-1))=okD d:=by
 show(Ff (ds++[d]) (-1)).bind okD=_;unfold Ff Mx;rw[(29,[13]),(25,(by rw[length_append,length_singleton];omega))]
 have:((-1:Int)+((ds++[d]).length:Int)).toNat=ds.length:=by rw[length_append,length_singleton];omega
 simp only[Option.bind_some,this];rw[(64,[25]),sub_self];rfl
theorem l0(u:List Fr)(top:Fr):aT (cM (u++[top])) (16,(-1))=okD top.d:=by
 show aT (22,((u++[top]).map Fr.d)) _=_;rw[map_append];exact O9
theorem fr0(f:Fr):aT f.d (16,0)=okI (f.row:Nat):=bW
theorem kZ{bs:[36]}{rs:List Rw}{k:Nat}(h:k<rs.length):cN [cD bs rs,(16,k)]=(76,((77,k).pl.map plD)):=aH rfl (aU (1,(1,(18,fq),Lj h),mE))
theorem vy(l:List Pl):cm (22,l.map plD)=okI (l.length:Nat):=by rw[nM,length_map]
theorem LF(f:Fr):aT f.d (16,1)=okI (f.place:Nat):=fq
theorem Rv(f:Fr):aT f.d (16,2)=okI (f.turn:Nat):=mE
theorem fr3(f:Fr):aT f.d (16,3)=(76,f.hand.map D.int):=G6
theorem Dw{ds:[20]}{d:D}:mq (22,(ds++[d])) none (1,(-1))=(76,ds):=by
 have e:jN (ds++[d]).length (ds++[d]).length (1,(-1))=ds.length:=by
  show(if(-1:Int)<0 then((-1:Int)+((ds++[d]).length:Int)).toNat else min (-1:Int).toNat (ds++[d]).length)=_;rw[(25,[13]),length_append,length_singleton];omega
 show(if(jN (ds++[d]).length 0 none=0/\jN (ds++[d]).length (ds++[d]).length (1,(-1))=(ds++[d]).length) then none else(76,xD (ds++[d]) none (1,(-1))))=_;rw[e,(29,(by rw[length_append,length_singleton];omega))]
 show(76,(((ds++[d]).drop 0).take (jN (ds++[d]).length (ds++[d]).length (1,(-1)) - 0)))=_;rw[e,List.drop_zero,Nat.sub_zero,List.take_left]
theorem OP{u:List Fr}(h:u.length<=1000)(f:Fr):aO (cM u) (22,[f.d])=okD (cM (u++[f])):=by
 show aO (22,u.map Fr.d) _=(76,((u++[f]).map Fr.d));rw[CT (by rw[length_map,length_singleton];omega),map_append];rfl
theorem FB(n:Nat):aO (16,n) (16,1)=okI ((n+1:Nat):Int):=rfl
section
variable{bs:List Bx}{rs:List Rw}{u:List Fr}{top:Fr}{cs:List Int}
theorem m6{ρ:aC}(h:ρ[1]?=(1,(6,cM (u++[top])))):eN [61] none (1,(3,(-1))) ρ=okD (cM u):=by
 unfold eN;rw[cg h];show mq (22,((u++[top]).map Fr.d)) none (1,(-1))=_;rw[map_append];exact Dw
theorem lG{f:Fr}(h:f.row<rs.length):cO [cD bs rs,f.d]=okB (decide (f.place=(77,f.row).pl.length)):=
 aH rfl (aU (a8 (18,LF f) (gd (33,(18,fr0 f),kZ h) (vy _)) (SM _ _)))
theorem k7{q:Pl}(h:top.row<rs.length)(hpq:(43,rs).pl[top.place]?=(1,q)):dz [cD bs rs,(16,top.row),(16,top.place)]=okD q.1.d:=
 aH rfl (aU (1,(1,(33,rfl,kZ h),ix_tup (by rw[getElem?_map,hpq];rfl)),bW))
theorem KN(dd:Deed):(planS::ku dd).contains (15,"after")=false/\(planS::ku dd).contains (15,"turns")=false:=by cases dd <;> exact(62,rfl)
theorem AN(h:top.row<rs.length)(c:top.place=(43,rs).pl.length):k4 [cD bs rs,cM (u++[top]),(22,[63])]=okD .non:=by
 have e:=lG (bs:=bs) (rs:=rs) (f:=top) h;rw[(51,c)] at e;exact aH rfl (20,(18,l0 u top),(31,(33,rfl,e),rfl))
theorem GQ(hb:cX bs){q:Pl}(hok:q.1.Ok bs)(hrow:top.row<rs.length)(hpq:(43,rs).pl[top.place]?=(1,q))(ht:top.turn<(bS bs q.1).length)(hv:cs.length=pV bs)(hh:top.hand.length<=1000)(ho:Fn bs q.1 top.turn top.hand)(hu:u.length<=1000){c2 h2:[24]}{t2:Nat}(ha:bJ bs q.1 top.turn cs top.hand=(c2,h2,t2)):
  k4 [cD bs rs,cM (u++[top]),(22,[63])]=okD (if t2<(bS bs q.1).length then Tp (u++[(10,top.row,top.place,t2,h2)]) c2 else if 0<top.row/\top.place+1=(43,rs).pl.length then Tp u c2 else Tp (u++[(10,top.row,top.place+1,0,[])]) c2):=by
 have hlt:top.place<(43,rs).pl.length:=(17,hpq).1;have e1:=lG (bs:=bs) (rs:=rs) (f:=top) hrow;rw[(40,[11])] at e1
 obtain⟨F,tF,eF⟩:=OI hb hok ht hv hh ho;rw[ha] at eF;obtain⟨n1,n2⟩:=KN q.1;have hdo:=vS hb hok;refine aH rfl (6,ax (18,l0 u top),(38,(33,rfl,e1)),(20,br (18,bW) (18,(18,fr0 top),(18,LF top),k7 hrow hpq) hdo,cE (20,L5 rfl rfl n1 tF (18,Rv top) rfl (18,fr3 top) eF,cE ?_)));have hturns:∀ρ:aC,ρ[4]?=(1,(6,(BI bs q.1).val))->dQ (15,"turns") iN (a9 4) [] ρ=okI ((bS bs q.1).length:Nat):=λρ h=>OX (cg h) rfl n2 (ur (sd q.1)) (Fs (sd q.1));have r2:aT (JW (c2,h2,t2)) (16,2)=okI (t2:Nat):=mE;by_cases c:t2<(bS bs q.1).length
 ·rw[(25,c)];have e2:=lG (bs:=bs) (rs:=rs) (f:=(10,top.row,top.place,t2,h2)) hrow;rw[(40,(by show ¬top.place=(43,rs).pl.length;omega))] at e2
  have hand:∀ρ:aC,ρ[0]?=(1,(6,cD bs rs))->ρ[6]?=(1,(6,Fr.d (10,top.row,top.place,t2,h2)))->fZ (9,vU,(26,6,0),0) (aq cO [[47],(a9 6)]) ρ=[64]:=λρ h0 h6=>by
   by_cases c3:0<top.row
   ·exact il (1,(1,cg h6,bW),xy (by first|omega|(dsimp only;omega))) (br (cg h0) (cg h6) e2)
   ·exact pb (1,(1,cg h6,bW),xA (by first|omega|(dsimp only;omega)))
  exact(6,dH (a8 (18,r2) (hturns _ rfl) (Im [11])) (ax (s:=.sh (Fr.d (10,top.row,top.place,t2,h2))) (nO (18,fr0 top) (18,LF top) (18,r2) (18,fq) rfl)),(38,hand _ rfl rfl),aU (kS (s1:=.sh (cM (u++[(10,top.row,top.place,t2,h2)]))) (s2:=.sh (22,c2.map D.int)) (a8 (m6 rfl) (bY rfl rfl) (OP hu (10,top.row,top.place,t2,h2))) (18,bW)))
 ·rw[(29,c)];have e2:=lG (bs:=bs) (rs:=rs) (f:=(10,top.row,top.place+1,0,[])) hrow;have e2:cO [cD bs rs,Fr.d (10,top.row,top.place+1,0,[])]=okB (decide (top.place+1=(43,rs).pl.length)):=e2;have s6:∀ρ:aC,ρ[3]?=(1,(6,top.d))->bj [(26,3,0),(9,aO,(26,3,1),1),(3,0),(bj [])] ρ=okD (Fr.d (10,top.row,top.place+1,0,[])):=λρ h=>nO (1,cg h,fr0 top) (1,(1,cg h,LF top),FB _) rfl rfl rfl;by_cases c2':0<top.row/\top.place+1=(43,rs).pl.length
  ·rw[(25,c2')];rw[(51,c2'.2)] at e2;exact aa (bq (a8 (18,r2) (hturns _ rfl) (xv [11])) (ax (s6 _ rfl))) (31,il (1,(18,bW),xy (by first|omega|(dsimp only;omega))) (33,rfl,e2),aU (kS (s1:=.sh (cM u)) (s2:=.sh (22,c2.map D.int)) (m6 rfl) (18,bW)))
  ·rw[(29,c2')];have hand:∀ρ:aC,ρ[0]?=(1,(6,cD bs rs))->ρ[6]?=(1,(6,Fr.d (10,top.row,top.place+1,0,[])))->fZ (9,vU,(26,6,0),0) (aq cO [[47],(a9 6)]) ρ=[64]:=λρ h0 h6=>by
    by_cases c3:0<top.row
    ·rw[(40,(λz=>c2' (3,c3,z)))] at e2;exact il (1,(1,cg h6,bW),xy (by first|omega|(dsimp only;omega))) (br (cg h0) (cg h6) e2)
    ·exact pb (1,(1,cg h6,bW),xA (by first|omega|(dsimp only;omega)))
   exact(6,bq (a8 (18,r2) (hturns _ rfl) (xv [11])) (ax (s6 _ rfl)),(38,hand _ rfl rfl),aU (kS (s1:=.sh (cM (u++[(10,top.row,top.place+1,0,[])]))) (s2:=.sh (22,c2.map D.int)) (a8 (m6 rfl) (bY rfl rfl) (OP hu (10,top.row,top.place+1,0,[]))) (18,bW)))
end
def sZ(bs:[36])(dd:Deed)(turn:Nat)(hand:[24]):Prop:=match dd with
 |.grow x _=>hand.length=min turn [44]
 |.anew _ y _=>hand.length=min turn ((27,y)+1)
 |_=>hand=[]
theorem Lu{bs:[36]}{dd:Deed}(ok:dd.Ok bs){turn:Nat}{hand:[24]}(h:sZ bs dd turn hand)(ht:turn<(bS bs dd).length):Fn bs dd turn hand:=by
 rw[hJ] at ht;cases dd with
 |grow x n=>have h:hand.length=min turn [44]:=h;dsimp only at ht;show[44]<=turn->turn - [44]<hand.length;omega
 |anew x y t=>have h:hand.length=min turn ((27,y)+1):=h;have:=ok.2.2.2.2.2.2.1;dsimp only at ht;show(27,y)+1<=turn->turn - ((27,y)+1)<hand.length;omega
 |_=>trivial
theorem Gd{bs:[36]}(hb:cX bs){dd:Deed}(ok:dd.Ok bs){turn:Nat}{hand:[24]}(h:sZ bs dd turn hand):hand.length<=3:=by
 cases dd with
 |grow x n=>have h:hand.length=min turn [44]:=h;have:=dk hb ok.1;omega
 |anew x y t=>have h:hand.length=min turn ((27,y)+1):=h;have:=dk hb ok.2.1;omega
 |put x ns=>rw[show hand=[] from h];exact zero_le _
 |copy x y=>rw[show hand=[] from h];exact zero_le _
 |tick x=>rw[show hand=[] from h];exact zero_le _
 |still n=>rw[show hand=[] from h];exact zero_le _
 |non x=>rw[show hand=[] from h];exact zero_le _
 |iz x y n=>rw[show hand=[] from h];exact zero_le _
 |most x y n=>rw[show hand=[] from h];exact zero_le _
theorem Uk{a:Str}{d:D}{ds:[20]}{ρ:aC}{i:Nat}(h:ρ[i]?=(1,(6,(22,(.str a::d::ds))))):ag aT (a9 i) (3,1) ρ=okD d:=(1,cg h,fq)
theorem kf{a b:Str}{ds:[20]}{ρ:aC}{i:Nat}(h:ρ[i]?=(1,(6,(22,(.str b::ds)))))(e:b≠a):ag fg (26,i,0) (45,a) ρ=[64]:=(1,(1,cg h,bW),ba e)
theorem kt{a:Str}{ds:[20]}{ρ:aC}{i:Nat}(h:ρ[i]?=(1,(6,(22,(.str a::ds))))):ag fg (26,i,0) (45,a) ρ=okB true:=(1,(1,cg h,bW),jv rfl)
theorem N3{a b:Nat}(h:b<=a):kO (16,a) (16,b)=okI ((a - b:Nat):Int):=by rw[sub_int];congr 4;omega
structure FrOk(bs:List Bx)(rs:List Rw)(f:Fr):Prop where
 row:f.row<rs.length
 place:f.place<=(77,f.row).pl.length
 turn:∀q,(77,f.row).pl[f.place]?=(1,q)->f.turn<(bS bs q.1).length/\sZ bs q.1 f.turn f.hand
 last:f.place=(77,f.row).pl.length->f.hand=[]
 lastT:f.place=(77,f.row).pl.length->f.turn=0
structure WF(bs:List Bx)(rs:List Rw)(p:List Fr)(cs:List Int):Prop where
 fr:∀f∈p,FrOk bs rs f
 hd:∃b r,p=b::r/\b.row=0
 len:cs.length=pV bs
 most:p.length<=100
section
variable{bs:List Bx}{rs:List Rw}{u:List Fr}{top:Fr}{cs:List Int}
theorem Kg(hb:cX bs){dd:Deed}(ok:dd.Ok bs):0<(bS bs dd).length:=by
 rw[hJ];cases dd with
 |grow x n=>have:=dk hb ok.1;dsimp only;omega
 |anew x y t=>dsimp only;omega
 |put x ns=>have:=dk hb ok.1;dsimp only;omega
 |copy x y=>have:=dk hb ok.1;dsimp only;omega
 |tick x=>exact Nat.zero_lt_one
 |still n=>exact ok.1
 |non x=>exact Nat.zero_lt_one
 |iz x y n=>exact Nat.zero_lt_one
 |most x y n=>exact Nat.zero_lt_one
theorem QP(bs:[36])(dd:Deed):sZ bs dd 0 []:=by
 cases dd <;> first|rfl|(show 0=min 0 _;omega)
theorem vH(hb:cX bs)(hr:∀r∈rs,∀q∈r.pl,q.1.Ok bs){k pl:Nat}(hk:k<rs.length)(hp:pl<=(77,k).pl.length):FrOk bs rs (10,k,pl,0,[]):=by
 refine(4,hk,hp,λq hq=>(3,Kg hb (hr (77,k) ?_ q (61,hq)),QP bs q.1),λ_=>rfl,λ_=>rfl);rw[←kW hk];exact getElem_mem hk
theorem WF.swap(w:WF bs rs (u++[top]) cs){f:Fr}{cs':[24]}(hf:FrOk bs rs f)(hrow:f.row=top.row)(hc:cs'.length=cs.length):WF bs rs (u++[f]) cs':=by
 refine(10,λg hg=>?_,?_,hc.trans w.len,by have:=w.most;rw[length_append,length_singleton] at this ⊢;exact this)
 ·rcases mem_append.mp hg with h|h
  ·exact w.fr g (mem_append_left _ h)
  ·rw[(39,h)];exact hf
 ·obtain⟨b,r,e,h0⟩:=w.hd;cases u with
  |nil=>cases e;exact(10,f,[],rfl,by rw[hrow];exact h0)
  |cons a v=>exact(10,a,v++[f],rfl,by rw[(List.cons.inj (show a::(v++[top])=b::r from e)).1];exact h0)
theorem WF.pop(w:WF bs rs (u++[top]) cs)(h:0<top.row){cs':[24]}(hc:cs'.length=cs.length):WF bs rs u cs':=by
 refine(10,λg hg=>w.fr g (mem_append_left _ hg),?_,hc.trans w.len,by have:=w.most;rw[length_append,length_singleton] at this;omega)
 obtain⟨b,r,e,h0⟩:=w.hd;cases u with
 |nil=>cases e;omega
 |cons a v=>exact(10,a,v,rfl,by rw[(List.cons.inj (show a::(v++[top])=b::r from e)).1];exact h0)
theorem WF.split{p:List Fr}(w:WF bs rs p cs):∃u t,p=u++[t]:=by
 obtain⟨b,r,e,_⟩:=w.hd;have hne:p≠[]:=by rw[e];exact cons_ne_nil _ _
 exact(11,p.dropLast,p.getLast hne,(List.dropLast_concat_getLast hne).symm)
end
def rg(bs:[36])(dd:Deed)(turn:Nat):[29]:=match dd with
 |.put x _=>[x]|.tick x=>[x]|.grow x _=>[x]
 |.copy x y=>[x,y]|.iz x y _=>[x,y]|.most x y _=>[x,y]
 |.still _=>[]|.non _=>[]
 |.anew x y t=>if turn=0\/turn=[44]+1 then[t] else if turn<=[44] then[y] else[x]
theorem lr{bs:[36]}{x c:Nat}:c∈ay bs x↔(41,x)<=c/\c<(41,x)+[44]:=by
 unfold ay;rw[mem_map];constructor
 ·rintro ⟨k,hk,rfl⟩
  have:=mem_range.mp hk;omega
 ·rintro ⟨h1,h2⟩
  exact(11,c - (41,x),mem_range.mpr [11],by omega)
theorem nN{bs:[36]}{x z c:Nat}(h1:c∈ay bs x)(h2:c∈ay bs z):z=x:=by
 rw[lr] at h1 h2;rcases Nat.lt_trichotomy x z with h|h|h
 ·have:=ER (bs:=bs) h;omega
 ·exact h.symm
 ·have:=ER (bs:=bs) h;omega
theorem A2{bs:[36]}{x y c:Nat}:c∈Mv bs x y↔c∈ay bs x\/c∈ay bs y:=by
 unfold Mv;rw[mem_map];constructor
 ·rintro ⟨i,hi,rfl⟩
  have:=sortD_mem hi;rw[mem_map] at this;obtain⟨n,hn,rfl⟩:=this;rw[toNat_natCast];exact mem_append.mp hn
 ·intro h;exact(11,(c:Int),(L3.sortD_mem _ _).mpr (mem_map.mpr (35,c,mem_append.mpr h)),toNat_natCast c)
theorem Cq(k:Int):∀l:List Int,(nr k l).length<=l.length+1
 |[]=>by unfold nr;simp
 |a::l=>by
  unfold nr;split
  ·simp
  ·split
   ·simp
   ·have:=Cq k l;simp;omega
theorem xP:∀l:List Int,(jM l).length<=l.length
 |[]=>by unfold jM;simp
 |a::l=>by
  show(nr a (jM l)).length<=l.length+1;have h1:=Cq a (jM l);have h2:=xP l;omega
theorem N4{bs:[36]}(hb:cX bs){x y:Nat}(hx:x<bs.length)(hy:y<bs.length):(Mv bs x y).length+0<=100:=by
 unfold Mv;have h:=xP ((ay bs x++ay bs y).map λn:Nat=>(n:Int));rw[length_map,length_append] at h;have h1:=xE hb hx;have h2:=xE hb hy;rw[length_map];omega
theorem Ds{bs:[36]}(hb:cX bs){dd:Deed}(ok:dd.Ok bs){turn:Nat}(ht:turn<(bS bs dd).length):∃p:wz,(bS bs dd)[turn]?=(1,p)/\p.1.length+p.2.length<=100/\∀z,(∃c∈ay bs z,c∈p.1++p.2)↔z∈rg bs dd turn:=by
 have one:∀{x k:Nat}{p:wz},k<([44])->(∀c,c∈p.1++p.2↔c=(41,x)+k)->∀z,(∃c∈ay bs z,c∈p.1++p.2)↔z∈[x]:=λ{x k p} hk hp z=>by
  have hx:(41,x)+k∈ay bs x:=lr.mpr [11]
  constructor
  ·rintro ⟨c,h1,h2⟩
   rw[hp] at h2;subst h2;rw[nN hx h1];exact mem_singleton.mpr rfl
  ·intro h;rw[(39,h)];exact(11,_,hx,(hp _).mpr rfl)
 have both:∀{x y:Nat},x<bs.length->y<bs.length->(Mv bs x y).length+0<=100/\∀z,(∃c∈ay bs z,c∈Mv bs x y++[])↔z∈[x,y]:=λ{x y} hx hy=>by
  have f1:∀{x:Nat},x<bs.length->(41,x)∈ay bs x:=λ{x} h=>lr.mpr (by rcases dk hb h with e|e <;> omega)
  refine(3,N4 hb hx hy,λz=>(3,λ⟨c,h1,h2⟩=>?_,λh=>?_))
  ·rw[append_nil,A2] at h2;rcases h2 with h2|h2
   ·rw[nN h2 h1];simp
   ·rw[nN h2 h1];simp
  ·rcases mem_cons.mp h with e|e
   ·subst e;exact(11,_,f1 hx,by rw[append_nil];exact A2.mpr (.inl (f1 hx)))
   ·have e:=(39,e);subst e;exact(11,_,f1 hy,by rw[append_nil];exact A2.mpr (.inr (f1 hy)))
 have len:=hJ (bs:=bs) (dd:=dd);cases dd with
 |put x ns=>
  rw[len] at ht;have ht:turn<[44]:=ht;exact(10,_,Bt ht,by show 0+1<=100;decide,one ht (by intro c;simp))
 |tick x=>
  rw[len] at ht;have ht:turn=0:=by have:turn<1:=ht;omega
  subst ht;have h1:0<[44]:=by have:=ok.2;omega
  exact(10,_,rfl,by show 1+1<=100;decide,one (k:=0) h1 (by intro c;simp))
 |grow x n=>
  rw[len] at ht;have ht:turn<2 * [44]:=ht;by_cases c:turn<[44]
  ·exact(10,_,v8 c,by show 1+0<=100;decide,one c (by intro c;simp))
  ·exact(10,_,v7 [11] ht,by show 0+1<=100;decide,one (k:=turn - [44]) [11] (by intro c;simp))
 |still n=>
  refine(10,([],[]),?_,by decide,λz=>(3,λ⟨c,_,h⟩=>(nomatch h),λh=>(nomatch h)))
  show(replicate n ([],[]))[turn]?=(1,([],[]));rw[len] at ht;rw[getElem?_replicate,(25,ht)]
 |non x=>
  rw[len] at ht;have ht:turn=0:=by have:turn<1:=ht;omega
  subst ht;exact(10,([],[]),rfl,by decide,λz=>(3,λ⟨c,_,h⟩=>(nomatch h),λh=>(nomatch h)))
 |copy x y=>
  rw[len] at ht;have ht:turn<[44]:=ht;have hs:(27,y)=[44]:=ok.2.2.2;have hx:(41,x)+turn∈ay bs x:=lr.mpr [11]
  have hy:(41,y)+turn∈ay bs y:=lr.mpr [11]
  refine(10,_,rL ht,by show 1+1<=100;decide,λz=>(3,λ⟨c,h1,h2⟩=>?_,λh=>?_))
  ·show z∈[x,y];rcases mem_cons.mp h2 with e|e
   ·subst e;rw[nN hy h1];simp
   ·have e:=(39,e);subst e;rw[nN hx h1];simp
  ·have h:z∈[x,y]:=h;rcases mem_cons.mp h with e|e
   ·subst e;exact(11,_,hx,by simp)
   ·have e:=(39,e);subst e;exact(11,_,hy,by simp)
 |iz x y n=>
  rw[len] at ht;have ht:turn=0:=by have:turn<1:=ht;omega
  subst ht;exact(19,_,both ok.1 ok.2.1)
 |most x y n=>
  rw[len] at ht;have ht:turn=0:=by have:turn<1:=ht;omega
  subst ht;exact(19,_,both ok.1 ok.2.1)
 |anew x y t=>
  obtain⟨hx,hy,hz,n1,n2,n3,hs,h1⟩:=ok;rw[len] at ht;have ht:turn<(27,y)+2+[44]:=ht;unfold rg;by_cases c:turn=0\/turn=[44]+1
  ·dsimp only;rw[(25,c)];exact(10,_,pA [11],by show 1+0<=100;decide,one (k:=0) [11] (by intro c;simp))
  ·dsimp only;rw[(29,c)];by_cases c2:turn<=[44]
   ·rw[(25,c2)];obtain⟨k,rfl⟩:∃k,turn=k+1:=(69,turn - 1)
    exact(10,_,va [11],by show 1+0<=100;decide,one (k:=k) [11] (by intro c;simp))
   ·rw[(29,c2)];obtain⟨k,rfl⟩:∃k,turn=szB bs y+2+k:=(69,turn - ((27,y)+2))
    exact(10,_,v9 [11],by show 0+1<=100;decide,one (k:=k) [11] (by intro c;simp))
theorem Od(c:Nat)(l:[29]):MD false (16,c) (13,l.map intD)=okB (decide (c∈l)):=by
 have hf:(l.map intD).all flat=true:=by rw[all_map];exact all_eq_true.mpr λ_ _=>rfl
 show(if flat (D.int (c:Int))=true/\(l.map intD).all flat=true then okB (P0 (16,c) (l.map intD)) else none)=_;rw[(25,(62,hf))];congr 4;unfold P0;rw[List.any_map]
 induction l with
 |nil=>simp
 |cons a l ih=>
  have ih:=ih (by rw[all_map];exact all_eq_true.mpr λ_ _=>rfl)
  rw[any_cons,ih];have e:((λy=>Tx y (.int (c:Int))) ∘ intD) a=decide (a=c):=by
   show((a:Int) == (c:Int))=_;by_cases h:a=c
   ·subst h;simp
   ·rw[(40,h)];exact beq_false_of_ne [11]
  rw[e];by_cases h:a=c
  ·subst h;simp
  ·have h':¬c=a:=λz=>h z.symm;simp[h,h']
theorem Je{α:Type}(l:List α)(p:α->Bool):R3 (13,(l.map λk=>D.bl (p k)))=okB (l.any p):=by
 have e:blsOf (l.map λk=>D.bl (p k))=(1,l.map p):=by
  induction l with
  |nil=>rfl
  |cons a l ih=>rw[map_cons,map_cons];unfold blsOf;rw[ih];rfl
 show(blsOf _).bind _=_;rw[e];show okB ((l.map p).any id)=_;rw[List.any_map];rfl
theorem Dj{bs:[36]}(hb:cX bs){rs:List Rw}{top:Fr}{q:Pl}(hok:q.1.Ok bs)(hrow:top.row<rs.length)(hpq:(43,rs).pl[top.place]?=(1,q))(ht:top.turn<(bS bs q.1).length){z:Nat}(hz:z<bs.length):
  oC [cD bs rs,top.d,(16,z)]=okB (decide (z∈rg bs q.1 top.turn)):=by
 obtain⟨p,hp,hl,hm⟩:=Ds hb hok ht;have da:=k7 (bs:=bs) hrow hpq;have dO:=vS hb hok;have hn:(planS::ku q.1).contains (15,"reads")=false/\(planS::ku q.1).contains (15,"writes")=false:=by cases q.1 <;> exact(62,rfl)
 have cat:aO (13,p.1.map intD) (13,p.2.map intD)=okL ((p.1++p.2).map intD):=by rw[map_append];exact vW (by rw[length_map,length_map];omega)
 have h12:=dk hb hz;have cl:(ay bs z).length=(27,z):=by unfold ay;simp
 have key:(ay bs z).any (λc=>decide (c∈p.1++p.2))=decide (z∈rg bs q.1 top.turn):=by
  rw[Bool.eq_iff_iff,List.any_eq_true,decide_eq_true_iff,←hm z];exact(3,λ⟨c,h1,h2⟩=>(11,c,h1,of_decide_eq_true h2),λ⟨c,h1,h2⟩=>(11,c,h1,(51,h2)))
 have objE:(BI bs q.1)=.obj (yw q.1) (planS::ku q.1) ((13,((bS bs q.1).map gL))::Ag bs q.1):=rfl;have rd:=FM (c:=yw q.1) (sd q.1) (ns:=ku q.1) (ds:=Ag bs q.1) hp;have wr:=AI (c:=yw q.1) (sd q.1) (ns:=ku q.1) (ds:=Ag bs q.1) hp;rw[←key];refine aH rfl (20,br (18,bW) (18,(18,fr0 top),(18,LF top),da) dO,cE (aa (ax (s:=.own (13,((p.1++p.2).map intD))) ?_) (cE (aU (bY (fL (ay bs z) intD (λc=>.bl (decide (c∈p.1++p.2))) (j6 (br (18,bW) rfl (bH hb hz)) rfl) (by rw[cl];exact le_trans (by omega:(27,z)<=2) [13]) λc _=>(4,_,rfl,_,(18,Od c _),rfl)) (Je _ _))))))
 exact a8 (G0 rfl rfl hn.1 (uv (sd q.1)) (18,Rv top) rd) (G0 rfl rfl hn.2 (sk (sd q.1)) (18,Rv top) wr) cat
def oN(cs:[24])(k:Nat):Int:=cs.getD k 0
def Cm(bs:[36])(cs:[24]):Deed->Bool
 |.iz x y n=>(19,[44]).all λk=>decide (oN cs ((41,x)+k)=oN cs ((41,y)+k)+n)
 |.most x y n=>(19,[44]).all λk=>decide (oN cs ((41,x)+k)<=oN cs ((41,y)+k)+n)
 |_=>true
def oW(bs:[36])(x y:Nat)(k:Nat):D:=(22,[intD ((41,x)+k),intD ((41,y)+k)])
def T2(bs:[36]):Deed->D
 |.iz x y n=>.fn 1 [(16,n),(13,((19,[44]).map (oW bs x y)))]
 |.most x y n=>.fn 2 [(16,n),(13,((19,[44]).map (oW bs x y)))]
 |_=>.fn 0 []
theorem KC{bs:[36]}{x y:Nat}(hs:(27,y)=[44]):zipWith (λa b=>D.tup [a,b]) ((ay bs x).map intD) ((ay bs y).map intD)=(19,[44]).map (oW bs x y):=by
 unfold ay;rw[hs,map_map,map_map,List.zipWith_map,List.zipWith_self];rfl
theorem yt{bs:[36]}{x y:Nat}(hs:(27,y)=[44]):SY [(13,((ay bs x).map intD)),(13,((ay bs y).map intD))]=okL ((19,[44]).map (oW bs x y)):=by
 show(if((ay bs x).map intD).length=((ay bs y).map intD).length then okL (zipWith (λa b=>D.tup [a,b]) ((ay bs x).map intD) ((ay bs y).map intD)) else none)=_;rw[(25,(by unfold ay;simp[hs])),KC hs]
theorem sT{c:ME}{a b:D7}{ρ:aC}{r:(8,D)}(h:c ρ=okB true)(h2:a ρ=r):P8 c a b ρ=r:=by unfold P8;rw[h];exact h2
theorem Ml{c:ME}{a b:D7}{ρ:aC}{r:(8,D)}(h:c ρ=[64])(h2:b ρ=r):P8 c a b ρ=r:=by unfold P8;rw[h];exact h2
theorem Ar{a:MC}{b:D7}{ρ ρ':aC}{r:(8,D)}(h:a ρ=(46,ρ'))(h2:b ρ'=r):IY a b ρ=r:=by unfold IY;rw[h];exact h2
theorem qK{np n:Nat}{g:D7}{ds:[20]}{d:D}(hl:ds.length=np)(h:g (cG n ds)=(1,d)):P4 np n g ds=okD d:=by unfold P4;rw[(25,hl),h];rfl
theorem x8{bs:[36]}(hb:cX bs){dd:Deed}(ok:dd.Ok bs):ic [bt bs,dd.d]=okD (T2 bs dd):=by
 cases dd with
 |iz x y n=>
  obtain⟨hx,hy,hs,_⟩:=ok;exact qK rfl (Ml (1,(18,bW),rfl) (Ar (ax (br (33,(18,fq),bH hb hx) (33,(18,mE),bH hb hy) (yt hs))) (Ar (ax (18,G6)) (sT (1,(18,bW),jv rfl) rfl))))
 |most x y n=>
  obtain⟨hx,hy,hs,_⟩:=ok;exact qK rfl (Ml (1,(18,bW),rfl) (Ar (ax (br (33,(18,fq),bH hb hx) (33,(18,mE),bH hb hy) (yt hs))) (Ar (ax (18,G6)) (Ml (1,(18,bW),[55]) rfl))))
 |put x ns=>exact qK rfl (sT (1,(18,bW),rfl) rfl)
 |copy x y=>exact qK rfl (sT (1,(18,bW),rfl) rfl)
 |grow x n=>exact qK rfl (sT (1,(18,bW),rfl) rfl)
 |tick x=>exact qK rfl (sT (1,(18,bW),rfl) rfl)
 |still n=>exact qK rfl (sT (1,(18,bW),rfl) rfl)
 |non x=>exact qK rfl (sT (1,(18,bW),rfl) rfl)
 |anew x y t=>exact qK rfl (sT (1,(18,bW),rfl) rfl)
theorem Ad{cs:[24]}{k:Nat}(h:k<cs.length):aT (22,[63]) (16,k)=okI (oN cs k):=ix_tup (by
 rw[getElem?_map,(7,h)];unfold oN;rw[getD_eq_getElem?_getD,(7,h)];rfl)
theorem OB{α:Type}(l:List α)(p:α->Bool):blsOf (l.map λk=>D.bl (p k))=(1,l.map p):=by
 induction l with
 |nil=>rfl
 |cons a l ih=>rw[map_cons,map_cons];unfold blsOf;rw[ih];rfl
theorem CN{α:Type}(l:List α)(p:α->Bool):F2 (13,(l.map λk=>D.bl (p k)))=okB (l.all p):=by
 unfold F2;show(blsOf _).bind _=_;rw[OB];show okB ((l.map p).all id)=_;rw[all_map];rfl
theorem O4{bs:[36]}(hb:cX bs){x y:Nat}{n:Int}{cs:[24]}(hx:x<bs.length)(hy:y<bs.length)(hs:(27,y)=[44])(hc:cs.length=pV bs):
  EU [(22,[63]),(16,n),(13,((19,[44]).map (oW bs x y)))]=okB (Cm bs cs (.iz x y n)):=by
 have l1:=fu hx;have l2:=fu hy;have h12:=dk hb hx;refine bY (fL (19,[44]) (oW bs x y) (λk=>.bl (decide (oN cs ((41,x)+k)=oN cs ((41,y)+k)+n))) (j6 rfl rfl) (by rw[length_range];exact le_trans (by omega:[44]<=2) [13]) λk hk=>?_) (CN _ _)
 have hk:=mem_range.mp hk;exact(4,_,rfl,_,a8 (18,Ad [11]) (1,(18,Ad [11]),rfl) (LW _ _),rfl)
theorem O3{bs:[36]}(hb:cX bs){x y:Nat}{n:Int}{cs:[24]}(hx:x<bs.length)(hy:y<bs.length)(hs:(27,y)=[44])(hc:cs.length=pV bs):
  ET [(22,[63]),(16,n),(13,((19,[44]).map (oW bs x y)))]=okB (Cm bs cs (.most x y n)):=by
 have l1:=fu hx;have l2:=fu hy;have h12:=dk hb hx;refine bY (fL (19,[44]) (oW bs x y) (λk=>.bl (decide (oN cs ((41,x)+k)<=oN cs ((41,y)+k)+n))) (j6 rfl rfl) (by rw[length_range];exact le_trans (by omega:[44]<=2) [13]) λk hk=>?_) (CN _ _)
 have hk:=mem_range.mp hk;exact(4,_,rfl,_,a8 (18,Ad [11]) (1,(18,Ad [11]),rfl) (QA _ _),rfl)
theorem E8(cs:[24]):iV [63]=true:=by
 induction cs with
 |nil=>rfl
 |cons a l ih=>rw[map_cons];unfold iV pF;rw[ih];rfl
theorem BM(bs:[36])(x y:Nat)(l:[29]):iV (l.map (oW bs x y))=true:=by
 induction l with
 |nil=>rfl
 |cons a l ih=>rw[map_cons];unfold iV;rw[ih];rfl
def watchP(f:Fr):Nat:=if f.turn=0 then f.place else f.place+1
def yc:Deed->(8,Nat)
 |.non x=>(1,x)
 |_=>none
def jJ(rs:List Rw)(f:Fr):(8,(Nat×Nat)):=((77,f.row).pl[watchP f]?).bind λq=>(yc q.1).map λx=>(watchP f,x)
theorem II(dd:Deed):∃w r,dd.d=(22,(.str w::r))/\((yc dd=none/\w≠(15,"none"))\/∃x,dd=.non x):=by
 cases dd with
 |non x=>exact(10,_,_,rfl,.inr (3,x,rfl))
 |put x ns=>exact(10,_,_,rfl,.inl (62,by decide))
 |copy x y=>exact(10,_,_,rfl,.inl (62,by decide))
 |grow x n=>exact(10,_,_,rfl,.inl (62,by decide))
 |tick x=>exact(10,_,_,rfl,.inl (62,by decide))
 |still n=>exact(10,_,_,rfl,.inl (62,by decide))
 |iz x y n=>exact(10,_,_,rfl,.inl (62,by decide))
 |most x y n=>exact(10,_,_,rfl,.inl (62,by decide))
 |anew x y t=>exact(10,_,_,rfl,.inl (62,by decide))
section
variable{bs:List Bx}{rs:List Rw}{f top:Fr}{u:List Fr}{cs:List Int}
theorem Jt(h:FrOk bs rs f):watchP f<=(77,f.row).pl.length:=by
 unfold watchP;have h1:=h.place;split
 ·exact h1
 ·rename_i hn;have:f.place≠(77,f.row).pl.length:=λz=>hn (h.lastT z);omega
def Dd(w:(8,(Nat×Nat))):D:=match w with
 |some p=>(16,p.1)
 |none=>.non
theorem Dc(h:FrOk bs rs f):ie [cD bs rs,f.d]=okD (Dd (jJ rs f)):=by
 have hle:=Jt h;have hset:M1 (9,fg,(26,1,2),0) (26,1,1) (9,aO,(26,1,1),1) [(6,cD bs rs),(6,f.d),none]=okI (watchP f:Nat):=by
  unfold watchP;by_cases c:f.turn=0
  ·rw[(25,c)];exact G9 (1,(18,Rv f),nE [11]) (18,LF f)
  ·rw[(29,c)];exact Ga (1,(18,Rv f),nG [11]) (1,(18,LF f),FB _)
 have hlen:aL (f1 cm) [(aq cN [[47],(26,1,0)])] [(6,cD bs rs),(6,f.d),(6,(.int (watchP f:Nat)))]=okI ((77,f.row).pl.length:Nat):=gd (33,(18,fr0 f),kZ h.row) (vy _);cases hq:(aA rs f.row).pl[watchP f]? with
 |none=>
  have:(77,f.row).pl.length<=watchP f:=List.getElem?_eq_none_iff.mp hq;have e:jJ rs f=none:=by unfold jJ;rw[hq];rfl
  rw[e];exact aH rfl (20,hset,(31,Si (4,hlen,nE [11]),aU rfl))
 |some q=>
  have hlt:watchP f<(77,f.row).pl.length:=(17,hq).1;have da:=k7 (bs:=bs) (top:=(10,f.row,watchP f,0,[])) h.row hq;obtain⟨w,r,hd,hw|⟨x,hx⟩⟩:=II q.1
  ·have e:jJ rs f=none:=by unfold jJ;rw[hq];show(yc q.1).map _=none;rw[hw.1];rfl
   rw[e];rw[hd] at da;exact aH rfl (20,hset,(31,HC (4,hlen,nG [11]) (1,(1,(18,(18,fr0 f),rfl,da),bW),NU hw.2),aU rfl))
  ·have e:jJ rs f=(1,(watchP f,x)):=by unfold jJ;rw[hq];show(yc q.1).map _=_;rw[hx];rfl
   rw[e];rw[hx] at da;exact aH rfl (6,ax hset,(38,HC (4,hlen,nG [11]) (1,(1,(18,(18,fr0 f),rfl,da),bW),NV rfl)),aU rfl)
theorem Ju{p x:Nat}(h:jJ rs f=(1,(p,x))):p=watchP f/\∃q,(77,f.row).pl[p]?=(1,q)/\q.1=.non x:=by
 unfold jJ at h;cases hq:(aA rs f.row).pl[watchP f]? with
 |none=>rw[hq] at h;cases h
 |some q=>
  rw[hq] at h;have h:(yc q.1).map (λx=>(watchP f,x))=(1,(p,x)):=h;cases hx:yc q.1 with
  |none=>rw[hx] at h;cases h
  |some y=>
   rw[hx] at h;cases h;refine(10,rfl,q,hq,?_);cases hd:q.1 <;> rw[hd] at hx <;> cases hx;rfl
def jZ(bs:[36])(rs:List Rw)(dd:Deed)(turn:Nat)(f:Fr):(8,(Nat×Nat)):=(jJ rs f).bind λp=>if p.2∈rg bs dd turn then(1,(f.row,p.1)) else none
def prD(p:Nat×Nat):D:=(22,[(16,p.1),(16,p.2)])
def Ld(bs:[36])(cs:[24])(dd:Deed)(top:Fr):List (Nat×Nat):=if Cm bs cs dd=true then[] else[(top.row,top.place)]
def kE(bs:[36])(rs:List Rw)(cs:[24])(dd:Deed)(u:List Fr)(top:Fr):List (Nat×Nat):=u.filterMap (jZ bs rs dd top.turn)++Ld bs cs dd top
end
theorem jw{T:Nat->[39]}{k:Nat}{gf ga:ME}{ρ:aC}{ds:[20]}{d:D}{F:([20])->[57]}{b:Bool}(h0:gf ρ=okD (.fn k ds))(h1:ga ρ=okD d)(n1:pF d=true)(n2:iV ds=true)(hT:T k=(1,F))(hF:F (d::ds)=okB b):vQ T gf ga ρ=okB b:=by
 unfold vQ;rw[h0];dsimp only[okD,bg,S.val];rw[h1];show(if(pF d && iV ds)=true then(match T k with|some F=>nD (F (d::ds))|none=>none) else none)=_
 rw[(25,(by rw[n1,n2];rfl)),hT]
 show nD (F (d::ds))=_;rw[hF];rfl
theorem OG{bs:[36]}(hb:cX bs){dd:Deed}(ok:dd.Ok bs){cs:[24]}(hc:cs.length=pV bs){ρ:aC}{gf ga:ME}(h0:gf ρ=okD (T2 bs dd))(h1:ga ρ=(76,[63])):vQ Rr gf ga ρ=okB (Cm bs cs dd):=by
 have n1:pF (22,[63])=true:=by unfold pF;exact E8 cs
 have nl:∀(n:Int)(x y:Nat),iV [(16,n),(13,((19,[44]).map (oW bs x y)))]=true:=λn x y=>by
  have:=BM bs x y (19,[44]);simp only[iV,pF,this,Bool.and_true]
 cases dd with
 |iz x y n=>
  obtain⟨hx,hy,hs,_⟩:=ok;exact jw h0 h1 n1 (nl n x y) rfl (O4 hb hx hy hs hc)
 |most x y n=>
  obtain⟨hx,hy,hs,_⟩:=ok;exact jw h0 h1 n1 (nl n x y) rfl (O3 hb hx hy hs hc)
 |put x ns=>exact jw h0 h1 n1 rfl rfl rfl
 |copy x y=>exact jw h0 h1 n1 rfl rfl rfl
 |grow x n=>exact jw h0 h1 n1 rfl rfl rfl
 |tick x=>exact jw h0 h1 n1 rfl rfl rfl
 |still n=>exact jw h0 h1 n1 rfl rfl rfl
 |non x=>exact jw h0 h1 n1 rfl rfl rfl
 |anew x y t=>exact jw h0 h1 n1 rfl rfl rfl
section
variable{bs:List Bx}{rs:List Rw}{top:Fr}{u:List Fr}{cs:List Int}
theorem LK{α β:Type}(g:α->(8,β))(l:List α):(l.filterMap g).length<=l.length:=List.length_filterMap_le g l
theorem As(hb:cX bs)(hr:∀r∈rs,∀q∈r.pl,q.1.Ok bs)(hu:∀f∈u,FrOk bs rs f)(hul:u.length<=100)(ht:FrOk bs rs top)(hc:cs.length=pV bs){q:Pl}(hpq:(43,rs).pl[top.place]?=(1,q)):
  iX [cD bs rs,cM (u++[top]),(22,[63])]=(76,((kE bs rs cs q.1 u top).map prD)):=by
 have rowm:∀{k:Nat},k<rs.length->(77,k)∈rs:=λ{k} h=>by rw[←kW h];exact getElem_mem h
 have okq:q.1.Ok bs:=hr _ (rowm ht.row) q (61,hpq);have tt:=(ht.turn q hpq).1;have hpl:top.place<(43,rs).pl.length:=(17,hpq).1;obtain⟨ρ',e,e5,e6,rfl⟩:=vI (bd:=bc 5) (body:=p9) Fr.d (λpre ρ=>∃e5 e6:(8,S),ρ=[(6,cD bs rs),(6,cM (u++[top])),(6,(22,[63])),(6,top.d),(52,((pre.filterMap (jZ bs rs q.1 top.turn)).map prD)),e5,e6]) u (ρ:=[(6,cD bs rs),(6,cM (u++[top])),(6,(22,[63])),(6,top.d),(52,[]),none,none]) (35,none,none) (by
  rintro pre f post ρ hsp ⟨e5,e6,rfl⟩
  have hf:f∈u:=by rw[hsp];simp
  have hpre:pre.length<=100:=by have:=congrArg List.length hsp;simp at this;omega
  have hfo:=hu f hf;have wt:=Dc hfo;cases hw:jJ rs f with
  |none=>
   rw[hw] at wt;refine⟨_,_,rfl,.inl (20,(33,rfl,wt),(38,pb (wC rfl rfl))),(6,f.d),(6,.non),?_⟩;have:jZ bs rs q.1 top.turn f=none:=by unfold jZ;rw[hw];rfl
   rw[List.filterMap_append,filterMap_cons,this];simp[Dd]
  |some px=>
   obtain⟨p,x⟩:=px;rw[hw] at wt;obtain⟨_,q2,hq2,hx⟩:=Ju hw;have hxo:x<bs.length:=by
    have:=hr _ (rowm hfo.row) q2 (61,hq2);rw[hx] at this;exact this
   have da:=k7 (bs:=bs) (top:=(10,f.row,p,0,[])) hfo.row hq2;rw[hx] at da;have to:=Dj hb okq ht.row hpq tt hxo;by_cases c:x∈rg bs q.1 top.turn
   ·rw[(51,c)] at to;refine⟨_,_,rfl,.inl (20,(33,rfl,wt),dH (il (wC rfl rfl) (18,rfl,(1,(18,(18,fr0 f),rfl,da),fq),to)) (iY rfl (kS (18,fr0 f) rfl) ?_)),(6,f.d),(20,p),?_⟩
    ·rw[length_map];exact lt_of_le_of_lt (le_trans (LK _ _) hpre) [13]
    ·have:jZ bs rs q.1 top.turn f=(1,(f.row,p)):=by unfold jZ;rw[hw];exact(25,c)
     rw[List.filterMap_append,filterMap_cons,this,List.filterMap_nil,map_append];rfl
   ·rw[(40,c)] at to;refine⟨_,_,rfl,.inl (20,(33,rfl,wt),(38,il (wC rfl rfl) (18,rfl,(1,(18,(18,fr0 f),rfl,da),fq),to))),(6,f.d),(20,p),?_⟩;have:jZ bs rs q.1 top.turn f=none:=by unfold jZ;rw[hw];exact(29,c)
    rw[List.filterMap_append,filterMap_cons,this];simp[Dd])
 have hcut:eN [61] none (1,(3,(-1))) [(6,cD bs rs),(6,cM (u++[top])),(6,(22,[63])),(6,top.d),(52,[]),none,none]=okD (cM u):=m6 rfl;have hend:cO [cD bs rs,top.d]=[64]:=by rw[lG ht.row,(40,[11])]
 have da:=k7 (bs:=bs) ht.row hpq;have lst:∀ρ:aC,ρ=[(6,cD bs rs),(6,cM (u++[top])),(6,(22,[63])),(6,top.d),(52,((u.filterMap (jZ bs rs q.1 top.turn)).map prD)),e5,e6]->oQ ρ=(1,.ret (.sh (22,((kE bs rs cs q.1 u top).map prD)))):=λρ eρ=>by
  subst eρ;have ask:=OG hb okq hc (ρ:=[(6,cD bs rs),(6,cM (u++[top])),(6,(22,[63])),(6,top.d),(52,((u.filterMap (jZ bs rs q.1 top.turn)).map prD)),e5,e6]) (gf:=aq ic [(26,0,0),(aq dz [[47],(26,3,0),(26,3,1)])]) (ga:=a9 2) (br (18,bW) (18,(18,fr0 top),(18,LF top),da) (x8 hb okq)) rfl;unfold kE Ld;cases hk:Cm bs cs q.1 with
  |true=>
   rw[hk] at ask;rw[(25,rfl),append_nil];exact aa (38,sC ask) (cE (aU (bY rfl rfl)))
  |false=>
   rw[hk] at ask;rw[(29,[27]),map_append];exact aa (dH (Sr ask) (iY rfl (kS (18,fr0 top) (18,LF top)) (by rw[length_map];exact lt_of_le_of_lt (le_trans (LK _ _) hul) [13]))) (cE (aU (bY rfl rfl)))
 exact aH rfl (6,ax (18,l0 u top),(38,(33,rfl,hend)),(6,ax rfl,kx (j6 hcut rfl) e,lst _ rfl))
end
theorem EA{w n:Nat}(h:w<2 ^ n)(h0:w≠0):w.log2<n:=(Nat.log2_lt h0).mpr h
theorem yx{w n:Nat}(h:w<2 ^ n):bitLen (w:Int)<=n:=by
 unfold bitLen;by_cases h0:w=0
 ·subst h0;simp
 ·rw[(29,by simpa using h0)]
  have:=EA h h0;rw[Int.natAbs_natCast];omega
theorem CV{w k:Nat}(h:bitLen (w:Int)<=k):w.testBit k=false:=by
 apply Nat.testBit_lt_two_pow;by_cases h0:w=0
 ·subst h0;exact two_pow_pos _
 ·unfold bitLen at h;rw[(29,by simpa using h0),Int.natAbs_natCast] at h
  exact(Nat.log2_lt h0).mp [11]
theorem lB{p:Nat->Bool}{n:Nat}:∀m,n<=m->(∀k,n<=k->p k=false)->(19,m).filter p=(19,n).filter p
 |0,h,_=>by rw[Nat.le_zero.mp h]
 |m+1,h,hp=>by
  by_cases e:n=m+1
  ·rw[e]
  ·rw[range_succ,filter_append,lB m [11] hp]
   simp[hp m [11]]
theorem CD{w m:Nat}(h:w<2 ^ m):(19,(bitLen (w:Int))).filter w.testBit=(19,m).filter w.testBit:=
 (lB m (yx h) λ_ hk=>CV hk).symm
def Mo(w m:Nat):[20]:=((19,m).filter w.testBit).map λk:Nat=>D.int k
theorem Fc{w m:Nat}(h:w<2 ^ m)(hm:m<=1000):lC [(16,w)]=okL (Mo w m):=by
 have hb:=yx h;refine aH rfl (aU ?_);unfold Mo;rw[←CD h];refine qR (19,(bitLen (w:Int))) (λk:Nat=>D.int k) w.testBit (λk:Nat=>D.int k) ?_ ?_ λk hk=>?_
 ·rw[←zt];exact eT (wC rfl rfl) (cB [11])
 ·rw[length_range];exact le_trans (by omega:_<=1000) [13]
 ·exact(10,_,rfl,OC rfl rfl,λ_=>(19,_,rfl))
def xJ(fl sh:Nat)(fr:Nat)(rs:[29])(k:Nat):Bool:=fl.testBit k && (!sh.testBit k && decide (fr<rs.getD k 0))
def sg(rs:[29])(j k:Nat):Prop:=rs.getD k 0<rs.getD j 0\/(rs.getD j 0=rs.getD k 0/\j<k)
instance (rs:[29]) (j k:Nat):Decidable (sg rs j k):=inferInstanceAs (Decidable (_\/_))
def gp(sh fr:Nat)(rs:[29])(f b:Nat):Nat:=if sh.testBit b=false/\max fr (rs.getD f 0)<rs.getD b 0 then b else f
def AD(fl sh fr:Nat)(rs:[29])(n f:Nat):Prop:=
 (f=0/\∀k,k<n->xJ fl sh fr rs k=false)\/(f≠0/\f<n/\xJ fl sh fr rs f=true/\∀j,j<n->xJ fl sh fr rs j=true->¬sg rs j f)
theorem gJ{fl sh fr:Nat}{rs:[29]}{k:Nat}:xJ fl sh fr rs k=true↔fl.testBit k=true/\sh.testBit k=false/\fr<rs.getD k 0:=by
 unfold xJ;simp
theorem CW{fl sh fr:Nat}{rs:[29]}{n f:Nat}(h0:rs.getD 0 0=0)(hn:fl.testBit 0=false)(h:AD fl sh fr rs n f):AD fl sh fr rs (n+1) (if fl.testBit n=true then gp sh fr rs f n else f):=by
 by_cases hw:xJ fl sh fr rs n=true
 ·obtain⟨w1,w2,w3⟩:=gJ.mp hw;have hn0:n≠0:=λz=>by subst z;rw[w1] at hn;cases hn
  rw[(25,w1)];unfold gp;rcases h with⟨rfl,h⟩|⟨f0,f1,f2,f3⟩
  ·rw[(25,(3,w2,by rw[h0];omega))]
   refine .inr (10,hn0,by omega,hw,λj hj wj=>?_)
   by_cases e:j=n
   ·subst e;unfold sg;omega
   ·rw[h j [11]] at wj;cases wj
  ·obtain⟨g1,g2,g3⟩:=gJ.mp f2;by_cases hm:rs.getD f 0<rs.getD n 0
   ·rw[(25,(69,w2))]
    refine .inr (10,hn0,by omega,hw,λj hj wj=>?_)
    by_cases e:j=n
    ·subst e;unfold sg;omega
    ·have:=f3 j [11] wj
     unfold sg at this ⊢;omega
   ·rw[(29,(by rintro ⟨_,z⟩;omega))]
    refine .inr (10,f0,by omega,f2,λj hj wj=>?_)
    by_cases e:j=n
    ·subst e;unfold sg;omega
    ·exact f3 j [11] wj
 ·have e:(if fl.testBit n=true then gp sh fr rs f n else f)=f:=by
   by_cases w1:fl.testBit n=true
   ·rw[(25,w1)];unfold gp;rw[if_neg]
    rintro ⟨w2,w3⟩
    exact hw (gJ.mpr (11,w1,w2,by omega))
   ·rw[(29,w1)]
  rw[e];rcases h with⟨rfl,h⟩|⟨f0,f1,f2,f3⟩
  ·refine .inl (62,λk hk=>?_);by_cases e:k=n
   ·subst e;simpa using hw
   ·exact h k [11]
  ·refine .inr (10,f0,by omega,f2,λj hj wj=>?_)
   by_cases e:j=n
   ·subst e;exact(32,wj,hw)
   ·exact f3 j [11] wj
theorem vY{fl sh fr:Nat}{rs:[29]}(h0:rs.getD 0 0=0)(hn:fl.testBit 0=false):∀n,AD fl sh fr rs n (((19,n).filter fl.testBit).foldl (gp sh fr rs) 0)
 |0=>.inl (62,λk hk=>by omega)
 |n+1=>by
  have:=CW (sh:=sh) (fr:=fr) h0 hn (vY h0 hn n);rw[range_succ,filter_append,List.foldl_append];by_cases h:fl.testBit n=true
  ·rw[(25,h)] at this;simpa [h] using this
  ·rw[(29,h)] at this;simpa [h] using this
def P9(fl sh fr:Nat)(rs:[29])(n:Nat):Nat:=((19,n).filter fl.testBit).foldl (gp sh fr rs) 0
def ja(rs:[29]):[20]:=rs.map λn:Nat=>D.int n
theorem O7{rs:[29]}{k:Nat}(h:k<rs.length):(ja rs)[k]?=(1,(16,(rs.getD k 0:Nat))):=by
 unfold ja;rw[getElem?_map,(7,h),getD_eq_getElem?_getD,(7,h)];rfl
theorem SF{rs:[29]}{k:Nat}(h:k<rs.length):aT (22,ja rs) (16,k)=okI (rs.getD k 0:Nat):=ix_tup (O7 h)
theorem OE{rs:[29]}{fl fr sh:Nat}(hl:rs.length<=7)(hf:fl<2 ^ rs.length)(hr:0<rs.length):vM [(22,ja rs),(16,fl),(16,fr),(16,sh)]=okI (P9 fl sh fr rs rs.length:Nat):=by
 have hb:lC [(16,fl)]=okL (Mo fl rs.length):=Fc hf [11]
 obtain⟨ρ',e,e5,hx,rfl⟩:=nC (bd:=bc 5) (body:=CZ) (λk:Nat=>D.int k) (λpre ρ=>∃e5:(8,S),pre.foldl (gp sh fr rs) 0<rs.length/\ρ=[(6,(22,ja rs)),(20,fl),(20,fr),(20,sh),(20,(pre.foldl (gp sh fr rs) 0:Nat)),e5])
   ((19,rs.length).filter fl.testBit) [] [(6,(22,ja rs)),(20,fl),(20,fr),(20,sh),(20,0),none] (35,none,hr) (by
  rintro pre k post ρ hk ⟨e5,hx,rfl⟩
  have hk':k<rs.length:=mem_range.mp (mem_filter.mp hk).1;refine(4,_,if sh.testBit k=false/\max fr (rs.getD (pre.foldl (gp sh fr rs) 0) 0)<rs.getD k 0 then[(6,(22,ja rs)),(20,fl),(20,fr),(20,sh),(20,k),(20,k)] else[(6,(22,ja rs)),(20,fl),(20,fr),(20,sh),(20,(pre.foldl (gp sh fr rs) 0:Nat)),(20,k)],rfl,.inl ?_,?_)
  ·by_cases h1:sh.testBit k=false
   ·have hmx:Gw (.int (fr:Int)) (16,(rs.getD (pre.foldl (gp sh fr rs) 0) 0:Nat))=okI (max fr (rs.getD (pre.foldl (gp sh fr rs) 0) 0):Nat):=by
     have e:(if((rs.getD (pre.foldl (gp sh fr rs) 0) 0:Nat):Int) > (fr:Int) then((rs.getD (pre.foldl (gp sh fr rs) 0) 0:Nat):Int) else(fr:Int))=((max fr (rs.getD (pre.foldl (gp sh fr rs) 0) 0):Nat):Int):=by split <;> omega
     unfold Gw;dsimp only;rw[e]
    by_cases h2:max fr (rs.getD (pre.foldl (gp sh fr rs) 0) 0)<rs.getD k 0
    ·rw[(25,(3,h1,h2))];refine dH (il ((ui (w:=sh) (k:=k) rfl rfl).trans (by rw[h1];rfl)) (a8 (18,SF hk') (33,(18,SF hx),hmx) (xy [11]))) (ax rfl)
    ·rw[(29,(λz=>h2 z.2))];refine(38,il ((ui (w:=sh) (k:=k) rfl rfl).trans (by rw[h1];rfl)) (a8 (18,SF hk') (33,(18,SF hx),hmx) (xA [11])))
   ·rw[(29,(λz=>h1 z.1))];exact(38,pb ((ui (w:=sh) (k:=k) rfl rfl).trans (by rw[Bool.not_eq_false _ |>.mp h1];rfl)))
  ·rw[List.foldl_append];show ∃e5,gp sh fr rs (pre.foldl (gp sh fr rs) 0) k<rs.length/\_=[_,_,_,_,(1,S.sh (D.int (gp sh fr rs (pre.foldl (gp sh fr rs) 0) k:Nat))),e5];unfold gp;split
   ·exact(35,_,hk')
   ·exact(35,_,hx))
 exact aH rfl (6,ax rfl,kx (j6 (bY rfl hb) rfl) e,aU rfl)
theorem vC{b:Nat}{x:Int}(hb:b<=6):gR [(16,b),(16,x)]=okB (decide (0<=x/\x<2 ^ (b+1)/\x % 2=0)):=by
 refine aH rfl (aU ?_);have hs:pL (16,1) (16,((b:Int)+1))=okI (2 ^ (b+1)):=by
  rw[zi [11] [11] [13]]
  rw[show((b:Int)+1).toNat=b+1 by omega,Int.one_mul]
 by_cases h0:0<=x
 ·by_cases h1:x<2 ^ (b+1)
  ·refine il (GC rfl rfl (SD h0) (4,(18,rfl),hs) (Im h1)) ?_;obtain⟨n,rfl⟩:∃n:Nat,x=n:=(69,x.toNat)
   refine(1,(18,CY n 1),?_);show fg (16,((n &&& 1:Nat):Int)) (16,0)=_;rw[LW,Nat.and_one_is_mod];by_cases h2:n % 2=0
   ·rw[(51,[11]),(51,(11,h0,h1,by omega))]
   ·rw[(40,[11]),(40,(λz=>h2 [11]))]
  ·rw[(40,(λz=>h1 z.2.1))];exact pb (GC rfl rfl (SD h0) (4,(18,rfl),hs) (xv h1))
 ·rw[(40,(λz=>h0 z.1))];exact pb (Oz rfl rfl (Uc h0))
section
variable{bs:List Bx}{rs:List Rw}
structure FrK(rs:List Rw)(f:Fr):Prop where
 row:f.row<rs.length
 place:f.place<(77,f.row).pl.length\/(f.row=0/\f.place=(77,f.row).pl.length)
 hand:f.hand.length<=1000
def wd(rs:List Rw)(k p:Nat):Nat:=((77,k).pl.getD p (.non 0,0)).2
theorem RG{k p:Nat}(h:p<(77,k).pl.length):(77,k).pl[p].2=wd rs k p:=by unfold wd;rw[getD_eq_getElem?_getD,(7,h)];rfl
theorem Js{k p:Nat}(h:(77,k).pl.length<=p):wd rs k p=0:=by unfold wd;rw[getD_eq_getElem?_getD,(70,h)];rfl
theorem Da{k p:Nat}(hk:k<rs.length):oB [cD bs rs,(16,k),(16,p)]=okI (wd rs k p:Nat):=by
 by_cases c:p<(77,k).pl.length
 ·refine aH rfl (20,(33,rfl,kZ hk),aU (G9 (4,gd (lI rfl) (vy _),Im [11]) (1,(18,ix_tup (d:=plD (77,k).pl[p]) (by rw[getElem?_map,(7,c)];rfl)),?_)))
  rw[←RG c];exact fq
 ·rw[Js [11]]
  exact aH rfl (20,(33,rfl,kZ hk),aU (Ga (4,gd (lI rfl) (vy _),xv [11]) rfl))
def shutV(rs:List Rw)(p:List Fr):Nat:=p.foldl (λw f=>w ||| wd rs f.row f.place) 0
theorem Dz(p:List Fr)(f:Fr):shutV rs (p++[f])=shutV rs p ||| wd rs f.row f.place:=by unfold shutV;rw[List.foldl_append];rfl
theorem Dy{p:List Fr}(h:∀f∈p,FrK rs f):oE [cD bs rs,cM p]=okI (shutV rs p:Nat):=by
 obtain⟨ρ',e,e3,rfl⟩:=vI (bd:=bc 3) (body:=sU) Fr.d (λq ρ=>∃e3:(8,S),ρ=[(6,cD bs rs),(6,cM p),(6,(.int (shutV rs q:Nat))),e3]) p
  (ρ:=[some (.sh (cD bs rs)),some (.sh (cM p)),some (.sh (.int 0)),none]) (3,none,rfl) (by
  rintro q f post ρ hq ⟨e3,rfl⟩
  have hf:=h f (by rw[hq];simp)
  refine⟨_,_,rfl,.inl (ax (4,(18,(18,fr0 f),(18,LF f),Da hf.row),Av _ _)),(6,f.d),?_⟩;rw[Dz];rfl)
 exact aH rfl (6,ax rfl,kx (j6 (ds:=p.map Fr.d) rfl rfl) e,aU rfl)
theorem RT{u:List Fr}(h:u.length<=1000)(b:Nat):aO (cM u) (22,[(22,[(16,b),(16,0),(16,0),(22,[])])])=okD (cM (u++[(10,b,0,0,[])])):=by
 show aO (22,u.map Fr.d) _=(76,((u++[_]).map Fr.d));rw[CT (by rw[length_map,length_singleton];omega),map_append];rfl
theorem Ss{ρ:aC}{i:Nat}{b:Nat}(h:ρ[i]?=(1,(20,b))):bj [(bj [(a9 i),(3,0),(3,0),(bj [])])] ρ=(76,[(22,[(16,b),(16,0),(16,0),(22,[])])]):=bY (nO (cg h) rfl rfl rfl rfl) rfl
theorem EX{u:List Fr}(h:u.length<=1000)(b:Nat):oF [cM u,(16,b)]=okD (cM (u++[(10,b,0,0,[])])):=aH rfl (aU (4,Ss rfl,RT h b))
end
def dU(bs:[36]):[24]:=(bs.map (·.2)).flatten
theorem B9(q:[36])(b:Bx):dU (q++[b])=dU q++b.2:=by unfold dU;rw[map_append,List.flatten_append];simp
theorem GV{bs:[36]}(hb:∀b∈bs,b.2.length<=2):(dU bs).length<=2 * bs.length:=by
 induction bs with
 |nil=>exact[25]
 |cons b bs ih=>
  have h1:=hb b mem_cons_self;have h2:=ih λc hc=>hb c (30,hc);show((b::bs).map (·.2)).flatten.length<=_;rw[map_cons,flatten_cons,length_append,length_cons];unfold dU at h2;omega
theorem Np{q post:[36]}{b:Bx}{bs:[36]}(hb:cX bs)(h:bs=q++b::post):(dU q).length<=16/\b.2.length<=2:=by
 have h8:=hb.1;have hq:∀c∈q,c.2.length<=2:=λc hc=>(hb.2 c (by rw[h];simp[hc])).2.1
 have h1:=GV hq;have h2:q.length<=8:=by rw[h,length_append] at h8;omega
 exact(3,by omega,(hb.2 b (by rw[h];simp)).2.1)
theorem ze{bs:[36]}(hb:cX bs):ky [bt bs]=(76,((dU bs).map D.int)):=by
 obtain⟨ρ',e,e2,rfl⟩:=vI (bd:=bc 2) (body:=p6) bD (λq ρ=>∃e2:(8,S),ρ=[(6,bt bs),(52,((dU q).map D.int)),e2]) bs (ρ:=[(6,bt bs),(52,[]),none]) (3,none,rfl) (by
  rintro q b post ρ hq ⟨e2,rfl⟩
  obtain⟨l1,l2⟩:=Np hb hq;refine⟨_,_,rfl,.inl (LQ rfl (18,Lm b) rfl (by rw[length_map,length_map];exact le_trans (by omega:_<=18) [13])),(6,bD b),?_⟩
  rw[B9,map_append];rfl)
 exact aH rfl (6,ax rfl,kx (j6 rfl rfl) e,cE (aU (bY rfl rfl)))
theorem Dt(bs:[36]):(dU bs).length=pV bs:=by
 have hts:∀x,x<=bs.length->((bs.take x).map λb=>b.2.length).sum=(41,x):=λx h=>by
  unfold fstB;congr 1;refine ext_getElem? λi=>?_;rw[getElem?_map,getElem?_map];by_cases hi:i<x
  ·rw[List.getElem?_take_of_lt hi,getElem?_range hi,(7,[11])]
   show(1,bs[i].2.length)=(1,(27,i));rw[Dr [11]]
  ·rw[(70,(by rw[length_take];omega)),(70,(by rw[length_range];omega))];rfl
 have h:=hts bs.length [25];rw[List.take_length] at h;unfold dU pV;rw[List.length_flatten,map_map,←h];rfl
theorem AM(n:Nat):(2:Int) ^ n=((2 ^ n:Nat):Int):=by rw[natCast_pow];rfl
theorem JP{b:Nat}(hb:b<=100):pL (16,1) (.int (b:Int))=okI ((2 ^ b:Nat):Int):=by rw[zi [11] [11] [13],toNat_natCast,Int.one_mul,AM]
theorem Ua(n:Nat):ip (16,2) (.int (n:Int))=okI ((2 * n:Nat):Int):=by
 rw[xp [13] [13]]
 rfl
structure Ma where
 rung:Nat
 p:List Fr
 cs:[24]
noncomputable abbrev UF:Str:=(15,"program")
noncomputable abbrev UE:Str:=(15,"ranks")
abbrev Pw:Str:=(15,"rung")
abbrev Py:Str:=(15,"frames")
abbrev Rt:Str:=(15,"contents")
abbrev MN:[16]:=[UF,UE,Pw,Py,Rt]
def pq(rs:List Rw):[29]:=rs.map (·.rk)
abbrev Tt(bs:[36])(rs:List Rw)(s:Ma):[20]:=[cD bs rs,(22,ja (pq rs)),(16,s.rung),cM s.p,(22,s.cs.map D.int)]
abbrev jC(bs:[36])(rs:List Rw)(s:Ma):O:=.obj "Machine" MN (Tt bs rs s)
theorem S7:putN Pw MN=MN:=by decide +kernel
theorem S8:putN Py MN=MN:=by decide +kernel
theorem S9:putN Rt MN=MN:=by decide +kernel
theorem Se(x a b c d e:D):oK Pw x MN [a,b,c,d,e]=[a,b,x,d,e]:=by
 simp only[oK];rw[(29,[17]),(29,[17])];rfl
theorem Sf(x a b c d e:D):oK Py x MN [a,b,c,d,e]=[a,b,c,x,e]:=by
 simp only[oK];rw[(29,[17]),(29,[17]),(29,[17])];rfl
theorem Sg(x a b c d e:D):oK Rt x MN [a,b,c,d,e]=[a,b,c,d,x]:=by
 simp only[oK];rw[(29,[17]),(29,[17]),(29,[17]),(29,[17])];rfl
section
variable{bs:List Bx}{rs:List Rw}{s:Ma}{a:Nat}{r:List (Option S)}{e:ME}
abbrev ρM(bs:[36])(rs:List Rw)(s:Ma)(a:Nat)(r:List (8,S)):aC:=(12,.par a (jC bs rs s))::r
theorem Ke:de ["Machine"] 0 UF (ρM bs rs s a r)=okD (cD bs rs):=vm rfl rfl rfl rfl
theorem PH:de ["Machine"] 0 UE (ρM bs rs s a r)=(76,ja (pq rs)):=vm rfl rfl rfl rfl
theorem Nf:de ["Machine"] 0 Pw (ρM bs rs s a r)=okI s.rung:=vm rfl rfl rfl rfl
theorem sL:de ["Machine"] 0 Py (ρM bs rs s a r)=okD (cM s.p):=vm rfl rfl rfl rfl
theorem Ox:de ["Machine"] 0 Rt (ρM bs rs s a r)=(76,s.cs.map D.int):=vm rfl rfl rfl rfl
theorem RW{w:Nat}(h:e (ρM bs rs s a r)=okI w):mP ["Machine"] 0 Pw e (ρM bs rs s a r)=(46,(ρM bs rs {s with rung:=w} a r)):=by
 have z:=E7 (cs:=["Machine"]) (f:=Pw) (i:=0) (o:=.par a (jC bs rs s)) (ns:=MN) (ds:=Tt bs rs s) h rfl rfl rfl rfl (by show 5<900;decide)
 rw[S7,Se] at z;exact z
theorem P2{p:List Fr}(h:e (ρM bs rs s a r)=okD (cM p)):mP ["Machine"] 0 Py e (ρM bs rs s a r)=(46,(ρM bs rs {s with p:=p} a r)):=by
 have z:=E7 (cs:=["Machine"]) (f:=Py) (i:=0) (o:=.par a (jC bs rs s)) (ns:=MN) (ds:=Tt bs rs s) h rfl rfl rfl rfl (by show 5<900;decide)
 rw[S8,Sf] at z;exact z
theorem Uo{cs:[24]}(h:e (ρM bs rs s a r)=(76,[63])):mP ["Machine"] 0 Rt e (ρM bs rs s a r)=(46,(ρM bs rs {s with cs:=cs} a r)):=by
 have z:=E7 (cs:=["Machine"]) (f:=Rt) (i:=0) (o:=.par a (jC bs rs s)) (ns:=MN) (ds:=Tt bs rs s) h rfl rfl rfl rfl (by show 5<900;decide)
 rw[S9,Sg] at z;exact z
theorem IL:gD (jC bs rs s) [] []=(1,((22,s.cs.map D.int),jC bs rs s)):=vK rfl rfl λa=>by
 show n9 0 a (j4 (ρM bs rs s a []))=_;have h:j4 (ρM bs rs s a [])=(1,.ret (.two (22,s.cs.map D.int) a (jC bs rs s))):=uS Ox rfl;rw[h];exact jU
theorem Ip{b:Nat}(hb:b<=100)(h:s.rung.testBit b=true)(hp:s.p.length<=1000):fX (jC bs rs s) [] [(16,b)]=(1,((22,[.str (15,"enter"),(16,b)]),jC bs rs (11,s.rung - 2 ^ b,s.p++[(10,b,0,0,[])],s.cs))):=vK rfl rfl λa=>by
 show n9 0 a (iB (ρM bs rs s a [(20,b)]))=_;have h:iB (ρM bs rs s a [(20,b)])=(1,.ret (.two (22,[.str (15,"enter"),(16,b)]) a (jC bs rs (11,s.rung - 2 ^ b,s.p++[(10,b,0,0,[])],s.cs)))):=
  (6,RW (a8 Nf (18,JP hb) (Fp h)),P2 (br sL rfl (EX hp b)),uS (s:=.sh (22,[.str (15,"enter"),(16,b)])) rfl rfl)
 rw[h];exact jU
end
def j9(bs:[36])(rs:List Rw)(u:List Fr)(top:Fr)(cs:[24])(q:Pl):List Fr×[24]:=
 if(bJ bs q.1 top.turn cs top.hand).2.2<(bS bs q.1).length then(u++[(10,top.row,top.place,(bJ bs q.1 top.turn cs top.hand).2.2,(bJ bs q.1 top.turn cs top.hand).2.1)],(bJ bs q.1 top.turn cs top.hand).1)
 else if 0<top.row/\top.place+1=(43,rs).pl.length then(u,(bJ bs q.1 top.turn cs top.hand).1) else(u++[(10,top.row,top.place+1,0,[])],(bJ bs q.1 top.turn cs top.hand).1)
def Rx(bs:[36])(rs:List Rw)(u:List Fr)(top:Fr)(cs:[24])(q:Pl):D:=(22,[.str (15,"turn"),(16,top.row),(16,top.place),(16,top.turn),(22,((kE bs rs cs q.1 u top).map prD))])
abbrev Ry:D:=(22,[.str (15,"idle")])
abbrev Rz(b:Nat):D:=(22,[.str (15,"enter"),(16,b)])
structure iD(bs:List Bx)(rs:List Rw):Prop where
 hb:cX bs
 hr:∀r∈rs,∀q∈r.pl,q.1.Ok bs
 len:∀k,k<rs.length->1<=(77,k).pl.length/\(77,k).pl.length<=3
 n:1<=rs.length/\rs.length<=7
 r0:(77,0).rk=0
 rk:∀k,1<=k->k<rs.length->1<=(77,k).rk/\(77,k).rk<=9
structure mB(bs:List Bx)(rs:List Rw)(s:Ma):Prop where
 wf:WF bs rs s.p s.cs
 frk:∀f∈s.p,FrK rs f
 lev:∀u t v,s.p=u++t::v->u.length<=(77,t.row).rk
 fl:s.rung<2 ^ rs.length
 fl0:s.rung.testBit 0=false
section
variable{bs:List Bx}{rs:List Rw}{s:Ma}{u:List Fr}{top:Fr}
theorem zu{k:Nat}(h:k<rs.length):(pq rs).getD k 0=(77,k).rk:=by
 unfold pq aA;rw[getD_eq_getElem?_getD,getElem?_map,(7,h),getD_eq_getElem?_getD,(7,h)];rfl
theorem Gf(h:s.p=u++[top])(hrow:top.row<rs.length)(c:top.place=(43,rs).pl.length):dA (jC bs rs s) [] []=(1,(Ry,jC bs rs s)):=vK rfl rfl λa=>by
 have ht:k4 [cD bs rs,cM s.p,(22,s.cs.map D.int)]=okD .non:=by rw[h];exact AN hrow c
 show n9 0 a (eY (ρM bs rs s a [none,none,none]))=_;have z:eY (ρM bs rs s a [none,none,none])=(1,.ret (.two Ry a (jC bs rs s))):=
  (20,bf Ke sL Ox ht,(31,wC rfl rfl,uS (s:=.sh Ry) rfl rfl))
 rw[z];exact jU
theorem Ge(pr:iD bs rs)(ok:mB bs rs s)(h:s.p=u++[top]){q:Pl}(hpq:(43,rs).pl[top.place]?=(1,q)):
  dA (jC bs rs s) [] []=(1,(Rx bs rs u top s.cs q,jC bs rs (11,s.rung,(j9 bs rs u top s.cs q).1,(j9 bs rs u top s.cs q).2))):=vK rfl rfl λa=>by
 have hm:∀f∈u++[top],FrOk bs rs f:=by rw[←h];exact ok.wf.fr
 have htop:=hm top [19]
 have hlen:(u++[top]).length<=100:=by rw[←h];exact ok.wf.most
 rw[length_append,length_singleton] at hlen;have okq:q.1.Ok bs:=pr.hr (43,rs) (by rw[←kW htop.row];exact getElem_mem htop.row) q (61,hpq)
 obtain⟨ht,hh⟩:=htop.turn q hpq;have hh3:=Gd pr.hb okq hh;have e1:k4 [cD bs rs,cM s.p,(22,s.cs.map D.int)]=okD (Tp (j9 bs rs u top s.cs q).1 (j9 bs rs u top s.cs q).2):=by
  rcases hav:bJ bs q.1 top.turn s.cs top.hand with⟨c2,h2,t2⟩;rw[h,GQ pr.hb okq htop.row hpq ht ok.wf.len [11] (Lu okq hh ht) [11] hav]
  unfold j9;rw[hav];dsimp only;by_cases c1:t2<(bS bs q.1).length
  ·rw[(25,c1),(25,c1)]
  ·rw[(29,c1),(29,c1)];by_cases c2:0<top.row/\top.place+1=(43,rs).pl.length
   ·rw[(25,c2),(25,c2)]
   ·rw[(29,c2),(29,c2)]
 have e2:iX [cD bs rs,cM s.p,(22,s.cs.map D.int)]=(76,((kE bs rs s.cs q.1 u top).map prD)):=by
  rw[h];exact As pr.hb pr.hr (λf hf=>hm f (mem_append_left _ hf)) [11] htop ok.wf.len hpq
 have e3:aT (cM s.p) (16,(-1))=okD top.d:=by rw[h];exact l0 u top
 show n9 0 a (eY (ρM bs rs s a [none,none,none]))=_;generalize hn:j9 bs rs u top s.cs q=nx at e1 ⊢;have z:eY (ρM bs rs s a [none,none,none])=(1,.ret (.two (Rx bs rs u top s.cs q) a (jC bs rs (11,s.rung,nx.1,nx.2)))):=
  aa (ax (bf Ke sL Ox e1)) (aa (38,wC rfl rfl) (aa (ax (1,sL,e3)) (aa (ax (bf Ke sL Ox e2))
   (6,P2 (18,bW),Uo (18,fq),uS (s:=.sh (Rx bs rs u top s.cs q)) (SZ (s1:=.sh (.str (15,"turn"))) (s5:=.sh (22,((kE bs rs s.cs q.1 u top).map prD))) rfl (18,fr0 top) (18,LF top) (18,Rv top) rfl rfl) rfl))))
 rw[z];exact jU
end
abbrev gy(rs:List Rw)(w:Nat)(p:List Fr)(top:Fr):Nat:=P9 w (shutV rs p) (43,rs).rk (pq rs) (pq rs).length
section
variable{bs:List Bx}{rs:List Rw}{s:Ma}{u:List Fr}{top:Fr}
theorem lY:(pq rs).length=rs.length:=length_map ..
theorem Ax(pr:iD bs rs){w:Nat}(h0:w.testBit 0=false)(p:List Fr)(top:Fr):AD w (shutV rs p) (43,rs).rk (pq rs) (pq rs).length (gy rs w p top):=
 vY (by rw[zu (by have:=pr.n;omega)];exact pr.r0) h0 _
theorem AO{w:Nat}(pr:iD bs rs)(ok:mB bs rs s)(h:s.p=u++[top])(hw:w<2 ^ rs.length)(hw2:w % 2=0){r:(8,pR)}{a:Nat}
  (ht:kT (ρM bs rs {s with rung:=s.rung ||| w} a [(20,w),(20,(43,rs).rk),(20,(26,rs,s.p,top))])=r):
  i8 (ρM bs rs s a [(20,w),none,none])=r:=by
 obtain⟨n1,n7⟩:=pr.n;have htop:=ok.wf.fr top (by rw[h];simp)
 have lenr:cm (22,ja (pq rs))=okI (rs.length:Nat):=by rw[nM];unfold ja;rw[length_map,lY]
 have e1:kO (.int (rs.length:Nat)) (16,1)=okI ((rs.length - 1:Nat):Int):=N3 (a:=rs.length) (b:=1) n1;have hword:gR [(16,((rs.length - 1:Nat):Int)),(16,w)]=okB true:=by
  have z:((2 ^ rs.length:Nat):Int)=2 ^ rs.length:=by rw[natCast_pow];rfl
  have hx:(w:Int)<2 ^ (rs.length - 1+1):=by rw[show rs.length - 1+1=rs.length by omega,←z];omega
  rw[vC [11],(51,(11,by omega,hx,by omega))]
 have efl:aT (22,ja (pq rs)) (16,top.row)=okI ((43,rs).rk:Nat):=by
  rw[SF (by rw[lY];exact htop.row),zu htop.row]
 have e3:aT (cM s.p) (16,(-1))=okD top.d:=by rw[h];exact l0 u top
 have hor:s.rung ||| w<2 ^ rs.length:=Nat.or_lt_two_pow ok.fl hw;have ebest:vM [(22,ja (pq rs)),(16,(s.rung ||| w:Nat)),(16,((43,rs).rk:Nat)),.int (shutV rs s.p:Nat)]=okI ((26,rs,s.p,top):Nat):=
  OE (by rw[lY];exact n7) (by rw[lY];exact hor) (by rw[lY];omega)
 exact aa (38,sC (br (1,gd PH lenr,e1) rfl hword)) (aa (RW (1,Nf,Av _ _))
  (6,ax (a8 PH (1,(1,sL,e3),fr0 top) efl),ax (nO PH Nf rfl (br Ke sL (Dy ok.frk)) ebest),ht))
theorem uq{w:Nat}(pr:iD bs rs)(ok:mB bs rs s)(h:s.p=u++[top])(hw:w<2 ^ rs.length)(hw2:w % 2=0)(hb:0<(26,rs,s.p,top))(hb2:(26,rs,s.p,top)<rs.length)(hbit:(s.rung ||| w).testBit (26,rs,s.p,top)=true):
  aX (jC bs rs s) [] [(16,w)]=(1,(Rz (26,rs,s.p,top),jC bs rs (11,(s.rung ||| w) - 2 ^ (26,rs,s.p,top),s.p++[(10,(26,rs,s.p,top),0,0,[])],s.cs))):=vK rfl rfl λa=>by
 show n9 0 a (i8 (ρM bs rs s a [(20,w),none,none]))=_;have hl:=Ip (bs:=bs) (rs:=rs) (s:={s with rung:=s.rung ||| w}) (b:=(26,rs,s.p,top)) (by have:=pr.n;omega) hbit (55,ok.wf.most)
 rw[AO pr ok h hw hw2 (31,(18,xy [11]),JV (pG rfl rfl [17] rfl hl) rfl)]
 exact jU
theorem tV{w:Nat}{d:D}{s':Ma}(pr:iD bs rs)(ok:mB bs rs s)(h:s.p=u++[top])(hw:w<2 ^ rs.length)(hw2:w % 2=0)(hb:(26,rs,s.p,top)=0)
  (hg:dA (jC bs rs {s with rung:=s.rung ||| w}) [] []=(1,(d,jC bs rs s'))):aX (jC bs rs s) [] [(16,w)]=(1,(d,jC bs rs s')):=vK rfl rfl λa=>by
 show n9 0 a (i8 (ρM bs rs s a [(20,w),none,none]))=_;rw[AO pr ok h hw hw2 (aa (58,xA [11]) (JV (pG rfl rfl [17] rfl hg) rfl))]
 exact jU
end
section
variable{bs:List Bx}{rs:List Rw}{s:Ma}{u:List Fr}{top:Fr}{cs:List Int}
def tQ(bs:[36])(rs:List Rw)(f:Fr)(cs:[24]):Prop:=∀q x y t,(77,f.row).pl[f.place]?=(1,q)->q.1=.anew x y t->1<=f.turn->f.turn<=(27,y)+1->f.hand.getD 0 0=cs.getD (41,t) 0
theorem Jg{dd:Deed}(ok:dd.Ok bs){turn:Nat}{vs hand:[24]}(h:sZ bs dd turn hand)(ht:turn<(bS bs dd).length):
  ((bJ bs dd turn vs hand).2.2<(bS bs dd).length->sZ bs dd (bJ bs dd turn vs hand).2.2 (bJ bs dd turn vs hand).2.1)/\(bJ bs dd turn vs hand).1.length=vs.length:=by
 cases dd with
 |put x ns=>exact(3,λ_=>h,by show(vs.set _ _).length=_;rw[length_set])
 |copy x y=>exact(3,λ_=>h,by show(vs.set _ _).length=_;rw[length_set])
 |tick x=>exact(3,λ_=>h,by show(vs.set _ _).length=_;rw[length_set])
 |still n=>exact(3,λ_=>h,rfl)
 |non x=>exact(3,λ_=>h,rfl)
 |iz x y n=>exact(3,λ_=>h,rfl)
 |most x y n=>exact(3,λ_=>h,rfl)
 |grow x n=>
  have h:hand.length=min turn [44]:=h;rw[hJ] at ht ⊢;dsimp only at ht ⊢;unfold bJ;dsimp only;by_cases c:turn<[44]
  ·rw[(25,c)];refine(3,λ_=>?_,rfl);show(hand++[_]).length=min (turn+1) [44];rw[length_append,length_singleton];omega
  ·rw[(29,c)];refine(3,λz=>?_,by rw[length_set])
   have z:turn+1<2 * [44]:=z;rw[(29,[11])]
   show hand.length=min (turn+1) [44];omega
 |anew x y t=>
  have h:hand.length=min turn ((27,y)+1):=h;have hxy:(27,y)=[44]:=ok.2.2.2.2.2.2.1;rw[hJ] at ht ⊢;dsimp only at ht ⊢;unfold bJ;dsimp only;by_cases c:turn<(27,y)+1
  ·rw[(25,c)];refine(3,λ_=>?_,rfl);show(hand++[_]).length=min (turn+1) ((27,y)+1);rw[length_append,length_singleton];omega
  ·rw[(29,c)];by_cases c2:(27,y)+1<turn
   ·rw[(25,c2)];refine(3,λz=>?_,by rw[length_set])
    have z:turn+1<(27,y)+2+[44]:=z;rw[(29,[11])]
    show hand.length=min (turn+1) ((27,y)+1);omega
   ·rw[(29,c2)];by_cases c3:vs.getD (41,t) 0=hand.getD 0 0
    ·rw[(25,c3)];refine(3,λ_=>?_,rfl);show hand.length=min (turn+1) ((27,y)+1);omega
    ·rw[(29,c3)];refine(3,λ_=>?_,rfl);show 0=min 0 ((27,y)+1);omega
theorem IA{l:[24]}{x:Int}(h:0<l.length):(l++[x]).getD 0 0=l.getD 0 0:=by
 cases l with
 |nil=>cases h
 |cons a l=>rfl
theorem kC{f:Fr}{q:Pl}(hpq:(77,f.row).pl[f.place]?=(1,q))(h:∀x y t,q.1≠.anew x y t):tQ bs rs f cs:=λq' x y t e1 e2=>by rw[hpq] at e1;cases e1;exact(h x y t e2).elim
theorem Mi{f:Fr}(h:f.turn=0):tQ bs rs f cs:=λq x y t _ _ e=>by omega
theorem IM(hb:cX bs){q:Pl}(ok:q.1.Ok bs)(hpq:(43,rs).pl[top.place]?=(1,q))(h:sZ bs q.1 top.turn top.hand):
  ((bJ bs q.1 top.turn cs top.hand).2.2=top.turn+1/\(tQ bs rs top cs->tQ bs rs (10,top.row,top.place,(bJ bs q.1 top.turn cs top.hand).2.2,(bJ bs q.1 top.turn cs top.hand).2.1) (bJ bs q.1 top.turn cs top.hand).1))\/
  ((bJ bs q.1 top.turn cs top.hand).2.2=0/\¬tQ bs rs top cs/\top.turn<=3):=by
 obtain⟨dd,wd⟩:=q;cases dd with
 |put x ns=>exact .inl (62,λ_=>kC (q:=(.put x ns,wd)) hpq λ_ _ _=>Deed.noConfusion)
 |copy x y=>exact .inl (62,λ_=>kC (q:=(.copy x y,wd)) hpq λ_ _ _=>Deed.noConfusion)
 |tick x=>exact .inl (62,λ_=>kC (q:=(.tick x,wd)) hpq λ_ _ _=>Deed.noConfusion)
 |still n=>exact .inl (62,λ_=>kC (q:=(.still n,wd)) hpq λ_ _ _=>Deed.noConfusion)
 |non x=>exact .inl (62,λ_=>kC (q:=(.non x,wd)) hpq λ_ _ _=>Deed.noConfusion)
 |iz x y n=>exact .inl (62,λ_=>kC (q:=(.iz x y n,wd)) hpq λ_ _ _=>Deed.noConfusion)
 |most x y n=>exact .inl (62,λ_=>kC (q:=(.most x y n,wd)) hpq λ_ _ _=>Deed.noConfusion)
 |grow x n=>
  refine .inl (3,?_,λ_=>kC (q:=(.grow x n,wd)) hpq λ_ _ _=>Deed.noConfusion);unfold bJ;dsimp only;split <;> rfl
 |anew x y t=>
  have h:top.hand.length=min top.turn ((27,y)+1):=h;have hy:=dk hb (show y<bs.length from ok.2.1);have uniq:∀{q':Pl}{x' y' t'},(43,rs).pl[top.place]?=(1,q')->q'.1=.anew x' y' t'->x'=x/\y'=y/\t'=t:=λ{q' x' y' t'} e1 e2=>by
   rw[hpq] at e1;cases e1;cases e2;exact(19,rfl,rfl)
  by_cases c:top.turn<(27,y)+1
  ·have e:bJ bs (.anew x y t) top.turn cs top.hand=(cs,top.hand++[cs.getD (if top.turn=0 then(41,t) else(41,y)+(top.turn - 1)) 0],top.turn+1):=by unfold bJ;dsimp only;rw[(25,c)]
   dsimp only;rw[e];refine .inl (62,λca q' x' y' t' e1 e2 _ _=>?_);obtain⟨rfl,rfl,rfl⟩:=uniq e1 e2;show(top.hand++[_]).getD 0 0=_;by_cases c0:top.turn=0
   ·have:top.hand=[]:=length_eq_zero_iff.mp [11]
    rw[this,(25,c0)];rfl
   ·rw[IA [11]]
    exact ca q' _ _ _ e1 e2 [11] [11]
  ·by_cases c2:(27,y)+1<top.turn
   ·have e:bJ bs (.anew x y t) top.turn cs top.hand=(cs.set ((41,x)+(top.turn - ((27,y)+2))) (top.hand.getD (top.turn - ((27,y)+1)) 0),if top.turn+1=2 * (27,y)+2 then[] else top.hand,top.turn+1):=by unfold bJ;dsimp only;rw[(29,c),(25,c2)]
    dsimp only;rw[e];refine .inl (62,λca q' x' y' t' e1 e2 h1 h2=>?_);obtain⟨rfl,rfl,rfl⟩:=uniq e1 e2;have h2:top.turn+1<=(27,y')+1:=h2;omega
   ·by_cases c3:cs.getD (41,t) 0=top.hand.getD 0 0
    ·have e:bJ bs (.anew x y t) top.turn cs top.hand=(cs,top.hand,top.turn+1):=by unfold bJ;dsimp only;rw[(29,c),(29,c2),(25,c3)]
     dsimp only;rw[e];refine .inl (62,λca q' x' y' t' e1 e2 h1 h2=>?_);obtain⟨rfl,rfl,rfl⟩:=uniq e1 e2;have h2:top.turn+1<=(27,y')+1:=h2;omega
    ·have e:bJ bs (.anew x y t) top.turn cs top.hand=(cs,[],0):=by unfold bJ;dsimp only;rw[(29,c),(29,c2),(29,c3)]
     dsimp only;rw[e];exact .inr (11,rfl,λca=>c3 (ca _ x y t hpq rfl [11] [11]).symm,by omega)
end
section
variable{bs:List Bx}{rs:List Rw}{s:Ma}{u:List Fr}{top f:Fr}{cs:List Int}
theorem Nu(hb:cX bs){dd:Deed}(ok:dd.Ok bs):(bS bs dd).length<=9:=by
 rw[hJ];cases dd with
 |put x ns=>have:=dk hb ok.1;dsimp only;omega
 |copy x y=>have:=dk hb ok.1;dsimp only;omega
 |tick x=>dsimp only;omega
 |still n=>have:=ok;dsimp only;exact ok.2
 |non x=>dsimp only;omega
 |iz x y n=>dsimp only;omega
 |most x y n=>dsimp only;omega
 |grow x n=>have:=dk hb ok.1;dsimp only;omega
 |anew x y t=>have:=dk hb ok.1;have:=dk hb ok.2.1;dsimp only;omega
theorem u5{k:Nat}(h:k<rs.length):(77,k)∈rs:=by rw[←kW h];exact getElem_mem h
theorem Ft(pr:iD bs rs)(h:FrOk bs rs f):f.turn<=8:=by
 by_cases c:f.place=(77,f.row).pl.length
 ·rw[h.lastT c];omega
 ·have hlt:f.place<(77,f.row).pl.length:=by have:=h.place;omega
  have e:=(7,hlt);have:=(h.turn _ e).1;have:=Nu pr.hb (pr.hr _ (u5 h.row) _ (getElem_mem hlt));omega
open Classical in
noncomputable def zz(bs:[36])(rs:List Rw)(f:Fr)(cs:[24]):Nat:=((77,f.row).pl.length - f.place) * 40+(if tQ bs rs f cs then 20 else 40) - f.turn
def v3(rs:List Rw)(f:Fr):Nat:=((77,f.row).pl.length - f.place) * 40+40 - f.turn
noncomputable def Pd(bs:[36])(rs:List Rw)(p:List Fr)(cs:[24]):Nat:=(p.dropLast.map (v3 rs)).sum+(match p.getLast? with|some t=>zz bs rs t cs|none=>0)
theorem jO:Pd bs rs (u++[top]) cs=(u.map (v3 rs)).sum+zz bs rs top cs:=by
 unfold Pd;rw[List.dropLast_concat,List.getLast?_concat]
theorem mW(h:tQ bs rs f cs):zz bs rs f cs=((77,f.row).pl.length - f.place) * 40+20 - f.turn:=by unfold zz;rw[(25,h)]
theorem uZ(h:¬tQ bs rs f cs):zz bs rs f cs=((77,f.row).pl.length - f.place) * 40+40 - f.turn:=by unfold zz;rw[(29,h)]
theorem zy:zz bs rs f cs<=v3 rs f:=by
 unfold v3;by_cases h:tQ bs rs f cs
 ·rw[mW h];omega
 ·rw[uZ h];omega
theorem FR(pr:iD bs rs)(h:FrOk bs rs f):v3 rs f<=zz bs rs f cs+20/\0<zz bs rs f cs:=by
 have:=Ft pr h;unfold v3;by_cases c:tQ bs rs f cs
 ·rw[mW c];omega
 ·rw[uZ c];omega
theorem sV(pr:iD bs rs)(h:FrOk bs rs top){q:Pl}(hpq:(43,rs).pl[top.place]?=(1,q)):q.1.Ok bs/\top.place<(43,rs).pl.length/\top.turn<(bS bs q.1).length/\sZ bs q.1 top.turn top.hand:=
 (11,pr.hr _ (u5 h.row) q (61,hpq),(17,hpq).1,h.turn q hpq)
theorem Kj(pr:iD bs rs)(wf:WF bs rs (u++[top]) cs){q:Pl}(hpq:(43,rs).pl[top.place]?=(1,q)):Pd bs rs (j9 bs rs u top cs q).1 (j9 bs rs u top cs q).2<Pd bs rs (u++[top]) cs:=by
 have htop:=wf.fr top [19]
 obtain⟨okq,hlt,ht,hh⟩:=sV pr htop hpq;have t8:=Ft pr htop;rw[jO];have cst:=IM pr.hb (cs:=cs) okq hpq hh;unfold j9;by_cases c1:(bJ bs q.1 top.turn cs top.hand).2.2<(bS bs q.1).length
 ·rw[(25,c1)];dsimp only;rw[jO];rcases cst with⟨e,ca⟩|⟨e,nc,h3⟩
  ·by_cases c:tQ bs rs top cs
   ·rw[mW c,mW (ca c)];dsimp only;rw[e];omega
   ·rw[uZ c];refine lt_of_le_of_lt (Nat.add_le_add_left zy _) ?_;unfold v3;dsimp only;rw[e];omega
  ·rw[uZ nc,mW (Mi e)];dsimp only;rw[e];omega
 ·rw[(29,c1)];by_cases c2:0<top.row/\top.place+1=(43,rs).pl.length
  ·rw[(25,c2)];dsimp only;have hpos:=(FR pr (cs:=cs) htop).2;have hne:u≠[]:=λz=>by
    obtain⟨b,r,e,h0⟩:=wf.hd;rw[z] at e;cases e;omega
   obtain⟨v,g,rfl⟩:∃v g,u=v++[g]:=(11,u.dropLast,u.getLast hne,(List.dropLast_concat_getLast hne).symm);rw[jO,map_append,sum_append];have:=zy (bs:=bs) (rs:=rs) (f:=g) (cs:=(bJ bs q.1 top.turn cs top.hand).1);simp only[map_cons,map_nil,sum_cons,List.sum_nil];omega
  ·rw[(29,c2)];dsimp only;rw[jO,mW (Mi rfl)];dsimp only;by_cases c:tQ bs rs top cs
   ·rw[mW c];omega
   ·rw[uZ c];omega
theorem HA(pr:iD bs rs)(wf:WF bs rs (u++[top]) cs){b:Nat}(hb:b<rs.length):Pd bs rs (u++[top]++[(10,b,0,0,[])]) cs<=Pd bs rs (u++[top]) cs+160:=by
 rw[jO,jO,mW (f:=(10,b,0,0,[])) (Mi rfl),map_append,sum_append];have:=(FR pr (cs:=cs) (wf.fr top [19])).1
 have:=(pr.len b hb).2;simp only[map_cons,map_nil,sum_cons,List.sum_nil];omega
theorem Pt{l:List Fr}{m:Nat}(h:∀f∈l,v3 rs f<=m):(l.map (v3 rs)).sum<=m * l.length:=by
 induction l with
 |nil=>exact zero_le _
 |cons f l ih=>
  have h1:=h f mem_cons_self;have h2:=ih λg hg=>h g (30,hg);rw[map_cons,sum_cons,length_cons,Nat.mul_succ];omega
theorem Q1(pr:iD bs rs)(wf:WF bs rs (u++[top]) cs)(hl:u.length<=9):Pd bs rs (u++[top]) cs<=1600:=by
 have hp:∀f∈u++[top],v3 rs f<=160:=λf hf=>by
  have:=(pr.len f.row (wf.fr f hf).row).2;unfold v3;omega
 rw[jO];have h1:=Pt (rs:=rs) (l:=u) (m:=160) λf hf=>hp f (mem_append_left _ hf);have h2:=hp top [19]
 have h3:=zy (bs:=bs) (rs:=rs) (f:=top) (cs:=cs);omega
theorem NT(pr:iD bs rs)(ok:mB bs rs s)(h:s.p=u++[top]){q:Pl}(hpq:(43,rs).pl[top.place]?=(1,q)){w:Nat}(hw:w<2 ^ rs.length)(hw0:w.testBit 0=false):mB bs rs (11,w,(j9 bs rs u top s.cs q).1,(j9 bs rs u top s.cs q).2):=by
 have wf:WF bs rs (u++[top]) s.cs:=h▸ok.wf;have frk:∀f∈u++[top],FrK rs f:=h▸ok.frk;have lev:∀v t x,u++[top]=v++t::x->v.length<=(77,t.row).rk:=h▸ok.lev;have htop:=wf.fr top [19]
 have ktop:=frk top [19]
 obtain⟨okq,hlt,ht,hh⟩:=sV pr htop hpq;obtain⟨a1,a2⟩:=Jg okq hh ht (vs:=s.cs);have swapL:∀g:Fr,g.row=top.row->∀v t x,u++[g]=v++t::x->v.length<=(77,t.row).rk:=λg hg v t x e=>by
  rcases List.eq_nil_or_concat x with rfl|⟨x',y,rfl⟩
  ·obtain⟨e1,e2⟩:=append_inj' e rfl;cases e2;subst e1;rw[hg];exact lev u top [] rfl
  ·have e':u++[g]=(v++t::x')++[y]:=by rw[e];simp
   obtain⟨e1,_⟩:=append_inj' e' rfl;exact lev v t (x'++[top]) (by rw[e1];simp)
 have swapK:∀g:Fr,FrK rs g->∀f∈u++[g],FrK rs f:=λg hg f hf=>by
  rcases mem_append.mp hf with z|z
  ·exact frk f (mem_append_left _ z)
  ·rw[(39,z)];exact hg
 unfold j9;by_cases c1:(bJ bs q.1 top.turn s.cs top.hand).2.2<(bS bs q.1).length
 ·rw[(25,c1)];dsimp only;have hf:=a1 c1;refine(4,wf.swap (4,htop.row,htop.place,λq' hq'=>?_,λz=>?_,λz=>?_) rfl a2,swapK _ (11,htop.row,ktop.place,?_),swapL _ rfl,hw,hw0)
  ·have hq':(43,rs).pl[top.place]?=(1,q'):=hq';rw[hpq] at hq';cases hq';exact(3,c1,hf)
  ·have z:top.place=(43,rs).pl.length:=z;omega
  ·have z:top.place=(43,rs).pl.length:=z;omega
  ·have:=Gd pr.hb okq hf;dsimp only;omega
 ·rw[(29,c1)];by_cases c2:0<top.row/\top.place+1=(43,rs).pl.length
  ·rw[(25,c2)];exact(4,wf.pop c2.1 a2,λf hf=>frk f (mem_append_left _ hf),λv t x e=>lev v t (x++[top]) (by rw[show u=v++t::x from e];simp),hw,hw0)
  ·rw[(29,c2)];refine(4,wf.swap (vH pr.hb pr.hr htop.row [11]) rfl a2,swapK _ (11,htop.row,?_,zero_le _),swapL _ rfl,hw,hw0)
   dsimp only;by_cases c3:0<top.row
   ·left;have:¬top.place+1=(43,rs).pl.length:=λz=>c2 (3,c3,z);omega
   ·by_cases c4:top.place+1<(43,rs).pl.length
    ·exact .inl c4
    ·exact .inr (69,by omega)
theorem zA(pr:iD bs rs)(ok:mB bs rs s)(h:s.p=u++[top]):u.length<=9:=by
 have h1:=ok.lev u top [] h;have hrow:=(ok.wf.fr top (by rw[h];simp)).row
 by_cases c:top.row=0
 ·rw[c,pr.r0] at h1;omega
 ·have:=(pr.rk top.row [11] hrow).2
  omega
theorem LY(pr:iD bs rs)(ok:mB bs rs s)(h:s.p=u++[top]){b w:Nat}(hb:b<rs.length)(hrk:(43,rs).rk<(77,b).rk)(hw:w<2 ^ rs.length)(hw0:w.testBit 0=false):mB bs rs (11,w,s.p++[(10,b,0,0,[])],s.cs):=by
 have hl:=zA pr ok h;have hfr:=vH pr.hb pr.hr hb (pl:=0) (zero_le _);refine(4,(10,λf hf=>?_,?_,ok.wf.len,?_),λf hf=>?_,λv t x e=>?_,hw,hw0)
 ·rcases mem_append.mp hf with z|z
  ·exact ok.wf.fr f z
  ·rw[(39,z)];exact hfr
 ·obtain⟨c,r,e,h0⟩:=ok.wf.hd;exact(10,c,r++[(10,b,0,0,[])],by rw[e];rfl,h0)
 ·rw[h,length_append,length_append,length_singleton,length_singleton];omega
 ·rcases mem_append.mp hf with z|z
  ·exact ok.frk f z
  ·rw[(39,z)];exact(11,hb,.inl (pr.len b hb).1,zero_le _)
 ·rcases List.eq_nil_or_concat x with rfl|⟨x',y,rfl⟩
  ·obtain⟨e1,e2⟩:=append_inj' e rfl;cases e2;have h1:=ok.lev u top [] h;rw[←e1,h,length_append,length_singleton];dsimp only;omega
  ·have e2:s.p++[(10,b,0,0,[])]=_:=e;have e':s.p++[(10,b,0,0,[])]=(v++t::x')++[y]:=by rw[e2];simp
   obtain⟨e1,_⟩:=append_inj' e' rfl;exact ok.lev v t x' e1
end
def Mf(w:Nat):Nat:=((19,7).filter w.testBit).length
theorem FY:∀w,w<128->∀b,b<7->w.testBit b=true->(Mf (w - 2 ^ b)+1=Mf w/\∀k,k<7->(w - 2 ^ b).testBit k=(w.testBit k && !decide (k=b))):=by decide +kernel
theorem R6(w:Nat):Mf w<=7:=by unfold Mf;exact(55,List.length_filter_le _ _)
def Sq(w:Nat):(8,Nat)->Nat
 |some b=>w - 2 ^ b
 |none=>w
def pwV:(8,Nat)->Nat
 |some b=>2 ^ b
 |none=>0
def xG(n:Nat)(e:(8,Nat))(d:D):Prop:=match e with
 |some b=>d=Rz b/\1<=b/\b<n
 |none=>(∃x r,d=(22,(.str x::r))/\x≠(15,"enter"))/\fM 3 d
def D5(rs:List Rw)(s:Ma):Prop:=s.rung=0/\s.p=[(10,0,(77,0).pl.length,0,[])]
noncomputable def Ek(bs:[36])(rs:List Rw)(s:Ma):Nat:=Mf s.rung * 200+Pd bs rs s.p s.cs
section
variable{bs:List Bx}{rs:List Rw}{s:Ma}{u:List Fr}{top:Fr}
theorem n128(pr:iD bs rs){w:Nat}(h:w<2 ^ rs.length):w<128:=(9,h,(55,Nat.pow_le_pow_right [13] pr.n.2))
theorem Re{w n:Nat}(h:w<2 ^ n)(h0:w≠0):∃k,k<n/\w.testBit k=true:=by
 apply Classical.byContradiction;intro z;apply h0;apply Nat.eq_of_testBit_eq;intro k;rw[zero_testBit];by_cases c:k<n
 ·cases e:w.testBit k with
  |false=>rfl
  |true=>exact(z (11,k,c,e)).elim
 ·exact Nat.testBit_lt_two_pow (9,h,Nat.pow_le_pow_right [13] [11])
theorem tU(ok:mB bs rs s):mB bs rs (11,0,s.p,s.cs):=(4,ok.wf,ok.frk,ok.lev,two_pow_pos _,zero_testBit 0)
theorem zG{a b:Nat}(ha:a.testBit 0=false)(hb:b % 2=0):(a ||| b).testBit 0=false:=by
 rw[testBit_or,ha,Nat.testBit_zero,hb];rfl
theorem PX(l:List (Nat×Nat))(h:l.length<=1000):fM 2 (22,l.map prD):=.tup 1 _ (λd hd=>by
 obtain⟨p,_,rfl⟩:=mem_map.mp hd;exact .tup 0 _ (λd hd=>by
  rcases mem_cons.mp hd with rfl|hd
  ·exact .int 0 _
  ·rw[(39,hd)];exact .int 0 _) (by show 2<=lim;decide)) (by rw[length_map];exact(55,h))
theorem PY{q:Pl}{cs:[24]}(h:u.length<=100):fM 3 (Rx bs rs u top cs q):=by
 have hl:(kE bs rs cs q.1 u top).length<=1000:=by
  unfold kE Ld;rw[length_append];have:=LK (jZ bs rs q.1 top.turn) u;split <;> simp only[length_nil,length_cons] <;> omega
 refine .tup 2 _ (λd hd=>?_) (by show 5<=lim;decide)
 simp only[mem_cons,not_mem_nil,or_false] at hd;rcases hd with rfl|rfl|rfl|rfl|rfl
 ·exact .str 2 _
 ·exact .int 2 _
 ·exact .int 2 _
 ·exact .int 2 _
 ·exact PX _ hl
theorem FC(pr:iD bs rs)(ok:mB bs rs s){w:Nat}(hw:w<2 ^ rs.length)(hw2:w % 2=0):
  ∃e d s',aX (jC bs rs s) [] [(16,w)]=(1,(d,jC bs rs s'))/\mB bs rs s'/\xG rs.length e d/\s'.rung=Sq (s.rung ||| w) e/\(∀b,e=(1,b)->(s.rung ||| w).testBit b=true)/\
   aX (jC bs rs (11,0,s.p,s.cs)) [] [(16,pwV e)]=(1,(d,jC bs rs (11,0,s'.p,s'.cs)))/\(w=0->¬D5 rs s->Ek bs rs s'<Ek bs rs s):=by
 obtain⟨u,top,h⟩:=ok.wf.split;obtain⟨n1,n7⟩:=pr.n;have hor:s.rung ||| w<2 ^ rs.length:=Nat.or_lt_two_pow ok.fl hw;have hor0:=zG ok.fl0 hw2;have bu:=Ax pr hor0 s.p top;have htop:=ok.wf.fr top (by rw[h];simp)
 have hu9:=zA pr ok h;have wfu:WF bs rs (u++[top]) s.cs:=h▸ok.wf;rw[lY] at bu;rcases bu with⟨b0,hno⟩|⟨b0,b1,bw,_⟩
 ·have b0:(26,rs,s.p,top)=0:=b0;have z0:gy rs (((11,0,s.p,s.cs):Ma).rung ||| 0) s.p top=0:=by
   have bz:=Ax (rs:=rs) pr (w:=0 ||| 0) (by rfl) s.p top
   rcases bz with⟨e,_⟩|⟨_,_,e,_⟩
   ·exact e
   ·have:=(gJ.mp e).1;rw[show(0 ||| 0:Nat)=0 from rfl,zero_testBit] at this;cases this
  have e00:((11,0,s.p,s.cs):Ma).rung ||| 0=0:=or_zero 0;by_cases c:top.place=(43,rs).pl.length
  ·
   have hrow:top.row=0:=by
    rcases(ok.frk top (by rw[h];simp)).place with z|z
    ·omega
    ·exact z.1
   have hu:u=[]:=length_eq_zero_iff.mp (by have:=ok.lev u top [] h;rw[hrow,pr.r0] at this;omega)
   have ht:top=(10,0,(77,0).pl.length,0,[]):=by
    have e1:=htop.last c;have e2:=htop.lastT c;cases top;dsimp only at *;subst e1 e2 hrow c;rfl
   have hr0:s.rung ||| w=0:=by
    apply Classical.byContradiction;intro z;obtain⟨k,hk,hb⟩:=Re hor z;have hk1:1<=k:=by
     cases k with
     |zero=>rw[hor0] at hb;cases hb
     |succ k=>omega
    have:=hno k hk;rw[gJ.mpr (11,hb,?_,?_)] at this
    ·cases this
    ·rw[h,hu,List.nil_append];show(0 ||| wd rs top.row top.place).testBit k=false;rw[Js [11],show(0 ||| 0:Nat)=0 from rfl,zero_testBit]
    ·rw[zu hk,hrow,pr.r0];exact(pr.rk k hk1 hk).1
   have g0:aX (jC bs rs (11,0,s.p,s.cs)) [] [(16,(0:Nat))]=(1,(Ry,jC bs rs (11,0,s.p,s.cs))):=tV (w:=0) pr (tU ok) h (two_pow_pos _) rfl z0 (by rw[e00];exact Gf (s:=(11,0,s.p,s.cs)) h htop.row c)
   have pe:fM 3 Ry:=.tup 2 _ (λd hd=>by rw[(39,hd)];exact .str 2 _) (by show 1<=lim;decide)
   refine⟨none,Ry,(11,s.rung ||| w,s.p,s.cs),tV pr ok h hw hw2 b0 (Gf (s:={s with rung:=s.rung ||| w}) h htop.row c),(4,ok.wf,ok.frk,ok.lev,hor,hor0),(3,(10,_,[],rfl,by decide +kernel),pe),rfl,λ_ z=>(by cases z),g0,λhz hi=>(hi (3,?_,?_)).elim⟩
   ·rw[hz,or_zero] at hr0;exact hr0
   ·rw[h,hu,ht];rfl
  ·have hlt:top.place<(43,rs).pl.length:=by have:=htop.place;omega
   have hpq:=(7,hlt);have ok1:mB bs rs {s with rung:=s.rung ||| w}:=(4,ok.wf,ok.frk,ok.lev,hor,hor0);generalize (aA rs top.row).pl[top.place]=q at hpq;have g0:aX (jC bs rs (11,0,s.p,s.cs)) [] [(16,(0:Nat))]=(1,(Rx bs rs u top s.cs q,jC bs rs (11,0,(j9 bs rs u top s.cs q).1,(j9 bs rs u top s.cs q).2))):=tV (w:=0) pr (tU ok) h (two_pow_pos _) rfl z0 (by rw[e00];exact Ge pr (tU ok) h hpq)
   refine⟨none,Rx bs rs u top s.cs q,(11,s.rung ||| w,(j9 bs rs u top s.cs q).1,(j9 bs rs u top s.cs q).2),tV pr ok h hw hw2 b0 (Ge pr ok1 h hpq),NT pr ok h hpq hor hor0,(3,(10,_,_,rfl,by decide +kernel),PY [11]),rfl,λ_ z=>(by cases z),g0,λhz _=>?_⟩
   have:=Kj pr wfu hpq;unfold Ek;dsimp only;rw[hz,or_zero,h];omega
 ·obtain⟨w1,w2,w3⟩:=gJ.mp bw;have b0:(26,rs,s.p,top)≠0:=b0;have w1:(s.rung ||| w).testBit (26,rs,s.p,top)=true:=w1;have w2:(shutV rs s.p).testBit (26,rs,s.p,top)=false:=w2;have w3:(43,rs).rk<(pq rs).getD (26,rs,s.p,top) 0:=w3;have b1:(26,rs,s.p,top)<rs.length:=b1;have et:=uq pr ok h hw hw2 (Nat.pos_of_ne_zero b0) b1 w1;generalize hbv:gy rs (s.rung ||| w) s.p top=b at b0 w1 w2 w3 b1 et;have hr:=zu b1;obtain⟨o1,o2⟩:=FY _ (n128 pr hor) b [11] w1
  have hw':(s.rung ||| w) - 2 ^ b<2 ^ rs.length:=lt_of_le_of_lt (Nat.sub_le _ _) hor;have hw0:((s.rung ||| w) - 2 ^ b).testBit 0=false:=by rw[o2 0 [13],hor0];rfl
  have p2:2 ^ b<2 ^ rs.length:=Nat.pow_lt_pow_right [13] b1
  have p20:2 ^ b % 2=0:=by
   obtain⟨c,rfl⟩:∃c,b=c+1:=(69,b - 1)
   rw[Nat.pow_succ];omega
  have hbz:gy rs (((11,0,s.p,s.cs):Ma).rung ||| 2 ^ b) s.p top=b:=by
   show gy rs (0 ||| 2 ^ b) s.p top=b;rw[zero_or];have bz:=Ax (rs:=rs) pr (w:=2 ^ b) (by rw[Nat.testBit_zero,p20];rfl) s.p top
   rcases bz with⟨_,e⟩|⟨_,_,e,_⟩
   ·have:=e b (by rw[lY];exact b1)
    rw[gJ.mpr (11,by rw[testBit_two_pow];simp,w2,w3)] at this
    cases this
   ·have:=(gJ.mp e).1;rw[testBit_two_pow] at this;exact(of_decide_eq_true this).symm
  have ez:=uq pr (tU ok) h p2 p20 (by rw[hbz];omega) (by rw[hbz];exact b1) (by rw[hbz];show(0 ||| 2 ^ b).testBit b=true;rw[zero_or,testBit_two_pow];simp)
  rw[hbz] at ez;have e0:((11,0,s.p,s.cs):Ma).rung ||| 2 ^ b=2 ^ b:=zero_or _;rw[e0,sub_self] at ez;refine⟨(1,b),Rz b,(11,_,_,_),et,LY pr ok h b1 (by rw[←hr];exact w3) hw' hw0,(11,rfl,by omega,b1),rfl,λ_ z=>by cases z;exact w1,ez,λhz _=>?_⟩
  have:=HA pr wfu b1;unfold Ek;dsimp only;rw[hz,or_zero] at o1 ⊢;rw[h];omega
end
deriving instance DecidableEq for Fr
section
variable{bs:List Bx}{rs:List Rw}{s s':Ma}
theorem Bo{f:Str}:∀{ns:[16]},f∉ns->putN f ns=ns++[f]
 |[],_=>rfl
 |n::r,h=>by
  show(if n=f then n::r else n::putN f r)=_;rw[(29,(λz=>h (by rw[z];exact mem_cons_self))),Bo (λz=>h (30,z))];rfl
theorem Bp{f:Str}{d:D}:∀{ns:[16]}{ds:[20]},f∉ns->ns.length=ds.length->oK f d ns ds=ds++[d]
 |[],[],_,_=>rfl
 |[],_::_,_,h=>by cases h
 |_::_,[],_,h=>by cases h
 |n::r,x::ds,h,hl=>by
  show(if n=f then d::ds else x::oK f d r ds)=_;rw[(29,(λz=>h (by rw[z];exact mem_cons_self))),Bp (λz=>h (30,z)) (by simpa using hl)];rfl
theorem mL{ρ:aC}{e1:ME}{t:S}{cs:List String}{c:String}{f:Str}{ns:[16]}{ds:[20]}(h:e1 ρ=(34,t))(hc:cs.contains c=true)(hl:ns.length=ds.length)(h9:ns.length<900)(hn:f∉ns):
  jc cs f e1 ρ (27,ns,ds)=(1,(27,(ns++[f]),(ds++[t.val]))):=by
 rw[rE h hc hl h9,Bo hn,Bp hn hl]
theorem Oc(pr:iD bs rs):oz (.obj "Machine" [] []) [cD bs rs]=(1,jC bs rs (11,0,[(10,0,0,0,[])],dU bs)):=by
 have hc:["Machine"].contains "Machine" = true:=rfl;have hra:aq (f1 j8) [(cw [2] (iW (26,1,1)) (bc 2) eI (26,2,1))] [none,(6,cD bs rs),none]=(76,ja (pq rs)):=by
  refine bY (fL rs Rw.d (λr=>(16,r.rk)) (j6 (18,fq) rfl) (55,pr.n.2) λr _=>(4,_,rfl,_,(18,fq),rfl)) ?_
  show(76,(rs.map λr=>D.int r.rk))=_;unfold ja pq;rw[map_map];rfl
 exact lA rfl (kH (mL rfl hc rfl [13] [17]) (kH (mL hra hc rfl [13] [17]) (kH (mL rfl hc rfl [13] [17]) (kH (mL (t:=.sh (cM [(10,0,0,0,[])])) rfl hc rfl [13] [17]) (kH (mL (bY (18,bW) (ze pr.hb)) hc rfl [13] [17]) rfl)))))
theorem UI(f:Fr)(L:Nat):rb 2 f.d (22,[(16,0),(16,L),(16,0),(22,[])])=(1,(decide (f=(10,0,L,0,[])))):=by
 obtain⟨r,p,t,h⟩:=f;have hh:rb 1 (22,h.map D.int) (22,[])=(1,(decide (h=[]))):=by cases h <;> rfl
 show((rb 1 (16,r) (16,0)).bind λb=>(nI (rb 1) [(16,p),(16,t),(22,h.map D.int)] [(16,L),(16,0),(22,[])]).bind λc=>(1,(b && c)))=_;show(1,((r:Int) == 0)).bind (λb=>((1,((p:Int) == L)).bind λb=>((1,((t:Int) == 0)).bind λb=>((rb 1 (22,h.map D.int) (22,[])).bind λb=>(1,true).bind λc=>(1,(b && c))).bind λc=>(1,(b && c))).bind λc=>(1,(b && c))).bind λc=>(1,(b && c)))=_;rw[hh];dsimp only[Option.bind_some];congr 1;rw[Bool.and_true,Bool.eq_iff_iff];simp only[and_eq_true,beq_iff_eq,decide_eq_true_eq,Fr.mk.injEq];constructor
 ·rintro ⟨h1,h2,h3,h4⟩;exact(10,by omega,by omega,by omega,h4)
 ·rintro ⟨h1,h2,h3,h4⟩;exact(10,by omega,by omega,by omega,h4)
end
section
variable{bs:List Bx}{rs:List Rw}{s s':Ma}
theorem Sa:∀(p:List Fr)(L:Nat),p≠[]->Ow 3 (cM p) (22,[(22,[(16,0),(16,L),(16,0),(22,[])])])=okB (decide (p=[(10,0,L,0,[])]))
 |[],_,h=>(h rfl).elim
 |[f],L,_=>by
  show(((rb 2 f.d (22,[(16,0),(16,L),(16,0),(22,[])])).bind λb=>(1,true).bind λc=>(1,(b && c)))).bind (λb=>okB b)=_;rw[UI];dsimp only[Option.bind_some];rw[Bool.and_true,show decide (f=(10,0,L,0,[]))=decide ([f]=[(10,0,L,0,[])]) from decide_eq_decide.mpr (3,λh=>by rw[h],λh=>by cases h;rfl)]
 |f::g::r,L,_=>by
  show(((rb 2 f.d (22,[(16,0),(16,L),(16,0),(22,[])])).bind λb=>(1,false).bind λc=>(1,(b && c)))).bind (λb=>okB b)=_;rw[UI];dsimp only[Option.bind_some];rw[Bool.and_false,(40,(λh=>by cases h))]
theorem Gb(pr:iD bs rs)(hp:s.p≠[]):fK (jC bs rs s) [] []=(1,(.bl (decide (s.rung=0) && decide (s.p=[(10,0,(77,0).pl.length,0,[])])),jC bs rs s)):=vK rfl rfl λa=>by
 show n9 0 a (jX (ρM bs rs s a [none]))=_;have h0:0<rs.length:=pr.n.1;have e1:ag fg (15,0,Pw) (3,0) (ρM bs rs s a [(6,(22,((77,0).pl.map plD)))])=okB (decide (s.rung=0)):=(1,Nf,SM s.rung 0);have e2:ag (Ow 3) (15,0,Py) (bj [(bj [(3,0),(23,cm,[(eO 1)]),(3,0),(bj [])])]) (ρM bs rs s a [(6,(22,((77,0).pl.map plD)))])=okB (decide (s.p=[(10,0,(77,0).pl.length,0,[])])):=
  a8 (t:=.sh (22,[(22,[(16,0),(16,((77,0).pl.length:Nat)),(16,0),(22,[])])])) sL (bY (nO (s1:=.sh (16,0)) (s2:=.sh (16,((77,0).pl.length:Nat))) (s3:=.sh (16,0)) (s4:=.sh (22,[])) rfl (gd (lI rfl) (vy _)) rfl rfl rfl) rfl) (Sa s.p _ hp)
 have h:jX (ρM bs rs s a [none])=(1,.ret (.two (.bl (decide (s.rung=0) && decide (s.p=[(10,0,(77,0).pl.length,0,[])]))) a (jC bs rs s))):=
  (20,(1,(1,(1,Ke,fq),Lj (k:=0) h0),mE),uS (D1 e1 e2) rfl)
 rw[h];exact jU
structure T4(bs:List Bx)(rs:List Rw)(s:Ma)(w:Nat)(e:Option Nat)(d:D)(s':Ma):Prop where
 turn:aX (jC bs rs s) [] [(16,w)]=(1,(d,jC bs rs s'))
 ev:xG rs.length e d
 rung:s'.rung=Sq (s.rung ||| w) e
 bit:∀b,e=(1,b)->(s.rung ||| w).testBit b=true
 zero:aX (jC bs rs (11,0,s.p,s.cs)) [] [(16,pwV e)]=(1,(d,jC bs rs (11,0,s'.p,s'.cs)))
theorem T4.prompt{w:Nat}{e:(8,Nat)}{d:D}(h:T4 bs rs s w e d s'):T4 bs rs (11,0,s.p,s.cs) (pwV e) e d (11,0,s'.p,s'.cs):=by
 refine(4,h.zero,h.ev,?_,λb hb=>?_,h.zero)
 ·cases e with
  |none=>exact(or_zero 0).symm
  |some b=>show 0=(0 ||| 2 ^ b) - 2 ^ b;rw[zero_or,sub_self]
 ·subst hb;show(0 ||| 2 ^ b).testBit b=true;rw[zero_or,testBit_two_pow];simp
abbrev Es:=List ((8,Nat)×D)
inductive D9(bs:List Bx)(rs:List Rw):Ma->List Nat->Es->Ma->Prop
 |nil (s:Ma):D9 bs rs s [] [] s
 |cons {s s1 s2:Ma} {w:Nat} {e:(8,Nat)} {d:D} {ws:[29]} {es:Es} (h:T4 bs rs s w e d s1) (t:D9 bs rs s1 ws es s2):D9 bs rs s (w::ws) ((e,d)::es) s2
theorem LU(pr:iD bs rs):∀(ws:[29])(s:Ma),mB bs rs s->(∀w∈ws,w<2 ^ rs.length/\w % 2=0)->∃es s',D9 bs rs s ws es s'/\mB bs rs s'/\es.length=ws.length
 |[],s,ok,_=>(4,[],s,.nil s,ok,rfl)
 |w::ws,s,ok,h=>by
  obtain⟨h1,h2⟩:=h w mem_cons_self;obtain⟨e,d,s1,a1,a2,a3,a4,a5,a6,_⟩:=FC pr ok h1 h2;obtain⟨es,s2,b1,b2,b3⟩:=LU pr ws s1 a2 λv hv=>h v (30,hv);exact(4,(e,d)::es,s2,(22,(4,a1,a3,a4,a5,a6),b1),b2,by rw[length_cons,length_cons,b3])
theorem Oo{s1 s2:Ma}{ws vs:[29]}{es fs:Es}(h:D9 bs rs s ws es s1)(t:D9 bs rs s1 vs fs s2):D9 bs rs s (ws++vs) (es++fs) s2:=by
 induction h with
 |nil s=>exact t
 |cons a _ ih=>exact(22,a,ih t)
theorem EV{s1:Ma}{ws:[29]}{es:Es}(h:D9 bs rs s ws es s1):D9 bs rs (11,0,s.p,s.cs) (es.map λx=>pwV x.1) es (11,0,s1.p,s1.cs):=by
 induction h with
 |nil s=>exact .nil _
 |cons a _ ih=>exact(22,a.prompt,ih)
theorem On{s1:Ma}{ws:[29]}{es:Es}(h:D9 bs rs s ws es s1):es.length=ws.length:=by
 induction h with
 |nil s=>rfl
 |cons a _ ih=>rw[length_cons,length_cons,ih]
inductive Fi(bs:List Bx)(rs:List Rw):Ma->Es->Ma->Prop
 |done {s:Ma} (h:D5 rs s):Fi bs rs s [] s
 |more {s s1 s2:Ma} {e:(8,Nat)} {d:D} {es:Es} (hn:¬D5 rs s) (hp:s.p≠[]) (h:T4 bs rs s 0 e d s1) (t:Fi bs rs s1 es s2):Fi bs rs s ((e,d)::es) s2
theorem Fu(pr:iD bs rs):∀(m:Nat)(s:Ma),mB bs rs s->Ek bs rs s<m->∃es s',Fi bs rs s es s'/\es.length<m/\mB bs rs s'
 |0,s,_,h=>by omega
 |m+1,s,ok,h=>by
  by_cases c:D5 rs s
  ·exact(4,[],s,.done c,by simp,ok)
  ·obtain⟨e,d,s1,a1,a2,a3,a4,a5,a6,a7⟩:=FC pr ok (w:=0) (two_pow_pos _) rfl;have:=a7 rfl c;obtain⟨es,s2,b1,b2,b3⟩:=Fu pr m s1 a2 [11]
   exact(4,(e,d)::es,s2,.more c (by obtain⟨b,r,z,_⟩:=ok.wf.hd;rw[z];exact cons_ne_nil _ _) (4,a1,a3,a4,a5,a6) b1,by rw[length_cons];omega,b3)
theorem JA{s2:Ma}{es:Es}(h:Fi bs rs s es s2):D9 bs rs s (replicate es.length 0) es s2/\D5 rs s2:=by
 induction h with
 |done h=>exact(3,.nil _,h)
 |more _ _ h _ ih=>exact(3,(22,h,ih.1),ih.2)
abbrev ρR(bs:[36])(rs:List Rw)(l:D)(s:Ma)(e4:(8,S)):aC:=[(6,cD bs rs),(6,l),none,(12,jC bs rs s),e4]
theorem Mb{l:D}{e4:(8,S)}{ws:[29]}{es:Es}{s s2:Ma}(h:D9 bs rs s ws es s2):sP [2] (bc 2) (i9 "Machine" 3 (15,"turn") aX [(a9 2)]) (ws.map intD) (ρR bs rs l s e4)=(1,([41],ρR bs rs l s2 e4)):=by
 induction h with
 |nil s=>rfl
 |@cons s s1 s2 w e d ws es a t ih=>
  rw[map_cons,map_cons];unfold sP;have e1:bc 2 (intD w) (ρR bs rs l s e4)=(1,[(6,cD bs rs),(6,l),(20,w),(12,jC bs rs s),e4]):=rfl;rw[e1];dsimp only;have e2:i9 "Machine" 3 (15,"turn") aX [(a9 2)] [(6,cD bs rs),(6,l),(20,w),(12,jC bs rs s),e4]=(1,(d,[(6,cD bs rs),(6,l),(20,w),(12,jC bs rs s1),e4])):=
   pG (u:=jC bs rs s) rfl rfl [17] rfl a.turn
  rw[e2];dsimp only[Option.bind_some];have e3:bE [2] [(6,cD bs rs),(6,l),(20,w),(12,jC bs rs s1),e4]=ρR bs rs l s1 e4:=rfl;rw[e3,ih];rfl
theorem GO(pr:iD bs rs){l:D}{es:Es}{s s2:Ma}(h:Fi bs rs s es s2):∀(n:Nat)(acc:[20]),es.length<n->acc.length+es.length<100000->
  jI (i9 "Machine" 3 (15,"idle") fK []) GF n (ρR bs rs l s (52,acc))=(46,ρR bs rs l s2 (52,(acc++[41]))):=by
 induction h with
 |@done s h=>
  intro n acc hn hl;obtain⟨n,rfl⟩:∃k,n=k+1:=(3,n - 1,by simp only[length_nil] at hn;omega)
  rw[map_nil,append_nil];have hi:=Gb pr (s:=s) (by rw[h.2];exact cons_ne_nil _ _)
  rw[(51,h.1),(51,h.2)] at hi;exact Jq (pG (u:=jC bs rs s) rfl rfl [17] rfl hi)
 |@more s s1 s2 e d es hn hp a t ih=>
  intro n acc hlt hl;rw[length_cons] at hlt hl;obtain⟨n,rfl⟩:∃k,n=k+1:=(69,n - 1)
  have hi:=Gb pr hp;have hf:(decide (s.rung=0) && decide (s.p=[(10,0,(77,0).pl.length,0,[])]))=false:=by
   rw[Bool.and_eq_false_iff];by_cases c:s.rung=0
   ·right;exact decide_eq_false λz=>hn (3,c,z)
   ·left;exact(40,c)
  rw[hf] at hi;refine Jr (pG (u:=jC bs rs s) rfl rfl [17] rfl hi) (Rh (d:=d) (ds:=acc) (ρ':=ρR bs rs l s1 (some (.own (.lst acc)))) (pG (u:=jC bs rs s) rfl rfl [17] rfl a.turn) rfl (lt_trans (by omega:acc.length<100000) [13])) ?_
  have:=ih n (acc++[d]) [11] (by rw[length_append,length_singleton];omega)
  rw[append_assoc] at this;exact this
theorem JT(pr:iD bs rs){ws:[29]}{es fs:Es}{s1 s2:Ma}(hw:∀w∈ws,w<2 ^ rs.length/\w % 2=0)(hl:ws.length<=10000)(h:D9 bs rs (11,0,[(10,0,0,0,[])],dU bs) ws es s1)(t:Fi bs rs s1 fs s2)(hf:fs.length<5000):
  CG [cD bs rs,(13,ws.map intD)]=(76,[(13,((es++fs).map (·.2))),(22,s2.cs.map D.int)]):=by
 obtain⟨n1,n7⟩:=pr.n;have hlen:=On h;have lenr:cm (22,[66])=okI (rs.length:Nat):=by rw[nM,length_map]
 have e1:kO (.int (rs.length:Nat)) (16,1)=okI ((rs.length - 1:Nat):Int):=N3 (a:=rs.length) (b:=1) n1;obtain⟨ρ',hfor,e2,rfl⟩:=nC (bd:=bc 2) (body:=GG) intD (λ_ ρ=>∃e2:(8,S),ρ=[(6,cD bs rs),(6,(13,ws.map intD)),e2,none,none]) ws [] [(6,cD bs rs),(6,(13,ws.map intD)),none,none,none] (3,none,rfl) (by
  rintro pre w post ρ hm ⟨e2,rfl⟩
  obtain⟨h1,h2⟩:=hw w hm;have z:((2 ^ rs.length:Nat):Int)=2 ^ rs.length:=by rw[natCast_pow];rfl
  have hx:(w:Int)<2 ^ (rs.length - 1+1):=by rw[show rs.length - 1+1=rs.length by omega,←z];omega
  have hword:gR [(16,((rs.length - 1:Nat):Int)),(16,w)]=okB true:=by rw[vC [11],(51,(11,by omega,hx,by omega))]
  exact⟨_,_,rfl,.inl (38,sC (br (1,gd (18,fq) lenr,e1) rfl hword)),_,rfl⟩)
 have hcomp:sD [2] (iW [61]) (bc 2) (i9 "Machine" 3 (15,"turn") aX [(a9 2)]) (ρR bs rs (13,ws.map intD) (11,0,[(10,0,0,0,[])],dU bs) none)=(1,((13,[41]),ρR bs rs (13,ws.map intD) s1 none)):=by
  have hit:iW [61] (ρR bs rs (13,ws.map intD) (11,0,[(10,0,0,0,[])],dU bs) none)=(34,ws.map intD):=rfl;unfold sD;rw[hit];dsimp only;rw[(25,(3,by rw[length_map];exact(55,hl),rfl)),Mb h]
  rfl
 have hwh:=GO pr (l:=(13,ws.map intD)) t 5000 [41] hf (by rw[length_map];omega)
 refine aH rfl (6,kx rfl hfor,ax (L7 rfl (Oc pr)),?_);show aF (rH 4 (sD [2] (iW [61]) (bc 2) (i9 "Machine" 3 (15,"turn") aX [(a9 2)]))) Fv (ρR bs rs (13,ws.map intD) (11,0,[(10,0,0,0,[])],dU bs) none)=_;refine aa (Nc hcomp) (aa (ρ':=ρR bs rs (.lst (ws.map intD)) s2 (some (.own (.lst (es.map (·.2)++fs.map (·.2)))))) hwh ?_);rw[map_append];exact cE (PF (Pj rfl (pG (u:=jC bs rs s2) rfl rfl [17] rfl IL)))
end
theorem ltr{k:Nat}(h:k<6):∃c,aT (.str (15,"abcdef")) (16,k)=okD (.str ⟨#[c]⟩):=by
 have hk:k=0\/k=1\/k=2\/k=3\/k=4\/k=5:=by omega
 rcases hk with rfl|rfl|rfl|rfl|rfl|rfl <;> exact(3,_,rfl)
theorem JU{k:Nat}(h1:1<=k)(h:k<7){ρ:aC}(hi:ρ[5]?=(1,(20,k))):∃nm,ag aO (45,(15,"c")) (31,aT,(45,(15,"abcdef")),(8,kO,5,1)) ρ=okD (.str nm):=by
 obtain⟨c,hc⟩:=ltr (k:=k - 1) [11]
 refine(3,(15,"c")++⟨#[c]⟩,(4,(4,(1,cg hi,N3 (b:=1) h1),hc),?_));show(if(15,"c").length+(Str.mk #[c]).length<=lim then okD (.str ((15,"c") ++ ⟨#[c]⟩)) else none)=_;exact(25,(by show(15,"c").length+1<=lim;decide))
theorem Qr(n:Nat):aO (16,1) (.int (n:Int))=okI ((1+n:Nat):Int):=by rw[add_int];congr 4
section
variable{ns:List Int}{bs:List Bx}{bells:Nat}
theorem Hv(hb:cX bs)(h1:1<=bs.length)(hbl:bells<=6){k size:Nat}(hk:k<=6)(hs:size<=3)(s4:S)(e6 e9 e10 e11:(8,S)):
  ∃(pl:List Pl)(e9' e10' e11':(8,S)),pl.length=size/\(∀q∈pl,q.1.Ok bs)/\k0 (bc 9) my (rng 0 size) [(6,[54]),(6,bt bs),(20,bells),(20,3),(1,s4),(20,k),e6,(20,size),(52,[]),e9,e10,e11]=(46,[(6,[54]),(6,bt bs),(20,bells),(20,3),(1,s4),(20,k),e6,(20,size),(52,pl.map plD),e9',e10',e11']):=by
 obtain⟨ρ',e,pl,e9',e10',e11',hl,hq,rfl⟩:=mi (bd:=bc 9) (body:=my) (λp ρ=>∃(pl:List Pl)(e9 e10 e11:(8,S)),pl.length=p/\(∀q∈pl,q.1.Ok bs)/\ρ=[(6,[54]),(6,bt bs),(20,bells),(20,3),(1,s4),(20,k),e6,(20,size),(52,pl.map plD),e9,e10,e11]) size
  (ρ:=[some (.sh (.lst (ns.map D.int))),some (.sh (bt bs)),some (.sh (.int bells)),some (.sh (.int 3)),some s4,some (.sh (.int k)),e6,some (.sh (.int size)),some (.own (.lst [])),e9,e10,e11]) ⟨[],e9,e10,e11,rfl,λ_ h=>(nomatch h),rfl⟩ (by
  rintro p ρ hp ⟨pl,e9,e10,e11,hl,hq,rfl⟩
  obtain⟨a,ha⟩:∃a:Int,a=110+100 * (k:Int)+8 * (p:Int):=(3,_,rfl);obtain⟨dd,ok,ed⟩:=Ou (ns:=ns) hb h1 (k:=a) [11] [11]
  obtain⟨w3,dw,_⟩:=(5,ns,a+7,3,[11],[13])
  have hs:pL (16,1) (.int (bells:Int))=okI ((2 ^ bells:Nat):Int):=by
   rw[zi [11] [11] [13],toNat_natCast,Int.one_mul,natCast_pow];rfl
  have hp2:0<2 ^ bells:=Nat.pow_pos [13]
  obtain⟨w6,d6,_⟩:=(5,ns,a+6,((2 ^ bells:Nat):Int),[11],[11])
  have eat:∀ρ:aC,ρ[5]?=(1,(20,k))->ρ[9]?=(1,(20,p))->ag aO (31,aO,(3,110),(31,ip,(3,100),a9 5)) (31,ip,(3,8),a9 9) ρ=okI a:=λρ h5 h9=>by
   rw[ha];exact a8 (4,(4,cg h5,xp [13] [13]),rfl) (4,cg h9,xp [13] [13]) rfl
  have app:∀(wd:Nat)(ρ:aC),ρ=[(6,[54]),(6,bt bs),(20,bells),(20,3),(1,s4),(20,k),e6,(20,size),(52,pl.map plD),(20,p),(20,a),(6,(.int (wd:Int)))]->
    nU ρ=(46,[(6,[54]),(6,bt bs),(20,bells),(20,3),(1,s4),(20,k),e6,(20,size),(52,((pl++[(dd,wd)]).map plD)),(20,p),(20,a),(6,(.int (wd:Int)))]):=by
   rintro wd ρ rfl
   rw[map_append];exact iY (s:=.sh (plD (dd,wd))) rfl (kS (s1:=.sh dd.d) (s2:=.sh (.int (wd:Int))) (18,rfl,rfl,ed) rfl) (by rw[length_map];exact lt_of_lt_of_le (by omega:pl.length<5) [13])
  have okq:∀wd:Nat,∀q∈pl++[((dd,wd):Pl)],q.1.Ok bs:=λwd q hq'=>by
   rcases mem_append.mp hq' with h|h
   ·exact hq q h
   ·rw[(39,h)];exact ok
  by_cases c:w3=0
  ·have e2:ip (16,2) (.int (w6:Int))=okI ((2 * w6:Nat):Int):=(xp [13] [13]).trans (by congr 4)
   exact⟨_,_,rfl,(6,ax (eat _ rfl rfl),ax rfl,aa (dH (1,(18,(18,rfl),rfl,dw),nE [11]) (ax (4,(18,(18,rfl),(18,hs),d6),e2))) (app (2 * w6) _ rfl)),pl++[(dd,2 * w6)],_,_,_,by rw[length_append,hl];rfl,okq _,rfl⟩
  ·exact⟨_,_,rfl,(6,ax (eat _ rfl rfl),ax rfl,aa (38,(1,(18,(18,rfl),rfl,dw),nG [11])) (app 0 _ rfl)),pl++[(dd,0)],_,_,_,by rw[length_append,hl];rfl,okq _,rfl⟩)
 exact⟨pl,e9',e10',e11',hl,hq,e⟩
theorem Ng(hb:cX bs)(h1:1<=bs.length)(hbl:bells<=6):∃rs:List Rw,mj [[54],bt bs,(16,bells),(16,3)]=(76,[66])/\rs.length=bells+1/\(∀j r,rs[j]?=(1,r)->(j=0->r.rk=0)/\(1<=j->1<=r.rk/\r.rk<=9))/\∀r∈rs,1<=r.pl.length/\r.pl.length<=3/\∀q∈r.pl,q.1.Ok bs:=by
 obtain⟨ρ',e,rs,e5,e6,e7,e8,e9,e10,e11,hl,hk,hq,rfl⟩:=mi (bd:=bc 5) (body:=r6) (λk ρ=>∃(rs:List Rw)(e5 e6 e7 e8 e9 e10 e11:(8,S)),rs.length=k/\(∀j r,rs[j]?=(1,r)->(j=0->r.rk=0)/\(1<=j->1<=r.rk/\r.rk<=9))/\(∀r∈rs,1<=r.pl.length/\r.pl.length<=3/\∀q∈r.pl,q.1.Ok bs)/\ρ=[(6,[54]),(6,bt bs),(20,bells),(20,3),(52,[66]),e5,e6,e7,e8,e9,e10,e11]) (bells+1)
  (ρ:=[some (.sh (.lst (ns.map D.int))),some (.sh (bt bs)),some (.sh (.int bells)),some (.sh (.int 3)),some (.own (.lst [])),none,none,none,none,none,none,none]) ⟨[],none,none,none,none,none,none,none,rfl,λ_ _ h=>(nomatch h),λ_ h=>(nomatch h),rfl⟩ (by
  rintro k ρ hk ⟨rs,e5,e6,e7,e8,e9,e10,e11,hl,hkk,hq,rfl⟩
  obtain⟨m,dm,hm⟩:=(5,ns,100+(k:Int),3,[11],[13])
  obtain⟨rk,dr,hr⟩:=(5,ns,90+(k:Int),9,[11],[13])
  have rest:∀(nm:Str)(rk:Nat)(ρ:aC),ρ=[(6,[54]),(6,bt bs),(20,bells),(20,3),(52,[66]),(20,k),(6,(22,[.str nm,(16,rk)])),e7,e8,e9,e10,e11]->
    ∃(r:Rw)(e7' e8' e9' e10' e11':(8,S)),r.rk=rk/\(1<=r.pl.length/\r.pl.length<=3/\∀q∈r.pl,q.1.Ok bs)/\nT ρ=(46,[(6,[54]),(6,bt bs),(20,bells),(20,3),(52,((rs++[r]).map Rw.d)),(20,k),(6,(22,[.str nm,(16,rk)])),e7',e8',e9',e10',e11']):=by
   rintro nm rk ρ rfl
   obtain⟨pl,e9',e10',e11',hpl,hok,ef⟩:=Hv (ns:=ns) (bells:=bells) hb h1 hbl (k:=k) (size:=1+m) [11] [11] (.own (13,[66])) (6,(22,[.str nm,(16,rk)])) e9 e10 e11
   refine⟨(11,nm,rk,pl),(20,((1+m:Nat):Int)),(6,(13,pl.map plD)),e9',e10',e11',rfl,(11,by show 1<=pl.length;omega,by show pl.length<=3;omega,hok),?_⟩
   rw[map_append];exact(6,ax (4,(18,(18,rfl),rfl,dm),Qr m),ax rfl,aa (kx (eT rfl (cB [11])) ef) (cE (iY (s:=.sh (Rw.d (11,nm,rk,pl))) rfl (4,bY (bY rfl rfl) rfl,rfl) (by rw[length_map];exact lt_of_lt_of_le (by omega:rs.length<8) [13]))))
  have okr:∀r:Rw,(1<=r.pl.length/\r.pl.length<=3/\∀q∈r.pl,q.1.Ok bs)->∀r'∈rs++[r],1<=r'.pl.length/\r'.pl.length<=3/\∀q∈r'.pl,q.1.Ok bs:=λr h r' hr'=>by
   rcases mem_append.mp hr' with z|z
   ·exact hq r' z
   ·rw[(39,z)];exact h
  have okk:∀r:Rw,((k=0->r.rk=0)/\(1<=k->1<=r.rk/\r.rk<=9))->∀j r',(rs++[r])[j]?=(1,r')->(j=0->r'.rk=0)/\(1<=j->1<=r'.rk/\r'.rk<=9):=λr h j r' e=>by
   by_cases hj:j<rs.length
   ·rw[(59,hj)] at e;exact hkk j r' e
   ·by_cases hj2:j=rs.length
    ·rw[hj2,(64,[25]),sub_self] at e;cases e;rw[hj2,hl];exact h
    ·rw[(70,(by rw[length_append,length_singleton];omega))] at e;cases e
  by_cases c:k=0
  ·obtain⟨r,e7',e8',e9',e10',e11',hrk,hrr,er⟩:=rest (15,"main") 0 _ rfl;exact⟨_,_,rfl,(6,ax (kS rfl rfl),(58,xA [11]),er),rs++[r],_,_,_,_,_,_,_,by rw[length_append,hl];rfl,okk r (3,λ_=>hrk,λz=>by omega),okr r hrr,rfl⟩
  ·obtain⟨nm,en⟩:=JU (k:=k) [11] [11] (ρ:=[(6,[54]),(6,bt bs),(20,bells),(20,3),(52,[66]),(20,k),(6,(22,[.str (15,"main"),(16,0)])),e7,e8,e9,e10,e11]) rfl
   obtain⟨r,e7',e8',e9',e10',e11',hrk,hrr,er⟩:=rest nm (1+rk) _ rfl;exact⟨_,_,rfl,(6,ax (kS rfl rfl),dH (18,xy [11]) (ax (kS en (4,(18,(18,rfl),rfl,dr),Qr rk))),er),rs++[r],_,_,_,_,_,_,_,by rw[length_append,hl];rfl,okk r (3,λz=>(c z).elim,λ_=>by omega),okr r hrr,rfl⟩)
 exact(4,rs,aH rfl (6,ax rfl,kx (eT (18,FB bells) (cB [11])) e,cE (aU (bY rfl rfl))),hl,hk,hq)
end
def cnt(b:Nat)(es:Es):Nat:=(es.filter λx=>decide (x.1=(1,b))).length
theorem Me(b:Nat)(e:(8,Nat))(d:D)(es:Es):cnt b ((e,d)::es)=(if e=(1,b) then 1 else 0)+cnt b es:=by
 unfold cnt;rw[filter_cons];by_cases h:e=(1,b)
 ·rw[(25,h),(25,(51,h)),length_cons];omega
 ·rw[(29,h),(29,by simpa using h)];omega
def tD(n:Nat)(v:Nat->Nat):[20]:=(19,n).map λi=>D.int (v i:Nat)
theorem za(n:Nat)(v:Nat->Nat):(tD n v).length=n:=by unfold tD;rw[length_map,length_range]
theorem zb{n:Nat}{v:Nat->Nat}{b:Nat}(h:b<n):(tD n v)[b]?=(1,(.int (v b:Nat))):=by unfold tD;rw[getElem?_map,getElem?_range h];rfl
theorem Po{n:Nat}{v:Nat->Nat}{b:Nat}(h:b<n)(x:Nat):(tD n v).set b (16,x)=tD n (λi=>if i=b then x else v i):=by
 refine ext_getElem? λk=>?_;by_cases hk:k<n
 ·rw[zb hk];by_cases e:b=k
  ·subst e;rw[(35,(by rw[za];exact h)),(25,rfl)]
  ·rw[(32,e),zb hk,(29,Ne.symm e)]
 ·rw[(70,(by rw[length_set,za];omega)),(70,(by rw[za];omega))]
section
variable{bs:List Bx}{rs:List Rw}
abbrev ρT(W ev:D)(n:Nat)(v:Nat->Nat)(f:Nat)(e5 e6 e7 e8:(8,S)):aC:=[(6,W),(6,ev),(20,((n - 1:Nat):Int)),(52,tD n v),(20,f),e5,e6,e7,e8]
theorem N8{W ev:D}{n f w:Nat}{v:Nat->Nat}(hn:1<=n)(e5 e6 e8:(8,S)):∃v' e8',(∀b,1<=b->b<n->v' b=v b+(if w.testBit b=true/\f.testBit b=false then 1 else 0))/\v' 0=v 0/\
  k0 (bc 8) mx (rng 1 n) (ρT W ev n v f e5 e6 (20,w) e8)=(46,ρT W ev n v' f e5 e6 (20,w) e8'):=by
 have hr:rng 1 n=(19,(n - 1)).map λk:Nat=>D.int (1+k:Nat):=Pz 1 n;rw[hr];obtain⟨ρ',e,v',e8',hv,rfl⟩:=vJ (bd:=bc 8) (body:=mx) (λj ρ=>∃(v':Nat->Nat)(e8:(8,S)),(∀b,v' b=v b+(if 1<=b/\b<=j/\w.testBit b=true/\f.testBit b=false then 1 else 0))/\ρ=ρT W ev n v' f e5 e6 (20,w) e8)
   ((19,(n - 1)).map λk:Nat=>D.int (1+k:Nat)) 0 (ρT W ev n v f e5 e6 (20,w) e8) (10,v,e8,λb=>by rw[(29,[11])];omega,rfl) (by
  rintro k ρ d hd ⟨v',e8,h1,rfl⟩
  rw[getElem?_map] at hd;have hk:k<n - 1:=by
   by_cases z:k<n - 1
   ·exact z
   ·rw[(70,(by rw[length_range];omega))] at hd;cases hd
  rw[getElem?_range hk] at hd;cases hd;rw[zero_add] at h1 ⊢;have hc:fZ (9,fg,(9,lE,(1,tE,7,a9 8),1),1) (9,fg,(9,lE,(1,tE,4,a9 8),1),0) (ρT W ev n v' f e5 e6 (20,w) (20,(1+k:Nat)))=okB (w.testBit (1+k) && !f.testBit (1+k)):=D1 (OD rfl rfl) (ui rfl rfl);have hix:aT (13,tD n v') (16,(1+k:Nat))=okI (v' (1+k):Nat):=j5 (zb [11])
  by_cases c:w.testBit (1+k)=true/\f.testBit (1+k)=false
  ·rw[c.1,c.2] at hc;refine⟨_,ρT W ev n (λi=>if i=1+k then v' (1+k)+1 else v' i) f e5 e6 (20,w) (20,(1+k:Nat)),rfl,dH hc ?_,_,_,λb=>?_,rfl⟩
   ·have:=He (ρ:=ρT W ev n v' f e5 e6 (20,w) (20,(1+k:Nat))) (i:=3) (j:=0) (k:=1+k) (e1:=(9,aO,aL (f2 aT) [(eO 3),(a9 8)],1)) (e2:=a9 8) (s:=.sh (16,((v' (1+k)+1:Nat):Int))) (ds:=tD n v')
     (a8 (s:=.sh (16,(v' (1+k):Nat))) (GD (br (F:=f2 aT) (s1:=.sh (13,tD n v')) (s2:=.sh (16,(1+k:Nat))) (lI (s:=.own (13,tD n v')) rfl) rfl hix) rfl) rfl (FB _)) rfl rfl (by rw[za];omega)
    rw[show(S.sh (D.int ((v' (1+k)+1:Nat):Int))).val=D.int ((v' (1+k)+1:Nat):Int) from rfl,Po [11]] at this
    exact this
   ·by_cases hb:b=1+k
    ·subst hb;rw[(25,rfl),(25,(10,by omega,by omega,c.1,c.2)),h1,(29,[11])]
    ·rw[(29,hb),h1];congr 1;by_cases c2:1<=b/\b<=k/\w.testBit b=true/\f.testBit b=false
     ·rw[(25,c2),(25,(11,c2.1,by omega,c2.2.2))]
     ·rw[(29,c2),(29,(λz=>c2 (11,z.1,by omega,z.2.2)))]
  ·have hf:(w.testBit (1+k) && !f.testBit (1+k))=false:=by
    cases h3:w.testBit (1+k) with
    |false=>rfl
    |true=>cases h4:f.testBit (1+k) with
     |true=>rfl
     |false=>exact(c (3,h3,h4)).elim
   rw[hf] at hc;refine⟨_,_,rfl,(38,hc),v',_,λb=>?_,rfl⟩;rw[h1];congr 1;by_cases c2:1<=b/\b<=k/\w.testBit b=true/\f.testBit b=false
   ·rw[(25,c2),(25,(11,c2.1,by omega,c2.2.2))]
   ·rw[(29,c2),(29,(λz=>?_))];by_cases hb:b=1+k
    ·subst hb;exact c z.2.2
    ·exact c2 (11,z.1,by omega,z.2.2))
 refine(4,v',e8',λb hb1 hb2=>?_,by rw[hv,(29,[11])];rfl,e)
 rw[hv,length_map,length_range];congr 1;by_cases c2:w.testBit b=true/\f.testBit b=false
 ·rw[(25,c2),(25,(11,hb1,by omega,c2))]
 ·rw[(29,c2),(29,(λz=>c2 z.2.2))]
theorem Ph{W:[29]}{k:Nat}(hl:W.length<=10000){ρ:aC}(h0:ρ[0]?=(1,(6,(13,[43]))))(h5:ρ[5]?=(1,(20,k))):ag aT (31,aO,eN [47] (1,a9 5) none,mJ [(3,0)]) (3,0) ρ=okI (W.getD k 0:Nat):=by
 have hs:eN [47] (1,a9 5) none ρ=okL ((W.drop k).map intD):=by
  unfold eN;rw[cg h0];dsimp only[bg,S.val];show(bg (a9 5 ρ) λd=>match d with|.int i=>mq (13,[43]) (1,i) none|_=>none)=_
  rw[cg h5];show okL (xD [43] (some (k:Int)) none)=_;unfold xD;have e:jN [43].length 0 (some (k:Int))=min k [43].length:=by
   show(if(k:Int)<0 then((k:Int)+([43].length:Int)).toNat else min (k:Int).toNat [43].length)=_;rw[(29,[11]),toNat_natCast]
  rw[e];show okL (([43].drop (min k [43].length)).take ([43].length - min k [43].length))=_;have hd:[43].drop (min k [43].length)=[43].drop k:=by
   by_cases c:k<=[43].length
   ·rw[Nat.min_eq_left c]
   ·rw[Nat.min_eq_right [11],List.drop_of_length_le [25],List.drop_of_length_le [11]]
  rw[List.take_of_length_le (by rw[length_drop];omega),hd,List.map_drop]
 refine(1,(1,hs,vW (by rw[length_map,length_drop];simp only[length_cons,length_nil];omega)),j5 (n:=0) ?_)
 rw[getD_eq_getElem?_getD];cases h:W.drop k with
 |nil=>
  have:W[k]?=none:=by
   have:=List.drop_eq_nil_iff.mp h;exact(70,this)
  rw[this];rfl
 |cons a r=>
  have:W[k]?=(1,a):=by
   rw[show W[k]?=(W.drop k)[0]? by rw[List.getElem?_drop];rfl,h];rfl
  rw[this];rfl
end
def SQ:Nat->([20])->[20]
 |_,[]=>[]
 |k,d::ds=>(22,[(16,k),d])::SQ (k+1) ds
theorem LZ:∀(xs:[20])(k:Nat),(List.range' k xs.length).zipWith (λ(i:Nat) d=>D.tup [(16,i),d]) xs=SQ k xs
 |[],_=>rfl
 |x::xs,k=>by
  rw[length_cons,List.range'_succ,List.zipWith_cons_cons,LZ xs (k+1)];rfl
theorem Os(xs:[20]):P5 (13,xs)=(34,SQ 0 xs):=by
 show(1,RI.ok ((19,xs.length).zipWith (λ(i:Nat) d=>D.tup [(16,i),d]) xs))=_;rw[List.range_eq_range',LZ]
theorem CA{bd:MB}{body:MC}{d:D}{ds:[20]}{ρ ρ1 ρ2:aC}{o:(8,pR)}(h1:bd d ρ=(1,ρ1))(h2:body ρ1=(46,ρ2))(h3:k0 bd body ds ρ2=o):k0 bd body (d::ds) ρ=o:=by
 unfold k0;rw[h1];dsimp only;rw[h2];exact h3
section
variable{bs:List Bx}{rs:List Rw}
theorem uf{b:Nat}{ρ:aC}{i:Nat}(h:ρ[i]?=(1,(6,Rz b))):ag fg (26,i,0) (45,(15,"enter")) ρ=okB true:=kt h
theorem ug{x:Str}{r:[20]}{ρ:aC}{i:Nat}(h:ρ[i]?=(1,(6,(22,(.str x::r)))))(hx:x≠(15,"enter")):ag fg (26,i,0) (45,(15,"enter")) ρ=[64]:=kf h hx
theorem qN{b:Nat}{ρ:aC}{i:Nat}(h:ρ[i]?=(1,(6,Rz b))):ag aT (a9 i) (3,1) ρ=okI b:=Uk h
theorem Oq{s s2:Ma}{ws:[29]}{es:Es}(h:D9 bs rs s ws es s2):∀x∈es,xG rs.length x.1 x.2:=by
 induction h with
 |nil s=>exact λ_ h=>nomatch h
 |cons a _ ih=>
  intro x hx;rcases mem_cons.mp hx with rfl|hx
  ·exact a.ev
  ·exact ih x hx
theorem Hd(pr:iD bs rs){s s2:Ma}{ws:[29]}{es:Es}(h:D9 bs rs s ws es s2):s.rung<2 ^ rs.length->s.rung.testBit 0=false->(∀w∈ws,w<2 ^ rs.length/\w % 2=0)->
  ∀(k:Nat)(W:[29])(ev:D)(v:Nat->Nat)(e5 e6 e7 e8:(8,S)),W.length<=10000->(∀j,j<ws.length->W.getD (k+j) 0=ws.getD j 0)->
  ∃v' e5' e6' e7' e8',(∀b,1<=b->b<rs.length->v' b+(s.rung.testBit b).toNat=v b+cnt b es+(s2.rung.testBit b).toNat)/\v' 0=v 0/\
   k0 (xF [5,6]) jx (SQ k [41]) (ρT (13,[43]) ev rs.length v s.rung e5 e6 e7 e8)=(46,ρT (13,[43]) ev rs.length v' s2.rung e5' e6' e7' e8'):=by
 obtain⟨n1,n7⟩:=pr.n
 induction h with
 |nil s=>intro _ _ _ k W ev v e5 e6 e7 e8 _ _;exact⟨v,e5,e6,e7,e8,λb _ _=>by show _=v b+0+_;omega,rfl,rfl⟩
 |@cons s s1 s2 w e d ws es a t ih=>
  intro hf hf0 hws k W ev v e5 e6 e7 e8 hl hW;obtain⟨hw1,hw2⟩:=hws w mem_cons_self;have hwk:W.getD k 0=w:=by have:=hW 0 [19];simpa using this
  have hor:s.rung ||| w<2 ^ rs.length:=Nat.or_lt_two_pow hf hw1;have h128:=n128 pr hor;obtain⟨v1,e8',hv1,hv10,hin⟩:=N8 (W:=(13,[43])) (ev:=ev) (n:=rs.length) (f:=s.rung) (w:=w) (v:=v) n1 (20,k) (6,d) e8;have hrng:oA (3,1) (8,aO,2,1) (ρT (13,[43]) ev rs.length v s.rung (20,k) (6,d) (20,w) e8)=(34,rng 1 rs.length):=by
   refine Bn rfl (18,?_) rfl (cB [11])
   show aO (16,((rs.length - 1:Nat):Int)) (16,1)=okI (rs.length:Int);rw[add_int];congr 4;omega
  have body:∃e7',jx (ρT (13,[43]) ev rs.length v s.rung (20,k) (6,d) e7 e8)=(46,ρT (13,[43]) ev rs.length v1 s1.rung (20,k) (6,d) e7' e8')/\(∀b,1<=b->b<rs.length->v1 b+(s.rung.testBit b).toNat=v b+(if e=(1,b) then 1 else 0)+(s1.rung.testBit b).toNat)/\s1.rung<2 ^ rs.length/\s1.rung.testBit 0=false:=by
   have pre:∀{r:(8,pR)},nR (ρT (13,[43]) ev rs.length v1 (s.rung ||| w) (20,k) (6,d) (20,w) e8')=r->jx (ρT (13,[43]) ev rs.length v s.rung (20,k) (6,d) e7 e8)=r:=λ{r} hr=>by
    have h7:=Ph (W:=W) (k:=k) hl (ρ:=ρT (13,[43]) ev rs.length v s.rung (20,k) (6,d) e7 e8) rfl rfl;rw[hwk] at h7;exact(6,ax h7,kx hrng hin,(20,(18,Av s.rung w),hr))
   have hev:=a.ev;have hru:=a.rung;cases e with
   |none=>
    obtain⟨⟨x,r,rfl,hx⟩,_⟩:=hev;have hru:s1.rung=s.rung ||| w:=hru;rw[hru];refine(4,_,pre (38,ug rfl hx),λb h1 h2=>?_,hor,zG hf0 hw2);rw[hv1 b h1 h2,testBit_or];cases s.rung.testBit b <;> cases w.testBit b <;> simp
   |some b0=>
    obtain⟨rfl,hb1,hb2⟩:=hev;have hru:s1.rung=(s.rung ||| w) - 2 ^ b0:=hru;have hbit:=a.bit b0 rfl;obtain⟨_,o2⟩:=FY _ h128 b0 [11] hbit
    rw[hru];refine(4,_,pre (dH (uf rfl) (ax (4,(4,qN rfl,JP [11]),Fp hbit))),λb h1 h2=>?_,lt_of_le_of_lt (Nat.sub_le _ _) hor,by rw[o2 0 [13],zG hf0 hw2];rfl)
    rw[hv1 b h1 h2,o2 b [11]]
    by_cases c:b=b0
    ·subst c;rw[(25,rfl),hbit];rw[testBit_or] at hbit;revert hbit;cases s.rung.testBit b <;> cases w.testBit b <;> simp
    ·rw[(29,(λz=>c (50,z).symm)),testBit_or];cases s.rung.testBit b <;> cases w.testBit b <;> simp[c]
  obtain⟨e7',hb,hv,hr1,hr0⟩:=body;obtain⟨v',f5,f6,f7,f8,hv',hv0',hrest⟩:=ih hr1 hr0 (λw hw=>hws w (30,hw)) (k+1) W ev v1 (20,k) (6,d) e7' e8' hl (λj hj=>by
   have:=hW (j+1) (by rw[length_cons];omega)
   rw[show k+1+j=k+(j+1) by omega,this];rfl)
  refine⟨v',f5,f6,f7,f8,λb h1 h2=>?_,hv0'.trans hv10,CA rfl hb hrest⟩;have i1:=hv b h1 h2;have i2:=hv' b h1 h2;rw[Me];omega
theorem Ck(pr:iD bs rs){s s2:Ma}{W ws:[29]}{es:Es}(h:D9 bs rs s ws es s2)(h0:s.rung=0)(h2:s2.rung=0)(hws:∀w∈ws,w<2 ^ rs.length/\w % 2=0)(hl:W.length<=10000)(hW:∀j,j<ws.length->W.getD j 0=ws.getD j 0):
  ∃v,(∀b,1<=b->b<rs.length->v b=cnt b es)/\v 0=0/\k6 [(13,[43]),(13,[41]),(16,((rs.length - 1:Nat):Int))]=okD (13,tD rs.length v):=by
 obtain⟨n1,n7⟩:=pr.n;have hadd:aO (16,((rs.length - 1:Nat):Int)) (16,1)=okI (rs.length:Int):=by rw[add_int];congr 4;omega
 have hcomp:cw [5] (cz (8,aO,2,1)) (bc 5) eI (3,0) [(6,(13,[43])),(6,(13,[41])),(20,((rs.length - 1:Nat):Int)),none,none,none,none,none,none]=okL (tD rs.length λ_=>0):=by
  have:=fL (ρ:=[(6,(13,[43])),(6,(13,[41])),(20,((rs.length - 1:Nat):Int)),none,none,none,none,none,none]) (js:=[5]) (bd:=bc 5) (elt:=(3,0)) (it:=cz (8,aO,2,1)) (19,rs.length) (λk:Nat=>D.int k) (λ_=>D.int 0)
   (by rw[eT (18,hadd) (cB [11]),zt]) (by rw[length_range];exact(55,n7)) λk _=>(4,_,rfl,_,rfl,rfl)
  exact this
 have hs:s.rung<2 ^ rs.length:=by rw[h0];exact two_pow_pos _
 obtain⟨v,e5,e6,e7,e8,hv,hv0,hf⟩:=Hd pr h hs (by rw[h0];exact zero_testBit 0) hws 0 W (13,[41]) (λ_=>0) none none none none hl (λj hj=>by rw[zero_add];exact hW j hj)
 refine(10,v,λb h1 hb=>?_,hv0,?_)
 ·have:=hv b h1 hb;rw[h0,h2,zero_testBit] at this;simpa using this
 ·rw[h0] at hf;have hit:Lp [61] (ρT (13,[43]) (13,[41]) rs.length (λ_=>0) 0 none none none none)=(34,SQ 0 [41]):=Os _;exact aH rfl (6,ax hcomp,ax rfl,aa (kx hit hf) (cE (aU rfl)))
end
theorem Lx(kvs:Ti)(k j v:Int):j7 (mS kvs k v) j=if j=k then(1,v) else j7 kvs j:=by
 have h:=L2.valV_put (wB kvs) (Sum.inl k) (Sum.inl j:L2.Key) (L2.V.int v);rw[FN,nZ,nZ] at h;by_cases c:j=k
 ·rw[(25,by rw[c])] at h
  rw[(25,c)];cases e:j7 (mS kvs k v) j with
  |none=>rw[e] at h;cases h
  |some x=>rw[e] at h;injection h with h;injection h with h;rw[h]
 ·rw[(29,(λz=>c (Sum.inl.inj z)))] at h;rw[(29,c)];cases e:j7 (mS kvs k v) j with
  |none=>
   rw[e] at h;cases e2:j7 kvs j with
   |none=>rfl
   |some y=>rw[e2] at h;cases h
  |some x=>
   rw[e] at h;cases e2:j7 kvs j with
   |none=>rw[e2] at h;cases h
   |some y=>rw[e2] at h;injection h with h;injection h with h;rw[h]
theorem JZ(kvs:Ti)(k v:Int):(mS kvs k v).length=kvs.length+(if(j7 kvs k).isSome=true then 0 else 1):=by
 have h:=L2.valV_any (Sum.inl k:L2.Key) (wB kvs);rw[Az,nZ,Option.isSome_map] at h;unfold mS;rw[h];split
 ·rw[length_map];rfl
 ·rw[length_append,length_singleton]
theorem CF{b:Nat}{c c':Nat->Nat}(h0:c b=0)(h1:0<c' b)(hs:∀i,i≠b->c' i=c i):∀{n:Nat},b<n->((19,n).filter λi=>decide (0<c' i)).length=((19,n).filter λi=>decide (0<c i)).length+1
 |0,h=>by omega
 |n+1,h=>by
  rw[range_succ,filter_append,filter_append,length_append,length_append];by_cases e:b=n
  ·subst e;have:(19,b).filter (λi=>decide (0<c' i))=(19,b).filter (λi=>decide (0<c i)):=filter_congr λi hi=>by rw[hs i (by have:=mem_range.mp hi;omega)]
   rw[this];simp[h0,h1]
  ·rw[CF h0 h1 hs (by omega:b<n)]
   simp only[filter_cons,List.filter_nil,hs n (Ne.symm e)];omega
theorem IE{n:Nat}{c c':Nat->Nat}(hs:∀i,0<c' i↔0<c i):((19,n).filter λi=>decide (0<c' i)).length=((19,n).filter λi=>decide (0<c i)).length:=by
 congr 1;exact filter_congr λi _=>decide_eq_decide.mpr (hs i)
theorem qS(b:Nat)(x:(8,Nat)×D)(es:Es):cnt b (es++[x])=cnt b es+(if x.1=(1,b) then 1 else 0):=by
 unfold cnt;rw[filter_append,length_append,filter_cons,List.filter_nil];by_cases h:x.1=(1,b)
 ·rw[(25,h),(25,(51,h))];rfl
 ·rw[(29,h),(29,by simpa using h)];rfl
structure Srv(n:Nat)(kvs:Ti)(c:Nat->Nat):Prop where
 get:∀b:Nat,j7 kvs (b:Int)=if c b=0 then none else(1,((c b:Nat):Int))
 len:kvs.length=((19,n).filter λb=>decide (0<c b)).length
theorem Srv.put{n:Nat}{kvs:Ti}{c:Nat->Nat}(h:Srv n kvs c){b:Nat}(hb:b<n):(j7 kvs (b:Int)).getD 0+1=((c b+1:Nat):Int)/\Srv n (mS kvs b ((c b+1:Nat):Int)) (λi=>c i+(if b=i then 1 else 0)):=by
 refine(11,?_,λi=>?_,?_)
 ·rw[h.get];by_cases e:c b=0
  ·rw[(25,e),e];rfl
  ·rw[(29,e)];show(c b:Int)+1=_;omega
 ·rw[Lx];by_cases e:i=b
  ·subst e;rw[(25,rfl),(25,rfl),(29,[11])]
  ·rw[(29,[11]),(29,Ne.symm e),Nat.add_zero,h.get]
 ·rw[JZ,h.len,h.get];by_cases e:c b=0
  ·rw[(25,e)];exact(CF e (by rw[(25,rfl)];omega) (λi hi=>by rw[(29,Ne.symm hi)];rfl) hb).symm
  ·rw[(29,e)];refine(IE λi=>?_).symm;by_cases z:b=i
   ·subst z;rw[(25,rfl)];omega
   ·rw[(29,z)];omega
section
variable{bs:List Bx}{rs:List Rw}
theorem Ol(n:Nat)(p:Nat->Bool):((19,n).filter p).length<=n:=le_trans (List.length_filter_le _ _) (by rw[length_range];exact[25])
theorem Hf{n:Nat}(hn:n<=7){es:Es}(h:∀x∈es,xG n x.1 x.2)(hl:es.length<=100000):∃kvs,qL [(13,[41])]=(34,.own (.dik kvs))/\Srv n kvs (λb=>cnt b es):=by
 obtain⟨ρ',e,kvs,e2,hk,rfl⟩:=nC (bd:=bc 2) (body:=w5) (λx:(8,Nat)×D=>x.2) (λpre ρ=>∃(kvs:Ti)(e2:(8,S)),Srv n kvs (λb=>cnt b pre)/\ρ=[(6,(13,[41])),(12,.dik kvs),e2]) es [] [(6,(13,[41])),(12,.dik []),none]
  (10,[],none,(3,λb=>by show j7 [] _=if(0:Nat)=0 then none else _;rw[(25,rfl)];rfl,by show 0=((19,n).filter λb=>decide (0<0)).length;rw[List.filter_eq_nil_iff.mpr (λa _=>by simp)];rfl),rfl) (by
  rintro pre ⟨x,d⟩ post ρ hm ⟨kvs,e2,hk,rfl⟩
  have hx:=h _ hm;cases x with
  |none=>
   obtain⟨⟨y,r,rfl,hy⟩,_⟩:=hx;refine⟨_,_,rfl,.inl (38,ug rfl hy),kvs,_,(3,λb=>?_,?_),rfl⟩
   ·rw[qS];exact hk.get b
   ·rw[hk.len];congr 1;exact filter_congr λi _=>by rw[qS];rfl
  |some b=>
   obtain⟨rfl,hb1,hb2⟩:=hx;obtain⟨p1,p2⟩:=hk.put (b:=b) hb2;have hg:ag aO (sN 1 (26,2,1) 0) (3,1) [(6,(13,[41])),(12,.dik kvs),(6,Rz b)]=okI ((cnt b pre+1:Nat):Int):=by
    refine(1,Ly rfl (qN rfl),?_);show aO (16,((j7 kvs b).getD 0)) (16,1)=_;rw[add_int,p1]
   refine⟨_,_,rfl,.inl (dH (uf rfl) (PQ rfl (qN rfl) hg (lt_of_le_of_lt (by rw[hk.len];exact le_trans (Ol _ _) hn) [13]))),_,_,(3,λi=>?_,?_),rfl⟩
   ·rw[qS];have:=p2.get i;rw[this];simp only[Option.some.injEq]
   ·rw[p2.len];congr 1;exact filter_congr λi _=>by rw[qS];simp only[Option.some.injEq])
 exact(11,kvs,aH rfl (6,rfl,kx rfl e,PB rfl),hk)
theorem U7{n:Nat}{x:(8,Nat)×D}(hn:n<=7)(h:xG n x.1 x.2){ρ:aC}{i:Nat}(hi:ρ[i]?=(1,(6,x.2))):
  M1 (31,fg,(26,i,0),(45,(15,"enter"))) (31,pL,(3,1),(26,i,1)) (3,0) ρ=okI (pwV x.1:Nat):=by
 obtain⟨x,d⟩:=x;cases x with
 |none=>
  obtain⟨⟨y,r,rfl,hy⟩,_⟩:=h;exact Ga (ug hi hy) rfl
 |some b=>
  obtain⟨rfl,hb1,hb2⟩:=h;exact G9 (uf hi) (4,qN hi,JP [11])
theorem Ht{n:Nat}(hn:n<=7){es:Es}(h:∀x∈es,xG n x.1 x.2)(hl:es.length<=100000):qM [(13,[41])]=okL ((es.map λx=>pwV x.1).map intD):=by
 refine aH rfl (aU ?_);rw[fL es (λx=>x.2) (λx=>intD (pwV x.1)) rfl (55,hl) λx hx=>(4,_,rfl,_,U7 hn (h x hx) rfl,rfl),map_map]
 rfl
theorem Jp{ns:[24]}{many bells:Nat}(hm:many<=41)(hb:bells<=6):∃ws:List Nat,kz [[54],(16,2000),(16,many),(16,bells)]=okD (13,ws.map intD)/\ws.length=many/\∀w∈ws,w<2 ^ (bells+1)/\w % 2=0:=by
 obtain⟨ρ',e,ws,e5,e6,hl,hw,rfl⟩:=mi (bd:=bc 5) (body:=p7) (λk ρ=>∃(ws:[29])(e5 e6:(8,S)),ws.length=k/\(∀w∈ws,w<2 ^ (bells+1)/\w % 2=0)/\ρ=[(6,[54]),(20,2000),(20,many),(20,bells),(52,ws.map intD),e5,e6]) many
  (ρ:=[some (.sh (.lst (ns.map D.int))),some (.sh (.int 2000)),some (.sh (.int many)),some (.sh (.int bells)),some (.own (.lst [])),none,none]) ⟨[],none,none,rfl,λ_ h=>(nomatch h),rfl⟩ (by
  rintro k ρ hk ⟨ws,e5,e6,hl,hw,rfl⟩
  obtain⟨w3,d3,_⟩:=(5,ns,2000+2 * (k:Int),3,[11],[13])
  have hs:pL (16,1) (.int (bells:Int))=okI ((2 ^ bells:Nat):Int):=JP [11]
  have hp2:0<2 ^ bells:=Nat.pow_pos [13]
  obtain⟨w6,d6,h6⟩:=(5,ns,2000+2 * (k:Int)+1,((2 ^ bells:Nat):Int),[11],[11])
  have ek:∀{ρ:aC},ρ[1]?=(1,(20,2000))->ρ[5]?=(1,(20,k))->ag aO [61] (31,ip,(3,2),a9 5) ρ=okI (2000+2 * (k:Int)):=λh1 h5=>a8 (cg h1) (4,cg h5,xp [13] [13]) rfl
  have app:∀(w:Nat),mF [(6,[54]),(20,2000),(20,many),(20,bells),(52,ws.map intD),(20,k),(6,(.int (w:Int)))]=(46,[(6,[54]),(20,2000),(20,many),(20,bells),(52,((ws++[w]).map intD)),(20,k),(6,(.int (w:Int)))]):=λw=>by
   rw[map_append];exact iY (s:=.sh (.int (w:Int))) rfl rfl (by rw[length_map];exact lt_of_lt_of_le (by omega:ws.length<42) [13])
  have okw:∀w:Nat,(w<2 ^ (bells+1)/\w % 2=0)->∀v∈ws++[w],v<2 ^ (bells+1)/\v % 2=0:=λw h v hv=>by
   rcases mem_append.mp hv with z|z
   ·exact hw v z
   ·rw[(39,z)];exact h
  by_cases c:w3=0
  ·exact⟨_,_,rfl,(6,ax rfl,dH (1,(18,ek rfl rfl,rfl,d3),nE [11]) (ax (4,(18,(1,ek rfl rfl,rfl),(18,hs),d6),Ua w6)),app (2 * w6)),ws++[2 * w6],_,_,by rw[length_append,hl];rfl,okw _ (69,by rw[Nat.pow_succ];omega),rfl⟩
  ·exact⟨_,_,rfl,(6,ax rfl,(38,(1,(18,ek rfl rfl,rfl,d3),nG [11])),app 0),ws++[0],_,_,by rw[length_append,hl];rfl,okw _ (3,Nat.pow_pos [13],rfl),rfl⟩)
 exact(10,ws,aH rfl (6,ax rfl,kx (eT rfl (cB [11])) e,cE (aU rfl)),hl,hw)
end
section
variable{bs:List Bx}{rs:List Rw}{ns:List Int}
theorem LV{n:Nat}{x:(8,Nat)×D}(h:xG n x.1 x.2):fM 3 x.2:=by
 obtain⟨x,d⟩:=x;cases x with
 |none=>exact h.2
 |some b=>
  obtain⟨rfl,_,_⟩:=h;exact .tup 2 _ (λd hd=>by
   rcases mem_cons.mp hd with rfl|hd
   ·exact .str 2 _
   ·rw[(39,hd)];exact .int 2 _) (by show 2<=lim;decide)
theorem IF{n:Nat}{es:Es}(h:∀x∈es,xG n x.1 x.2)(hl:es.length<=100000):fM 4 (13,[41]):=.lst 3 _ (λd hd=>by
 obtain⟨x,hx,rfl⟩:=mem_map.mp hd;exact LV (h x hx)) (by rw[length_map];exact(55,hl))
theorem EF(cs:[24])(hl:cs.length<=100000):fM 4 (22,[63]):=.tup 3 _ (λd hd=>by
 obtain⟨i,_,rfl⟩:=mem_map.mp hd;exact .int 3 _) (by rw[length_map];exact(55,hl))
theorem Ea(ws:[29])(hl:ws.length<=100000):fM 4 (13,ws.map intD):=.lst 3 _ (λd hd=>by
 obtain⟨i,_,rfl⟩:=mem_map.mp hd;exact .int 3 _) (by rw[length_map];exact(55,hl))
theorem zq{a b:ME}{ρ:aC}{s1 s2:S}{d:D}(h1:a ρ=(34,s1))(h2:b ρ=(34,s2))(e1:s1.val=d)(e2:s2.val=d)(hp:fM 7 d):aL dN [a,b] ρ=okB true:=
 GD (br (F:=dN) h1 h2 (by rw[e1,e2];exact Hl hp [25])) rfl
theorem O2(pr:iD bs rs){kvs:Ti}{c v:Nat->Nat}(sv:Srv rs.length kvs c)(hc0:c 0=0)(hv:∀b,1<=b->b<rs.length->v b=c b)(hv0:v 0=0){x0 x1 x3 x4 x5 x7:D}{s8:S}{e6 e11 e12:(8,S)}:
  AW [(6,x0),(6,x1),(6,(22,[66])),(6,x3),(6,x4),(6,x5),e6,(6,x7),(1,s8),(12,.dik kvs),(6,(13,tD rs.length v)),e11,e12]=(1,.ret (.sh (.bl true))):=by
 obtain⟨n1,n7⟩:=pr.n;have hvc:∀b,b<rs.length->v b=c b:=λb hb=>by
  cases b with
  |zero=>rw[hv0,hc0]
  |succ b=>exact hv _ [11] hb
 have lenr:cm (22,[66])=okI (rs.length:Nat):=by rw[nM,length_map]
 have hr:rng 1 rs.length=(19,(rs.length - 1)).map λk:Nat=>D.int (1+k:Nat):=Pz 1 rs.length;obtain⟨ρ',e,e11',rfl⟩:=nC (bd:=bc 11) (body:=GH) (λk:Nat=>D.int (1+k:Nat)) (λ_ ρ=>∃e11:(8,S),ρ=[(6,x0),(6,x1),(6,(22,[66])),(6,x3),(6,x4),(6,x5),e6,(6,x7),(1,s8),(12,.dik kvs),(6,(13,tD rs.length v)),e11,e12]) (19,(rs.length - 1)) [] [(6,x0),(6,x1),(6,(22,[66])),(6,x3),(6,x4),(6,x5),e6,(6,x7),(1,s8),(12,.dik kvs),(6,(13,tD rs.length v)),e11,e12] (3,e11,rfl) (by
  rintro pre k post ρ hm ⟨e11,rfl⟩
  have hk:1+k<rs.length:=by have:=mem_range.mp hm;omega
  have hg:=sv.get (1+k);have hix:ag aT (a9 10) (a9 11) [(6,x0),(6,x1),(6,(22,[66])),(6,x3),(6,x4),(6,x5),e6,(6,x7),(1,s8),(12,.dik kvs),(6,(13,tD rs.length v)),(20,(1+k:Nat)),e12]=okI (c (1+k):Nat):=by
   rw[←hvc _ hk];exact(18,j5 (zb hk))
  have h1:aL dN [(sN 9 (a9 11) 0),(1,aT,10,a9 11)] [(6,x0),(6,x1),(6,(22,[66])),(6,x3),(6,x4),(6,x5),e6,(6,x7),(1,s8),(12,.dik kvs),(6,(13,tD rs.length v)),(20,(1+k:Nat)),e12]=okB true:=by
   refine zq (Ly rfl rfl) hix ?_ rfl (.int 7 _);show D.int ((j7 kvs ((1+k:Nat):Int)).getD 0)=(16,(c (1+k):Nat));rw[hg];by_cases z:c (1+k)=0
   ·rw[(25,z),z];rfl
   ·rw[(29,z)];rfl
  have h2:ag yp (vP false 9 (a9 11)) (9,vU,(1,aT,10,a9 11),0) [(6,x0),(6,x1),(6,(22,[66])),(6,x3),(6,x4),(6,x5),e6,(6,x7),(1,s8),(12,.dik kvs),(6,(13,tD rs.length v)),(20,(1+k:Nat)),e12]=[64]:=by
   refine a8 (QO rfl rfl) (1,hix,UH (c (1+k)) 0) ?_;show yp (.bl (false != (j7 kvs ((1+k:Nat):Int)).isSome)) (.bl (decide (0<c (1+k))))=[64];rw[hg];by_cases z:c (1+k)=0
   ·rw[(25,z),z];rfl
   ·rw[(29,z),(51,[11])];rfl
  exact⟨_,_,rfl,.inl (cE (aa (38,sC h1) (cE (38,h2)))),_,rfl⟩)
 have hcomp:cw [12] (iW (a9 10)) (bc 12) (8,vU,12,0) (a9 12) [(6,x0),(6,x1),(6,(22,[66])),(6,x3),(6,x4),(6,x5),e6,(6,x7),(1,s8),(12,.dik kvs),(6,(13,tD rs.length v)),e11',e12]=okL (((19,rs.length).filter λi=>decide (0<v i)).map λi=>.int (v i:Nat)):=
  qR (19,rs.length) (λi=>.int (v i:Nat)) (λi=>decide (0<v i)) (λi=>.int (v i:Nat)) rfl (by rw[length_range];exact(55,n7)) λi _=>(10,_,rfl,(18,UH (v i) 0),λ_=>(19,_,rfl))
 have hfil:(19,rs.length).filter (λi=>decide (0<v i))=(19,rs.length).filter (λi=>decide (0<c i)):=filter_congr λi hi=>by rw[hvc i (mem_range.mp hi)]
 refine aa (kx (Bn rfl (gd (lI rfl) lenr) rfl (cB [11])) (by rw[hr];exact e)) ?_
 refine cE (aU (a8 (s:=.sh (.int (kvs.length:Nat))) (t:=.sh (16,((((19,rs.length).filter λi=>decide (0<v i)).map λi=>D.int (v i:Nat)).length:Nat))) (Qz rfl) (gd hcomp rfl) ?_));show fg (.int (kvs.length:Nat)) (16,((((19,rs.length).filter λi=>decide (0<v i)).map λi=>D.int (v i:Nat)).length:Nat))=okB true;rw[SM,length_map,hfil,←sv.len,(51,rfl)]
theorem Md{n:Nat}{es:Es}(h:∀x∈es,xG n x.1 x.2):cnt 0 es=0:=by
 unfold cnt;rw[List.filter_eq_nil_iff.mpr (λx hx=>?_)];· rfl
 have:=h x hx;obtain⟨x,d⟩:=x;cases x with
 |none=>simp
 |some b=>obtain⟨_,h1,_⟩:=this;simp;omega
theorem Mq(pr:iD bs rs):mB bs rs (11,0,[(10,0,0,0,[])],dU bs):=by
 have h0:0<rs.length:=pr.n.1;have hf:=vH pr.hb pr.hr (k:=0) (pl:=0) h0 (zero_le _);refine(4,(10,λf hf'=>?_,(10,_,[],rfl,rfl),Dt bs,by show 1<=100;decide),λf hf'=>?_,λu t v e=>?_,two_pow_pos _,zero_testBit 0)
 ·rw[(39,hf')];exact hf
 ·rw[(39,hf')];exact(11,h0,.inl (pr.len 0 h0).1,zero_le _)
 ·cases u with
  |nil=>exact zero_le _
  |cons a u=>cases u <;> cases e
end
theorem CK{n:Nat}(hn:n<=7){x0 x1 x2 x3 x4:D}:∀(es:Es)(pre:[29])(e6:(8,S)),(∀x∈es,xG n x.1 x.2)->pre.length+es.length<=100000->∃e6',k0 (bc 6) GI [41] [(6,x0),(6,x1),(6,x2),(6,x3),(6,x4),(52,pre.map intD),e6,none,none,none,none,none,none]=(46,[(6,x0),(6,x1),(6,x2),(6,x3),(6,x4),(52,((pre++es.map λx=>pwV x.1).map intD)),e6',none,none,none,none,none,none])
 |[],pre,e6,_,_=>(3,e6,by rw[map_nil,map_nil,append_nil];rfl)
 | (x,d)::es,pre,e6,h,hl=>by
  rw[length_cons] at hl;obtain⟨e6',hr⟩:=CK hn es (pre++[pwV x]) (6,d) (λy hy=>h y (30,hy)) (by rw[length_append,length_singleton];omega)
  rw[append_assoc] at hr;refine(3,e6',CA rfl ?_ hr);have hlt:(pre.map intD).length<lim:=by rw[length_map];exact lt_of_lt_of_le (by omega:pre.length<100000) [13]
  rw[map_append];have hx:=h _ mem_cons_self;cases x with
  |none=>
   obtain⟨⟨y,r,rfl,hy⟩,_⟩:=hx;exact bq (ug rfl hy) (iY (s:=.sh (16,(0:Nat))) rfl rfl hlt)
  |some b=>
   obtain⟨rfl,hb1,hb2⟩:=hx;exact dH (uf rfl) (iY (s:=.sh (16,((2 ^ b:Nat):Int))) rfl (4,qN rfl,JP [11]) hlt)
theorem law_true(ns:[24])(_:ns.length<=63):Gh [[54]]=(34,.sh (.bl true)):=by
 obtain⟨m4,d4,h4⟩:=(5,ns,0,4,[11],[13])
 obtain⟨b7,d7,h7⟩:=(5,ns,1,7,[11],[13])
 obtain⟨m42,d42,h42⟩:=(5,ns,2,42,[11],[13])
 obtain⟨bs,eb,hbl,hbo⟩:=Mn (ns:=ns) (base:=40) (many:=1+m4) [13] [13] [11]
 have hb:cX bs:=hbo;obtain⟨rs,er,hrl,hrk,hrp⟩:=Ng (ns:=ns) (bells:=b7) hb [11] [11]
 have hrow:∀k,k<rs.length->rs[k]?=(1,(77,k)):=λk h=>by rw[(7,h),kW h]
 have pr:iD bs rs:=⟨hb,λr hr=>(hrp r hr).2.2,λk hk=>(3,(hrp _ (u5 hk)).1,(hrp _ (u5 hk)).2.1),(69,by omega),(hrk 0 _ (hrow 0 [11])).1 rfl,λk h1 h2=>(hrk k _ (hrow k h2)).2 h1⟩
 obtain⟨ws,ew,hwl,hww⟩:=Jp (ns:=ns) (many:=m42) (bells:=b7) [11] [11]
 rw[←hrl] at hww;obtain⟨es1,s1,ev1,ok1,hl1⟩:=LU pr ws _ (Mq pr) hww;obtain⟨u,top,hp1⟩:=ok1.wf.split;have hm:Ek bs rs s1<4000:=by
  have h1:=Q1 pr (hp1▸ok1.wf) (zA pr ok1 hp1);have h2:=R6 s1.rung;unfold Ek;rw[hp1];omega
 obtain⟨fs,s2,tl,hfl,ok2⟩:=Fu pr 4000 s1 ok1 hm;obtain⟨evt,hid⟩:=JA tl;have evA:=Oo ev1 evt;have run1:=JT pr hww [11] ev1 tl [11]
 generalize hes:es1++fs=es at evA run1;have hesl:es.length<=5000:=by rw[←hes,length_append];omega
 have hall:=Oq evA;have evP:=EV evA;have hpw:∀w∈es.map (λx=>pwV x.1),w<2 ^ rs.length/\w % 2=0:=λw hw=>by
  obtain⟨x,hx,rfl⟩:=mem_map.mp hw;have:=hall x hx;obtain⟨x,d⟩:=x;cases x with
  |none=>exact(3,two_pow_pos _,rfl)
  |some b=>
   obtain⟨_,h1,h2⟩:=this;refine(3,Nat.pow_lt_pow_right [13] h2,?_)
   obtain⟨c,rfl⟩:∃c,b=c+1:=(69,b - 1)
   show 2 ^ (c+1) % 2=0;rw[Nat.pow_succ];omega
 have run2:=JT pr hpw (by rw[length_map];omega) evP (.done (s:=(11,0,s2.p,s2.cs)) (62,hid.2)) [19]
 rw[append_nil] at run2;obtain⟨kvs,ek,sv⟩:=Hf (n:=rs.length) pr.n.2 hall [11]
 have ep:=Ht pr.n.2 hall [11]
 obtain⟨v,hv,hv0,es3⟩:=Ck pr (W:=ws) evA rfl hid.1 (λw hw=>by
  rcases mem_append.mp hw with z|z
  ·exact hww w z
  ·rw[List.eq_of_mem_replicate z];exact(3,two_pow_pos _,rfl)) [11] (λj hj=>by
  rw[getD_eq_getElem?_getD,getD_eq_getElem?_getD];by_cases c:j<ws.length
  ·rw[(59,c)]
  ·rw[(70,[11]),(64,[11])]
   cases z:(replicate fs.length 0)[j - ws.length]? with
   |none=>rfl
   |some y=>rw[List.eq_of_mem_replicate (61,z)];rfl)
 have hpe:=IF hall [11]
 have hcsl:s2.cs.length<=100000:=by rw[ok2.wf.len];exact(55,yE hb)
 have hpf:fM 5 (22,[(13,[41]),(22,s2.cs.map D.int)]):=.tup 4 _ (λd hd=>by
  rcases mem_cons.mp hd with rfl|hd
  ·exact hpe
  ·rw[(39,hd)];exact EF _ hcsl) (by show 2<=lim;decide)
 have hpp:=Ea (es.map λx=>pwV x.1) (by rw[length_map];omega)
 have lenr:cm (22,[66])=okI (rs.length:Nat):=by rw[nM,length_map]
 have e1:kO (.int (rs.length:Nat)) (16,1)=okI ((rs.length - 1:Nat):Int):=N3 (a:=rs.length) (b:=1) [11]
 have hb7:rs.length - 1=b7:=by omega
 have e1':kO (.int (rs.length:Nat)) (16,1)=okI (b7:Nat):=hb7▸e1;obtain⟨e6,hfor⟩:=CK pr.n.2 (x0:=[54]) (x1:=bt bs) (x2:=(22,[66])) (x3:=(13,ws.map intD)) (x4:=(22,[(13,[41]),(22,s2.cs.map D.int)])) es [] none hall (by simp only[length_nil];omega)
 rw[List.nil_append] at hfor;rw[hb7] at es3;have es3':k6 [(13,ws.map intD),(13,[41]),.int (b7:Nat)]=okD (13,tD rs.length v):=es3;refine aH rfl (20,(18,rfl,(4,(18,rfl,rfl,d4),Qr m4),eb),?_);refine(20,nO rfl rfl (18,rfl,rfl,d7) rfl er,?_);refine(20,nO rfl rfl (18,rfl,rfl,d42) (1,gd (lI rfl) lenr,e1') ew,?_);refine cE (20,br (kS rfl rfl) (bY rfl rfl) run1,?_);refine(6,ax rfl,kx (j6 (18,bW) rfl) hfor,?_);refine(20,bY (18,bW) rfl,?_);refine cE (20,bY rfl ep,?_);refine cE (aa (38,HC (sC ?_) (sC ?_)) ?_)
 rotate_right
 ·refine cE (20,bY rfl ek,?_);refine aa (38,HC (sC ?_) (sC ?_)) ?_
  rotate_right
  ·refine cE (20,(18,(18,bW),(1,gd (lI rfl) lenr,e1'),es3'),?_);exact O2 pr sv (Md hall) hv hv0
  ·exact QJ rfl
  ·exact zq (lI rfl) (18,bW) rfl rfl (hpe.mono [13])
 ·exact zq (lI rfl) (lI rfl) rfl rfl (hpp.mono [13])
 ·exact zq (br (kS rfl rfl) (bY rfl rfl) run2) (lI rfl) rfl rfl (hpf.mono [13])
end Bell
set_option maxHeartbeats 8000000
namespace Bell
open PySem PySem.Spec PyProof.Rows L2 L3
def top(i:Nat):Stmt:=PySem.Challenge.pw_bellnest_k18_prompt_ringings.main.body.getD i (.Pass (10,0,0,0,0))
abbrev lU:Stmt:=top 45
def Ee:[16]:=["_law_script","_law_k","_law_many","_law_cell"]
def dM:[16]:=["_law_script","_law_k","_law_many"]
abbrev jg:Stmt:=top 46
def zT:[16]:=["_law_script","_law_k","_law_way"]
def fU:[16]:=["_law_script","_law_k"]
abbrev kh:Stmt:=top 48
def BQ:[16]:=["_law_script","_law_base","_law_many","_law_boxes_here","_law_k","_law_at","_law_size","_law_j"]
def iR:[16]:=["_law_script","_law_base","_law_many"]
abbrev lV:Stmt:=top 49
def Ef:[16]:=["_law_script","_law_at","_law_boxes_here","_law_way","_law_x","_law_size","_law_likes","_law_y","_law_ones","_law_t","_law_j"]
def jT:[16]:=["_law_script","_law_at","_law_boxes_here"]
abbrev lT:Stmt:=top 50
def Ed:[16]:=["_law_script","_law_boxes_here","_law_bells","_law_most","_law_rows_here","_law_k","_law_head","_law_size","_law_places","_law_p","_law_at","_law_word"]
def jS:[16]:=["_law_script","_law_boxes_here","_law_bells","_law_most"]
abbrev lS:Stmt:=top 47
def Ec:[16]:=["_law_found","_law_due","_law_one","_law_other"]
def jR:[16]:=["_law_found","_law_due"]
abbrev lR:Stmt:=top 52
def Eb:[16]:=["_law_words_here","_law_events","_law_bells","_law_times","_law_flags","_law_k","_law_event","_law_word","_law_bell"]
def jQ:[16]:=["_law_words_here","_law_events","_law_bells"]
abbrev ke:Stmt:=top 51
def BP:[16]:=["_law_script","_law_base","_law_many","_law_bells","_law_words_here","_law_k","_law_word"]
def iQ:[16]:=["_law_script","_law_base","_law_many","_law_bells"]
abbrev ql:Stmt:=top 42
def KQ:[16]:=["events","event"]
def mZ:[16]:=["events"]
abbrev oh:Stmt:=top 36
def HV:[16]:=["bells","number"]
def jA:[16]:=["bells","number"]
abbrev kb:Stmt:=top 6
def BN:[16]:=["boxes","starts","box"]
def iP:[16]:=["boxes"]
abbrev kl:Stmt:=bN (top 39) 0
def BU:[16]:=["self","program","row"]
def iS:[16]:=["self","program"]
abbrev gA:Stmt:=bN (top 39) 6
def tq:[16]:=["self"]
def eV:[16]:=["self"]
abbrev gX:Stmt:=bN (top 39) 7
def vv:[16]:=["self","places"]
def fI:[16]:=["self"]
abbrev oq:Stmt:=top 35
def I0:[16]:=["word","bit"]
def lq:[16]:=["word"]
abbrev zr:Stmt:=top 37
def Qw:[16]:=["ranks","flags","floor","shut","found","bell"]
def ve:[16]:=["ranks","flags","floor","shut"]
abbrev kd:Stmt:=top 24
def BO:[16]:=["program","row"]
def eG:[16]:=["program","row"]
abbrev o6:Stmt:=top 27
def HQ:[16]:=["program","row","place","places"]
def l6:[16]:=["program","row","place"]
abbrev og:Stmt:=top 28
def HU:[16]:=["program","pile","word","frame"]
def lg:[16]:=["program","pile"]
abbrev oo:Stmt:=top 25
def HZ:[16]:=["program","row","place"]
def gP:[16]:=["program","row","place"]
abbrev ki:Stmt:=top 26
def BR:[16]:=["program","frame"]
def gN:[16]:=["program","frame"]
abbrev gW:Stmt:=top 31
def vq:[16]:=["program","frame","place"]
def fG:[16]:=["program","frame"]
abbrev oa:Stmt:=top 4
def HS:[16]:=["boxes","x"]
def l9:[16]:=["boxes","x"]
abbrev lX:Stmt:=top 5
def Eh:[16]:=["boxes","x","first","k"]
def gI:[16]:=["boxes","x"]
abbrev bR:Stmt:=top 22
def zS:[16]:=["boxes","deed","couples","number"]
def hU:[16]:=["boxes","deed"]
abbrev qp:Stmt:=bN (top 9) 0
def KZ:[16]:=["self","plan"]
def gu:[16]:=["self","plan"]
abbrev lW:Stmt:=bN (top 17) 0
def Eg:[16]:=["self","sources","targets","cell"]
def iA:[16]:=["self","sources","targets"]
abbrev qt:Stmt:=bN (top 19) 0
def L1:[16]:=["self","targets","sources","tally"]
def n8:[16]:=["self","targets","sources","tally"]
abbrev kj:Stmt:=bN (top 10) 0
def BS:[16]:=["self","watched"]
def gO:[16]:=["self","watched"]
abbrev iH:Stmt:=bN (top 11) 0
def xm:[16]:=["self","left","right"]
def gv:[16]:=["self","left","right"]
abbrev qr:Stmt:=bN (top 15) 0
def L0:[16]:=["self","targets","sources","k"]
def n6:[16]:=["self","targets","sources"]
abbrev qo:Stmt:=bN (top 18) 0
def KY:[16]:=["self","targets","number"]
def n5:[16]:=["self","targets","number"]
abbrev tZ:Stmt:=bN (top 14) 0
def NX:[16]:=["self","targets","numbers","cell"]
def qB:[16]:=["self","targets","numbers"]
abbrev oi:Stmt:=bN (top 13) 0
def HW:[16]:=["self","number"]
def lh:[16]:=["self","number"]
abbrev qm:Stmt:=bN (top 16) 0
def KW:[16]:=["self","target"]
def n0:[16]:=["self","target"]
abbrev iG:Stmt:=bN (top 12) 0
def xl:[16]:=["self"]
def gq:[16]:=["self"]
abbrev om:Stmt:=top 20
def HY:[16]:=["boxes","deed","kind","first","second"]
def jB:[16]:=["boxes","deed"]
abbrev jk:Stmt:=bN (top 9) 2
def zX:[16]:=["self","turn"]
def dF:[16]:=["self","turn"]
abbrev iJ:Stmt:=bN (top 9) 3
def xo:[16]:=["self","turn"]
def cI:[16]:=["self","turn"]
abbrev o9:Stmt:=top 32
def HR:[16]:=["program","frame","x","deed","touched","cell"]
def l8:[16]:=["program","frame","x"]
abbrev km:Stmt:=top 33
def BV:[16]:=["program","pile","cells","top","broken","frame","place"]
def iT:[16]:=["program","pile","cells"]
abbrev iI:Stmt:=bN (top 17) 1
def xn:[16]:=["self","turn","cells","hand"]
def f9:[16]:=["self","turn","cells","hand"]
abbrev o5:Stmt:=top 8
def HP:[16]:=["cells","cell","number"]
def gM:[16]:=["cells","cell","number"]
abbrev jj:Stmt:=bN (top 9) 1
def zW:[16]:=["self"]
def fV:[16]:=["self"]
abbrev fk:Stmt:=bN (top 17) 2
def qD:[16]:=["self","turn","cells","hand","number","behind","kept"]
def cT:[16]:=["self","turn","cells","hand","number"]
abbrev jn:Stmt:=bN (top 19) 1
def A0:[16]:=["self","turn","cells","hand"]
def i6:[16]:=["self","turn","cells","hand"]
abbrev jm:Stmt:=bN (top 15) 1
def zZ:[16]:=["self","turn","cells","hand","number"]
def i5:[16]:=["self","turn","cells","hand"]
abbrev jl:Stmt:=bN (top 9) 4
def zY:[16]:=["self","turn","cells","hand"]
def i0:[16]:=["self","turn","cells","hand"]
abbrev ji:Stmt:=bN (top 18) 1
def zV:[16]:=["self","turn","cells","hand"]
def hZ:[16]:=["self","turn","cells","hand"]
abbrev kn:Stmt:=bN (top 14) 1
def BW:[16]:=["self","turn","cells","hand"]
def iU:[16]:=["self","turn","cells","hand"]
abbrev jh:Stmt:=bN (top 16) 1
def zU:[16]:=["self","turn","cells","hand","cell"]
def hV:[16]:=["self","turn","cells","hand"]
abbrev qj:Stmt:=top 30
def KO:[16]:=["program","pile","cells","top","deed","left","frame"]
def mX:[16]:=["program","pile","cells"]
abbrev gz:Stmt:=bN (top 39) 3
def tm:[16]:=["self","left","top","broken"]
def eU:[16]:=["self"]
abbrev oj:Stmt:=top 29
def HX:[16]:=["pile","bell"]
def ll:[16]:=["pile","bell"]
abbrev fP:Stmt:=bN (top 39) 2
def rR:[16]:=["self","bell"]
def dY:[16]:=["self","bell"]
abbrev dX:Stmt:=bN (top 39) 1
def vt:[16]:=["self","word","floor","bell"]
def fH:[16]:=["self","word"]
abbrev FI:Stmt:=top 41
def Sv:[16]:=["program","ringings","word","machine","events"]
def Bz:[16]:=["program","ringings"]
abbrev qk:Stmt:=top 43
def KP:[16]:=["events","counts","event"]
def mY:[16]:=["events"]
abbrev Bg:Stmt:=top 53
def Sw:[16]:=["_law_script","_law_boxes_here","_law_rows_here","_law_words_here","_law_found","_law_due","_law_event","_law_handed","_law_told","_law_times","_law_sets_here","_law_bell","_law_one"]
def FX:[16]:=["_law_script"]
abbrev CC:Addr:=367
abbrev PT:Addr:=363
def good:Pos->(8,Str):=EM [(137,15),(141,15),(142,11)] "promise_of.<locals>.<lambda>"
def lam0:gT:=L4 (JN ((aS bR).getD 0 (.Pass (10,0,0,0,0)))) "promise_of.<locals>.<lambda>" "cells" []
def KU:[16]:=["cells"]
def lam1:gT:=L4 (JN ((aS bR).getD 3 (.Pass (10,0,0,0,0)))) "promise_of.<locals>.<lambda>" "cells" ["number","couples"]
def KS:[16]:=["cells","number","couples","a","b"]
def lam2:gT:=L4 (JN ((aS bR).getD 4 (.Pass (10,0,0,0,0)))) "promise_of.<locals>.<lambda>" "cells" ["number","couples"]
def KR:[16]:=["cells","number","couples","a","b"]
def lams:Nat->(8,gT)
 |0=>(1,lam0)
 |1=>(1,lam1)
 |2=>(1,lam2)
 |_=>none
abbrev Γc(K:Frag)(cls:String->Addr):Ct:=RC K cls lams PT good
structure gj(mg:Str->Option Value):Prop where
 all:mg "all" = none
 any:mg "any" = none
 bool:mg "bool" = none
 dict:mg "dict" = none
 enumerate:mg "enumerate" = none
 int:mg "int" = none
 isinstance:mg "isinstance" = none
 len:mg "len" = none
 list:mg "list" = none
 max:mg "max" = none
 range:mg "range" = none
 set:mg "set" = none
 sorted:mg "sorted" = none
 str:mg "str" = none
 sum:mg "sum" = none
 tuple:mg "tuple" = none
 zip:mg "zip" = none
structure Rn(K:Frag)(mg:Str->Option Value)(cls:String->Addr):Prop where
 L_law_draw:cj K mg "_law_draw" lU dM
 L_law_number:cj K mg "_law_number" jg fU
 L_law_boxes:cj K mg "_law_boxes" kh iR
 L_law_deed:cj K mg "_law_deed" lV jT
 L_law_rows:cj K mg "_law_rows" lT jS
 L_law_same:cj K mg "_law_same" lS jR
 L_law_sets:cj K mg "_law_sets" lR jQ
 L_law_words:cj K mg "_law_words" ke iQ
 L_prompt:cj K mg "prompt" ql mZ
 L_is_word:cj K mg "is_word" oh jA
 L_starts_of:cj K mg "starts_of" kb iP
 L_i_Machine:eD K mg cls "Machine" "Machine" "Machine.__init__" kl iS
 L_Machine_cells:cW K cls "cells" "Machine.cells" gA eV ["Machine"]
 L_Machine_idle:cW K cls "idle" "Machine.idle" gX fI ["Machine"]
 L_bits_of:cj K mg "bits_of" oq lq
 L_best:cj K mg "best" zr ve
 L_places_of:cj K mg "places_of" kd eG
 L_word_at:cj K mg "word_at" o6 l6
 L_shut_by:cj K mg "shut_by" og lg
 L_deed_at:cj K mg "deed_at" oo gP
 L_is_at_end:cj K mg "is_at_end" ki gN
 L_none_watched:cj K mg "none_watched" gW fG
 L_size_of:cj K mg "size_of" oa l9
 L_cells_of:cj K mg "cells_of" lX gI
 L_promise_of:GL K mg "promise_of" bR hU CC
 L_i_Deed:eD K mg cls "Deed" "Deed" "Deed.__init__" qp gu
 L_i_Handed:eD K mg cls "Handed" "Handed" "Handed.__init__" lW iA
 L_i_Anew:eD K mg cls "Anew" "Anew" "Anew.__init__" qt n8
 L_i_Promise:eD K mg cls "Promise" "Promise" "Promise.__init__" kj gO
 L_i_Comparing:eD K mg cls "Comparing" "Comparing" "Comparing.__init__" iH gv
 L_i_Copy:eD K mg cls "Copy" "Copy" "Copy.__init__" qr n6
 L_i_Grow:eD K mg cls "Grow" "Grow" "Grow.__init__" qo n5
 L_i_Put:eD K mg cls "Put" "Put" "Put.__init__" tZ qB
 L_i_Still:eD K mg cls "Still" "Still" "Still.__init__" oi lh
 L_i_Tick:eD K mg cls "Tick" "Tick" "Tick.__init__" qm n0
 L_i_Untouched:eD K mg cls "Untouched" "Untouched" "Untouched.__init__" iG gq
 L_deed_of:cj K mg "deed_of" om jB
 L_Deed_reads:(2,K,cls,"reads","Deed.reads",jk,dF)
 L_Deed_writes:(2,K,cls,"writes","Deed.writes",iJ,cI)
 L_touches:cj K mg "touches" o9 l8
 L_broken_by:cj K mg "broken_by" km iT
 L_Handed_laid:cW K cls "laid" "Handed.laid" iI f9 ["Handed","Grow","Anew"]
 L_written:cj K mg "written" o5 gM
 L_Deed_turns:(2,K,cls,"turns","Deed.turns",jj,fV)
 L_Handed_set_down:cW K cls "set_down" "Handed.set_down" fk cT ["Handed","Grow","Anew"]
 L_Anew_after:cW K cls "after" "Anew.after" jn i6 ["Anew"]
 L_Copy_after:cW K cls "after" "Copy.after" jm i5 ["Copy"]
 L_Deed_after:cW K cls "after" "Deed.after" jl i0 ["Deed","Promise","Comparing","Untouched","Still","Handed"]
 L_Grow_after:cW K cls "after" "Grow.after" ji hZ ["Grow"]
 L_Put_after:cW K cls "after" "Put.after" kn iU ["Put"]
 L_Tick_after:cW K cls "after" "Tick.after" jh hV ["Tick"]
 L_turned:cj K mg "turned" qj mX
 L_Machine_go_on:cW K cls "go_on" "Machine.go_on" gz eU ["Machine"]
 L_entered:cj K mg "entered" oj ll
 L_Machine_let_in:cW K cls "let_in" "Machine.let_in" fP dY ["Machine"]
 L_Machine_turn:AB K cls "turn" "Machine.turn" dX fH "Machine" (0)
 L_run:cj K mg "run" FI Bz
 L_served:cj K mg "served" qk mY
 L_law:cj K mg "law" Bg FX
 fld_check:∀c∈["Anew"],fB K [37]/\aY K [37] "check"
 fld_contents:∀c∈["Machine"],fB K [37]/\aY K [37] "contents"
 fld_frames:∀c∈["Machine"],fB K [37]/\aY K [37] "frames"
 fld_number:∀c∈["Grow"],fB K [37]/\aY K [37] "number"
 fld_numbers:∀c∈["Put"],fB K [37]/\aY K [37] "numbers"
 fld_plan:∀c∈["Deed","Promise","Comparing","Untouched","Still","Put","Copy","Tick","Handed","Grow","Anew"],fB K [37]/\aY K [37] "plan"
 fld_program:∀c∈["Machine"],fB K [37]/\aY K [37] "program"
 fld_ranks:∀c∈["Machine"],fB K [37]/\aY K [37] "ranks"
 fld_rung:∀c∈["Machine"],fB K [37]/\aY K [37] "rung"
 fld_size:∀c∈["Grow"],fB K [37]/\aY K [37] "size"
seal PySem.wpAny
section
variable{P:Program}{w:World}{K:Frag}{mg:Str->Option Value}{base:Heap}{cls:String->Addr}
theorem mM:(23,Ee,dM,lU):=(32,rfl,rfl,rfl)
theorem BE(L:cj K mg "_law_draw" lU dM)(Z:gj mg)  : (3,P,w,K,mg,1,"_law_draw",dM,aJ):=bO (k:=0) L mM λf cdv A outer s H E hr=>(3,(4,3,mM.nd,af),(13,aD jW (2,cb rfl,rfl,Z.len,(28,pv 0,bh)) af,aj (4,3,mM.nd,av ub (6,(2,0),av ub (2,1) (2,cb rfl,rfl,Z.len,(28,pv 0,bh))) af)),(24,av ub (av ub (14,av fW (2,3) af,av fW (av fW (14,(2,1),af) (14,(2,1),af)) af) af) (2,2)))
theorem oR:(23,zT,fU,jg):=(32,rfl,rfl,rfl)
theorem xb(L:cj K mg "_law_number" jg fU)(Z:gj mg)(H_law_draw:(3,P,w,K,mg,1,"_law_draw",dM,aJ)):(3,P,w,K,mg,2,"_law_number",fU,cf):=bO (k:=1) L oR λf cdv A outer s H E hr=>(3,(4,2,oR.nd,(18,0,(2,1,dg af ae))),(13,aD rO (2,2) af,(24,av i7 (18,0,(22,(2,1),af,dg af ae)) af)),ah (13,aD bB (2,2) af,(24,av i7 af (av fW af (18,0,(22,(2,1),af,dg af ae))))) (24,av i7 (18,0,(22,(2,1),af,dg af ae)) af))
theorem fN:(23,BQ,iR,kh):=(32,rfl,rfl,rfl)
theorem zM(L:cj K mg "_law_boxes" kh iR)(Z:gj mg)(H_law_draw:(3,P,w,K,mg,1,"_law_draw",dM,aJ))(H_law_number:(3,P,w,K,mg,2,"_law_number",fU,cf)):(3,P,w,K,mg,3,"_law_boxes",iR,kA):=bO (k:=2) L fN λf cdv A outer s H E hr=>(3,(4,3,fN.nd,g9 ae),(9,rfl,cY rfl Z.range (2,2),qA fN.nd rfl,(3,(4,5,fN.nd,(14,(2,1),av fW af (2,4))),(4,6,fN.nd,(14,af,(18,0,(2,5,dg af ae)))),aj (fF (i:=3) (pv 3) (aE (22,c9,(6,c9,(2,4)),j3 (jP (gw rfl) rfl Z.tuple L3.ee (b9 (1,[7],[".0","_law_j"],cC 7,by rfl,rfl,cY rfl Z.range (2,6),(λ_ _ _ _=>(qA fN.nd rfl)),(λ_ _ _ _=>(20,H_law_number,0,(22,(14,(2,5),af),av fW af (2,7),ae)))) ae)) ae))))),(24,3,(24,jP (gw rfl) rfl Z.tuple L3.ee (2,3,ae))))
theorem cL:(23,Ef,jT,lV):=(32,rfl,rfl,rfl)
theorem BF(L:cj K mg "_law_deed" lV jT)(Z:gj mg)(H_law_draw:(3,P,w,K,mg,1,"_law_draw",dM,aJ))(H_law_number:(3,P,w,K,mg,2,"_law_number",fU,cf)):(3,P,w,K,mg,3,"_law_deed",jT,mm):=bO (k:=2) L cL λf cdv A outer s H E hr=>(3,(4,3,cL.nd,(18,0,(2,1,dg af ae))),(4,4,cL.nd,(18,0,(22,(2,1),af,j3 (2,cb rfl,rfl,Z.len,(28,pv 2,bh)) ae))),(3,(4,5,cL.nd,(2,cb rfl,rfl,Z.len,aK (PD.look (6,(6,(2,2),(2,4)),af)) bh)),uW (i:=6) cL.nd rfl [22] (js:=[7]) (vars:=[".0","_law_y"]) (cC 7) (by rfl) (by rfl) rfl (cY rfl Z.range (2,cb rfl,rfl,Z.len,(28,pv 2,bh))) (λ_ _ _ _=>(qA cL.nd rfl)) (λ_ _ _ _=>(uk.pt (iL (aD pD (2,7) (2,4)) (gZ (aD bB (2,cb rfl,rfl,Z.len,aK (PD.look (6,(6,(2,2),(2,7)),af)) bh) (2,5)))))) (λ_ _ _ _=>(2,7)),(3,(13,aD bB (2,3) af,(24,aE (dg c9 (2,4,j3 (jP (gw rfl) rfl Z.tuple L3.ee (b9 (1,[10],[".0","_law_j"],cC 10,by rfl,rfl,cY rfl Z.range (2,5),(λ_ _ _ _=>(qA cL.nd rfl)),(λ_ _ _ _=>(20,H_law_number,0,(22,(14,(2,1),af),av fW af (2,10),ae)))) ae)) ae)))),(13,uk.pt (iL (aD bB (2,3) af) (gZ (aD jW (2,cb rfl,rfl,Z.len,(28,pv 6,bh)) af))),(24,6,(24,aE (dg c9 (2,4,(27,6,(18,0,(22,(2,1),af,j3 (2,cb rfl,rfl,Z.len,(28,pv 6,bh)) ae)),ae)))))),(3,(13,uk.pt (iL (aD bB (2,3) af) (gZ (aD bB (2,5) af))),(24,aE (dg c9 (2,4,ae)))),(13,aD bB (2,3) af,(24,aE (dg c9 (22,af,(18,0,(22,(2,1),af,dg af ae)),ae)))),(3,(13,uk.pt (pw (aD bB (2,3) af) (m5 (aD bB (2,3) af))),(24,6,ah (4,7,cL.nd,(6,(14,(2,6),g9 (2,4,ae)),(18,0,(22,(2,1),af,(22,(2,cb rfl,rfl,Z.len,(28,pv 6,bh)),af,ae))))) (24,aE (13,g9 (dg c9 (dg c9 ae)),av i7 (2,3) af,(2,4,(2,7,j3 (20,H_law_number,0,(22,(2,1),af,ae)) ae)))))),(13,aD bB (2,3) af,(24,aE (dg c9 (2,4,ae)))),ah (13,uk.pt (iL (aD (KF rfl) (2,3) (aE (dg af (dg af ae))) (by with_unfolding_all rfl)) (gZ (aD jW (2,cb rfl,rfl,Z.len,(28,pv 6,bh)) af))),(24,6,(3,(4,7,cL.nd,(6,(2,6),(18,0,(22,(2,1),af,j3 (2,cb rfl,rfl,Z.len,(28,pv 6,bh)) ae)))),uW (i:=8) cL.nd rfl [22] (js:=[9]) (vars:=[".0","_law_t"]) (cC 9) (by rfl) (by rfl) rfl (cY rfl Z.range (2,cb rfl,rfl,Z.len,(28,pv 2,bh))) (λ_ _ _ _=>(qA cL.nd rfl)) (λ_ _ _ _=>(uk.pt (iL (aD pD (2,9) (2,4)) (iL (aD pD (2,9) (2,7)) (gZ (aD bB (2,cb rfl,rfl,Z.len,aK (PD.look (6,(6,(2,2),(2,9)),af)) bh) af)))))) (λ_ _ _ _=>(2,9)),aj (13,aD jW (2,cb rfl,rfl,Z.len,(28,pv 8,bh)) af,(24,8,(24,aE (dg c9 (2,4,(2,7,(27,8,(18,0,(22,(2,1),af,j3 (2,cb rfl,rfl,Z.len,(28,pv 8,bh)) ae)),ae)))))))))) (24,aE (dg c9 (2,4,j3 (20,H_law_number,0,(22,(2,1),af,ae)) ae))))))))
theorem cK:(23,Ed,jS,lT):=(32,rfl,rfl,rfl)
theorem BD(L:cj K mg "_law_rows" lT jS)(Z:gj mg)(H_law_deed:(3,P,w,K,mg,3,"_law_deed",jT,mm))(H_law_draw:(3,P,w,K,mg,1,"_law_draw",dM,aJ)):(3,P,w,K,mg,4,"_law_rows",jS,mj):=bO (k:=3) L cK λf cdv A outer s H E hr=>(3,(4,4,cK.nd,g9 ae),(9,rfl,cY rfl Z.range (14,(2,2),af),qA cK.nd rfl,(3,(4,6,cK.nd,aE (dg c9 (dg af ae))),(13,aD jW (2,5) af,aj (4,6,cK.nd,aE (22,c9,(6,c9,av i7 (2,5) af),(22,af,(18,0,(22,af,(2,5),dg af ae)),ae)))),(3,(4,7,cK.nd,(14,af,(18,0,(22,af,(2,5),(2,3,ae))))),(4,8,cK.nd,g9 ae),ah (9,rfl,cY rfl Z.range (2,7),qA cK.nd rfl,(3,(4,10,cK.nd,(14,(14,af,av fW af (2,5)),av fW af (2,9))),(4,11,cK.nd,af),ah (13,aD bB (18,0,(22,(2,10),af,dg af ae)) af,aj (4,11,cK.nd,av fW af (18,0,(22,(2,10),af,dq (av m7 af (2,2)) ae)))) (aj (fF (i:=8) (pv 8) (aE (j3 (20,H_law_deed,0,(2,10,(2,1,ae))) (2,11,ae))))))) (24,8,aj (fF (i:=4) (pv 4) (14,(2,6),aE (j3 (jP (gw rfl) rfl Z.tuple L3.ee (2,8,ae)) ae))))))),(24,4,(24,jP (gw rfl) rfl Z.tuple L3.ee (2,4,ae))))
theorem su:(23,Ec,jR,lS):=(32,rfl,rfl,rfl)
theorem BC(L:cj K mg "_law_same" lS jR)(Z:gj mg)  : (3,P,w,K,mg,9,"_law_same",jR,dN):=ES (k:=1) L su (λf G j hj hG cdv A outer s H E hr=>(3,(13,uk.pt (pw (dD (2,rfl,rV _,rfl,rfl,Z.tuple,L3.ee,(2,1))) (m5 (dD (2,rfl,vB _,rfl,rfl,Z.list,L3.kD,(2,1))))),ah (13,uk.pt (pw (aD pD (2,rfl,rV _,rfl,rfl,Z.tuple,L3.ee,(2,0)) (2,rfl,rV _,rfl,rfl,Z.tuple,L3.ee,(2,1))) (m5 (aD pD (2,rfl,vB _,rfl,rfl,Z.list,L3.kD,(2,0)) (2,rfl,vB _,rfl,rfl,Z.list,L3.kD,(2,1))))),(24,y7)) (24,pC (iy bB (2,cb rfl,rfl,Z.len,(28,pv 0,bh)) (2,cb rfl,rfl,Z.len,(28,pv 1,bh))) (rM (rN (F5 rfl rfl) rfl Z.all L3.F7 (b9 (1,[2,3],[".0","_law_one","_law_other"],w4 [2,3],by rfl,rfl,Nv rfl rfl Z.zip (2,0) (2,1),(λ_ _ _ _=>(qz rfl rfl su.nd rfl rfl [22] [22])),(λ_ _ _ _=>(aQ hG hr rfl (2,2,(2,3,ae))))) ae))))),(13,uk.pt (pw (dD (2,rfl,qG _,rfl,rfl,Z.bool,L3.uh,(2,1))) (m5 (dD (2,rfl,qG _,rfl,rfl,Z.bool,L3.uh,(2,0))))),(24,pC (2,rfl,qG _,rfl,rfl,Z.bool,L3.uh,(2,1)) (pC (2,rfl,qG _,rfl,rfl,Z.bool,L3.uh,(2,0)) (rM (iy bB (2,0) (2,1)))))),(3,(13,dD (2,rfl,G4 _,rfl,rfl,Z.int,L3.Mm,(2,1)),(24,pC (2,rfl,G4 _,rfl,rfl,Z.int,L3.Mm,(2,0)) (rM (iy bB (2,0) (2,1))))),(13,FO (2,1),(24,Qe (2,0))),(24,pC (2,rfl,O6 _,rfl,rfl,Z.str,L3.Ra,(2,0)) (rM (iy bB (2,0) (2,1))))))) 8
theorem dB:(23,Eb,jQ,lR):=(32,rfl,rfl,rfl)
theorem BB(L:cj K mg "_law_sets" lR jQ)(Z:gj mg)  : (3,P,w,K,mg,1,"_law_sets",jQ,k6):=bO (k:=0) L dB λf cdv A outer s H E hr=>(3,K8 (i:=3) dB.nd rfl [22] (js:=[5]) (vars:=[".0","_law_k"]) (cC 5) (by rfl) (by rfl) rfl (cY rfl Z.range (14,(2,2),af)) (λ_ _ _ _=>(qA dB.nd rfl)) (λ_ _ _ _=>af),(4,4,dB.nd,af),ah (9,rfl,Kh rfl rfl Z.enumerate (2,1),qz rfl rfl dB.nd rfl rfl [22] [22],(3,(4,7,dB.nd,(6,(14,l5 rfl (2,0) (kX (2,5)) kY,g9 (dg af ae)),af)),(9,rfl,vc rfl Z.range af (14,(2,2),af),qA dB.nd rfl,aj (13,uk.pt (iL (aD bB (av ng (av ua (2,7) (2,8)) af) af) (gZ (aD bB (av ng (av ua (2,4) (2,8)) af) af))),aj (Br (i:=3) (pv 3) (2,8) (14,Qd rfl (aZ (pv 3)) (PD.look (2,8)),af)))),ah (4,4,dB.nd,av zH (2,4) (2,7)) (aj (13,aD bB (6,(2,6),af) c9,aj (4,4,dB.nd,av BA (2,4) (av m7 af (6,(2,6),af))))))) (24,3,(24,(2,3))))
theorem gU:(23,BP,iQ,ke):=(32,rfl,rfl,rfl)
theorem zL(L:cj K mg "_law_words" ke iQ)(Z:gj mg)(H_law_draw:(3,P,w,K,mg,1,"_law_draw",dM,aJ)):(3,P,w,K,mg,2,"_law_words",iQ,kz):=bO (k:=1) L gU λf cdv A outer s H E hr=>(3,(4,4,gU.nd,g9 ae),(9,rfl,cY rfl Z.range (2,2),qA gU.nd rfl,(3,(4,6,gU.nd,af),(13,aD bB (18,0,(22,(2,1),av fW af (2,5),dg af ae)) af,aj (4,6,gU.nd,av fW af (18,0,(22,(14,(2,1),av fW af (2,5)),af,dq (av m7 af (2,3)) ae)))),aj (fF (i:=4) (pv 4) (2,6)))),(24,4,(24,(2,4))))
theorem xU:(23,KQ,mZ,ql):=(32,rfl,rfl,rfl)
theorem HH(L:cj K mg "prompt" ql mZ)(Z:gj mg)  : (3,P,w,K,mg,1,"prompt",mZ,qM):=bO (k:=0) L xU λf cdv A outer s H E hr=>(24,(1,[1],[".0","event"],cC 1,by rfl,rfl,dE rfl (2,0),(λ_ _ _ _=>(qA xU.nd rfl)),(λ_ _ _ _=>(qy (aD bB (6,(2,1),af) c9) (av m7 af (6,(2,1),af)) af))))
theorem DF:(23,HV,jA,oh):=(32,rfl,rfl,rfl)
theorem E1(L:cj K mg "is_word" oh jA)(Z:gj mg)  : (3,P,w,K,mg,1,"is_word",jA,gR):=bO (k:=0) L DF λf cdv A outer s H E hr=>(24,pC (Kw KE rO af (2,1) (av m7 af (14,(2,0),af))) (rM (iy bB (av ng (2,1) af) af)))
theorem lO:(23,BN,iP,kb):=(32,rfl,rfl,rfl)
theorem zJ(L:cj K mg "starts_of" kb iP)(Z:gj mg)  : (3,P,w,K,mg,1,"starts_of",iP,ky):=bO (k:=0) L lO λf cdv A outer s H E hr=>(3,(4,1,lO.nd,g9 ae),(9,rfl,dE rfl (2,0),qA lO.nd rfl,aj (DO (i:=1) rfl (pv 1) (6,(2,2),af))),(24,1,(24,jP (gw rfl) rfl Z.tuple L3.ee (2,1,ae))))
theorem qh:(23,BU,iS,kl):=(32,rfl,rfl,rfl)
theorem zP(L:eD K mg cls "Machine" "Machine" "Machine.__init__" kl iS)(Z:gj mg)(H_starts_of:(3,P,w,K,mg,1,"starts_of",iP,ky))(H_fld_contents:∀c∈["Machine"],fB K [37]/\aY K [37] "contents")(H_fld_frames:∀c∈["Machine"],fB K [37]/\aY K [37] "frames")(H_fld_program:∀c∈["Machine"],fB K [37]/\aY K [37] "program")(H_fld_ranks:∀c∈["Machine"],fB K [37]/\aY K [37] "ranks")(H_fld_rung:∀c∈["Machine"],fB K [37]/\aY K [37] "rung"):cR P w K mg base [32] 2 "Machine" "Machine" iS oz:=du (k:=1) L qh [13] λf cdv A outer s H E hr=>(ck (kJ (cs:=["Machine"]) rfl H_fld_program (pv 0) (2,1)) (ck (kJ (cs:=["Machine"]) rfl H_fld_ranks (pv 0) (jP (gw rfl) rfl Z.tuple L3.ee (b9 (1,[2],[".0","row"],cC 2,by rfl,rfl,dE rfl (6,(2,1),af),(λ_ _ _ _=>(qA qh.nd rfl)),(λ_ _ _ _=>(6,(2,2),af))) ae))) (ck (kJ (cs:=["Machine"]) rfl H_fld_rung (pv 0) af) (ck (kJ (cs:=["Machine"]) rfl H_fld_frames (pv 0) (aE (38,dg af (dg af (dg af (38,ae,ae))),ae))) (ck (kJ (cs:=["Machine"]) rfl H_fld_contents (pv 0) (12,H_starts_of,(27,1,af,ae))) gB)))))
theorem rG:(23,tq,eV,gA):=(32,rfl,rfl,rfl)
theorem rQ(L:cW K cls "cells" "Machine.cells" gA eV ["Machine"])(Z:gj mg)(H_fld_contents:∀c∈["Machine"],fB K [37]/\aY K [37] "contents"):mG P w K mg base [32] 1 "cells" eV gD "Machine" := m8 (k:=0) L rG [13] λf cdv A outer s H E hr=>(aj (mU (j:=0) (3,0,rfl,H_fld_contents,pv 0)))
theorem mD:(23,vv,fI,gX):=(32,rfl,rfl,rfl)
theorem tj(L:cW K cls "idle" "Machine.idle" gX fI ["Machine"])(Z:gj mg)(H_fld_frames:∀c∈["Machine"],fB K [37]/\aY K [37] "frames")(H_fld_program:∀c∈["Machine"],fB K [37]/\aY K [37] "program")(H_fld_rung:∀c∈["Machine"],fB K [37]/\aY K [37] "rung"):mG P w K mg base [32] 1 "idle" fI fK "Machine" := m8 (k:=0) L mD [13] λf cdv A outer s H E hr=>(ah (4,1,mD.nd,(6,(6,(6,(3,0,rfl,H_fld_program,pv 0),af),af),af)) (aj (mU (j:=0) (pC (iy bB (3,0,rfl,H_fld_rung,pv 0) af) (rM (iy (NK (n:=3) rfl (QN hr)) (3,0,rfl,H_fld_frames,pv 0) (aE (38,dg af (j3 (2,cb rfl,rfl,Z.len,(28,pv 1,bh)) (dg af (38,ae,ae))),ae))))))))
theorem uP:(23,I0,lq,oq):=(32,rfl,rfl,rfl)
theorem E6(L:cj K mg "bits_of" oq lq)(Z:gj mg)  : (3,P,w,K,mg,1,"bits_of",lq,lC):=bO (k:=0) L uP λf cdv A outer s H E hr=>(24,y6 (js:=[1]) (vars:=[".0","bit"]) (cC 1) (by rfl) (by rfl) rfl (cY rfl Z.range (HB (2,0))) (λ_ _ _ _=>(qA uP.nd rfl)) (λ_ _ _ _=>(Nj rfl (av ng (av ua (2,0) (2,1)) af))) (λ_ _ _ _=>(2,1)))
theorem tY:(23,Qw,ve,zr):=(32,rfl,rfl,rfl)
theorem NR(L:cj K mg "best" zr ve)(Z:gj mg)(H_bits_of:(3,P,w,K,mg,1,"bits_of",lq,lC)):(3,P,w,K,mg,2,"best",ve,vM):=bO (k:=1) L tY λf cdv A outer s H E hr=>(3,(4,4,tY.nd,af),(9,rfl,dE rfl (20,H_bits_of,1,ae),qA tY.nd rfl,aj (13,uk.pt (iL (aD bB (av ng (av ua (2,3) (2,5)) af) af) (gZ (aD jW (6,(2,0),(2,5)) (rN (OA rfl) rfl Z.max L3.Rb (2,2,(27,0,(2,4),ae)))))),aj (4,4,tY.nd,(2,5)))),(24,(2,4)))
theorem zk:(23,BO,eG,kd):=(32,rfl,rfl,rfl)
theorem zK(L:cj K mg "places_of" kd eG)(Z:gj mg)  : (3,P,w,K,mg,1,"places_of",eG,cN):=bO (k:=0) L zk λf cdv A outer s H E hr=>(24,(6,(6,(6,(2,0),af),(2,1)),af))
theorem uL:(23,HQ,l6,o6):=(32,rfl,rfl,rfl)
theorem DW(L:cj K mg "word_at" o6 l6)(Z:gj mg)(H_places_of:(3,P,w,K,mg,1,"places_of",eG,cN)):(3,P,w,K,mg,2,"word_at",l6,oB):=bO (k:=1) L uL λf cdv A outer s H E hr=>(ah (4,3,uL.nd,(20,H_places_of,0,(2,1,ae))) (24,qy (aD rO (2,2) (2,cb rfl,rfl,Z.len,(28,pv 3,bh))) (6,(6,(2,3),(2,2)),af) af))
theorem lP:(23,HU,lg,og):=(32,rfl,rfl,rfl)
theorem DZ(L:cj K mg "shut_by" og lg)(Z:gj mg)(H_word_at:(3,P,w,K,mg,2,"word_at",l6,oB)):(3,P,w,K,mg,3,"shut_by",lg,oE):=bO (k:=2) L lP λf cdv A outer s H E hr=>(3,(4,2,lP.nd,af),(9,rfl,dE rfl (2,1),qA lP.nd rfl,aj (4,2,lP.nd,av zH (2,2) (20,H_word_at,0,(27,3,af,(27,3,af,ae))))),(24,(2,2)))
theorem DI:(23,HZ,gP,oo):=(32,rfl,rfl,rfl)
theorem E5(L:cj K mg "deed_at" oo gP)(Z:gj mg)(H_places_of:(3,P,w,K,mg,1,"places_of",eG,cN)):(3,P,w,K,mg,2,"deed_at",gP,dz):=bO (k:=1) L DI λf cdv A outer s H E hr=>(24,(6,(6,(20,H_places_of,0,(2,1,ae)),(2,2)),af))
theorem zl:(23,BR,gN,ki):=(32,rfl,rfl,rfl)
theorem zN(L:cj K mg "is_at_end" ki gN)(Z:gj mg)(H_places_of:(3,P,w,K,mg,1,"places_of",eG,cN)):(3,P,w,K,mg,2,"is_at_end",gN,cO):=bO (k:=1) L zl λf cdv A outer s H E hr=>(24,iy bB (6,(2,1),af) (2,cb rfl,rfl,Z.len,aK (PD.look (20,H_places_of,0,(27,1,af,ae))) bh))
theorem mC:(23,vq,fG,gW):=(32,rfl,rfl,rfl)
theorem t6(L:cj K mg "none_watched" gW fG)(Z:gj mg)(H_deed_at:(3,P,w,K,mg,2,"deed_at",gP,dz))(H_places_of:(3,P,w,K,mg,1,"places_of",eG,cN)):(3,P,w,K,mg,3,"none_watched",fG,ie):=bO (k:=2) L mC λf cdv A outer s H E hr=>(3,(4,2,mC.nd,qy (aD bB (6,(2,1),af) af) (6,(2,1),af) (14,(6,(2,1),af),af)),(13,uk.pt (pw (aD bB (2,2) (2,cb rfl,rfl,Z.len,aK (PD.look (20,H_places_of,0,(27,1,af,ae))) bh)) (m5 (aD pD (6,(20,H_deed_at,0,(27,1,af,(2,2,ae))),af) c9))),(24,Ku)),(24,(2,2)))
theorem DE:(23,HS,l9,oa):=(32,rfl,rfl,rfl)
theorem DY(L:cj K mg "size_of" oa l9)(Z:gj mg)  : (3,P,w,K,mg,1,"size_of",l9,jE):=bO (k:=0) L DE λf cdv A outer s H E hr=>(24,(2,cb rfl,rfl,Z.len,aK (PD.look (6,(6,(2,0),(2,1)),af)) bh))
theorem mO:(23,Eh,gI,lX):=(32,rfl,rfl,rfl)
theorem BH(L:cj K mg "cells_of" lX gI)(Z:gj mg)(H_size_of:(3,P,w,K,mg,1,"size_of",l9,jE)):(3,P,w,K,mg,2,"cells_of",gI,dh):=bO (k:=1) L mO λf cdv A outer s H E hr=>(ah (4,2,mO.nd,rN (R7 rfl rfl) rfl Z.sum L3.R9 (b9 (1,[3],[".0","k"],cC 3,by rfl,rfl,cY rfl Z.range (2,1),(λ_ _ _ _=>(qA mO.nd rfl)),(λ_ _ _ _=>(20,H_size_of,0,(2,3,ae)))) ae)) (24,zE rfl rfl Z.list rfl Z.range (2,2) (14,(2,2),(20,H_size_of,0,(2,1,ae)))))
theorem kI:(23,zS,hU,bR):=(32,rfl,rfl,rfl)
theorem N6:k9 KU lam0:=vz rfl rfl rfl [17] rfl [17] [17] [17]
theorem NQ(Z:gj mg):pd P w K mg base [32] 1 0 LO:=EB (j:=0) (N:=KU) (L:=lam0) N6 (λ_ _ _ _ _=>rfl) (Aj rfl) Ai λA outer s H f c clos hr=>y7
theorem FG:k9 KS lam1:=vz rfl rfl rfl [17] rfl [17] [17] [17]
theorem NP(Z:gj mg):pd P w K mg base [32] 1 1 EU:=EB (j:=0) (N:=KS) (L:=lam1) FG (λ_ _ _ _ _=>rfl) (Aj rfl) Ai λA outer s H f c clos hr=>(rN (F5 rfl rfl) rfl Z.all L3.F7 (b9 (1,[3,4],[".0","a","b"],w4 [3,4],by rfl,rfl,dE rfl (2,2),(λ_ _ _ _=>(qz rfl rfl FG.nd rfl rfl [22] [22])),(λ_ _ _ _=>(iy bB (6,(2,0),(2,3)) (14,(6,(2,0),(2,4)),(2,1))))) ae))
theorem FF:k9 KR lam2:=vz rfl rfl rfl [17] rfl [17] [17] [17]
theorem NO(Z:gj mg):pd P w K mg base [32] 1 2 ET:=EB (j:=0) (N:=KR) (L:=lam2) FF (λ_ _ _ _ _=>rfl) (Aj rfl) Ai λA outer s H f c clos hr=>(rN (F5 rfl rfl) rfl Z.all L3.F7 (b9 (1,[3,4],[".0","a","b"],w4 [3,4],by rfl,rfl,dE rfl (2,2),(λ_ _ _ _=>(qz rfl rfl FF.nd rfl rfl [22] [22])),(λ_ _ _ _=>(iy KE (6,(2,0),(2,3)) (14,(6,(2,0),(2,4)),(2,1))))) ae))
theorem NN(Z:gj mg):∀k F,Rr k=(1,F)->pd P w K mg base [32] 1 k F:=λk F e=>by
 unfold Rr at e;split at e
 ·cases e;exact NQ Z
 ·cases e;exact NP Z
 ·cases e;exact NO Z
 ·cases e
theorem Oh:∀k L,lams k=(1,L)->L.fv.Nodup/\∀y∈L.fv,(ai bR).names.lookup y=[67]:=λk L e=>by
 unfold lams at e;split at e
 ·cases e;exact(3,by decide +kernel,by decide +kernel)
 ·cases e;exact(3,by decide +kernel,by decide +kernel)
 ·cases e;exact(3,by decide +kernel,by decide +kernel)
 ·cases e
theorem xa(L:GL K mg "promise_of" bR hU CC)(hC:PySem.W.CodeHd base CC PT)(hB:D6 mg base)(Z:gj mg)(H_cells_of:(3,P,w,K,mg,2,"cells_of",gI,dh)):(3,P,w,K,mg,3,"promise_of",hU,ic):=LJ (k:=2) L kI Oh λf A outer s H E hr=>(Kd (aD (HD rfl) (6,(2,1),af) (aE (dg c9 (dg c9 ae))) (by with_unfolding_all rfl)) (zx (L:=lam0) (P:=PT) (cc:=CC) (good:=good) rfl rfl (show ∀y∈lam0.fv,(ai bR).names.lookup y=[67] from by decide +kernel) F3 rX hC rfl hB (show("promise_of":Str) ++ ".<locals>." ++ "<lambda>" = lam0.qual from by decide +kernel) rfl rfl rfl) (FQ (4,2,kI.nd,DT rfl rfl rfl Z.list rfl Z.zip (20,H_cells_of,0,(27,1,af,ae)) (20,H_cells_of,0,(27,1,af,ae))) (FQ (4,3,kI.nd,(6,(2,1),af)) (Kd (aD bB (6,(2,1),af) c9) (zx (L:=lam1) (P:=PT) (cc:=CC) (good:=good) rfl rfl (show ∀y∈lam1.fv,(ai bR).names.lookup y=[67] from by decide +kernel) F3 rX hC rfl hB (show("promise_of":Str) ++ ".<locals>." ++ "<lambda>" = lam1.qual from by decide +kernel) rfl rfl rfl) (zx (L:=lam2) (P:=PT) (cc:=CC) (good:=good) rfl rfl (show ∀y∈lam2.fv,(ai bR).names.lookup y=[67] from by decide +kernel) F3 rX hC rfl hB (show("promise_of":Str) ++ ".<locals>." ++ "<lambda>" = lam2.qual from by decide +kernel) rfl rfl rfl)))))
theorem Hj:(23,KZ,gu,qp):=(32,rfl,rfl,rfl)
theorem HK(L:eD K mg cls "Deed" "Deed" "Deed.__init__" qp gu)(Z:gj mg)(H_fld_plan:∀c∈["Deed","Promise","Comparing","Untouched","Still","Put","Copy","Tick","Handed","Grow","Anew"],fB K [37]/\aY K [37] "plan"):cR P w K mg base [32] 1 "Deed" "Deed" gu ia:=du (k:=0) L Hj [13] λf cdv A outer s H E hr=>(ck (kJ (cs:=["Deed","Promise","Comparing","Untouched","Still","Put","Copy","Tick","Handed","Grow","Anew"]) rfl H_fld_plan (pv 0) (2,1)) gB)
theorem mN:(23,Eg,iA,lW):=(32,rfl,rfl,rfl)
theorem BG(L:eD K mg cls "Handed" "Handed" "Handed.__init__" lW iA)(Z:gj mg)(H_i_Deed:cR P w K mg base [32] 1 "Deed" "Deed" gu ia):cR P w K mg base [32] 2 "Handed" "Handed" iA lu:=du (k:=1) L mN [13] λf cdv A outer s H E hr=>(ck (iK H_i_Deed [26] rfl (pv 0) (22,(1,[3],[".0","cell"],cC 3,by rfl,rfl,dE rfl (2,1),(λ_ _ _ _=>(qA mN.nd rfl)),(λ_ _ _ _=>(aE (38,(2,3,ae),(38,ae,ae))))),(1,[3],[".0","cell"],cC 3,by rfl,rfl,dE rfl (2,2),(λ_ _ _ _=>(qA mN.nd rfl)),(λ_ _ _ _=>(aE (38,ae,(38,(2,3,ae),ae))))),ae)) gB)
theorem Hk:(23,L1,n8,qt):=(32,rfl,rfl,rfl)
theorem HM(L:eD K mg cls "Anew" "Anew" "Anew.__init__" qt n8)(Z:gj mg)(H_fld_check:∀c∈["Anew"],fB K [37]/\aY K [37] "check")(H_i_Handed:cR P w K mg base [32] 2 "Handed" "Handed" iA lu):cR P w K mg base [32] 3 "Anew" "Anew" n8 EK:=du (k:=2) L Hk [13] λf cdv A outer s H E hr=>(ck (iK H_i_Handed [26] rfl (pv 0) (22,(14,g9 (2,3,ae),(2,2)),g9 (2,3,ae),(2,1,ae))) (ck (kJ (cs:=["Anew"]) rfl H_fld_check (pv 0) (14,(2,cb rfl,rfl,Z.len,(28,pv 2,bh)),af)) gB))
theorem zm:(23,BS,gO,kj):=(32,rfl,rfl,rfl)
theorem zO(L:eD K mg cls "Promise" "Promise" "Promise.__init__" kj gO)(Z:gj mg)(H_i_Deed:cR P w K mg base [32] 1 "Deed" "Deed" gu ia):cR P w K mg base [32] 2 "Promise" "Promise" gO jD:=du (k:=1) L zm [13] λf cdv A outer s H E hr=>(ck (iK H_i_Deed [26] rfl (pv 0) (b9 (g9 (38,j3 (jP (gw rfl) rfl Z.tuple L3.ee (2,1,ae)) (38,ae,ae),ae)) ae)) gB)
theorem uO:(23,xm,gv,iH):=(32,rfl,rfl,rfl)
theorem vi(L:eD K mg cls "Comparing" "Comparing" "Comparing.__init__" iH gv)(Z:gj mg)(H_i_Promise:cR P w K mg base [32] 2 "Promise" "Promise" gO jD):cR P w K mg base [32] 3 "Comparing" "Comparing" gv ny:=du (k:=2) L uO [13] λf cdv A outer s H E hr=>(ck (iK H_i_Promise [26] rfl (pv 0) (j3 (zD rfl rfl rfl Z.sorted rfl Z.set (14,(2,1),(2,2))) ae)) gB)
theorem xV:(23,L0,n6,qr):=(32,rfl,rfl,rfl)
theorem HL(L:eD K mg cls "Copy" "Copy" "Copy.__init__" qr n6)(Z:gj mg)(H_i_Deed:cR P w K mg base [32] 1 "Deed" "Deed" gu ia):cR P w K mg base [32] 2 "Copy" "Copy" n6 EJ:=du (k:=1) L xV [13] λf cdv A outer s H E hr=>(ck (iK H_i_Deed [26] rfl (pv 0) (b9 (1,[3],[".0","k"],cC 3,by rfl,rfl,cY rfl Z.range (2,cb rfl,rfl,Z.len,(28,pv 1,bh)),(λ_ _ _ _=>(qA xV.nd rfl)),(λ_ _ _ _=>(aE (38,(27,2,(2,3),ae),(38,(27,1,(2,3),ae),ae))))) ae)) gB)
theorem Hi:(23,KY,n5,qo):=(32,rfl,rfl,rfl)
theorem HJ(L:eD K mg cls "Grow" "Grow" "Grow.__init__" qo n5)(Z:gj mg)(H_fld_number:∀c∈["Grow"],fB K [37]/\aY K [37] "number")(H_fld_size:∀c∈["Grow"],fB K [37]/\aY K [37] "size")(H_i_Handed:cR P w K mg base [32] 2 "Handed" "Handed" iA lu):cR P w K mg base [32] 3 "Grow" "Grow" n5 EI:=du (k:=2) L Hi [13] λf cdv A outer s H E hr=>(ck (iK H_i_Handed [26] rfl (pv 0) (2,1,(2,1,ae))) (ck (kJ (cs:=["Grow"]) rfl H_fld_size (pv 0) (2,cb rfl,rfl,Z.len,(28,pv 1,bh))) (ck (kJ (cs:=["Grow"]) rfl H_fld_number (pv 0) (2,2)) gB)))
theorem Bd:(23,NX,qB,tZ):=(32,rfl,rfl,rfl)
theorem KJ(L:eD K mg cls "Put" "Put" "Put.__init__" tZ qB)(Z:gj mg)(H_fld_numbers:∀c∈["Put"],fB K [37]/\aY K [37] "numbers")(H_i_Deed:cR P w K mg base [32] 1 "Deed" "Deed" gu ia):cR P w K mg base [32] 2 "Put" "Put" qB Lo:=du (k:=1) L Bd [13] λf cdv A outer s H E hr=>(ck (iK H_i_Deed [26] rfl (pv 0) (b9 (1,[3],[".0","cell"],cC 3,by rfl,rfl,dE rfl (2,1),(λ_ _ _ _=>(qA Bd.nd rfl)),(λ_ _ _ _=>(aE (38,ae,(38,(2,3,ae),ae))))) ae)) (ck (kJ (cs:=["Put"]) rfl H_fld_numbers (pv 0) (jP (gw rfl) rfl Z.tuple L3.ee (2,2,ae))) gB))
theorem DG:(23,HW,lh,oi):=(32,rfl,rfl,rfl)
theorem E2(L:eD K mg cls "Still" "Still" "Still.__init__" oi lh)(Z:gj mg)(H_i_Deed:cR P w K mg base [32] 1 "Deed" "Deed" gu ia):cR P w K mg base [32] 2 "Still" "Still" lh Af:=du (k:=1) L DG [13] λf cdv A outer s H E hr=>(ck (iK H_i_Deed [26] rfl (pv 0) (dq (Qc (g9 (38,(38,ae,(38,ae,ae)),ae)) (2,1)) ae)) gB)
theorem Hh:(23,KW,n0,qm):=(32,rfl,rfl,rfl)
theorem HI(L:eD K mg cls "Tick" "Tick" "Tick.__init__" qm n0)(Z:gj mg)(H_i_Deed:cR P w K mg base [32] 1 "Deed" "Deed" gu ia):cR P w K mg base [32] 2 "Tick" "Tick" n0 EH:=du (k:=1) L Hh [13] λf cdv A outer s H E hr=>(ck (iK H_i_Deed [26] rfl (pv 0) (b9 (g9 (38,(38,(2,1,ae),(38,(2,1,ae),ae)),ae)) ae)) gB)
theorem uN:(23,xl,gq,iG):=(32,rfl,rfl,rfl)
theorem vh(L:eD K mg cls "Untouched" "Untouched" "Untouched.__init__" iG gq)(Z:gj mg)(H_i_Promise:cR P w K mg base [32] 2 "Promise" "Promise" gO jD):cR P w K mg base [32] 3 "Untouched" "Untouched" gq nu:=du (k:=2) L uN [13] λf cdv A outer s H E hr=>(ck (iK H_i_Promise [26] rfl (pv 0) (b9 (g9 ae) ae)) gB)
theorem lQ:(23,HY,jB,om):=(32,rfl,rfl,rfl)
theorem E4(L:cj K mg "deed_of" om jB)(Z:gj mg)(H_cells_of:(3,P,w,K,mg,2,"cells_of",gI,dh))(H_i_Anew:cR P w K mg base [32] 3 "Anew" "Anew" n8 EK)(H_i_Comparing:cR P w K mg base [32] 3 "Comparing" "Comparing" gv ny)(H_i_Copy:cR P w K mg base [32] 2 "Copy" "Copy" n6 EJ)(H_i_Grow:cR P w K mg base [32] 3 "Grow" "Grow" n5 EI)(H_i_Put:cR P w K mg base [32] 2 "Put" "Put" qB Lo)(H_i_Still:cR P w K mg base [32] 2 "Still" "Still" lh Af)(H_i_Tick:cR P w K mg base [32] 2 "Tick" "Tick" n0 EH)(H_i_Untouched:cR P w K mg base [32] 3 "Untouched" "Untouched" gq nu):(3,P,w,K,mg,5,"deed_of",jB,jF):=bO (k:=4) L lQ λf cdv A outer s H E hr=>(3,(4,2,lQ.nd,(6,(2,1),af)),(13,aD bB (2,2) c9,(24,kr H_i_Still [26] rfl (27,1,af,ae))),(3,(13,aD bB (2,2) c9,(24,Kv H_i_Untouched [26] rfl)),(4,3,lQ.nd,(20,H_cells_of,0,(27,1,af,ae))),(3,(13,aD bB (2,2) c9,(24,3,(24,kr H_i_Put [26] rfl (2,3,(27,1,af,ae))))),(13,aD bB (2,2) c9,(24,3,(24,kr H_i_Grow [26] rfl (2,3,(27,1,af,ae))))),(3,(13,aD bB (2,2) c9,(24,3,(24,kr H_i_Tick [26] rfl (27,3,af,ae)))),(4,4,lQ.nd,(20,H_cells_of,0,(27,1,af,ae))),(3,(13,aD bB (2,2) c9,(24,4,(24,3,(24,kr H_i_Copy [26] rfl (2,3,(2,4,ae)))))),(13,aD bB (2,2) c9,(24,4,(24,3,(24,kr H_i_Anew [26] rfl (2,3,(2,4,(13,(20,H_cells_of,0,(27,1,af,ae)),af,ae))))))),(24,4,(24,3,(24,kr H_i_Comparing [26] rfl (2,3,(2,4,ae))))))))))
theorem wY:(23,zX,dF,jk):=(32,rfl,rfl,rfl)
theorem xh(L:(2,K,cls,"reads","Deed.reads",jk,dF))(Z:gj mg)(H_fld_plan:∀c∈["Deed","Promise","Comparing","Untouched","Still","Put","Copy","Tick","Handed","Grow","Anew"],fB K [37]/\aY K [37] "plan"):(1,P,w,K,mg,base,[32],1,"reads",dF,dI):=dZ (k:=0) L wY λf cdv A outer s H E hr=>(24,jP (qW rfl) rfl Z.list L3.kD (13,(6,(25,rfl,H_fld_plan,(2,0)),(2,1)),af,ae))
theorem uR:(23,xo,cI,iJ):=(32,rfl,rfl,rfl)
theorem vk(L:(2,K,cls,"writes","Deed.writes",iJ,cI))(Z:gj mg)(H_fld_plan:∀c∈["Deed","Promise","Comparing","Untouched","Still","Put","Copy","Tick","Handed","Grow","Anew"],fB K [37]/\aY K [37] "plan"):(1,P,w,K,mg,base,[32],1,"writes",cI,cJ):=dZ (k:=0) L uR λf cdv A outer s H E hr=>(24,jP (qW rfl) rfl Z.list L3.kD (13,(6,(25,rfl,H_fld_plan,(2,0)),(2,1)),af,ae))
theorem lN:(23,HR,l8,o9):=(32,rfl,rfl,rfl)
theorem DX(L:cj K mg "touches" o9 l8)(Z:gj mg)(H_cells_of:(3,P,w,K,mg,2,"cells_of",gI,dh))(H_deed_at:(3,P,w,K,mg,2,"deed_at",gP,dz))(H_deed_of:(3,P,w,K,mg,5,"deed_of",jB,jF))(H_Deed_reads:(1,P,w,K,mg,base,[32],1,"reads",dF,dI))(H_Deed_writes:(1,P,w,K,mg,base,[32],1,"writes",cI,cJ)):(3,P,w,K,mg,6,"touches",l8,oC):=bO (k:=5) L lN λf cdv A outer s H E hr=>(ah (4,3,lN.nd,(12,H_deed_of,(27,0,af,j3 (20,H_deed_at,0,(27,1,af,(27,1,af,ae))) ae))) (24,3,ah (4,4,lN.nd,(14,(12,fC,c5 H_Deed_reads [26] dS,3,(27,1,af,ae)),(12,df,c5 H_Deed_writes [26] dS,3,(27,1,af,ae)))) (24,4,(24,rN (R8 rfl rfl) rfl Z.any L3.Rc (b9 (1,[5],[".0","cell"],cC 5,by rfl,rfl,dE rfl (12,H_cells_of,(27,0,af,(2,2,ae))),(λ_ _ _ _=>(qA lN.nd rfl)),(λ_ _ _ _=>(iy (KF rfl) (2,5) (2,4) (by with_unfolding_all rfl)))) ae)))))
theorem gV:(23,BV,iT,km):=(32,rfl,rfl,rfl)
theorem zQ(L:cj K mg "broken_by" km iT)(Z:gj mg)(H_deed_at:(3,P,w,K,mg,2,"deed_at",gP,dz))(H_is_at_end:(3,P,w,K,mg,2,"is_at_end",gN,cO))(H_none_watched:(3,P,w,K,mg,3,"none_watched",fG,ie))(H_promise_of:(3,P,w,K,mg,3,"promise_of",hU,ic))(H_touches:(3,P,w,K,mg,6,"touches",l8,oC))(H_lams:∀k F,Rr k=(1,F)->pd P w K mg base [32] 1 k F):(3,P,w,K,mg,7,"broken_by",iT,iX):=bO (k:=6) L gV λf cdv A outer s H E hr=>(3,(4,3,gV.nd,(6,(2,1),pB)),(13,dD (20,H_is_at_end,0,(2,3,ae)),(24,aE ae)),(3,(4,4,gV.nd,g9 ae),(9,rfl,dE rfl (l5 rfl (2,1) kY (kX pB)),qA gV.nd rfl,ah (4,6,gV.nd,(20,H_none_watched,0,(2,5,ae))) (aj (13,uk.pt (iL (K0 (2,6)) (gZ (dD (20,H_touches,0,(2,3,(13,(20,H_deed_at,0,(27,5,af,(2,6,ae))),af,ae)))))),aj (fF (i:=4) (pv 4) (aE (27,5,af,(2,6,ae))))))),ah (13,ko (dD (Kx (T:=Rr) (λk F e=>(11,1,[8],H_lams k F e)) (12,H_promise_of,(27,0,af,j3 (20,H_deed_at,0,(27,3,af,(27,3,af,ae))) ae)) (b9 (2,2) ae))),aj (fF (i:=4) (pv 4) (aE (27,3,af,(27,3,af,ae))))) (24,4,(24,jP (gw rfl) rfl Z.tuple L3.ee (2,4,ae)))))
theorem uQ:(23,xn,f9,iI):=(32,rfl,rfl,rfl)
theorem vj(L:cW K cls "laid" "Handed.laid" iI f9 ["Handed","Grow","Anew"])(Z:gj mg)(H_Deed_reads:(1,P,w,K,mg,base,[32],1,"reads",dF,dI)):cQ P w K mg base [32] 2 "laid" f9 ff ["Handed","Grow","Anew"]:=dZ (k:=1) L uQ λf cdv A outer s H E hr=>(24,aE (2,2,(22,(2,3),aE (27,2,(6,(12,fC,c5 H_Deed_reads [26] dS,0,(2,1,ae)),af),ae),(22,(2,1),af,ae))))
theorem DD:(23,HP,gM,o5):=(32,rfl,rfl,rfl)
theorem DV(L:cj K mg "written" o5 gM)(Z:gj mg)  : (3,P,w,K,mg,1,"written",gM,fb):=bO (k:=0) L DD λf cdv A outer s H E hr=>(24,(14,(14,l5 rfl (2,0) kY (kX (2,1)),aE (2,2,ae)),l5 rfl (2,0) (kX (14,(2,1),af)) kY))
theorem wX:(23,zW,fV,jj):=(32,rfl,rfl,rfl)
theorem xg(L:(2,K,cls,"turns","Deed.turns",jj,fV))(Z:gj mg)(H_fld_plan:∀c∈["Deed","Promise","Comparing","Untouched","Still","Put","Copy","Tick","Handed","Grow","Anew"],fB K [37]/\aY K [37] "plan"):(1,P,w,K,mg,base,[32],1,"turns",fV,fY):=dZ (k:=0) L wX λf cdv A outer s H E hr=>(24,(2,cb rfl,rfl,Z.len,aK (PD.look (25,rfl,H_fld_plan,(2,0))) bh))
theorem gF:(23,qD,cT,fk):=(32,rfl,rfl,rfl)
theorem pE(L:cW K cls "set_down" "Handed.set_down" fk cT ["Handed","Grow","Anew"])(Z:gj mg)(H_written:(3,P,w,K,mg,1,"written",gM,fb))(H_Deed_turns:(1,P,w,K,mg,base,[32],1,"turns",fV,fY))(H_Deed_writes:(1,P,w,K,mg,base,[32],1,"writes",cI,cJ)):cQ P w K mg base [32] 2 "set_down" cT cU ["Handed","Grow","Anew"]:=dZ (k:=1) L gF λf cdv A outer s H E hr=>(3,(4,5,gF.nd,(14,(2,1),af)),(4,6,gF.nd,qy (aD bB (2,5) (Bw (tb:=iN) (c5 H_Deed_turns [26] dS) (2,0))) (aE ae) (2,3)),(24,aE (j3 (20,H_written,2,(13,(12,df,c5 H_Deed_writes [26] dS,0,(2,1,ae)),af,(2,4,ae))) (2,6,(2,5,ae)))))
theorem x6:(23,A0,i6,jn):=(32,rfl,rfl,rfl)
theorem xk(L:cW K cls "after" "Anew.after" jn i6 ["Anew"])(Z:gj mg)(H_fld_check:∀c∈["Anew"],fB K [37]/\aY K [37] "check")(H_Deed_reads:(1,P,w,K,mg,base,[32],1,"reads",dF,dI))(H_Handed_laid:cQ P w K mg base [32] 2 "laid" f9 ff ["Handed","Grow","Anew"])(H_Handed_set_down:cQ P w K mg base [32] 2 "set_down" cT cU ["Handed","Grow","Anew"]):cQ P w K mg base [32] 3 "after" i6 ju ["Anew"]:=dZ (k:=2) L x6 λf cdv A outer s H E hr=>(3,(13,aD rO (2,1) (kK (cs:=["Anew"]) rfl H_fld_check (2,0)),(24,(12,o4,c5 H_Handed_laid [26] dS,0,(2,1,(2,2,(2,3,ae)))))),(13,aD jW (2,1) (kK (cs:=["Anew"]) rfl H_fld_check (2,0)),(24,(12,gK,c5 H_Handed_set_down [26] dS,0,(2,1,(2,2,(2,3,(27,3,av i7 (2,1) (kK (cs:=["Anew"]) rfl H_fld_check (2,0)),ae))))))),ah (13,aD bB (6,(2,2),(6,(12,fC,c5 H_Deed_reads [26] dS,0,(2,1,ae)),af)) (6,(2,3),af),(24,aE (2,2,(2,3,(22,(2,1),af,ae))))) (24,aE (2,2,(38,ae,dg af ae))))
theorem oU:(23,zZ,i5,jm):=(32,rfl,rfl,rfl)
theorem xj(L:cW K cls "after" "Copy.after" jm i5 ["Copy"])(Z:gj mg)(H_written:(3,P,w,K,mg,1,"written",gM,fb))(H_Deed_reads:(1,P,w,K,mg,base,[32],1,"reads",dF,dI))(H_Deed_writes:(1,P,w,K,mg,base,[32],1,"writes",cI,cJ)):cQ P w K mg base [32] 2 "after" i5 jt ["Copy"]:=dZ (k:=1) L oU λf cdv A outer s H E hr=>(ah (4,4,oU.nd,(6,(2,2),(6,(12,fC,c5 H_Deed_reads [26] dS,0,(2,1,ae)),af))) (24,aE (j3 (20,H_written,2,(13,(12,df,c5 H_Deed_writes [26] dS,0,(2,1,ae)),af,(2,4,ae))) (2,3,(22,(2,1),af,ae)))))
theorem wZ:(23,zY,i0,jl):=(32,rfl,rfl,rfl)
theorem xi(L:cW K cls "after" "Deed.after" jl i0 ["Deed","Promise","Comparing","Untouched","Still","Handed"])(Z:gj mg)  : cQ P w K mg base [32] 1 "after" i0 eM ["Deed","Promise","Comparing","Untouched","Still","Handed"]:=dZ (k:=0) L wZ λf cdv A outer s H E hr=>(24,aE (2,2,(2,3,(22,(2,1),af,ae))))
theorem wW:(23,zV,hZ,ji):=(32,rfl,rfl,rfl)
theorem xf(L:cW K cls "after" "Grow.after" ji hZ ["Grow"])(Z:gj mg)(H_fld_number:∀c∈["Grow"],fB K [37]/\aY K [37] "number")(H_fld_size:∀c∈["Grow"],fB K [37]/\aY K [37] "size")(H_Handed_laid:cQ P w K mg base [32] 2 "laid" f9 ff ["Handed","Grow","Anew"])(H_Handed_set_down:cQ P w K mg base [32] 2 "set_down" cT cU ["Handed","Grow","Anew"]):cQ P w K mg base [32] 3 "after" hZ jr ["Grow"]:=dZ (k:=2) L wW λf cdv A outer s H E hr=>(ah (13,aD rO (2,1) (kK (cs:=["Grow"]) rfl H_fld_size (2,0)),(24,(12,o4,c5 H_Handed_laid [26] dS,0,(2,1,(2,2,(2,3,ae)))))) (24,(12,gK,c5 H_Handed_set_down [26] dS,0,(2,1,(2,2,(2,3,(22,(6,(2,3),av i7 (2,1) (kK (cs:=["Grow"]) rfl H_fld_size (2,0))),kK (cs:=["Grow"]) rfl H_fld_number (2,0),ae)))))))
theorem zo:(23,BW,iU,kn):=(32,rfl,rfl,rfl)
theorem zR(L:cW K cls "after" "Put.after" kn iU ["Put"])(Z:gj mg)(H_written:(3,P,w,K,mg,1,"written",gM,fb))(H_fld_numbers:∀c∈["Put"],fB K [37]/\aY K [37] "numbers")(H_Deed_writes:(1,P,w,K,mg,base,[32],1,"writes",cI,cJ)):cQ P w K mg base [32] 2 "after" iU kB ["Put"]:=dZ (k:=1) L zo λf cdv A outer s H E hr=>(24,aE (j3 (20,H_written,2,(13,(12,df,c5 H_Deed_writes [26] dS,0,(2,1,ae)),af,(13,kK (cs:=["Put"]) rfl H_fld_numbers (2,0),(2,1),ae))) (2,3,(22,(2,1),af,ae))))
theorem oS:(23,zU,hV,jh):=(32,rfl,rfl,rfl)
theorem xc(L:cW K cls "after" "Tick.after" jh hV ["Tick"])(Z:gj mg)(H_written:(3,P,w,K,mg,1,"written",gM,fb))(H_Deed_writes:(1,P,w,K,mg,base,[32],1,"writes",cI,cJ)):cQ P w K mg base [32] 2 "after" hV jq ["Tick"]:=dZ (k:=1) L oS λf cdv A outer s H E hr=>(ah (4,4,oS.nd,(6,(12,df,c5 H_Deed_writes [26] dS,0,(2,1,ae)),af)) (24,aE (j3 (20,H_written,2,(2,4,(22,(6,(2,2),(2,4)),af,ae))) (2,3,(22,(2,1),af,ae)))))
theorem jy:(23,KO,mX,qj):=(32,rfl,rfl,rfl)
theorem HF(L:cj K mg "turned" qj mX)(Z:gj mg)(H_deed_at:(3,P,w,K,mg,2,"deed_at",gP,dz))(H_deed_of:(3,P,w,K,mg,5,"deed_of",jB,jF))(H_is_at_end:(3,P,w,K,mg,2,"is_at_end",gN,cO))(H_Anew_after:cQ P w K mg base [32] 3 "after" i6 ju ["Anew"])(H_Copy_after:cQ P w K mg base [32] 2 "after" i5 jt ["Copy"])(H_Deed_after:cQ P w K mg base [32] 1 "after" i0 eM ["Deed","Promise","Comparing","Untouched","Still","Handed"])(H_Deed_turns:(1,P,w,K,mg,base,[32],1,"turns",fV,fY))(H_Grow_after:cQ P w K mg base [32] 3 "after" hZ jr ["Grow"])(H_Put_after:cQ P w K mg base [32] 2 "after" iU kB ["Put"])(H_Tick_after:cQ P w K mg base [32] 2 "after" hV jq ["Tick"]):(3,P,w,K,mg,6,"turned",mX,k4):=bO (k:=5) L jy λf cdv A outer s H E hr=>(3,(4,3,jy.nd,(6,(2,1),pB)),(13,dD (20,H_is_at_end,0,(2,3,ae)),(24,Ku)),ah (4,4,jy.nd,(12,H_deed_of,(27,0,af,j3 (20,H_deed_at,0,(27,3,af,(27,3,af,ae))) ae))) (24,4,ah (4,5,jy.nd,(12,fD,c5 H_Deed_after [26] (c5 H_Put_after [26] (c5 H_Copy_after [26] (c5 H_Tick_after [26] (c5 H_Grow_after [26] (c5 H_Anew_after [26] dS))))),4,(27,3,af,(2,2,(27,3,af,ae))))) (24,4,(3,aW (aD rO (6,(2,5),af) (Bw (tb:=iN) (c5 H_Deed_turns [26] dS) (2,4))) (aj (4,6,jy.nd,aE (27,3,af,(27,3,af,(27,5,af,(27,5,af,ae)))))) (aj (4,6,jy.nd,aE (27,3,af,(22,(6,(2,3),af),af,dg af (38,ae,ae))))),(13,uk.pt (iL (aD jW (6,(2,6),af) af) (gZ (dD (20,H_is_at_end,0,(2,6,ae))))),(24,aE (padS (l5 rfl (2,1) kY (kX pB)) (27,5,af,ae)))),(24,aE (22,l5 rfl (2,1) kY (kX pB),aE (2,6,ae),(27,5,af,ae)))))))
theorem fO:(23,tm,eU,gz):=(32,rfl,rfl,rfl)
theorem rP(L:cW K cls "go_on" "Machine.go_on" gz eU ["Machine"])(Z:gj mg)(H_broken_by:(3,P,w,K,mg,7,"broken_by",iT,iX))(H_turned:(3,P,w,K,mg,6,"turned",mX,k4))(H_fld_contents:∀c∈["Machine"],fB K [37]/\aY K [37] "contents")(H_fld_frames:∀c∈["Machine"],fB K [37]/\aY K [37] "frames")(H_fld_program:∀c∈["Machine"],fB K [37]/\aY K [37] "program"):mG P w K mg base [32] 8 "go_on" eU dA "Machine" := m8 (k:=7) L fO [13] λf cdv A outer s H E hr=>(3,(4,1,fO.nd,(12,H_turned,b9 (3,0,rfl,H_fld_program,pv 0) (b9 (3,0,rfl,H_fld_frames,pv 0) (b9 (3,0,rfl,H_fld_contents,pv 0) ae)))),(13,FO (2,1),aj (mU (j:=0) (aE (dg c9 ae)))),(3,(4,2,fO.nd,(6,(3,0,rfl,H_fld_frames,pv 0),pB)),(4,3,fO.nd,(12,H_broken_by,b9 (3,0,rfl,H_fld_program,pv 0) (b9 (3,0,rfl,H_fld_frames,pv 0) (b9 (3,0,rfl,H_fld_contents,pv 0) ae)))),(3,mV (cs:=["Machine"]) (i:=0) rfl H_fld_frames (pv 0) (6,(2,1),af),mV (cs:=["Machine"]) (i:=0) rfl H_fld_contents (pv 0) (6,(2,1),af),aj (mU (j:=0) (aE (dg c9 (27,2,af,(27,2,af,(27,2,af,(2,3,ae))))))))))
theorem DH:(23,HX,ll,oj):=(32,rfl,rfl,rfl)
theorem E3(L:cj K mg "entered" oj ll)(Z:gj mg)  : (3,P,w,K,mg,1,"entered",ll,oF):=bO (k:=0) L DH λf cdv A outer s H E hr=>(24,(14,(2,0),aE (38,(2,1,dg af (dg af (38,ae,ae))),ae)))
theorem qi:(23,rR,dY,fP):=(32,rfl,rfl,rfl)
theorem qC(L:cW K cls "let_in" "Machine.let_in" fP dY ["Machine"])(Z:gj mg)(H_entered:(3,P,w,K,mg,1,"entered",ll,oF))(H_fld_frames:∀c∈["Machine"],fB K [37]/\aY K [37] "frames")(H_fld_rung:∀c∈["Machine"],fB K [37]/\aY K [37] "rung"):mG P w K mg base [32] 2 "let_in" dY fX "Machine" := m8 (k:=1) L qi [13] λf cdv A outer s H E hr=>(3,mV (cs:=["Machine"]) (i:=0) rfl H_fld_rung (pv 0) (av BA (3,0,rfl,H_fld_rung,pv 0) (av m7 af (2,1))),mV (cs:=["Machine"]) (i:=0) rfl H_fld_frames (pv 0) (12,H_entered,b9 (3,0,rfl,H_fld_frames,pv 0) (2,1,ae)),aj (mU (j:=0) (aE (dg c9 (2,1,ae)))))
theorem j0:(23,vt,fH,dX):=(32,rfl,rfl,rfl)
theorem t9(L:AB K cls "turn" "Machine.turn" dX fH "Machine" (0))(Z:gj mg)(H_best:(3,P,w,K,mg,2,"best",ve,vM))(H_is_word:(3,P,w,K,mg,1,"is_word",jA,gR))(H_shut_by:(3,P,w,K,mg,3,"shut_by",lg,oE))(H_fld_frames:∀c∈["Machine"],fB K [37]/\aY K [37] "frames")(H_fld_program:∀c∈["Machine"],fB K [37]/\aY K [37] "program")(H_fld_ranks:∀c∈["Machine"],fB K [37]/\aY K [37] "ranks")(H_fld_rung:∀c∈["Machine"],fB K [37]/\aY K [37] "rung")(H_Machine_go_on:mG P w K mg base [32] 8 "go_on" eU dA "Machine")(H_Machine_let_in:mG P w K mg base [32] 2 "let_in" dY fX "Machine"):sj P w K mg base [32] 9 "turn" fH aX "Machine" (0):=BZ (k:=8) L j0 [13] λf cdv A outer s H E hr=>(3,(13,ko (dD (12,H_is_word,dq (av i7 (2,cb rfl,rfl,Z.len,aK (PD.look (3,0,rfl,H_fld_ranks,pv 0)) bh) af) (2,1,ae))),aj y0),mV (cs:=["Machine"]) (i:=0) rfl H_fld_rung (pv 0) (av zH (3,0,rfl,H_fld_rung,pv 0) (2,1)),(3,(4,2,j0.nd,(6,(3,0,rfl,H_fld_ranks,pv 0),(6,(6,(3,0,rfl,H_fld_frames,pv 0),pB),af))),(4,3,j0.nd,(12,H_best,b9 (3,0,rfl,H_fld_ranks,pv 0) (b9 (3,0,rfl,H_fld_rung,pv 0) (2,2,j3 (12,H_shut_by,b9 (3,0,rfl,H_fld_program,pv 0) (b9 (3,0,rfl,H_fld_frames,pv 0) ae)) ae)))),ah (13,aD jW (2,3) af,aj (Bs (j:=0) (FS (i:=0) H_Machine_let_in [8] (pv 0) (2,3,ae)))) (aj (Bs (j:=0) (v5 (i:=0) H_Machine_go_on [8] (pv 0))))))
theorem uM:(23,Sv,Bz,FI):=(32,rfl,rfl,rfl)
theorem Qs(L:cj K mg "run" FI Bz)(Z:gj mg)(H_is_word:(3,P,w,K,mg,1,"is_word",jA,gR))(H_i_Machine:cR P w K mg base [32] 2 "Machine" "Machine" iS oz)(H_Machine_cells:mG P w K mg base [32] 1 "cells" eV gD "Machine")(H_Machine_idle:mG P w K mg base [32] 1 "idle" fI fK "Machine")(H_Machine_turn:sj P w K mg base [32] 9 "turn" fH aX "Machine" (0)):(3,P,w,K,mg,10,"run",Bz,CG):=bO (k:=9) L uM λf cdv A outer s H E hr=>(3,(9,rfl,dE rfl (2,1),qA uM.nd rfl,aj (13,ko (dD (12,H_is_word,dq (av i7 (2,cb rfl,rfl,Z.len,aK (PD.look (6,(2,0),af)) bh) af) (2,2,ae))),aj y0)),(4,3,uM.nd,kr H_i_Machine [26] rfl (2,0,ae)),K5 (j:=2) (3,DP (i:=4) uM.nd rfl [22] (js:=[2]) (vars:=[".0","word"]) (cC 2) (by rfl) (by rfl) rfl (dE rfl (2,1)) (λ_ _ _ _=>(qA uM.nd rfl)) (λ_ _ _ _=>(FS (i:=3) H_Machine_turn.all [8] (pv 3) (2,2,ae))),DM (n:=5000) PassesOwn.never (v5 (i:=3) H_Machine_idle [8] (pv 3)) (aj (K9 (i:=4) (pv 4) (Kf (i:=3) H_Machine_turn [8] (pv 3)) (hkeep:=Ey [13]))),(24,4,aj (K7 (Nt (2,4) (v5 (i:=3) H_Machine_cells [8] (pv 3)))))))
theorem rF:(23,KP,mY,qk):=(32,rfl,rfl,rfl)
theorem HG(L:cj K mg "served" qk mY)(Z:gj mg)  : (3,P,w,K,mg,1,"served",mY,qL):=bO (k:=0) L rF λf cdv A outer s H E hr=>(3,Hr (i:=1) rF.nd rfl [22],(9,rfl,dE rfl (2,0),qA rF.nd rfl,aj (13,aD bB (6,(2,2),af) c9,aj (Hq (i:=1) (Gc hr) (pv 1) (6,(2,2),af) (14,By (i:=1) (Gc hr) (pv 1) (6,(2,2),af),af)))),aj (K6 (i:=1) (pv 1)))
theorem ir:(23,Sw,FX,Bg):=(32,rfl,rfl,rfl)
theorem Qt{f:Addr}{fd:FuncData}(L:D8 K "law" "law" Bg f fd)(Z:gj mg)(H_law_boxes:(3,P,w,K,mg,3,"_law_boxes",iR,kA))(H_law_draw:(3,P,w,K,mg,1,"_law_draw",dM,aJ))(H_law_rows:(3,P,w,K,mg,4,"_law_rows",jS,mj))(H_law_same:(3,P,w,K,mg,9,"_law_same",jR,dN))(H_law_sets:(3,P,w,K,mg,1,"_law_sets",jQ,k6))(H_law_words:(3,P,w,K,mg,2,"_law_words",iQ,kz))(H_prompt:(3,P,w,K,mg,1,"prompt",mZ,qM))(H_run:(3,P,w,K,mg,10,"run",Bz,CG))(H_served:(3,P,w,K,mg,1,"served",mY,qL)):dR P w K mg base lK 11 f fd FX (FD [32] W0 Gh):=Oj (k:=10) L ir λcdv A outer s H E hr=>(3,(4,1,ir.nd,(20,H_law_boxes,0,dg af (22,af,(18,0,dg af (dg af ae)),ae))),(4,2,ir.nd,(20,H_law_rows,0,(2,1,j3 (18,0,dg af (dg af ae)) (dg af ae)))),ah (4,3,ir.nd,(20,H_law_words,0,dg af (j3 (18,0,dg af (dg af ae)) (dq (av i7 (2,cb rfl,rfl,Z.len,(28,pv 2,bh)) af) ae)))) (24,3,(3,(4,4,ir.nd,(12,H_run,(38,(2,1,(2,2,ae)),j3 (jP (qW rfl) rfl Z.list L3.kD (2,3,ae)) ae))),(4,5,ir.nd,g9 ae),(3,(9,rfl,dE rfl (6,(2,4),af),qA ir.nd rfl,aj (aW (aD bB (6,(2,6),af) c9) (aj (fF (i:=5) (pv 5) (av m7 af (6,(2,6),af)))) (aj (fF (i:=5) (pv 5) af)))),(4,7,ir.nd,jP (qW rfl) rfl Z.list L3.kD (27,4,af,ae)),(24,7,ah (4,8,ir.nd,(20,H_prompt,7,ae)) (24,5,ah (13,uk.pt (pw (ko (dD (zF H_law_same [8] rfl (28,pv 8,(28,pv 5,bh))))) (m5 (ko (dD (zF H_law_same [8] rfl (aK (PD.look (12,H_run,(38,(2,1,(2,2,ae)),j3 (jP (qW rfl) rfl Z.list L3.kD (2,5,ae)) ae))) (28,pv 4,bh))))))),(24,y7)) (24,7,(3,(4,9,ir.nd,(20,H_served,7,ae)),(13,uk.pt (pw (ko (dD (NF (i:=9) rfl Z.isinstance rfl Z.dict (pv 9)))) (m5 (ko (dD (zF H_law_same [8] rfl (28,pv 7,aK (PD.look (6,(2,4),af)) bh)))))),(24,y7)),(24,3,(3,(4,10,ir.nd,(20,H_law_sets,3,(27,4,af,dq (av i7 (2,cb rfl,rfl,Z.len,(28,pv 2,bh)) af) ae))),(9,rfl,vc rfl Z.range af (2,cb rfl,rfl,Z.len,(28,pv 2,bh)),qA ir.nd rfl,(24,10,ah (13,ko (dD (zF H_law_same [8] rfl (aK (PD.look (By (i:=9) (Gc hr) (pv 9) (2,11))) (aK (PD.look (6,(2,10),(2,11))) bh)))),(24,y7)) (24,10,aj (13,aD pD (NG (i:=9) (Gc hr) (pv 9) (2,11)) (iy jW (6,(2,10),(2,11)) af),(24,y7))))),(24,10,(24,iy bB (ND (i:=9) rfl Z.len (pv 9)) (2,cb rfl,rfl,Z.len,aK (PD.look (y6 (js:=[12]) (vars:=[".0","_law_one"]) (cC 12) (by rfl) (by rfl) rfl (dE rfl (2,10)) (λ_ _ _ _=>(qA ir.nd rfl)) (λ_ _ _ _=>(aD jW (2,12) af)) (λ_ _ _ _=>(2,12)))) bh)))))))))))))
theorem Qu(T:Rn K mg cls)(hC:PySem.W.CodeHd base CC PT)(hB:D6 mg base)(Z:gj mg){f:Addr}{fd:FuncData}(L:D8 K "law" "law" Bg f fd):dR P w K mg base lK 11 f fd FX (FD [32] W0 Gh):=by
 have h_lams:=@NN P w K mg base cls Z;have h_law_draw:=@BE P w K mg base cls T.L_law_draw Z;have h_law_number:=@xb P w K mg base cls T.L_law_number Z h_law_draw;have h_law_boxes:=@zM P w K mg base cls T.L_law_boxes Z h_law_draw h_law_number;have h_law_deed:=@BF P w K mg base cls T.L_law_deed Z h_law_draw h_law_number;have h_law_rows:=@BD P w K mg base cls T.L_law_rows Z h_law_deed h_law_draw;have h_law_same:=@BC P w K mg base cls T.L_law_same Z;have h_law_sets:=@BB P w K mg base cls T.L_law_sets Z;have h_law_words:=@zL P w K mg base cls T.L_law_words Z h_law_draw;have h_prompt:=@HH P w K mg base cls T.L_prompt Z;have h_is_word:=@E1 P w K mg base cls T.L_is_word Z;have h_starts_of:=@zJ P w K mg base cls T.L_starts_of Z;have h_i_Machine:=@zP P w K mg base cls T.L_i_Machine Z h_starts_of T.fld_contents T.fld_frames T.fld_program T.fld_ranks T.fld_rung;have h_Machine_cells:=@rQ P w K mg base cls T.L_Machine_cells Z T.fld_contents;have h_Machine_idle:=@tj P w K mg base cls T.L_Machine_idle Z T.fld_frames T.fld_program T.fld_rung;have h_bits_of:=@E6 P w K mg base cls T.L_bits_of Z;have h_best:=@NR P w K mg base cls T.L_best Z h_bits_of;have h_places_of:=@zK P w K mg base cls T.L_places_of Z;have h_word_at:=@DW P w K mg base cls T.L_word_at Z h_places_of;have h_shut_by:=@DZ P w K mg base cls T.L_shut_by Z h_word_at;have h_deed_at:=@E5 P w K mg base cls T.L_deed_at Z h_places_of;have h_is_at_end:=@zN P w K mg base cls T.L_is_at_end Z h_places_of;have h_none_watched:=@t6 P w K mg base cls T.L_none_watched Z h_deed_at h_places_of;have h_size_of:=@DY P w K mg base cls T.L_size_of Z;have h_cells_of:=@BH P w K mg base cls T.L_cells_of Z h_size_of;have h_promise_of:=@xa P w K mg base cls T.L_promise_of hC hB Z h_cells_of;have h_i_Deed:=@HK P w K mg base cls T.L_i_Deed Z T.fld_plan;have h_i_Handed:=@BG P w K mg base cls T.L_i_Handed Z h_i_Deed;have h_i_Anew:=@HM P w K mg base cls T.L_i_Anew Z T.fld_check h_i_Handed;have h_i_Promise:=@zO P w K mg base cls T.L_i_Promise Z h_i_Deed;have h_i_Comparing:=@vi P w K mg base cls T.L_i_Comparing Z h_i_Promise;have h_i_Copy:=@HL P w K mg base cls T.L_i_Copy Z h_i_Deed;have h_i_Grow:=@HJ P w K mg base cls T.L_i_Grow Z T.fld_number T.fld_size h_i_Handed;have h_i_Put:=@KJ P w K mg base cls T.L_i_Put Z T.fld_numbers h_i_Deed;have h_i_Still:=@E2 P w K mg base cls T.L_i_Still Z h_i_Deed;have h_i_Tick:=@HI P w K mg base cls T.L_i_Tick Z h_i_Deed;have h_i_Untouched:=@vh P w K mg base cls T.L_i_Untouched Z h_i_Promise;have h_deed_of:=@E4 P w K mg base cls T.L_deed_of Z h_cells_of h_i_Anew h_i_Comparing h_i_Copy h_i_Grow h_i_Put h_i_Still h_i_Tick h_i_Untouched;have h_Deed_reads:=@xh P w K mg base cls T.L_Deed_reads Z T.fld_plan;have h_Deed_writes:=@vk P w K mg base cls T.L_Deed_writes Z T.fld_plan;have h_touches:=@DX P w K mg base cls T.L_touches Z h_cells_of h_deed_at h_deed_of h_Deed_reads h_Deed_writes;have h_broken_by:=@zQ P w K mg base cls T.L_broken_by Z h_deed_at h_is_at_end h_none_watched h_promise_of h_touches h_lams;have h_Handed_laid:=@vj P w K mg base cls T.L_Handed_laid Z h_Deed_reads;have h_written:=@DV P w K mg base cls T.L_written Z;have h_Deed_turns:=@xg P w K mg base cls T.L_Deed_turns Z T.fld_plan;have h_Handed_set_down:=@pE P w K mg base cls T.L_Handed_set_down Z h_written h_Deed_turns h_Deed_writes;have h_Anew_after:=@xk P w K mg base cls T.L_Anew_after Z T.fld_check h_Deed_reads h_Handed_laid h_Handed_set_down;have h_Copy_after:=@xj P w K mg base cls T.L_Copy_after Z h_written h_Deed_reads h_Deed_writes;have h_Deed_after:=@xi P w K mg base cls T.L_Deed_after Z;have h_Grow_after:=@xf P w K mg base cls T.L_Grow_after Z T.fld_number T.fld_size h_Handed_laid h_Handed_set_down;have h_Put_after:=@zR P w K mg base cls T.L_Put_after Z h_written T.fld_numbers h_Deed_writes;have h_Tick_after:=@xc P w K mg base cls T.L_Tick_after Z h_written h_Deed_writes;have h_turned:=@HF P w K mg base cls T.L_turned Z h_deed_at h_deed_of h_is_at_end h_Anew_after h_Copy_after h_Deed_after h_Deed_turns h_Grow_after h_Put_after h_Tick_after;have h_Machine_go_on:=@rP P w K mg base cls T.L_Machine_go_on Z h_broken_by h_turned T.fld_contents T.fld_frames T.fld_program;have h_entered:=@E3 P w K mg base cls T.L_entered Z;have h_Machine_let_in:=@qC P w K mg base cls T.L_Machine_let_in Z h_entered T.fld_frames T.fld_rung;have h_Machine_turn:=@t9 P w K mg base cls T.L_Machine_turn Z h_best h_is_word h_shut_by T.fld_frames T.fld_program T.fld_ranks T.fld_rung h_Machine_go_on h_Machine_let_in;have h_run:=@Qs P w K mg base cls T.L_run Z h_is_word h_i_Machine h_Machine_cells h_Machine_idle h_Machine_turn;have h_served:=@HG P w K mg base cls T.L_served Z;exact Qt L Z h_law_boxes h_law_draw h_law_rows h_law_same h_law_sets h_law_words h_prompt h_run h_served
end
unseal PySem.wpAny
theorem walk{l:PySem.W.OpenLaw}{q:Program}{loose:[16]}{XP:(Str->[30])->Heap->Prop}{YP:World->Heap->Prop}{d:DefRec}{K:Params->Frag}(T:∀ns:List Int,ns.length<=63->Gh [[54]]=(34,.sh (.bl true))){dP:DefRec}(hrec:(recsOf q).find? (λe=>e.name == ("promise_of":Str))=(1,dP))(htab:∀w:World,PySem.W.tabIn (K w.params) "promise_of" = (1,(CC,PT)))(hno:∀w:World,PySem.W.noTabs (K w.params)=true)(hn:l.most=(1,63))(hdf:d.params.defaults=[])(hdn:d.name = "law")
  (hY:∀(w:World)(h:Heap),YP w h->(K w.params).In h) (F:∀(w:World)(mg:Str->[30])(h:Heap),(K w.params).In h->h.Ns mainGlobals mg->(∃cls,Rn (K w.params) mg cls)/\gj mg):PySem.W.WalkO q loose XP YP l.row.toRowW d [] (λf vs=>PySem.call f vs):=
 Iq (y := "promise_of") (cc:=CC) (PT:=PT) (good:=good) (k:=11) (x := "_law_script") [13] hn hdf hrec htab hno hY λw mg fa h KX G hm=>by
  obtain⟨⟨cls,T1⟩,Z⟩:=F w mg h KX G;obtain⟨f,fd,Fl,hm2,_⟩:=T1.L_law.ex;rw[hdn,hm2] at hm;cases hm;obtain⟨oc,od,kV,doc,pm,an,cdv,ct,osl,e,_⟩:=id Fl.ex;exact(11,fd,λs u=>by rw[e];exact .of_eq rfl,λbase hC hB=>O1 (Qu (cls:=cls) T1 hC hB Z Fl) rfl rfl T)
set_option maxHeartbeats 0 in
theorem ln1:∀{us:[21]},us.length=1->∃a,us=[a]
 |[a],_=>(3,a,rfl)
theorem ln2:∀{us:[21]},us.length=2->∃a b,us=[a,b]
 |[a,b],_=>(35,a,b)
theorem ln3:∀{us:[21]},us.length=3->∃a b c,us=[a,b,c]
 |[a,b,c],_=>(10,a,b,c,rfl)
theorem ln4:∀{us:[21]},us.length=4->∃a b c d,us=[a,b,c,d]
 |[a,b,c,d],_=>(4,a,b,c,d,rfl)
theorem ln5:∀{us:[21]},us.length=5->∃a b c d e,us=[a,b,c,d,e]
 |[a,b,c,d,e],_=>⟨a,b,c,d,e,rfl⟩
section
variable{K:Frag}{h:Heap}{mg:Str->Option Value}{x qual:Str}{st:Stmt}{ps:List Str}{f C:Addr}{cls:String->Addr}{cn:String}{oc:Value}{od an:Option Addr}{sl:Array (Option Value)}{kV doc pm cdv ct:Value}
def LM(K:Frag)(x qual:Str)(st:Stmt)(f:Addr):Prop:=∃(oc:Value)(od an:(8,Addr))(sl:Array [30])(kV doc pm cdv ct:Value),K.lookup f=(1,(10,oc,od,.func (1,x,qual,bT st,aS st,[60],.none,kV,pm,an,cdv,ct),sl))/\codeIn K cdv qual=true/\(39,K,f)=true/\isFn K (9,f)=true
theorem lm(l:K.lookup f=(1,(10,oc,od,.func (1,x,qual,bT st,aS st,[60],.none,kV,pm,an,cdv,ct),sl)))(c:codeIn K cdv qual=true)(k:(39,K,f)=true)(i:isFn K (9,f)=true):LM K x qual st f:=⟨_,_,_,_,_,_,_,_,_,l,c,k,i⟩
theorem LM.laid{cs:List String}(h:LM K x qual st f)(hc:∀c∈cs,fB K [37]/\(7,K,[37],x)=(33,f))(hb:∀(kV doc pm:Value)(an:(8,Addr))(cdv ct:Value)(us:[21]),us.length=ps.length->bindArgs (1,x,qual,bT st,aS st,[60],.none,kV,pm,an,cdv,ct) (3,us,[])=pure (ps.zip us):=by intro _ _ _ _ _ _ us hl;first|(obtain⟨_,rfl⟩:=ln1 hl;rfl)|(obtain⟨_,_,rfl⟩:=ln2 hl;rfl)|(obtain⟨_,_,_,rfl⟩:=ln3 hl;rfl)|(obtain⟨_,_,_,_,rfl⟩:=ln4 hl;rfl)|(obtain⟨_,_,_,_,_,rfl⟩:=ln5 hl;rfl)):cW K cls x qual st ps cs:=by
 obtain⟨_,_,_,_,_,_,_,_,_,l,c,k,i⟩:=h;exact Lf l c k i hb hc
def LP(K:Frag)(x:Str)(st:Stmt):Prop:=∃f,(5,K,x)=(33,f)/\∃(oc:Value)(od an:(8,Addr))(sl:Array [30])(kV doc pm cdv ct:Value),K.lookup f=(1,(10,oc,od,.func (1,x,x,bT st,aS st,[60],.none,kV,pm,an,cdv,ct),sl))/\codeIn K cdv x=true/\(39,K,f)=true
theorem lp(a:(5,K,x)=(33,f))(l:K.lookup f=(1,(10,oc,od,.func (1,x,x,bT st,aS st,[60],.none,kV,pm,an,cdv,ct),sl)))(c:codeIn K cdv x=true)(k:(39,K,f)=true):LP K x st:=⟨_,a,_,_,_,_,_,_,_,_,_,l,c,k⟩
theorem LP.laid(h':LP K x st)(X:K.In h)(G:h.Ns mainGlobals mg)(hb:∀(kV doc pm:Value)(an:(8,Addr))(cdv ct:Value)(us:[21]),us.length=ps.length->bindArgs (1,x,x,bT st,aS st,[60],.none,kV,pm,an,cdv,ct) (3,us,[])=pure (ps.zip us):=by intro _ _ _ _ _ _ us hl;first|(obtain⟨_,rfl⟩:=ln1 hl;rfl)|(obtain⟨_,_,rfl⟩:=ln2 hl;rfl)|(obtain⟨_,_,_,rfl⟩:=ln3 hl;rfl)|(obtain⟨_,_,_,_,rfl⟩:=ln4 hl;rfl)|(obtain⟨_,_,_,_,_,rfl⟩:=ln5 hl;rfl)):cj K mg x st ps:=by
 obtain⟨_,a,_,_,_,_,_,_,_,_,_,l,c,k⟩:=h';exact O5 X G a l c k hb
def LI(K:Frag)(C:Addr)(_x qual:Str)(st:Stmt):Prop:=∃f,∃(oc:Value)(od an:(8,Addr))(sl:Array [30])(kV doc pm cdv ct:Value),(7,K,C,"__init__") = (33,f)/\K.lookup f=(1,(10,oc,od,.func (1,"__init__",qual,bT st,aS st,[60],.none,kV,pm,an,cdv,ct),sl))/\codeIn K cdv qual=true/\(39,K,f)=true/\isFn K (9,f)=true/\makesIn K C=true/\(39,K,C)=true/\findCls K (9,C) (54,"type") "__init__" = (1,.val (9,f))/\specialIn K (9,C) "__getattribute__" = (31,(44,"type.__getattribute__"))/\readsIn K C (54,"type")=true
theorem li(fi:(7,K,C,"__init__") = (33,f))(l:K.lookup f=(1,(10,oc,od,.func (1,"__init__",qual,bT st,aS st,[60],.none,kV,pm,an,cdv,ct),sl)))(c:codeIn K cdv qual=true)(k:(39,K,f)=true)(i:isFn K (9,f)=true)(m:makesIn K C=true)(n:(39,K,C)=true)(o:findCls K (9,C) (54,"type") "__init__" = (1,.val (9,f)))(q:specialIn K (9,C) "__getattribute__" = (31,(44,"type.__getattribute__")))(r:readsIn K C (54,"type")=true):LI K C x qual st:=⟨_,_,_,_,_,_,_,_,_,_,fi,l,c,k,i,m,n,o,q,r⟩
theorem LI.laid(h':LI K (cls cn) x qual st)(a:(5,K,x)=(33,cls cn))(X:K.In h)(G:h.Ns mainGlobals mg)(hb:∀(kV doc pm:Value)(an:(8,Addr))(cdv ct:Value)(us:[21]),us.length=ps.length->bindArgs (1,"__init__",qual,bT st,aS st,[60],.none,kV,pm,an,cdv,ct) (3,us,[])=pure (ps.zip us):=by intro _ _ _ _ _ _ us hl;first|(obtain⟨_,rfl⟩:=ln1 hl;rfl)|(obtain⟨_,_,rfl⟩:=ln2 hl;rfl)|(obtain⟨_,_,_,rfl⟩:=ln3 hl;rfl)|(obtain⟨_,_,_,_,rfl⟩:=ln4 hl;rfl)|(obtain⟨_,_,_,_,_,rfl⟩:=ln5 hl;rfl)):eD K mg cls cn x qual st ps:=by
 obtain⟨_,_,_,_,_,_,_,_,_,_,fi,l,c,k,i,m,n,o,q,r⟩:=h';exact Lg X G rfl a fi l c k i m n o q r hb
end
theorem defs_mk{K:Frag}{h:Heap}{mg:Str->[30]}(X:K.In h)(G:h.Ns mainGlobals mg){C0 C1 C2 C3 C4 C5 C6 C7 C8 C9 C10 C11 g12 g13 g37 g38 g41 g43 g44 g45 g46 g47 g48 g49 g50 g52 g54:Addr}
  (ca0:(5,K,"Deed") = (33,C0))
  (d0:fB K C0)
  (ca1:(5,K,"Promise") = (33,C1))
  (d1:fB K C1)
  (ca2:(5,K,"Comparing") = (33,C2))
  (d2:fB K C2)
  (ca3:(5,K,"Untouched") = (33,C3))
  (d3:fB K C3)
  (ca4:(5,K,"Still") = (33,C4))
  (d4:fB K C4)
  (ca5:(5,K,"Put") = (33,C5))
  (d5:fB K C5)
  (ca6:(5,K,"Copy") = (33,C6))
  (d6:fB K C6)
  (ca7:(5,K,"Tick") = (33,C7))
  (d7:fB K C7)
  (ca8:(5,K,"Handed") = (33,C8))
  (d8:fB K C8)
  (ca9:(5,K,"Grow") = (33,C9))
  (d9:fB K C9)
  (ca10:(5,K,"Anew") = (33,C10))
  (d10:fB K C10)
  (ca11:(5,K,"Machine") = (33,C11))
  (d11:fB K C11)
  (h0:LP K "_law_draw" lU)
  (h1:LP K "_law_number" jg)
  (h2:LP K "_law_boxes" kh)
  (h3:LP K "_law_deed" lV)
  (h4:LP K "_law_rows" lT)
  (h5:LP K "_law_same" lS)
  (h6:LP K "_law_sets" lR)
  (h7:LP K "_law_words" ke)
  (h8:LP K "prompt" ql)
  (h9:LP K "is_word" oh)
  (h10:LP K "starts_of" kb)
  (h11:LI K C11 "Machine" "Machine.__init__" kl)
  (f12_11:(7,K,C11,"cells") = (33,g12))
  (h12:LM K "cells" "Machine.cells" gA g12)
  (f13_11:(7,K,C11,"idle") = (33,g13))
  (h13:LM K "idle" "Machine.idle" gX g13)
  (h14:LP K "bits_of" oq)
  (h15:LP K "best" zr)
  (h16:LP K "places_of" kd)
  (h17:LP K "word_at" o6)
  (h18:LP K "shut_by" og)
  (h19:LP K "deed_at" oo)
  (h20:LP K "is_at_end" ki)
  (h21:LP K "none_watched" gW)
  (h22:LP K "size_of" oa)
  (h23:LP K "cells_of" lX)
  {g24:Addr} {oc24:Value} {od24 an24:(8,Addr)} {sl24:Array [30]} {kV24 dc24 pm24 ct24:Value}
  (a24:(5,K,"promise_of") = (33,g24))
  (l24:K.lookup g24=(1,(10,oc24,od24,.func (fnOf "promise_of" "promise_of" (bT bR) (aS bR) (ai bR) .none kV24 dc24 pm24 an24 (9,CC) ct24),sl24)))
  (c24:codeIn K (9,CC) "promise_of" = true)
  (k24:(39,K,g24)=true)
  (h25:LI K C0 "Deed" "Deed.__init__" qp)
  (h26:LI K C8 "Handed" "Handed.__init__" lW)
  (h27:LI K C10 "Anew" "Anew.__init__" qt)
  (h28:LI K C1 "Promise" "Promise.__init__" kj)
  (h29:LI K C2 "Comparing" "Comparing.__init__" iH)
  (h30:LI K C6 "Copy" "Copy.__init__" qr)
  (h31:LI K C9 "Grow" "Grow.__init__" qo)
  (h32:LI K C5 "Put" "Put.__init__" tZ)
  (h33:LI K C4 "Still" "Still.__init__" oi)
  (h34:LI K C7 "Tick" "Tick.__init__" qm)
  (h35:LI K C3 "Untouched" "Untouched.__init__" iG)
  (h36:LP K "deed_of" om)
  (f37_0:(7,K,C0,"reads") = (33,g37))
  (f37_1:(7,K,C1,"reads") = (33,g37))
  (f37_2:(7,K,C2,"reads") = (33,g37))
  (f37_3:(7,K,C3,"reads") = (33,g37))
  (f37_4:(7,K,C4,"reads") = (33,g37))
  (f37_5:(7,K,C5,"reads") = (33,g37))
  (f37_6:(7,K,C6,"reads") = (33,g37))
  (f37_7:(7,K,C7,"reads") = (33,g37))
  (f37_8:(7,K,C8,"reads") = (33,g37))
  (f37_9:(7,K,C9,"reads") = (33,g37))
  (f37_10:(7,K,C10,"reads") = (33,g37))
  (h37:LM K "reads" "Deed.reads" jk g37)
  (f38_0:(7,K,C0,"writes") = (33,g38))
  (f38_1:(7,K,C1,"writes") = (33,g38))
  (f38_2:(7,K,C2,"writes") = (33,g38))
  (f38_3:(7,K,C3,"writes") = (33,g38))
  (f38_4:(7,K,C4,"writes") = (33,g38))
  (f38_5:(7,K,C5,"writes") = (33,g38))
  (f38_6:(7,K,C6,"writes") = (33,g38))
  (f38_7:(7,K,C7,"writes") = (33,g38))
  (f38_8:(7,K,C8,"writes") = (33,g38))
  (f38_9:(7,K,C9,"writes") = (33,g38))
  (f38_10:(7,K,C10,"writes") = (33,g38))
  (h38:LM K "writes" "Deed.writes" iJ g38)
  (h39:LP K "touches" o9)
  (h40:LP K "broken_by" km)
  (f41_8:(7,K,C8,"laid") = (33,g41))
  (f41_9:(7,K,C9,"laid") = (33,g41))
  (f41_10:(7,K,C10,"laid") = (33,g41))
  (h41:LM K "laid" "Handed.laid" iI g41)
  (h42:LP K "written" o5)
  (f43_0:(7,K,C0,"turns") = (33,g43))
  (f43_1:(7,K,C1,"turns") = (33,g43))
  (f43_2:(7,K,C2,"turns") = (33,g43))
  (f43_3:(7,K,C3,"turns") = (33,g43))
  (f43_4:(7,K,C4,"turns") = (33,g43))
  (f43_5:(7,K,C5,"turns") = (33,g43))
  (f43_6:(7,K,C6,"turns") = (33,g43))
  (f43_7:(7,K,C7,"turns") = (33,g43))
  (f43_8:(7,K,C8,"turns") = (33,g43))
  (f43_9:(7,K,C9,"turns") = (33,g43))
  (f43_10:(7,K,C10,"turns") = (33,g43))
  (h43:LM K "turns" "Deed.turns" jj g43)
  (f44_8:(7,K,C8,"set_down") = (33,g44))
  (f44_9:(7,K,C9,"set_down") = (33,g44))
  (f44_10:(7,K,C10,"set_down") = (33,g44))
  (h44:LM K "set_down" "Handed.set_down" fk g44)
  (f45_10:(7,K,C10,"after") = (33,g45))
  (h45:LM K "after" "Anew.after" jn g45)
  (f46_6:(7,K,C6,"after") = (33,g46))
  (h46:LM K "after" "Copy.after" jm g46)
  (f47_0:(7,K,C0,"after") = (33,g47))
  (f47_1:(7,K,C1,"after") = (33,g47))
  (f47_2:(7,K,C2,"after") = (33,g47))
  (f47_3:(7,K,C3,"after") = (33,g47))
  (f47_4:(7,K,C4,"after") = (33,g47))
  (f47_8:(7,K,C8,"after") = (33,g47))
  (h47:LM K "after" "Deed.after" jl g47)
  (f48_9:(7,K,C9,"after") = (33,g48))
  (h48:LM K "after" "Grow.after" ji g48)
  (f49_5:(7,K,C5,"after") = (33,g49))
  (h49:LM K "after" "Put.after" kn g49)
  (f50_7:(7,K,C7,"after") = (33,g50))
  (h50:LM K "after" "Tick.after" jh g50)
  (h51:LP K "turned" qj)
  (f52_11:(7,K,C11,"go_on") = (33,g52))
  (h52:LM K "go_on" "Machine.go_on" gz g52)
  (h53:LP K "entered" oj)
  (f54_11:(7,K,C11,"let_in") = (33,g54))
  (h54:LM K "let_in" "Machine.let_in" fP g54)
  {g55:Addr} {oc55:Value} {od55 an55:(8,Addr)} {sl55:Array [30]} {kV55 dc55 pm55 cd55 ct55:Value}
  {td55:Addr} {tc55:Value} {te55:(8,Addr)} {tn55:Nat} {tt55:Tok} {ts55:Array [30]}
  (f55_11:(7,K,C11,"turn") = (33,g55))
  (l55:K.lookup g55=(1,(10,oc55,od55,.func (fnOf "turn" "Machine.turn" (bT dX) (aS dX) (ai dX) (9,td55) kV55 dc55 pm55 an55 cd55 ct55),sl55)))
  (c55:codeIn K cd55 "Machine.turn" = true)
  (k55:(39,K,g55)=true)
  (i55:isFn K (9,g55)=true)
  (t55:K.lookup td55=(1,(10,tc55,te55,.seq #[.int (0) tt55] tn55,ts55)))
  (h56:LP K "run" FI)
  (h57:LP K "served" qk)
  (h58:LP K "law" Bg)
  (na_check_10:(7,K,C10,"check") = [62])
  (na_contents_11:(7,K,C11,"contents") = [62])
  (na_frames_11:(7,K,C11,"frames") = [62])
  (na_number_9:(7,K,C9,"number") = [62])
  (na_numbers_5:(7,K,C5,"numbers") = [62])
  (na_plan_0:(7,K,C0,"plan") = [62])
  (na_plan_1:(7,K,C1,"plan") = [62])
  (na_plan_2:(7,K,C2,"plan") = [62])
  (na_plan_3:(7,K,C3,"plan") = [62])
  (na_plan_4:(7,K,C4,"plan") = [62])
  (na_plan_5:(7,K,C5,"plan") = [62])
  (na_plan_6:(7,K,C6,"plan") = [62])
  (na_plan_7:(7,K,C7,"plan") = [62])
  (na_plan_8:(7,K,C8,"plan") = [62])
  (na_plan_9:(7,K,C9,"plan") = [62])
  (na_plan_10:(7,K,C10,"plan") = [62])
  (na_program_11:(7,K,C11,"program") = [62])
  (na_ranks_11:(7,K,C11,"ranks") = [62])
  (na_rung_11:(7,K,C11,"rung") = [62])
  (na_size_9:(7,K,C9,"size") = [62])
  (z_all:(5,K,"all") = [62])
  (z_any:(5,K,"any") = [62])
  (z_bool:(5,K,"bool") = [62])
  (z_dict:(5,K,"dict") = [62])
  (z_enumerate:(5,K,"enumerate") = [62])
  (z_int:(5,K,"int") = [62])
  (z_isinstance:(5,K,"isinstance") = [62])
  (z_len:(5,K,"len") = [62])
  (z_list:(5,K,"list") = [62])
  (z_max:(5,K,"max") = [62])
  (z_range:(5,K,"range") = [62])
  (z_set:(5,K,"set") = [62])
  (z_sorted:(5,K,"sorted") = [62])
  (z_str:(5,K,"str") = [62])
  (z_sum:(5,K,"sum") = [62])
  (z_tuple:(5,K,"tuple") = [62])
  (z_zip:(5,K,"zip") = [62]):
  (∃cls,Rn K mg cls)/\gj mg:=by
 obtain⟨cls,rfl,rfl,rfl,rfl,rfl,rfl,rfl,rfl,rfl,rfl,rfl,rfl⟩:∃cls:String->Addr,cls "Deed" = C0/\cls "Promise" = C1/\cls "Comparing" = C2/\cls "Untouched" = C3/\cls "Still" = C4/\cls "Put" = C5/\cls "Copy" = C6/\cls "Tick" = C7/\cls "Handed" = C8/\cls "Grow" = C9/\cls "Anew" = C10/\cls "Machine" = C11:=(3,clsF [("Deed",C0),("Promise",C1),("Comparing",C2),("Untouched",C3),("Still",C4),("Put",C5),("Copy",C6),("Tick",C7),("Handed",C8),("Grow",C9),("Anew",C10),("Machine",C11)],by simp[clsF])
 exact⟨⟨cls,⟨h0.laid X G,h1.laid X G,h2.laid X G,h3.laid X G,h4.laid X G,h5.laid X G,h6.laid X G,h7.laid X G,h8.laid X G,h9.laid X G,h10.laid X G,h11.laid ca11 X G,h12.laid (all_cons ⟨d11,f12_11⟩ bZ),h13.laid (all_cons ⟨d11,f13_11⟩ bZ),h14.laid X G,h15.laid X G,h16.laid X G,h17.laid X G,h18.laid X G,h19.laid X G,h20.laid X G,h21.laid X G,h22.laid X G,h23.laid X G,Lh X G a24 l24 c24 k24 λ_ _ _ _ _ _ us hl=>match us,hl with|[_,_],_=>rfl,h25.laid ca0 X G,h26.laid ca8 X G,h27.laid ca10 X G,h28.laid ca1 X G,h29.laid ca2 X G,h30.laid ca6 X G,h31.laid ca9 X G,h32.laid ca5 X G,h33.laid ca4 X G,h34.laid ca7 X G,h35.laid ca3 X G,h36.laid X G,h37.laid (all_cons ⟨d0,f37_0⟩ (all_cons ⟨d1,f37_1⟩ (all_cons ⟨d2,f37_2⟩ (all_cons ⟨d3,f37_3⟩ (all_cons ⟨d4,f37_4⟩ (all_cons ⟨d5,f37_5⟩ (all_cons ⟨d6,f37_6⟩ (all_cons ⟨d7,f37_7⟩ (all_cons ⟨d8,f37_8⟩ (all_cons ⟨d9,f37_9⟩ (all_cons ⟨d10,f37_10⟩ bZ))))))))))),h38.laid (all_cons ⟨d0,f38_0⟩ (all_cons ⟨d1,f38_1⟩ (all_cons ⟨d2,f38_2⟩ (all_cons ⟨d3,f38_3⟩ (all_cons ⟨d4,f38_4⟩ (all_cons ⟨d5,f38_5⟩ (all_cons ⟨d6,f38_6⟩ (all_cons ⟨d7,f38_7⟩ (all_cons ⟨d8,f38_8⟩ (all_cons ⟨d9,f38_9⟩ (all_cons ⟨d10,f38_10⟩ bZ))))))))))),h39.laid X G,h40.laid X G,h41.laid (all_cons ⟨d8,f41_8⟩ (all_cons ⟨d9,f41_9⟩ (all_cons ⟨d10,f41_10⟩ bZ))),h42.laid X G,h43.laid (all_cons ⟨d0,f43_0⟩ (all_cons ⟨d1,f43_1⟩ (all_cons ⟨d2,f43_2⟩ (all_cons ⟨d3,f43_3⟩ (all_cons ⟨d4,f43_4⟩ (all_cons ⟨d5,f43_5⟩ (all_cons ⟨d6,f43_6⟩ (all_cons ⟨d7,f43_7⟩ (all_cons ⟨d8,f43_8⟩ (all_cons ⟨d9,f43_9⟩ (all_cons ⟨d10,f43_10⟩ bZ))))))))))),h44.laid (all_cons ⟨d8,f44_8⟩ (all_cons ⟨d9,f44_9⟩ (all_cons ⟨d10,f44_10⟩ bZ))),h45.laid (all_cons ⟨d10,f45_10⟩ bZ),h46.laid (all_cons ⟨d6,f46_6⟩ bZ),h47.laid (all_cons ⟨d0,f47_0⟩ (all_cons ⟨d1,f47_1⟩ (all_cons ⟨d2,f47_2⟩ (all_cons ⟨d3,f47_3⟩ (all_cons ⟨d4,f47_4⟩ (all_cons ⟨d8,f47_8⟩ bZ)))))),h48.laid (all_cons ⟨d9,f48_9⟩ bZ),h49.laid (all_cons ⟨d5,f49_5⟩ bZ),h50.laid (all_cons ⟨d7,f50_7⟩ bZ),h51.laid X G,h52.laid (all_cons ⟨d11,f52_11⟩ bZ),h53.laid X G,h54.laid (all_cons ⟨d11,f54_11⟩ bZ),Iu l55 c55 k55 i55 t55 (λ_ _ _ _ _ _ us hl=>match us,hl with|[_,_],_=>⟨_,rfl,rfl⟩) (λ_ _ _ _ _ _ us hl=>match us,hl with|[_],_=>⟨_,rfl,rfl⟩) (all_cons ⟨d11,f55_11⟩ bZ),h56.laid X G,h57.laid X G,h58.laid X G,(all_cons ⟨d10,na_check_10⟩ bZ),(all_cons ⟨d11,na_contents_11⟩ bZ),(all_cons ⟨d11,na_frames_11⟩ bZ),(all_cons ⟨d9,na_number_9⟩ bZ),(all_cons ⟨d5,na_numbers_5⟩ bZ),(all_cons ⟨d0,na_plan_0⟩ (all_cons ⟨d1,na_plan_1⟩ (all_cons ⟨d2,na_plan_2⟩ (all_cons ⟨d3,na_plan_3⟩ (all_cons ⟨d4,na_plan_4⟩ (all_cons ⟨d5,na_plan_5⟩ (all_cons ⟨d6,na_plan_6⟩ (all_cons ⟨d7,na_plan_7⟩ (all_cons ⟨d8,na_plan_8⟩ (all_cons ⟨d9,na_plan_9⟩ (all_cons ⟨d10,na_plan_10⟩ bZ))))))))))),(all_cons ⟨d11,na_program_11⟩ bZ),(all_cons ⟨d11,na_ranks_11⟩ bZ),(all_cons ⟨d11,na_rung_11⟩ bZ),(all_cons ⟨d9,na_size_9⟩ bZ)⟩⟩,⟨mg_none_of X G z_all,mg_none_of X G z_any,mg_none_of X G z_bool,mg_none_of X G z_dict,mg_none_of X G z_enumerate,mg_none_of X G z_int,mg_none_of X G z_isinstance,mg_none_of X G z_len,mg_none_of X G z_list,mg_none_of X G z_max,mg_none_of X G z_range,mg_none_of X G z_set,mg_none_of X G z_sorted,mg_none_of X G z_str,mg_none_of X G z_sum,mg_none_of X G z_tuple,mg_none_of X G z_zip⟩⟩
end Bell
namespace PySem.W.Fast
def tw909448735379297502:=0
def tw12762800427240170170:=0
def tw8429189415055974520:=0
def tw14210762981449891239:=0
def tw385852418346035641:=0
def tw6617566638752004087:=0
def tw2971412511781766592:=0
def tw14825647126811971871:=0
def tw15626027890130838414:=0
def tw4548048350786619687:=0
def tw8934992797344489267:=0
def tw9388993083564066540:=0
def tw18330661489065214689:=0
def tw957694980657622343:=0
def tw13868676769233065728:=0
def tw15836750209656333207:=0
def tw5473836794892145131:=0
def tw16854009262639326466:=0
def tw14843868388746746086:=0
def tw15577596803837939287:=0
def tw4655681699774028884:=0
def tw7575823801644402484:=0
def tw4612222906444699229:=0
def tw15120756812966794973:=0
def tw3798493788438095584:=0
def tw14890729553750918473:=0
def tw17206600818525007527:=0
def tw13223273828465717937:=0
def tw5291704734561193529:=0
def tw1784739476344470122:=0
def tw8839484929452361145:=0
def tw6229543230254268015:=0
def tw14420545278183544346:=0
def tw4852460025748161986:=0
def tw13042323582049902233:=0
def tw9143196669203187080:=0
def tw16542409422029326061:=0
def tw15805417709511907198:=0
def tw17131291891502770128:=0
def tw18320360914835533640:=0
def tw11241470862816397972:=0
def tw6193896551321306645:=0
def tw15370838679011473754:=0
def tw12165251446977291512:=0
def tw3343746256504543654:=0
def tw7267337252139678022:=0
def tw7390171774510486704:=0
def tw16117082997171877387:=0
def tw9038854309456583483:=0
def tw5405082621179590541:=0
def tw17277107323175553087:=0
def tw17713682294306604817:=0
def tw17575431878027260972:=0
def tw12556301584058336342:=0
def tw4718228970234571157:=0
def tw8212834856116836258:=0
def tw4846436426196292356:=0
def tw14171388979730410998:=0
def tw6192978042150062493:=0
def tw9431785845799853337:=0
def tw5911649318201081757:=0
def tw8724319797529089798:=0
def tw10795509964535405113:=0
def tw6072888168941541478:=0
def tw6385311121483115193:=0
def tw4034060463794760215:=0
def tw9165864266938707471:=0
def tw1036183384918702484:=0
def tw14308601044437185780:=0
def tw352889229975305925:=0
def tw12585630968154845800:=0
def tw2983726550599508056:=0
def tw6455515561908541206:=0
def tw14086662376256994638:=0
def tw12736810433704261776:=0
def tw2994735200950343129:=0
def tw10092775318953596890:=0
def tw15645671670032287782:=0
def tw15510800760242977491:=0
def tw17777673545912960372:=0
def tw12833416953471935251:=0
def tw12928192928868352853:=0
def tw7295069358599073916:=0
def tw4580273202564120407:=0
def tw16055183925594178150:=0
def tw10688581885810565694:=0
def tw7082439848302942779:=0
def tw10086783025677998528:=0
def tw15282013857532288924:=0
def tw4058693978300143779:=0
def tw3202528962401235096:=0
def tw12618393490502156192:=0
def tw13740503774067360710:=0
def tw4445516711910109691:=0
def tw10033014364475110858:=0
def tw7358943997184380949:=0
def tw12004389082551606371:=0
def tw98790618290667638:=0
def tw16966637848759277412:=0
def tw17996670658128217269:=0
def tw6820009728653555597:=0
def tw1549868575025761546:=0
def tw17548662282211124706:=0
def tw8079664490776630397:=0
def tw14897066934124663874:=0
def tw11051373340299878677:=0
def tw13684530969665665547:=0
def tw2304446451690975324:=0
def tw5501561079396175487:=0
def tw17824292373702165338:=0
def tw5769641094904441718:=0
def tw17867456280917334210:=0
def tw12627684642953907418:=0
def tw3385771731204303867:=0
def tw14357262284964428796:=0
def tw6031900149781504236:=0
def tw6371508784315264700:=0
def tw1837325870823310755:=0
def tw14889939190920986985:=0
def tw11264164857205798650:=0
def tw18161533213288138416:=0
def tw11068420331529182816:=0
def tw5213303094505683946:=0
def tw16099380247389017811:=0
def tw17878256902213772310:=0
def tw16307394340477524581:=0
def tw11344317530882552839:=0
def tw17759454333132102097:=0
def tw1345511773177384417:=0
def tw1387186345365675935:=0
def tw83230184666284456:=0
def tw12168836097225513740:=0
def tw13522903690404660665:=0
def tw3256421679967223340:=0
def tw1311458666011316409:=0
def tw14501858544368655337:=0
def tw17321832260152146677:=0
def tw13572953935116063066:=0
def tw6484531403727884547:=0
def tw7686410674772479480:=0
def tw17356712691761823232:=0
def tw7224078207693663799:=0
def tw15011869716822321876:=0
def tw14999731936530158708:=0
def tw1097032031752816989:=0
def tw5780261015081583617:=0
def tw15300826915094975306:=0
def tw7666978467151675720:=0
def tw12483365529415769206:=0
def tw14178743925122522672:=0
def tw6033157264762792018:=0
def tw10432693482594130593:=0
def tw2391133415385424452:=0
def tw11839130716343895783:=0
def tw10934747370002469964:=0
def tw10507096852268663589:=0
def tw15837418108475224869:=0
def tw13303807277453674070:=0
def tw6995054337607420274:=0
def tw1140600166646218458:=0
def tw8129506571309857753:=0
def tw14819130485195850866:=0
def tw1019415760822542960:=0
def tw10003862929030085862:=0
def tw7778358964544003348:=0
def tw7662930068837804536:=0
def tw12551820076623083493:=0
def tw3795931590376710:=0
def tw17096155442981543323:=0
def tw3781128374030330431:=0
def tw11619161418188348698:=0
def tw14307579213907374685:=0
def tw2672698704959404815:=0
def tw2043870479857813549:=0
def tw5017851719646276430:=0
def tw15941768390435518779:=0
def tw7964744809424742589:=0
def tw16651837655473887307:=0
def tw7072302425895555085:=0
def tw5379921732360709701:=0
def tw14981367705526010789:=0
def tw10352881192098928686:=0
def tw9016851676847164836:=0
def tw7998155749894993544:=0
def tw16746543301040168488:=0
def tw8216974871932556260:=0
def tw9866315625088966845:=0
def tw10967559230775261088:=0
def tw1971392002766328382:=0
def tw2456594980981469763:=0
def tw727295858796246983:=0
def tw2959516267412447592:=0
def tw206523977234992368:=0
def tw17203503947470755349:=0
end PySem.W.Fast
end
open PySem PySem.W PyProof.Rows
set_option maxRecDepth 100000 in
set_option maxHeartbeats 0 in
theorem PySem.Challenge.cw_bellnest_k18_prompt_ringings_holds : PySem.Challenge.rw_bellnest_k18_prompt_ringings.Holds := by
 w_on;o_law;k_head;(case hw=>w_witness2)
 k_fill
 refine Bell.walk (l:=PySem.Challenge.rw_bellnest_k18_prompt_ringings) Bell.law_true rfl (λw=>by kernel_rfl) (λw=>by kernel_rfl) rfl rfl rfl (λw h Y=>PySem.W.km_in_of Y) ?F
 case F=>
  intro w mg h KX G;refine' Bell.defs_mk KX G ?_ ⟨?_,?_,?_,?_⟩ ?_ ⟨?_,?_,?_,?_⟩ ?_ ⟨?_,?_,?_,?_⟩ ?_ ⟨?_,?_,?_,?_⟩ ?_ ⟨?_,?_,?_,?_⟩ ?_ ⟨?_,?_,?_,?_⟩ ?_ ⟨?_,?_,?_,?_⟩ ?_ ⟨?_,?_,?_,?_⟩ ?_ ⟨?_,?_,?_,?_⟩ ?_ ⟨?_,?_,?_,?_⟩ ?_ ⟨?_,?_,?_,?_⟩ ?_ ⟨?_,?_,?_,?_⟩ (Bell.lp ?_ ?_ ?_ ?_) (Bell.lp ?_ ?_ ?_ ?_) (Bell.lp ?_ ?_ ?_ ?_) (Bell.lp ?_ ?_ ?_ ?_) (Bell.lp ?_ ?_ ?_ ?_) (Bell.lp ?_ ?_ ?_ ?_) (Bell.lp ?_ ?_ ?_ ?_) (Bell.lp ?_ ?_ ?_ ?_) (Bell.lp ?_ ?_ ?_ ?_) (Bell.lp ?_ ?_ ?_ ?_) (Bell.lp ?_ ?_ ?_ ?_) (Bell.li ?_ ?_ ?_ ?_ ?_ ?_ ?_ ?_ ?_ ?_) ?_ (Bell.lm ?_ ?_ ?_ ?_) ?_ (Bell.lm ?_ ?_ ?_ ?_) (Bell.lp ?_ ?_ ?_ ?_) (Bell.lp ?_ ?_ ?_ ?_) (Bell.lp ?_ ?_ ?_ ?_) (Bell.lp ?_ ?_ ?_ ?_) (Bell.lp ?_ ?_ ?_ ?_) (Bell.lp ?_ ?_ ?_ ?_) (Bell.lp ?_ ?_ ?_ ?_) (Bell.lp ?_ ?_ ?_ ?_) (Bell.lp ?_ ?_ ?_ ?_) (Bell.lp ?_ ?_ ?_ ?_) ?_ ?_ ?_ ?_ (Bell.li ?_ ?_ ?_ ?_ ?_ ?_ ?_ ?_ ?_ ?_) (Bell.li ?_ ?_ ?_ ?_ ?_ ?_ ?_ ?_ ?_ ?_) (Bell.li ?_ ?_ ?_ ?_ ?_ ?_ ?_ ?_ ?_ ?_) (Bell.li ?_ ?_ ?_ ?_ ?_ ?_ ?_ ?_ ?_ ?_) (Bell.li ?_ ?_ ?_ ?_ ?_ ?_ ?_ ?_ ?_ ?_) (Bell.li ?_ ?_ ?_ ?_ ?_ ?_ ?_ ?_ ?_ ?_) (Bell.li ?_ ?_ ?_ ?_ ?_ ?_ ?_ ?_ ?_ ?_) (Bell.li ?_ ?_ ?_ ?_ ?_ ?_ ?_ ?_ ?_ ?_) (Bell.li ?_ ?_ ?_ ?_ ?_ ?_ ?_ ?_ ?_ ?_) (Bell.li ?_ ?_ ?_ ?_ ?_ ?_ ?_ ?_ ?_ ?_) (Bell.li ?_ ?_ ?_ ?_ ?_ ?_ ?_ ?_ ?_ ?_) (Bell.lp ?_ ?_ ?_ ?_) ?_ ?_ ?_ ?_ ?_ ?_ ?_ ?_ ?_ ?_ ?_ (Bell.lm ?_ ?_ ?_ ?_) ?_ ?_ ?_ ?_ ?_ ?_ ?_ ?_ ?_ ?_ ?_ (Bell.lm ?_ ?_ ?_ ?_) (Bell.lp ?_ ?_ ?_ ?_) (Bell.lp ?_ ?_ ?_ ?_) ?_ ?_ ?_ (Bell.lm ?_ ?_ ?_ ?_) (Bell.lp ?_ ?_ ?_ ?_) ?_ ?_ ?_ ?_ ?_ ?_ ?_ ?_ ?_ ?_ ?_ (Bell.lm ?_ ?_ ?_ ?_) ?_ ?_ ?_ (Bell.lm ?_ ?_ ?_ ?_) ?_ (Bell.lm ?_ ?_ ?_ ?_) ?_ (Bell.lm ?_ ?_ ?_ ?_) ?_ ?_ ?_ ?_ ?_ ?_ (Bell.lm ?_ ?_ ?_ ?_) ?_ (Bell.lm ?_ ?_ ?_ ?_) ?_ (Bell.lm ?_ ?_ ?_ ?_) ?_ (Bell.lm ?_ ?_ ?_ ?_) (Bell.lp ?_ ?_ ?_ ?_) ?_ (Bell.lm ?_ ?_ ?_ ?_) (Bell.lp ?_ ?_ ?_ ?_) ?_ (Bell.lm ?_ ?_ ?_ ?_) ?_ ?_ ?_ ?_ ?_ ?_ (Bell.lp ?_ ?_ ?_ ?_) (Bell.lp ?_ ?_ ?_ ?_) (Bell.lp ?_ ?_ ?_ ?_) ?_ ?_ ?_ ?_ ?_ ?_ ?_ ?_ ?_ ?_ ?_ ?_ ?_ ?_ ?_ ?_ ?_ ?_ ?_ ?_ ?_ ?_ ?_ ?_ ?_ ?_ ?_ ?_ ?_ ?_ ?_ ?_ ?_ ?_ ?_ ?_ ?_
  all_goals (try k_is)
