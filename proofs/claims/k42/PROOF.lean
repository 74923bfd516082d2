import PyProof.Rows.All
import Wide.All
import OpenK.AllK
import Wide.FinOn
import Lean
import PyProof.EqAt
import PyProof.EqKinds
import PyProof.TupleCall
import PySem.SetOps
import KE.KMinKey
import KE.KSortKey
import KE.KSortTup
import KE.KRevIter
import PySem.Challenge.RW_bellnest_k42_pairs_told
abbrev Vn:=PySem.Value
abbrev Vo:=PySem.Shared
abbrev Vp:=PySem.Addr
abbrev Vq:=PySem.Program
abbrev Vr:=PySem.World
abbrev Vs:=PySem.Heap
abbrev Vt:=PySem.Expr
abbrev Vu:=PySem.Stmt
abbrev Vv:=PySem.Around
abbrev Vw:=String
noncomputable section
set_option Elab.async false
set_option linter.all false
set_option compiler.extract_closed false
set_option maxRecDepth 100000
open PySem.W (Frag KdlSrc callWith_K codeIn emptyDict findCls findIn fnOf handedIn hasDictIn instObj isFn keepIn kitOne kitx_dict kitx_list lookIn makesIn methodCall_KW methodObj mg_of nsIn plainGet plainGet_of plainOver readsIn specialIn takerIn)
open List (map_nil replicate)
open Nat (add_zero le_succ ne_of_gt sub_self)
open Array (toList_inj toList_push)
abbrev QA:=@PySem.wpAny_bind
abbrev QB:=@List.getElem?_eq_getElem
abbrev QC:=@Bool.false_ne_true
abbrev QD:=@PySem.wpAny_pure
abbrev QE:=@List.length_append
abbrev QF:=@PySem.Heap.get?_push_of_some
abbrev QG:=@List.length_map
abbrev QH:=@if_pos
abbrev QI:=@if_neg
abbrev QJ:=@PyProof.Rows.wpS_bind
abbrev QK:=@List.size_toArray
abbrev QL:=@Array.length_toList
abbrev QM:=@List.getElem?_eq_some_iff
abbrev QN:=@PyProof.Rows.wpS_pure
abbrev QO:=@Nat.le_refl
abbrev QP:=@beq_iff_eq
abbrev QQ:=@List.getElem?_set_ne
abbrev QR:=@List.getElem?_set_self
abbrev QS:=@List.length_cons
abbrev QT:=@PySem.Heap.get?_push_size
abbrev QU:=@PySem.boot_len
abbrev QV:=@decide_eq_true
abbrev QW:=@Array.getElem?_eq_getElem
abbrev QX:=@List.mem_range
abbrev QY:=@decide_eq_false
abbrev QZ:=@Nat.lt_of_lt_of_le
abbrev Vx:=@PySem.Heap.lt_size
abbrev Vy:=@List.getElem?_map
abbrev Vz:=@List.append_nil
abbrev V0:=@List.mem_cons_of_mem
abbrev V1:=@List.mem_cons
abbrev V2:=@List.length_range
abbrev V3:=@List.mem_singleton
abbrev V4:=@List.append_assoc
abbrev V5:=@Nat.le_trans
abbrev V6:=@List.mem_map
abbrev V7:=@Nat.ne_of_lt
abbrev V8:=@PySem.PassesOwn.never
abbrev V9:=@Nat.add_sub_cancel_left
abbrev VA:=@Nat.zero_le
abbrev VB:=@List.map_append
abbrev VC:=@List.length_singleton
abbrev VD:=@PySem.wpAny_call_entry
abbrev VE:=@PySem.wpAny_newObj_type
abbrev VF:=@List.mem_cons_self
abbrev VG:=@Array.toList_append
abbrev VH:=@Int.toNat_natCast
abbrev VI:=@Bool.eq_iff_iff
abbrev VJ:=@Bool.and_eq_true
abbrev VL:=@List.pairwise_append
abbrev VM:=@List.getElem_mem
abbrev VN:=@Option.some.inj
abbrev VO:=@Array.getElem?_toList
abbrev VP:=@List.take_append_drop
abbrev VQ:=@List.mem_append
abbrev VR:=@List.getElem?_append_right
abbrev VS:=@PySem.builtinLookup_eq_fast
abbrev VT:=@List.flatten_cons
abbrev VU:=@PySem.wpAny_callSpecial?_slot
abbrev VV:=@List.getElem?_append_left
abbrev VW:=@List.length_set
abbrev VX:=@PyProof.Rows.wpS_forRange
abbrev VY:=@List.Pairwise.sublist
abbrev VZ:=@List.mem_flatMap
abbrev Wa:=@Bool.false_eq_true
abbrev Wb:=@List.getD_eq_getElem?_getD
abbrev Wc:=@List.mem_iff_getElem
abbrev Wd:=@List.mem_append_right
abbrev We:=@List.length_take
abbrev Wf:=@PySem.wpAny_field
abbrev Wg:=@List.replicate_succ
abbrev Wh:=@congrArg
abbrev Wi:=@PySem.F.called_set
abbrev Wj:=@List.getElem?_eq_none
abbrev Wl:=@List.pairwise_cons
abbrev Wm:=@List.map_cons
abbrev Wn:=@PySem.wpAny_of_eq
abbrev Wo:=@Nat.lt_irrefl
abbrev Wp:=@getElem?_pos
abbrev Wq:=@PySem.typeLookup_type
abbrev Wr:=@PySem.W.mg_none_of
abbrev Ws:=@List.length_drop
abbrev Wt:=@PySem.wpAny_holding
abbrev Wu:=@List.getElem?_range
abbrev Ww:=@List.range_succ
abbrev Wx:=@of_decide_eq_true
abbrev Wy:=@PySem.isSubtype_type
abbrev Wz:=@Nat.lt_succ_self
abbrev W1:=@List.drop_eq_getElem_cons
abbrev W2:=@List.pairwise_iff_getElem
abbrev W3:=@List.drop_eq_nil_of_le
abbrev W4:=@List.flatMap_singleton
abbrev W5:=@decide_eq_false_iff_not
abbrev W6:=@List.filter_append
abbrev W7:=@Nat.le_of_lt
abbrev W8:=@Ne.symm
abbrev W9:=@Array.getElem?_eq_none
abbrev WA:=@PyProof.Rows.wpS_mono
abbrev WB:=@List.Perm.append_left
abbrev WC:=@PySem.sizeLine_eq
abbrev WD:=@PySem.codeAny_mono
abbrev WE:=@LawfulBEq.eq_of_beq
abbrev WG:=@PySem.Obj.data_mapFields
abbrev WH:=@PySem.wpAny_rule
abbrev WI:=@Nat.lt_succ_of_lt
abbrev WJ:=@PySem.Heap.get?_update_self
abbrev WK:=@PySem.wpAny_attempt
abbrev WL:=@beq_self_eq_true
abbrev WM:=@PySem.wpAny_truthy_bool
abbrev WN:=@beq_eq_false_iff_ne
abbrev WO:=@PySem.mem_of_lookup
abbrev WQ:=@PyProof.Rows.F.plain_set_update_loop
abbrev WR:=@List.mem_filter
abbrev WS:=@List.flatMap_append
abbrev WT:=@Bool.or_false
abbrev WU:=@PySem.F.slot_tuple_iterator_next
abbrev WV:=@PySem.Around.under_plainId
abbrev WW:=@Array.perm_iff_toList_perm
abbrev WX:=@List.eq_of_mem_replicate
abbrev WY:=@List.pairwise_map
abbrev WZ:=@List.length_filter_le
abbrev Za:=@Nat.lt_of_le_of_lt
abbrev Zb:=@PySem.wpAny_isInstance
abbrev Zc:=@PyProof.Rows.listUpdate_at
abbrev Zd:=@Prod.mk.inj
abbrev Ze:=@List.any_cons
abbrev Zf:=@PySem.AutoSeq1.wpAny_loadPart'
abbrev Zg:=@Bool.not_eq_true'
abbrev Zh:=@Nat.lt_of_succ_lt_succ
abbrev Zi:=@List.map_map
abbrev Zj:=@PySem.codeAny_builtin
abbrev Zk:=@PySem.wpAny_specialOf
abbrev Zl:=@List.filter_cons_of_pos
abbrev Zm:=@List.filter_cons_of_neg
abbrev Zn:=@PySem.wpAny_Call_Name_kw
abbrev Zo:=@PyProof.Rows.slot_tuple_getitem
abbrev Zp:=@List.length_replicate
abbrev Zq:=@List.contains_iff_mem
abbrev Zr:=@Int.natCast_nonneg
abbrev Zs:=@List.map_congr_left
abbrev Zt:=@List.take_of_length_le
abbrev Zu:=@List.reverse_append
abbrev Zv:=@if_false
abbrev Zw:=@PySem.Heap.get?_update_other
abbrev Zx:=@Int.lt_iff_le_and_ne
abbrev Zy:=@Array.toList_reverse
abbrev Zz:=@List.take_append_of_le_length
abbrev Z0:=@List.eq_nil_of_length_eq_zero
abbrev Z1:=@PySem.W.kia_one
abbrev Z2:=@List.getElem_of_mem
abbrev Z3:=@PySem.wpAny_mono
abbrev Z4:=@PyProof.Rows.callWith_type1
abbrev Z5:=@PySem.wpAny_askSetting
abbrev Z6:=@Int.lt_trans
abbrev Z7:=@Nat.zero_add
abbrev Z8:=@List.take_length
abbrev Z9:=@PySem.Heap.get?_update_ne
abbrev ZA:=@Nat.add_sub_cancel
abbrev ZC:=@Int.lt_of_lt_of_le
abbrev ZD:=@Int.emod_lt_of_pos
abbrev ZE:=@decide_eq_true_iff
abbrev ZF:=@List.mem_of_getElem?
abbrev ZG:=@List.mem_of_mem_drop
abbrev ZH:=@List.mem_of_mem_take
abbrev ZI:=@PySem.wpAny_passesOwn
abbrev ZJ:=@PySem.wpAny_ite_split
abbrev ZK:=@List.any_eq_false
abbrev ZL:=@PySem.Heap.size_push
abbrev ZM:=@PySem.Heap.SameBut.update
abbrev ZN:=@bne_self_eq_false
abbrev ZO:=@Nat.lt_trichotomy
abbrev ZP:=@List.getElem?_take_of_lt
abbrev ZQ:=@PySem.F.args_tuple_add_2
abbrev ZR:=@List.all_cons
abbrev ZS:=@PyProof.Rows.wpS_modify
abbrev ZT:=@List.any_append
abbrev ZU:=@List.getElem?_replicate
abbrev ZV:=@PySem.F.entry_tuple_add
abbrev ZW:=@PySem.wpAny_pyIter_tuple
abbrev ZX:=@PySem.wpAny_setField
abbrev ZY:=@List.length_eq_zero_iff
abbrev ZZ:=@PySem.F.plainAttrs_list
abbrev Ya:=@List.pairwise_singleton
abbrev Yb:=@Nat.max_eq_right
abbrev Yc:=@decide_eq_decide
abbrev Yd:=@PySem.F.slot_tuple_add
abbrev Ye:=@Int.not_lt
abbrev Yf:=@Nat.le_succ_of_le
abbrev Yg:=@PySem.Calls.call_function_entry
abbrev Yh:=@Nat.not_lt
abbrev Yi:=@Nat.add_sub_assoc
abbrev Yj:=@List.filter_eq_nil_iff
abbrev Yk:=@PySem.wpAny_pyIter_list
abbrev Yl:=@List.contains_cons
abbrev Ym:=@Nat.le_of_eq
abbrev Yn:=@PySem.plainId_quiet
abbrev Yo:=@PySem.wpAny_newList
abbrev Yp:=@List.pairwise_reverse
abbrev Yq:=@PySem.wpAny_eqBool_int
abbrev Yr:=@List.mem_append_left
abbrev Ys:=@Bool.and_eq_true_iff
abbrev Yt:=@List.reverse_reverse
abbrev Yu:=@List.map_eq_cons_iff
abbrev Yv:=@List.ext_getElem?
abbrev Yw:=@List.filter_nil
abbrev Yx:=@List.any_nil
abbrev Yy:=@List.filterMap_cons
abbrev Yz:=@PySem.call_meets
abbrev Y0:=@Bool.or_eq_true_iff
abbrev Y1:=@Int.toNat_of_nonneg
abbrev Y2:=@PyProof.Rows.F.entry_set_update_loop
abbrev Y3:=@List.length_reverse
abbrev Y4:=@List.flatten_append
abbrev Y5:=@List.filter_eq_self
abbrev Y6:=@List.mem_filterMap
abbrev Y7:=@PySem.Obj.isFreed_of_fields
abbrev Y8:=@Nat.mod_lt
abbrev Y9:=@List.zip_cons_cons
abbrev YA:=@PyProof.Rows.wpS_get
abbrev YB:=@Int.emod_nonneg
abbrev YC:=@List.all_eq_true
abbrev YD:=@List.lookup_cons
abbrev YE:=@List.any_eq_true
abbrev YF:=@Nat.add_assoc
abbrev YG:=@List.Pairwise.imp
abbrev YH:=@Nat.le_of_lt_succ
abbrev YI:=@List.drop_sublist
abbrev YJ:=@List.getElem_take
abbrev YK:=@List.reverse_perm
abbrev YL:=@Nat.le_of_succ_le
abbrev YM:=@List.getElem_inj
abbrev YN:=@Int.max_eq_right
abbrev YO:=@Nat.le_of_not_lt
abbrev YQ:=@List.Nodup.length_le_of_subset
abbrev YR:=@List.nodup_cons
abbrev YS:=@List.foldl_cons
abbrev YT:=@List.nil_append
abbrev YU:=@List.drop_append_of_le_length
abbrev YV:=@List.of_mem_zip
abbrev YW:=@Int.min_eq_left
abbrev YX:=@Nat.min_eq_left
abbrev YY:=@Nat.lt_trans
abbrev YZ:=@PySem.wpAny_setField_rec
abbrev Xa:=@Nat.min_le_left
abbrev Xb:=@Nat.le_antisymm
abbrev Xc:=@List.take_sublist
abbrev Xd:=@List.reverse_cons
abbrev Xe:=@List.getElem_drop
abbrev Xf:=@Array.getD_eq_getD_getElem?
abbrev Xg:=@List.any_map
abbrev Xh:=@Int.fdiv_eq_ediv_of_nonneg
abbrev Xi:=@PySem.concat_meets
abbrev Xj:=@Bool.and_false
abbrev Xk:=@PySem.wpAny_pyIter_slot
abbrev Xl:=@Array.toList_setIfInBounds
abbrev Xm:=@List.getElem?_take_eq_none
abbrev Xn:=@PyProof.Rows.wpS_lift
abbrev Xo:=@PyProof.Rows.seqEpoch_at
abbrev Xp:=@PySem.F.plain_extend_loop
abbrev Xq:=@Option.isSome_iff_exists
abbrev Xr:=@PySem.noFill_tuple_add
abbrev Xs:=@PySem.entryFor_of_tree
abbrev Xt:=@List.mem_reverse
abbrev Xu:=@Array.size_setIfInBounds
abbrev Xv:=@List.drop_append
section
open PySem PySem.Spec PyProof.Rows
namespace L2
abbrev Key:=Sum Int Str
def HA:Key->Vn->Bool
 |.inl k,v=>Value.isInt k v
 |.inr x,v=>Value.isStrOf x v
def Mf(w:Vr):Key->Int
 |.inl k=>hashInt k
 |.inr x=>hashStr w x
theorem cF:∀{k:Key}{v:Vn},HA k v=true->(∃i t,k=Sum.inl i/\v=Value.int i t)\/(∃x t,k=Sum.inr x/\v=Value.str x t)
 |.inl i,v,h=>by
  obtain⟨t,e⟩:=Value.isInt_shape (k:=i) (v:=v) h;exact .inl ⟨i,t,rfl,e⟩
 |.inr x,v,h=>by
  obtain⟨t,e⟩:=Value.isStrOf_shape (x:=x) (v:=v) h;exact .inr ⟨x,t,rfl,e⟩
def Jn(a b:Int):decide ((Sum.inl a:Key)=Sum.inl b)=(a == b):=by
 by_cases e:a=b
 ·subst e;simp
 ·have h:¬(Sum.inl a:Key)=Sum.inl b:=λq=>e (Sum.inl.inj q);rw[QY h];exact(WN.mpr e).symm
def Jk(a b:Str):decide ((Sum.inr a:Key)=Sum.inr b)=decide (a=b):=by
 by_cases e:a=b
 ·subst e;simp
 ·have h:¬(Sum.inr a:Key)=Sum.inr b:=λq=>e (Sum.inr.inj q);rw[QY h,QY e]
def Jm(a:Int)(b:Str):decide ((Sum.inl a:Key)=Sum.inr b)=false:=QY (λq=>nomatch q)
def Jl(a:Str)(b:Int):decide ((Sum.inr a:Key)=Sum.inl b)=false:=QY (λq=>nomatch q)
def uz(prog:Vq)(w:Vr):PySem.KeyKind prog w Key where
 is:=HA
 hash:=Mf w
 inj:=λv a b ha hb=>by
  rcases cF ha with⟨i,t,rfl,rfl⟩|⟨x,t,rfl,rfl⟩
  ·rcases cF hb with⟨j,u,rfl,e⟩|⟨y,u,rfl,e⟩
   ·injection e with e1 _;rw[e1]
   ·exact nomatch e
  ·rcases cF hb with⟨j,u,rfl,e⟩|⟨y,u,rfl,e⟩
   ·exact nomatch e
   ·injection e with e1 _;rw[e1]
 byValue:=λk v h=>by
  rcases cF h with⟨i,t,rfl,rfl⟩|⟨x,t,rfl,rfl⟩ <;> rfl
 pyHash:=λhv h=>by
  rcases cF hv with⟨i,t,rfl,rfl⟩|⟨x,t,rfl,rfl⟩
  ·exact wpAny_pyHash_int h
  ·exact wpAny_pyHash_str h
 eqBool:=λhu hv h=>by
  rcases cF hu with⟨i,t,rfl,rfl⟩|⟨x,t,rfl,rfl⟩
  ·rcases cF hv with⟨j,u,rfl,rfl⟩|⟨y,u,rfl,rfl⟩
   ·rw[Jn] at h;exact Yq h
   ·rw[Jm] at h;exact SeqAt.EqAt.int_str i t y u _ _ _ _ h
  ·rcases cF hv with⟨j,u,rfl,rfl⟩|⟨y,u,rfl,rfl⟩
   ·rw[Jl] at h;exact SeqAt.EqAt.str_int x t j u _ _ _ _ h
   ·rw[Jk] at h;exact wpAny_eqBool_str h
 «strs»:=λk x t v h=>by
  rcases cF h with⟨i,u,rfl,e⟩|⟨y,u,rfl,e⟩
  ·exact nomatch e
  ·injection e with e1 _;subst e1;cases v <;> rfl
inductive V where
 |non|bl (b:Bool)|int (i:Int)|str (x:Str)|byt (b:Array UInt8)|flt (b:UInt64)|ref (a:Vp)|ty (n:Vw)
 deriving DecidableEq
def bV:V->Vn->Prop
 |.non,u=>u=Value.none
 |.bl b,u=>u=Value.bool b
 |.int i,u=>∃t,u=Value.int i t
 |.str x,u=>∃t,u=Value.str x t
 |.byt b,u=>∃t,u=Value.bytes b t
 |.flt b,u=>∃t,u=Value.float b t
 |.ref a,u=>u=Value.ref a
 |.ty n,u=>u=Value.type n
abbrev Vals:List V->List Vn->Prop:=Paired bV
theorem Vals.length{xs:List V}{us:List Vn}(r:Vals xs us):xs.length=us.length:=Paired.length r
theorem Vals.get:∀{xs:List V}{us:List Vn}{i:Nat}{x:V},Vals xs us->xs[i]?=some x->∃u,us[i]?=some u/\bV x u
 |_,_,_,_,.nil,e=>by simp at e
 |_,_,0,_,.cons r _,e=>by simp at e;subst e;exact⟨_,rfl,r⟩
 |_,_,i+1,x,.cons _ t,e=>by
  obtain⟨u,h1,h2⟩:=Vals.get (i:=i) (x:=x) t (by simpa using e)
  exact⟨u,by simpa using h1,h2⟩
theorem Vals.append:∀{xs ys:List V}{us ws:List Vn},Vals xs us->Vals ys ws->Vals (xs++ys) (us++ws)
 |_,_,_,_,.nil,s=>s
 |_,_,_,_,.cons r t,s=>.cons r (Vals.append t s)
theorem Vals.take:∀{xs:List V}{us:List Vn}(n:Nat),Vals xs us->Vals (xs.take n) (us.take n)
 |_,_,0,_=>.nil
 |_,_,_+1,.nil=>.nil
 |_,_,n+1,.cons r t=>.cons r (Vals.take n t)
theorem Vals.drop:∀{xs:List V}{us:List Vn}(n:Nat),Vals xs us->Vals (xs.drop n) (us.drop n)
 |_,_,0,r=>r
 |_,_,_+1,.nil=>.nil
 |_,_,n+1,.cons _ t=>Vals.drop n t
def RelO:Option V->Option Vn->Prop
 |some v,some u=>bV v u
 |none,none=>True
 |_,_=>False
def KV{κ:Type}:List (κ×V)->List (κ×Vn)->Prop:=Paired λ(p:κ×V)(q:κ×Vn)=>p.1=q.1/\bV p.2 q.2
def kV:Key->V
 |.inl i=>.int i
 |.inr x=>.str x
inductive HO where
 |lst (xs:List V)
 |tup (xs:List V)
 |dK (kvs:List (Key×V))|dT (kvs:List (List Key×V))
 |set (S:Int->Bool) (n:Nat)
 |ins (C dx:Vp) (fs:List (Str×V))
 |own (x:Vp)
 |xd (fs:List (Str×V))
 |met (f x:Vp)
 |rng (lo hi:Int)
 |frz (o:Obj) (u:HO)
 |tbl (ps:Array Vn)
 |tab (good:Pos->Option Str)
 |fnc (c:Vp) (q:Str)
 |big (u:HO) (T:List (Vp×List V))
 |ext (φ:Vs->Prop)
abbrev Hp:=Vp->Option HO
def cD(H:Hp)(a:Vp)(o:HO):Hp:=λb=>if b=a then some o else H b
def aQ{H:Hp}{a:Vp}{o:HO}:cD H a o a=some o:=by unfold cD;rw[QH rfl]
def az{H:Hp}{a b:Vp}{o:HO}(h:b≠a):cD H a o b=H b:=by unfold cD;rw[QI h]
def aO{H:Hp}{a b:Vp}{o:HO}(h:H a=some o)(h':H b=none):a≠b:=by
 intro e;subst e;rw[h] at h';cases h'
section
variable(P:Vq)(w:Vr)
def du(H:Hp)(h:Vs)(a:Vp):HO->Prop
 |.lst xs=>xs.length<=sizeLine/\∃(its:List Vn)(n:Nat),Vals xs its/\h.get? a=some {cls:=.type "list",data:=.seq its.toArray n}
 |.tup xs=>xs.length<=sizeLine/\∃its:List Vn,Vals xs its/\IsTup h a its.toArray
 |.dK kvs=>kvs.length<=sizeLine/\(a == sysModules)=false/\∃vs,KV kvs vs/\h.DictOf (uz P w) a vs
 |.dT kvs=>kvs.length<=sizeLine/\(a == sysModules)=false/\∃xs:List (List Key×Vp×Vn),
   Paired (λ(p:List Key×V)(q:List Key×Vp×Vn)=>p.1=q.1/\H q.2.1=some (.tup (p.1.map kV))/\bV p.2 q.2.2) kvs xs/\
   ∃o es ep,h.get? a=some o/\o.ExactDict/\o.data=.dict es ep/\es.toList=xs.map (entryOfKey (tupleKind (uz P w)))/\(xs.map (·.1)).Nodup
 |.set S n=>h.SetOf (intKind P w) a S n
 |.ins C dx fs=>H dx=some (.own a)/\fs.length<=1000/\dx≠a/\h.get? a=some (instObj C dx)/\
   ∃mA,h.Ns1 dx mA/\(∀f,RelO (fs.lookup f) (mA f))/\PySem.Within mA (fs.map (·.1))
 |.own _=>∃o,h.get? a=some o
 |.xd fs=>∃mA,h.Ns1 a mA/\∀f,RelO (fs.lookup f) (mA f)
 |.rng lo hi=>∃t u v,h.get? a=some {cls:=.type "range",data:=.fields #[.int lo t,.int hi u,.int 1 v]}
 |.frz o u=>h.get? a=some o/\du H h a u
 |.tbl ps=>h.get? a=some {cls:=.none,data:=.fields ps}
 |.tab good=>∃ps:Array Vn,h.get? a=some {cls:=.none,data:=.fields ps}/\TriplesOk ps.toList/\∀p cv,(good p).isSome=true->codeAmong p ps.toList=some cv->∃(c:Vp)(oc:Obj)(q:Str)(vs:Array Vn)(t:Tok),cv=.ref c/\H c=some (.frz oc (.own c))/\good p=some q/\oc.data=.fields vs/\vs[1]?=some (.str q t)
 |.fnc c q=>(∃o,h.get? a=some o)/\∃(oc:Obj)(vs:Array Vn)(t:Tok),H c=some (.frz oc (.own c))/\oc.data=.fields vs/\vs[1]?=some (.str q t)
 |.met f x=>h.get? a=some (methodObj (.ref f) (.ref x))
 |.big u T=>du H h a u/\(T.map (·.1)).Nodup/\∀p∈T,p.1≠a/\H p.1=some (.own a)/\p.2.length<=sizeLine/\∃(its:List Vn)(n:Nat),Vals p.2 its/\h.get? p.1=some {cls:=.type "list",data:=.seq its.toArray n}
 |.ext φ=>φ h/\(∃o,h.get? a=some o)/\∀h1 h2:Vs,φ h1->(∀o,h1.get? a=some o->h2.get? a=some o)->φ h2
def oz(H:Hp)(h:Vs):Prop:=∀a o,H a=some o->du P w H h a o
end
section
variable{P:Vq}{w:Vr}{H H':Hp}{h h':Vs}{a:Vp}{o:HO}
theorem du.lt(x:du P w H h a o):a<h.objs.size:=by
 induction o with
 |big u T ih=>exact ih x.1
 |lst xs=>obtain⟨_,_,_,_,e⟩:=x;exact Vx e
 |tup xs=>obtain⟨_,_,_,p⟩:=x;exact p.lt
 |dK kvs=>obtain⟨_,_,_,_,o,_,_,e,_⟩:=x;exact Vx e
 |dT kvs=>obtain⟨_,_,_,_,o,_,_,e,_⟩:=x;exact Vx e
 |set S n=>obtain⟨o,_,_,_,e,_⟩:=x;exact Vx e
 |ins C dx fs=>obtain⟨_,_,_,e,_⟩:=x;exact Vx e
 |own y=>obtain⟨_,e⟩:=x;exact Vx e
 |xd fs=>obtain⟨_,⟨_,_,_,e,_⟩,_⟩:=x;exact Vx e
 |rng lo hi=>obtain⟨_,_,_,e⟩:=x;exact Vx e
 |frz ob u=>obtain⟨e,_⟩:=x;exact Vx e
 |tbl ps=>exact Vx (show h.get? a=some _ from x)
 |tab good=>obtain⟨_,e,_⟩:=x;exact Vx e
 |fnc c q=>obtain⟨⟨_,e⟩,_⟩:=x;exact Vx e
 |met f y=>exact Vx (show h.get? a=some _ from x)
 |ext φ=>obtain⟨_,⟨_,e⟩,_⟩:=x;exact Vx e
theorem Paired.mapP{α β:Type}{F G:α->β->Prop}:∀{l₁:List α}{l₂:List β},Paired F l₁ l₂->(∀a b,F a b->G a b)->Paired G l₁ l₂
 |_,_,.nil,_=>.nil
 |_,_,.cons r t,f=>.cons (f _ _ r) (Paired.mapP t f)
theorem du.stay(x:du P w H h a o)(k:∀b u,(b=a\/H b=some (.own a))->h.get? b=some u->h'.get? b=some u)
  (ho:∀b,H b=some (.own a)->H' b=some (.own a)) (ht:∀b xs,H b=some (.tup xs)->H' b=some (.tup xs)) (hf:∀b ob y,H b=some (.frz ob (.own y))->H' b=some (.frz ob (.own y))):du P w H' h' a o:=by
 induction o with
 |lst xs=>obtain⟨z,its,n,r,e⟩:=x;exact⟨z,its,n,r,k _ _ (.inl rfl) e⟩
 |tup xs=>obtain⟨z,its,r,ob,e,c⟩:=x;exact⟨z,its,r,ob,k _ _ (.inl rfl) e,c⟩
 |dK kvs=>obtain⟨z,y,vs,r,ob,es,ep,e,c⟩:=x;exact⟨z,y,vs,r,ob,es,ep,k _ _ (.inl rfl) e,c⟩
 |dT kvs=>
  obtain⟨z,y,xs,r,ob,es,ep,e,c⟩:=x;exact⟨z,y,xs,Paired.mapP r λp q z=>⟨z.1,ht _ _ z.2.1,z.2.2⟩,ob,es,ep,k _ _ (.inl rfl) e,c⟩
 |set S n=>obtain⟨ob,es,ep,t,e,c⟩:=x;exact⟨ob,es,ep,t,k _ _ (.inl rfl) e,c⟩
 |ins C dx fs=>
  obtain⟨d,z,ne,e,mA,⟨od,es,ep,e2,c⟩,r⟩:=x;exact⟨ho _ d,z,ne,k _ _ (.inl rfl) e,mA,⟨od,es,ep,k _ _ (.inr d) e2,c⟩,r⟩
 |own y=>obtain⟨ob,e⟩:=x;exact⟨ob,k _ _ (.inl rfl) e⟩
 |xd fs=>obtain⟨mA,⟨od,es,ep,e,c⟩,r⟩:=x;exact⟨mA,⟨od,es,ep,k _ _ (.inl rfl) e,c⟩,r⟩
 |rng lo hi=>obtain⟨t,u,v,e⟩:=x;exact⟨t,u,v,k _ _ (.inl rfl) e⟩
 |frz ob u ih=>obtain⟨e,q⟩:=x;exact⟨k _ _ (.inl rfl) e,ih q⟩
 |tbl ps=>
  have e:h.get? a=some {cls:=.none,data:=.fields ps}:=x;show h'.get? a=some {cls:=.none,data:=.fields ps};exact k a _ (.inl rfl) e
 |tab good=>
  obtain⟨ps,e,tr,q⟩:=x;refine⟨ps,k a _ (.inl rfl) e,tr,λp cv hg hc=>?_⟩;obtain⟨c,oc,qq,vs,t,e1,e2,e3⟩:=q p cv hg hc;exact⟨c,oc,qq,vs,t,e1,hf _ _ _ e2,e3⟩
 |fnc c q=>
  obtain⟨⟨ob,e⟩,oc,vs,t,e1,e2⟩:=x;exact⟨⟨ob,k _ _ (.inl rfl) e⟩,oc,vs,t,hf _ _ _ e1,e2⟩
 |met f y=>
  have e:h.get? a=some (methodObj (.ref f) (.ref y)):=x;show h'.get? a=some (methodObj (.ref f) (.ref y));exact k a _ (.inl rfl) e
 |big u T ih=>
  obtain⟨q,nd,f⟩:=x;refine⟨ih q,nd,λp hp=>?_⟩;obtain⟨h1,h2,h3,its,n,r,e⟩:=f p hp;exact⟨h1,ho _ h2,h3,its,n,r,k _ _ (.inr h2) e⟩
 |ext φ=>obtain⟨p,⟨o,e⟩,st⟩:=x;exact⟨st _ _ p λo q=>k _ _ (.inl rfl) q,⟨o,k _ _ (.inl rfl) e⟩,st⟩
theorem oz.lt(x:oz P w H h)(e:H a=some o):a<h.objs.size:=(x a o e).lt
def oz.fresh(x:oz P w H h)(e:h.objs.size<=a):H a=none:=by
 cases q:H a with
 |none=>rfl
 |some u=>exact absurd (QZ (x.lt q) e) (Wo _)
def oz.kept(x:oz P w H h)(k:∀b u,h.get? b=some u->h'.get? b=some u):oz P w H h':=λa o e=>
 (x a o e).stay (λb u _ q=>k b u q) (λ_ q=>q) (λ_ _ q=>q) λ_ _ _ q=>q
def oz.laid(x:oz P w H h)(k:∀b u,h.get? b=some u->h'.get? b=some u)(hp:h.objs.size<=a)(new:du P w (cD H a o) h' a o):oz P w (cD H a o) h':=λb u e=>by
 have hn:=x.fresh hp;by_cases hb:b=a
 ·subst hb;rw[aQ] at e;cases e;exact new
 ·rw[az hb] at e;exact(x b u e).stay (λc v _ q=>k c v q) (λc q=>by rw[az (aO q hn)];exact q) (λc xs q=>by rw[az (aO q hn)];exact q) λc ob u q=>by rw[az (aO q hn)];exact q
end
def Rd(H:Hp)(a:Vp)(u:HO):Prop:=H a=some u\/∃o,H a=some (.frz o u)
def Rd.ok{P:Vq}{w:Vr}{H:Hp}{h:Vs}{a:Vp}{u:HO}(r:Rd H a u)(x:oz P w H h):du P w H h a u:=by
 rcases r with r|⟨o,r⟩
 ·exact x a u r
 ·obtain⟨_,q⟩:=x a _ r;exact q
def LC:Option HO->Prop
 |some (.lst _)=>True
 |some (.dK _)=>True
 |some (.dT _)=>True
 |some (.set _ _)=>True
 |some (.ins _ _ _)=>True
 |some (.ext _)=>True
 |_=>False
section
variable{P:Vq}{w:Vr}{H:Hp}{h h':Vs}{x e:Vp}{o':HO}
def oz.write(ok:oz P w H h)(mu:LC (H x))(he:e=x\/H e=some (.own x))(k:∀b u,b≠e->h.get? b=some u->h'.get? b=some u)(heo:∃u,h'.get? e=some u)
  (new:du P w (cD H x o') h' x o'):oz P w (cD H x o') h':=λb u q=>by
 have nown:∀c y,H c=some (.own y)->c≠x:=λc y r z=>by subst z;rw[r] at mu;exact mu
 have ntup:∀c xs,H c=some (.tup xs)->c≠x:=λc xs r z=>by subst z;rw[r] at mu;exact mu
 have nfrz:∀c ob u,H c=some (.frz ob u)->c≠x:=λc ob u r z=>by subst z;rw[r] at mu;exact mu
 by_cases hb:b=x
 ·subst hb;rw[aQ] at q;cases q;exact new
 ·rw[az hb] at q;by_cases hbe:b=e
  ·have q':H b=some (.own x):=by
    rcases he with z|z
    ·exact absurd (hbe.trans z) hb
    ·rw[hbe];exact z
   rw[q] at q';cases q';obtain⟨v,hv⟩:=heo;exact⟨v,by rw[hbe];exact hv⟩
  ·refine(ok b u q).stay (λc v hc r=>k c v ?_ r) (λc r=>by rw[az (nown c b r)];exact r) (λc xs r=>by rw[az (ntup c xs r)];exact r) λc ob v r=>by rw[az (nfrz c ob _ r)];exact r
   rcases hc with rfl|hc
   ·exact hbe
   ·rintro rfl
    rcases he with z|z
    ·exact nown c b hc z
    ·rw[hc] at z;cases z;exact hb rfl
end
structure Un(fs ex:List Vp)(H H':Hp)(h h':Vs):Prop where
 keep:∀b o,h.get? b=some o->H b=none->b∉fs->b∉ex->h'.get? b=some o
 slot:∀b o,h.get? b=some o->H b=none->b∈fs->b∉ex->∃sl,h'.get? b=some {o with slots:=sl}
 free:∀b o,h.get? b=some o->H b=none->b∉ex->H' b=none
 there:∀b o,h.get? b=some o->b∉ex->∃o',h'.get? b=some o'
 tups:∀b xs,H b=some (.tup xs)->H' b=some (.tup xs)
 frzs:∀b o u,H b=some (.frz o u)->H' b=some (.frz o u)
 tbls:∀b ps,H b=some (.tbl ps)->∃more,H' b=some (.tbl (ps++more))
section
variable{fs fs' ex ex':List Vp}{H H1 H2:Hp}{h h1 h2 h':Vs}{a x e:Vp}{o:HO}
def Un.any(u:Un fs ex H H1 h h1){b:Vp}{ob:Obj}(q:h.get? b=some ob)(n:H b=none)(hx:b∉ex):∃sl,h1.get? b=some {ob with slots:=sl}:=by
 by_cases hb:b∈fs
 ·exact u.slot b ob q n hb hx
 ·exact⟨ob.slots,u.keep b ob q n hb hx⟩
def Un.kept(k:∀b u,h.get? b=some u->h'.get? b=some u):Un fs ex H H h h':=
 ⟨λb ob q _ _ _=>k b ob q,λb ob q _ _ _=>⟨ob.slots,k b ob q⟩,λ_ _ _ n _=>n,λb ob q _=>⟨ob,k b ob q⟩,λ_ _ q=>q,λ_ _ _ q=>q,λ_ ps q=>⟨#[],by rw[q];simp⟩⟩
def Un.refl:Un fs ex H H h h:=Un.kept λ_ _ q=>q
def Un.laid(k:∀b u,h.get? b=some u->h'.get? b=some u)(hp:h.objs.size<=a)(hn:H a=none):Un fs ex H (cD H a o) h h' where
 keep:=λb u q _ _ _=>k b u q
 slot:=λb u q _ _ _=>⟨u.slots,k b u q⟩
 free:=λb u q n _=>by rw[az (V7 (QZ (Vx q) hp))];exact n
 there:=λb u q _=>⟨u,k b u q⟩
 tups:=λb xs q=>by rw[az (aO q hn)];exact q
 frzs:=λb u xs q=>by rw[az (aO q hn)];exact q
 tbls:=λb ps q=>⟨#[],by rw[az (aO q hn),q];simp⟩
def Un.write(mu:LC (H x))(he:e=x\/H e=some (.own x))(k:∀b u,b≠e->h.get? b=some u->h'.get? b=some u)(heo:∃u,h'.get? e=some u):Un fs ex H (cD H x o) h h':=by
 have hx:∀b,H b=none->b≠x:=λb n z=>by subst z;rw[n] at mu;exact mu
 have hb:∀b,H b=none->b≠e:=λb n z=>by
  subst z;rcases he with r|r
  ·exact hx b n r
  ·rw[n] at r;cases r
 have hm:∀b u,H b=some u->¬LC (some u)->b≠x:=λb u q nm z=>by subst z;rw[q] at mu;exact nm mu
 refine⟨λb u q n _ _=>k b u (hb b n) q,λb u q n _ _=>⟨u.slots,k b u (hb b n) q⟩,λb u q n _=>by rw[az (hx b n)];exact n,λb u q _=>?_,
  λb xs q=>by rw[az (hm b _ q λz=>z)];exact q,λb u xs q=>by rw[az (hm b _ q λz=>z)];exact q,λb ps q=>⟨#[],by rw[az (hm b _ q λz=>z),q];simp⟩⟩
 by_cases hbe:b=e
 ·subst hbe;exact heo
 ·exact⟨u,k b u hbe q⟩
end
def Ls(h:Vs)(H:Hp):List Vp:=(List.range h.objs.size).filter λa=>(H a).isSome
def uQ(h:Vs)(H:Hp):Vs:=PySem.W.hideAll h (Ls h H)
def BQ(h:Vs)(H:Hp):(uQ h H).objs.size=h.objs.size:=PySem.W.hideAll_size _ _
def Eg{h:Vs}{H:Hp}{b:Vp}{o:Obj}(e:h.get? b=some o)(n:H b=none):(uQ h H).get? b=some o:=
 PySem.W.hideAll_get _ e λhm=>by
  have q:(H b).isSome=true:=(WR.mp hm).2;rw[n] at q;simp at q
def G9{h:Vs}{H:Hp}{b:Vp}{o:Obj}(e:(uQ h H).get? b=some o):h.get? b=some o/\H b=none:=by
 have e':h.get? b=some o:=PySem.W.of_hideAll (Ls h H) e;refine⟨e',?_⟩;cases q:H b with
 |none=>rfl
 |some x=>
  have hm:b∈Ls h H:=WR.mpr ⟨QX.mpr (Vx e'),by simp[q]⟩
  have z:(uQ h H).get? b=none:=PySem.W.hideAll_none (Ls h H) hm;rw[z] at e;cases e
def GY(g h:Vs)(L:Vp):List (Vp×Obj):=(List.range h.objs.size).filterMap λa=>if a=L\/(g.get? a).isSome=true then none else(h.get? a).map λo=>(a,o)
def rest(g h:Vs)(L d:Vp):List (Vp×Obj):=(GY g h L).filter λp=>decide (p.1≠d)
structure Mod(K:Frag)(mg:Str->Option Vn)(base:Vs):Prop where
 kin:K.In base
 glob:base.Ns mainGlobals mg
 blt:∃mb,base.Ns builtinsNs mb/\∀x:Str,x ≠ "__name__" -> mb x=bootBuiltins x
 nolimit:base.NoLimit
structure Cx where
 prog:Vq
 w:Vr
 K:Frag
 mg:Str->Option Vn
 base:Vs
 A:Vv
 N:List Str
 s₀:Vo
 H₀:Hp
 env:Env
 outer:List Env
 stack:List Env
 ex:List Vp
 fn:Str->Bool
 calm:Bool
 pn:List (Vp×Obj)
 xe:Vn->Vo->Prop
def frs(l:List Env):List Vp:=l.filterMap (·.frame)
abbrev Cx.fs(X:Cx):List Vp:=frs X.outer
def Ln(sc:Scope)(x:Str):Prop:=sc.names.lookup x=some .local\/sc.names.lookup x=some .cell\/sc.names.lookup x=some .free
def zF(sc:Scope)(x:Str):Prop:=sc.names.lookup x=some .local\/sc.names.lookup x=some .cell
def Mw(env:Env)(h:Vs)(m:Str->Option Vn)(x:Str)(u:Vn):Prop:=
 (env.kindOf x=some .local/\m x=some u)\/((env.kindOf x=some .cell\/env.kindOf x=some .free)/\∃c,env.cells.lookup x=some c/\h.IsCell c (some u))
structure Cx.Ok(X:Cx):Prop where
 mod:Mod X.K X.mg X.base
 kind:X.env.scope.kind=.function
 glob:X.env.globals=mainGlobals
 blt:X.env.builtins=builtinsNs
 above:X.s₀.heap.objs.size<=X.env.locals
 inj:∀x y c,X.env.cells.lookup x=some c->X.env.cells.lookup y=some c->x=y
 has:∀x,(X.env.kindOf x=some .cell\/X.env.kindOf x=some .free)->∃c,X.env.cells.lookup x=some c
 cab:∀x c,X.fn x=true->X.env.cells.lookup x=some c->X.s₀.heap.objs.size<=c
 hd:X.calm=true->X.A.handled=none
 frames:X.A.frames=some X.stack
 stk:X.stack=X.outer\/(X.stack=X.env::X.outer/\X.env.frame=some X.env.locals)
 exf:∀b∈X.ex,b≠X.env.locals/\∀x c,X.env.cells.lookup x=some c->c≠b
 bs:∀b o,X.base.get? b=some o->X.s₀.heap.get? b=some o/\X.H₀ b=none
 bsz:X.base.objs.size<=X.s₀.heap.objs.size
 noex:∀b o,X.base.get? b=some o->b∉X.ex
 exfs:∀b∈X.ex,b∉X.fs
 funs:X.s₀.heap.FunFrames X.base X.outer
 frf:∀b∈X.fs,X.H₀ b=none
structure aH(X:Cx)(pins:List (Vp×Obj))(σ:List (Option V))(H:Hp)(s:Vo):Prop where
 ok:X.Ok
 os:s.os=X.s₀.os
 bare:AllBare s.gens
 base:Un X.fs X.ex X.H₀ H X.s₀.heap s.heap
 loc:∃m,s.heap.Ns X.env.locals m/\∀(i:Nat)(x:Str)(v:V),X.N[i]?=some x->σ[i]?=some (some v)->Ln X.env.scope x->∃u,bV v u/\Mw X.env s.heap m x u
 cell:∀x c,X.env.cells.lookup x=some c->∃v,s.heap.IsCell c v
 free:H X.env.locals=none
 freeC:∀x c,X.env.cells.lookup x=some c->H c=none
 pin:∀p∈X.pn++pins,s.heap.get? p.1=some p.2/\H p.1=none/\p.1≠X.env.locals/\p.1∉X.fs/\∀v,p.2.data≠.cell v
 hok:oz X.prog X.w H s.heap
 len:σ.length=X.N.length
section
variable{X:Cx}{pins:List (Vp×Obj)}{σ:List (Option V)}{H H':Hp}{s:Vo}{h':Vs}
def Cx.Ok.nofr(ok:X.Ok){b:Vp}{o:Obj}(e:X.base.get? b=some o):b∉X.fs:=λhb=>by
 have:=(ok.funs.mem hb).1;rw[e] at this;cases this
theorem aH.bs(I:aH X pins σ H s):∀b o,X.base.get? b=some o->s.heap.get? b=some o/\H b=none:=λb o e=>
 ⟨I.base.keep b o (I.ok.bs b o e).1 (I.ok.bs b o e).2 (I.ok.nofr e) (I.ok.noex b o e),I.base.free b o (I.ok.bs b o e).1 (I.ok.bs b o e).2 (I.ok.noex b o e)⟩
def aH.bk(I:aH X pins σ H s):∀b o,X.base.get? b=some o->s.heap.get? b=some o:=λb o e=>(I.bs b o e).1
theorem aH.mod(I:aH X pins σ H s):Mod X.K X.mg X.base:=I.ok.mod
def aH.kIn(I:aH X pins σ H s):X.K.In s.heap:=I.ok.mod.kin.keeps I.bk
theorem aH.lt(I:aH X pins σ H s):X.env.locals<s.heap.objs.size:=let ⟨_,hn,_⟩:=I.loc;hn.lt
def aH.sz(I:aH X pins σ H s):X.s₀.heap.objs.size<=s.heap.objs.size:=V5 I.ok.above (W7 I.lt)
def aH.nofs(I:aH X pins σ H s){a:Vp}(h:s.heap.objs.size<=a):a∉X.fs:=λhb=>by
 obtain⟨_,o,ho,_⟩:=I.ok.funs.mem hb;exact absurd (QZ (Vx ho) (V5 I.sz h)) (Wo _)
def aH.cne(I:aH X pins σ H s):∀x c,X.env.cells.lookup x=some c->c≠X.env.locals:=λx c e z=>by
 obtain⟨v,o,ho,hd⟩:=I.cell x c e;obtain⟨m,⟨o',es,ep,ho',hd',_⟩,_⟩:=I.loc;rw[z,ho'] at ho;cases ho;rw[hd'] at hd;cases hd
theorem aH.funs(I:aH X pins σ H s):s.heap.FunFrames X.base X.outer:=by
 have all:∀(l:List Env),(∀b∈frs l,b∈X.fs)->X.s₀.heap.FunFrames X.base l->s.heap.FunFrames X.base l:=by
  intro l
  induction l with
  |nil=>intro _ _;trivial
  |cons env r ih=>
   intro hs hl;obtain⟨hk,⟨L,o,hf,hn,ho,hd⟩,hr⟩:=hl;have hL:L∈X.fs:=hs L (by unfold frs;rw[Yy,hf];exact VF)
   obtain⟨sl,e⟩:=I.base.slot L o ho (I.ok.frf L hL) hL λz=>I.ok.exfs L z hL;exact⟨hk,⟨L,_,hf,hn,e,hd⟩,ih (λb hb=>hs b (by unfold frs;rw[Yy,hf];exact V0 _ hb)) hr⟩
 exact all X.outer (λ_ hb=>hb) I.ok.funs
theorem aH.stack(I:aH X pins σ H s):s.heap.FunFrames X.base X.stack:=by
 rcases I.ok.stk with e|⟨e,hf⟩
 ·rw[e];exact I.funs
 ·rw[e];obtain⟨m,hn,_⟩:=I.loc;refine .cons (by rw[I.ok.kind];decide) hf hn ?_ I.funs
  exact Heap.get?_none_of_le (V5 I.ok.bsz I.ok.above)
def aH.stkSub(I:aH X pins σ H s):∀b∈frs X.stack,b∈X.env.locals::X.fs:=λb hb=>by
 rcases I.ok.stk with e|⟨e,hf⟩
 ·rw[e] at hb;exact V0 _ hb
 ·rw[e] at hb;unfold frs at hb;rw[Yy,hf] at hb;exact hb
def aH.stkFree(I:aH X pins σ H s):∀b∈frs X.stack,H b=none:=λb hb=>by
 rcases V1.mp (I.stkSub b hb) with e|hb
 ·rw[e];exact I.free
 ·obtain⟨_,o,ho,_⟩:=I.ok.funs.mem hb;exact I.base.free b o ho (I.ok.frf b hb) λz=>I.ok.exfs b z hb
def aH.step{g':Array GenState}{t':Nat}{d':Drawn}{ch:List Vp}(I:aH X pins σ H s)
  (hch:∀b∈ch,(b∈X.ex\/X.s₀.heap.objs.size<=b)/\b≠X.env.locals/\(∀x c,X.env.cells.lookup x=some c->c≠b)/\∀p∈X.pn++pins,p.1≠b)
  (keep:∀b o,b≠X.env.locals->b∉X.fs->b∉ch->s.heap.get? b=some o->H b=none->h'.get? b=some o)
  (slot:∀b o,b≠X.env.locals->b∈X.fs->b∉ch->s.heap.get? b=some o->H b=none->∃sl,h'.get? b=some {o with slots:=sl}) (free:∀b o,b∉ch->s.heap.get? b=some o->H b=none->H' b=none)
  (there:∀b o,b∉ch->s.heap.get? b=some o->∃o',h'.get? b=some o')
  (tups:∀b xs,H b=some (.tup xs)->H' b=some (.tup xs)) (frzs:∀b o u,H b=some (.frz o u)->H' b=some (.frz o u)) (tbls:∀b ps,H b=some (.tbl ps)->∃more,H' b=some (.tbl (ps++more)))
  (ns:∀m,s.heap.Ns X.env.locals m->h'.Ns X.env.locals m) (hok:oz X.prog X.w H' h') (hg:AllBare g'):
  aH X pins σ H' {s with heap:=h',gens:=g',drawn:=d',toks:=t'}:=by
 have neL:∀b o,X.s₀.heap.get? b=some o->b≠X.env.locals:=λb o e=>V7 (QZ (Vx e) I.ok.above);have neC:∀b o,X.s₀.heap.get? b=some o->b∉X.ex->b∉ch:=λb o e hx hb=>by
  rcases(hch b hb).1 with z|z
  ·exact hx z
  ·exact absurd (QZ (Vx e) z) (Wo _)
 have cellK:∀x c,X.env.cells.lookup x=some c->∀v,s.heap.IsCell c v->h'.IsCell c v:=λx c e v ⟨o,ho,hd⟩=>by
  have nch:c∉ch:=λz=>(hch c z).2.2.1 x c e rfl;by_cases hc:c∈X.fs
  ·obtain⟨sl,q⟩:=slot c o (I.cne x c e) hc nch ho (I.freeC x c e);exact⟨_,q,hd⟩
  ·exact⟨o,keep c o (I.cne x c e) hc nch ho (I.freeC x c e),hd⟩
 refine⟨I.ok,I.os,hg,⟨λb o e n hb hx=>?_,λb o e n hb hx=>?_,λb o e n hx=>?_,λb o e hx=>?_,λb xs e=>tups b xs (I.base.tups b xs e),λb o xs e=>frzs b o xs (I.base.frzs b o xs e),λb ps e=>?_⟩,?_,λx c e=>?_,?_,λx c e=>?_,λp hp=>?_,hok,I.len⟩
 ·exact keep b o (neL b o e) hb (neC b o e hx) (I.base.keep b o e n hb hx) (I.base.free b o e n hx)
 ·obtain⟨sl,e1⟩:=I.base.slot b o e n hb hx;obtain⟨sl',e2⟩:=slot b _ (neL b o e) hb (neC b o e hx) e1 (I.base.free b o e n hx);exact⟨sl',e2⟩
 ·obtain⟨o',e1⟩:=I.base.there b o e hx;exact free b o' (neC b o e hx) e1 (I.base.free b o e n hx)
 ·obtain⟨o',e1⟩:=I.base.there b o e hx;exact there b o' (neC b o e hx) e1
 ·obtain⟨m1,e1⟩:=I.base.tbls b ps e;obtain⟨m2,e2⟩:=tbls b _ e1;exact⟨m1++m2,by rw[e2,Array.append_assoc]⟩
 ·obtain⟨m,hn,hl⟩:=I.loc;refine⟨m,ns m hn,λi x v e1 e2 e3=>?_⟩;obtain⟨u,r,l⟩:=hl i x v e1 e2 e3;refine⟨u,r,?_⟩;rcases l with l|⟨k,c,e,z⟩
  ·exact .inl l
  ·exact .inr ⟨k,c,e,cellK x c e _ z⟩
 ·obtain⟨v,z⟩:=I.cell x c e;exact⟨v,cellK x c e v z⟩
 ·obtain⟨m,⟨o,_,_,ho,_⟩,_⟩:=I.loc;exact free _ o (λz=>(hch _ z).2.1 rfl) ho I.free
 ·obtain⟨v,o,ho,hd⟩:=I.cell x c e;exact free c o (λz=>(hch c z).2.2.1 x c e rfl) ho (I.freeC x c e)
 ·obtain⟨e,n,ne,nf,d⟩:=I.pin p hp;have nch:p.1∉ch:=λz=>(hch p.1 z).2.2.2 p hp rfl;exact⟨keep p.1 p.2 ne nf nch e n,free p.1 p.2 nch e n,ne,nf,d⟩
theorem aH.un{t':Nat}(I:aH X pins σ H s)(u:Un X.fs [] H H' s.heap h')(hok:oz X.prog X.w H' h'):aH X pins σ H' {s with heap:=h',toks:=t'}:=by
 obtain⟨m,⟨o,es,ep,ho,r⟩,_⟩:=id I.loc;obtain⟨sl,hL⟩:=u.any ho I.free (by simp)
 exact I.step (g':=s.gens) (d':=s.drawn) (ch:=[]) (λ_ z=>nomatch z) (λb o _ hb _ e n=>u.keep b o e n hb (by simp)) (λb o _ hb _ e n=>u.slot b o e n hb (by simp)) (λb o _ e n=>u.free b o e n (by simp)) (λb o _ e=>u.there b o e (by simp)) u.tups u.frzs u.tbls (λm' hm=>by
  obtain⟨o',es',ep',ho',r'⟩:=hm;rw[ho] at ho';cases ho';exact⟨_,es',ep',hL,r'⟩) hok I.bare
def aH.call{g':Array GenState}{t':Nat}{d':Drawn}{ch:List Vp}(I:aH X pins σ H s)(u:Un (frs X.stack) ch H H' s.heap h')(hok:oz X.prog X.w H' h')(hg:AllBare g')
  (hch:∀b∈ch,(b∈X.ex\/X.s₀.heap.objs.size<=b)/\b≠X.env.locals/\(∀x c,X.env.cells.lookup x=some c->c≠b)/\∀p∈X.pn++pins,p.1≠b):
  aH X pins σ H' {s with heap:=h',gens:=g',drawn:=d',toks:=t'}:=by
 obtain⟨m,⟨o,es,ep,ho,r⟩,_⟩:=id I.loc;obtain⟨sl,hL⟩:=u.any ho I.free λz=>(hch _ z).2.1 rfl;exact I.step (ch:=ch) hch (λb o hL hb hc e n=>u.keep b o e n (λz=>(V1.mp (I.stkSub b z)).elim hL hb) hc) (λb o _ _ hc e n=>u.any e n hc) (λb o hc e n=>u.free b o e n hc) (λb o hc e=>u.there b o e hc) u.tups u.frzs u.tbls (λm' hm=>by
  obtain⟨o',es',ep',ho',r'⟩:=hm;rw[ho] at ho';cases ho';exact⟨_,es',ep',hL,r'⟩) hok hg
theorem aH.turned{t':Nat}{it:Vp}(I:aH X pins σ H s)(k:∀b o,b≠it->s.heap.get? b=some o->h'.get? b=some o)(hn:H it=none)(hL:it≠X.env.locals)
  (h1:it∈X.ex\/X.s₀.heap.objs.size<=it) (h2:∀x c,X.env.cells.lookup x=some c->c≠it) (h3:∀p∈X.pn++pins,p.1≠it):aH X pins σ H {s with heap:=h',toks:=t'}:=by
 have nit:∀b u,H b=some u->b≠it:=λb u e z=>by rw[z,hn] at e;cases e
 refine I.step (g':=s.gens) (d':=s.drawn) (ch:=[it]) (λb hb=>?_) (λb o _ _ hc e _=>k b o (λz=>hc (by simp[z])) e) (λb o _ _ hc e _=>⟨o.slots,k b o (λz=>hc (by simp[z])) e⟩) (λ_ _ _ _ n=>n)
  (λb o hc e=>⟨o,k b o (λz=>hc (by simp[z])) e⟩) (λ_ _ e=>e) (λ_ _ _ e=>e) (λb ps e=>⟨#[],by rw[e];simp⟩) (λm hm=>?_) (λb u e=>?_) I.bare
 ·have e:b=it:=by simpa using hb
  subst e;exact⟨h1,hL,h2,h3⟩
 ·obtain⟨o,es,ep,ho,r⟩:=hm;exact⟨o,es,ep,k _ o (W8 hL) ho,r⟩
 ·refine(I.hok b u e).stay (λc v hc q=>k c v ?_ q) (λ_ q=>q) (λ_ _ q=>q) λ_ _ _ q=>q;rcases hc with z|z
  ·rw[z];exact nit b u e
  ·exact nit c _ z
def aH.tok(I:aH X pins σ H s)(t:Nat):aH X pins σ H {s with toks:=t}:=I.un (h':=s.heap) (t':=t) Un.refl I.hok
theorem aH.kept{t':Nat}(I:aH X pins σ H s)(k:∀b u,s.heap.get? b=some u->h'.get? b=some u):aH X pins σ H {s with heap:=h',toks:=t'}:=I.un (Un.kept k) (I.hok.kept k)
theorem aH.laid{a:Vp}{o:HO}{t':Nat}(I:aH X pins σ H s)(k:∀b u,s.heap.get? b=some u->h'.get? b=some u)(hp:s.heap.objs.size<=a)(new:du X.prog X.w (cD H a o) h' a o):
  aH X pins σ (cD H a o) {s with heap:=h',toks:=t'}:=I.un (Un.laid k hp (I.hok.fresh hp)) (I.hok.laid k hp new)
theorem aH.write{x e:Vp}{o:HO}{t':Nat}(I:aH X pins σ H s)(mu:LC (H x))(he:e=x\/H e=some (.own x))(k:∀b u,b≠e->s.heap.get? b=some u->h'.get? b=some u)(heo:∃u,h'.get? e=some u)
  (new:du X.prog X.w (cD H x o) h' x o):aH X pins σ (cD H x o) {s with heap:=h',toks:=t'}:=I.un (Un.write mu he k heo) (I.hok.write mu he k heo new)
def aH.pins_of{pins':List (Vp×Obj)}(I:aH X pins σ H s)(h:∀p∈pins',s.heap.get? p.1=some p.2/\H p.1=none/\p.1≠X.env.locals/\p.1∉X.fs/\∀v,p.2.data≠.cell v):aH X pins' σ H s:=
 ⟨I.ok,I.os,I.bare,I.base,I.loc,I.cell,I.free,I.freeC,λp hp=>(VQ.mp hp).elim (λz=>I.pin p (Yr _ z)) (h p),I.hok,I.len⟩
def wA{N:List Str}(hN:N.Nodup){i j:Nat}{x:Str}(a:N[i]?=some x)(b:N[j]?=some x):i=j:=by
 obtain⟨h1,e1⟩:=QM.mp a;obtain⟨h2,e2⟩:=QM.mp b;exact(YM hN).mp (e1.trans e2.symm)
theorem rR{M:Model}{A:Vv}{E:Vn->Vo->Prop}{i:Nat}{x:Str}{v:V}{u:Vn}{Q:Unit->Vo->Prop}(I:aH X pins σ H s)(hN:X.N.Nodup)(hi:X.N[i]?=some x)(hx:zF X.env.scope x)(r:bV v u)
  (h:∀s',aH X pins (σ.set i (some v)) H s'->(∃a,Heap.SameBut a s.heap s'.heap/\(a=X.env.locals\/X.env.cells.lookup x=some a))->Q () s') (hf:X.fn x=true\/X.env.scope.names.lookup x=some .local:=by first|exact .inl rfl|exact .inr rfl|assumption):wpAny M A (storeName X.env x u) Q E s:=by
 obtain⟨m,hn,hl⟩:=id I.loc;have hcls:(X.env.scope.kind == .class || (X.env.scope.kind == .module && X.env.locals != X.env.globals))=false:=by rw[I.ok.kind];rfl
 have hiσ:i<σ.length:=by rw[I.len];exact(QM.mp hi).1
 have cne:=I.cne;have tracked:∀{a:Vp}{h':Vs},(∃o,s.heap.get? a=some o/\H a=none)->Heap.SameBut a s.heap h'->oz X.prog X.w H h':=λ{a h'} ha hs b ob e=>by
  obtain⟨_,_,hfree⟩:=ha;refine(I.hok b ob e).stay (λc w' hc q=>(hs.2 c ?_).trans q) (λ_ q=>q) (λ_ _ q=>q) λ_ _ _ q=>q
  rintro rfl
  rcases hc with rfl|hc
  ·rw[hfree] at e;cases e
  ·rw[hfree] at hc;cases hc
 rcases hx with hk|hk
 ·refine wpAny_storeName_local hk hn (λh' hn' hs=>?_) hcls;obtain⟨oL,_,_,hoL,_⟩:=id hn;refine h _ ⟨I.ok,I.os,I.bare,⟨λb o e n hb hx=>?_,λb o e n hb hx=>?_,I.base.free,λb o e hx=>?_,I.base.tups,I.base.frzs,I.base.tbls⟩,⟨_,hn',λj y v' e1 e2 e3=>?_⟩,λy c e=>?_,I.free,I.freeC,λp hp=>?_,tracked ⟨oL,hoL,I.free⟩ hs,by simpa using I.len⟩ ⟨_,hs,.inl rfl⟩
  ·exact(hs.2 b (V7 (QZ (Vx e) I.ok.above))).trans (I.base.keep b o e n hb hx)
  ·obtain⟨sl,e1⟩:=I.base.slot b o e n hb hx;exact⟨sl,(hs.2 b (V7 (QZ (Vx e) I.ok.above))).trans e1⟩
  ·obtain⟨o',e1⟩:=I.base.there b o e hx;exact⟨o',(hs.2 b (V7 (QZ (Vx e) I.ok.above))).trans e1⟩
  ·by_cases hj:j=i
   ·subst hj;rw[hi] at e1;cases e1;rw[QR hiσ] at e2;cases e2;exact⟨u,r,.inl ⟨hk,by simp⟩⟩
   ·rw[QQ (W8 hj)] at e2;obtain⟨u',r',q⟩:=hl j y v' e1 e2 e3;refine⟨u',r',?_⟩;rcases q with⟨k,e⟩|⟨k,c,e,z⟩
    ·refine .inl ⟨k,?_⟩;have:y≠x:=λe=>hj (wA hN e1 (e▸hi));simp[this,e]
    ·exact .inr ⟨k,c,e,z.sameBut hs (cne y c e)⟩
  ·obtain⟨w',z⟩:=I.cell y c e;exact⟨w',z.sameBut hs (cne y c e)⟩
  ·obtain⟨e,n,ne,nf,d⟩:=I.pin p hp;exact⟨(hs.2 p.1 ne).trans e,n,ne,nf,d⟩
 ·have hfn:X.fn x=true:=by
   rcases hf with z|z
   ·exact z
   ·rw[z] at hk;cases hk
  obtain⟨c,hc⟩:=I.ok.has x (.inl hk);obtain⟨w',z⟩:=I.cell x c hc;refine wpAny_storeName_cell I.ok.kind hk hc z (λh' hc' hs=>?_);obtain⟨oc,hoc,hocd⟩:=id z;refine h {s with heap:=h'} ⟨I.ok,I.os,I.bare,⟨λb o e n hb hx=>?_,λb o e n hb hx=>?_,I.base.free,λb o e hx=>?_,I.base.tups,I.base.frzs,I.base.tbls⟩,⟨m,hn.sameBut hs (W8 (cne x c hc)),λj y v' e1 e2 e3=>?_⟩,λy c' e=>?_,I.free,I.freeC,λp hp=>?_,tracked ⟨oc,hoc,I.freeC x c hc⟩ hs,by simpa using I.len⟩ ⟨c,hs,.inr hc⟩
  ·exact(hs.2 b (V7 (QZ (Vx e) (I.ok.cab x c hfn hc)))).trans (I.base.keep b o e n hb hx)
  ·obtain⟨sl,e1⟩:=I.base.slot b o e n hb hx;exact⟨sl,(hs.2 b (V7 (QZ (Vx e) (I.ok.cab x c hfn hc)))).trans e1⟩
  ·obtain⟨o',e1⟩:=I.base.there b o e hx;exact⟨o',(hs.2 b (V7 (QZ (Vx e) (I.ok.cab x c hfn hc)))).trans e1⟩
  ·by_cases hj:j=i
   ·subst hj;rw[hi] at e1;cases e1;rw[QR hiσ] at e2;cases e2;exact⟨u,r,.inr ⟨.inl hk,c,hc,hc'⟩⟩
   ·rw[QQ (W8 hj)] at e2;obtain⟨u',r',q⟩:=hl j y v' e1 e2 e3;refine⟨u',r',?_⟩;rcases q with q|⟨k,c',e,z'⟩
    ·exact .inl q
    ·refine .inr ⟨k,c',e,z'.sameBut hs ?_⟩
     rintro rfl
     exact hj (wA hN e1 (I.ok.inj _ _ _ e hc▸hi))
  ·by_cases hcc:c'=c
   ·subst hcc;exact⟨_,hc'⟩
   ·obtain⟨w2,z2⟩:=I.cell y c' e;exact⟨w2,z2.sameBut hs hcc⟩
  ·obtain⟨e,n,ne,nf,d⟩:=I.pin p hp;refine⟨(hs.2 p.1 ?_).trans e,n,ne,nf,d⟩;intro q;rw[q,hoc] at e;have q':oc=p.2:=VN e;exact d w' (by rw[<-q'];exact hocd)
theorem vH{M:Model}{A:Vv}{E:Vn->Vo->Prop}{i:Nat}{x:Str}{v:V}{u:Vn}{Q:Unit->Vo->Prop}(I:aH X pins σ H s)(hN:X.N.Nodup)(hi:X.N[i]?=some x)(hx:zF X.env.scope x)(r:bV v u)
  (h:∀s',aH X pins (σ.set i (some v)) H s'->Q () s') (hf:X.fn x=true\/X.env.scope.names.lookup x=some .local:=by first|exact .inl rfl|exact .inr rfl|assumption):wpAny M A (storeName X.env x u) Q E s:=
 rR I hN hi hx r (λs' I' _=>h s' I') hf
def aH.call'{s':Vo}{ch:List Vp}(I:aH X pins σ H s)(ho:s'.os=s.os)(u:Un (frs X.stack) ch H H' s.heap s'.heap)(hok:oz X.prog X.w H' s'.heap)(hg:AllBare s'.gens)
  (hch:∀b∈ch,(b∈X.ex\/X.s₀.heap.objs.size<=b)/\b≠X.env.locals/\(∀x c,X.env.cells.lookup x=some c->c≠b)/\∀p∈X.pn++pins,p.1≠b):aH X pins σ H' s':=by
 obtain⟨h',g',d',t',o'⟩:=s';have e:o'=s.os:=ho;subst e;exact I.call (g':=g') (t':=t') (d':=d') u hok hg hch
end
abbrev XK:=Vn->Option Vp->Hp->Prop
abbrev St:=List (Option V)
abbrev VK:=V->Hp->Prop
abbrev TE:=St->Hp->VK->Prop
abbrev TT:=St->Hp->(Bool->Hp->Prop)->Prop
abbrev TA:=St->Hp->(List V->Hp->Prop)->Prop
structure nB where
 nx:St->Hp->Prop
 rt:VK
 bk:St->Hp->Prop:=λ_ _=>False
 ct:St->Hp->Prop:=λ_ _=>False
abbrev TS:=nB->St->Hp->Prop
def EP(X:Cx)(pins:List (Vp×Obj))(σ:St)(Q:VK)(u:Vn)(s':Vo):Prop:=∃v H',aH X pins σ H' s'/\bV v u/\Q v H'
def TP(X:Cx)(pins:List (Vp×Obj))(σ:St)(Q:Bool->Hp->Prop)(b:Bool)(s':Vo):Prop:=∃H',aH X pins σ H' s'/\Q b H'
def AP(X:Cx)(pins:List (Vp×Obj))(σ:St)(Q:List V->Hp->Prop)(us:List Vn)(s':Vo):Prop:=∃vs H',aH X pins σ H' s'/\Vals vs us/\Q vs H'
def SP(X:Cx)(pins:List (Vp×Obj))(D:nB)(f:Flow)(s':Vo):Prop:=
 match f with
 |.next=>∃σ' H',aH X pins σ' H' s'/\D.nx σ' H'
 |.brk=>∃σ' H',aH X pins σ' H' s'/\D.bk σ' H'
 |.cont=>∃σ' H',aH X pins σ' H' s'/\D.ct σ' H'
 |.ret u=>∃v σ' H',aH X pins σ' H' s'/\bV v u/\D.rt v H'
def PE(X:Cx)(e:Vt)(t:TE):Prop:=
 ∀(pins:List (Vp×Obj))(s:Vo)(σ:St)(H:Hp)(Q:VK),aH X pins σ H s->t σ H Q->wpAny (model X.prog X.w) X.A (eval e X.env) (EP X pins σ Q) X.xe s
def PT(X:Cx)(e:Vt)(t:TT):Prop:=
 ∀(pins:List (Vp×Obj))(s:Vo)(σ:St)(H:Hp)(Q:Bool->Hp->Prop),aH X pins σ H s->t σ H Q->wpAny (model X.prog X.w) X.A (isTrue e X.env (eval e X.env)) (TP X pins σ Q) X.xe s
def PW(X:Cx)(e:Vt)(t:TT):Prop:=
 ∀(whole:Sem Vn)(pins:List (Vp×Obj))(s:Vo)(σ:St)(H:Hp)(Q:Bool->Hp->Prop),aH X pins σ H s->t σ H Q->wpAny (model X.prog X.w) X.A (isTrue e X.env whole) (TP X pins σ Q) X.xe s
def PW.pt{X:Cx}{e:Vt}{t:TT}(h:PW X e t):PT X e t:=h _
def PA(X:Cx)(es:List Vt)(t:TA):Prop:=
 ∀(pos:Pos)(pins:List (Vp×Obj))(s:Vo)(σ:St)(H:Hp)(Q:List V->Hp->Prop),aH X pins σ H s->t σ H Q->wpAny (model X.prog X.w) X.A (spliced (backTo pos (starEach es X.env))) (AP X pins σ Q) X.xe s
def PS(X:Cx)(st:Vu)(t:TS):Prop:=
 ∀(pins:List (Vp×Obj))(s:Vo)(σ:St)(H:Hp)(D:nB),aH X pins σ H s->t D σ H->wpAny (model X.prog X.w) X.A (exec st X.env) (SP X pins D) X.xe s
def qz(X:Cx)(st:List Vu)(t:TS):Prop:=
 ∀(pins:List (Vp×Obj))(s:Vo)(σ:St)(H:Hp)(D:nB),aH X pins σ H s->t D σ H->wpAny (model X.prog X.w) X.A (execs st X.env) (SP X pins D) X.xe s
def dy{α:Type}{t:Sem α}{Q Q':α->Vo->Prop}{M:Model}{A:Vv}{E:Vn->Vo->Prop}{s:Vo}(h:wpAny M A t Q E s)(hQ:∀a s,Q a s->Q' a s):wpAny M A t Q' E s:=Z3 h hQ λ_ _ x=>x
section
variable{X:Cx}
def qR(i:Nat):TE:=λσ H Q=>∃v,σ[i]?=some (some v)/\Q v H
def tC(v:V):TE:=λ_ H Q=>Q v H
def IA{i:Nat}{x:Str}{pos:Pos}(hN:X.N[i]?=some x)(hv:Ln X.env.scope x)(hd:(x == ("__debug__":Str))=false:=by decide)(hcd:(x == ("__classdict__":Str))=false:=by decide):PE X (.Name x pos) (qR i):=by
 intro pins s σ H Q I h;obtain⟨v,e,h⟩:=h;obtain⟨m,hn,hl⟩:=I.loc;obtain⟨u,r,l⟩:=hl i x v hN e hv;have fin:EP X pins σ Q u s:=⟨v,H,I,r,h⟩;rcases l with⟨hk,hm⟩|⟨hk,c,hc,hcell⟩
 ·exact wpAny_Name (wpAny_loadName_local I.ok.kind hk hn hm fin) hd
 ·rcases hk with hk|hk
  ·exact wpAny_Name (wpAny_loadName_cell I.ok.kind hk hc hcell fin) hd
  ·exact wpAny_Name (wpAny_loadName_free I.ok.kind hk hc hcell fin hcd) hd
def Dm{i j pos}:PE X (.Constant (.int i) j pos) (tC (.int i)):=λ_ _ _ H _ I h=>wpAny_Constant_int ⟨.int i,H,I.tok _,⟨_,rfl⟩,h⟩
def KB{b j pos}:PE X (.Constant (.bool b) j pos) (tC (.bl b)):=λ_ _ _ H _ I h=>Constant_bool ⟨.bl b,H,I,rfl,h⟩
def IF{j pos}:PE X (.Constant .none j pos) (tC .non):=λ_ _ _ H _ I h=>Constant_none ⟨.non,H,I,rfl,h⟩
def IC{x j pos}:PE X (.Constant (.str x) j pos) (tC (.str x)):=λ_ _ _ H _ I h=>Calls.Constant_str ⟨.str x,H,I.tok _,⟨_,rfl⟩,h⟩
def Gl(X:Cx)(x:Str):Prop:=X.env.kindOf x=some .globalImplicit
def ou{E:Vn->Vo->Prop}{pins:List (Vp×Obj)}{s:Vo}{σ:St}{H:Hp}{x:Str}{u:Vn}{pos:Pos}{Q:Vn->Vo->Prop}(I:aH X pins σ H s)(hg:Gl X x)(hm:X.mg x=some u)(h:Q u s)
  (hd:(x == ("__debug__":Str))=false:=by decide):wpAny (model X.prog X.w) X.A (eval (.Name x pos) X.env) Q E s:=
 Calls.Name_function_global I.ok.kind hg (Calls.loadGlobal_global (by rw[I.ok.glob];exact I.mod.glob.keeps I.bk) hm h) hd
def pT{E:Vn->Vo->Prop}{pins:List (Vp×Obj)}{s:Vo}{σ:St}{H:Hp}{x:Str}{u:Vn}{pos:Pos}{Q:Vn->Vo->Prop}(I:aH X pins σ H s)(hg:Gl X x)(hm:X.mg x=none)(hv:bootBuiltins x=some u)(h:Q u s)
  (hn:x ≠ "__name__" := by decide) (hd:(x == ("__debug__":Str))=false:=by decide):wpAny (model X.prog X.w) X.A (eval (.Name x pos) X.env) Q E s:=by
 obtain⟨mb,h1,h2⟩:=I.mod.blt;exact Calls.Name_function_global I.ok.kind hg (Calls.loadGlobal_builtin (by rw[I.ok.glob];exact I.mod.glob.keeps I.bk) hm (by rw[I.ok.blt];exact h1.keeps I.bk) ((h2 x hn).trans hv) h) hd
def FY{x:Str}{v:V}{u:Vn}{pos:Pos}(hg:Gl X x)(hm:X.mg x=none)(hv:bootBuiltins x=some u)(r:bV v u)(hn:x ≠ "__name__" := by decide)(hd:(x == ("__debug__":Str))=false:=by decide):PE X (.Name x pos) (tC v):=
 λ_ _ _ H _ I h=>pT I hg hm hv ⟨v,H,I,r,h⟩ hn hd
variable{a b:Vt}{ta tb:TE}{pos:Pos}
def PC(X:Cx)(op:CmpOp)(a b:Vt)(t:TE):Prop:=
 ∀(pins:List (Vp×Obj))(s:Vo)(σ:St)(H:Hp)(Q:VK),aH X pins σ H s->t σ H Q->
  wpAny (model X.prog X.w) X.A (eval a X.env) (λv s₁=>wpAny (model X.prog X.w) X.A (eval b X.env) (λu s₂=>wpAny (model X.prog X.w) X.A (compareOp op v u) (EP X pins σ Q) X.xe s₂) X.xe s₁) X.xe s
def DD(b:Vt){op:CmpOp}(h:op≠.In)(h2:op≠.NotIn):behindInMarks op b=false:=by
 have e1:(op == CmpOp.In)=false:=by cases op <;> first|rfl|exact absurd rfl h
 have e2:(op == CmpOp.NotIn)=false:=by cases op <;> first|rfl|exact absurd rfl h2
 cases b <;> simp[behindInMarks,e1,e2]
def LO(ta:TE):TE:=λσ H Q=>ta σ H λx H1=>Q (.bl (decide (x=.non))) H1
def bV.none_iff{x:V}{v:Vn}(r:bV x v):(v == Value.none)=decide (x=.non):=by
 cases x with
 |non=>cases r;rfl
 |bl _=>cases r;rfl
 |ref _=>cases r;rfl
 |ty _=>cases r;rfl
 |_=>obtain⟨t,rfl⟩:=r;rfl
def IR{j pos'}(ha:PE X a ta):PC X .Is a (.Constant .none j pos') (LO ta):=by
 intro pins s σ H Q I h;refine dy (ha pins s σ H _ I h) λv s1 ⟨x,H1,I1,r1,q1⟩=>?_;exact Constant_none (is_none_gen ⟨.bl _,H1,I1,by rw[r1.none_iff];rfl,q1⟩)
def tB(t:TE):TT:=λσ H Q=>t σ H λx H1=>∃c,x=.bl c/\Q c H1
def Ir{op:CmpOp}{t:TE}(h:PC X op a b t)(h1:behindInMarks op b=false:=by first|exact DD _ (by decide) (by decide)|rfl):PT X (.Compare a [op] [b] pos) (tB t):=by
 intro pins s σ H Q I hw;refine wpAny_isTrue_Compare1 (dy (h pins s σ H _ I hw) λv s1 h1=>dy h1 λu s2 h2=>dy h2 λc s3 ⟨x,H1,I1,r1,q1⟩=>?_) h1;obtain⟨d,rfl,q⟩:=q1;cases r1;exact WM ⟨H1,I1,q⟩
def Ip{e:Vt}{t:TE}(h:PE X e t)(he:∀whole,isTrue e X.env whole=(do let v <-whole;standAt e.pos;holding [v] (truthy v)):=by intro _;rfl):PT X e (tB t):=by
 intro pins s σ H Q I hw;refine isTrue_plain (dy (h pins s σ H _ I hw) λv s1 ⟨x,H1,I1,r1,q1⟩=>?_) (he _);obtain⟨d,rfl,q⟩:=q1;cases r1;exact WM ⟨H1,I1,q⟩
variable{tA tB':TT}{rest:List Vt}
def LW(t u:TT):TT:=λσ H Q=>t σ H λc H1=>if c=true then u σ H1 Q else Q false H1
def MV(t u:TT):TT:=λσ H Q=>t σ H λc H1=>if c=true then Q true H1 else u σ H1 Q
def LL(t:TT):TT:=λσ H Q=>t σ H λc H1=>Q (!c) H1
def FK(ha:PT X a tA):PW X (.BoolOp .And [a] pos) tA:=by
 intro wh pins s σ H Q I h;refine isTrue_and (dy (ha pins s σ H Q I h) λc s1 e=>?_);cases c with
 |true=>exact isTrue_and_nil e
 |false=>exact e
def Im(ha:PT X a tA):PW X (.BoolOp .Or [a] pos) tA:=by
 intro wh pins s σ H Q I h;refine isTrue_or (dy (ha pins s σ H Q I h) λc s1 e=>?_);cases c with
 |false=>exact isTrue_or_nil e
 |true=>exact e
def Io(ha:PT X a tA)(hb:PW X (.BoolOp .And (b::rest) pos) tB'):PW X (.BoolOp .And (a::b::rest) pos) (LW tA tB'):=by
 intro wh pins s σ H Q I h;refine isTrue_and (dy (ha pins s σ H _ I h) λc s1 ⟨H1,I1,q1⟩=>?_);cases c with
 |true=>exact hb wh pins s1 σ H1 Q I1 q1
 |false=>exact⟨H1,I1,q1⟩
def Kw(ha:PT X a tA)(hb:PW X (.BoolOp .Or (b::rest) pos) tB'):PW X (.BoolOp .Or (a::b::rest) pos) (MV tA tB'):=by
 intro wh pins s σ H Q I h;refine isTrue_or (dy (ha pins s σ H _ I h) λc s1 ⟨H1,I1,q1⟩=>?_);cases c with
 |true=>exact⟨H1,I1,q1⟩
 |false=>exact hb wh pins s1 σ H1 Q I1 q1
def Iq(ha:PT X a tA):PT X (.UnaryOp .Not a pos) (LL tA):=by
 intro pins s σ H Q I h;exact isTrue_not (ha pins s σ H (λc H1=>Q (!c) H1) I h)
def Km(ta tb:TE):TE:=λσ H Q=>ta σ H λx H1=>∃c,x=.bl c/\if c=true then tb σ H1 Q else Q (.bl false) H1
def Kh(ta:TE):TE:=λσ H Q=>ta σ H λx H1=>∃c,x=.bl c/\Q (.bl (!c)) H1
def ID{op}{t:TE}(h:PE X a t):PE X (.BoolOp op [a] pos) t:=λpins s σ H Q I hw=>BoolOp_one (h pins s σ H Q I hw)
def IJ(ha:PE X a ta)(hb:PE X (.BoolOp .And (b::rest) pos) tb):PE X (.BoolOp .And (a::b::rest) pos) (Km ta tb):=by
 intro pins s σ H Q I h;refine BoolOp_and (dy (ha pins s σ H _ I h) λv s1 ⟨x,H1,I1,r1,q1⟩=>?_);obtain⟨c,rfl,q1⟩:=q1;cases r1;refine WM ?_;cases c with
 |true=>exact hb pins s1 σ H1 Q I1 q1
 |false=>exact⟨.bl false,H1,I1,rfl,q1⟩
def IE(ha:PE X a ta):PE X (.UnaryOp .Not a pos) (Kh ta):=by
 intro pins s σ H Q I h;refine UnaryOp_ (dy (ha pins s σ H _ I h) λv s1 ⟨x,H1,I1,r1,q1⟩=>?_);obtain⟨c,rfl,q1⟩:=q1;cases r1;exact not_of (WM ⟨.bl (!c),H1,I1,rfl,q1⟩)
def MW(t:TT)(ta tb:TE):TE:=λσ H Q=>t σ H λc H1=>if c=true then ta σ H1 Q else tb σ H1 Q
def Dn{c:Vt}(hc:PT X c tA)(ha:PE X a ta)(hb:PE X b tb):PE X (.IfExp c a b pos) (MW tA ta tb):=by
 intro pins s σ H Q I h;refine wpAny_IfExp (dy (hc pins s σ H _ I h) λd s1 ⟨H1,I1,q1⟩=>?_);cases d with
 |true=>exact ha pins s1 σ H1 Q I1 q1
 |false=>exact hb pins s1 σ H1 Q I1 q1
end
def iA(K:Frag)(H:Hp)(a:Vp)(xs:List V):Prop:=
 Rd H a (.lst xs)\/
  ∃(o:Obj)(its:Array Vn)(n:Nat),K.lookup a=some o/\o.cls=.type "list" /\ o.dict=none/\o.data=.seq its n/\its.size<=sizeLine/\Vals xs its.toList
def iy(K:Frag)(H:Hp)(a:Vp)(xs:List V):Prop:=
 Rd H a (.tup xs)\/
  ∃(o:Obj)(its:Array Vn)(n:Nat),K.lookup a=some o/\o.cls=.type "tuple" /\ o.data=.seq its n/\its.size<=sizeLine/\Vals xs its.toList
def Ms:Vn->Option V
 |.none=>some .non
 |.bool b=>some (.bl b)
 |.int i _=>some (.int i)
 |.str x _=>some (.str x)
 |.bytes b _=>some (.byt b)
 |.float b _=>some (.flt b)
 |.ref a=>some (.ref a)
 |.type n=>some (.ty n)
 |_=>none
def bV.abs{x:V}{u:Vn}(r:bV x u):Ms u=some x:=by
 cases x with
 |non=>cases r;rfl
 |bl _=>cases r;rfl
 |ref _=>cases r;rfl
 |ty _=>cases r;rfl
 |_=>obtain⟨t,rfl⟩:=r;rfl
theorem bV.inj{x y:V}{u:Vn}(r:bV x u)(q:bV y u):x=y:=VN (r.abs.symm.trans q.abs)
theorem Vals.inj:∀{xs ys:List V}{us:List Vn},Vals xs us->Vals ys us->xs=ys
 |_,_,_,.nil,.nil=>rfl
 |_,_,_,.cons r t,.cons r' t'=>by rw[r.inj r',Vals.inj t t']
section
variable{X:Cx}{pins:List (Vp×Obj)}{σ:St}{H:Hp}{s:Vo}{a:Vp}{xs ys:List V}
def iA.of{K:Frag}(h:H a=some (.lst xs)):iA K H a xs:=.inl (.inl h)
def iy.of{K:Frag}(h:H a=some (.tup xs)):iy K H a xs:=.inl (.inl h)
theorem aH.list(I:aH X pins σ H s)(h:iA X.K H a xs):∃its:List Vn,Vals xs its/\PlainL s.heap a its.toArray/\xs.length<=sizeLine:=by
 rcases h with h|⟨o,its,n,hk,hc,hd,hs,hz,r⟩
 ·obtain⟨z,its,n,r,e⟩:=h.ok I.hok;exact⟨its,r,⟨_,n,e,rfl,rfl,rfl⟩,z⟩
 ·refine⟨its.toList,r,⟨o,n,I.kIn a o hk,hc,hd,by simpa using hs⟩,?_⟩
  have e:=r.length;simp only[QL] at e;omega
theorem aH.tuple(I:aH X pins σ H s)(h:iy X.K H a xs):∃its:List Vn,Vals xs its/\IsTup s.heap a its.toArray/\xs.length<=sizeLine:=by
 rcases h with h|⟨o,its,n,hk,hc,hs,hz,r⟩
 ·obtain⟨z,its,r,p⟩:=h.ok I.hok;exact⟨its,r,p,z⟩
 ·refine⟨its.toList,r,⟨o,I.kIn a o hk,hc,n,by simpa using hs⟩,?_⟩
  have e:=r.length;simp only[QL] at e;omega
theorem aH.list_inj(I:aH X pins σ H s)(h:iA X.K H a xs)(h':iA X.K H a ys):xs=ys:=by
 obtain⟨its,r,⟨o,n,e,_,_,d⟩,_⟩:=I.list h;obtain⟨its',r',⟨o',n',e',_,_,d'⟩,_⟩:=I.list h';rw[e] at e';cases e';rw[d] at d';injection d' with d1 _;have:its=its':=by simpa using Wh Array.toList d1
 subst this;exact r.inj r'
theorem aH.tuple_inj(I:aH X pins σ H s)(h:iy X.K H a xs)(h':iy X.K H a ys):xs=ys:=by
 obtain⟨its,r,⟨o,e,_,n,d⟩,_⟩:=I.tuple h;obtain⟨its',r',⟨o',e',_,n',d'⟩,_⟩:=I.tuple h';rw[e] at e';cases e';rw[d] at d';injection d' with d1 _;have:its=its':=by simpa using Wh Array.toList d1
 subst this;exact r.inj r'
end
abbrev Cx.wish(X:Cx)(E:Vn->Vo->Prop):Cx:={X with xe:=E}
abbrev Cx.nox(X:Cx):Cx:=X.wish λ_ _=>False
theorem Cx.Ok.wish{X:Cx}(ok:X.Ok)(E:Vn->Vo->Prop):(X.wish E).Ok:=
 ⟨ok.mod,ok.kind,ok.glob,ok.blt,ok.above,ok.inj,ok.has,ok.cab,ok.hd,ok.frames,ok.stk,ok.exf,ok.bs,ok.bsz,ok.noex,ok.exfs,ok.funs,ok.frf⟩
def Cx.Ok.unwish{X:Cx}{E:Vn->Vo->Prop}(ok:(X.wish E).Ok):X.Ok:=
 ⟨ok.mod,ok.kind,ok.glob,ok.blt,ok.above,ok.inj,ok.has,ok.cab,ok.hd,ok.frames,ok.stk,ok.exf,ok.bs,ok.bsz,ok.noex,ok.exfs,ok.funs,ok.frf⟩
section
variable{X:Cx}{pins:List (Vp×Obj)}{σ:St}{H:Hp}{s:Vo}{E:Vn->Vo->Prop}
theorem aH.wish(I:aH X pins σ H s)(E:Vn->Vo->Prop):aH (X.wish E) pins σ H s:=⟨I.ok.wish E,I.os,I.bare,I.base,I.loc,I.cell,I.free,I.freeC,I.pin,I.hok,I.len⟩
theorem aH.unwish(I:aH (X.wish E) pins σ H s):aH X pins σ H s:=⟨I.ok.unwish,I.os,I.bare,I.base,I.loc,I.cell,I.free,I.freeC,I.pin,I.hok,I.len⟩
theorem SP.unwish{D:nB}{f:Flow}{s':Vo}(h:SP (X.wish E) pins D f s'):SP X pins D f s':=by
 cases f with
 |ret u=>obtain⟨v,σ',H',I,r,q⟩:=h;exact⟨v,σ',H',I.unwish,r,q⟩
 |_=>obtain⟨σ',H',I,q⟩:=h;exact⟨σ',H',I.unwish,q⟩
theorem qz.nox{st:List Vu}{t:TS}(h:qz X.nox st t):qz X st t:=λpins s σ H D I hw=>
 Z3 (h pins s σ H D (I.wish _) hw) (λ_ _ q=>q.unwish) λ_ _ z=>False.elim z
end
section
variable{X:Cx}{st:Vu}{rest:List Vu}{t u:TS}{e:Vt}{te:TE}{pos:Pos}
def Ki:TS:=λD σ H=>D.nx σ H
def LJ(t u:TS):TS:=λD σ H=>t {D with nx:=u D} σ H
def zY:qz X [] Ki:=λ_ _ σ H _ I h=>wpAny_execs_nil ⟨σ,H,I,h⟩
def w4(h1:PS X st t)(h2:qz X rest u):qz X (st::rest) (LJ t u):=by
 intro pins s σ H D I h;refine wpAny_execs_cons (dy (h1 pins s σ H {D with nx:=u D} I h) λf s1 q=>?_);cases f with
 |next=>
  obtain⟨σ',H',I',q⟩:=q;exact h2 pins s1 σ' H' D I' q
 |ret v=>exact q
 |_=>exact q
def FO(h1:PS X st t):qz X [st] t:=by
 intro pins s σ H D I h;refine wpAny_execs_cons (dy (h1 pins s σ H D I h) λf s1 q=>?_);cases f with
 |next=>exact wpAny_execs_nil q
 |ret v=>exact q
 |brk=>exact q
 |cont=>exact q
def Kl:TS:=λD σ H=>D.ct σ H
def w6:PS X (.Continue pos) Kl:=λ_ _ σ H _ I h=>wpAny_Continue ⟨σ,H,I,h⟩
def aH.quiet{pins:List (Vp×Obj)}{σ:St}{H:Hp}{s:Vo}(I:aH X pins σ H s):interactive X.env=false:=by simp[interactive,I.ok.kind]
def Kj(te:TE):TS:=λD σ H=>te σ H λ_ H1=>D.nx σ H1
def oj(he:PE X e te)(hs:swapsWith e none pos.line X.env=pure false:=by rfl):PS X (.Expr e pos) (Kj te):=by
 intro pins s σ H D I h;exact wpAny_Expr_any (dy (he pins s σ H _ I h) λv s1 ⟨x,H1,I1,r1,q1⟩=>⟨σ,H1,I1,q1⟩) I.quiet hs
def LK(te:TE):TS:=λD σ H=>te σ H D.rt
def Dh(he:PE X e te):PS X (.Return (some e) pos) (LK te):=by
 intro pins s σ H D I h;exact wpAny_Return_some (dy (he pins s σ H _ I h) λv s1 ⟨x,H1,I1,r1,q1⟩=>⟨x,σ,H1,I1,r1,q1⟩)
def LQ(c:TT)(t u:TS):TS:=λD σ H=>c σ H λb H1=>if b=true then t D σ H1 else u D σ H1
def Ky{c:Vt}{a b:List Vu}{tc:TT}(hc:PT X c tc)(ha:qz X a t)(hb:qz X b u):PS X (.If c a b pos) (LQ tc t u):=by
 intro pins s σ H D I h;refine wpAny_If (dy (hc pins s σ H _ I h) λd s1 ⟨H1,I1,q1⟩=>?_);cases d with
 |true=>exact ha pins s1 σ H1 D I1 q1
 |false=>exact hb pins s1 σ H1 D I1 q1
end
abbrev TG:=V->St->Hp->(St->Hp->Prop)->Prop
abbrev JX:=List V->St->Hp->(St->Hp->Prop)->Prop
def PG(X:Cx)(target:Vt)(t:TG):Prop:=
 ∀(pins:List (Vp×Obj))(s:Vo)(σ:St)(H:Hp)(v:V)(u:Vn)(Q:St->Hp->Prop),aH X pins σ H s->bV v u->t v σ H Q->
  wpAny (model X.prog X.w) X.A (assign target X.env u) (λ_ s'=>∃σ' H',aH X pins σ' H' s'/\Q σ' H') X.xe s
def LB(X:Cx)(ts:List Vt)(t:JX):Prop:=
 ∀(pins:List (Vp×Obj))(s:Vo)(σ:St)(H:Hp)(vs:List V)(us:List Vn)(Q:St->Hp->Prop),aH X pins σ H s->Vals vs us->t vs σ H Q->
  wpAny (model X.prog X.w) X.A (assignInOrder ((assignEach ts X.env).map (·.2)) us) (λ_ s'=>∃σ' H',aH X pins σ' H' s'/\Q σ' H') X.xe s
section
variable{X:Cx}{pos:Pos}
def xb(i:Nat):TG:=λv σ H Q=>Q (σ.set i (some v)) H
def kS{i:Nat}{x:Str}(hN:X.N.Nodup)(hi:X.N[i]?=some x)(hx:zF X.env.scope x)(hf:X.fn x=true\/X.env.scope.names.lookup x=some .local:=by first|exact .inl rfl|exact .inr rfl|assumption):PG X (.Name x pos) (xb i):=by
 intro pins s σ H v u Q I r h;exact wpAny_assign_Name (vH I hN hi hx r (λs' I'=>⟨_,H,I',h⟩) hf)
def Mj:JX:=λvs σ H Q=>vs=[]/\Q σ H
def L9(t:TG)(u:JX):JX:=λvs σ H Q=>∃v r,vs=v::r/\t v σ H λσ' H'=>u r σ' H' Q
def A0:LB X [] Mj:=by
 intro pins s σ H vs us Q I r h;obtain⟨e,h⟩:=h;subst e;cases r;exact assignInOrder_nil ⟨σ,H,I,h⟩
theorem kl{e:Vt}{es:List Vt}{t:TG}{u:JX}(h1:PG X e t)(h2:LB X es u)
  (hs:(assignEach (e::es) X.env).map (·.2)=assign e X.env::(assignEach es X.env).map (·.2):=by rfl):LB X (e::es) (L9 t u):=by
 intro pins s σ H vs us Q I r h;obtain⟨v,vr,e1,h⟩:=h;subst e1;cases r with
 |cons r rr=>
  rw[hs];refine assignInOrder_cons (dy (h1 pins s σ H _ _ _ I r h) λ_ s1 ⟨σ1,H1,I1,q1⟩=>?_);exact h2 pins s1 σ1 H1 _ _ Q I1 rr q1
def Mi(K:Frag)(n:Nat)(t:JX):TG:=λv σ H Q=>∃a xs,v=.ref a/\iy K H a xs/\xs.length=n/\t xs σ H Q
def Dj{es:List Vt}{k:Nat}{t:JX}{n:Nat}(hc:X.calm=true)(h:LB X es t)
  (hn:(assignEach es X.env).length=n:=by rfl) (hst:(assignEach es X.env).findIdx? (·.1)=none:=by rfl):PG X (.Tuple es k pos) (Mi X.K n t):=by
 intro pins s σ H v u Q I r hw;obtain⟨a,xs,e1,hq,hl,hw⟩:=hw;subst e1;cases r;obtain⟨its,rv,ht,hz⟩:=I.tuple hq;refine assign_Tuple_tuple (I.ok.hd hc) ht (by simp[hn,<-hl,rv.length]) hst λh' hx=>?_
 have I1:aH X pins σ H {s with heap:=h'}:=I.kept (t':=s.toks) λb o e=>hx b o (V7 (Vx e)) e;exact h pins _ σ H xs _ Q I1 (by simpa using rv) hw
def Fo(te:TE)(g:TG):TS:=λD σ H=>te σ H λx H1=>g x σ H1 D.nx
def Iu{i:Nat}{x:Str}{e:Vt}{te:TE}{pos':Pos}(hN:X.N.Nodup)(hi:X.N[i]?=some x)(hx:zF X.env.scope x)(he:PE X e te)(hs:swapsWith e (some (.Name x pos')) pos.line X.env=pure false:=by rfl)(hf:X.fn x=true\/X.env.scope.names.lookup x=some .local:=by first|exact .inl rfl|exact .inr rfl|assumption):
  PS X (.Assign [.Name x pos'] e pos) (Fo te (xb i)):=by
 intro pins s σ H D I h;refine wpAny_Assign_Name (dy (he pins s σ H _ I h) λv s1 ⟨y,H1,I1,r1,q1⟩=>?_) hs;exact vH I1 hN hi hx r1 (λs2 I2=>⟨_,H1,I2,q1⟩) hf
end
structure It where
 go:Nat->Hp->Prop
 yld:Nat->Hp->V->Hp->Prop
 stop:Nat->Hp->Prop
def FpOk(X:Cx)(pins:List (Vp×Obj))(H:Hp)(b:Vp):Prop:=
 H b=none/\b≠X.env.locals/\b∉X.fs/\(b∈X.ex\/X.s₀.heap.objs.size<=b)/\(∀x c,X.env.cells.lookup x=some c->c≠b)/\∀p∈X.pn++pins,p.1≠b
def aH.fpOk{X:Cx}{pins:List (Vp×Obj)}{σ:St}{H H':Hp}{s:Vo}{b:Vp}(I:aH X pins σ H s)(hb:s.heap.objs.size<=b)(hn:H' b=none):FpOk X pins H' b:=by
 refine⟨hn,ne_of_gt (QZ I.lt hb),I.nofs hb,.inr (V5 I.sz hb),λx c e z=>?_,λp hp z=>?_⟩
 ·obtain⟨v,q⟩:=I.cell x c e;exact absurd (QZ q.lt (by rw[z];exact hb)) (Wo _)
 ·exact absurd (QZ (Vx (I.pin p hp).1) (by rw[z];exact hb)) (Wo _)
structure Cp(P:Vq)(w:Vr)(K:Frag)(tg:Vt)(J:It)(fp:List Vp)(it:Vp)(tn:Nat->Vs->Prop):Prop where
 mem:it∈fp
 obj:∀i h,tn i h->∀b∈fp,∃o,h.get? b=some o/\∀v,o.data≠.cell v
 keep:∀i h h',tn i h->(∀b∈fp,∀o,h.get? b=some o->h'.get? b=some o)->tn i h'
 item:∀(X:Cx),X.prog=P->X.w=w->X.K=K->X.calm=true->∀(i:Nat)(pins:List (Vp×Obj))(s:Vo)(σ:St)(H:Hp)(E:Vn->Vo->Prop),aH X pins σ H s->(∀b∈fp,FpOk X pins H b)->tn i s.heap->J.go i H->
  wpAny (model P w) X.A (pyNext (.ref it)) (λr s1=>∃u,r=some u/\
   wpAny (model P w) X.A (letOwnedTupleGo tg (.ref it) u) (λ_ s2=>∃x H',aH X pins σ H' s2/\bV x u/\J.yld i H x H'/\tn (i+1) s2.heap/\∀b∈fp,H' b=none) E s1) E s
 done:∀(X:Cx),X.prog=P->X.w=w->X.K=K->X.calm=true->∀(i:Nat)(pins:List (Vp×Obj))(s:Vo)(σ:St)(H:Hp)(E:Vn->Vo->Prop),aH X pins σ H s->(∀b∈fp,FpOk X pins H b)->tn i s.heap->J.stop i H->
  wpAny (model P w) X.A (pyNext (.ref it)) (λr s1=>r=none/\aH X pins σ H s1) E s
 self:∀(A:Vv)(i:Nat)(s:Vo)(Q:Vn->Vo->Prop)(E:Vn->Vo->Prop),tn i s.heap->Q (.ref it) s->wpAny (model P w) A (pyIter (.ref it)) Q E s
abbrev TI:=St->Hp->(It->Hp->Prop)->Prop
def MQ(X:Cx)(pins:List (Vp×Obj))(σ:St)(tg:Vt)(R:It->Hp->Prop)(itv:Vn)(s2:Vo):Prop:=
 ∃(it:Vp)(fp:List Vp)(tn:Nat->Vs->Prop)(J:It)(H':Hp),itv=.ref it/\aH X pins σ H' s2/\Cp X.prog X.w X.K tg J fp it tn/\tn 0 s2.heap/\(∀b∈fp,FpOk X pins H' b)/\R J H'
def PI(X:Cx)(tg iter:Vt)(wi:TI):Prop:=
 ∀(pins:List (Vp×Obj))(s:Vo)(σ:St)(H:Hp)(R:It->Hp->Prop),aH X pins σ H s->wi σ H R->
  wpAny (model X.prog X.w) X.A (eval iter X.env) (λv s1=>wpAny (model X.prog X.w) X.A (pyIter v) (MQ X pins σ tg R) X.xe s1) X.xe s
theorem Ej{M:Model}{A:Vv}{E:Vn->Vo->Prop}{s:Vo}{tg:Vt}{it:Vp}{u:Vn}{o:Obj}{n:Vw}{vs:Array Vn}{Q:Unit->Vo->Prop}(ho:s.heap.get? it=some o)(hc:o.cls=.type n)(hd:o.data=.fields vs)
  (hn:["enumerate","zip","dict_itemiterator","dict_reverseitemiterator","odict_iterator","itertools.zip_longest","itertools.pairwise"].contains n=false) (hQ:Q () s):wpAny M A (letOwnedTupleGo tg (.ref it) u) Q E s:=by
 unfold letOwnedTupleGo;cases tg <;> first
  |exact QD hQ
  | (cases u <;> first
      |exact QD hQ
      | (refine QA (wpAny_load ho ?_)
         rw[hc,hd];show wpAny M A (if(["enumerate","zip","dict_itemiterator","dict_reverseitemiterator","odict_iterator","itertools.zip_longest","itertools.pairwise"].contains n && vs[0]? == some (rawInt _))=true then _ else _) Q E s;rw[QI (by intro h;rw[hn,Bool.false_and] at h;cases h)]
         exact QD hQ))
def My(K:Frag)(a:Vp):It:=
 ⟨λi H=>∃xs x,iA K H a xs/\xs[i]?=some x,λi H x H'=>H'=H/\∀xs,iA K H a xs->xs[i]?=some x,λi H=>∃xs,iA K H a xs/\xs.length<=i⟩
def Mx(K:Frag)(a:Vp):It:=
 ⟨λi H=>∃xs x,iy K H a xs/\xs[i]?=some x,λi H x H'=>H'=H/\∀xs,iy K H a xs->xs[i]?=some x,λi H=>∃xs,iy K H a xs/\xs.length<=i⟩
def LF(lo:Int)(n:Nat):It:=⟨λi _=>i<n,λi H x H'=>H'=H/\x=.int (lo+i),λi _=>n<=i⟩
def AO{P:Vq}{w:Vr}{K:Frag}{tg:Vt}(a it:Vp):Cp P w K tg (My K a) [it] it (λi h=>h.IsListIter it a i) where
 mem:=by simp
 obj:=λi h st b hb=>by
  have e:b=it:=by simpa using hb
  subst e;obtain⟨o,e,c,d⟩:=st;exact⟨o,e,λv z=>by rw[d] at z;cases z⟩
 keep:=λi h h' st k=>st.at λo e=>k it (by simp) o e
 item:=by
  intro X hP hw hK hc i pins s σ H E I hf st hg;subst hP hw hK;obtain⟨xs,x,hq,hx⟩:=hg;obtain⟨its,rv,p,hz⟩:=I.list hq;obtain⟨u,hu,ru⟩:=rv.get hx;obtain⟨f0,f1,f2,f3,f4,f5⟩:=hf it (by simp)
  refine wpAny_pyNext_list_item st p.isList (x:=u) (by simpa using hu) λh' st' sb=>?_
  have I1:aH X pins σ H {s with heap:=h'}:=I.turned (t':=s.toks) (λb o hb e=>(sb.2 b hb).trans e) f0 f1 f3 f4 f5;obtain⟨o,e,c,d⟩:=id st';exact⟨u,rfl,Ej (s:={s with heap:=h'}) e c d (by decide) ⟨x,H,I1,ru,⟨rfl,λys hy=>by rw[I.list_inj hy hq];exact hx⟩,st',λb hb=>(hf b hb).1⟩⟩
 done:=by
  intro X hP hw hK hc i pins s σ H E I hf st hg;subst hP hw hK;obtain⟨xs,hq,hx⟩:=hg;obtain⟨its,rv,p,hz⟩:=I.list hq;obtain⟨f0,f1,f2,f3,f4,f5⟩:=hf it (by simp)
  have hl:=rv.length;exact wpAny_pyNext_list_end (I.ok.hd hc) st p.isList (by simp;omega) λh' eb=>⟨rfl,I.turned (t':=s.toks) (λb o hb e=>eb b o hb e) f0 f1 f3 f4 f5⟩
 self:=λ_ _ _ _ _ st h=>wpAny_pyIter_listiter st h
def xT{P:Vq}{w:Vr}{K:Frag}{tg:Vt}(a it:Vp):Cp P w K tg (Mx K a) [it] it (λi h=>h.IsTupleIter it a i) where
 mem:=by simp
 obj:=λi h st b hb=>by
  have e:b=it:=by simpa using hb
  subst e;obtain⟨o,e,c,d⟩:=st;exact⟨o,e,λv z=>by rw[d] at z;cases z⟩
 keep:=λi h h' st k=>st.at λo e=>k it (by simp) o e
 item:=by
  intro X hP hw hK hc i pins s σ H E I hf st hg;subst hP hw hK;obtain⟨xs,x,hq,hx⟩:=hg;obtain⟨its,rv,p,hz⟩:=I.tuple hq;obtain⟨u,hu,ru⟩:=rv.get hx;obtain⟨f0,f1,f2,f3,f4,f5⟩:=hf it (by simp)
  refine wpAny_pyNext_tuple_item st (show s.heap.IsTuple a its.toArray from p) (x:=u) (by simpa using hu) λh' st' sb=>?_
  have I1:aH X pins σ H {s with heap:=h'}:=I.turned (t':=s.toks) (λb o hb e=>(sb.2 b hb).trans e) f0 f1 f3 f4 f5;obtain⟨o,e,c,d⟩:=id st';exact⟨u,rfl,Ej (s:={s with heap:=h'}) e c d (by decide) ⟨x,H,I1,ru,⟨rfl,λys hy=>by rw[I.tuple_inj hy hq];exact hx⟩,st',λb hb=>(hf b hb).1⟩⟩
 done:=by
  intro X hP hw hK hc i pins s σ H E I hf st hg;subst hP hw hK;obtain⟨xs,hq,hx⟩:=hg;obtain⟨its,rv,p,hz⟩:=I.tuple hq;obtain⟨f0,f1,f2,f3,f4,f5⟩:=hf it (by simp)
  have hl:=rv.length;exact wpAny_pyNext_tuple_end (I.ok.hd hc) st (show s.heap.IsTuple a its.toArray from p) (by simp;omega) λh' eb=>⟨rfl,I.turned (t':=s.toks) (λb o hb e=>eb b o hb e) f0 f1 f3 f4 f5⟩
 self:=λ_ _ _ _ _ st h=>wpAny_pyIter_tupleiter st h
def xU{P:Vq}{w:Vr}{K:Frag}{tg:Vt}(it:Vp)(lo:Int)(n:Nat):Cp P w K tg (LF lo n) [it] it (λi h=>IsRangeIter h it (lo+(i:Nat) * 1) ((n:Int) - (i:Nat)) 1) where
 mem:=by simp
 obj:=λi h st b hb=>by
  have e:b=it:=by simpa using hb
  subst e;exact⟨_,st,λv z=>by
   have z':Data.fields _=Data.cell v:=z;cases z'⟩
 keep:=λi h h' st k=>k it (by simp) _ st
 item:=by
  intro X hP hw hK hc i pins s σ H E I hf st hg;subst hP hw hK;obtain⟨f0,f1,f2,f3,f4,f5⟩:=hf it (by simp)
  have W:=Walks.range (prog:=X.prog) (w:=X.w) (I.ok.hd hc) it lo 1 n;refine W.item i s _ _ hg st λv h' tk hv st' kk=>?_;obtain⟨t,rfl⟩:=hv;have I1:aH X pins σ H {s with heap:=h',toks:=tk}:=I.turned (λb o hb e=>kk b o (by simpa using hb) e) f0 f1 f3 f4 f5
  refine⟨_,rfl,Ej (s:={s with heap:=h',toks:=tk}) (n := "range_iterator") st' rfl rfl (by decide) ⟨.int (lo+i),H,I1,⟨t,?_⟩,⟨rfl,rfl⟩,st',λb hb=>(hf b hb).1⟩⟩
  rw[Int.mul_one]
 done:=by
  intro X hP hw hK hc i pins s σ H E I hf st hg;subst hP hw hK;obtain⟨f0,f1,f2,f3,f4,f5⟩:=hf it (by simp)
  exact wpAny_pyNext_range_end (I.ok.hd hc) st (by have:n<=i:=hg;omega) λh' eb=>⟨rfl,I.turned (t':=s.toks) (λb o hb e=>eb b o hb e) f0 f1 f3 f4 f5⟩
 self:=λ_ _ _ _ _ st h=>wpAny_pyIter_rangeiter st h
section
variable{X:Cx}{tg:Vt}
def De{pins:List (Vp×Obj)}{σ:St}{H:Hp}{s:Vo}{R:It->Hp->Prop}{E:Vn->Vo->Prop}{lo hi:Int}{t u v:Tok}{tk:Nat}(I:aH X pins σ H s)(h1:-(2 ^ 62)<=lo)(h2:lo<2 ^ 62)(h3:-(2 ^ 62)<=hi)(h4:hi<2 ^ 62)
  (q:R (LF lo (hi - lo).toNat) H):wpAny (model X.prog X.w) X.A (pyIter (.ref s.heap.objs.size)) (MQ X pins σ tg R) E {s with heap:=s.heap.push {cls:=.type "range",data:=.fields #[.int lo t,.int hi u,.int 1 v]},toks:=tk}:=by
 refine wpAny_pyIter_range (IsRange.new ..) (small_one h1 h2 h3 h4) ?_;have I1:aH X pins σ H {s with heap:=s.heap.push {cls:=.type "range",data:=.fields #[.int lo t,.int hi u,.int 1 v]},toks:=tk}:=I.kept λb o e=>QF _ e;refine⟨(s.heap.push {cls:=.type "range",data:=.fields #[.int lo t,.int hi u,.int 1 v]}).objs.size,[(s.heap.push {cls:=.type "range",data:=.fields #[.int lo t,.int hi u,.int 1 v]}).objs.size],_,_,H,rfl,
  I1.kept (t':=tk) λb o e=>QF _ e,xU _ lo (hi - lo).toNat,?_,λb hb=>?_,q⟩
 ·have e1:lo+((0:Nat):Int) * 1=lo:=by simp
  have e2:(((hi - lo).toNat:Nat):Int) - ((0:Nat):Int)=Builtin.Range.rangeSize lo hi 1:=by rw[rangeSize_one];split <;> omega
  show IsRangeIter _ _ (lo+((0:Nat):Int) * 1) ((((hi - lo).toNat:Nat):Int) - ((0:Nat):Int)) 1;rw[e1,e2];exact QT _ rfl
 ·have e:b=(s.heap.push {cls:=.type "range",data:=.fields #[.int lo t,.int hi u,.int 1 v]}).objs.size:=by simpa using hb
  subst e;exact I1.fpOk (QO _) (I1.hok.fresh (QO _))
def L5(ta:TA):TI:=λσ H R=>ta σ H λvs H1=>∃j:Int,vs=[.int j]/\-(2 ^ 62)<=j/\j<2 ^ 62/\R (LF 0 j.toNat) H1
def Bj{a:Vt}{ta:TA}{p pos:Pos}(hg:Gl X "range")(hm:X.mg "range" = none)(ha:PA X [a] ta)(hs:starEach [a] X.env=[(false,eval a X.env)]:=by rfl):PI X tg (.Call (.Name "range" p) [a] [] pos) (L5 ta):=by
 intro pins s σ H R I h;refine Call_ (pT I hg hm boot_range (Z4 (dy (ha pos pins s σ H _ I h) λus s1 ⟨vs,H1,I1,r1,q1⟩=>?_) hs rfl));obtain⟨j,e,q1,q2,q⟩:=q1;subst e;cases r1 with
 |cons r rr=>
  cases rr;obtain⟨t,rfl⟩:=r;exact call_range_1 (De I1 (by omega) (by omega) q1 q2 (by simpa using q))
def LR(wi:TI)(g:TG)(tb:TS):TS:=λD σ H=>wi σ H λJ H1=>∃W:Nat->Nat->St->Hp->Prop,(∃m,W 0 m σ H1)/\∀i m σ H,W i m σ H->
 (J.stop i H/\D.nx σ H)\/(J.go i H/\∃N:St->Hp->Prop,(∀σ' H',N σ' H'->∃m',m'<m/\W (i+1) m' σ' H')/\∀x H',J.yld i H x H'->g x σ H' λσ2 H2=>tb {D with nx:=N,ct:=N,bk:=D.nx} σ2 H2)
def p8(fp:List Vp)(h:Vs):List (Vp×Obj):=fp.filterMap λb=>(h.get? b).map λo=>(b,o)
def jD{fp:List Vp}{h:Vs}{b:Vp}{o:Obj}(hb:b∈fp)(e:h.get? b=some o):(b,o)∈p8 fp h:=Y6.mpr ⟨b,hb,by rw[e];rfl⟩
def Bs{fp:List Vp}{h:Vs}{p:Vp×Obj}(hp:p∈p8 fp h):p.1∈fp/\h.get? p.1=some p.2:=by
 obtain⟨b,hb,e⟩:=Y6.mp hp;cases q:h.get? b with
 |none=>rw[q] at e;cases e
 |some o=>
  rw[q] at e;have e':(b,o)=p:=VN e;subst e';exact⟨hb,q⟩
def aH.pinned{pins:List (Vp×Obj)}{σ:St}{H:Hp}{s:Vo}{fp:List Vp}(I:aH X pins σ H s)(hf:∀b∈fp,FpOk X pins H b)(ho:∀b∈fp,∃o,s.heap.get? b=some o/\∀v,o.data≠.cell v):aH X (pins++p8 fp s.heap) σ H s:=
 I.pins_of λp hp=>(VQ.mp hp).elim (λz=>I.pin p (Wd _ z)) λz=>by
  obtain⟨hb,e⟩:=Bs z;obtain⟨f0,f1,f2,_⟩:=hf p.1 hb;obtain⟨o,e',d⟩:=ho p.1 hb;rw[e] at e';cases e';exact⟨e,f0,f1,f2,d⟩
def aH.unpinned{pins pl:List (Vp×Obj)}{σ:St}{H:Hp}{s:Vo}(I:aH X (pins++pl) σ H s):aH X pins σ H s:=I.pins_of λp hp=>I.pin p (Wd _ (Yr _ hp))
theorem Iw{iter:Vt}{body:List Vu}{wi:TI}{g:TG}{tb:TS}{pos:Pos}(hp:PassesOwn (model X.prog X.w) X.A X.env X.xe)(hc:X.calm=true)(hi:PI X tg iter wi)(hg:PG X tg g)(hb:qz X body tb)
  (hs:∀x,foldedSetIterable iter X.env x=pure x:=by intro _;rfl):PS X (.For tg iter body [] pos) (LR wi g tb):=by
 intro pins s σ H D I h;refine wpAny_For (dy (hi pins s σ H _ I h) λv s1 h1=>dy h1 λitv s2 h2=>?_) hs;obtain⟨it,fp,tn,J,H2,e,I2,T,st2,f2,W,⟨m0,w0⟩,turn⟩:=h2;subst e;have stat:∀{H':Hp},(∀b∈fp,H' b=none)->∀b∈fp,FpOk X pins H' b:=λhn b hb=>⟨hn b hb,(f2 b hb).2⟩;refine codeAny_forLoop_any (λn s'=>∃i σ' H',aH X pins σ' H' s'/\tn i s'.heap/\(∀b∈fp,H' b=none)/\W i n σ' H') ?_ m0 ⟨0,σ,H2,I2,st2,λb hb=>(f2 b hb).1,w0⟩
 rintro n s3 ⟨i,σ3,H3,I3,st3,fr3,w3⟩
 rcases turn i n σ3 H3 w3 with⟨stop,qn⟩|⟨go,N,hN,step⟩
 ·refine ZI hp (dy (T.done X rfl rfl rfl hc i pins s3 σ3 H3 X.xe I3 (stat fr3) st3 stop) λr s4 ⟨hr,I4⟩=>?_);subst hr;exact wpAny_execs_nil ⟨σ3,H3,I4,qn⟩
 ·refine ZI hp (dy (T.item X rfl rfl rfl hc i pins s3 σ3 H3 X.xe I3 (stat fr3) st3 go) λr s4 t'=>?_);obtain⟨u,hr,h4⟩:=t';subst hr;refine ZI hp (dy h4 λ_ s5 t'=>?_);obtain⟨x,H5,I5,r5,y5,st5,fr5⟩:=t';have I5':=I5.pinned (stat fr5) (T.obj _ _ st5);refine ZI hp (dy (hg _ s5 σ3 H5 x u _ I5' r5 (step x H5 y5)) λ_ s6 t'=>?_);obtain⟨σ6,H6,I6,q6⟩:=t';refine ZI hp (dy (hb _ s6 σ6 H6 _ I6 q6) λf s7 q7=>?_);have again:∀{σ7:St}{H7:Hp},aH X (pins++p8 fp s5.heap) σ7 H7 s7->N σ7 H7->∃m,m<n/\∃i σ' H',aH X pins σ' H' s7/\tn i s7.heap/\(∀b∈fp,H' b=none)/\W i m σ' H':=λ{σ7 H7} I7 n7=>by
   obtain⟨m',hm,w7⟩:=hN σ7 H7 n7;refine⟨m',hm,i+1,σ7,H7,I7.unpinned,T.keep _ _ _ st5 λb hb o e=>(I7.pin (b,o) (Wd _ (Wd _ (jD hb e)))).1,λb hb=>?_,w7⟩;obtain⟨o,e,d⟩:=T.obj _ _ st5 b hb;exact(I7.pin (b,o) (Wd _ (Wd _ (jD hb e)))).2.1
  cases f with
  |brk=>obtain⟨σ7,H7,I7,q7⟩:=q7;exact⟨σ7,H7,I7.unpinned,q7⟩
  |ret v=>obtain⟨x7,σ7,H7,I7,r7,q7⟩:=q7;exact⟨x7,σ7,H7,I7.unpinned,r7,q7⟩
  |_=>obtain⟨σ7,H7,I7,n7⟩:=q7;exact again I7 n7
end
abbrev R2:=V->V->Hp->VK->Prop
def hU(X:Cx)(f:Vn->Vn->Sem Vn)(r:R2):Prop:=
 ∀(pins:List (Vp×Obj))(s:Vo)(σ:St)(H:Hp)(x y:V)(v u:Vn)(Q:VK),aH X pins σ H s->bV x v->bV y u->r x y H Q->
  wpAny (model X.prog X.w) X.A (f v u) (EP X pins σ Q) X.xe s
def Ly(X:Cx)(f:Vn->Sem Vn)(r:V->Hp->VK->Prop):Prop:=
 ∀(pins:List (Vp×Obj))(s:Vo)(σ:St)(H:Hp)(x:V)(v:Vn)(Q:VK),aH X pins σ H s->bV x v->r x H Q->
  wpAny (model X.prog X.w) X.A (f v) (EP X pins σ Q) X.xe s
def cI(X:Cx)(f:Vn)(r:List V->Hp->VK->Prop):Prop:=
 ∀(pins:List (Vp×Obj))(s:Vo)(σ:St)(H:Hp)(xs:List V)(us:List Vn)(Q:VK),aH X pins σ H s->Vals xs us->r xs H Q->
  wpAny (model X.prog X.w) X.A (call f us) (EP X pins σ Q) X.xe s
def Mt(X:Cx)(r:V->Hp->(Bool->Hp->Prop)->Prop):Prop:=
 ∀(pins:List (Vp×Obj))(s:Vo)(σ:St)(H:Hp)(x:V)(v:Vn)(Q:Bool->Hp->Prop),aH X pins σ H s->bV x v->r x H Q->
  wpAny (model X.prog X.w) X.A (truthy v) (TP X pins σ Q) X.xe s
def Kg(r:R2)(ta tb:TE):TE:=λσ H Q=>ta σ H λx H1=>tb σ H1 λy H2=>r x y H2 Q
def MT(r:V->Hp->VK->Prop)(ta:TE):TE:=λσ H Q=>ta σ H λx H1=>r x H1 Q
def rI(C:Int->Int->Prop)(g:Int->Int->V):R2:=λx y H Q=>∃i j,x=.int i/\y=.int j/\C i j/\Q (g i j) H
def Hl(g:Int->Int->V):R2:=λx y H Q=>∃i j,x=.int i/\y=.int j/\Q (g i j) H
def rU(g:Int->V):V->Hp->VK->Prop:=λx H Q=>∃i,x=.int i/\Q (g i) H
section
variable{X:Cx}{a b c:Vt}{ta tb tc:TE}{pos:Pos}
def JP(ha:PE X a ta)(hb:PE X b tb){pins:List (Vp×Obj)}{s:Vo}{σ:St}{H:Hp}{R:V->V->Hp->Prop}(I:aH X pins σ H s)
  (h:ta σ H λx H1=>tb σ H1 λy H2=>R x y H2) {Q:Vn->Vo->Prop} {f:Vn->Vn->Sem Vn}
  (hf:∀v u s2 x y H2,aH X pins σ H2 s2->bV x v->bV y u->R x y H2->wpAny (model X.prog X.w) X.A (f v u) Q X.xe s2):
  wpAny (model X.prog X.w) X.A (eval a X.env) (λv s₁=>wpAny (model X.prog X.w) X.A (eval b X.env) (λu s₂=>wpAny (model X.prog X.w) X.A (f v u) Q X.xe s₂) X.xe s₁) X.xe s:=by
 refine dy (ha pins s σ H _ I h) λv s1 t'=>?_;obtain⟨x,H1,I1,r1,q1⟩:=t';refine dy (hb pins s1 σ H1 _ I1 q1) λu s2 t'=>?_;obtain⟨y,H2,I2,r2,q2⟩:=t';exact hf v u s2 x y H2 I2 r1 r2 q2
def Hn{op:Operator}{r:R2}(ho:hU X (binaryOp op) r)(ha:PE X a ta)(hb:PE X b tb):PE X (.BinOp a op b pos) (Kg r ta tb):=by
 intro pins s σ H Q I h;exact wpAny_BinOp (JP ha hb I h λv u s2 x y H2 I2 rx ry q=>ho pins s2 σ H2 x y v u Q I2 rx ry q)
def Hm{op:UnaryOp}{r:V->Hp->VK->Prop}(ho:Ly X (unaryOp op) r)(ha:PE X a ta):PE X (.UnaryOp op a pos) (MT r ta):=by
 intro pins s σ H Q I h;exact UnaryOp_ (dy (ha pins s σ H _ I h) λv s1 ⟨x,H1,I1,r1,q1⟩=>ho pins s1 σ H1 x v Q I1 r1 q1)
def K6{f:Vn->Vn->Sem Vn}{C:Int->Int->Prop}{g:Int->Int->Int}
  (rule:∀(i j:Int)(t u:Tok)(s:Vo)(Q:Vn->Vo->Prop)(E:Vn->Vo->Prop),C i j->Q (.int (g i j) s.toks) {s with toks:=s.toks+1}->wpAny (model X.prog X.w) X.A (f (.int i t) (.int j u)) Q E s):
  hU X f (rI C λi j=>.int (g i j)):=by
 intro pins s σ H x y v u Q I rx ry h;obtain⟨i,j,rfl,rfl,hc,q⟩:=h;obtain⟨t,rfl⟩:=rx;obtain⟨t',rfl⟩:=ry;exact rule i j t t' s _ _ hc ⟨.int (g i j),H,I.tok _,⟨_,rfl⟩,q⟩
def Ja{f:Vn->Vn->Sem Vn}{g:Int->Int->Int}
  (rule:∀(i j:Int)(t u:Tok)(s:Vo)(Q:Vn->Vo->Prop)(E:Vn->Vo->Prop),Q (.int (g i j) s.toks) {s with toks:=s.toks+1}->wpAny (model X.prog X.w) X.A (f (.int i t) (.int j u)) Q E s):
  hU X f (Hl λi j=>.int (g i j)):=by
 intro pins s σ H x y v u Q I rx ry h;obtain⟨i,j,rfl,rfl,q⟩:=h;obtain⟨t,rfl⟩:=rx;obtain⟨t',rfl⟩:=ry;exact rule i j t t' s _ _ ⟨.int (g i j),H,I.tok _,⟨_,rfl⟩,q⟩
def Jb{f:Vn->Vn->Sem Vn}{g:Int->Int->Bool}
  (rule:∀(i j:Int)(t u:Tok)(s:Vo)(Q:Vn->Vo->Prop)(E:Vn->Vo->Prop),Q (.bool (g i j)) s->wpAny (model X.prog X.w) X.A (f (.int i t) (.int j u)) Q E s):
  hU X f (Hl λi j=>.bl (g i j)):=by
 intro pins s σ H x y v u Q I rx ry h;obtain⟨i,j,rfl,rfl,q⟩:=h;obtain⟨t,rfl⟩:=rx;obtain⟨t',rfl⟩:=ry;exact rule i j t t' s _ _ ⟨.bl (g i j),H,I,rfl,q⟩
def MF(i j:Int):Prop:=0<j/\j<1073741824
def Lr(i j:Int):Prop:=0<=j/\j<=1000000/\i.natAbs<2 ^ 64
def K3(i j:Int):Prop:=(-(2 ^ 64)<i/\i<2 ^ 64)\/(-(2 ^ 64)<j/\j<2 ^ 64)
def K3.ok{i j:Int}(h:K3 i j):IntMulOk i j:=by
 rcases h with⟨h1,h2⟩|⟨h1,h2⟩
 ·exact .of_left (intBits_le_64 h1 h2)
 ·exact .of_right (intBits_le_64 h1 h2)
def xS(k:Nat):(0:Int)<=2 ^ k:=by
 rw[two_pow_cast];exact Zr _
def J1:hU X (binaryOp .Add) (Hl λi j=>.int (i+j)):=Ja λ_ _ _ _ _ _ _ q=>add_int q
def IT:hU X (binaryOp .Sub) (Hl λi j=>.int (i - j)):=Ja λ_ _ _ _ _ _ _ q=>sub_int q
def IY:hU X (binaryOp .Mult) (rI K3 λi j=>.int (i * j)):=K6 λ_ _ _ _ _ _ _ hc q=>mul_int q hc.ok
def G5:hU X (binaryOp .FloorDiv) (rI MF λi j=>.int (i / j)):=K6 λi j _ _ _ _ _ hc q=>by
 have h1:(0:Int)<j:=hc.1;have h2:j<1073741824:=hc.2;exact floordiv_int (by omega) (by rw[Xh i (by omega)];exact q) (.inl (PyProof.noPylong_small (by omega)))
def IZ:hU X (binaryOp .Mod) (rI (λ_ j=>0<j) λi j=>.int (i % j)):=K6 λi j _ _ _ _ _ hc q=>by
 have h1:(0:Int)<j:=hc;exact mod_int' (by omega) (by rw[Int.fmod_eq_emod_of_nonneg i (by omega)];exact q)
def IX:hU X (binaryOp .Pow) (rI Lr λi j=>.int (i ^ j.toNat)):=K6 λ_ _ _ _ _ _ _ hc q=>pow_int_small hc.1 hc.2.1 hc.2.2 q
def IV:hU X (binaryOp .LShift) (rI Lr λi j=>.int (i * 2 ^ j.toNat)):=K6 λ_ _ _ _ _ _ _ hc q=>lshift_int_small hc.1 hc.2.1 hc.2.2 q
def IU:hU X (binaryOp .RShift) (rI (λ_ j=>0<=j) λi j=>.int (i / 2 ^ j.toNat)):=K6 λi j _ _ _ _ _ hc q=>
 rshift_int hc (by rw[Xh i (xS _)];exact q)
def J0:hU X (binaryOp .BitAnd) (Hl λi j=>.int (Builtin.bitAnd i j)):=Ja λ_ _ _ _ _ _ _ q=>and_int q
def MS{f:Vn->Sem Vn}{g:Int->Int}
  (rule:∀(i:Int)(t:Tok)(s:Vo)(Q:Vn->Vo->Prop)(E:Vn->Vo->Prop),Q (.int (g i) s.toks) {s with toks:=s.toks+1}->wpAny (model X.prog X.w) X.A (f (.int i t)) Q E s):
  Ly X f (rU λi=>.int (g i)):=by
 intro pins s σ H x v Q I rx h;obtain⟨i,rfl,q⟩:=h;obtain⟨t,rfl⟩:=rx;exact rule i t s _ _ ⟨.int (g i),H,I.tok _,⟨_,rfl⟩,q⟩
def CI:Ly X (unaryOp .USub) (rU λi=>.int (-i)):=MS λ_ _ _ _ _ q=>neg_int q
end
def scal:V->V->Bool
 |.non,.non=>true|.non,.int _=>true|.int _,.non=>true|.non,.bl _=>true|.bl _,.non=>true|.non,.str _=>true|.str _,.non=>true
 |.int _,.int _=>true|.bl _,.bl _=>true|.str _,.str _=>true|.byt _,.byt _=>true
 |.int _,.str _=>true|.str _,.int _=>true|.bl _,.str _=>true|.str _,.bl _=>true
 |_,_=>false
def N0:R2:=λx y H Q=>scal x y=true/\Q (.bl (decide (x=y))) H
def MZ:R2:=λx y H Q=>scal x y=true/\Q (.bl (!decide (x=y))) H
def Aw{i j:Int}:decide (V.int i=V.int j)=(i == j):=by
 rw[VI];simp
def EC{i j:Bool}:decide (V.bl i=V.bl j)=(i == j):=by
 rw[VI];simp
def Av{i j:Str}:decide (V.str i=V.str j)=(i == j):=by
 rw[VI];simp
def Ax{i j:Array UInt8}:decide (V.byt i=V.byt j)=(i.toList == j.toList):=by
 rw[VI];cases i;cases j;simp
section
variable{X:Cx}{a b c:Vt}{ta tb tc:TE}{pos:Pos}
def bM{pins:List (Vp×Obj)}{σ:St}{H:Hp}{s:Vo}{Q:VK}{k k':Bool}(I:aH X pins σ H s)(q:Q (.bl k) H)(e:k=k'):EP X pins σ Q (.bool k') s:=by
 subst e;exact⟨.bl k,H,I,rfl,q⟩
def KM:hU X (compareOp .Eq) N0:=by
 intro pins s σ H x y v u Q I rx ry h;obtain⟨hs,q⟩:=h;cases x with
 |non=>
  cases rx;cases y with
  |non=>cases ry;exact PySem.EqNone.eq_none_none (bM I q (by simp))
  |bl j=>cases ry;exact PySem.EqNone.eq_none_bool (bM I q (by simp))
  |int j=>obtain⟨t',rfl⟩:=ry;exact PySem.EqNone.eq_none_int (bM I q (by simp))
  |str j=>obtain⟨t',rfl⟩:=ry;exact PySem.EqNone.eq_none_str (bM I q (by simp))
  |_=>exact absurd (show false=true from hs) QC
 |bl i=>
  cases rx;cases y with
  |non=>cases ry;exact PySem.EqNone.eq_bool_none (bM I q (by simp))
  |bl j=>cases ry;exact eq_bool (bM I q EC)
  |str j=>obtain⟨t',rfl⟩:=ry;exact PySem.EqMixed.eq_bool_str (bM I q (by simp))
  |_=>exact absurd (show false=true from hs) QC
 |int i=>
  obtain⟨t,rfl⟩:=rx;cases y with
  |non=>cases ry;exact PySem.EqNone.eq_int_none (bM I q (by simp))
  |int j=>obtain⟨t',rfl⟩:=ry;exact eq_int (bM I q Aw)
  |str j=>obtain⟨t',rfl⟩:=ry;exact PySem.EqMixed.eq_int_str (bM I q (by simp))
  |_=>exact absurd (show false=true from hs) QC
 |str i=>
  obtain⟨t,rfl⟩:=rx;cases y with
  |non=>cases ry;exact PySem.EqNone.eq_str_none (bM I q (by simp))
  |bl j=>cases ry;exact PySem.EqMixed.eq_str_bool (bM I q (by simp))
  |int j=>obtain⟨t',rfl⟩:=ry;exact PySem.EqMixed.eq_str_int (bM I q (by simp))
  |str j=>obtain⟨t',rfl⟩:=ry;exact eq_str (bM I q Av)
  |_=>exact absurd (show false=true from hs) QC
 |byt i=>
  obtain⟨t,rfl⟩:=rx;cases y with
  |byt j=>obtain⟨t',rfl⟩:=ry;exact PySem.W.eq_bytes (bM I q Ax)
  |_=>exact absurd (show false=true from hs) QC
 |_=>cases y <;> exact absurd (show false=true from hs) QC
def KH:hU X (compareOp .NotEq) MZ:=by
 intro pins s σ H x y v u Q I rx ry h;obtain⟨hs,q⟩:=h;cases x with
 |non=>
  cases rx;cases y with
  |non=>cases ry;exact PySem.EqNone.ne_none_none (bM I q (by simp))
  |bl j=>cases ry;exact PySem.EqNone.ne_none_bool (bM I q (by simp))
  |int j=>obtain⟨t',rfl⟩:=ry;exact PySem.EqNone.ne_none_int (bM I q (by simp))
  |str j=>obtain⟨t',rfl⟩:=ry;exact PySem.EqNone.ne_none_str (bM I q (by simp))
  |_=>exact absurd (show false=true from hs) QC
 |bl i=>
  cases rx;cases y with
  |non=>cases ry;exact PySem.EqNone.ne_bool_none (bM I q (by simp))
  |bl j=>cases ry;exact ne_bool (bM I q (Wh not EC))
  |str j=>obtain⟨t',rfl⟩:=ry;exact PySem.EqMixed.ne_bool_str (bM I q (by simp))
  |_=>exact absurd (show false=true from hs) QC
 |int i=>
  obtain⟨t,rfl⟩:=rx;cases y with
  |non=>cases ry;exact PySem.EqNone.ne_int_none (bM I q (by simp))
  |int j=>obtain⟨t',rfl⟩:=ry;exact ne_int (bM I q (Wh not Aw))
  |str j=>obtain⟨t',rfl⟩:=ry;exact PySem.EqMixed.ne_int_str (bM I q (by simp))
  |_=>exact absurd (show false=true from hs) QC
 |str i=>
  obtain⟨t,rfl⟩:=rx;cases y with
  |non=>cases ry;exact PySem.EqNone.ne_str_none (bM I q (by simp))
  |bl j=>cases ry;exact PySem.EqMixed.ne_str_bool (bM I q (by simp))
  |int j=>obtain⟨t',rfl⟩:=ry;exact PySem.EqMixed.ne_str_int (bM I q (by simp))
  |str j=>obtain⟨t',rfl⟩:=ry;exact ne_str (bM I q (Wh not Av))
  |_=>exact absurd (show false=true from hs) QC
 |byt i=>
  obtain⟨t,rfl⟩:=rx;cases y with
  |byt j=>obtain⟨t',rfl⟩:=ry;exact PySem.W.ne_bytes (bM I q (Wh not Ax))
  |_=>exact absurd (show false=true from hs) QC
 |_=>cases y <;> exact absurd (show false=true from hs) QC
def KI:hU X (compareOp .Lt) (Hl λi j=>.bl (decide (i<j))):=Jb λ_ _ _ _ _ _ _ q=>lt_int q
def KJ:hU X (compareOp .LtE) (Hl λi j=>.bl (decide (i<=j))):=Jb λ_ _ _ _ _ _ _ q=>le_int q
def KL:hU X (compareOp .Gt) (Hl λi j=>.bl (decide (j<i))):=Jb λ_ _ _ _ _ _ _ q=>gt_int q
def DB(b:Vt){op:CmpOp}(h:op≠.In:=by decide)(h2:op≠.NotIn:=by decide):behindInMarks op b=false:=by
 have e1:(op == CmpOp.In)=false:=by cases op <;> first|rfl|exact absurd rfl h
 have e2:(op == CmpOp.NotIn)=false:=by cases op <;> first|rfl|exact absurd rfl h2
 cases b <;> simp[behindInMarks,e1,e2]
def FX{op:CmpOp}{r:R2}(ho:hU X (compareOp op) r)(ha:PE X a ta)(hb:PE X b tb)(hm:behindInMarks op b=false):PE X (.Compare a [op] [b] pos) (Kg r ta tb):=by
 intro pins s σ H Q I h;exact wpAny_Compare1 (JP ha hb I h λv u s2 x y H2 I2 rx ry q=>ho pins s2 σ H2 x y v u Q I2 rx ry q) hm
def Kf(t:TE):TT:=λσ H Q=>t σ H λx H'=>∃k,x=.bl k/\Q k H'
def FN{op:CmpOp}{r:R2}(ho:hU X (compareOp op) r)(ha:PE X a ta)(hb:PE X b tb)(hm:behindInMarks op b=false):PT X (.Compare a [op] [b] pos) (Kf (Kg r ta tb)):=by
 intro pins s σ H Q I h;refine wpAny_isTrue_Compare1 (dy (ha pins s σ H _ I h) λv s1 ⟨x,H1,I1,r1,q1⟩=>dy (hb pins s1 σ H1 _ I1 q1) λu s2 ⟨y,H2,I2,r2,q2⟩=>
  dy (ho pins s2 σ H2 x y v u _ I2 r1 r2 q2) λc s3 ⟨z,H3,I3,r3,k,e,q3⟩=>?_) hm
 subst e;cases r3;exact WM ⟨H3,I3,q3⟩
def JW(K:Frag)(x:V)(H:Hp)(k:Bool):Prop:=
 match x with
 |.non=>k=false
 |.bl b=>k=b
 |.int i=>k=(i != 0)
 |.str y=>y.length<=sizeLine/\k=((y.length:Int) != 0)
 |.byt y=>y.size<=sizeLine/\k=((y.size:Int) != 0)
 |.ref p=>(∃xs,iA K H p xs/\k=!xs.isEmpty)\/(∃xs,iy K H p xs/\k=!xs.isEmpty)\/∃kvs,H p=some (.dK kvs)/\k=!kvs.isEmpty
 |_=>False
def yU{κ:Type}{kvs:List (κ×V)}{vs:List (κ×Vn)}(r:KV kvs vs):(!vs.isEmpty)=!kvs.isEmpty:=by
 cases r <;> rfl
def pW{xs:List V}{its:List Vn}(r:Vals xs its):(!its.toArray.isEmpty)=!xs.isEmpty:=by
 cases r <;> simp
def mX:(sizeLine:Nat)<2 ^ 63:=by rw[WC];decide
def HU:Mt X (λx H Q=>∃k,JW X.K x H k/\Q k H):=by
 intro pins s σ H x v Q I rx h;obtain⟨k,e,q⟩:=h;have hl:=mX;have hs:sizeLine=16777216:=WC;cases x with
 |non=>
  cases rx;have e':k=false:=e;subst e';exact truthy_none ⟨H,I,q⟩
 |bl b=>
  cases rx;have e':k=b:=e;subst e';exact WM ⟨H,I,q⟩
 |int i=>
  obtain⟨t,rfl⟩:=rx;have e':k=(i != 0):=e;subst e';exact PySem.P.truthy_int ⟨H,I,q⟩
 |str y=>
  obtain⟨t,rfl⟩:=rx;obtain⟨hy,e'⟩:y.length<=sizeLine/\k=((y.length:Int) != 0):=e;subst e';exact PySem.P.truthy_str (by omega) ⟨H,I.tok _,q⟩
 |byt y=>
  obtain⟨t,rfl⟩:=rx;obtain⟨hy,e'⟩:y.size<=sizeLine/\k=((y.size:Int) != 0):=e;subst e';exact PySem.W.truthy_bytes (by omega) ⟨H,I.tok _,q⟩
 |ref p=>
  cases rx;have e':(∃xs,iA X.K H p xs/\k=!xs.isEmpty)\/(∃xs,iy X.K H p xs/\k=!xs.isEmpty)\/∃kvs,H p=some (.dK kvs)/\k=!kvs.isEmpty:=e;rcases e' with⟨xs,hx,e'⟩|⟨xs,hx,e'⟩|⟨kvs,hx,e'⟩
  ·subst e';obtain⟨its,r,pl,hz⟩:=I.list hx;have hlen:=r.length;exact wpAny_truthy_list pl.isList (by simp only[QK];omega) ⟨H,I.tok _,by rw[pW r];exact q⟩
  ·subst e';obtain⟨its,r,pl,hz⟩:=I.tuple hx;have hlen:=r.length;exact truthy_tuple pl (by simp only[QK];omega) ⟨H,I.tok _,by rw[pW r];exact q⟩
  ·subst e';obtain⟨hz,hS,vs,r,m⟩:kvs.length<=sizeLine/\(p == sysModules)=false/\∃vs,KV kvs vs/\s.heap.DictOf (uz X.prog X.w) p vs:=I.hok p _ hx;have hlen:kvs.length=vs.length:=Paired.length r;exact wpAny_truthy_dict hS m (by omega) ⟨H,I.tok _,by rw[yU r];exact q⟩
 |_=>exact(show False from e).elim
def Df(ha:PE X a ta)(he:∀whole,isTrue a X.env whole=(do let v <-whole;standAt a.pos;holding [v] (truthy v))):
  PT X a (λσ H Q=>ta σ H λx H'=>∃k,JW X.K x H' k/\Q k H'):=by
 intro pins s σ H Q I h;exact isTrue_plain (dy (ha pins s σ H _ I h) λv s1 ⟨x,H1,I1,r1,q1⟩=>HU pins s1 σ H1 x v Q I1 r1 q1) (he _)
def yn:hU X (binaryOp .Add) (λx y H Q=>∃i j,x=.str i/\y=.str j/\i.length+j.length<=sizeLine/\Q (.str (i++j)) H):=by
 intro pins s σ H x y v u Q I rx ry h;obtain⟨i,j,rfl,rfl,hz,q⟩:=h;obtain⟨t,rfl⟩:=rx;obtain⟨t',rfl⟩:=ry;exact add_str (λt' tk=>⟨.str (i++j),H,I.tok _,⟨_,rfl⟩,q⟩) hz
def gg{x:V}{us:List Vn}(r:Vals [x] us):∃u,us=[u]/\bV x u:=by
 cases r with
 |cons r1 r2=>cases r2;exact⟨_,rfl,r1⟩
def CF{x y:V}{us:List Vn}(r:Vals [x,y] us):∃u w',us=[u,w']/\bV x u/\bV y w':=by
 cases r with
 |cons r1 r2=>
  cases r2 with
  |cons r3 r4=>cases r4;exact⟨_,_,rfl,r1,r3⟩
def sG:cI X (.type "int") (λxs H Q=>(∃i,xs=[.int i]/\Q (.int i) H)\/∃k,xs=[.bl k]/\Q (.int (if k then 1 else 0)) H):=by
 intro pins s σ H xs us Q I r h;rcases h with⟨i,rfl,q⟩|⟨k,rfl,q⟩
 ·obtain⟨u,rfl,t,rfl⟩:=gg r;exact call_int_int ⟨.int i,H,I,⟨_,rfl⟩,q⟩
 ·obtain⟨u,rfl,r1⟩:=gg r;cases r1;exact call_int_bool ⟨.int (if k then 1 else 0),H,I.tok _,⟨_,rfl⟩,q⟩
end
structure zE(h:Vs)(x dx C:Vp)(mA:Str->Option Vn):Prop where
 obj:h.get? x=some (instObj C dx)
 ns:h.Ns1 dx mA
 ne:dx≠x
def BH{h:Vs}{dx:Vp}{mA:Str->Option Vn}(n:h.Ns1 dx mA):∃od,h.get? dx=some od/\∀name,lookIn name od=some (mA name):=by
 obtain⟨o,es,ep,ho,hd,hk,_,hm⟩:=n;refine⟨o,ho,λname=>?_⟩;have e:=hm name;unfold nsFind findBy at e;rw[<-Array.find?_toList] at e;unfold lookIn;rw[hd];dsimp only;split
 ·rename_i y q;rw[q] at e;exact Wh some e
 ·rename_i q;rw[q] at e;have a:es.toList.any (·.refKey)=false:=by
   rw[ZK];intro y hy;obtain⟨z,t,hkey⟩:=hk y (Array.mem_toList_iff.mp hy);simp[DictEntry.refKey,hkey]
  have a':¬es.toList.any (·.refKey)=true:=by rw[a];exact QC
  rw[QI a'];exact Wh some e
def zE.look{h:Vs}{x dx C:Vp}{mA:Str->Option Vn}(I:zE h x dx C mA):∃od,PySem.W.InstAt h x (instObj C dx) C (some od)/\∀name,lookIn name od=some (mA name):=
 let ⟨od,ho,hl⟩:=BH I.ns
 ⟨od,⟨I.obj,rfl,rfl,ho⟩,hl⟩
section
variable{prog:Vq}{w:Vr}{A:Vv}{E:Vn->Vo->Prop}{s:Vo}{K:Frag}{x dx C f:Vp}{mA:Str->Option Vn}{name:Str}{v:Vn}
def Gz{expr:Bool}{Q:Vn->Vo->Prop}(X:K.In s.heap)(I:zE s.heap x dx C mA)(hg:plainGet K C name=true)(hh:hasDictIn K C=true)
  (ha:findIn K (.ref C) name=some none) (hv:mA name=some v) (hv':handedIn v=true) (h:Q v {s with toks:=s.toks+1}):
  wpAny (model prog w) A (getAttr (.ref x) name expr) Q E s:=by
 obtain⟨od,J,hl⟩:=I.look;exact PySem.W.get_value X J (plainGet_of hg).1 (PySem.W.findObj_own hh ha rfl (by rw[hl,hv])) hv' h
def Ek{pl:Sem Bool}{Q:Vn×List Vn->Vo->Prop}(X:K.In s.heap)(I:zE s.heap x dx C mA)(hg:plainGet K C name=true)
  (hf:findIn K (.ref C) name=some (some (.ref f))) (ht:isFn K (.ref f)=true) (hv:mA name=none) (h:Q (.ref f,[.ref x]) s):
  wpAny (model prog w) A (getMethod (.ref x) name pl) Q E s:=by
 obtain⟨od,J,hl⟩:=I.look;exact PySem.W.method_fn X J (plainGet_of hg).1 (plainGet_of hg).2 hf (QP.mp ht) (by show(lookIn name od).map (·.isSome)=some false;rw[hl,hv];rfl) h
def FB{ns:List Str}{Q:Unit->Vo->Prop}(X:K.In s.heap)(I:zE s.heap x dx C mA)
  (hs:findIn K (.ref C) "__setattr__" = some (some (.builtin "object.__setattr__"))) (hp:plainOver K C=true) (ht:takerIn K C name=some none) (hh:hasDictIn K C=true)
  (hw:PySem.Within mA ns) (hsz:ns.length<=sizeLine)
  (h:∀h',zE h' x dx C (λy=>if y=name then some v else mA y)->Heap.SameBut dx s.heap h'->Q () {s with heap:=h',toks:=s.toks+2}):
  wpAny (model prog w) A (setAttr (.ref x) name v) Q E s:=by
 obtain⟨od,J,hl⟩:=I.look;refine PySem.W.set_plain X J hs (PySem.W.osa_open (s:={s with toks:=s.toks+1}) (r:=none) X J hp ht λb=>?_);obtain⟨cd,hc,hd'⟩:=PySem.W.any_some hh;have hx:s.heap.get? x=some ⟨.ref C,some dx,.plain,#[]⟩:=I.obj;refine QA (QD (QA (QA (wpAny_loadPart hx (QA (PySem.W.Looks.here (s:={s with toks:=s.toks+1}) (PySem.W.looks_clsIn X hc) ?_))))));rw[hd'];refine QD (a:=some dx) (QA (QD (QA ?_)));refine wpAny_nsSet1 (s:={s with toks:=s.toks+1}) I.ns λh' hn2 hs2=>?_;obtain⟨oD,esD,epD,hoD,hdD,hcD⟩:=hn2.count (PySem.Within.cons name v hw);refine QA (wpAny_lookBehind hoD (by rw[hdD];exact pastItsLine_dict (V5 hcD (by rw[QS];omega))) ?_)
 exact QD (h _ ⟨(hs2.2 _ (W8 I.ne)).trans I.obj,hn2,I.ne⟩ hs2)
def DS{R:Result->Vo->Prop}{vs:List Vn}{kw:List (Str×Vn)}(X:K.In s.heap)(hm:makesIn K C=true)
  (hi:findIn K (.ref C) "__init__" = some (some (.ref f))) (hf:PySem.W.typeIn K (.ref f)=some (.type "function"))
  (h:codeAny (model prog w) (A.under (.builtin "type.__call__" ⟨.ref C::vs,kw⟩)) (.call (.ref f) ⟨.ref (s.heap.objs.size+1)::vs,kw⟩) (PySem.W.InitBack (s.heap.objs.size+1) R)
   {s with heap:=(s.heap.push emptyDict).push (instObj C s.heap.objs.size)}):
  codeAny (model prog w) A (.call (.ref C) ⟨vs,kw⟩) R s:=by
 obtain⟨hh,g,d,t,os⟩:=s;exact PySem.W.make_core (PySem.W.makes_of X hm) (PySem.W.looks_findIn X hi) (λself=>PySem.W.bind_fn X self hf) (.inl rfl) h
end
def kj(f:Str)(v:V):List (Str×V)->List (Str×V)
 |[]=>[(f,v)]
 | (g,x)::r=>if g=f then(g,v)::r else(g,x)::kj f v r
theorem nE(f g:Str)(v:V):∀fs:List (Str×V),(kj f v fs).lookup g=if g=f then some v else fs.lookup g
 |[]=>by
  show List.lookup g [(f,v)]=_;by_cases h:g=f
  ·have hb:(g == f)=true:=QP.mpr h;simp only[List.lookup,hb,QH h]
  ·have hb:(g == f)=false:=WN.mpr h;simp only[List.lookup,hb,QI h]
 | (k,x)::r=>by
  have ih:=nE f g v r;rw[show kj f v ((k,x)::r)=(if k=f then(k,v)::r else(k,x)::kj f v r) from rfl];by_cases hk:k=f
  ·rw[QH hk];by_cases h:g=k
   ·have hb:(g == k)=true:=QP.mpr h;simp only[List.lookup,hb,QH (h.trans hk)]
   ·have hb:(g == k)=false:=WN.mpr h;simp only[List.lookup,hb,QI (λe:g=f=>h (e.trans hk.symm))]
  ·rw[QI hk];by_cases h:g=k
   ·have hb:(g == k)=true:=QP.mpr h;simp only[List.lookup,hb,QI (λe:g=f=>hk (h.symm.trans e))]
   ·have hb:(g == k)=false:=WN.mpr h;simp only[List.lookup,hb];exact ih
theorem mZ(f:Str)(v:V):∀fs:List (Str×V),f∈(kj f v fs).map (·.1)/\∀g,g∈fs.map (·.1)->g∈(kj f v fs).map (·.1)
 |[]=>⟨by simp[kj],λg h=>by simp at h⟩
 | (k,x)::r=>by
  obtain⟨i1,i2⟩:=mZ f v r;rw[show kj f v ((k,x)::r)=(if k=f then(k,v)::r else(k,x)::kj f v r) from rfl];by_cases hk:k=f
  ·rw[QH hk];subst hk;exact⟨by simp,λg h=>by simpa using h⟩
  ·rw[QI hk];refine⟨?_,λg h=>?_⟩
   ·rw[Wm];exact V0 _ i1
   ·rw[Wm] at h ⊢;rcases V1.mp h with e|e
    ·exact V1.mpr (.inl e)
    ·exact V0 _ (i2 g e)
theorem nG(f:Str)(v:V):∀fs:List (Str×V),(kj f v fs).length<=fs.length+1
 |[]=>by simp[kj]
 | (k,x)::r=>by
  have ih:=nG f v r;rw[show kj f v ((k,x)::r)=(if k=f then(k,v)::r else(k,x)::kj f v r) from rfl];by_cases hk:k=f
  ·rw[QH hk,QS,QS];omega
  ·rw[QI hk,QS,QS];omega
def RelO.some_of{v:V}{o:Option Vn}(r:RelO (some v) o):∃u,o=some u/\bV v u:=by
 cases o with
 |none=>exact(show False from r).elim
 |some u=>exact⟨u,rfl,r⟩
def RelO.none_of{o:Option Vn}(r:RelO none o):o=none:=by
 cases o with
 |none=>rfl
 |some u=>exact(show False from r).elim
def BR{v:V}{u:Vn}(r:bV v u):handedIn u=true:=by
 cases v with
 |non=>cases (show u=Value.none from r);rfl
 |bl b=>cases (show u=Value.bool b from r);rfl
 |int i=>obtain⟨t,e⟩:=(show ∃t,u=Value.int i t from r);cases e;rfl
 |str x=>obtain⟨t,e⟩:=(show ∃t,u=Value.str x t from r);cases e;rfl
 |byt b=>obtain⟨t,e⟩:=(show ∃t,u=Value.bytes b t from r);cases e;rfl
 |flt b=>obtain⟨t,e⟩:=(show ∃t,u=Value.float b t from r);cases e;rfl
 |ref a=>cases (show u=Value.ref a from r);rfl
 |ty n=>cases (show u=Value.type n from r);rfl
section
variable{P:Vq}{w:Vr}{H H':Hp}{h h':Vs}{a C dx:Vp}{fs fs':List (Str×V)}
def ow(hok:oz P w H h)(e:H a=some (.ins C dx fs)):∃mA,zE h a dx C mA/\(∀f,RelO (fs.lookup f) (mA f))/\PySem.Within mA (fs.map (·.1))/\fs.length<=1000/\H dx=some (.own a):=by
 obtain⟨d,z,ne,ob,mA,n,r,q⟩:=(show du P w H h a (.ins C dx fs) from hok a _ e);exact⟨mA,⟨ob,n,ne⟩,r,q,z,d⟩
end
structure k7(K:Frag)(C:Vp):Prop where
 pg:plainGet K C Str.empty=true
 hd:hasDictIn K C=true
 po:plainOver K C=true
 sa:findIn K (.ref C) "__setattr__" = some (some (.builtin "object.__setattr__"))
def k7.get{K:Frag}{C:Vp}(c:k7 K C)(f:Str):plainGet K C f=true:=c.pg
def cH(K:Frag)(C:Vp)(f:Str):Prop:=findIn K (.ref C) f=some none
def cH.taker{K:Frag}{C:Vp}{f:Str}(n:cH K C f):takerIn K C f=some none:=by
 unfold takerIn;rw[show findIn K (.ref C) f=some none from n];rfl
structure K1(K:Frag)(C:Vp)(m:Str)(f:Vp):Prop where
 at_:findIn K (.ref C) m=some (some (.ref f))
 fn:isFn K (.ref f)=true
 kp:keepIn K (.ref f)=true
section
variable{X:Cx}{pins:List (Vp×Obj)}{σ:St}{H:Hp}{s:Vo}{a C dx:Vp}{fs:List (Str×V)}{f:Str}{v:V}{A:Vv}{E:Vn->Vo->Prop}
def zd{b:Bool}{Q:Vn->Vo->Prop}(I:aH X pins σ H s)(e:H a=some (.ins C dx fs))(c:k7 X.K C)(n:cH X.K C f)(l:fs.lookup f=some v)
  (h:∀u s',aH X pins σ H s'->bV v u->Q u s'):wpAny (model X.prog X.w) A (getAttr (.ref a) f b) Q E s:=by
 obtain⟨mA,O,r,_,_,_⟩:=ow I.hok e;obtain⟨u,hu,ru⟩:=RelO.some_of (v:=v) (o:=mA f) (by rw[<-l];exact r f)
 exact Gz I.kIn O (c.get f) c.hd n hu (BR ru) (h u _ (I.tok _) ru)
def pZ{m:Str}{g:Vp}{pl:Sem Bool}{Q:Vn×List Vn->Vo->Prop}(I:aH X pins σ H s)(e:H a=some (.ins C dx fs))(c:k7 X.K C)(k:K1 X.K C m g)(l:fs.lookup m=none)
  (h:Q (.ref g,[.ref a]) s):wpAny (model X.prog X.w) A (getMethod (.ref a) m pl) Q E s:=by
 obtain⟨mA,O,r,_,_,_⟩:=ow I.hok e;have hn:mA m=none:=RelO.none_of (by rw[<-l];exact r m)
 exact Ek I.kIn O (c.get m) k.at_ k.fn hn h
theorem y8{y:V}{u:Vn}{Q:Unit->Vo->Prop}(I:aH X pins σ H s)(e:H a=some (.ins C dx fs))(c:k7 X.K C)(n:cH X.K C f)(hl:fs.length<1000)(ry:bV y u)
  (h:∀s',aH X pins σ (cD H a (.ins C dx (kj f y fs))) s'->Q () s'):wpAny (model X.prog X.w) A (setAttr (.ref a) f u) Q E s:=by
 obtain⟨mA,O,r,wi,_,ho⟩:=ow I.hok e;have hz:(fs.map (·.1)).length<=sizeLine:=by rw[QG,WC];omega
 refine FB I.kIn O c.sa c.po n.taker c.hd wi hz λh' O' sb=>h _ ?_;have hd:∃o,h'.get? dx=some o:=let ⟨o,_,_,e',_⟩:=O'.ns;⟨o,e'⟩;refine I.write (x:=a) (e:=dx) (by rw[e];exact True.intro) (.inr ho) (λb q hb z=>(sb.2 b hb).trans z) hd ?_
 refine⟨by rw[az O.ne];exact ho,?_,O.ne,O'.obj,_,O'.ns,λg=>?_,λg hg=>?_⟩
 ·have:=nG f y fs;omega
 ·show RelO ((kj f y fs).lookup g) (if g=f then some u else mA g);rw[nE];by_cases q:g=f
  ·rw[QH q,QH q];exact ry
  ·rw[QI q,QI q];exact r g
 ·by_cases q:g=f
  ·rw[q];exact(mZ f y fs).1
  ·refine(mZ f y fs).2 g (wi g λz=>hg ?_);show(if g=f then some u else mA g)=none;rw[QI q];exact z
theorem aH.made(I:aH X pins σ H s):aH X pins σ (cD (cD H s.heap.objs.size (.own (s.heap.objs.size+1))) (s.heap.objs.size+1) (.ins C s.heap.objs.size []))
  {s with heap:=(s.heap.push emptyDict).push (instObj C s.heap.objs.size)}:=by
 have e1:(s.heap.push emptyDict).get? s.heap.objs.size=some emptyDict:=QT s.heap rfl;have e2:((s.heap.push emptyDict).push (instObj C s.heap.objs.size)).get? (s.heap.objs.size+1)=some (instObj C s.heap.objs.size):=by
  have:=QT (s.heap.push emptyDict) (o:=instObj C s.heap.objs.size) rfl;rwa[ZL] at this
 have e3:(s.heap.push emptyDict).Ns s.heap.objs.size (λ_=>none):=⟨emptyDict,#[],_,e1,rfl,(λe he=>absurd he (by simp)),λ_=>rfl⟩
 have I1:=I.laid (a:=s.heap.objs.size) (o:=.own (s.heap.objs.size+1)) (h':=s.heap.push emptyDict) (t':=s.toks) (λb u q=>QF _ q) (QO _) ⟨_,e1⟩;refine I1.laid (a:=s.heap.objs.size+1) (o:=.ins C s.heap.objs.size []) (t':=s.toks) (λb u q=>QF _ q) (Ym (ZL _ _)) ?_;have ne:s.heap.objs.size≠s.heap.objs.size+1:=V7 (Wz _);refine⟨by rw[az ne,aQ],VA _,ne,e2,λ_=>none,(Heap.Ns1.of_empty e3).at λo q=>QF _ q,λ_=>True.intro,λy hy=>absurd rfl hy⟩
def GX{prog:Vq}{w:Vr}{env:Env}{e:Vt}{f:Str}{pos:Pos}{s:Vo}{Q:Vn->Vo->Prop}(hb:attributeBase e f env (eval e env)=eval e env)
  (h:wpAny (model prog w) A (eval e env) (λo s₁=>wpAny (model prog w) A (getAttr o f true) Q E s₁) E s):wpAny (model prog w) A (eval (.Attribute e f pos) env) Q E s:=
 Attribute_any_ h (by rw[arm_eval_Attribute,hb])
end
def LS(K:Frag)(ta:TE)(f:Str):TE:=λσ H Q=>ta σ H λx H1=>∃a C dx fs v,x=.ref a/\H1 a=some (.ins C dx fs)/\k7 K C/\cH K C f/\fs.lookup f=some v/\Q v H1
def LY(K:Frag)(ta tv:TE)(f:Str):TS:=λD σ H=>tv σ H λy H1=>ta σ H1 λx H2=>∃a C dx fs,x=.ref a/\H2 a=some (.ins C dx fs)/\k7 K C/\cH K C f/\fs.length<1000/\
 D.nx σ (cD H2 a (.ins C dx (kj f y fs)))
section
variable{X:Cx}{o e value:Vt}{f:Str}{pos pos' tpos:Pos}{ta tv:TE}
def IH(he:PE X e ta)(hb:attributeBase e f X.env (eval e X.env)=eval e X.env):PE X (.Attribute e f pos) (LS X.K ta f):=by
 intro pins s σ H Q I h;refine GX hb (dy (he pins s σ H _ I h) λu s1 t'=>?_);obtain⟨x,H1,I1,rx,a,C,dx,fs,v,ex,ea,c,n,l,q⟩:=t';subst ex;obtain rfl:u=Value.ref a:=rx;exact zd I1 ea c n l λu' s2 I2 ru=>⟨v,H1,I2,ru,q⟩
def Iy(ha:PE X o ta)(hv:PE X value tv)(hs:swapsWith value (some (.Attribute o f pos')) pos.line X.env=pure false):PS X (.Assign [.Attribute o f pos'] value pos) (LY X.K ta tv f):=by
 intro pins s σ H D I h;refine plainObj_wpAny_Assign_Attribute (dy (hv pins s σ H _ I h) λu s1 ⟨y,H1,I1,ry,q⟩=>dy (ha pins s1 σ H1 _ I1 q) λov s2 t'=>?_) hs;obtain⟨x,H2,I2,rx,a,C,dx,fs,ex,ea,c,n,l,q2⟩:=t';subst ex;obtain rfl:ov=Value.ref a:=rx;exact y8 I2 ea c n l ry λs3 I3=>⟨σ,_,I3,q2⟩
end
section
variable{X:Cx}{pins:List (Vp×Obj)}{σ:St}{H:Hp}{s:Vo}{A:Vv}{E:Vn->Vo->Prop}{Q:Vn->Vo->Prop}{c:Vn}{b:Bool}
inductive lO(K:Frag)(H:Hp):V->Vn->Prop where
 |non:lO K H .non (.type "NoneType")
 |bl (x:Bool):lO K H (.bl x) (.type "bool")
 |int (i:Int):lO K H (.int i) (.type "int")
 |str (x:Str):lO K H (.str x) (.type "str")
 |flt (x:UInt64):lO K H (.flt x) (.type "float")
 |lst {a:Vp} {xs:List V} (e:H a=some (.lst xs)):lO K H (.ref a) (.type "list")
 |frz {a:Vp} {o:Obj} {xs:List V} (e:H a=some (.frz o (.lst xs))):lO K H (.ref a) (.type "list")
 |tup {a:Vp} {xs:List V} (e:H a=some (.tup xs)):lO K H (.ref a) (.type "tuple")
 |dK {a:Vp} {kvs:List (Key×V)} (e:H a=some (.dK kvs)):lO K H (.ref a) (.type "dict")
 |dT {a:Vp} {kvs:List (List Key×V)} (e:H a=some (.dT kvs)):lO K H (.ref a) (.type "dict")
 |ins {a C dx:Vp} {fs:List (Str×V)} (e:H a=some (.ins C dx fs)) (cl:k7 K C) (ha:findIn K (.ref C) "__class__" = some (some (.builtin "object.__class__")))
   (hn:specialIn K (.builtin "object.__class__") "__get__" = some (some (.builtin "getset_descriptor.__get__"))) (htk:PySem.W.takesIn K (.builtin "object.__class__")=some true)
   (hm:PySem.W.mroIn K C (.type "object")=some true):lO K H (.ref a) (.ref C)
def BM{x:V}{u t:Vn}(I:aH X pins σ H s)(rx:bV x u)(ty:lO X.K H x t)(e:kitOne X.K t c=some b)(h:∀tk,Q (.bool b) {s with toks:=tk}):
  wpAny (model X.prog X.w) A (call (.builtin "isinstance") [u,c]) Q E s:=by
 cases ty with
 |non=>cases (show u=Value.none from rx);exact Z1 PySem.W.kitx_none I.kIn True.intro e (λz=>nomatch z) h
 |bl y=>cases (show u=Value.bool y from rx);exact Z1 PySem.W.kitx_bool I.kIn True.intro e (λz=>nomatch z) h
 |int i=>obtain⟨t,q⟩:=(show ∃t,u=Value.int i t from rx);cases q;exact Z1 PySem.W.kitx_int I.kIn True.intro e (λz=>nomatch z) h
 |str y=>obtain⟨t,q⟩:=(show ∃t,u=Value.str y t from rx);cases q;exact Z1 PySem.W.kitx_str I.kIn True.intro e (λz=>nomatch z) h
 |flt y=>obtain⟨t,q⟩:=(show ∃t,u=Value.float y t from rx);cases q;exact Z1 PySem.W.kitx_float I.kIn True.intro e (λz=>nomatch z) h
 |@lst a xs ea=>
  cases (show u=Value.ref a from rx);obtain⟨_,_,n,_,h1⟩:=(show du X.prog X.w H s.heap a (.lst xs) from I.hok a _ ea);exact Z1 kitx_list I.kIn ⟨_,h1,rfl⟩ e (λz=>nomatch z) h
 |@frz a ob xs ea=>
  cases (show u=Value.ref a from rx);obtain⟨_,_,_,n,_,h1⟩:=(show du X.prog X.w H s.heap a (.frz ob (.lst xs)) from I.hok a _ ea);exact Z1 kitx_list I.kIn ⟨_,h1,rfl⟩ e (λz=>nomatch z) h
 |@tup a xs ea=>
  cases (show u=Value.ref a from rx);obtain⟨_,_,_,p⟩:=(show du X.prog X.w H s.heap a (.tup xs) from I.hok a _ ea);obtain⟨o,h1,h2,_⟩:=p;exact Z1 PySem.W.kitx_tuple I.kIn ⟨o,h1,h2⟩ e (λz=>nomatch z) h
 |@dK a kvs ea=>
  cases (show u=Value.ref a from rx);obtain⟨_,_,vs,_,p⟩:=(show du X.prog X.w H s.heap a (.dK kvs) from I.hok a _ ea);obtain⟨o,es,ep,h1,h2,_⟩:=p;exact Z1 kitx_dict I.kIn ⟨o,h1,h2.1⟩ e (λz=>nomatch z) h
 |@dT a kvs ea=>
  cases (show u=Value.ref a from rx);obtain⟨_,_,xs,_,o,es,ep,h1,h2,_⟩:=(show du X.prog X.w H s.heap a (.dT kvs) from I.hok a _ ea);exact Z1 kitx_dict I.kIn ⟨o,h1,h2.1⟩ e (λz=>nomatch z) h
 |@ins a C dx fs ea cl ha hn htk hm=>
  cases (show u=Value.ref a from rx);obtain⟨mA,O,_⟩:=ow I.hok ea;obtain⟨od,J,_⟩:=O.look;exact Z1 (PySem.W.kitx_own (cl.get _) cl.hd ha hn htk hm) I.kIn J e (λz=>nomatch z) h
end
structure cJ(k:Nat)(A:Vv):Prop where
 hd:A.handled=none
 dp:A.depth+3 * k+5<recursionLimit
 un:A.units+16 * k+200<cLine
def cJ.mono{j k:Nat}{A:Vv}(r:cJ k A)(h:j<=k):cJ j A:=⟨r.hd,by have:=r.dp;omega,by have:=r.un;omega⟩
theorem cJ.deeper{k:Nat}{A:Vv}(r:cJ (k+1) A)(env:Env):cJ k (A.deeper env):=
 ⟨r.hd,by have:=r.dp;show A.depth+1+3 * k+5<_;omega,by have:=r.un;show A.units+3+16 * k+200<_;omega⟩
def yK{A:Vv}{C:Vp}{us:List Vn}{kw:List (Str×Vn)}:(A.under (.builtin "type.__call__" ⟨.ref C::us,kw⟩)).depth=A.depth+1:=by
 first|rfl|simp[Around.under,Code.weight,Code.isCreation,Code.isGuard,Code.isCaller,Code.frames,Code.isFrame,guardIds]
def yJ{A:Vv}{C:Vp}{us:List Vn}{kw:List (Str×Vn)}:(A.under (.builtin "type.__call__" ⟨.ref C::us,kw⟩)).units=A.units+1:=by
 first|rfl|simp[Around.under,Code.cUnits,Code.frames,Code.isFrame]
def cJ.make{k:Nat}{A:Vv}(r:cJ (k+1) A)(C:Vp)(us:List Vn)(kw:List (Str×Vn)):cJ k (A.under (.builtin "type.__call__" ⟨.ref C::us,kw⟩)):=
 ⟨r.hd,by have:=r.dp;rw[yK];omega,by have:=r.un;rw[yJ];omega⟩
theorem cJ.depth{k:Nat}{A:Vv}(r:cJ k A):A.depth<recursionLimit:=by have:=r.dp;omega
theorem cJ.units{k:Nat}{A:Vv}(r:cJ k A):A.units+64<cLine:=by have:=r.un;omega
def Fn:TA:=λ_ H Q=>Q [] H
def CU(ta:TE)(tr:TA):TA:=λσ H Q=>ta σ H λx H1=>tr σ H1 λxs H2=>Q (x::xs) H2
section
variable{X:Cx}{e:Vt}{es:List Vt}{te:TE}{t:TA}{pos:Pos}
def dW:PA X [] Fn:=λ_ _ _ _ H Q I h=>Calls.spliced_nil ⟨[],H,I,.nil,h⟩
def cA(ha:PE X e te)(hr:PA X es t)(hs:starEach (e::es) X.env=(false,eval e X.env)::starEach es X.env:=by rfl):PA X (e::es) (CU te t):=by
 intro pos pins s σ H Q I h;rw[hs];show wpAny _ _ (spliced ((false,eval e X.env)::backTo pos (starEach es X.env))) _ _ s;refine Calls.spliced_cons (dy (ha pins s σ H _ I h) λu s1 t'=>?_);obtain⟨x,H1,I1,r1,q1⟩:=t';exact dy (hr pos pins s1 σ H1 _ I1 q1) λus s2 ⟨xs,H2,I2,r2,q2⟩=>⟨x::xs,H2,I2,.cons r1 r2,q2⟩
def LH(t:TA):TE:=λσ H Q=>t σ H λxs H1=>xs.length<=sizeLine/\∀p,H1 p=none->Q (.ref p) (cD H1 p (.tup xs))
def LN(t:TA):TE:=λσ H Q=>t σ H λxs H1=>xs.length<=sizeLine/\∀p,H1 p=none->Q (.ref p) (cD H1 p (.lst xs))
def IB{x1}(h:PA X es t):PE X (.Tuple es x1 pos) (LH t):=by
 intro pins s σ H Q I hq;refine wpAny_Tuple_spliced (dy (h pos pins s σ H _ I hq) λus s1 ⟨xs,H1,I1,r,z,q⟩=>⟨by rw[<-r.length];exact z,?_⟩)
 have hf:H1 s1.heap.objs.size=none:=I1.hok.fresh (QO _);refine⟨.ref s1.heap.objs.size,cD H1 s1.heap.objs.size (.tup xs),I1.laid (t':=s1.toks) (λb u e=>QF _ e) (QO _) ?_,rfl,q _ hf⟩;exact⟨z,us,r,⟨_,QT _ rfl,rfl,_,rfl⟩⟩
def IG(h:PA X es t):PE X (.List es pos) (LN t):=by
 intro pins s σ H Q I hq;refine wpAny_List_spliced (dy (h pos pins s σ H _ I hq) λus s1 ⟨xs,H1,I1,r,z,q⟩=>⟨by rw[<-r.length];exact z,?_⟩)
 have hf:H1 s1.heap.objs.size=none:=I1.hok.fresh (QO _);refine⟨.ref s1.heap.objs.size,cD H1 s1.heap.objs.size (.lst xs),I1.laid (t':=s1.toks) (λb u e=>QF _ e) (QO _) ?_,rfl,q _ hf⟩;exact⟨z,us,0,r,QT _ rfl⟩
end
abbrev Sp:=List V->Hp->VK->XK->Prop
abbrev Cv:=List Env->Hp->Vo->XK->Vn->Vo->Prop
structure zG(P:Vq)(w:Vr)(K:Frag)(mg:Str->Option Vn)(base:Vs)(A:Vv)(outer:List Env)(s:Vo)(H:Hp):Prop where
 frames:A.frames=some outer
 mod:Mod K mg base
 bs:∀b o,base.get? b=some o->s.heap.get? b=some o/\H b=none
 bsz:base.objs.size<=s.heap.objs.size
 funs:s.heap.FunFrames base outer
 frf:∀b∈frs outer,H b=none
 hok:oz P w H s.heap
 bare:AllBare s.gens
def CE(outer:List Env)(P:Vq)(w:Vr)(H:Hp)(s:Vo)(Q:VK)(u:Vn)(s':Vo):Prop:=
 ∃v H',s'.os=s.os/\AllBare s'.gens/\Un (frs outer) [] H H' s.heap s'.heap/\oz P w H' s'.heap/\bV v u/\Q v H'
def CR(CX:Cv)(outer:List Env)(P:Vq)(w:Vr)(H:Hp)(s:Vo)(Q:VK)(E:XK)(r:Result)(s':Vo):Prop:=
 match r with
 |.ok (.ret u)=>CE outer P w H s Q u s'
 |.ok _=>False
 |.error e=>CX outer H s E e s'
structure gf(P:Vq)(w:Vr)(K:Frag)(mg:Str->Option Vn)(base:Vs)(CX:Cv)(k:Nat)(f:Vp)(fd:FuncData)(ps:List Str)(sp:Sp):Prop where
 len:∀vs H Q E,sp vs H Q E->vs.length=ps.length
 run:∀(A:Vv)(outer:List Env)(s:Vo)(H:Hp)(args:Args)(us:List Vn)(vs:List V)(Q:VK)(E:XK),cJ k A->zG P w K mg base A outer s H->BindsTo s fd args (ps.zip us)->Vals vs us->sp vs H Q E->
  codeAny (model P w) A (.call (.ref f) args) (CR CX outer P w H s Q E) s
def gf.imp{P:Vq}{w:Vr}{K:Frag}{mg:Str->Option Vn}{base:Vs}{CX:Cv}{k:Nat}{f:Vp}{fd:FuncData}{ps:List Str}{sp sp':Sp}(F:gf P w K mg base CX k f fd ps sp)
  (h:∀vs H Q E,sp' vs H Q E->sp vs H Q E):gf P w K mg base CX k f fd ps sp':=
 ⟨λvs H Q E q=>F.len vs H Q E (h _ _ _ _ q),λA outer s H args us vs Q E hr he hb hv hs=>F.run A outer s H args us vs Q E hr he hb hv (h _ _ _ _ hs)⟩
def zG.make{P:Vq}{w:Vr}{K:Frag}{mg:Str->Option Vn}{base:Vs}{A:Vv}{outer:List Env}{s:Vo}{H:Hp}(e:zG P w K mg base A outer s H)(C:Vp)(us:List Vn)(kw:List (Str×Vn)):
  zG P w K mg base (A.under (.builtin "type.__call__" ⟨.ref C::us,kw⟩)) outer s H:=⟨by first|exact e.frames|(simpa [Around.under,Code.envs,Code.isFrame,pushEnvs] using e.frames),e.mod,e.bs,e.bsz,e.funs,e.frf,e.hok,e.bare⟩
section
variable{X:Cx}{pins:List (Vp×Obj)}{σ:St}{H:Hp}{s s':Vo}
def aH.env0(I:aH X pins σ H s):zG X.prog X.w X.K X.mg X.base X.A X.stack s H:=
 ⟨I.ok.frames,I.ok.mod,I.bs,V5 I.ok.bsz I.sz,I.stack,I.stkFree,I.hok,I.bare⟩
theorem aH.after{Q:VK}{u:Vn}(I:aH X pins σ H s)(h:CE X.stack X.prog X.w H s Q u s'):EP X pins σ Q u s':=by
 obtain⟨v,H',os,bare,un,hok,r,q⟩:=h;obtain⟨hh,g,d,t,os'⟩:=s';obtain rfl:os'=s.os:=os;exact⟨v,H',I.call (h':=hh) (g':=g) (d':=d) (t':=t) (ch:=[]) un hok bare (λb z=>absurd z (by simp)),r,q⟩
end
def Hg(sp:Sp)(dvs:List V)(E:XK)(t:TA):TE:=λσ H Q=>t σ H λvs H1=>sp (vs++dvs) H1 Q E
def Hf(C:Vp)(sp:Sp)(dvs:List V)(E:XK)(t:TA):TE:=λσ H Q=>t σ H λvs H1=>∀x dx,H1 x=none->H1 dx=none->dx≠x->
 sp (.ref x::(vs++dvs)) (cD (cD H1 dx (.own x)) x (.ins C dx [])) (λv H2=>v=.non/\Q (.ref x) H2) E
def g0(K:Frag)(fd:FuncData)(ps:List Str)(ds:List Vn):Prop:=
 ∀(s:Vo)(us:List Vn),K.In s.heap->(us++ds).length=ps.length->BindsTo s fd ⟨us,[]⟩ (ps.zip (us++ds))
def g0.all{K:Frag}{fd:FuncData}{ps:List Str}(h:∀us:List Vn,us.length=ps.length->bindArgs fd ⟨us,[]⟩=pure (ps.zip us)):g0 K fd ps []:=λs us _ hl=>by
 rw[Vz] at hl ⊢;exact .of_eq (h us hl)
def ny(CX:Cv)(X:Cx)(E:XK):Prop:=∀(pins:List (Vp×Obj))(σ:St)(H:Hp)(s:Vo)(e:Vn)(s':Vo),aH X pins σ H s->CX X.stack H s E e s'->X.xe e s'
section
variable{X:Cx}{CX:Cv}{k:Nat}{f C:Vp}{fd:FuncData}{ps:List Str}{sp:Sp}{dvs:List V}{ds:List Vn}{E:XK}{x m:Str}{p pos apos:Pos}{e o:Vt}{es:List Vt}{ta:TE}{t:TA}
theorem u5{pins:List (Vp×Obj)}{σ:St}{H:Hp}{s:Vo}{Q:VK}{us:List Vn}{vs:List V}(F:gf X.prog X.w X.K X.mg X.base CX k f fd ps sp)(hr:cJ k X.A)(hb:g0 X.K fd ps ds)(hd:Vals dvs ds)(hx:ny CX X E)
  (I:aH X pins σ H s) (r:Vals vs us) (h:sp (vs++dvs) H Q E):wpAny (model X.prog X.w) X.A (call (.ref f) us) (EP X pins σ Q) X.xe s:=by
 have r2:Vals (vs++dvs) (us++ds):=r.append hd;have hl:(us++ds).length=ps.length:=by rw[<-r2.length];exact F.len _ _ _ _ h
 refine wpAny_call (WD (F.run X.A X.stack s H ⟨us,[]⟩ (us++ds) (vs++dvs) Q E hr I.env0 (hb s us I.kIn hl) r2 h) λr s' hq=>?_);cases r with
 |error e=>exact hx pins σ H s e s' I hq
 |ok fl=>
  cases fl with
  |ret u=>exact I.after hq
  |next=>exact False.elim hq
  |brk=>exact False.elim hq
  |cont=>exact False.elim hq
def A3(F:gf X.prog X.w X.K X.mg X.base CX k f fd ps sp)(hr:cJ k X.A)(hg:Gl X x)(hm:X.mg x=some (.ref f))(hk:keepIn X.K (.ref f)=true)(hb:g0 X.K fd ps ds)(hd:Vals dvs ds)(hx:ny CX X E)
  (ha:PA X (e::es) t) (hdb:(x == ("__debug__":Str))=false:=by decide) (he:starEach (e::es) X.env=(false,eval e X.env)::starEach es X.env:=by rfl) (hpl:(backTo pos (starEach es X.env)).any (·.1)=false:=by rfl):
  PE X (.Call (.Name x p) (e::es) [] pos) (Hg sp dvs E t):=by
 intro pins s σ H Q I h;refine Zn (ou I hg hm ?_ hdb);refine callWith_K (h₀:=X.base) I.ok.mod.kin hk (dy (ha pos pins s σ H _ I h) λus s1 ⟨vs,H1,I1,r,q⟩=>⟨I1.kIn,?_⟩) he hpl;exact u5 F hr hb hd hx I1 r q
structure Mk(K:Frag)(C f:Vp):Prop where
 makes:makesIn K C=true
 init:findIn K (.ref C) "__init__" = some (some (.ref f))
 fn:isFn K (.ref f)=true
 kp:keepIn K (.ref C)=true
theorem vR{pins:List (Vp×Obj)}{σ:St}{H:Hp}{s:Vo}{Q:VK}{us:List Vn}{vs:List V}(M:Mk X.K C f)(F:gf X.prog X.w X.K X.mg X.base CX k f fd ps sp)(hr:cJ (k+1) X.A)(hb:g0 X.K fd ps ds)(hd:Vals dvs ds)
  (hx:ny CX X E) (I:aH X pins σ H s) (r:Vals vs us)
  (h:∀x dx,H x=none->H dx=none->dx≠x->sp (.ref x::(vs++dvs)) (cD (cD H dx (.own x)) x (.ins C dx [])) (λv H2=>v=.non/\Q (.ref x) H2) E):
  wpAny (model X.prog X.w) X.A (call (.ref C) us) (EP X pins σ Q) X.xe s:=by
 have hq:=h (s.heap.objs.size+1) s.heap.objs.size (I.hok.fresh (le_succ _)) (I.hok.fresh (QO _)) (V7 (Wz _));have I2:=aH.made (C:=C) I;have r2:Vals (V.ref (s.heap.objs.size+1)::(vs++dvs)) (Value.ref (s.heap.objs.size+1)::(us++ds)):=.cons rfl (r.append hd);have hl:(Value.ref (s.heap.objs.size+1)::us++ds).length=ps.length:=by
  have e:=r2.length;rw[F.len _ _ _ _ hq] at e;exact e.symm
 refine wpAny_call (DS (f:=f) I.kIn M.makes M.init (QP.mp M.fn) (WD (F.run _ X.stack _ _ ⟨Value.ref (s.heap.objs.size+1)::us,[]⟩ (Value.ref (s.heap.objs.size+1)::(us++ds)) _ _ E (hr.make C us [])
  (I2.env0.make C us []) (hb _ (Value.ref (s.heap.objs.size+1)::us) I2.kIn hl) r2 hq) λr s' hq'=>?_))
 cases r with
 |error e=>exact hx pins σ _ _ e s' I2 hq'
 |ok fl=>
  cases fl with
  |ret u=>
   obtain⟨v,H',I3,rv,ev,q3⟩:=I2.after hq';subst ev;exact⟨rv,⟨V.ref (s.heap.objs.size+1),H',I3,rfl,q3⟩⟩
  |next=>exact False.elim hq'
  |brk=>exact False.elim hq'
  |cont=>exact False.elim hq'
def FV(M:Mk X.K C f)(F:gf X.prog X.w X.K X.mg X.base CX k f fd ps sp)(hr:cJ (k+1) X.A)(hg:Gl X x)(hm:X.mg x=some (.ref C))(hb:g0 X.K fd ps ds)(hd:Vals dvs ds)(hx:ny CX X E)
  (ha:PA X (e::es) t) (hdb:(x == ("__debug__":Str))=false:=by decide) (he:starEach (e::es) X.env=(false,eval e X.env)::starEach es X.env:=by rfl) (hpl:(backTo pos (starEach es X.env)).any (·.1)=false:=by rfl):
  PE X (.Call (.Name x p) (e::es) [] pos) (Hf C sp dvs E t):=by
 intro pins s σ H Q I h;refine Zn (ou I hg hm ?_ hdb);refine callWith_K (h₀:=X.base) I.ok.mod.kin M.kp (dy (ha pos pins s σ H _ I h) λus s1 ⟨vs,H1,I1,r,q⟩=>⟨I1.kIn,?_⟩) he hpl;exact vR M F hr hb hd hx I1 r q
def Dl(M:Mk X.K C f)(F:gf X.prog X.w X.K X.mg X.base CX k f fd ps sp)(hr:cJ (k+1) X.A)(hg:Gl X x)(hm:X.mg x=some (.ref C))(hb:g0 X.K fd ps ds)(hd:Vals dvs ds)(hx:ny CX X E)
  (hdb:(x == ("__debug__":Str))=false:=by decide):PE X (.Call (.Name x p) [] [] pos) (Hf C sp dvs E Fn):=by
 intro pins s σ H Q I h;refine Zn (ou I hg hm ?_ hdb);exact PySem.W.callWith_K0 I.kIn M.kp (vR (us:=[]) M F hr hb hd hx I .nil h)
end
structure av(N P:List Str)(sc:Scope):Prop where
 kind:sc.kind=.function
 co:sc.isCoroutine=false
 gen:sc.isGenerator=false
 nd:N.Nodup
 pre:N.take P.length=P
 par:∀x∈P,sc.names.lookup x=some .local\/sc.names.lookup x=some .cell
 nofree:∀y∈sc.names,y.2≠.free
theorem sI{kindOf:Str->Option NameKind}{x:Str}:∀{binds:List (Str×Vn)}{m:Str->Option Vn},(∀v,(x,v)∉binds)->bindL kindOf binds m x=m x
 |[],_,_=>rfl
 | (n,v)::r,m,h=>by
  unfold bindL;rw[sI λw hw=>h w (V0 _ hw)];split
  ·have:x≠n:=by rintro rfl;exact h v VF
   simp[this]
  ·rfl
theorem sL{kindOf:Str->Option NameKind}{x:Str}:∀{binds:List (Str×Vn)}{m:Str->Option Vn},(∀v,(x,v)∉binds)->bindC kindOf binds m x=m x
 |[],_,_=>rfl
 | (n,v)::r,m,h=>by
  unfold bindC;rw[sL λw hw=>h w (V0 _ hw)];split
  ·rfl
  ·have:x≠n:=by rintro rfl;exact h v VF
   simp[this]
theorem sJ{kindOf:Str->Option NameKind}{x:Str}{v:Vn}:∀{P:List Str}{vs:List Vn}{i:Nat}{m:Str->Option Vn},P.Nodup->P[i]?=some x->vs[i]?=some v->kindOf x=some .local->
  bindL kindOf (P.zip vs) m x=some v
 |[],_,_,_,_,h,_,_=>by simp at h
 |_::_,[],_,_,_,_,h,_=>by simp at h
 |p::P,w::vs,0,m,nd,h1,h2,hk=>by
  simp at h1 h2;subst h1;subst h2;show bindL kindOf ((p,w)::P.zip vs) m p=_;unfold bindL;rw[sI λv hv=>(YR.mp nd).1 (YV hv).1,QH hk];simp
 |p::P,w::vs,i+1,m,nd,h1,h2,hk=>by
  show bindL kindOf ((p,w)::P.zip vs) m x=_;unfold bindL;exact sJ (i:=i) (YR.mp nd).2 (by simpa using h1) (by simpa using h2) hk
theorem sM{kindOf:Str->Option NameKind}{x:Str}{v:Vn}:∀{P:List Str}{vs:List Vn}{i:Nat}{m:Str->Option Vn},P.Nodup->P[i]?=some x->vs[i]?=some v->kindOf x≠some .local->
  bindC kindOf (P.zip vs) m x=some v
 |[],_,_,_,_,h,_,_=>by simp at h
 |_::_,[],_,_,_,_,h,_=>by simp at h
 |p::P,w::vs,0,m,nd,h1,h2,hk=>by
  simp at h1 h2;subst h1;subst h2;show bindC kindOf ((p,w)::P.zip vs) m p=_;unfold bindC;rw[sL λv hv=>(YR.mp nd).1 (YV hv).1,QI hk];simp
 |p::P,w::vs,i+1,m,nd,h1,h2,hk=>by
  show bindC kindOf ((p,w)::P.zip vs) m x=_;unfold bindC;exact sM (i:=i) (YR.mp nd).2 (by simpa using h1) (by simpa using h2) hk
def start(N:List Str)(vs:List V):St:=vs.map some++replicate (N.length - vs.length) none
def qm(CX:Cv)(P:Vq)(w:Vr)(K:Frag)(mg:Str->Option Vn)(base:Vs)(N:List Str)(qual:Str)(scope:Scope)(f:Vp)(cd:Vn)(A:Vv)(outer:List Env)(s:Vo)(H:Hp)(E:XK):Cx where
 prog:=P
 w:=w
 K:=K
 mg:=mg
 base:=base
 A:=A.deeper (envOfC qual scope s.heap.objs.size f cd)
 N:=N
 s₀:=s
 H₀:=H
 env:=envOfC qual scope s.heap.objs.size f cd
 outer:=outer
 stack:=envOfC qual scope s.heap.objs.size f cd::outer
 ex:=[]
 calm:=true
 fn:=λ_=>true
 pn:=[]
 xe:=λe s'=>wpAny (model P w) (A.deeper (envOfC qual scope s.heap.objs.size f cd)) (leaving (envOfC qual scope s.heap.objs.size f cd) e) (λ_ s''=>CX outer H s E e s'') (λe' s''=>CX outer H s E e' s'') s'
def xD{sc:Scope}{n:Nat}{x:Str}(h:sc.names.lookup x=some .cell):∃c,(cellsFrom n sc.names []).lookup x=some c:=by
 have q:=PySem.W.cellsFrom_some sc.names n [] (.inl h);exact Xq.mp q
theorem BN{CX:Cv}{P:Vq}{w:Vr}{K:Frag}{mg:Str->Option Vn}{base:Vs}{N ps:List Str}{qual:Str}{scope:Scope}{f:Vp}{cd:Vn}{A:Vv}{outer:List Env}{s s1:Vo}{H:Hp}{E:XK}{us:List Vn}{vs:List V}
  (S:av N ps scope) (hd:A.handled=none) (e0:zG P w K mg base A outer s H) (hl:vs.length=ps.length) (r:Vals vs us)
  (x:InCallC s s.heap.objs.size (bindL (envOfC qual scope s.heap.objs.size f cd).kindOf (ps.zip us) λ_=>none) (cellsFrom (s.heap.objs.size+1) scope.names []) (bindC (envOfC qual scope s.heap.objs.size f cd).kindOf (ps.zip us) λ_=>none) s1):
  aH (qm CX P w K mg base N qual scope f cd A outer s H E) [] (start N vs) H s1:=by
 have hpl:ps.length<=N.length:=by have:=Wh List.length S.pre;rw[We] at this;omega
 obtain⟨h1,tk,rfl,hk⟩:=x.done;have noA:∀b:Vp,b∉(qm CX P w K mg base N qual scope f cd A outer s H E).ex:=λb z=>absurd (show b∈([]:List Vp) from z) (by simp)
 refine⟨⟨e0.mod,S.kind,rfl,rfl,QO _,λy z c h1 h2=>?_,λy hy=>?_,λy c _ h=>?_,λ_=>hd,Around.frames_deeper e0.frames,.inr ⟨rfl,rfl⟩,λb z=>absurd z (noA b),e0.bs,e0.bsz,λb _ _=>noA b,λb z=>absurd z (noA b),e0.funs,e0.frf⟩,
  rfl,e0.bare,Un.kept hk,⟨_,x.toInCall.ns,λi y v h1 h2 h3=>?_⟩,λy c h=>⟨_,x.cell y c h⟩,e0.hok.fresh (QO _),λy c h=>?_,λp hp=>absurd (show p∈([]:List (Vp×Obj)) from hp) (by simp),e0.hok.kept hk,?_⟩
 ·exact name_of_addr x.apart (WO h1) (WO h2)
 ·have hy:scope.names.lookup y=some .cell\/scope.names.lookup y=some .free:=hy;rcases hy with hy|hy
  ·exact xD hy
  ·exact absurd rfl (S.nofree _ (WO hy))
 ·exact W7 (x.above y c (WO h))
 ·have hi:i<vs.length:=by
   unfold start at h2;by_cases hi:i<vs.length
   ·exact hi
   ·rw[VR (by simpa using hi)] at h2
    rw[ZU] at h2;split at h2 <;> cases h2
  have ha:vs[i]?=some v:=by
   unfold start at h2;rw[VV (by simpa using hi),Vy] at h2
   cases e:vs[i]? with
   |none=>rw[e] at h2;cases h2
   |some a=>rw[e] at h2;cases h2;rfl
  obtain⟨u,hu,rv⟩:=r.get ha;have hp:ps[i]?=some y:=by
   rw[<-S.pre,ZP (by omega)];exact h1
  have ndP:ps.Nodup:=by rw[<-S.pre];exact S.nd.sublist (Xc _ _)
  refine⟨u,rv,?_⟩;rcases S.par y (ZF hp) with k|k
  ·exact .inl ⟨k,sJ ndP hp hu k⟩
  ·obtain⟨c,e⟩:=xD (n:=s.heap.objs.size+1) k;refine .inr ⟨.inl k,c,e,?_⟩;have q:=x.cell y c e;rw[sM ndP hp hu (by show scope.names.lookup y≠_;rw[k];decide)] at q
   exact q
 ·exact e0.hok.fresh (W7 (x.above y c (WO h)))
 ·unfold start;show _=N.length;rw[QE,QG,Zp];omega
theorem La{CX:Cv}{P:Vq}{w:Vr}{K:Frag}{mg:Str->Option Vn}{base:Vs}{k:Nat}{f:Vp}{name qual:Str}{params:Arguments}{body:List Vu}{scope:Scope}{dV kV doc pm cdv ct oc:Vn}{an od:Option Vp}
  {osl:Array (Option Vn)} {N ps:List Str} {sp:Sp} (lk:K.lookup f=some ⟨oc,od,.func (fnOf name qual params body scope dV kV doc pm an cdv ct),osl⟩) (hcd:codeIn K cdv qual=true) (S:av N ps scope)
  (len:∀vs H Q E,sp vs H Q E->vs.length=ps.length)
  (hbody:∀(A:Vv)(outer:List Env)(s:Vo)(H:Hp)(vs:List V)(Q:VK)(E:XK),cJ k (A.deeper (envOfC qual scope s.heap.objs.size f cdv))->sp vs H Q E->
   ∃t,qz (qm CX P w K mg base N qual scope f cdv A outer s H E) body t/\t {nx:=λ_ H'=>Q .non H',rt:=Q} (start N vs) H):
  gf P w K mg base CX (k+1) f (fnOf name qual params body scope dV kV doc pm an cdv ct) ps sp:=by
 refine⟨len,λA outer s H args us vs Q E hr e0 hb r hsp=>?_⟩;have hl:=len _ _ _ _ hsp;have KX:K.In s.heap:=e0.mod.kin.keeps λb o e=>(e0.bs b o e).1;have lim:s.heap.NoLimit:=e0.mod.nolimit.keeps λb o e=>(e0.bs b o e).1;have hkind:∀y∈ps.zip us,scope.names.lookup y.1=some .local\/(scope.names.lookup y.1=some .cell/\((cellsFrom (s.heap.objs.size+1) scope.names []).lookup y.1).isSome=true):=λ⟨n,v⟩ hy=>by
  rcases S.par n (YV hy).1 with q|q
  ·exact .inl q
  ·exact .inr ⟨q,PySem.W.cellsFrom_some _ _ _ (.inl q)⟩
 refine codeAny_call_function hr.depth (KX _ _ lk) rfl S.co S.gen rfl (PySem.W.codeRec_of KX hcd) (hb _ _ _ _ ?_);refine wpAny_newFunctionEnv_cells S.kind hkind λenv he s1 x=>?_;subst he;refine⟨lim.keeps x.toInCall.keep,codeAny_func ?_⟩;obtain⟨t,ht,hq⟩:=hbody A outer s H vs Q E (hr.deeper _) hsp;have I:aH (qm CX P w K mg base N qual scope f cdv A outer s H E) [] (start N vs) H s1:=BN S hr.hd e0 hl r x;refine Z3 (ht [] s1 (start N vs) H _ I hq) (λfl s' hs=>?_) λe s' hs=>hs;have fin:∀{σ':St}{H':Hp}{v:V}{u:Vn},aH (qm CX P w K mg base N qual scope f cdv A outer s H E) [] σ' H' s'->bV v u->Q v H'->CE outer P w H s Q u s':=
  λ{σ' H' v u} J rv q=>⟨v,H',J.os,J.bare,J.base,J.hok,rv,q⟩
 cases fl with
 |ret u=>
  obtain⟨v,σ',H',J,rv,q⟩:=hs;exact fin J rv q
 |next=>
  obtain⟨σ',H',J,q⟩:=hs;exact fin (v:=V.non) (u:=Value.none) J rfl q
 |brk=>
  obtain⟨_,_,_,q⟩:=hs;exact False.elim q
 |cont=>
  obtain⟨_,_,_,q⟩:=hs;exact False.elim q
section
variable{X:Cx}{x:Str}{p pos:Pos}{e:Vt}{es:List Vt}{t:TA}{id T:Vw}{r:List V->Hp->VK->Prop}
def MJ(r:List V->Hp->VK->Prop)(t:TA):TE:=λσ H Q=>t σ H λvs H1=>r vs H1 Q
def iP(hc:cI X (.builtin id) r)(hg:Gl X x)(hm:X.mg x=none)(hv:bootBuiltins x=some (.builtin id))(ha:PA X (e::es) t)(hn:x ≠ "__name__" := by decide)(hdb:(x == ("__debug__":Str))=false:=by decide)
  (he:starEach (e::es) X.env=(false,eval e X.env)::starEach es X.env:=by rfl) (hpl:(backTo pos (starEach es X.env)).any (·.1)=false:=by rfl):PE X (.Call (.Name x p) (e::es) [] pos) (MJ r t):=by
 intro pins s σ H Q I h;refine Zn (pT I hg hm hv ?_ hn hdb);exact PyProof.Rows.callWith_builtin1 (dy (ha pos pins s σ H _ I h) λus s1 ⟨vs,H1,I1,r1,q1⟩=>hc pins s1 σ H1 vs us Q I1 r1 q1) he hpl
def gJ(hc:cI X (.type T) r)(hg:Gl X x)(hm:X.mg x=none)(hv:bootBuiltins x=some (.type T))(ha:PA X (e::es) t)(hn:x ≠ "__name__" := by decide)(hdb:(x == ("__debug__":Str))=false:=by decide)
  (he:starEach (e::es) X.env=(false,eval e X.env)::starEach es X.env:=by rfl) (hpl:(backTo pos (starEach es X.env)).any (·.1)=false:=by rfl):PE X (.Call (.Name x p) (e::es) [] pos) (MJ r t):=by
 intro pins s σ H Q I h;refine Zn (pT I hg hm hv ?_ hn hdb);exact Z4 (dy (ha pos pins s σ H _ I h) λus s1 ⟨vs,H1,I1,r1,q1⟩=>hc pins s1 σ H1 vs us Q I1 r1 q1) he hpl
end
end L2
namespace HT
section
open PySem.SeqAt
open PySem.AutoSeq1 (wpAny_loadPart')
open PySem.MeetsSeq PySem.MeetsSeq2 PySem.MeetsSeq3
end
section
variable{prog:Vq}{w:Vr}{A:Vv}{E:Vn->Vo->Prop}{s:Vo}
def cat_tup{t b:Vp}{vs ws:List Vn}{Q:Vn->Vo->Prop}(ht:IsTup s.heap t vs.toArray)(hb:IsTup s.heap b ws.toArray)(hv:vs≠[])
  (h1:ws=[]->Q (.ref t) s) (h2:ws≠[]->Q (.ref s.heap.objs.size) {s with heap:=s.heap.push {cls:=.type "tuple",data:=.seq (vs++ws).toArray}})
  (hsz:vs.length+ws.length<=sizeLine):wpAny (model prog w) A (binaryOp .Add (.ref t) (.ref b)) Q E s:=by
 obtain⟨⟨cls,dd,data,sl⟩,ho,hc,n,hd⟩:=id ht;obtain⟨⟨cls2,dd2,data2,sl2⟩,ho2,hc2,n2,hd2⟩:=id hb;simp only at hc hd hc2 hd2;subst hc hd hc2 hd2;have e:vs.toArray++ws.toArray=(vs++ws).toArray:=by simp
 by_cases hw:ws=[]
 ·exact Xi ⟨_,ho,rfl⟩ ⟨_,ho2,rfl⟩ Xr seq_tuple_add Yd ZV (ZQ _ _)
   (tuple_addW1 t b vs.toArray ws.toArray n n2 dd dd2 sl sl2 (by simpa using hv) (by simp[hw])) ⟨ho,ho2,h1 hw⟩
 ·refine Xi ⟨_,ho,rfl⟩ ⟨_,ho2,rfl⟩ Xr seq_tuple_add Yd ZV (ZQ _ _)
   (tuple_addW2 t b vs.toArray ws.toArray n n2 dd dd2 sl sl2 (by simpa using hv) (by simpa using hw) (by rw[QK,QK];exact hsz)) ⟨ho,ho2,?_⟩
  rw[e];exact h2 hw
noncomputable def sIx(n d:Nat):Option Int->Nat
 |none=>d
 |some v=>if v<0 then(v+(n:Int)).toNat else min v.toNat n
def Ic(n d:Nat)(hd:d<=n)(o:Option Int):sIx n d o<=n:=by
 cases o with
 |none=>exact hd
 |some v=>
  show(if v<0 then(v+(n:Int)).toNat else min v.toNat n)<=n;by_cases hv:v<0
  ·rw[QH hv];omega
  ·rw[QI hv];exact Nat.min_le_right _ _
def clip0(i:Int)(n:Nat):max 0 (min (if i<0 then i+(n:Int) else i) (n:Int))=(((if i<0 then(i+(n:Int)).toNat else min i.toNat n):Nat):Int):=by
 by_cases h:i<0
 ·rw[QH h,QH h,Int.ofNat_toNat,YW (by omega),Int.max_comm]
 ·rw[QI h,QI h];obtain⟨k,rfl⟩:=Int.eq_ofNat_of_zero_le (Ye.mp h);show max 0 (min (k:Int) n)=((min k n:Nat):Int);by_cases c:k<=n
  ·rw[YX c,YW (Int.ofNat_le.mpr c)];exact YN (Zr _)
  ·rw[Nat.min_eq_right (Nat.le_of_not_le c),Int.min_eq_right (Int.ofNat_le.mpr (Nat.le_of_not_le c))];exact YN (Zr _)
def AA(v:Int)(n d:Nat):(if v<0 then max (v+(n:Int)) 0 else min v (n:Int))=((sIx n d (some v):Nat):Int):=by
 rw[show sIx n d (some v)=if v<0 then(v+(n:Int)).toNat else min v.toNat n from rfl,<-clip0];by_cases h:v<0
 ·rw[QH h,QH h,YW (by omega),Int.max_comm]
 ·rw[QI h,QI h,YN (by omega)]
def zB(lo hi:Option Int)(n:Nat):Builtin.Slice.sliceAdjust lo hi 1 (n:Int)=(((sIx n 0 lo:Nat):Int),((sIx n n hi:Nat):Int)):=by
 have h1:¬((1:Int)<0):=by omega
 unfold Builtin.Slice.sliceAdjust;simp only[h1,Zv];refine Prod.ext ?_ ?_
 ·cases lo with
  |none=>rfl
  |some v=>exact AA v n 0
 ·cases hi with
  |none=>rfl
  |some v=>exact AA v n n
def yh(i j:Nat):Builtin.Slice.slicePlaces (i:Int) (j:Int) 1=j - i:=by
 unfold Builtin.Slice.slicePlaces;have h1:(1:Int) > 0:=by omega
 simp only[h1,if_true,Int.ediv_one];split <;> omega
def oP{v:Vn}{o:Option Int}{Q:Option Int->Vo->Prop}(p:IsPart v o)(h:Q o s):wpAny (model prog w) A (Builtin.Slice.slicePartIndex v) Q E s:=by
 cases p with
 |none=>exact slicePart_none h
 |int i t=>exact slicePart_int h
def mP{sl:Vp}{vl vu:Vn}{lo hi:Option Int}{n:Nat}{Q:Int×Int×Nat->Vo->Prop}(hs:s.heap.IsSliceOf sl vl vu .none)(pl:IsPart vl lo)(pu:IsPart vu hi)
  (h:Q (((sIx n 0 lo:Nat):Int),1,sIx n n hi - sIx n 0 lo) s):wpAny (model prog w) A (Builtin.Slice.sliceApplied (.ref sl) (pure (n:Int))) Q E s:=by
 obtain⟨os,hos,hcs,hds⟩:=id hs;unfold Builtin.Slice.sliceApplied Builtin.Slice.sliceFields;refine QA (QA (Wf hos hds (x:=vl) rfl (QA (Wf hos hds (x:=vu) rfl (QA (Wf hos hds (x:=.none) rfl (QD ?_)))))));refine QA (slicePart_none ?_);show wpAny _ _ (if((1:Int) == 0)=true then _ else _) _ _ s;rw[QI (by decide)]
 refine QA (oP pl (QA (oP pu (QA (QD ?_)))));show wpAny _ _ (match Builtin.Slice.sliceAdjust lo hi 1 (n:Int) with|(lo,hi)=>pure (lo,(1:Int),Builtin.Slice.slicePlaces lo hi 1)) _ _ s
 rw[zB lo hi n];show wpAny _ _ (pure (((sIx n 0 lo:Nat):Int),(1:Int),Builtin.Slice.slicePlaces ((sIx n 0 lo:Nat):Int) ((sIx n n hi:Nat):Int) 1)) _ _ s;rw[yh];exact QD h
def Di(xs:Array Vn)(i k:Nat):((List.range k).filterMap λ(m:Nat)=>xs[((i:Int)+(m:Int) * 1).toNat]?).toArray=((xs.toList.drop i).take k).toArray:=by
 have e:(λ(m:Nat)=>xs[((i:Int)+(m:Int) * 1).toNat]?)=λm=>xs[i+m]?:=by
  funext m;have:((i:Int)+(m:Int) * 1).toNat=i+m:=by omega
  rw[this]
 rw[e];have:=pick_run xs i k;rw[List.filterMap_map] at this;have e2:((λx=>xs[x]?) ∘ λx=>i+x)=λm=>xs[i+m]?:=rfl;rw[e2] at this;rw[this]
theorem getItem_tuple_cut{t sl:Vp}{items:Array Vn}{vl vu:Vn}{lo hi:Option Int}{Q:Vn->Vo->Prop}(ht:IsTup s.heap t items)(hs:s.heap.IsSliceOf sl vl vu .none)(pl:IsPart vl lo)(pu:IsPart vu hi)
  (hw:¬(sIx items.size 0 lo=0/\sIx items.size items.size hi=items.size))
  (h:Q (.ref s.heap.objs.size) {s with heap:=s.heap.push {cls:=.type "tuple",data:=.seq ((items.toList.drop (sIx items.size 0 lo)).take (sIx items.size items.size hi - sIx items.size 0 lo)).toArray}})
  (hsz:items.size<=sizeLine):wpAny (model prog w) A (getItem (.ref t) (.ref sl)) Q E s:=by
 have htake:sizeOk (.seq ((items.toList.drop (sIx items.size 0 lo)).take (sIx items.size items.size hi - sIx items.size 0 lo)).toArray):=by
  show((items.toList.drop (sIx items.size 0 lo)).take (sIx items.size items.size hi - sIx items.size 0 lo)).toArray.size<=sizeLine;rw[QK,We,Ws,QL];omega
 have hj:sIx items.size items.size hi<=items.size:=Ic _ _ (QO _) hi;obtain⟨os,hos,hcs,hds⟩:=id hs;have hTs:s.TypeIs (.ref sl) "slice" := ⟨os,hos,hcs⟩;unfold getItem
 try with_reducible refine Wt ?_
 first|refine QA (QD ?_)|skip
 refine QA (wpAny_sequenceKey ht.typeIs (by decide) ?_)
 refine QA (VU (name:=Str.ofString "__getitem__") ht.typeIs Zo
  (VD Zo ht.typeIs entry_tuple_getitem ?_ (args_tuple_getitem _ _)))
 show wpAny _ _ (Builtin.Tuple.tupleItemsOf (.ref t) >>= _) _ _ s;refine QA (tupleItemsOf_ ht ?_);refine QA (wpAny_typeOf hTs ?_);rw[QH (by decide)]
 refine QA (mP hs pl pu ?_);have hno:¬((((sIx items.size 0 lo:Nat):Int) == 0 && (1:Int) == 1 && (sIx items.size items.size hi - sIx items.size 0 lo) == items.size)=true):=by
  intro q;rw[VJ,VJ] at q;have q1:((sIx items.size 0 lo:Nat):Int)=0:=WE q.1.1;have q2:sIx items.size items.size hi - sIx items.size 0 lo=items.size:=WE q.2;exact hw ⟨by omega,by omega⟩
 show wpAny _ _ (if(((sIx items.size 0 lo:Nat):Int) == 0 && (1:Int) == 1 && (sIx items.size items.size hi - sIx items.size 0 lo) == items.size)=true then _ else _) _ _ s;rw[QI hno,Di]
 first
  |exact QA (m:=Builtin.Tuple.tupleExact _) (VE (QD ⟨_,rfl,QD h⟩) htake)
  |exact QA (m:=Builtin.Tuple.tupleExact _) (VE (QA (QD (QD ⟨_,rfl,QD h⟩))) htake)
  |exact QA (QA (m:=Builtin.Tuple.tupleExact _) (VE (QD (QD ⟨_,rfl,QD h⟩)) htake))
  |exact QA (QA (m:=Builtin.Tuple.tupleExact _) (VE (QD ⟨_,rfl,QD h⟩) htake))
end
end HT
namespace L2
abbrev TO:=St->Hp->(Option Int->Hp->Prop)->Prop
def PO(X:Cx)(e:Option Vt)(t:TO):Prop:=
 ∀(pins:List (Vp×Obj))(s:Vo)(σ:St)(H:Hp)(Q:Option Int->Hp->Prop),aH X pins σ H s->t σ H Q->
  wpAny (model X.prog X.w) X.A (evalPart e X.env) (λu s'=>∃o H',aH X pins σ H' s'/\IsPart u o/\Q o H') X.xe s
def zK:TO:=λ_ H Q=>Q none H
def He(t:TE):TO:=λσ H Q=>t σ H λx H1=>∃i,x=.int i/\Q (some i) H1
def yV{ns:List Int}:∀{us:List Vn},Vals (ns.map V.int) us->IntsAre us ns:=by
 induction ns with
 |nil=>intro us r;rw[map_nil] at r;cases r;exact .nil
 |cons n ns ih=>
  intro us r;rw[Wm] at r;cases r with
  |cons r1 r2=>
   obtain⟨t,e⟩:=r1;subst e;exact .cons n t (ih r2)
section
variable{X:Cx}{e:Vt}{te:TE}{lo hi:Option Vt}{tl th:TO}{pos p2:Pos}
def FR:PO X none zK:=by
 intro pins s σ H Q I h;rw[evalPart_none];exact QD ⟨none,H,I,.none,h⟩
def FQ(h:PE X e te):PO X (some e) (He te):=by
 intro pins s σ H Q I hw;rw[evalPart_some];refine dy (h pins s σ H _ I hw) λu s1 ⟨x,H1,I1,r1,q1⟩=>?_;obtain⟨i,rfl,q⟩:=q1;obtain⟨t,rfl⟩:=r1;exact⟨some i,H1,I1,.int i t,q⟩
def Lz(X:Cx)(r:V->Option Int->Option Int->Hp->VK->Prop):Prop:=
 ∀(pins:List (Vp×Obj))(s:Vo)(σ:St)(H:Hp)(x:V)(v vl vu:Vn)(lo hi:Option Int)(sl:Vp)(Q:VK),aH X pins σ H s->bV x v->s.heap.IsSliceOf sl vl vu .none->IsPart vl lo->IsPart vu hi->r x lo hi H Q->
  ∃T id,typeLookup (.type T) "__getitem__" = pure (some (.builtin id))/\s.TypeIs v T/\wpAny (model X.prog X.w) X.A (getItem v (.ref sl)) (EP X pins σ Q) X.xe s
def MU(r:V->Option Int->Option Int->Hp->VK->Prop)(te:TE)(tl th:TO):TE:=λσ H Q=>te σ H λx H1=>tl σ H1 λl H2=>th σ H2 λu H3=>r x l u H3 Q
def Dk{r:V->Option Int->Option Int->Hp->VK->Prop}(hr:Lz X r)(he:PE X e te)(hl:PO X lo tl)(hu:PO X hi th):PE X (.Subscript e (.Slice lo hi none p2) pos) (MU r te tl th):=by
 intro pins s σ H Q I h;refine Subscript_ (dy (he pins s σ H _ I h) λv s1 t'=>?_);obtain⟨x,H1,I1,r1,q1⟩:=t';refine wpAny_Slice (dy (hl pins s1 σ H1 _ I1 q1) λvl s2 ⟨l,H2,I2,pl,q2⟩=>dy (hu pins s2 σ H2 _ I2 q2) λvu s3 t'=>?_);obtain⟨u,H3,I3,pu,q3⟩:=t';rw[evalPart_none];refine QD ?_;have I4:aH X pins σ H3 {s3 with heap:=s3.heap.push {cls:=.type "slice",data:=.fields #[vl,vu,.none]}}:=I3.kept (t':=s3.toks) λb ob q=>QF _ q;obtain⟨T,id,hT,ht,hg⟩:=hr pins {s3 with heap:=s3.heap.push {cls:=.type "slice",data:=.fields #[vl,vu,.none]}} σ H3 x v vl vu l u s3.heap.objs.size Q I4 r1 (Heap.IsSliceOf.new ..) pl pu q3;show wpAny (model X.prog X.w) X.A (subscriptTail e (.Slice lo hi none p2) v (.ref s3.heap.objs.size)) (EP X pins σ Q) X.xe {s3 with heap:=s3.heap.push {cls:=.type "slice",data:=.fields #[vl,vu,.none]}};exact tail_any (ops:=[.ref s3.heap.objs.size,v]) ht hT hg (by with_unfolding_all rfl)
def xx(xs:List V)(lo hi:Option Int):List V:=(xs.drop (HT.sIx xs.length 0 lo)).take (HT.sIx xs.length xs.length hi - HT.sIx xs.length 0 lo)
def nH(xs:List V)(lo hi:Option Int):(xx xs lo hi).length<=xs.length:=by
 unfold xx;rw[We,Ws];exact V5 (Nat.min_le_right _ _) (Nat.sub_le _ _)
def M0(K:Frag):V->Option Int->Option Int->Hp->VK->Prop:=λx lo hi H Q=>∃a xs,x=.ref a/\iy K H a xs/\
 ¬(HT.sIx xs.length 0 lo=0/\HT.sIx xs.length xs.length hi=xs.length)/\∀p,H p=none->Q (.ref p) (cD H p (.tup (xx xs lo hi)))
def Ia:Lz X (M0 X.K):=by
 intro pins s σ H x v vl vu lo hi sl Q I rx hs pl pu h;obtain⟨a,xs,rfl,hx,hw,q⟩:=h;cases rx;obtain⟨its,r,ht,hz⟩:=I.tuple hx;have hlen:its.toArray.size=xs.length:=by rw[QK];exact r.length.symm
 refine⟨"tuple",_,Zo.lookup,ht.typeIs,?_⟩;refine HT.getItem_tuple_cut ht hs pl pu (by rw[hlen];exact hw) ?_ (by rw[hlen];exact hz)
 rw[hlen];refine⟨.ref s.heap.objs.size,_,I.laid (t':=s.toks) (o:=.tup (xx xs lo hi)) (λb ob q=>QF _ q) (QO _) ?_,rfl,q _ (I.hok.fresh (QO _))⟩;exact⟨V5 (nH xs lo hi) hz,_,(r.drop (HT.sIx xs.length 0 lo)).take (HT.sIx xs.length xs.length hi - HT.sIx xs.length 0 lo),IsTup.new _ _⟩
def Ku(K:Frag):R2:=λx y H Q=>∃a b xs ys,x=.ref a/\y=.ref b/\iy K H a xs/\iy K H b ys/\xs≠[]/\xs.length+ys.length<=sizeLine/\
 (ys=[]->Q (.ref a) H)/\(ys≠[]->∀p,H p=none->Q (.ref p) (cD H p (.tup (xs++ys))))
def Vals.nil_iff{xs:List V}{us:List Vn}(r:Vals xs us):us=[]↔xs=[]:=by
 cases r with
 |_=>simp
def G6:hU X (binaryOp .Add) (Ku X.K):=by
 intro pins s σ H x y v u Q I rx ry h;obtain⟨a,b,xs,ys,rfl,rfl,ha,hb,hx,hz,q1,q2⟩:=h;cases rx;cases ry;obtain⟨its,r1,p1,_⟩:=I.tuple ha;obtain⟨its2,r2,p2,_⟩:=I.tuple hb;refine HT.cat_tup p1 p2 (λz=>hx (r1.nil_iff.mp z)) (λz=>⟨.ref a,H,I,rfl,q1 (r2.nil_iff.mp z)⟩) (λz=>?_) (by rw[<-r1.length,<-r2.length];exact hz)
 refine⟨.ref s.heap.objs.size,_,I.laid (t':=s.toks) (o:=.tup (xs++ys)) (λb ob q=>QF _ q) (QO _) ?_,rfl,q2 (λw=>z (r2.nil_iff.mpr w)) _ (I.hok.fresh (QO _))⟩;exact⟨by rw[QE];exact hz,_,r1.append r2,IsTup.new _ _⟩
end
def KW(n:Nat)(i:Int):Option Nat:=if 0<=i then(if i<n then some i.toNat else none) else if -(n:Int)<=i then some (i+n).toNat else none
def JU{α:Type}(xs:List α)(i:Int):Option α:=(KW xs.length i).bind λj=>xs[j]?
def Gx{n:Nat}{i:Int}{j:Nat}(h:KW n i=some j):seqIndex? i n=some j/\j<n/\-(n:Int)<=i/\i<n:=by
 unfold KW at h;by_cases h0:0<=i
 ·rw[QH h0] at h;by_cases h1:i<n
  ·rw[QH h1] at h;have e:i.toNat=j:=VN h;exact⟨by rw[seqIndex_of h0 h1,e],by omega,by omega,h1⟩
  ·rw[QI h1] at h;cases h
 ·rw[QI h0] at h;by_cases h1:-(n:Int)<=i
  ·rw[QH h1] at h;have e:(i+n).toNat=j:=VN h;exact⟨by rw[seqIndex_neg (by omega) h1,e],by omega,h1,by omega⟩
  ·rw[QI h1] at h;cases h
def vc{α:Type}{xs:List α}{i:Int}{v:α}(h:JU xs i=some v):∃j,seqIndex? i xs.length=some j/\xs[j]?=some v/\j<xs.length/\-(xs.length:Int)<=i/\i<xs.length:=by
 unfold JU at h;cases e:KW xs.length i with
 |none=>rw[e] at h;cases h
 |some j=>
  rw[e] at h;obtain⟨h1,h2,h3,h4⟩:=Gx e;exact⟨j,h1,h,h2,h3,h4⟩
def AH(b:Vt):Prop:=∀o i,subscripted b false o i=operate [o,i] (getItem o i)
def Ka(X:Cx)(r:R2):Prop:=
 ∀(value slice:Vt)(pins:List (Vp×Obj))(s:Vo)(σ:St)(H:Hp)(x y:V)(v u:Vn)(Q:VK),aH X pins σ H s->bV x v->bV y u->r x y H Q->
  subscripted slice false v u=operate [v,u] (getItem v u)->wpAny (model X.prog X.w) X.A (subscriptTail value slice v u) (EP X pins σ Q) X.xe s
def K0(X:Cx)(id:Vw)(r:V->List V->Hp->VK->Prop):Prop:=
 ∀(pins:List (Vp×Obj))(s:Vo)(σ:St)(H:Hp)(x:V)(xs:List V)(v:Vn)(us:List Vn)(Q:VK),aH X pins σ H s->bV x v->Vals xs us->r x xs H Q->
  wpAny (model X.prog X.w) X.A (call (.builtin id) (v::us)) (EP X pins σ Q) X.xe s
section
variable{X:Cx}{a b:Vt}{ta tb:TE}{pos:Pos}
def K0.or{id:Vw}{r r':V->List V->Hp->VK->Prop}(h:K0 X id r)(h':K0 X id r'):K0 X id (λx xs H Q=>r x xs H Q\/r' x xs H Q):=by
 intro pins s σ H x xs v us Q I rx rs q;rcases q with q|q
 ·exact h pins s σ H x xs v us Q I rx rs q
 ·exact h' pins s σ H x xs v us Q I rx rs q
def KA{r:R2}(hr:Ka X r)(ha:PE X a ta)(hb:PE X b tb)(hs:AH b):PE X (.Subscript a b pos) (Kg r ta tb):=by
 intro pins s σ H Q I h;exact Subscript_ (JP ha hb I h λv u s2 x y H2 I2 rx ry q=>hr a b pins s2 σ H2 x y v u Q I2 rx ry q (hs _ _))
def M6(K:Frag):R2:=λx y H Q=>∃p xs i v,x=.ref p/\y=.int i/\iA K H p xs/\JU xs i=some v/\Q v H
def M4(K:Frag):R2:=λx y H Q=>∃p xs i v,x=.ref p/\y=.int i/\iy K H p xs/\JU xs i=some v/\Q v H
def M5:R2:=λx y H Q=>∃z i c,x=.str z/\y=.int i/\z.length<=sizeLine/\JU z.cps.toList i=some c/\Q (.str ⟨#[c]⟩) H
def Gv:Ka X (M6 X.K):=by
 intro value slice pins s σ H x y v u Q I rx ry h hs;obtain⟨p,xs,i,z,rfl,rfl,hq,he,q⟩:=h;cases rx;obtain⟨t,rfl⟩:=ry;obtain⟨its,r,pl,hz⟩:=I.list hq;obtain⟨j,h1,h2,h3,h4,h5⟩:=vc he;obtain⟨w,ew,rw'⟩:=r.get h2;have hl:=r.length;have hn:=mX;have fin:EP X pins σ Q w s:=⟨z,H,I,rw',q⟩;by_cases h0:0<=i
 ·have hj:i.toNat=j:=by
   rw[seqIndex_of h0 h5] at h1;exact VN h1
  exact item_listR pl.isList h0 (by omega) (by rw[hj];simpa using ew) fin hs
 ·have hj:(i+(its.toArray.size:Int)).toNat=j:=by
   rw[seqIndex_neg (by omega) h4] at h1
   rw[QK,<-hl];exact VN h1
  exact subscriptTail_builtinR (x:=w) pl.isList.typeIs slot_list_getitem.lookup
   (wpAny_getItem_list_neg (Q:=λr s'=>r=w/\EP X pins σ Q r s') pl.isList (by omega) (by rw[QK] <;> omega) (by omega) (by rw[hj];simpa using ew) ⟨rfl,fin⟩) hs
def ix_tup:Ka X (M4 X.K):=by
 intro value slice pins s σ H x y v u Q I rx ry h hs;obtain⟨p,xs,i,z,rfl,rfl,hq,he,q⟩:=h;cases rx;obtain⟨t,rfl⟩:=ry;obtain⟨its,r,pl,hz⟩:=I.tuple hq;obtain⟨j,h1,h2,h3,h4,h5⟩:=vc he;obtain⟨w,ew,rw'⟩:=r.get h2;have hl:=r.length;have hn:=mX;have fin:EP X pins σ Q w s:=⟨z,H,I,rw',q⟩;exact subscriptTail_builtinR (x:=w) pl.typeIs slot_tuple_getitem.lookup
  (getItem_tuple (j:=j) (Q:=λr s'=>r=w/\EP X pins σ Q r s') pl (by omega) (by omega) (by rw[QK,<-hl];exact h1) (by simpa using ew) ⟨rfl,fin⟩) hs
def Jp:Ka X M5:=by
 intro value slice pins s σ H x y v u Q I rx ry h hs;obtain⟨z,i,c,rfl,rfl,hz,he,q⟩:=h;obtain⟨t,rfl⟩:=rx;obtain⟨t',rfl⟩:=ry;obtain⟨j,h1,h2,h3,h4,h5⟩:=vc he;have hl:z.cps.toList.length=z.length:=by simp[Str.length]
 rw[hl] at h1 h4 h5;have hn:=mX;exact tail_any (typeIs_str s z t) slot_str_getitem.lookup (getItem_str (c:=c) (by
  have e1:decide (i < -(2 ^ 63:Int))=false:=QY (by omega)
  have e2:decide (i ≥ 2 ^ 63)=false:=QY (by omega)
  rw[e1,e2,WT]) (by rw[h1];simpa using h2) ⟨.str ⟨#[c]⟩,H,I.tok _,⟨_,rfl⟩,q⟩) hs
def tR(lo hi:Option Int)(n:Nat):(sliceBounds lo hi none n).1=((HT.sIx n 0 lo:Nat):Int)/\(sliceBounds lo hi none n).2.1=((HT.sIx n n hi:Nat):Int)/\(sliceBounds lo hi none n).2.2=1:=by
 refine⟨?_,?_,rfl⟩
 ·cases lo with
  |none=>rfl
  |some i=>exact HT.clip0 i n
 ·cases hi with
  |none=>rfl
  |some i=>exact HT.clip0 i n
def qS(its:List Vn)(lo hi:Option Int):slicePick its.toArray lo hi none=((its.drop (HT.sIx its.length 0 lo)).take (HT.sIx its.length its.length hi - HT.sIx its.length 0 lo)).toArray:=by
 obtain⟨h1,h2,h3⟩:=tR lo hi its.toArray.size;unfold slicePick;rw[h1,h2,h3];simp only[sliceRange_one,pick_run,QK] <;> rfl
def M1(K:Frag):V->Option Int->Option Int->Hp->VK->Prop:=λx lo hi H Q=>∃a xs,x=.ref a/\iA K H a xs/\∀p,H p=none->Q (.ref p) (cD H p (.lst (xx xs lo hi)))
def Fw:Lz X (M1 X.K):=by
 intro pins s σ H x v vl vu lo hi sl Q I rx hs pl pu h;obtain⟨a,xs,rfl,hx,q⟩:=h;cases rx;obtain⟨its,r,ht,hz⟩:=I.list hx;have hlen:=r.length;refine⟨"list",_,slot_list_getitem.lookup,ht.isList.typeIs,?_⟩;refine wpAny_getItem_list_slice ht.isList hs pl pu .none (by simp) ?_ (by rw[QK] <;> omega)
 rw[qS,<-hlen];refine⟨.ref s.heap.objs.size,_,I.laid (t':=s.toks) (o:=.lst (xx xs lo hi)) (λb ob q=>QF _ q) (QO _) ?_,rfl,q _ (I.hok.fresh (QO _))⟩;exact⟨V5 (nH xs lo hi) hz,_,0,(r.drop (HT.sIx xs.length 0 lo)).take (HT.sIx xs.length xs.length hi - HT.sIx xs.length 0 lo),QT _ rfl⟩
def lC:V->Bool
 |.non=>true
 |.bl _=>true
 |.int _=>true
 |.str _=>true
 |_=>false
def F1:V->V->Bool
 |.non,.non=>true
 |.bl a,.bl b=>a == b
 |.bl a,.int b=>(if a then 1 else 0) == b
 |.int a,.bl b=>a == (if b then 1 else 0)
 |.int a,.int b=>a == b
 |.str a,.str b=>a == b
 |_,_=>false
def JB{A:Vv}{s:Vo}{y x:V}{u v:Vn}(ry:bV y u)(rx:bV x v)(fy:lC y=true)(fx:lC x=true):SeqAt.EqAt A s u v (F1 y x):=by
 cases y with
 |non=>
  cases ry;cases x with
  |non=>cases rx;exact SeqAt.EqAt.same _
  |bl b=>cases rx;exact SeqAt.EqAt.none_bool b
  |int b=>obtain⟨t,rfl⟩:=rx;exact SeqAt.EqAt.none_int b t
  |str b=>obtain⟨t,rfl⟩:=rx;exact SeqAt.EqAt.none_str b t
  |_=>exact absurd (show false=true from fx) QC
 |bl a=>
  cases ry;cases x with
  |non=>cases rx;exact SeqAt.EqAt.bool_none a
  |bl b=>cases rx;exact SeqAt.EqAt.bool_bool a b
  |int b=>obtain⟨t,rfl⟩:=rx;exact SeqAt.EqAt.bool_int a b t
  |str b=>obtain⟨t,rfl⟩:=rx;exact SeqAt.EqAt.bool_str a b t
  |_=>exact absurd (show false=true from fx) QC
 |int a=>
  obtain⟨t',rfl⟩:=ry;cases x with
  |non=>cases rx;exact SeqAt.EqAt.int_none a t'
  |bl b=>cases rx;exact SeqAt.EqAt.int_bool a t' b
  |int b=>obtain⟨t,rfl⟩:=rx;exact SeqAt.EqAt.int_int a t' b t
  |str b=>obtain⟨t,rfl⟩:=rx;exact SeqAt.EqAt.int_str a t' b t
  |_=>exact absurd (show false=true from fx) QC
 |str a=>
  obtain⟨t',rfl⟩:=ry;cases x with
  |non=>cases rx;exact SeqAt.EqAt.str_none a t'
  |bl b=>cases rx;exact SeqAt.EqAt.str_bool a t' b
  |int b=>obtain⟨t,rfl⟩:=rx;exact SeqAt.EqAt.str_int a t' b t
  |str b=>obtain⟨t,rfl⟩:=rx;exact SeqAt.EqAt.str_str a t' b t
  |_=>exact absurd (show false=true from fx) QC
 |_=>exact absurd (show false=true from fy) QC
def GE(x:V)(u:Vn):Bool:=match u with
 |.none=>F1 .non x
 |.bool b=>F1 (.bl b) x
 |.int i _=>F1 (.int i) x
 |.str z _=>F1 (.str z) x
 |_=>false
def Ey{x y:V}{u:Vn}(r:bV y u)(f:lC y=true):GE x u=F1 y x:=by
 cases y with
 |non=>cases r;rfl
 |bl b=>cases r;rfl
 |int i=>obtain⟨t,rfl⟩:=r;rfl
 |str z=>obtain⟨t,rfl⟩:=r;rfl
 |_=>exact absurd (show false=true from f) QC
theorem vf{x:V}:∀{xs:List V}{us:List Vn},Vals xs us->xs.all lC=true->us.any (GE x)=xs.any λy=>F1 y x
 |_,_,.nil,_=>rfl
 |y::xs,u::us,.cons r t,f=>by
  rw[ZR,VJ] at f;rw[Ze,Ze,Ey r f.1,vf t f.2]
theorem pP{A:Vv}{s:Vo}{x:V}{v:Vn}(rx:bV x v)(fx:lC x=true):∀{xs:List V}{us:List Vn},Vals xs us->xs.all lC=true->∀u∈us,SeqAt.EqAt A s u v (GE x u)
 |_,_,.nil,_=>λu hu=>by cases hu
 |y::xs,u::us,.cons r t,f=>λu' hu=>by
  rw[ZR,VJ] at f;rcases V1.mp hu with rfl|hu
  ·rw[Ey r f.1];exact JB r rx f.1 fx
  ·exact pP rx fx t f.2 u' hu
def Lv(x:V)(xs:List V):Bool:=xs.any λy=>F1 y x
def M7(K:Frag)(neg:Bool):R2:=λx y H Q=>∃p xs,y=.ref p/\(iA K H p xs\/iy K H p xs)/\lC x=true/\xs.all lC=true/\Q (.bl (if neg then !Lv x xs else Lv x xs)) H
def Bm:hU X (compareOp .In) (M7 X.K false):=by
 intro pins s σ H x y v u Q I rx ry h;obtain⟨p,xs,rfl,hq,fx,fs,q⟩:=h;cases ry;rcases hq with hq|hq
 ·obtain⟨its,r,pl,hz⟩:=I.list hq;refine SeqAt.in_listAt (GE x) pl.isList (λw hw=>pP rx fx r fs w (by simpa using hw)) ⟨.bl _,H,I,rfl,?_⟩
  rw[show its.toArray.any (GE x)=its.any (GE x) by simp,vf r fs]
  exact q
 ·obtain⟨its,r,pl,hz⟩:=I.tuple hq;refine SeqAt.in_tupleAt (GE x) pl (λw hw=>pP rx fx r fs w (by simpa using hw)) ⟨.bl _,H,I,rfl,?_⟩
  rw[show its.toArray.any (GE x)=its.any (GE x) by simp,vf r fs]
  exact q
def mC:cI X (.builtin "len") (λxs H Q=>∃p ys,xs=[.ref p]/\(iA X.K H p ys\/iy X.K H p ys)/\Q (.int ys.length) H):=by
 intro pins s σ H xs us Q I r h;obtain⟨p,ys,rfl,hq,q⟩:=h;obtain⟨u,rfl,rx⟩:=gg r;cases rx;have hn:=mX;rcases hq with hq|hq
 ·obtain⟨its,r',pl,hz⟩:=I.list hq;have hlen:=r'.length;exact Calls.call_len_list pl.isList (by simp only[QK] <;> omega) ⟨.int ys.length,H,I.tok _,⟨s.toks+1,by rw[QK,hlen]⟩,q⟩
 ·obtain⟨its,r',pl,hz⟩:=I.tuple hq;have hlen:=r'.length;exact len_tuple pl (by simp only[QK] <;> omega) ⟨.int ys.length,H,I.tok _,⟨s.toks+1,by rw[QK,hlen]⟩,q⟩
def v9:cI X (.builtin "len") (λxs H Q=>∃z,xs=[.str z]/\z.length<=sizeLine/\Q (.int z.length) H):=by
 intro pins s σ H xs us Q I r h;obtain⟨z,rfl,hz,q⟩:=h;obtain⟨u,rfl,t,rfl⟩:=gg r;have hn:=mX;exact len_str (by omega) ⟨.int z.length,H,I.tok _,⟨_,rfl⟩,q⟩
def mB:cI X (.type "list") (λxs H Q=>∃p ys,xs=[.ref p]/\(iA X.K H p ys\/iy X.K H p ys)/\∀l,H l=none->Q (.ref l) (cD H l (.lst ys))):=by
 intro pins s σ H xs us Q I r h;obtain⟨p,ys,rfl,hq,q⟩:=h;obtain⟨u,rfl,rx⟩:=gg r;cases rx;have fin:∀(its:List Vn),Vals ys its->ys.length<=sizeLine->∀(h':Vs)(c':Nat),(∀b o',s.heap.get? b=some o'->h'.get? b=some o')->
   h'.get? s.heap.objs.size=some {cls:=.type "list",dict:=none,data:=.seq its.toArray c',slots:=#[]}->EP X pins σ Q (.ref s.heap.objs.size) {s with heap:=h'}:=λits r' hz h' c' kp e=>
  ⟨.ref s.heap.objs.size,_,I.laid (t':=s.toks) kp (QO _) (show du X.prog X.w _ h' _ (.lst ys) from⟨hz,its,c',r',e⟩),rfl,q _ (I.hok.fresh (QO _))⟩
 rcases hq with hq|hq
 ·obtain⟨its,r',pl,hz⟩:=I.list hq;have hlen:=r'.length;obtain⟨o,ho,hc,n,hd⟩:=pl.isList;exact call_list_seq p (.inl rfl) ho hc hd (λh' c' kp e=>fin its r' hz h' c' kp e) (by simp only[QK] <;> omega)
 ·obtain⟨its,r',pl,hz⟩:=I.tuple hq;have hlen:=r'.length;obtain⟨o,ho,hc,n,hd⟩:=pl;exact call_list_seq p (.inr rfl) ho hc hd (λh' c' kp e=>fin its r' hz h' c' kp e) (by simp only[QK] <;> omega)
def lF:cI X (.type "tuple") (λxs H Q=>∃p ys,xs=[.ref p]/\((iA X.K H p ys/\∀l,H l=none->Q (.ref l) (cD H l (.tup ys)))\/(iy X.K H p ys/\Q (.ref p) H))):=by
 intro pins s σ H xs us Q I r h;obtain⟨p,ys,rfl,h⟩:=h;obtain⟨u,rfl,rx⟩:=gg r;cases rx;rcases h with⟨hq,q⟩|⟨hq,q⟩
 ·obtain⟨its,r',pl,hz⟩:=I.list hq;have hlen:=r'.length;refine call_tuple_list pl.isList (λh' kp=>?_) (by simp only[QK] <;> omega)
  have I1:aH X pins σ H {s with heap:=h'}:=I.kept (t':=s.toks) kp;have I2:aH X pins σ (cD H h'.objs.size (.tup ys)) {s with heap:=h'.push {cls:=.type "tuple",data:=.seq its.toArray}}:=
   I1.laid (t':=s.toks) (λb o e=>QF _ e) (QO _) (show du X.prog X.w _ _ _ (.tup ys) from⟨hz,its,r',IsTup.new _ _⟩)
  exact⟨.ref h'.objs.size,_,I2,rfl,q _ (I1.hok.fresh (QO _))⟩
 ·obtain⟨its,r',pl,hz⟩:=I.tuple hq;exact call_tuple_same pl ⟨.ref p,H,I,rfl,q⟩
def LG(K:Frag)(T:Vw)(x:V)(H:Hp):Prop:=match x with
 |.str _=>T = "str"
 |.int _=>T = "int"
 |.ref p=>(T = "list" /\ ∃xs,iA K H p xs)\/(T = "tuple" /\ ∃o,K.lookup p=some o/\o.cls=.type "tuple" /\ o.dict=none)\/
   (T = "dict" /\ ((∃kvs,H p=some (.dK kvs))\/∃kvs,H p=some (.dT kvs)))\/(T = "set" /\ ∃S n,H p=some (.set S n))
 |_=>False
theorem CJ{pins:List (Vp×Obj)}{σ:St}{H:Hp}{s:Vo}{T:Vw}{x:V}{v:Vn}(I:aH X pins σ H s)(r:bV x v)(ty:LG X.K T x H):
  s.TypeIs v T/\∀a,v=.ref a->∃ob,s.heap.get? a=some ob/\ob.dict=none:=by
 cases x with
 |str z=>
  obtain⟨t,rfl⟩:=r;cases (show T = "str" from ty);exact⟨typeIs_str s z t,λ_ e=>nomatch e⟩
 |int i=>
  obtain⟨t,rfl⟩:=r;cases (show T = "int" from ty);exact⟨typeIs_int s i t,λ_ e=>nomatch e⟩
 |ref p=>
  cases r;rcases ty with⟨rfl,xs,hq⟩|⟨rfl,o,hk,hc,hd⟩|⟨rfl,hk⟩|⟨rfl,S,n,hk⟩
  ·obtain⟨its,_,pl,_⟩:=I.list hq;refine⟨pl.isList.typeIs,λa e=>?_⟩;cases e;obtain⟨o,n,e,c,hd,_⟩:=pl;exact⟨o,e,hd⟩
  ·refine⟨⟨o,I.kIn p o hk,hc⟩,λa e=>?_⟩;cases e;exact⟨o,I.kIn _ o hk,hd⟩
  ·have z:∃o,s.heap.get? p=some o/\o.ExactDict:=by
    rcases hk with⟨kvs,hk⟩|⟨kvs,hk⟩
    ·obtain⟨_,_,_,_,o,_,_,e,ex,_⟩:=I.hok p _ hk;exact⟨o,e,ex⟩
    ·obtain⟨_,_,_,_,o,_,_,e,ex,_⟩:=I.hok p _ hk;exact⟨o,e,ex⟩
   obtain⟨o,e,ex⟩:=z;refine⟨⟨o,e,ex.1⟩,λa e2=>?_⟩;cases e2;exact⟨o,e,ex.2.1⟩
  ·obtain⟨o,_,_,_,e,ex,_⟩:=I.hok p _ hk;refine⟨⟨o,e,ex.1⟩,λa e2=>?_⟩;cases e2;exact⟨o,e,ex.2.1⟩
 |_=>exact False.elim ty
def LU(K:Frag)(T:Vw)(r:V->List V->Hp->VK->Prop)(to:TE):TE:=λσ H Q=>to σ H λx H1=>LG K T x H1/\r x [] H1 Q
def MX(K:Frag)(T:Vw)(r:V->List V->Hp->VK->Prop)(to:TE)(t:TA):TE:=λσ H Q=>to σ H λx H1=>LG K T x H1/\t σ H1 λxs H2=>r x xs H2 Q
variable{o e:Vt}{es:List Vt}{to:TE}{t:TA}{name:Str}{apos cpos:Pos}{T id:Vw}{r:V->List V->Hp->VK->Prop}
def II(pa:PlainAttrs T)(slot:Slot T name id)(hty:typeOf (.builtin id)=pure (.type "method_descriptor"))(hm:K0 X id r)(ho:PE X o to)
  (hbase:attributeBase o name X.env (eval o X.env)=eval o X.env:=by rfl) (hline:(apos.endLine == cpos.line)=true:=by rfl):PE X (.Call (.Attribute o name apos) [] [] cpos) (LU X.K T r to):=by
 intro pins s σ H Q I h;refine wpAny_Call_method0_late hbase hline (dy (ho pins s σ H _ I h) λv s1 ⟨x,H1,I1,r1,ty,q1⟩=>?_);obtain⟨h1,h2⟩:=CJ I1 r1 ty;exact⟨T,id,pa,slot,hty,h1,h2,Calls.callWith_builtin rfl (PySem.evalArgs_none (hm pins s1 σ H1 x [] v [] Q I1 r1 .nil q1))⟩
def Ho(pa:PlainAttrs T)(slot:Slot T name id)(hty:typeOf (.builtin id)=pure (.type "method_descriptor"))(hm:K0 X id r)(ho:PE X o to)(ha:PA X (e::es) t)
  (hbase:attributeBase o name X.env (eval o X.env)=eval o X.env:=by rfl)
  (hfew:((backTo cpos (starEach (e::es) X.env)).all (λx=>!x.1) && (backToKw cpos (keywordEach [] X.env)).all (λx=>x.1.isSome)
   && decide ((e::es).length+([]:List Keyword).length+(if([]:List Keyword).isEmpty then 0 else 1)<30))=true:=by rfl)
  (hline:(apos.endLine == cpos.line)=true:=by rfl) (hs:starEach (e::es) X.env=(false,eval e X.env)::starEach es X.env:=by rfl) (hplain:(backTo cpos (starEach es X.env)).any (·.1)=false:=by rfl):
  PE X (.Call (.Attribute o name apos) (e::es) [] cpos) (MX X.K T r to t):=by
 intro pins s σ H Q I h;refine wpAny_Call_method_late hbase hfew hline rfl (dy (ho pins s σ H _ I h) λv s1 t'=>?_);obtain⟨x,H1,I1,r1,ty,q1⟩:=t';obtain⟨h1,h2⟩:=CJ I1 r1 ty;refine⟨T,id,pa,slot,hty,h1,h2,?_⟩;have hA:=ha cpos pins s1 σ H1 _ I1 q1;rw[hs] at hA ⊢;refine Calls.callWith_builtin (by show(false || (backTo cpos (starEach es X.env)).any (·.1))=false;rw[hplain] <;> rfl) (Calls.evalArgs_plain ?_)
 exact dy hA λus s2 ⟨vs,H2,I2,r2,q2⟩=>hm pins s2 σ H2 x vs v us Q I2 r1 r2 q2
end
def LD(X:Cx)(id:Vw)(r:V->List V->Hp->VK->Prop):Prop:=
 ∀(pins:List (Vp×Obj))(s:Vo)(σ:St)(H:Hp)(x:V)(xs:List V)(v:Vn)(us:List Vn)(Q:VK),aH X pins σ H s->bV x v->Vals xs us->r x xs H Q->
  wpAny (model X.prog X.w) X.A (call (.builtin id) (v::us)) (EP X pins σ Q) X.xe s
theorem Vals.one:∀{x:V}{us:List Vn},Vals [x] us->∃u,us=[u]/\bV x u
 |_,_,.cons r .nil=>⟨_,rfl,r⟩
theorem Vals.zero:∀{us:List Vn},Vals [] us->us=[]
 |_,.nil=>rfl
theorem Vals.reverse{xs:List V}{us:List Vn}(h:Vals xs us):Vals xs.reverse us.reverse:=by
 induction h with
 |nil=>exact .nil
 |cons r t ih=>rw[Xd,Xd];exact Vals.append ih (.cons r .nil)
theorem Vals.rep{xs:List V}{us:List Vn}(h:Vals xs us):∀k:Nat,Vals (replicate k xs).flatten (replicate k us).flatten
 |0=>.nil
 |k+1=>by
  rw[Wg,Wg,VT,VT];exact Vals.append h (Vals.rep h k)
theorem sC(its:List Vn):∀(k:Nat)(acc:List Vn),
  List.foldl (λx1 x2=>x1++x2) acc.toArray (replicate k its.toArray)=(acc++(replicate k its).flatten).toArray
 |0,acc=>by simp
 |k+1,acc=>by
  have e:acc.toArray++its.toArray=(acc++its).toArray:=by simp
  have e2:(acc++its)++(replicate k its).flatten=acc++(replicate (k+1) its).flatten:=by
   rw[Wg,VT,V4]
  rw[<-e2,<-sC its k (acc++its),<-e,Wg,YS]
section
variable{X:Cx}{pins:List (Vp×Obj)}{σ:St}{H:Hp}{s:Vo}{l b:Vp}{xs ys zs:List V}
def aH.lset{its its':List Vn}{n:Nat}{f:Array Vn->Array Vn}{t':Nat}(I:aH X pins σ H s)(hH:H l=some (.lst xs))
  (e:s.heap.get? l=some {cls:=.type "list",data:=.seq its.toArray n}) (hf:f its.toArray=its'.toArray) (hv:Vals ys its') (hz:ys.length<=sizeLine):
  aH X pins σ (cD H l (.lst ys)) {s with heap:=s.heap.update l (Obj.mapSeq f),toks:=t'}:=by
 have q:=PySem.IsL.update e f;rw[hf] at q;refine I.write (x:=l) (e:=l) (by rw[hH];exact trivial) (.inl rfl) (λb' u hb hu=>(Zw s.heap (Obj.mapSeq f) (W8 hb)).trans hu) ⟨_,q⟩ ?_
 exact⟨hz,its',_,hv,q⟩
def aH.lnew{its:List Vn}{t':Nat}(I:aH X pins σ H s)(hv:Vals ys its)(hz:ys.length<=sizeLine):
  aH X pins σ (cD H s.heap.objs.size (.lst ys)) {s with heap:=s.heap.push {cls:=.type "list",data:=.seq its.toArray},toks:=t'}:=
 I.laid (λ_ _ q=>QF _ q) (QO _) ⟨hz,its,0,hv,QT _ rfl⟩
theorem aH.fresh(I:aH X pins σ H s):H s.heap.objs.size=none:=I.hok.fresh (QO _)
def aH.lstM(I:aH X pins σ H s)(hH:H l=some (.lst xs)):xs.length<=sizeLine/\∃(its:List Vn)(n:Nat),Vals xs its/\xs.length=its.length/\s.heap.get? l=some {cls:=.type "list",data:=.seq its.toArray n}:=by
 obtain⟨z,its,n,r,e⟩:=I.hok l _ hH;exact⟨z,its,n,r,r.length,e⟩
theorem pL{n:Nat}(h:n<=sizeLine):Builtin.List.listTooLong n=false:=by
 unfold Builtin.List.listTooLong;exact QY (by omega)
end
section
variable{X:Cx}
def FJ:V->List V->Hp->VK->Prop:=λx vs H Q=>∃l xs y,x=.ref l/\vs=[y]/\H l=some (.lst xs)/\xs.length<sizeLine/\Q .non (cD H l (.lst (xs++[y])))
def sj:LD X "list.append" FJ:=by
 intro pins s σ H x vs v us Q I rx rv h;obtain⟨l,xs,y,rfl,rfl,hH,hz,q⟩:=h;cases rx;obtain⟨u,rfl,ru⟩:=rv.one;obtain⟨z,its,n,r,hl,e⟩:=I.lstM hH;refine Yz F.slot_list_append ⟨_,e,rfl⟩ F.entry_list_append (F.args_list_append_2 _ _) (PySem.list_append l its.toArray n u (by rw[QK];omega)) ⟨e,?_⟩
 refine⟨.non,_,I.lset (its':=its++[u]) hH e (by simp) (r.append (.cons ru .nil)) ?_,rfl,q⟩
 rw[QE,VC];omega
def Il:V->List V->Hp->VK->Prop:=λx vs H Q=>∃l xs,x=.ref l/\vs=[]/\H l=some (.lst xs)/\Q .non (cD H l (.lst []))
def DL:LD X "list.clear" Il:=by
 intro pins s σ H x vs v us Q I rx rv h;obtain⟨l,xs,rfl,rfl,hH,q⟩:=h;cases rx;have hus:=rv.zero;subst hus;obtain⟨z,its,n,r,hl,e⟩:=I.lstM hH;refine Yz F.slot_list_clear ⟨_,e,rfl⟩ F.entry_list_clear (F.args_list_clear_1 _) (AutoSeq1.list_clear_list_0 l its.toArray n (by rw[QK];omega)) ⟨e,?_⟩
 exact⟨.non,_,I.lset (its':=[]) (ys:=[]) hH e rfl .nil (VA _),rfl,q⟩
def M3:R2:=λx y H Q=>∃l k xs,x=.ref l/\y=.int k/\H l=some (.lst xs)/\-(2 ^ 63)<=k/\k<2 ^ 63/\xs.length * k.toNat<=sizeLine/\
 ∀p,H p=none->Q (.ref p) (cD H p (.lst (replicate k.toNat xs).flatten))
def Gq{α:Type}(xs:List α)(k:Nat):(replicate k xs).flatten.length=k * xs.length:=by
 induction k with
 |zero=>simp
 |succ k ih=>rw[Wg,VT,QE,ih,Nat.succ_mul,Nat.add_comm]
def IW:hU X (binaryOp .Mult) M3:=by
 intro pins s σ H x y v u Q I rx ry h;obtain⟨l,k,xs,rfl,rfl,hH,h1,h2,hz,q⟩:=h;cases rx;obtain⟨t,rfl⟩:=ry;obtain⟨z,its,n,r,hl,e⟩:=I.lstM hH;have hlen:its.toArray.size * k.toNat<=sizeLine:=by rw[QK,<-hl];exact hz
 have hcap:¬its.toArray.size * k.toNat > (2 ^ 63 - 1) / 8:=by
  have:(sizeLine:Nat)<=(2 ^ 63 - 1) / 8:=by decide
  omega
 have hfit:¬(!Builtin.List.listFitsIndex k)=true:=by
  rw[fitsIndex_both h1 h2];exact QC
 have hlong:¬Builtin.List.listTooLong (its.toArray.size * k.toNat)=true:=by
  rw[pL hlen];exact QC
 have hnew:List.foldl (λx1 x2=>x1++x2) #[] (replicate (if its.toArray.isEmpty=true then 0 else k.toNat) its.toArray)=(replicate k.toNat its).flatten.toArray:=by
  have f0:∀m:Nat,List.foldl (λx1 x2=>x1++x2) #[] (replicate m its.toArray)=(replicate m its).flatten.toArray:=λm=>by
   have:=sC its m [];rw[YT] at this;exact this
  rw[f0];cases its with
  |nil=>simp
  |cons a r'=>rw[QI (by simp)]
 refine wpAny_binaryOp_repeat_ref (T := "list") (U := "int") (by decide) ⟨_,e,rfl⟩ (λs'=>typeIs_int s' k t) noFill_list_mul F.fills_int_mul F.slot_int_rmul repeat_list F.slot_int_index.lookup
  (Yz F.slot_int_rmul (typeIs_int s k t) F.entry_int_rmul (F.args_int_rmul_2 _ _) (int___rmul___int_list k t l its.toArray n)
   ⟨e,rfl,⟨_,e,rfl⟩,Yz F.slot_list_mul ⟨_,e,rfl⟩ F.entry_list_mul (F.args_list_mul_2 _ _) (AutoListH.list___mul___list_int_3 l its.toArray n k t hfit hcap hlong) ⟨e,?_⟩⟩)
 rw[hnew];exact⟨.ref _,_,I.lnew (t':=s.toks) (r.rep k.toNat) (by rw[Gq,Nat.mul_comm];exact hz),rfl,q _ I.fresh⟩
end
end L2
namespace Att
open PySem PySem.W PySem.Calls PyProof.Rows
def nP{P:Params}{h:Vs}:∀(ns:List Int)(vs:List Vn),WellAll P h vs (ns.map WData.int)->IntsAre vs ns:=by
 intro ns
 induction ns with
 |nil=>
  intro vs w;rw[map_nil] at w;cases w;exact .nil
 |cons n ns ih=>
  intro vs w;rw[Wm] at w;cases w with
  |cons a b=>
   cases a;exact .cons _ _ (ih _ b)
theorem B4{l:OpenLaw}{n:Nat}(hn:l.most=some n){P:Params}{h:Vs}{args:List WData}{vals:List Vn}
  (hpre:l.row.toRowW.claim.pre args=true) (hwl:WellAll P h vals args):
  ∃a vs ns,vals=[Value.ref a]/\args=[WData.list (ns.map WData.int)]/\h.get? a=some {cls:=.type "list",data:=.seq vs.toArray}/\IntsAre vs ns/\ns.length<=n:=by
 have hsh:WShape.hasAll [] args [.list .int]=true:=(pre_splitW hpre).1;have hc:l.pre.holds [] {args:=args}=true:=(pre_splitW hpre).2;obtain⟨d,r,rfl,h1,h2⟩:=hasAllW_cons hsh;obtain rfl:=hasAllW_nil h2;obtain⟨xs,rfl,h3⟩:=hasW_list h1;obtain⟨ns,rfl⟩:=items_int h3;have hlen:ns.length<=n:=by
  unfold OpenLaw.pre at hc;have h4:(WTm.not (.lt (.lit (.int (n:Int))) (.len (.arg 0)))).holds [] {args:=[.list (ns.map .int)]}=true:=by
   have h4:=(holds_andW hc).1;rw[hn] at h4;exact h4
  have h5:=condW_of h4 (w_not (w_lt w_lit (w_len_list (w_arg rfl))));rw[QG] at h5;refine YO λq=>?_;have q':(n:Int)<((ns.length:Nat):Int):=by omega
  first
   | (rw[QV q'] at h5;exact absurd h5 (by decide))
   | (simp at h5;omega)
 cases hwl with
 |cons w1 w2=>
  cases w2;cases w1 with
  |list ho hall=>exact⟨_,_,ns,rfl,rfl,ho,nP ns _ hall,hlen⟩
def Bi(l:OpenLaw)(args:List WData):l.row.toRowW.claim.post args (.bool true) args=true:=
 postW_of (r:=l.row.toRowW) (X:=(true == true))
  (show WShape.has [] (.bool true) .bool=true by first|rfl|decide|simp[WShape.has,WShape.arms,WShape.armsAll])
  (show(WTm.eq .res (.lit (.bool true))).value [] {args:=args,res:=some (.bool true),after:=args}=some (.bool (true == true)) from w_eq_bool (w_res rfl) w_lit) rfl
def attach_call{l:OpenLaw}{n:Nat}{q:Vq}{loose:List Str}{XP:(Str->Option Vn)->Vs->Prop}{YP:Vr->Vs->Prop}{d:DefRec}
  (hn:l.most=some n) (hdf:d.params.defaults=[])
  (call:∀(w:Vr)(s₀ s₁:Vo)(mg mb:Str->Option Vn)(fa:Vp)(o:Obj)(pm cd doc:Vn)(a:Vp)(vs:List Vn)(ns:List Int),
   Ground q loose [] XP w s₀ mg mb s₁.heap->YP w s₁.heap->
   s₁.heap.get? fa=some o->o.data=.func (docDef d.name d.params d.body d.scope pm cd doc)->s₁.heap.CodeRec cd d.name->mg d.name=some (.ref fa)->
   s₁.heap.get? a=some {cls:=.type "list",data:=.seq vs.toArray}->IntsAre vs ns->ns.length<=n->s₁.gens=#[]->
   codeAny (model l.prog w) callerA (.call (.ref fa) ⟨[.ref a],[]⟩) (λr s'=>r=.ok (.ret (.bool true))/\OldK s₁.heap s'.heap/\s'.os=s₁.os/\AllBare s'.gens) s₁):
  WalkO q loose XP YP l.row.toRowW d [] (λf vs=>PySem.call f vs):=by
 intro w s₀ s₁ mg mb G Y fa o pm cd doc dV kV ho hd hcd hD hmg hg args vals as hpre hlay hrd hwl hlo;obtain rfl:dV=.none:=Dflts.none hD hdf;obtain rfl:kV=.none:=Dflts.noKw hD;obtain⟨a,vs,ns,rfl,rfl,hobj,hints,hlen⟩:=B4 hn hpre hwl;refine enter_call (WD (call w s₀ s₁ mg mb fa o pm cd doc a vs ns G Y ho (fd_plain hd) hcd hmg hobj hints hlen hg) λr s' hq=>?_);obtain⟨rfl,h2,h3,h4⟩:=hq;exact⟨.inl ⟨.bool true,.bool true,[],rfl,λ_=>rfl,.bool true,Bi l _,λ_=>⟨List.Pairwise.nil,λ_ hm=>(nomatch hm)⟩⟩,h2,h3,h4⟩
section
variable{prog:Vq}{w:Vr}{A:Vv}{E:Vn->Vo->Prop}{s:Vo}{K:Frag}
def Md(h:Vs)(L d:Vp):List (Vp×Obj):=(List.range h.objs.size).filterMap λa=>if a=L\/a=d then none else(h.get? a).map λo=>(a,o)
end
end Att
namespace L2
theorem rQ:∀{vs:List Vn}{ns:List Int},IntsAre vs ns->Vals (ns.map V.int) vs
 |_,_,.nil=>.nil
 |_,_,.cons n t h=>.cons ⟨t,rfl⟩ (rQ h)
def JZ(H:Hp):Prop:=∀b,H b=none\/∃o xs,H b=some (.frz o (.lst xs))
theorem DY{P:Vq}{w:Vr}{K:Frag}{mg mb:Str->Option Vn}{CX:Cv}{k:Nat}{fa a:Vp}{fd:FuncData}{x:Str}{sp:Sp}{s₁:Vo}{vs:List Vn}{ns:List Int}
  (KX:K.In s₁.heap) (hns:s₁.heap.Ns mainGlobals mg) (hb:s₁.heap.Ns builtinsNs mb) (hbb:∀x:Str,x ≠ "__name__" -> mb x=bootBuiltins x) (hlim:s₁.heap.NoLimit) (hg:s₁.gens=#[])
  (ha:s₁.heap.get? a=some {cls:=.type "list",data:=.seq vs.toArray}) (hi:IntsAre vs ns) (hl:ns.length<=sizeLine) (hr:cJ k callerA)
  (F:∀base:Vs,K.In base->base.Ns mainGlobals mg->gf P w K mg base CX k fa fd [x] sp) (hbind:∀(s:Vo)(u:Vn),BindsTo s fd ⟨[u],[]⟩ [(x,u)])
  (hsp:∀H:Hp,JZ H->iA K H a (ns.map V.int)->sp [.ref a] H (λv _=>v=.bl true) λ_ _ _=>False)
  (hCX:∀H e s',CX [] H s₁ (λ_ _ _=>False) e s'->False):
  codeAny (model P w) callerA (.call (.ref fa) ⟨[.ref a],[]⟩) (λr s'=>r=.ok (.ret (.bool true))/\OldK s₁.heap s'.heap/\s'.os=s₁.os/\AllBare s'.gens) s₁:=by
 have rv:=rQ hi;have lenV:=hi.length;have core:∀H:Hp,JZ H->iA K H a (ns.map V.int)->oz P w H s₁.heap->(∀b,H b≠none->b=a)->(H a≠none->K.lookup a=none)->
   codeAny (model P w) callerA (.call (.ref fa) ⟨[.ref a],[]⟩) (λr s'=>r=.ok (.ret (.bool true))/\OldK s₁.heap s'.heap/\s'.os=s₁.os/\AllBare s'.gens) s₁:=by
  intro H hO hS hok hA hK;have base_of:∀{b:Vp}{o:Obj},s₁.heap.get? b=some o->H b=none->(uQ s₁.heap H).get? b=some o:=λe n=>Eg e n;have noA:∀{b:Vp}{o:Obj}{es:Array DictEntry}{ep:Nat},s₁.heap.get? b=some o->o.data=.dict es ep->H b=none:=λ{b o es ep} e d=>by
   cases q:H b with
   |none=>rfl
   |some u=>
    have e':b=a:=hA b (by rw[q];simp)
    subst e';rw[ha] at e;cases e;have d':Data.seq vs.toArray _=Data.dict es ep:=d;cases d'
  have nsK:∀{b:Vp}{m:Str->Option Vn},s₁.heap.Ns b m->(uQ s₁.heap H).Ns b m:=λ{b m} ⟨o,es,ep,e,d,r⟩=>⟨o,es,ep,base_of e (noA e d),d,r⟩;have hKb:K.In (uQ s₁.heap H):=λb o e=>base_of (KX b o e) (by
   cases q:H b with
   |none=>rfl
   |some u=>
    have e':b=a:=hA b (by rw[q];simp)
    subst e';rw[hK (by rw[q];simp)] at e;cases e)
  have hM:Mod K mg (uQ s₁.heap H):=⟨hKb,nsK hns,⟨mb,nsK hb,hbb⟩,let ⟨mc,h1,h2⟩:=hlim;⟨mc,nsK h1,h2⟩⟩;have e0:zG P w K mg (uQ s₁.heap H) callerA [] s₁ H:=⟨rfl,hM,λb o e=>G9 e,Ym (BQ _ _),trivial,λb hb=>absurd (show b∈([]:List Vp) from hb) (by simp),hok,.of_eq hg⟩
  refine WD ((F _ hKb (nsK hns)).run callerA [] s₁ H ⟨[.ref a],[]⟩ [.ref a] [.ref a] _ _ hr e0 (hbind s₁ (.ref a)) (.cons rfl .nil) (hsp H hO hS)) λr s' h=>?_;cases r with
  |error e=>exact(hCX H e s' h).elim
  |ok fl=>
   cases fl with
   |next=>exact False.elim h
   |brk=>exact False.elim h
   |cont=>exact False.elim h
   |ret u=>
    obtain⟨v,H',os,bare,un,hok',r',q⟩:=h;have q':v=.bl true:=q;subst q';obtain rfl:u=Value.bool true:=r';refine⟨rfl,OldK.of_keep λb o e=>?_,os,bare⟩;cases q:H b with
    |none=>exact un.keep b o e q (by intro z;exact absurd (show b∈([]:List Vp) from z) (by simp)) (by simp)
    |some u=>
     rcases hO b with z|⟨ob,xs,z⟩
     ·rw[q] at z;cases z
     ·have z2:=un.frzs b ob _ z;obtain⟨e1,_⟩:=hok b _ z;obtain⟨e2,_⟩:=hok' b _ z2;rw[e] at e1;cases e1;exact e2
 cases hk:K.lookup a with
 |some o=>
  have e:=KX a o hk;rw[ha] at e;cases e;refine core (λ_=>none) (λ_=>.inl rfl) (.inr ⟨_,vs.toArray,_,hk,rfl,rfl,rfl,by rw[QK,lenV];exact hl,by simpa using rv⟩) (λb u z=>by have z':(none:Option HO)=some u:=z;cases z') (λb z=>absurd rfl z) λz=>absurd rfl z
 |none=>
  refine core (λb=>if b=a then some (.frz {cls:=.type "list",data:=.seq vs.toArray} (.lst (ns.map V.int))) else none) (λb=>?_) (.inl (.inr ⟨{cls:=.type "list",data:=.seq vs.toArray},QH rfl⟩)) (λb u z=>?_) (λb z=>?_) λ_=>hk
  ·by_cases hb:b=a
   ·exact .inr ⟨_,_,QH hb⟩
   ·exact .inl (QI hb)
  ·by_cases hb:b=a
   ·have z':=(QH hb).symm.trans z;cases z';subst hb;exact⟨ha,by rw[QG];exact hl,vs,_,rv,ha⟩
   ·have z':=(QI hb).symm.trans z;cases z'
  ·by_cases hb:b=a
   ·exact hb
   ·exact absurd (QI hb) z
abbrev N4{K:Frag}{h:Vs}(_:K.In h):Frag:=K
def walk_of{l:PySem.W.OpenLaw}{n k:Nat}{q:Vq}{loose:List Str}{XP:(Str->Option Vn)->Vs->Prop}{YP:Vr->Vs->Prop}{d:DefRec}{K:Params->Frag}{CX:Vr->Cv}{sp:Vr->Sp}{x:Str}
  (hn:l.most=some n) (hn2:n<=sizeLine) (hdf:d.params.defaults=[]) (hr:cJ k callerA)
  (hY:∀(w:Vr)(h:Vs),YP w h->(K w.params).In h)
  (F:∀(w:Vr)(mg:Str->Option Vn)(fa:Vp)(h:Vs),(K w.params).In h->h.Ns mainGlobals mg->mg d.name=some (.ref fa)->
   ∃fd:FuncData,(∀(s:Vo)(u:Vn),BindsTo s fd ⟨[u],[]⟩ [(x,u)])/\
    ∀base:Vs,(K w.params).In base->base.Ns mainGlobals mg->gf l.prog w (K w.params) mg base (CX w) k fa fd [x] (sp w))
  (hsp:∀(w:Vr)(H:Hp)(a:Vp)(ns:List Int),ns.length<=n->JZ H->iA (K w.params) H a (ns.map V.int)->sp w [.ref a] H (λv _=>v=.bl true) λ_ _ _=>False)
  (hCX:∀(w:Vr)(H:Hp)(s:Vo)(e:Vn)(s':Vo),CX w [] H s (λ_ _ _=>False) e s'->False):
  PySem.W.WalkO q loose XP YP l.row.toRowW d [] (λf vs=>PySem.call f vs):=by
 refine Att.attach_call hn hdf λw s₀ s₁ mg mb fa o pm cd doc a vs ns G Y ho hd hcd hmg hobj hints hlen hg=>?_;have KX:=hY w _ Y;obtain⟨fd,hb,hF⟩:=F w mg fa _ KX G.T.g hmg;exact DY KX G.T.g G.T.b G.T.builtins G.T.nolimit hg hobj hints (V5 hlen hn2) hr hF hb (λH hO hS=>hsp w H a ns hlen hO hS) λH e s'=>hCX w H s₁ e s'
def cX(s:Vu)(j:Nat):Vu:=match s with
 |.ClassDef _ _ _ body _ _ _ _ _ _ _=>body.getD j (.Pass ⟨0,0,0,0⟩)
 |_=>.Pass ⟨0,0,0,0⟩
def cj(s:Vu):Arguments:=match s with
 |.FunctionDef _ a _ _ _ _ _ _ _ _=>a
 |_=>{posonlyargs:=[],args:=[],vararg:=none,kwonlyargs:=[],kw_defaults:=[],kwarg:=none,defaults:=[]}
def bE(s:Vu):List Vu:=match s with
 |.FunctionDef _ _ b _ _ _ _ _ _ _=>b
 |_=>[]
def ae(s:Vu):Scope:=match s with
 |.FunctionDef _ _ _ _ _ _ sc _ _ _=>sc
 |_=>{kind:=.function,names:=[],isGenerator:=false,isCoroutine:=false}
abbrev qA:Cv:=λ_ _ _ _ _ _=>False
abbrev E0:XK:=λ_ _ _=>False
def pq{X:Cx}:ny qA X E0:=λ_ _ _ _ _ _ _ h=>h.elim
structure Cs(K:Frag)(x qual:Str)(st:Vu)(f:Vp)(fd:FuncData):Prop where
 ex:∃(oc:Vn)(od:Option Vp)(kV doc pm:Vn)(an:Option Vp)(cdv ct:Vn)(osl:Array (Option Vn)),
  fd=fnOf x qual (cj st) (bE st) (ae st) .none kV doc pm an cdv ct/\K.lookup f=some ⟨oc,od,.func fd,osl⟩/\codeIn K cdv qual=true
 kp:keepIn K (.ref f)=true
section
variable{P:Vq}{w:Vr}{K:Frag}{mg:Str->Option Vn}{base:Vs}
def Cs.ok{x qual:Str}{st:Vu}{f:Vp}{fd:FuncData}{N ps:List Str}{k:Nat}{sp:Sp}(F:Cs K x qual st f fd)(S:av N ps (ae st))(len:∀vs H Q E,sp vs H Q E->vs.length=ps.length)
  (hbody:∀(cdv:Vn)(A:Vv)(outer:List Env)(s:Vo)(H:Hp)(vs:List V)(Q:VK)(E:XK),cJ k (A.deeper (envOfC qual (ae st) s.heap.objs.size f cdv))->sp vs H Q E->
   ∃t,qz (qm qA P w K mg base N qual (ae st) f cdv A outer s H E).nox (bE st) t/\t {nx:=λ_ H'=>Q .non H',rt:=Q} (start N vs) H):gf P w K mg base qA (k+1) f fd ps sp:=by
 obtain⟨oc,od,kV,doc,pm,an,cdv,ct,osl,rfl,lk,hcd⟩:=F.ex;refine La lk hcd S len λA outer s H vs Q E hr hsp=>?_;obtain⟨t,h,q⟩:=hbody cdv A outer s H vs Q E hr hsp;exact⟨t,h.nox,q⟩
def Cs.binds{x qual:Str}{st:Vu}{f:Vp}{fd:FuncData}{ps:List Str}(F:Cs K x qual st f fd)
  (h:∀(kV doc pm:Vn)(an:Option Vp)(cdv ct:Vn)(us:List Vn),us.length=ps.length->bindArgs (fnOf x qual (cj st) (bE st) (ae st) .none kV doc pm an cdv ct) ⟨us,[]⟩=pure (ps.zip us)):g0 K fd ps []:=by
 obtain⟨oc,od,kV,doc,pm,an,cdv,ct,osl,rfl,lk,hcd⟩:=F.ex;exact .all (h kV doc pm an cdv ct)
def n6{x qual:Str}{st:Vu}{f:Vp}{oc:Vn}{od an:Option Vp}{osl:Array (Option Vn)}{kV doc pm cdv ct:Vn}(l:K.lookup f=some ⟨oc,od,.func (fnOf x qual (cj st) (bE st) (ae st) .none kV doc pm an cdv ct),osl⟩)
  (c:codeIn K cdv qual=true) (k:keepIn K (.ref f)=true):Cs K x qual st f (fnOf x qual (cj st) (bE st) (ae st) .none kV doc pm an cdv ct):=⟨⟨oc,od,kV,doc,pm,an,cdv,ct,osl,rfl,l,c⟩,k⟩
end
def L6{A:Vv}{k:Nat}(hr:cJ k A):A.units+1<cLine:=Za (Nat.add_le_add_left (by decide:1<=64) _) hr.units
section
variable{X:Cx}
def pv(i:Nat){x:Str}{pos:Pos}(hN:X.N[i]?=some x:=by rfl)(hv:Ln X.env.scope x:=by first|exact Or.inl rfl|exact Or.inr (Or.inl rfl)|exact Or.inr (Or.inr rfl))(hd:(x == ("__debug__":Str))=false:=by decide)
  (hcd:(x == ("__classdict__":Str))=false:=by decide):PE X (.Name x pos) (qR i):=IA hN hv hd hcd
end
def Mh{A B:Prop}(h:B):if false=true then A else B:=by
 rw[QI QC];exact h
def Mg{A B:Prop}(h:A):if true=true then A else B:=by
 rw[QH rfl];exact h
def aM(H H':Hp):Prop:=∀b o,H b=some o->H' b=some o
def aM.refl(H:Hp):aM H H:=λ_ _ h=>h
def aM.trans{H H1 H2:Hp}(a:aM H H1)(b:aM H1 H2):aM H H2:=λc o h=>b c o (a c o h)
def aM.free{H H':Hp}(e:aM H H'){l:Vp}(h:H' l=Option.none):H l=Option.none:=by
 cases q:H l with
 |none=>rfl
 |some o=>
  rw[e l o q] at h;cases h
def aM.seq{K:Frag}{H H':Hp}{a:Vp}{xs:List V}(e:aM H H')(h:iA K H a xs):iA K H' a xs:=by
 rcases h with(h|⟨o,h⟩)|h
 ·exact .inl (.inl (e _ _ h))
 ·exact .inl (.inr ⟨o,e _ _ h⟩)
 ·exact .inr h
section
variable{X:Cx}{pins:List (Vp×Obj)}{σ:St}{H:Hp}{s:Vo}{a:Vp}{y v:V}{u r:Vn}{o:Option V}{A:Vv}{E:Vn->Vo->Prop}
end
end L2
namespace L3
inductive D where
 |non|bl (b:Bool)|int (i:Int)|str (x:Str)|tup (ds:List D)|lst (ds:List D)|obj (c:Vw) (ns:List Str) (ds:List D)|fn (k:Nat) (ds:List D)
inductive Tr where
 |sh (d:D)|lst (ts:List Tr)|ins (c:Vw) (ns:List Str) (ts:List Tr)
inductive O where
 |lst (ds:List D)|obj (c:Vw) (ns:List Str) (ds:List D)|dic (kvs:List (List Int×Int))|par (a:Nat) (o:O)|fdic (kvs:List (List Int×Int))|tab (kvs:List (D×D))|dik (kvs:List (Int×Int))|tre (t:Tr)
abbrev G3:Nat:=1000000
noncomputable instance decD:DecidableEq D:=λa b=>Classical.propDecidable (a=b)
noncomputable def O.val:O->D
 |.lst ds=>.lst ds
 |.obj c ns ds=>.obj c ns ds
 |.dic _=>.non
 |.par _ _=>.non
 |.fdic _=>.non
 |.tab _=>.non
 |.tre _=>.fn G3 []
 |.dik _=>.fn G3 []
inductive S where
 |sh (d:D)|own (o:O)|two (d:D) (a:Nat) (o:O)|thr (d:D) (a:Nat) (o:O) (b:Nat) (u:O)
def S.val:S->D
 |.sh d=>d
 |.own o=>o.val
 |.two d _ _=>d
 |.thr d _ _ _ _=>d
def S.nd:S->Bool
 |.own (.dic _)=>false
 |.own (.par _ _)=>false
 |.own (.fdic _)=>false
 |.own (.tab _)=>false
 |.own (.tre _)=>false
 |.two _ _ _=>false
 |.thr _ _ _ _ _=>false
 |_=>true
inductive R where
 |ok (s:S)|exc (x:D)
abbrev aJ:=List (Option S)
inductive nY where
 |next (ρ:aJ)|brk (ρ:aJ)|cont (ρ:aJ)|ret (s:S)|exc (x:D)
abbrev ME:=aJ->Option R
abbrev MC:=aJ->Option nY
inductive RI where
 |ok (ds:List D)|exc (x:D)
abbrev MI:=aJ->Option RI
abbrev MB:=D->aJ->Option aJ
@[reducible] def okD (d:D):Option R:=some (.ok (.sh d))
@[reducible] def okI (i:Int):Option R:=okD (.int i)
@[reducible] def okB (b:Bool):Option R:=okD (.bl b)
@[reducible] def okL (ds:List D):Option R:=some (.ok (.own (.lst ds)))
def b0(r:Option R)(k:D->Option R):Option R:=match r with
 |some (.ok s)=>k s.val
 |some (.exc x)=>some (.exc x)
 |none=>none
def jY(r:Option R)(k:S->Option nY):Option nY:=match r with
 |some (.ok s)=>k s
 |some (.exc x)=>some (.exc x)
 |none=>none
@[simp] theorem bindV_ok (s:S) (k:D->Option R):b0 (some (.ok s)) k=k s.val:=rfl
@[simp] theorem bindV_exc (x:D) (k:D->Option R):b0 (some (.exc x)) k=some (.exc x):=rfl
@[simp] theorem bindV_none (k:D->Option R):b0 none k=none:=rfl
@[simp] theorem bindO_ok (s:S) (k:S->Option nY):jY (some (.ok s)) k=k s:=rfl
@[simp] theorem bindO_exc (x:D) (k:S->Option nY):jY (some (.exc x)) k=some (.exc x):=rfl
@[simp] theorem bindO_none (k:S->Option nY):jY none k=none:=rfl
@[simp] theorem S.val_sh (d:D):(S.sh d).val=d:=rfl
@[simp] theorem S.val_own (o:O):(S.own o).val=o.val:=rfl
@[simp] theorem O.val_lst (ds:List D):(O.lst ds).val=.lst ds:=rfl
@[simp] theorem O.val_obj (c:Vw) (ns:List Str) (ds:List D):(O.obj c ns ds).val=.obj c ns ds:=rfl
noncomputable def a5(i:Nat):ME:=λρ=>match ρ[i]? with
 |some (some (.sh d))=>okD d
 |_=>none
noncomputable def dR(i:Nat):ME:=λρ=>match ρ[i]? with
 |some (some (.own (.dic _)))=>none
 |some (some (.own (.par _ _)))=>none
 |some (some (.own (.fdic _)))=>none
 |some (some (.own (.tab _)))=>none
 |some (some (.own (.tre _)))=>none
 |some (some (.two _ _ _))=>none
 |some (some (.thr _ _ _ _ _))=>none
 |some (some s)=>okD s.val
 |_=>none
noncomputable def eC(d:D):ME:=λ_=>okD d
noncomputable def lh(f:D->Option R)(a:ME):ME:=λρ=>b0 (a ρ) f
noncomputable def a9(f:D->D->Option R)(a b:ME):ME:=λρ=>b0 (a ρ) λx=>b0 (b ρ) λy=>f x y
def br:List ME->aJ->(List D->Option R)->Option R
 |[],_,k=>k []
 |e::es,ρ,k=>b0 (e ρ) λd=>br es ρ λds=>k (d::ds)
def ai(f:List D->Option R)(as:List ME):ME:=λρ=>br as ρ f
def flat:D->Bool
 |.non=>true|.bl _=>true|.int _=>true|.str _=>true|_=>false
def qe:Option R->Option R
 |some (.ok s)=>if flat s.val then okD s.val else none
 |_=>none
def aI(f:List D->Option R)(as:List ME):ME:=λρ=>qe (br as ρ f)
def lim:Nat:=1000000
def bA(as:List ME):ME:=ai (λds=>if ds.length<=lim then okD (.tup ds) else none) as
def cC(as:List ME):ME:=ai (λds=>if ds.length<=lim then okL ds else none) as
def asB:D->(Bool->Option R)->Option R
 |.bl b,k=>k b
 |_,_=>none
def fu(a b:ME):ME:=λρ=>b0 (a ρ) λx=>asB x λc=>if c=true then b ρ else okB false
def qy(a b:ME):ME:=λρ=>b0 (a ρ) λx=>asB x λc=>if c=true then okB true else b ρ
def JD(x:D):Option R:=asB x λc=>okB (!c)
def n9(a:ME):ME:=lh JD a
def F2(c a b:ME):ME:=λρ=>b0 (c ρ) λx=>asB x λt=>if t=true then a ρ else b ρ
def aC(a b:MC):MC:=λρ=>match a ρ with
 |some (.next ρ')=>b ρ'
 |o=>o
def bx:MC:=λρ=>some (.next ρ)
def Hj:MC:=λρ=>some (.cont ρ)
def bq(i:Nat)(e:ME):MC:=λρ=>jY (e ρ) λs=>some (.next (ρ.set i (some s)))
def bG(e:ME):MC:=λρ=>jY (e ρ) λs=>some (.ret s)
def asBO:D->(Bool->Option nY)->Option nY
 |.bl b,k=>k b
 |_,_=>none
def gI(c:ME)(a b:MC):MC:=λρ=>jY (c ρ) λs=>asBO s.val λt=>if t=true then a ρ else b ρ
def dem(i:Nat)(ρ:aJ):aJ:=match ρ[i]? with
 |some (some (.own (.dic _)))=>ρ
 |some (some (.own (.par _ _)))=>ρ
 |some (some (.own (.fdic _)))=>ρ
 |some (some (.own (.tab _)))=>ρ
 |some (some (.own (.tre _)))=>ρ
 |some (some (.own o))=>ρ.set i (some (.sh o.val))
 |_=>ρ
def dc(i:Nat)(c:MC):MC:=λρ=>c (dem i ρ)
def wg(i:Nat)(ρ:aJ)(k:List D->Option nY):Option nY:=match ρ[i]? with
 |some (some (.own (.lst ds)))=>k ds
 |_=>none
def cO(i:Nat)(e:ME):MC:=λρ=>wg i ρ λds=>jY (e ρ) λs=>if ds.length<lim then some (.next (ρ.set i (some (.own (.lst (ds++[s.val])))))) else none
def mr:D->Option (List D)
 |.lst ds=>some ds
 |.tup ds=>some ds
 |_=>none
def mf(i:Nat)(e:ME):MC:=λρ=>wg i ρ λds=>jY (e ρ) λs=>match mr s.val with
 |some es=>if ds.length+es.length<=lim then some (.next (ρ.set i (some (.own (.lst (ds++es)))))) else none
 |none=>none
def KY(n:Nat)(i:Int):Option Nat:=if 0<=i then(if i<n then some i.toNat else none) else if -(n:Int)<=i then some (i+n).toNat else none
def ba(j:Nat):MB:=λd ρ=>some (ρ.set j (some (.sh d)))
def D4:List Nat->List D->aJ->aJ
 |j::js,d::ds,ρ=>D4 js ds (ρ.set j (some (.sh d)))
 |_,_,ρ=>ρ
def bTup(js:List Nat):MB:=λd ρ=>match d with
 |.tup ds=>if ds.length=js.length then some (D4 js ds ρ) else none
 |_=>none
def lg(bd:MB)(body:MC):List D->aJ->Option nY
 |[],ρ=>some (.next ρ)
 |d::ds,ρ=>match bd d ρ with
  |none=>none
  |some ρ1=>match body ρ1 with
   |some (.next ρ2)=>lg bd body ds ρ2
   |some (.cont ρ2)=>lg bd body ds ρ2
   |some (.brk ρ2)=>some (.next ρ2)
   |o=>o
def iD(it:MI)(bd:MB)(body:MC):MC:=λρ=>match it ρ with
 |some (.ok ds)=>lg bd body ds ρ
 |some (.exc x)=>some (.exc x)
 |none=>none
def l9(e:ME):MI:=λρ=>match e ρ with
 |some (.ok s)=>(mr s.val).map .ok
 |some (.exc x)=>some (.exc x)
 |none=>none
def rng(lo hi:Int):List D:=(List.range (hi - lo).toNat).map λ(k:Nat)=>D.int (lo+k)
def jV(i:Int):Bool:=decide (-(2 ^ 62)<=i) && decide (i<2 ^ 62)
def BO(e:ME)(ρ:aJ)(k:D->Option RI):Option RI:=match e ρ with
 |some (.ok s)=>k s.val
 |some (.exc x)=>some (.exc x)
 |none=>none
def bP(e:ME):MI:=λρ=>BO e ρ λx=>match x with
 |.int hi=>if jV hi=true then some (.ok (rng 0 hi)) else none
 |_=>none
def jc(bd:MB)(cond elt:ME)(ρ:aJ):List D->List D->Option R
 |[],acc=>if acc.length<=lim then okL acc else none
 |d::ds,acc=>match bd d ρ with
  |none=>none
  |some ρ1=>b0 (cond ρ1) λc=>asB c λt=>if t=true then b0 (elt ρ1) λx=>jc bd cond elt ρ ds (acc++[x]) else jc bd cond elt ρ ds acc
def cW(js:List Nat)(ρ:aJ):aJ:=js.foldl (λρ j=>ρ.set j none) ρ
def cU(js:List Nat)(it:MI)(bd:MB)(cond elt:ME):ME:=λρ=>match it ρ with
 |some (.ok ds)=>if ds.length<=lim then jc bd cond elt (cW js ρ) ds [] else none
 |some (.exc x)=>some (.exc x)
 |none=>none
def dU(n:Nat)(ds:List D):aJ:=ds.map (λd=>some (.sh d))++replicate (n - ds.length) none
def KF:Option nY->Option R
 |some (.ret s)=>some (.ok s)
 |some (.next _)=>okD .non
 |some (.exc x)=>some (.exc x)
 |_=>none
noncomputable def jh(np n:Nat)(g:MC):List D->Option R:=λds=>if ds.length=np then KF (g (dU n ds)) else none
def c9:D->D->Option R
 |.int i,.int j=>okI (i+j)
 |.str x,.str y=>if x.length+y.length<=lim then okD (.str (x++y)) else none
 |.tup xs,.tup ys=>if xs.length+ys.length<=lim then okD (.tup (xs++ys)) else none
 |.lst xs,.lst ys=>if xs.length+ys.length<=lim then okL (xs++ys) else none
 |_,_=>none
def nQ:D->D->Option R
 |.int i,.int j=>okI (i - j)
 |_,_=>none
def iB(i:Int):Bool:=decide (-(2 ^ 64)<i) && decide (i<2 ^ 64)
def lq:D->D->Option R
 |.int i,.int j=>if(iB i || iB j)=true then okI (i * j) else none
 |_,_=>none
def Lf(ds:List D):D->Option R
 |.int k=>if -(2 ^ 60)<=k/\k<2 ^ 60/\ds.length * k.toNat<=lim then okL (replicate k.toNat ds).flatten else none
 |_=>none
def EB(a b:ME):ME:=λρ=>match a ρ with
 |some (.ok (.own (.lst ds)))=>b0 (b ρ) (Lf ds)
 |some (.exc x)=>some (.exc x)
 |_=>none
def lr:D->D->Option R
 |.int i,.int j=>if 0<j then okI (i % j) else none
 |_,_=>none
def ql:D->D->Option R
 |.int i,.int j=>if 0<j/\j<1073741824 then okI (i / j) else none
 |_,_=>none
def JF(p:Int->Int->Bool):D->D->Option R
 |.int i,.int j=>okB (p i j)
 |_,_=>none
def Lh:=JF λi j=>decide (i<j)
def HF:=JF λi j=>decide (i<=j)
def JE:=JF λi j=>decide (j<i)
def GF:D->D->Option Bool
 |.int i,.int j=>some (decide (i=j))
 |.str x,.str y=>some (decide (x=y))
 |.bl x,.bl y=>some (decide (x=y))
 |.non,.non=>some true
 |.non,.int _=>some false|.int _,.non=>some false|.non,.str _=>some false|.str _,.non=>some false|.non,.bl _=>some false|.bl _,.non=>some false
 |.int _,.str _=>some false|.str _,.int _=>some false|.bl _,.str _=>some false|.str _,.bl _=>some false
 |_,_=>none
def eh(x y:D):Option R:=match GF x y with
 |some b=>okB b
 |none=>none
def qk(x y:D):Option R:=match GF x y with
 |some b=>okB (!b)
 |none=>none
def GL:D->Option R
 |.non=>okB true
 |_=>okB false
def zA{α:Type}(xs:List α)(i:Int):Option α:=(KY xs.length i).bind λj=>xs[j]?
def dIx:D->D->Option R
 |.tup ds,.int i=>(zA ds i).bind okD
 |.lst ds,.int i=>(zA ds i).bind okD
 |.str x,.int i=>if x.length<=lim then(zA x.cps.toList i).bind λc=>okD (.str ⟨#[c]⟩) else none
 |_,_=>none
def bU:D->Option R
 |.tup ds=>okI ds.length
 |.lst ds=>okI ds.length
 |.str x=>if x.length<=lim then okI x.length else none
 |_=>none
def intsOf:List D->Option (List Int)
 |[]=>some []
 |.int i::r=>(intsOf r).map (i::·)
 |_::_=>none
def blsOf:List D->Option (List Bool)
 |[]=>some []
 |.bl i::r=>(blsOf r).map (i::·)
 |_::_=>none
def GK:D->Option R
 |.lst ds=>(intsOf ds).bind λns=>okI ns.sum
 |_=>none
def EH:D->Option R
 |.lst ds=>(blsOf ds).bind λbs=>okB (bs.any id)
 |_=>none
def gY:D->Option R
 |.lst ds=>okD (.tup ds)
 |.tup ds=>okD (.tup ds)
 |_=>none
def EF:D->Option R
 |.lst ds=>okL ds
 |.tup ds=>okL ds
 |_=>none
def kC:D->D->Option R
 |.int lo,.int hi=>if jV lo=true/\jV hi=true/\(hi - lo).toNat<=lim then okL (rng lo hi) else none
 |_,_=>none
def Hz:D->Vw
 |.non => "NoneType" | .bl _ => "bool" | .int _ => "int" | .str _ => "str" | .tup _ => "tuple" | .lst _ => "list" | .obj c _ _=>c|.fn _ _ => "function"
def xw(T:Vw):D->Option R
 |.obj _ _ _=>none
 |.fn _ _=>none
 |d=>okB (Hz d == T || (Hz d == "bool" && T == "int"))
def f1(F:D->Option R):List D->Option R
 |[d]=>F d
 |_=>none
def f2(F:D->D->Option R):List D->Option R
 |[d,e]=>F d e
 |_=>none
def gZ:ME:=eC (.bl true)
def xu:D->D->Option R
 |.int i,.int j=>if 0<=j/\j<=1000000/\i.natAbs<2 ^ 64 then okI (i * 2 ^ j.toNat) else none
 |_,_=>none
def uU:D->D->Option R
 |.int i,.int j=>if 0<=j then okI (i / 2 ^ j.toNat) else none
 |_,_=>none
def lD:D->D->Option R
 |.int i,.int j=>if 0<=i/\0<=j then okI ((i.toNat &&& j.toNat:Nat):Int) else none
 |_,_=>none
def BZ:D->D->Option R
 |.int i,.int j=>if 0<=j/\j<=1000000/\i.natAbs<2 ^ 64 then okI (i ^ j.toNat) else none
 |_,_=>none
def Lg:D->Option R
 |.int i=>okI (-i)
 |_=>none
def GM:D->Option R
 |.int i=>okI i
 |.bl b=>okI (if b then 1 else 0)
 |_=>none
def F9:D->Option Bool
 |.non=>some false
 |.bl b=>some b
 |.int i=>some (i != 0)
 |.str y=>if y.length<=lim then some ((y.length:Int) != 0) else none
 |.tup ds=>some (!ds.isEmpty)
 |.lst ds=>some (!ds.isEmpty)
 |_=>none
def Le(d:D):Option R:=(F9 d).bind λb=>okB b
def JC(a:ME):ME:=lh Le a
def Lc:D->Option RI
 |.lst xs=>some (.ok ((List.range xs.length).zipWith (λ(i:Nat) d=>D.tup [.int i,d]) xs))
 |.tup xs=>some (.ok ((List.range xs.length).zipWith (λ(i:Nat) d=>D.tup [.int i,d]) xs))
 |_=>none
def x8(a:ME):MI:=λρ=>BO a ρ Lc
def Mo:D->D->Bool
 |.non,.non=>true
 |.bl a,.bl b=>a == b
 |.bl a,.int b=>(if a then 1 else 0) == b
 |.int a,.bl b=>a == (if b then 1 else 0)
 |.int a,.int b=>a == b
 |.str a,.str b=>a == b
 |_,_=>false
def F0(x:D)(ds:List D):Bool:=ds.any λy=>Mo y x
def GN(neg:Bool)(x y:D):Option R:=match mr y with
 |some ds=>if flat x=true/\ds.all flat=true then okB (if neg then !F0 x ds else F0 x ds) else none
 |none=>none
def me(n d:Nat):Option Int->Nat
 |none=>d
 |some v=>if v<0 then(v+(n:Int)).toNat else min v.toNat n
def Ca(ds:List D)(lo hi:Option Int):List D:=(ds.drop (me ds.length 0 lo)).take (me ds.length ds.length hi - me ds.length 0 lo)
def uT(x:D)(lo hi:Option Int):Option R:=match x with
 |.tup ds=>if me ds.length 0 lo=0/\me ds.length ds.length hi=ds.length then none else okD (.tup (Ca ds lo hi))
 |.lst ds=>okL (Ca ds lo hi)
 |_=>none
def A5(o:Option ME)(ρ:aJ)(k:Option Int->Option R):Option R:=match o with
 |none=>k none
 |some e=>b0 (e ρ) λd=>match d with
  |.int i=>k (some i)
  |_=>none
def g9(e:ME)(lo hi:Option ME):ME:=λρ=>b0 (e ρ) λx=>A5 lo ρ λl=>A5 hi ρ λh=>uT x l h
def jF(k:Int):List Int->List Int
 |[]=>[k]
 |x::r=>if k<x then k::x::r else if k=x then x::r else x::jF k r
def gj(ns:List Int):List Int:=ns.foldr jF []
def fewD(ns:List Int):Bool:=decide (ns.length<=4) && ns.all λn=>decide (0<=n) && decide (n<32)
def qi:D->Option R
 |.lst ds=>(intsOf ds).bind λns=>if fewD ns=true then okL ((gj ns).map D.int) else none
 |_=>none
def uR(f:Str):List Str->List D->Option D
 |n::ns,d::ds=>if f == n then some d else uR f ns ds
 |_,_=>none
def zt(cs:List Vw)(f:Str):D->Option R
 |.obj c ns ds=>if cs.contains c=true then(uR f ns ds).bind okD else none
 |_=>none
def jb(m:Str)(tb:Vw->Option (List D->Option R))(o:ME)(as:List ME):ME:=λρ=>b0 (o ρ) λx=>match x with
 |.obj c ns ds=>if ns.contains m=true then none else(match tb c with
  |some F=>br as ρ λvs=>F (.obj c ns ds::vs)
  |none=>none)
 |_=>none
abbrev ff:=O->List D->Option O
abbrev MG:=aJ->O->Option O
def jN:List ME->aJ->Option (List D)
 |[],_=>some []
 |e::es,ρ=>match e ρ with
  |some (.ok s)=>(jN es ρ).map (s.val::·)
  |_=>none
def putN(f:Str):List Str->List Str
 |[]=>[f]
 |n::r=>if n=f then n::r else n::putN f r
def Bg(f:Str)(d:D):List Str->List D->List D
 |[],_=>[d]
 |n::ns,x::ds=>if n=f then d::ds else x::Bg f d ns ds
 |_::_,[]=>[]
def jW:MG:=λ_ o=>some o
def eS(g h:MG):MG:=λρ o=>(g ρ o).bind (h ρ)
def lB(cs:List Vw)(f:Str)(e:ME):MG:=λρ o=>match e ρ,o with
 |some (.ok s),.obj c ns ds=>if cs.contains c=true/\ns.length=ds.length/\ns.length<900 then some (.obj c (putN f ns) (Bg f s.val ns ds)) else none
 |_,_=>none
def gm(F:ff)(as:List ME):MG:=λρ o=>(jN as ρ).bind (F o)
noncomputable def xi(np n:Nat)(g:MG):ff:=λo ds=>if ds.length+1=np then g (none::dU (n - 1) ds) o else none
def fj(c:Vw)(F:ff)(as:List ME):ME:=λρ=>br as ρ λds=>match F (.obj c [] []) ds with
 |some o=>some (.ok (.own o))
 |none=>none
def Ay:D->D->Option R
 |.str x,.int n=>if x.length=1/\(n=1\/n=2) then okD (.str (if n=1 then x else⟨x.cps++x.cps⟩)) else none
 |_,_=>none
def qj:D->D->Option R
 |.lst ds,.lst []=>okB (!ds.isEmpty)
 |_,_=>none
mutual
def Bt:D->Bool
 |.fn _ _=>false
 |.tup ds=>sg ds
 |.lst ds=>sg ds
 |.obj _ _ ds=>sg ds
 |.non=>true
 |.bl _=>true
 |.int _=>true
 |.str _=>true
def sg:List D->Bool
 |[]=>true
 |d::ds=>Bt d && sg ds
end
abbrev Tb:=List (List Int×Int)
def O.core:O->O
 |.par _ o=>o
 |o=>o
def O.put:O->O->O
 |.par a _,o'=>.par a o'
 |_,o'=>o'
noncomputable section
end
def iI(f:D->D->Option Bool):List D->List D->Option Bool
 |[],[]=>some true
 |x::xs,y::ys=>(f x y).bind λb=>(iI f xs ys).bind λc=>some (b && c)
 |_,_=>some false
def mx:Nat->D->D->Option Bool
 |0,_,_=>none
 |_+1,.int i,.int j=>some (i == j)
 |_+1,.str x,.str y=>some (x == y)
 |n+1,.tup xs,.tup ys=>iI (mx n) xs ys
 |n+1,.lst xs,.lst ys=>if xs.length=ys.length then iI (mx n) xs ys else some false
 |_+1,_,_=>none
def Li(n:Nat)(x y:D):Option R:=(mx n x y).bind λb=>okB b
theorem kA(f:D->D->Option Bool):∀(xs ys:List D)(b:Bool),iI f xs ys=some b->b=((List.range (min xs.length ys.length)).all (λj=>((xs[j]?).bind λx=>(ys[j]?).bind λy=>f x y) == some true) && (xs.length == ys.length))
 |[],[],b,h=>by cases h;rfl
 |[],_::_,b,h=>by cases h;rfl
 |_::_,[],b,h=>by cases h;rfl
 |x::xs,y::ys,b,h=>by
  have h:(f x y).bind (λb=>(iI f xs ys).bind λc=>some (b && c))=some b:=h;cases h1:f x y with
  |none=>rw[h1] at h;cases h
  |some b1=>
   rw[h1] at h;cases h2:iI f xs ys with
   |none=>rw[h2] at h;cases h
   |some b2=>
    rw[h2] at h;cases h;rw[kA f xs ys b2 h2,QS,QS,Nat.succ_min_succ,List.range_succ_eq_map,ZR,List.all_map];have e0:(((x::xs)[0]?).bind λx=>((y::ys)[0]?).bind λy=>f x y)=some b1:=h1;rw[e0];have e1:((xs.length+1 == ys.length+1):Bool)=(xs.length == ys.length):=by rw[VI,QP,QP];omega
    rw[e1];cases b1 with
    |true=>rfl
    |false=>rfl
theorem As(f:D->D->Option Bool):∀(xs ys:List D)(b:Bool),iI f xs ys=some b->∀(j:Nat)(x y:D),xs[j]?=some x->ys[j]?=some y->∃c,f x y=some c
 |[],ys,b,h,j,x,y,hx,hy=>by cases hx
 |_::_,[],b,h,j,x,y,hx,hy=>by cases hy
 |x::xs,y::ys,b,h,j,x',y',hx,hy=>by
  have h:(f x y).bind (λb=>(iI f xs ys).bind λc=>some (b && c))=some b:=h;cases h1:f x y with
  |none=>rw[h1] at h;cases h
  |some b1=>
   rw[h1] at h;cases h2:iI f xs ys with
   |none=>rw[h2] at h;cases h
   |some b2=>
    cases j with
    |zero=>cases hx;cases hy;exact⟨b1,h1⟩
    |succ j=>exact As f xs ys b2 h2 j x' y' hx hy
def u0(i:Nat):MC:=λρ=>wg i ρ λ_=>some (.next (ρ.set i (some (.own (.lst [])))))
def GO{i:Nat}{ρ:aJ}{ds:List D}(h:ρ[i]?=some (some (.own (.lst ds)))):u0 i ρ=some (.next (ρ.set i (some (.own (.lst []))))):=by unfold u0 wg;rw[h]
def vP(i:Nat):MC:=λρ=>match ρ[i]? with
 |some (some s)=>if s.nd=true then some (.ret s) else none
 |_=>none
def Ii{i:Nat}{ρ:aJ}{s:S}(h:ρ[i]?=some (some s))(hn:s.nd=true:=by rfl):vP i ρ=some (.ret s):=by unfold vP;rw[h];dsimp only;rw[QH hn]
def uS:D->Option R
 |.lst [.tup (.int m::xs),.tup (.int n::ys)]=>if m<n then okL [.tup (.int m::xs),.tup (.int n::ys)] else if n<m then okL [.tup (.int n::ys),.tup (.int m::xs)] else none
 |_=>none
def zr{d:D}{r:R}(h:uS d=some r):∃m n xs ys,d=.lst [.tup (.int m::xs),.tup (.int n::ys)]/\m≠n/\r=.ok (.own (.lst (if m<n then[.tup (.int m::xs),.tup (.int n::ys)] else[.tup (.int n::ys),.tup (.int m::xs)]))):=by
 unfold uS at h;split at h
 ·rename_i m xs n ys;refine⟨m,n,xs,ys,rfl,?_⟩;by_cases c:m<n
  ·rw[QH c] at h ⊢;cases h;exact⟨by omega,rfl⟩
  ·rw[QI c] at h ⊢;by_cases c2:n<m
   ·rw[QH c2] at h;cases h;exact⟨by omega,rfl⟩
   ·rw[QI c2] at h;cases h
 ·cases h
def code5(a b c d e:Int):Int:=(((a * 1000+b) * 1000+c) * 1000+d) * 1000+e
def Sm(n:Int):Prop:=0<=n/\n<1000
instance (n:Int):Decidable (Sm n):=inferInstanceAs (Decidable (_/\_))
def GR:D->Option Int
 |.tup [.int a,.int b,.int c,.int d,.int e,.str _]=>if Sm a/\Sm b/\Sm c/\Sm d/\Sm e then some (code5 a b c d e) else none
 |_=>none
def ft(d:D):Int:=(GR d).getD 0
def vI(ds:List D):List D:=ds.mergeSort λx y=>decide (ft x<=ft y)
def kB:D->Option R
 |.lst ds=>if(∀d∈ds,(GR d).isSome=true)/\(ds.map ft).Nodup then okL (vI ds) else none
 |_=>none
def zo{d:D}{r:R}(h:kB d=some r):∃ds,d=.lst ds/\(∀d∈ds,(GR d).isSome=true)/\(ds.map ft).Nodup/\r=.ok (.own (.lst (vI ds))):=by
 unfold kB at h;split at h
 ·rename_i ds;by_cases c:(∀d∈ds,(GR d).isSome=true)/\(ds.map ft).Nodup
  ·rw[QH c] at h;cases h;exact⟨ds,rfl,c.1,c.2,rfl⟩
  ·rw[QI c] at h;cases h
 ·cases h
def iN(ds:List D):(vI ds).Perm ds:=List.mergeSort_perm _ _
def tQ(ds:List D):(vI ds).Pairwise λx y=>ft x<=ft y:=
 (List.pairwise_mergeSort (le:=λx y=>decide (ft x<=ft y)) (λa b c h1 h2=>QV (Int.le_trans (Wx h1) (Wx h2))) (λa b=>by rcases Int.le_total (ft a) (ft b) with h|h <;> simp[h]) ds).imp λh=>Wx h
theorem ve{α:Type}{k:α->Int}:∀{l m:List α},l.Perm m->l.Pairwise (λx y=>k x<k y)->m.Pairwise (λx y=>k x<=k y)->l=m
 |[],m,h,_,_=>(List.Perm.nil_eq h)
 |x::l,[],h,_,_=>absurd h.length_eq (by simp)
 |x::l,y::m,h,p,q=>by
  have p':=Wl.mp p;have q':=Wl.mp q;have e:x=y:=by
   rcases V1.mp (h.mem_iff.mp (.head l)) with e|e
   ·exact e
   ·rcases V1.mp (h.mem_iff.mpr (.head m)) with e2|e2
    ·exact e2.symm
    ·exact absurd (p'.1 y e2) (Ye.mpr (q'.1 x e))
  subst e;rw[ve (List.Perm.cons_inv h) p'.2 q'.2]
def Ft{ds:List D}(n:(ds.map ft).Nodup):(vI ds).Pairwise λx y=>ft x<ft y:=
 YG (λh=>Zx.mpr h) ((tQ ds).and (WY.mp (((iN ds).map ft).nodup_iff.mpr n)))
def Fu{ds es:List D}(h:ds.Perm es)(n:(ds.map ft).Nodup):vI ds=vI es:=
 ve (k:=ft) ((iN ds).trans (h.trans (iN es).symm)) (Ft n) (tQ es)
def EE:D->Option R
 |.tup ds=>okL ds.reverse
 |_=>none
open L2
def lK(H H':Hp):Prop:=∀b o,H b=some o->(∀x,o≠.own x)->H' b=some o
def zT{H H':Hp}(e:aM H H'):lK H H':=λb o h _=>e b o h
structure Ct where
 K:Frag
 cls:Vw->Vp
 clo:Nat->Hp->Vp->List V->Prop
 cloM:∀{k:Nat}{H H':Hp}{a:Vp}{xs:List V},lK H H'->clo k H a xs->clo k H' a xs
 tb:Hp
 opq:∀H a,clo G3 H a []
def aF(K:Frag)(cls:Vw->Vp):Ct:=⟨K,cls,λk _ _ xs=>k=G3/\xs=[],λ_ h=>h,λ_=>none,λ_ _=>⟨rfl,rfl⟩⟩
mutual
def c6(Γ:Ct)(H:Hp):D->V->Prop
 |.non,v=>v=.non
 |.bl b,v=>v=.bl b
 |.int i,v=>v=.int i
 |.str x,v=>v=.str x
 |.tup ds,v=>∃a xs,v=.ref a/\iy Γ.K H a xs/\RepL Γ H ds xs
 |.lst ds,v=>∃a xs,v=.ref a/\iA Γ.K H a xs/\RepL Γ H ds xs
 |.obj c ns ds,v=>∃a dx xs,v=.ref a/\H a=some (.ins (Γ.cls c) dx (ns.zip xs))/\RepL Γ H ds xs
 |.fn k ds,v=>∃a xs,v=.ref a/\Γ.clo k H a xs/\RepL Γ H ds xs
def RepL(Γ:Ct)(H:Hp):List D->List V->Prop
 |[],xs=>xs=[]
 |d::ds,xs=>∃x r,xs=x::r/\c6 Γ H d x/\RepL Γ H ds r
end
def bj{K:Frag}{H H':Hp}{a:Vp}{xs:List V}(e:aM H H')(h:iy K H a xs):iy K H' a xs:=by
 rcases h with(h|⟨o,h⟩)|h
 ·exact .inl (.inl (e _ _ h))
 ·exact .inl (.inr ⟨o,e _ _ h⟩)
 ·exact .inr h
def Kn{K:Frag}{H H':Hp}{a:Vp}{xs:List V}(e:lK H H')(h:iy K H a xs):iy K H' a xs:=by
 rcases h with(h|⟨o,h⟩)|h
 ·exact .inl (.inl (e _ _ h λ_=>nofun))
 ·exact .inl (.inr ⟨o,e _ _ h λ_=>nofun⟩)
 ·exact .inr h
def Ko{K:Frag}{H H':Hp}{a:Vp}{xs:List V}(e:lK H H')(h:iA K H a xs):iA K H' a xs:=by
 rcases h with(h|⟨o,h⟩)|h
 ·exact .inl (.inl (e _ _ h λ_=>nofun))
 ·exact .inl (.inr ⟨o,e _ _ h λ_=>nofun⟩)
 ·exact .inr h
mutual
theorem c6.monoX{Γ:Ct}{H H':Hp}(e:lK H H'):∀{d:D}{v:V},c6 Γ H d v->c6 Γ H' d v
 |.non,_,r=>by unfold c6 at r ⊢;exact r
 |.bl _,_,r=>by unfold c6 at r ⊢;exact r
 |.int _,_,r=>by unfold c6 at r ⊢;exact r
 |.str _,_,r=>by unfold c6 at r ⊢;exact r
 |.tup ds,_,r=>by
  unfold c6 at r ⊢;obtain⟨a,xs,e1,q,r⟩:=r;exact⟨a,xs,e1,Kn e q,RepL.monoX e r⟩
 |.lst ds,_,r=>by
  unfold c6 at r ⊢;obtain⟨a,xs,e1,q,r⟩:=r;exact⟨a,xs,e1,Ko e q,RepL.monoX e r⟩
 |.obj c ns ds,_,r=>by
  unfold c6 at r ⊢;obtain⟨a,dx,xs,e1,q,r⟩:=r;exact⟨a,dx,xs,e1,e _ _ q (λ_=>nofun),RepL.monoX e r⟩
 |.fn k ds,_,r=>by
  unfold c6 at r ⊢;obtain⟨a,xs,e1,q,r⟩:=r;exact⟨a,xs,e1,Γ.cloM e q,RepL.monoX e r⟩
theorem RepL.monoX{Γ:Ct}{H H':Hp}(e:lK H H'):∀{ds:List D}{xs:List V},RepL Γ H ds xs->RepL Γ H' ds xs
 |[],_,r=>by unfold RepL at r ⊢;exact r
 |d::ds,_,r=>by
  unfold RepL at r ⊢;obtain⟨x,r',e1,q,r2⟩:=r;exact⟨x,r',e1,c6.monoX e q,RepL.monoX e r2⟩
end
def c6.mono{Γ:Ct}{H H':Hp}(e:aM H H'){d:D}{v:V}(r:c6 Γ H d v):c6 Γ H' d v:=r.monoX (zT e)
def RepL.mono{Γ:Ct}{H H':Hp}(e:aM H H'){ds:List D}{xs:List V}(r:RepL Γ H ds xs):RepL Γ H' ds xs:=r.monoX (zT e)
section
variable{Γ:Ct}{H H':Hp}
def cz{v:V}:c6 Γ H .non v↔v=.non:=by unfold c6;exact Iff.rfl
def aS{b:Bool}{v:V}:c6 Γ H (.bl b) v↔v=.bl b:=by unfold c6;exact Iff.rfl
def af{i:Int}{v:V}:c6 Γ H (.int i) v↔v=.int i:=by unfold c6;exact Iff.rfl
def aV{x:Str}{v:V}:c6 Γ H (.str x) v↔v=.str x:=by unfold c6;exact Iff.rfl
def aX{ds:List D}{v:V}:c6 Γ H (.tup ds) v↔∃a xs,v=.ref a/\iy Γ.K H a xs/\RepL Γ H ds xs:=by
 constructor
 ·intro h;unfold c6 at h;exact h
 ·intro h;unfold c6;exact h
def b6{ds:List D}{v:V}:c6 Γ H (.lst ds) v↔∃a xs,v=.ref a/\iA Γ.K H a xs/\RepL Γ H ds xs:=by
 constructor
 ·intro h;unfold c6 at h;exact h
 ·intro h;unfold c6;exact h
def mj{c:Vw}{ns:List Str}{ds:List D}{v:V}:c6 Γ H (.obj c ns ds) v↔∃a dx xs,v=.ref a/\H a=some (.ins (Γ.cls c) dx (ns.zip xs))/\RepL Γ H ds xs:=by
 constructor
 ·intro h;unfold c6 at h;exact h
 ·intro h;unfold c6;exact h
def yc{k:Nat}{ds:List D}{v:V}:c6 Γ H (.fn k ds) v↔∃a xs,v=.ref a/\Γ.clo k H a xs/\RepL Γ H ds xs:=by
 constructor
 ·intro h;unfold c6 at h;exact h
 ·intro h;unfold c6;exact h
def bR{xs:List V}:RepL Γ H [] xs↔xs=[]:=by unfold RepL;exact Iff.rfl
def aw{d:D}{ds:List D}{xs:List V}:RepL Γ H (d::ds) xs↔∃x r,xs=x::r/\c6 Γ H d x/\RepL Γ H ds r:=by
 constructor
 ·intro h;unfold RepL at h;exact h
 ·intro h;unfold RepL;exact h
def RepL.nil:RepL Γ H [] []:=bR.mpr rfl
def RepL.cons{d:D}{ds:List D}{x:V}{xs:List V}(h:c6 Γ H d x)(t:RepL Γ H ds xs):RepL Γ H (d::ds) (x::xs):=aw.mpr ⟨x,xs,rfl,h,t⟩
theorem RepL.length:∀{ds:List D}{xs:List V},RepL Γ H ds xs->ds.length=xs.length
 |[],xs,h=>by rw[bR.mp h];rfl
 |d::ds,xs,h=>by
  obtain⟨x,r,e,_,t⟩:=aw.mp h;rw[e,QS,QS,RepL.length t]
theorem RepL.append:∀{ds es:List D}{xs ys:List V},RepL Γ H ds xs->RepL Γ H es ys->RepL Γ H (ds++es) (xs++ys)
 |[],es,xs,ys,h,h'=>by rw[bR.mp h];exact h'
 |d::ds,es,xs,ys,h,h'=>by
  obtain⟨x,r,e,q,t⟩:=aw.mp h;rw[e];exact .cons q (RepL.append t h')
theorem RepL.get:∀{ds:List D}{xs:List V}{i:Nat}{d:D},RepL Γ H ds xs->ds[i]?=some d->∃x,xs[i]?=some x/\c6 Γ H d x
 |[],xs,i,d,h,e=>by simp at e
 |d::ds,xs,0,d',h,e=>by
  obtain⟨x,r,e1,q,t⟩:=aw.mp h;simp at e;subst e e1;exact⟨x,rfl,q⟩
 |d::ds,xs,i+1,d',h,e=>by
  obtain⟨x,r,e1,q,t⟩:=aw.mp h;obtain⟨y,e2,q2⟩:=RepL.get (i:=i) t (by simpa using e)
  subst e1;exact⟨y,by simpa using e2,q2⟩
theorem RepL.take:∀{ds:List D}{xs:List V}(n:Nat),RepL Γ H ds xs->RepL Γ H (ds.take n) (xs.take n)
 |_,_,0,_=>.nil
 |[],xs,n+1,h=>by rw[bR.mp h];exact .nil
 |d::ds,xs,n+1,h=>by
  obtain⟨x,r,e,q,t⟩:=aw.mp h;subst e;exact .cons q (RepL.take n t)
theorem RepL.drop:∀{ds:List D}{xs:List V}(n:Nat),RepL Γ H ds xs->RepL Γ H (ds.drop n) (xs.drop n)
 |_,_,0,h=>h
 |[],xs,n+1,h=>by rw[bR.mp h];exact .nil
 |d::ds,xs,n+1,h=>by
  obtain⟨x,r,e,q,t⟩:=aw.mp h;subst e;exact RepL.drop n t
theorem RepL.rep{ds:List D}{xs:List V}(h:RepL Γ H ds xs):∀k:Nat,RepL Γ H (replicate k ds).flatten (replicate k xs).flatten
 |0=>.nil
 |k+1=>by
  rw[Wg,Wg,VT,VT];exact h.append (RepL.rep h k)
theorem RepL.ints:∀(ns:List Int),RepL Γ H (ns.map D.int) (ns.map V.int)
 |[]=>.nil
 |n::ns=>.cons (af.mpr rfl) (RepL.ints ns)
theorem RepL.intsOf:∀{ds:List D}{xs:List V}{ns:List Int},RepL Γ H ds xs->intsOf ds=some ns->xs=ns.map V.int
 |[],xs,ns,h,e=>by
  cases e;exact bR.mp h
 |.int i::ds,xs,ns,h,e=>by
  obtain⟨x,r,e1,q,t⟩:=aw.mp h;unfold L3.intsOf at e;cases e2:L3.intsOf ds with
  |none=>rw[e2] at e;cases e
  |some ms=>
   rw[e2] at e;cases e;rw[e1,af.mp q,RepL.intsOf t e2,Wm]
 |.non::ds,xs,ns,h,e=>by cases e
 |.bl _::ds,xs,ns,h,e=>by cases e
 |.str _::ds,xs,ns,h,e=>by cases e
 |.tup _::ds,xs,ns,h,e=>by cases e
 |.lst _::ds,xs,ns,h,e=>by cases e
 |.fn _ _::ds,xs,ns,h,e=>by cases e
 |.obj _ _ _::ds,xs,ns,h,e=>by cases e
theorem RepL.blsOf:∀{ds:List D}{xs:List V}{ns:List Bool},RepL Γ H ds xs->blsOf ds=some ns->xs=ns.map V.bl
 |[],xs,ns,h,e=>by
  cases e;exact bR.mp h
 |.bl i::ds,xs,ns,h,e=>by
  obtain⟨x,r,e1,q,t⟩:=aw.mp h;unfold L3.blsOf at e;cases e2:L3.blsOf ds with
  |none=>rw[e2] at e;cases e
  |some ms=>
   rw[e2] at e;cases e;rw[e1,aS.mp q,RepL.blsOf t e2,Wm]
 |.non::ds,xs,ns,h,e=>by cases e
 |.int _::ds,xs,ns,h,e=>by cases e
 |.str _::ds,xs,ns,h,e=>by cases e
 |.tup _::ds,xs,ns,h,e=>by cases e
 |.lst _::ds,xs,ns,h,e=>by cases e
 |.fn _ _::ds,xs,ns,h,e=>by cases e
 |.obj _ _ _::ds,xs,ns,h,e=>by cases e
def Da{d:D}{v:V}(h:c6 Γ H d v)(f:flat d=true):c6 Γ H' d v:=by
 cases d with
 |non=>exact cz.mpr (cz.mp h)
 |bl _=>exact aS.mpr (aS.mp h)
 |int _=>exact af.mpr (af.mp h)
 |str _=>exact aV.mpr (aV.mp h)
 |_=>cases f
end
def MO(kvs:List (List Int×Int)):List (List Key×V):=kvs.map λp=>(p.1.map Sum.inl,V.int p.2)
mutual
def xN(Γ:Ct)(H:Hp):Tr->V->List (Vp×List V)->Prop
 |.sh d,v,T=>T=[]/\c6 Γ H d v
 |.lst ts,v,T=>∃l vs T',v=.ref l/\T=(l,vs)::T'/\kH Γ H ts vs T'
 |.ins _ _ _,_,_=>False
def kH(Γ:Ct)(H:Hp):List Tr->List V->List (Vp×List V)->Prop
 |[],vs,T=>vs=[]/\T=[]
 |t::ts,vs,T=>∃v r T1 T2,vs=v::r/\T=T1++T2/\xN Γ H t v T1/\kH Γ H ts r T2
end
mutual
theorem xN.monoX{Γ:Ct}{H H':Hp}(e:lK H H'):∀{t:Tr}{v:V}{T:List (Vp×List V)},xN Γ H t v T->xN Γ H' t v T
 |.sh d,_,_,r=>by unfold xN at r ⊢;exact⟨r.1,r.2.monoX e⟩
 |.lst ts,_,_,r=>by
  unfold xN at r ⊢;obtain⟨l,vs,T',h1,h2,h3⟩:=r;exact⟨l,vs,T',h1,h2,kH.monoX e h3⟩
 |.ins _ _ _,_,_,r=>by unfold xN at r;exact r.elim
theorem kH.monoX{Γ:Ct}{H H':Hp}(e:lK H H'):∀{ts:List Tr}{vs:List V}{T:List (Vp×List V)},kH Γ H ts vs T->kH Γ H' ts vs T
 |[],_,_,r=>by unfold kH at r ⊢;exact r
 |t::ts,_,_,r=>by
  unfold kH at r ⊢;obtain⟨v,r',T1,T2,h1,h2,h3,h4⟩:=r;exact⟨v,r',T1,T2,h1,h2,xN.monoX e h3,kH.monoX e h4⟩
end
def xO(Γ:Ct)(H:Hp):Tr->HO->List (Vp×List V)->Prop
 |.sh _,_,_=>False
 |.lst ts,u,T=>∃xs,u=.lst xs/\kH Γ H ts xs T
 |.ins c ns ts,u,T=>∃dx xs,u=.ins (Γ.cls c) dx (ns.zip xs)/\kH Γ H ts xs T
theorem xO.monoX{Γ:Ct}{H H':Hp}(e:lK H H'){t:Tr}{u:HO}{T:List (Vp×List V)}(h:xO Γ H t u T):xO Γ H' t u T:=by
 cases t with
 |sh _=>exact h
 |lst ts=>obtain⟨xs,h1,h2⟩:=h;exact⟨xs,h1,h2.monoX e⟩
 |ins c ns ts=>obtain⟨dx,xs,h1,h2⟩:=h;exact⟨dx,xs,h1,h2.monoX e⟩
def nr(Γ:Ct)(Hs:Hp):O->HO->Prop
 |.lst ds,ho=>∃xs,ho=.lst xs/\RepL Γ Hs ds xs
 |.obj c ns ds,ho=>∃dx xs,ho=.ins (Γ.cls c) dx (ns.zip xs)/\RepL Γ Hs ds xs
 |.dic _,_=>False
 |.par _ _,_=>False
 |.fdic _,_=>False
 |.tab _,_=>False
 |.tre t,ho=>∃u T,ho=.big u T/\xO Γ Hs t u T
 |.dik kvs,ho=>ho=.dK (kvs.map λp=>(Sum.inl p.1,V.int p.2))
def kG(Γ:Ct)(Hs:Hp)(a:Vp):O->HO->Prop
 |.lst ds,ho=>∃xs,ho=.lst xs/\RepL Γ Hs ds xs
 |.obj c ns ds,ho=>∃dx xs,ho=.ins (Γ.cls c) dx (ns.zip xs)/\RepL Γ Hs ds xs
 |.dic kvs,ho=>ho=.dT (MO kvs)
 |.par b o,ho=>a=b/\kG Γ Hs a o ho
 |.fdic kvs,ho=>∃ob,ho=.frz ob (.dT (MO kvs))
 |.tab _,_=>False
 |.tre t,ho=>∃u T,ho=.big u T/\xO Γ Hs t u T
 |.dik kvs,ho=>ho=.dK (kvs.map λp=>(Sum.inl p.1,V.int p.2))
def nr.w{Γ:Ct}{H:Hp}{o:O}{ho:HO}{a:Vp}(h:nr Γ H o ho):kG Γ H a o ho:=by
 cases o with
 |lst ds=>exact h
 |obj c ns ds=>exact h
 |tre _=>exact h
 |dik _=>exact h
 |_=>exact h.elim
theorem kG.o{Γ:Ct}{H:Hp}{o:O}{ho:HO}{a:Vp}(h:kG Γ H a o ho)(n:∀kvs,o≠.dic kvs)(n2:∀b u,o≠.par b u)(n3:∀kvs,o≠.fdic kvs)(n4:∀kvs,o≠.tab kvs)(n5:∀t,o≠.tre t):nr Γ H o ho:=by
 cases o with
 |lst ds=>exact h
 |obj c ns ds=>exact h
 |dic kvs=>exact(n kvs rfl).elim
 |par b u=>exact(n2 b u rfl).elim
 |fdic kvs=>exact(n3 kvs rfl).elim
 |tab kvs=>exact(n4 kvs rfl).elim
 |tre t=>exact(n5 t rfl).elim
 |dik _=>exact h
theorem kG.monoX{Γ:Ct}{H H':Hp}(e:lK H H'){a:Vp}:∀{o:O}{ho:HO},kG Γ H a o ho->kG Γ H' a o ho
 |.lst ds,_,h=>by obtain⟨xs,e1,r⟩:=h;exact⟨xs,e1,r.monoX e⟩
 |.obj c ns ds,_,h=>by obtain⟨dx,xs,e1,r⟩:=h;exact⟨dx,xs,e1,r.monoX e⟩
 |.dic _,_,h=>h
 |.par b o,_,h=>⟨h.1,kG.monoX e h.2⟩
 |.fdic _,_,h=>h
 |.tab _,_,h=>h
 |.tre _,_,h=>by obtain⟨u,T,e1,r⟩:=h;exact⟨u,T,e1,r.monoX e⟩
 |.dik _,_,h=>h
def kG.mono{Γ:Ct}{H H':Hp}(e:aM H H'){a:Vp}{o:O}{ho:HO}(h:kG Γ H a o ho):kG Γ H' a o ho:=h.monoX (zT e)
theorem nr.mono{Γ:Ct}{H H':Hp}(e:aM H H'){o:O}{ho:HO}(h:nr Γ H o ho):nr Γ H' o ho:=by
 cases o with
 |dic _=>exact h.elim
 |par _ _=>exact h.elim
 |fdic _=>exact h.elim
 |tab _=>exact h.elim
 |tre _=>obtain⟨u,T,e1,r⟩:=h;exact⟨u,T,e1,r.monoX (zT e)⟩
 |dik _=>exact h
 |lst ds=>obtain⟨xs,e1,r⟩:=h;exact⟨xs,e1,r.mono e⟩
 |obj c ns ds=>obtain⟨dx,xs,e1,r⟩:=h;exact⟨dx,xs,e1,r.mono e⟩
theorem nr.val{Γ:Ct}{H:Hp}{o:O}{ho:HO}{a:Vp}(h:nr Γ H o ho)(e:H a=some ho):c6 Γ H o.val (.ref a):=by
 cases o with
 |dic _=>exact h.elim
 |par _ _=>exact h.elim
 |fdic _=>exact h.elim
 |tab _=>exact h.elim
 |lst ds=>obtain⟨xs,e1,r⟩:=h;subst e1;exact b6.mpr ⟨a,xs,rfl,.of e,r⟩
 |obj c ns ds=>obtain⟨dx,xs,e1,r⟩:=h;subst e1;exact mj.mpr ⟨a,dx,xs,rfl,e,r⟩
 |_=>exact yc.mpr ⟨a,[],rfl,Γ.opq H a,.nil⟩
structure Grow(Hs H Hs' H':Hp):Prop where
 s:aM Hs Hs'
 h:aM H H'
 i:aM Hs' H'
 n:∀b o,Hs' b=some o->Hs b=some o\/H b=none
theorem Grow.refl{Hs H:Hp}(e:aM Hs H):Grow Hs H Hs H:=⟨.refl _,.refl _,e,λ_ _ q=>.inl q⟩
theorem Grow.trans{Hs H Hs1 H1 Hs2 H2:Hp}(a:Grow Hs H Hs1 H1)(b:Grow Hs1 H1 Hs2 H2):Grow Hs H Hs2 H2:=
 ⟨a.s.trans b.s,a.h.trans b.h,b.i,λc o q=>(b.n c o q).elim (λz=>a.n c o z) λz=>.inr (a.h.free z)⟩
def Grow.only{Hs H H':Hp}(e:aM Hs H)(k:aM H H'):Grow Hs H Hs H':=⟨.refl _,k,e.trans k,λ_ _ q=>.inl q⟩
def bZ{H:Hp}{p:Vp}{o:HO}(h:H p=none):aM H (cD H p o):=λb u e=>by rw[az (aO e h)];exact e
def Grow.new{Hs H:Hp}{p:Vp}{o:HO}(e:aM Hs H)(h:H p=none):Grow Hs H (cD Hs p o) (cD H p o):=
 ⟨bZ (e.free h),bZ h,λb u q=>by
  by_cases hb:b=p
  ·subst hb;rw[aQ] at q ⊢;exact q
  ·rw[az hb] at q ⊢;exact e _ _ q,λb u q=>by
  by_cases hb:b=p
  ·subst hb;exact .inr h
  ·rw[az hb] at q;exact .inl q⟩
def Grow.newOwn{Hs H:Hp}{p:Vp}{o:HO}(e:aM Hs H)(h:H p=none):Grow Hs H Hs (cD H p o):=.only e (bZ h)
def Grow.share{Hs H Hs' H':Hp}{a:Vp}{ho:HO}(g:Grow Hs H Hs' H')(h0:H a=none)(h1:Hs' a=none)(h2:H' a=some ho):Grow Hs H (cD Hs' a ho) H'/\aM Hs' (cD Hs' a ho):=
 ⟨⟨g.s.trans (bZ h1),g.h,λb u q=>by
  by_cases hb:b=a
  ·subst hb;rw[aQ] at q;cases q;exact h2
  ·rw[az hb] at q;exact g.i _ _ q,λb u q=>by
  by_cases hb:b=a
  ·subst hb;exact .inr h0
  ·rw[az hb] at q;exact g.n _ _ q⟩,bZ h1⟩
inductive Mu(Γ:Ct)(H Hs' H':Hp)(o:O)(v:V):Prop
 |mk (a:Vp) (ho:HO) (ev:v=.ref a) (h0:H a=none) (h1:Hs' a=none) (h2:H' a=some ho) (q:nr Γ Hs' o ho)
def fe(Γ:Ct)(H Hs' H':Hp):S->V->Prop
 |.sh d,v=>c6 Γ Hs' d v
 |.own o,v=>Mu Γ H Hs' H' o v
 |.two d a o,v=>c6 Γ Hs' d v/\∃ho,Hs' a=none/\H' a=some ho/\kG Γ Hs' a o ho
 |.thr d a o b u,v=>c6 Γ Hs' d v/\(∃ho,Hs' a=none/\H' a=some ho/\kG Γ Hs' a o ho)/\∃ho,Hs' b=none/\H' b=some ho/\kG Γ Hs' b u ho
def fe.of{Γ:Ct}{H Hs' H':Hp}{d:D}{v:V}(h:c6 Γ Hs' d v):fe Γ H Hs' H' (.sh d) v:=h
theorem fe.share{Γ:Ct}{Hs H Hs' H':Hp}{s:S}{v:V}(g:Grow Hs H Hs' H')(r:fe Γ H Hs' H' s v):∃Hs'',Grow Hs H Hs'' H'/\aM Hs' Hs''/\c6 Γ Hs'' s.val v:=by
 cases s with
 |sh d=>exact⟨Hs',g,.refl _,r⟩
 |own o=>
  obtain⟨a,ho,rfl,h0,h1,h2,q⟩:=r;obtain⟨g',e⟩:=g.share h0 h1 h2;exact⟨_,g',e,(q.mono e).val aQ⟩
 |two d a o=>exact⟨Hs',g,.refl _,r.1⟩
 |thr d a o b u=>exact⟨Hs',g,.refl _,r.1⟩
def fe.look{Γ:Ct}{Hs H Hs' H':Hp}{s:S}{v:V}(g:Grow Hs H Hs' H')(r:fe Γ H Hs' H' s v):c6 Γ H' s.val v:=by
 cases s with
 |sh d=>exact c6.mono g.i r
 |own o=>
  obtain⟨a,ho,rfl,h0,h1,h2,q⟩:=r;exact(q.mono g.i).val h2
 |two d a o=>exact c6.mono g.i r.1
 |thr d a o b u=>exact c6.mono g.i r.1
def fe.back{Γ:Ct}{H H1 Hs' H':Hp}{s:S}{v:V}(k:aM H H1)(r:fe Γ H1 Hs' H' s v):fe Γ H Hs' H' s v:=by
 cases s with
 |sh d=>exact r
 |own o=>
  obtain⟨a,ho,e,h0,h1,h2,q⟩:=r;exact⟨a,ho,e,k.free h0,h1,h2,q⟩
 |two d a o=>exact r
 |thr d a o b u=>exact r
inductive Lp(Γ:Ct)(B1 Hs H:Hp)(x:Option (Option V))(o:O):Prop
 |mk (a:Vp) (ho:HO) (e1:x=some (some (.ref a))) (e2:B1 a=none) (e3:Hs a=none) (e4:H a=some ho) (q:kG Γ Hs a o ho)
structure RE(Γ:Ct)(B0 B1 Hs H:Hp)(σ:L2.St)(ρ:aJ):Prop where
 b:Grow B0 B1 Hs H
 sh:∀(i:Nat)(d:D),ρ[i]?=some (some (.sh d))->∃v,σ[i]?=some (some v)/\c6 Γ Hs d v
 own:∀(i:Nat)(o:O),ρ[i]?=some (some (.own o))->Lp Γ B1 Hs H σ[i]? o
 apart:∀(i j:Nat)(o u:O)(a:Vp),i≠j->ρ[i]?=some (some (.own o))->ρ[j]?=some (some (.own u))->σ[i]?=some (some (.ref a))->σ[j]?≠some (some (.ref a))
 len:ρ.length=σ.length
 tb:aM Γ.tb Hs
section
variable{Γ:Ct}{B0 B1 Hs H Hs' H':Hp}{σ:L2.St}{ρ:aJ}
theorem RE.grow(r:RE Γ B0 B1 Hs H σ ρ)(g:Grow Hs H Hs' H'):RE Γ B0 B1 Hs' H' σ ρ where
 tb:=r.tb.trans g.s
 b:=r.b.trans g
 sh:=λi d e=>let ⟨v,e1,q⟩:=r.sh i d e;⟨v,e1,q.mono g.s⟩
 own:=λi o e=>by
  obtain⟨a,ho,e1,e2,e3,e4,q⟩:=r.own i o e;refine⟨a,ho,e1,e2,?_,g.h _ _ e4,q.mono g.s⟩;cases z:Hs' a with
  |none=>rfl
  |some u=>
   rcases g.n a u z with z'|z'
   ·rw[e3] at z';cases z'
   ·rw[e4] at z';cases z'
 apart:=r.apart
 len:=r.len
def RE.setSh(r:RE Γ B0 B1 Hs H σ ρ){i:Nat}{d:D}{v:V}(hi:i<σ.length)(q:c6 Γ Hs d v):RE Γ B0 B1 Hs H (σ.set i (some v)) (ρ.set i (some (.sh d))) where
 tb:=r.tb
 b:=r.b
 sh:=λj e hj=>by
  by_cases h:i=j
  ·subst h;rw[QR (by rw[r.len];exact hi)] at hj
   cases hj;exact⟨v,QR hi,q⟩
  ·rw[QQ h] at hj ⊢;exact r.sh j e hj
 own:=λj o hj=>by
  by_cases h:i=j
  ·subst h;rw[QR (by rw[r.len];exact hi)] at hj
   cases hj
  ·rw[QQ h] at hj ⊢;exact r.own j o hj
 apart:=λj k o u a hjk hj hk ha=>by
  have n1:i≠j:=λz=>by subst z;rw[QR (by rw[r.len];exact hi)] at hj;cases hj
  have n2:i≠k:=λz=>by subst z;rw[QR (by rw[r.len];exact hi)] at hk;cases hk
  rw[QQ n1] at hj ha;rw[QQ n2] at hk ⊢;exact r.apart j k o u a hjk hj hk ha
 len:=by rw[VW,VW,r.len]
def RE.setOwn(r:RE Γ B0 B1 Hs H σ ρ){i:Nat}{o:O}{a:Vp}{ho:HO}(hi:i<σ.length)(b1:B1 a=none)(h1:Hs a=none)(h2:H a=some ho)(q:kG Γ Hs a o ho)
  (new:∀(j:Nat)(u:O),j≠i->ρ[j]?=some (some (.own u))->σ[j]?≠some (some (.ref a))):RE Γ B0 B1 Hs H (σ.set i (some (.ref a))) (ρ.set i (some (.own o))) where
 tb:=r.tb
 b:=r.b
 sh:=λj e hj=>by
  by_cases h:i=j
  ·subst h;rw[QR (by rw[r.len];exact hi)] at hj
   cases hj
  ·rw[QQ h] at hj ⊢;exact r.sh j e hj
 own:=λj u hj=>by
  by_cases h:i=j
  ·subst h;rw[QR (by rw[r.len];exact hi)] at hj
   cases hj;exact⟨a,ho,QR hi,b1,h1,h2,q⟩
  ·rw[QQ h] at hj ⊢;exact r.own j u hj
 apart:=λj k u u' c hjk hj hk ha=>by
  by_cases hij:i=j
  ·subst hij;rw[QR hi] at ha;cases ha;rw[QQ hjk] at hk ⊢;exact new k u' (W8 hjk) hk
  ·rw[QQ hij] at hj ha;by_cases hik:i=k
   ·subst hik;rw[QR hi];intro z;cases z;exact new j u (W8 hij) hj ha
   ·rw[QQ hik] at hk ⊢;exact r.apart j k u u' c hjk hj hk ha
 len:=by rw[VW,VW,r.len]
def RE.setS(r:RE Γ B0 B1 Hs H σ ρ)(g:Grow Hs H Hs' H'){i:Nat}{s:S}{v:V}(hi:i<σ.length)(q:fe Γ H Hs' H' s v):RE Γ B0 B1 Hs' H' (σ.set i (some v)) (ρ.set i (some s)):=by
 cases s with
 |sh d=>exact(r.grow g).setSh hi q
 |own o=>
  obtain⟨a,ho,rfl,h0,h1,h2,q⟩:=q;refine(r.grow g).setOwn hi (r.b.h.free h0) h1 h2 q.w λj u _ hj z=>?_;obtain⟨c,hc,e1,_,_,e4,_⟩:=r.own j u hj;rw[z] at e1;cases e1;rw[h0] at e4;cases e4
 |two d a o=>
  have r1:=(r.grow g).setSh hi q.1;have key:∀(j:Nat)(s:S),(∀d a o,s≠.two d a o)->(ρ.set i (some (.two d a o)))[j]?=some (some s)->(ρ.set i (some (.sh d)))[j]?=some (some s):=λj s hn hj=>by
   by_cases h:i=j
   ·subst h;rw[QR (by rw[r.len];exact hi)] at hj
    cases hj;exact(hn _ _ _ rfl).elim
   ·rw[QQ h] at hj ⊢;exact hj
  exact⟨r1.b,λj e hj=>r1.sh j e (key j _ (λ_ _ _ z=>nomatch z) hj),λj u hj=>r1.own j u (key j _ (λ_ _ _ z=>nomatch z) hj),λj k u u' c hjk hj hk ha=>r1.apart j k u u' c hjk (key j _ (λ_ _ _ z=>nomatch z) hj) (key k _ (λ_ _ _ z=>nomatch z) hk) ha,by rw[VW,VW,r.len],r1.tb⟩
 |thr d a o b u=>
  have r1:=(r.grow g).setSh hi q.1;have key:∀(j:Nat)(s:S),(∀d a o b u,s≠.thr d a o b u)->(ρ.set i (some (.thr d a o b u)))[j]?=some (some s)->(ρ.set i (some (.sh d)))[j]?=some (some s):=λj s hn hj=>by
   by_cases h:i=j
   ·subst h;rw[QR (by rw[r.len];exact hi)] at hj
    cases hj;exact(hn _ _ _ _ _ rfl).elim
   ·rw[QQ h] at hj ⊢;exact hj
  exact⟨r1.b,λj e hj=>r1.sh j e (key j _ (λ_ _ _ _ _ z=>nomatch z) hj),λj u hj=>r1.own j u (key j _ (λ_ _ _ _ _ z=>nomatch z) hj),λj k u u' c hjk hj hk ha=>r1.apart j k u u' c hjk (key j _ (λ_ _ _ _ _ z=>nomatch z) hj) (key k _ (λ_ _ _ _ _ z=>nomatch z) hk) ha,by rw[VW,VW,r.len],r1.tb⟩
def RE.write(r:RE Γ B0 B1 Hs H σ ρ){i:Nat}{o o':O}{a:Vp}{ho':HO}(e:ρ[i]?=some (some (.own o)))(ea:σ[i]?=some (some (.ref a)))(q:kG Γ Hs a o' ho'):RE Γ B0 B1 Hs (cD H a ho') σ (ρ.set i (some (.own o'))):=by
 obtain⟨c,ho,e1,e2,e3,e4,_⟩:=r.own i o e;rw[ea] at e1;cases e1;have hi:i<ρ.length:=(QM.mp e).1;refine⟨⟨r.b.s,λb u z=>?_,λb u z=>?_,r.b.n⟩,λj d hj=>?_,λj u hj=>?_,λj k u u' c hjk hj hk ha=>?_,by rw[VW,r.len],r.tb⟩
 ·rw[az (aO z e2)];exact r.b.h _ _ z
 ·rw[az (aO z e3)];exact r.b.i _ _ z
 ·by_cases h:i=j
  ·subst h;rw[QR hi] at hj;cases hj
  ·rw[QQ h] at hj;exact r.sh j d hj
 ·by_cases h:i=j
  ·subst h;rw[QR hi] at hj;cases hj;exact⟨a,ho',ea,e2,e3,aQ,q⟩
  ·rw[QQ h] at hj;obtain⟨c,hc,f1,f2,f3,f4,f5⟩:=r.own j u hj;refine⟨c,hc,f1,f2,f3,?_,f5⟩;rw[az]
   ·exact f4
   ·intro z;subst z;exact r.apart i j o u c h e hj ea f1
 ·have old:∀(m:Nat)(u:O),(ρ.set i (some (.own o')))[m]?=some (some (.own u))->∃u',ρ[m]?=some (some (.own u')):=λm u hm=>by
   by_cases h:i=m
   ·subst h;exact⟨o,e⟩
   ·rw[QQ h] at hm;exact⟨u,hm⟩
  obtain⟨x,hx⟩:=old j u hj;obtain⟨y,hy⟩:=old k u' hk;exact r.apart j k x y c hjk hx hy ha
theorem RE.dem(r:RE Γ B0 B1 Hs H σ ρ)(i:Nat):∃Hs',aM Hs Hs'/\RE Γ B0 B1 Hs' H σ (dem i ρ):=by
 unfold L3.dem;split
 ·exact⟨Hs,.refl _,r⟩
 ·exact⟨Hs,.refl _,r⟩
 ·exact⟨Hs,.refl _,r⟩
 ·exact⟨Hs,.refl _,r⟩
 ·exact⟨Hs,.refl _,r⟩
 ·rename_i o hno hno2 hno3 hno4 hno5 e;obtain⟨a,ho,e1,e2,e3,e4,q⟩:=r.own i o e;have q:=q.o (λkvs z=>by subst z;exact hno kvs rfl) (λb u z=>by subst z;exact hno2 b u rfl) (λkvs z=>by subst z;exact hno3 kvs rfl) (λkvs z=>by subst z;exact hno4 kvs rfl) λt z=>by subst z;exact hno5 t rfl
  have hi:i<ρ.length:=(QM.mp e).1;have sm:aM Hs (cD Hs a ho):=bZ e3;have sh':aM (cD Hs a ho) H:=λb u z=>by
   by_cases hb:b=a
   ·subst hb;rw[aQ] at z;cases z;exact e4
   ·rw[az hb] at z;exact r.b.i _ _ z
  refine⟨cD Hs a ho,sm,⟨⟨r.b.s.trans sm,r.b.h,sh',λb u z=>?_⟩,λj d hj=>?_,λj u hj=>?_,λj k u u' c hjk hj hk ha=>?_,by rw[VW,r.len],r.tb.trans sm⟩⟩
  ·by_cases hb:b=a
   ·subst hb;exact .inr e2
   ·rw[az hb] at z;exact r.b.n _ _ z
  ·by_cases h:i=j
   ·subst h;rw[QR hi] at hj;cases hj;exact⟨.ref a,e1,(q.mono sm).val aQ⟩
   ·rw[QQ h] at hj;obtain⟨v,f1,f2⟩:=r.sh j d hj;exact⟨v,f1,f2.mono sm⟩
  ·by_cases h:i=j
   ·subst h;rw[QR hi] at hj;cases hj
   ·rw[QQ h] at hj;obtain⟨c,hc,f1,f2,f3,f4,f5⟩:=r.own j u hj;refine⟨c,hc,f1,f2,?_,f4,f5.mono sm⟩;rw[az]
    ·exact f3
    ·intro z;subst z;exact r.apart i j o u c h e hj e1 f1
  ·have n1:i≠j:=λz=>by subst z;rw[QR hi] at hj;cases hj
   have n2:i≠k:=λz=>by subst z;rw[QR hi] at hk;cases hk
   rw[QQ n1] at hj;rw[QQ n2] at hk;exact r.apart j k u u' c hjk hj hk ha
 ·exact⟨Hs,.refl _,r⟩
end
abbrev XW:=D->Hp->Hp->Prop
def RQ(Γ:Ct)(W:XW)(Hs H:Hp)(r:R)(Q:VK):Prop:=match r with
 |.ok s=>∀v Hs' H',Grow Hs H Hs' H'->fe Γ H Hs' H' s v->Q v H'
 |.exc x=>∀Hs' H',Grow Hs H Hs' H'->W x Hs' H'
def RL(Γ:Ct)(W:XW)(Hs H:Hp)(r:R)(Q:VK):Prop:=match r with
 |.ok s=>∀v Hs' H',Grow Hs H Hs' H'->c6 Γ H' s.val v->Q v H'
 |.exc x=>∀Hs' H',Grow Hs H Hs' H'->W x Hs' H'
def RB(W:XW)(Hs H:Hp)(r:R)(Q:Bool->Hp->Prop):Prop:=match r with
 |.ok s=>∃b,s.val=.bl b/\∀Hs' H',Grow Hs H Hs' H'->Q b H'
 |.exc x=>∀Hs' H',Grow Hs H Hs' H'->W x Hs' H'
section
variable{Γ:Ct}{W:XW}{Hs H Hs1 H1:Hp}{r:R}{Q Q':VK}
def RQ.grow(q:RQ Γ W Hs H r Q)(g:Grow Hs H Hs1 H1):RQ Γ W Hs1 H1 r Q:=by
 cases r with
 |ok s=>exact λv Hs' H' g' rs=>q v Hs' H' (g.trans g') (rs.back g.h)
 |exc x=>exact λHs' H' g'=>q Hs' H' (g.trans g')
def RQ.mono(q:RQ Γ W Hs H r Q)(h:∀v H,Q v H->Q' v H):RQ Γ W Hs H r Q':=by
 cases r with
 |ok s=>exact λv Hs' H' g' rs=>h _ _ (q v Hs' H' g' rs)
 |exc x=>exact q
def RL.mono(q:RL Γ W Hs H r Q)(h:∀v H,Q v H->Q' v H):RL Γ W Hs H r Q':=by
 cases r with
 |ok s=>exact λv Hs' H' g' rs=>h _ _ (q v Hs' H' g' rs)
 |exc x=>exact q
end
inductive tD(Γ:Ct)(W:XW)(g:ME)(σ:L2.St)(H:Hp)(Q:VK):Prop
 |mk (B0 B1 Hs:Hp) (ρ:aJ) (r:R) (re:RE Γ B0 B1 Hs H σ ρ) (e:g ρ=some r) (q:RQ Γ W Hs H r Q)
inductive tL(Γ:Ct)(W:XW)(g:ME)(σ:L2.St)(H:Hp)(Q:VK):Prop
 |mk (B0 B1 Hs:Hp) (ρ:aJ) (r:R) (re:RE Γ B0 B1 Hs H σ ρ) (e:g ρ=some r) (q:RL Γ W Hs H r Q)
inductive tT(Γ:Ct)(W:XW)(g:ME)(σ:L2.St)(H:Hp)(Q:Bool->Hp->Prop):Prop
 |mk (B0 B1 Hs:Hp) (ρ:aJ) (r:R) (re:RE Γ B0 B1 Hs H σ ρ) (e:g ρ=some r) (q:RB W Hs H r Q)
def qu(Γ:Ct)(W:XW):List ME->TA
 |[]=>Fn
 |g::gs=>CU (tD Γ W g) (qu Γ W gs)
def sO(Γ:Ct)(W:XW):List ME->TA
 |[]=>Fn
 |g::gs=>CU (tL Γ W g) (sO Γ W gs)
section
variable{Γ:Ct}{W:XW}{B0 B1 Hs H:Hp}{σ:L2.St}{ρ:aJ}{r:R}{Q Q':VK}{g ga:ME}{k:D->Option R}
theorem tD.mono(t:tD Γ W g σ H Q)(h:∀v H,Q v H->Q' v H):tD Γ W g σ H Q':=by
 obtain⟨B0,B1,Hs,ρ,r,re,e,q⟩:=t;exact⟨B0,B1,Hs,ρ,r,re,e,q.mono h⟩
theorem tL.mono(t:tL Γ W g σ H Q)(h:∀v H,Q v H->Q' v H):tL Γ W g σ H Q':=by
 obtain⟨B0,B1,Hs,ρ,r,re,e,q⟩:=t;exact⟨B0,B1,Hs,ρ,r,re,e,q.mono h⟩
def tL.toD(t:tL Γ W g σ H Q):tD Γ W g σ H Q:=by
 obtain⟨B0,B1,Hs,ρ,r,re,e,q⟩:=t;refine⟨B0,B1,Hs,ρ,r,re,e,?_⟩;cases r with
 |ok s=>exact λv Hs' H' g' rs=>q v Hs' H' g' (rs.look g')
 |exc x=>exact q
theorem bW(re:RE Γ B0 B1 Hs H σ ρ)(e:b0 (ga ρ) k=some r)(q:RQ Γ W Hs H r Q):
  tD Γ W ga σ H (λv H1=>∃Hs1 d,Grow Hs H Hs1 H1/\RE Γ B0 B1 Hs1 H1 σ ρ/\c6 Γ Hs1 d v/\k d=some r/\RQ Γ W Hs1 H1 r Q):=by
 cases h:ga ρ with
 |none=>rw[h] at e;cases e
 |some x=>
  rw[h] at e;refine⟨B0,B1,Hs,ρ,x,re,h,?_⟩;cases x with
  |exc y=>cases e;exact q
  |ok s=>
   intro v Hs' H' g' rs;obtain⟨Hs'',g2,_,rp⟩:=rs.share g';exact⟨Hs'',s.val,g2,re.grow g2,rp,e,q.grow g2⟩
theorem dB:∀(gs:List ME){σ:L2.St}{H:Hp}{Q Q':List V->Hp->Prop},(∀v H,Q v H->Q' v H)->qu Γ W gs σ H Q->qu Γ W gs σ H Q'
 |[],_,_,_,_,h,t=>h _ _ t
 |g::gs,_,_,_,_,h,t=>tD.mono t λv H1 t'=>dB gs (λvs H2 z=>h _ _ z) t'
theorem jS:∀(gs:List ME){σ:L2.St}{H:Hp}{Q Q':List V->Hp->Prop},(∀v H,Q v H->Q' v H)->sO Γ W gs σ H Q->sO Γ W gs σ H Q'
 |[],_,_,_,_,h,t=>h _ _ t
 |g::gs,_,_,_,_,h,t=>tL.mono t λv H1 t'=>jS gs (λvs H2 z=>h _ _ z) t'
theorem l7:∀(gs:List ME){Hs H:Hp}{k:List D->Option R},RE Γ B0 B1 Hs H σ ρ->br gs ρ k=some r->RQ Γ W Hs H r Q->
  qu Γ W gs σ H (λvs H1=>∃Hs1 ds,Grow Hs H Hs1 H1/\RE Γ B0 B1 Hs1 H1 σ ρ/\RepL Γ Hs1 ds vs/\k ds=some r/\RQ Γ W Hs1 H1 r Q)
 |[],Hs,H,k,re,e,q=>⟨Hs,[],.refl re.b.i,re,.nil,e,q⟩
 |g::gs,Hs,H,k,re,e,q=>by
  refine(bW re e q).mono λv H1 t'=>?_;obtain⟨Hs1,d,g1,re1,rp,e1,q1⟩:=t';refine dB gs (λvs H2 t'=>?_) (l7 gs re1 e1 q1);obtain⟨Hs2,ds,g2,re2,rps,e2,q2⟩:=t';exact⟨Hs2,d::ds,g1.trans g2,re2,.cons (rp.mono g2.s) rps,e2,q2⟩
theorem qv:∀(gs:List ME){Hs H:Hp}{k:List D->Option R}{d:D},RE Γ B0 B1 Hs H σ ρ->qe (br gs ρ k)=some (.ok (.sh d))->RQ Γ W Hs H (.ok (.sh d)) Q->
  sO Γ W gs σ H (λvs H1=>∃Hs1 ds,Grow Hs H Hs1 H1/\RE Γ B0 B1 Hs1 H1 σ ρ/\RepL Γ H1 ds vs/\qe (k ds)=some (.ok (.sh d))/\RQ Γ W Hs1 H1 (.ok (.sh d)) Q)
 |[],Hs,H,k,d,re,e,q=>⟨Hs,[],.refl re.b.i,re,.nil,e,q⟩
 |g::gs,Hs,H,k,d,re,e,q=>by
  have e':qe (b0 (g ρ) λx=>br gs ρ λds=>k (x::ds))=some (.ok (.sh d)):=e;cases h:g ρ with
  |none=>rw[h] at e';cases e'
  |some x=>
   rw[h] at e';cases x with
   |exc y=>cases e'
   |ok s=>
    refine⟨B0,B1,Hs,ρ,.ok s,re,h,λv Hs1 H1 g1 rp=>?_⟩;refine jS gs (λvs H2 t'=>?_) (qv gs (k:=λds=>k (s.val::ds)) (re.grow g1) e' (q.grow g1));obtain⟨Hs2,ds,g2,re2,rps,e2,q2⟩:=t';exact⟨Hs2,s.val::ds,g1.trans g2,re2,.cons (rp.mono g2.h) rps,e2,q2⟩
end
def PE.imp{X:Cx}{e:Vt}{t t':TE}(h:PE X e t)(i:∀pins s σ H Q,aH X pins σ H s->t' σ H Q->t σ H Q):PE X e t':=λpins s σ H Q I q=>h pins s σ H Q I (i pins s σ H Q I q)
def PT.imp{X:Cx}{e:Vt}{t t':TT}(h:PT X e t)(i:∀pins s σ H Q,aH X pins σ H s->t' σ H Q->t σ H Q):PT X e t':=λpins s σ H Q I q=>h pins s σ H Q I (i pins s σ H Q I q)
def PW.imp{X:Cx}{e:Vt}{t t':TT}(h:PW X e t)(i:∀σ H Q,t' σ H Q->t σ H Q):PW X e t':=λw pins s σ H Q I q=>h w pins s σ H Q I (i σ H Q q)
def PS.imp{X:Cx}{e:Vu}{t t':TS}(h:PS X e t)(i:∀pins s σ H D,aH X pins σ H s->t' D σ H->t D σ H):PS X e t':=λpins s σ H D I q=>h pins s σ H D I (i pins s σ H D I q)
def qz.imp{X:Cx}{e:List Vu}{t t':TS}(h:qz X e t)(i:∀D σ H,t' D σ H->t D σ H):qz X e t':=λpins s σ H D I q=>h pins s σ H D I (i D σ H q)
abbrev PD(X:Cx)(Γ:Ct)(W:XW)(e:Vt)(g:ME):Prop:=PE X e (tD Γ W g)
abbrev PL(X:Cx)(Γ:Ct)(W:XW)(e:Vt)(g:ME):Prop:=PE X e (tL Γ W g)
abbrev AI(X:Cx)(Γ:Ct)(W:XW)(e:Vt)(g:ME):Prop:=PT X e (tT Γ W g)
abbrev nW(X:Cx)(Γ:Ct)(W:XW)(e:Vt)(g:ME):Prop:=PW X e (tT Γ W g)
abbrev nz(X:Cx)(Γ:Ct)(W:XW)(es:List Vt)(gs:List ME):Prop:=PA X es (qu Γ W gs)
abbrev K9(X:Cx)(Γ:Ct)(W:XW)(es:List Vt)(gs:List ME):Prop:=PA X es (sO Γ W gs)
section
variable{X:Cx}{Γ:Ct}{W:XW}{e a b:Vt}{g ga gb:ME}{pos:Pos}
def PD.look(h:PD X Γ W e g):PL X Γ W e g:=PE.imp h λ_ _ _ _ _ _ t=>t.toD
def a0{i:Nat}(h:PE X e (qR i)):PD X Γ W e (a5 i):=PE.imp h λ_ _ σ H Q _ ⟨B0,B1,Hs,ρ,r,re,e1,q⟩=>by
 unfold a5 at e1;split at e1
 ·rename_i d hd;cases e1;obtain⟨v,e2,rp⟩:=re.sh i d hd;exact⟨v,e2,q v Hs H (.refl re.b.i) rp⟩
 ·cases e1
def aP{i:Nat}(h:PE X e (qR i)):PL X Γ W e (dR i):=PE.imp h λ_ _ σ H Q _ ⟨B0,B1,Hs,ρ,r,re,e1,q⟩=>by
 unfold dR at e1;split at e1
 ·cases e1
 ·cases e1
 ·cases e1
 ·cases e1
 ·cases e1
 ·cases e1
 ·cases e1
 ·rename_i s hno hno2 hno4 hno5 hno6 hno3 hno7 hd;cases e1;cases s with
  |two d a o=>exact(hno3 d a o rfl).elim
  |thr d a o b u=>exact(hno7 d a o b u rfl).elim
  |sh d=>
   obtain⟨v,e2,rp⟩:=re.sh i d hd;exact⟨v,e2,q v Hs H (.refl re.b.i) (c6.mono re.b.i rp)⟩
  |own o=>
   obtain⟨c,ho,e2,_,_,e4,rp⟩:=re.own i o hd;exact⟨.ref c,e2,q (.ref c) Hs H (.refl re.b.i) (((rp.o (λkvs z=>by subst z;exact hno kvs rfl) (λb u z=>by subst z;exact hno2 b u rfl) (λkvs z=>by subst z;exact hno4 kvs rfl) (λkvs z=>by subst z;exact hno5 kvs rfl) λt z=>by subst z;exact hno6 t rfl).mono re.b.i).val e4)⟩
 ·cases e1
def oo{v:V}{d:D}(h:PE X e (tC v))(rp:∀H,c6 Γ H d v):PD X Γ W e (eC d):=PE.imp h λ_ _ σ H Q _ ⟨B0,B1,Hs,ρ,r,re,e1,q⟩=>by
 cases e1;exact q v Hs H (.refl re.b.i) (rp Hs)
def a8{i j}:PD X Γ W (.Constant (.int i) j pos) (eC (.int i)):=oo Dm λ_=>af.mpr rfl
def nD{i j}:PD X Γ W (.Constant (.bool i) j pos) (eC (.bl i)):=oo KB λ_=>aS.mpr rfl
def IM{j}:PD X Γ W (.Constant .none j pos) (eC .non):=oo IF λ_=>cz.mpr rfl
def aK{i j}:PD X Γ W (.Constant (.str i) j pos) (eC (.str i)):=oo IC λ_=>aV.mpr rfl
def IP{i j pos'}:PD X Γ W (.UnaryOp .USub (.Constant (.int i) j pos') pos) (eC (.int (-i))):=PE.imp (Hm CI Dm) λ_ _ σ H Q _ ⟨B0,B1,Hs,ρ,r,re,e1,q⟩=>by
 cases e1;exact⟨i,rfl,q _ Hs H (.refl re.b.i) (fe.of (af.mpr rfl))⟩
inductive rD(Γ:Ct)(W:XW)(f:D->D->Option R)(x y:V)(H:Hp)(Q:VK):Prop
 |mk (Hs:Hp) (d1 d2:D) (r:R) (sm:aM Hs H) (r1:c6 Γ Hs d1 x) (r2:c6 Γ Hs d2 y) (e:f d1 d2=some r) (q:RQ Γ W Hs H r Q)
def tO{f:D->D->Option R}{σ:L2.St}{H:Hp}{Q:VK}(t:tD Γ W (a9 f ga gb) σ H Q):Kg (rD Γ W f) (tD Γ W ga) (tD Γ W gb) σ H Q:=by
 obtain⟨B0,B1,Hs,ρ,r,re,e,q⟩:=t;refine(bW re e q).mono λv H1 t'=>?_;obtain⟨Hs1,d,g1,re1,rp,e1,q1⟩:=t';refine(bW re1 e1 q1).mono λu H2 t'=>?_;obtain⟨Hs2,d2,g2,re2,rp2,e2,q2⟩:=t';exact⟨Hs2,d,d2,r,re2.b.i,rp.mono g2.s,rp2,e2,q2⟩
def aB{op:Operator}{f:D->D->Option R}(ho:hU X (binaryOp op) (rD Γ W f))(ha:PD X Γ W a ga)(hb:PD X Γ W b gb):PD X Γ W (.BinOp a op b pos) (a9 f ga gb):=
 PE.imp (Hn ho ha hb) λ_ _ _ _ _ _ t=>tO t
def mR{op:CmpOp}{f:D->D->Option R}(ho:hU X (compareOp op) (rD Γ W f))(ha:PD X Γ W a ga)(hb:PD X Γ W b gb)(hm:behindInMarks op b=false:=by first|exact DB _|rfl):PD X Γ W (.Compare a [op] [b] pos) (a9 f ga gb):=
 PE.imp (FX ho ha hb hm) λ_ _ _ _ _ _ t=>tO t
def CS{σ:L2.St}{H:Hp}{Q:Bool->Hp->Prop}(t:tT Γ W g σ H Q):tD Γ W g σ H (λx H'=>∃k,x=.bl k/\Q k H'):=by
 obtain⟨B0,B1,Hs,ρ,r,re,e,q⟩:=t;refine⟨B0,B1,Hs,ρ,r,re,e,?_⟩;cases r with
 |exc x=>exact q
 |ok s=>
  obtain⟨c,ec,q⟩:=q;intro v Hs' H' g' rs;obtain⟨_,g2,_,rp⟩:=rs.share g';rw[ec] at rp;exact⟨c,aS.mp rp,q _ _ g'⟩
def au{op:CmpOp}{f:D->D->Option R}(ho:hU X (compareOp op) (rD Γ W f))(ha:PD X Γ W a ga)(hb:PD X Γ W b gb)(hm:behindInMarks op b=false:=by first|exact DB _|rfl):AI X Γ W (.Compare a [op] [b] pos) (a9 f ga gb):=
 PT.imp (FN ho ha hb hm) λ_ _ _ _ _ _ t=>tO (CS t)
def cP(h:PD X Γ W e g)(he:∀whole,isTrue e X.env whole=(do let v <-whole;standAt e.pos;holding [v] (truthy v)):=by intro _;rfl):AI X Γ W e g:=
 PT.imp (Ip h he) λ_ _ _ _ _ _ t=>CS t
section
variable{t u:ME}{rest:List Vt}
def RB.grow{Hs H Hs1 H1:Hp}{r:R}{Q:Bool->Hp->Prop}(q:RB W Hs H r Q)(g:Grow Hs H Hs1 H1):RB W Hs1 H1 r Q:=by
 cases r with
 |exc x=>exact λHs' H' g'=>q Hs' H' (g.trans g')
 |ok s=>obtain⟨c,ec,q⟩:=q;exact⟨c,ec,λHs' H' g'=>q Hs' H' (g.trans g')⟩
def hJ{x:D}{k:Bool->Option R}{r:R}(h:asB x k=some r):∃c,x=.bl c/\k c=some r:=by
 cases x with
 |bl c=>exact⟨c,rfl,h⟩
 |_=>cases h
def jy(ha:AI X Γ W a g):AI X Γ W (.UnaryOp .Not a pos) (n9 g):=PT.imp (Iq ha) λ_ _ σ H Q _ t=>by
 obtain⟨B0,B1,Hs,ρ,r,re,e,q⟩:=t;have e':b0 (g ρ) JD=some r:=e;cases h:g ρ with
 |none=>rw[h] at e';cases e'
 |some x=>
  rw[h] at e';refine⟨B0,B1,Hs,ρ,x,re,h,?_⟩;cases x with
  |exc y=>cases e';exact q
  |ok s=>
   obtain⟨c,ec,e2⟩:=hJ (show asB s.val (λc=>okB (!c))=some r from e');cases e2;obtain⟨c',ec',q⟩:=q;cases ec';exact⟨c,ec,q⟩
def gN(ha:AI X Γ W a g):nW X Γ W (.BoolOp .And [a] pos) g:=FK ha
def fH(ha:AI X Γ W a g):nW X Γ W (.BoolOp .Or [a] pos) g:=Im ha
def gz(ha:AI X Γ W a t)(hb:nW X Γ W (.BoolOp .And (b::rest) pos) u):nW X Γ W (.BoolOp .And (a::b::rest) pos) (fu t u):=PW.imp (Io ha hb) λσ H Q h=>by
 obtain⟨B0,B1,Hs,ρ,r,re,e,q⟩:=h;have e':b0 (t ρ) (λx=>asB x λc=>if c=true then u ρ else okB false)=some r:=e;cases h:t ρ with
 |none=>rw[h] at e';cases e'
 |some x=>
  rw[h] at e';refine⟨B0,B1,Hs,ρ,x,re,h,?_⟩;cases x with
  |exc y=>cases e';exact q
  |ok s=>
   obtain⟨c,ec,e2⟩:=hJ (show asB s.val _=some r from e');refine⟨c,ec,λHs' H' g'=>?_⟩;cases c with
   |true=>exact⟨B0,B1,Hs',ρ,r,re.grow g',e2,q.grow g'⟩
   |false=>
    cases e2;obtain⟨c',ec',q⟩:=q;cases ec';exact q _ _ g'
def fm(ha:AI X Γ W a t)(hb:nW X Γ W (.BoolOp .Or (b::rest) pos) u):nW X Γ W (.BoolOp .Or (a::b::rest) pos) (qy t u):=PW.imp (Kw ha hb) λσ H Q h=>by
 obtain⟨B0,B1,Hs,ρ,r,re,e,q⟩:=h;have e':b0 (t ρ) (λx=>asB x λc=>if c=true then okB true else u ρ)=some r:=e;cases h:t ρ with
 |none=>rw[h] at e';cases e'
 |some x=>
  rw[h] at e';refine⟨B0,B1,Hs,ρ,x,re,h,?_⟩;cases x with
  |exc y=>cases e';exact q
  |ok s=>
   obtain⟨c,ec,e2⟩:=hJ (show asB s.val _=some r from e');refine⟨c,ec,λHs' H' g'=>?_⟩;cases c with
   |false=>exact⟨B0,B1,Hs',ρ,r,re.grow g',e2,q.grow g'⟩
   |true=>
    cases e2;obtain⟨c',ec',q⟩:=q;cases ec';exact q _ _ g'
theorem nW.pt(h:nW X Γ W e g):AI X Γ W e g:=PW.pt h
def ua{op}(h:PD X Γ W a g):PD X Γ W (.BoolOp op [a] pos) g:=ID h
def ue(ha:PD X Γ W a t)(hb:PD X Γ W (.BoolOp .And (b::rest) pos) u):PD X Γ W (.BoolOp .And (a::b::rest) pos) (fu t u):=PE.imp (IJ ha hb) λ_ _ σ H Q _ h=>by
 obtain⟨B0,B1,Hs,ρ,r,re,e,q⟩:=h;refine(bW (k:=λx=>asB x λc=>if c=true then u ρ else okB false) re e q).mono λv H1 t'=>?_;obtain⟨Hs1,d,g1,re1,rp,e1,q1⟩:=t';obtain⟨c,rfl,e2⟩:=hJ e1;refine⟨c,aS.mp rp,?_⟩;cases c with
 |true=>exact⟨B0,B1,Hs1,ρ,r,re1,e2,q1⟩
 |false=>cases e2;exact q1 _ Hs1 H1 (.refl re1.b.i) (fe.of (aS.mpr rfl))
def IL(ha:PD X Γ W a g):PD X Γ W (.UnaryOp .Not a pos) (n9 g):=PE.imp (IE ha) λ_ _ σ H Q _ h=>by
 obtain⟨B0,B1,Hs,ρ,r,re,e,q⟩:=h;refine(bW (k:=JD) re e q).mono λv H1 ⟨Hs1,d,g1,re1,rp,e1,q1⟩=>?_;obtain⟨c,rfl,e2⟩:=hJ e1;cases e2;exact⟨c,aS.mp rp,q1 _ Hs1 H1 (.refl re1.b.i) (fe.of (aS.mpr rfl))⟩
def ml{c:Vt}(hc:AI X Γ W c g)(ha:PD X Γ W a ga)(hb:PD X Γ W b gb):PD X Γ W (.IfExp c a b pos) (F2 g ga gb):=PE.imp (Dn hc ha hb) λ_ _ σ H Q _ h=>by
 obtain⟨B0,B1,Hs,ρ,r,re,e,q⟩:=h;have e':b0 (g ρ) (λx=>asB x λc=>if c=true then ga ρ else gb ρ)=some r:=e;cases h:g ρ with
 |none=>rw[h] at e';cases e'
 |some x=>
  rw[h] at e';refine⟨B0,B1,Hs,ρ,x,re,h,?_⟩;cases x with
  |exc y=>cases e';exact q
  |ok s=>
   obtain⟨c,ec,e2⟩:=hJ (show asB s.val _=some r from e');refine⟨c,ec,λHs' H' g'=>?_⟩;cases c with
   |true=>exact⟨B0,B1,Hs',ρ,r,re.grow g',e2,q.grow g'⟩
   |false=>exact⟨B0,B1,Hs',ρ,r,re.grow g',e2,q.grow g'⟩
end
def a7:nz X Γ W [] []:=dW
def c0{es:List Vt}{gs:List ME}(h:PD X Γ W e g)(t:nz X Γ W es gs)(hs:starEach (e::es) X.env=(false,eval e X.env)::starEach es X.env:=by rfl):nz X Γ W (e::es) (g::gs):=cA h t hs
def aU:K9 X Γ W [] []:=dW
def aA{es:List Vt}{gs:List ME}(h:PL X Γ W e g)(t:K9 X Γ W es gs)(hs:starEach (e::es) X.env=(false,eval e X.env)::starEach es X.env:=by rfl):K9 X Γ W (e::es) (g::gs):=cA h t hs
inductive zO(Γ:Ct)(W:XW)(F:List D->Option R)(vs:List V)(H:Hp)(Q:VK):Prop
 |mk (Hs:Hp) (ds:List D) (r:R) (sm:aM Hs H) (rl:RepL Γ Hs ds vs) (e:F ds=some r) (q:RQ Γ W Hs H r Q) (tb:aM Γ.tb Hs)
def lW{F:List D->Option R}{gs:List ME}{σ:L2.St}{H:Hp}{Q:VK}(t:tD Γ W (ai F gs) σ H Q):qu Γ W gs σ H λvs H1=>zO Γ W F vs H1 Q:=by
 obtain⟨B0,B1,Hs,ρ,r,re,e,q⟩:=t;exact dB gs (λvs H1 ⟨Hs1,ds,_,re1,rp,e1,q1⟩=>⟨Hs1,ds,r,re1.b.i,rp,e1,q1,re1.tb⟩) (l7 gs re e q)
def vG{F:List D->Option R}{gs:List ME}{σ:L2.St}{H:Hp}{Q:VK}(t:tD Γ W (aI F gs) σ H Q):sO Γ W gs σ H λvs H1=>zO Γ W F vs H1 Q:=by
 obtain⟨B0,B1,Hs,ρ,r,re,e,q⟩:=t;have e':qe (br gs ρ F)=some r:=e;obtain⟨d,rfl⟩:∃d,r=.ok (.sh d):=by
  unfold qe at e';split at e'
  ·split at e'
   ·cases e';exact⟨_,rfl⟩
   ·cases e'
  ·cases e'
 refine jS gs (λvs H1 t'=>?_) (qv gs re e' q);obtain⟨Hs1,ds,g1,re1,rp,e1,q1⟩:=t';unfold qe at e1;split at e1
 ·rename_i s hs;split at e1
  ·rename_i hf;cases e1;refine⟨H1,ds,_,.refl _,rp,hs,λv Hs' H' g' rs=>q1 v Hs1 H' (.only re1.b.i g'.h) ?_,re1.tb.trans re1.b.i⟩;exact Da (rs.look g') hf
  ·cases e1
 ·cases e1
section
variable{CX:Cv}{k:Nat}{f:Vp}{fd:FuncData}{ps:List Str}{x:Str}{p:Pos}{es:List Vt}{gs:List ME}{F:List D->Option R}
def Hi(Γ:Ct)(W:XW)(F:List D->Option R):Sp:=λvs H Q _=>zO Γ W F vs H Q
def G1(G:gf X.prog X.w X.K X.mg X.base qA k f fd ps (Hi Γ W F))(hr:cJ k X.A)(hg:Gl X x)(hm:X.mg x=some (.ref f))(hk:keepIn X.K (.ref f)=true)(hb:g0 X.K fd ps [])
  (ha:nz X Γ W (e::es) gs) (hdb:(x == ("__debug__":Str))=false:=by decide) (he:starEach (e::es) X.env=(false,eval e X.env)::starEach es X.env:=by rfl) (hpl:(backTo pos (starEach es X.env)).any (·.1)=false:=by rfl):
  PD X Γ W (.Call (.Name x p) (e::es) [] pos) (ai F gs):=
 PE.imp (A3 (E:=E0) (dvs:=[]) (ds:=[]) G hr hg hm hk hb .nil pq ha hdb he hpl) λ_ _ _ _ _ _ t=>dB gs (λvs H1 z=>by show zO Γ W F (vs++[]) H1 _;rw[Vz];exact z) (lW t)
def Dr(G:gf X.prog X.w X.K X.mg X.base qA k f fd ps (Hi Γ W F))(hr:cJ k X.A)(hg:Gl X x)(hm:X.mg x=some (.ref f))(hk:keepIn X.K (.ref f)=true)(hb:g0 X.K fd ps [])
  (ha:K9 X Γ W (e::es) gs) (hdb:(x == ("__debug__":Str))=false:=by decide) (he:starEach (e::es) X.env=(false,eval e X.env)::starEach es X.env:=by rfl) (hpl:(backTo pos (starEach es X.env)).any (·.1)=false:=by rfl):
  PD X Γ W (.Call (.Name x p) (e::es) [] pos) (aI F gs):=
 PE.imp (A3 (E:=E0) (dvs:=[]) (ds:=[]) G hr hg hm hk hb .nil pq ha hdb he hpl) λ_ _ _ _ _ _ t=>jS gs (λvs H1 z=>by show zO Γ W F (vs++[]) H1 _;rw[Vz];exact z) (vG t)
end
section
variable{x:Str}{p:Pos}{es:List Vt}{gs:List ME}{F:List D->Option R}{id T:Vw}
def Ds(hc:cI X (.builtin id) (zO Γ W F))(hg:Gl X x)(hm:X.mg x=none)(hv:bootBuiltins x=some (.builtin id))(ha:nz X Γ W (e::es) gs)(hn:x ≠ "__name__" := by decide)(hdb:(x == ("__debug__":Str))=false:=by decide)
  (he:starEach (e::es) X.env=(false,eval e X.env)::starEach es X.env:=by rfl) (hpl:(backTo pos (starEach es X.env)).any (·.1)=false:=by rfl):PD X Γ W (.Call (.Name x p) (e::es) [] pos) (ai F gs):=
 PE.imp (iP hc hg hm hv ha hn hdb he hpl) λ_ _ _ _ _ _ t=>lW t
def b7(hc:cI X (.builtin id) (zO Γ W F))(hg:Gl X x)(hm:X.mg x=none)(hv:bootBuiltins x=some (.builtin id))(ha:K9 X Γ W (e::es) gs)(hn:x ≠ "__name__" := by decide)(hdb:(x == ("__debug__":Str))=false:=by decide)
  (he:starEach (e::es) X.env=(false,eval e X.env)::starEach es X.env:=by rfl) (hpl:(backTo pos (starEach es X.env)).any (·.1)=false:=by rfl):PD X Γ W (.Call (.Name x p) (e::es) [] pos) (aI F gs):=
 PE.imp (iP hc hg hm hv ha hn hdb he hpl) λ_ _ _ _ _ _ t=>vG t
def jT(hc:cI X (.type T) (zO Γ W F))(hg:Gl X x)(hm:X.mg x=none)(hv:bootBuiltins x=some (.type T))(ha:nz X Γ W (e::es) gs)(hn:x ≠ "__name__" := by decide)(hdb:(x == ("__debug__":Str))=false:=by decide)
  (he:starEach (e::es) X.env=(false,eval e X.env)::starEach es X.env:=by rfl) (hpl:(backTo pos (starEach es X.env)).any (·.1)=false:=by rfl):PD X Γ W (.Call (.Name x p) (e::es) [] pos) (ai F gs):=
 PE.imp (gJ hc hg hm hv ha hn hdb he hpl) λ_ _ _ _ _ _ t=>lW t
end
def aN{es:List Vt}{gs:List ME}{x1}(ha:nz X Γ W es gs):PD X Γ W (.Tuple es x1 pos) (bA gs):=PE.imp (IB ha) λ_ _ σ H Q _ t=>by
 refine dB gs (λvs H1 ⟨Hs1,ds,r,sm,rp,e1,q1,_⟩=>?_) (lW t)
 try dsimp only at e1
 split at e1
 ·rename_i hl;cases e1;refine⟨by rw[<-rp.length];exact V5 hl (by decide),λp hp=>q1 _ (cD Hs1 p (.tup vs)) _ (.new sm hp) ?_⟩
  exact aX.mpr ⟨p,vs,rfl,.of aQ,rp.mono (bZ (sm.free hp))⟩
 ·cases e1
def aY{es:List Vt}{gs:List ME}(ha:nz X Γ W es gs):PD X Γ W (.List es pos) (cC gs):=PE.imp (IG ha) λ_ _ σ H Q _ t=>by
 refine dB gs (λvs H1 ⟨Hs1,ds,r,sm,rp,e1,q1,_⟩=>?_) (lW t)
 try dsimp only at e1
 split at e1
 ·rename_i hl;cases e1;refine⟨by rw[<-rp.length];exact V5 hl (by decide),λp hp=>q1 _ Hs1 _ (.newOwn sm hp) ?_⟩
  exact⟨p,_,rfl,hp,sm.free hp,aQ,vs,rfl,rp⟩
 ·cases e1
def ag{f:D->D->Option R}(ho:Ka X (rD Γ W f))(ha:PD X Γ W a ga)(hb:PD X Γ W b gb)(hs:AH b:=by exact λ_ _=>rfl):PD X Γ W (.Subscript a b pos) (a9 f ga gb):=
 PE.imp (KA ho ha hb hs) λ_ _ _ _ _ _ t=>tO t
end
end L3
namespace L2
section
variable{X:Cx}{tg:Vt}
def N2(K:Frag)(tl:TE):TI:=λσ H R=>tl σ H λx H1=>∃a,x=.ref a/\(((∃xs,iA K H1 a xs)/\R (My K a) H1)\/((∃xs,iy K H1 a xs)/\R (Mx K a) H1))
def Iz{l:Vt}{tl:TE}(hl:PE X l tl):PI X tg l (N2 X.K tl):=by
 intro pins s σ H R I h;refine dy (hl pins s σ H _ I h) λv s1 t'=>?_;obtain⟨x,H1,I1,r1,a,e,q1⟩:=t';subst e;cases r1;have f1:∀b∈[s1.heap.objs.size],FpOk X pins H1 b:=λb hb=>by
  rw[V3.mp hb];exact I1.fpOk (QO _) (I1.hok.fresh (QO _))
 rcases q1 with⟨⟨xs,hq⟩,q⟩|⟨⟨xs,hq⟩,q⟩
 ·obtain⟨its,rv,p,hz⟩:=I1.list hq;exact Yk p.isList ⟨s1.heap.objs.size,[s1.heap.objs.size],_,_,H1,rfl,I1.kept (t':=s1.toks) (λb o e=>QF _ e),AO a _,⟨_,QT _ rfl,rfl,rfl⟩,f1,q⟩
 ·obtain⟨its,rv,p,hz⟩:=I1.tuple hq;exact ZW (show s1.heap.IsTuple a its.toArray from p) ⟨s1.heap.objs.size,[s1.heap.objs.size],_,_,H1,rfl,I1.kept (t':=s1.toks) (λb o e=>QF _ e),xT a _,⟨_,QT _ rfl,rfl,rfl⟩,f1,q⟩
end
def uW(scope:Scope)(env:PySem.Env):List (Str×Vp):=scope.names.foldl (λcs x=>if x.2 == .free then(x.1,(env.cells.lookup x.1).getD 0)::cs else cs) []
def cY(sc psc:Scope)(vars:List Str):Bool:=
 (sc.kind == .function) && sc.names.all λy=>(sc.names.lookup y.1 == some y.2) && (match y.2 with
  |.local=>vars.contains y.1
  |.cell=>false
  |.free=>psc.names.lookup y.1 == some .cell || psc.names.lookup y.1 == some .free
  |_=>true)
def kK(N vars:List Str)(js:List Nat):Bool:=(List.range N.length).all λi=>js.contains i || !(vars.contains (N.getD i (Str.ofString "")))
def fJ(js:List Nat)(σ:St):St:=js.foldl (λσ j=>σ.set j none) σ
def ky(js:List Nat):∀σ:St,(fJ js σ).length=σ.length:=by
 induction js with
 |nil=>intro σ;rfl
 |cons j js ih=>intro σ;show(fJ js (σ.set j none)).length=_;rw[ih,VW]
def xg(js:List Nat):∀(σ:St)(i:Nat)(v:V),(fJ js σ)[i]?=some (some v)->i∉js/\σ[i]?=some (some v):=by
 induction js with
 |nil=>intro σ i v h;exact⟨by simp,h⟩
 |cons j js ih=>
  intro σ i v h;obtain⟨h1,h2⟩:=ih (σ.set j none) i v h;by_cases hj:j=i
  ·subst hj;by_cases hl:j<σ.length
   ·rw[QR hl] at h2;cases h2
   ·rw[Wj (by rw[VW];omega)] at h2;cases h2
  ·rw[QQ hj] at h2;exact⟨by simp[h1,W8 hj],h2⟩
section
variable{sc psc:Scope}{vars:List Str}
def mz(h:cY sc psc vars=true):sc.kind=.function:=by
 unfold cY at h;exact WE (Ys.mp h).1
def lN(h:cY sc psc vars=true):∀y∈sc.names,sc.names.lookup y.1=some y.2/\(y.2=.local->y.1∈vars)/\y.2≠.cell/\(y.2=.free->psc.names.lookup y.1=some .cell\/psc.names.lookup y.1=some .free):=by
 intro y hy;unfold cY at h;have h2:=YC.mp (Ys.mp h).2 y hy;obtain⟨h3,h4⟩:=Ys.mp h2;refine⟨WE h3,λe=>?_,λe=>?_,λe=>?_⟩
 ·rw[e] at h4;exact Zq.mp h4
 ·rw[e] at h4;cases h4
 ·rw[e] at h4;rcases Y0.mp h4 with z|z
  ·exact .inl (WE z)
  ·exact .inr (WE z)
theorem ee{α β:Type}[BEq α][LawfulBEq α]:∀{l:List (α×β)}{x:α}{v:β},l.lookup x=some v->(x,v)∈l
 |[],_,_,h=>by cases h
 | (y,w)::l,x,v,h=>by
  rw[YD] at h;cases hb:x == y with
  |true=>
   rw[hb] at h;cases h;rw[WE hb];exact VF
  |false=>
   rw[hb] at h;exact V0 _ (ee h)
end
theorem GP(scope:Scope)(env:PySem.Env):∀(l:List (Str×NameKind))(acc:List (Str×Vp)),(∀p∈acc,env.cells.lookup p.1=some p.2)->(∀y∈l,y.2=.free->∃c,env.cells.lookup y.1=some c)->
  ∀p∈l.foldl (λcs x=>if x.2 == .free then(x.1,(env.cells.lookup x.1).getD 0)::cs else cs) acc,env.cells.lookup p.1=some p.2:=by
 intro l
 induction l with
 |nil=>intro acc h _;exact h
 |cons y l ih=>
  intro acc h hf;rw[YS];refine ih _ ?_ λz hz=>hf z (V0 _ hz);split
  ·rename_i hb;intro p hp;rcases V1.mp hp with e|hp
   ·obtain⟨c,hc⟩:=hf y VF (WE hb);rw[e,hc];rfl
   ·exact h p hp
  ·exact h
theorem EK(scope:Scope)(env:PySem.Env):∀(l:List (Str×NameKind))(acc:List (Str×Vp))(x:Str),((x,NameKind.free)∈l\/∃c,(x,c)∈acc)->
  ∃c,(x,c)∈l.foldl (λcs x=>if x.2 == .free then(x.1,(env.cells.lookup x.1).getD 0)::cs else cs) acc:=by
 intro l
 induction l with
 |nil=>
  intro acc x h;rcases h with h|h
  ·cases h
  ·exact h
 |cons y l ih=>
  intro acc x h;rw[YS];refine ih _ x ?_;rcases h with h|⟨c,h⟩
  ·rcases V1.mp h with e|h
   ·subst e;exact .inr ⟨_,by rw[QH (by rfl)];exact VF⟩
   ·exact .inl h
  ·refine .inr ⟨c,?_⟩;split
   ·exact V0 _ h
   ·exact h
def lE{scope:Scope}{env:PySem.Env}(hf:∀y∈scope.names,y.2=.free->∃c,env.cells.lookup y.1=some c):closureFor scope env=pure (uW scope env):=by
 have go:∀(l:List (Str×NameKind))(acc:List (Str×Vp)),(∀y∈l,y.2=.free->∃c,env.cells.lookup y.1=some c)->
   (forIn l acc λx cs=>do
    if x.2 == .free then pure (ForInStep.yield ((x.1,<-cellOf env x.1)::cs)) else pure (ForInStep.yield cs):Sem (List (Str×Vp)))=
   pure (l.foldl (λcs x=>if x.2 == .free then(x.1,(env.cells.lookup x.1).getD 0)::cs else cs) acc):=by
  intro l
  induction l with
  |nil=>intro acc _;rfl
  |cons y l ih=>
   intro acc h;rw[List.forIn_cons,YS];cases hb:y.2 == NameKind.free with
   |true=>
    obtain⟨c,hc⟩:=h y VF (WE hb);have e1:cellOf env y.1=pure c:=by unfold cellOf;rw[hc]
    simp only[if_true,e1,pure_bind,hc,Option.getD_some];exact ih _ λz hz=>h z (V0 _ hz)
   |false=>
    simp only[Wa,Zv,pure_bind];exact ih _ λz hz=>h z (V0 _ hz)
 have:=go scope.names [] hf;unfold closureFor;simpa [uW] using this
end L2
namespace L3
open L2
def EQ(Γ:Ct)(W:XW)(B0 B1 Hs:Hp)(D:nB):nY->Prop
 |.next ρ'=>∀σ' Hs' H',aM Hs Hs'->RE Γ B0 B1 Hs' H' σ' ρ'->D.nx σ' H'
 |.brk ρ'=>∀σ' Hs' H',aM Hs Hs'->RE Γ B0 B1 Hs' H' σ' ρ'->D.bk σ' H'
 |.cont ρ'=>∀σ' Hs' H',aM Hs Hs'->RE Γ B0 B1 Hs' H' σ' ρ'->D.ct σ' H'
 |.ret s=>∀v Hs' H',aM Hs Hs'->Grow B0 B1 Hs' H'->fe Γ B1 Hs' H' s v->D.rt v H'
 |.exc x=>∀Hs' H',aM Hs Hs'->Grow B0 B1 Hs' H'->W x Hs' H'
def EQ.from{Γ:Ct}{W:XW}{B0 B1 Hs Hs1:Hp}{D:nB}{o:nY}(q:EQ Γ W B0 B1 Hs D o)(k:aM Hs Hs1):EQ Γ W B0 B1 Hs1 D o:=by
 cases o with
 |next ρ=>exact λσ' Hs' H' h=>q σ' Hs' H' (k.trans h)
 |brk ρ=>exact λσ' Hs' H' h=>q σ' Hs' H' (k.trans h)
 |cont ρ=>exact λσ' Hs' H' h=>q σ' Hs' H' (k.trans h)
 |ret s=>exact λv Hs' H' h=>q v Hs' H' (k.trans h)
 |exc x=>exact λHs' H' h=>q Hs' H' (k.trans h)
inductive tS(Γ:Ct)(W:XW)(g:MC)(D:nB)(σ:L2.St)(H:Hp):Prop
 |mk (B0 B1 Hs:Hp) (ρ:aJ) (o:nY) (re:RE Γ B0 B1 Hs H σ ρ) (e:g ρ=some o) (q:EQ Γ W B0 B1 Hs D o)
abbrev zD(X:Cx)(Γ:Ct)(W:XW)(st:Vu)(g:MC):Prop:=PS X st (tS Γ W g)
abbrev nX(X:Cx)(Γ:Ct)(W:XW)(st:List Vu)(g:MC):Prop:=qz X st (tS Γ W g)
section
variable{X:Cx}{Γ:Ct}{W:XW}{st:Vu}{rest a b:List Vu}{g g1 g2:MC}{ge gc:ME}{e c:Vt}{pos:Pos}
def ax:nX X Γ W [] bx:=qz.imp zY λD σ H ⟨B0,B1,Hs,ρ,o,re,e,q⟩=>by
 cases e;exact q σ Hs H (.refl _) re
def aa(h1:zD X Γ W st g1)(h2:nX X Γ W rest g2):nX X Γ W (st::rest) (aC g1 g2):=qz.imp (w4 h1 h2) λD σ H ⟨B0,B1,Hs,ρ,o,re,e,q⟩=>by
 unfold aC at e;cases h:g1 ρ with
 |none=>rw[h] at e;cases e
 |some u=>
  rw[h] at e;refine⟨B0,B1,Hs,ρ,u,re,h,?_⟩;cases u with
  |next ρ'=>exact λσ' Hs' H' sm re'=>⟨B0,B1,Hs',ρ',o,re',e,q.from sm⟩
  |brk ρ'=>cases e;exact q
  |cont ρ'=>cases e;exact q
  |ret s=>cases e;exact q
  |exc x=>cases e;exact q
def ab(h:zD X Γ W st g):nX X Γ W [st] g:=FO h
def aG{i:Nat}(h:nX X Γ W rest g):nX X Γ W rest (dc i g):=qz.imp h λD σ H ⟨B0,B1,Hs,ρ,o,re,e,q⟩=>by
 obtain⟨Hs',sm,re'⟩:=re.dem i;exact⟨B0,B1,Hs',dem i ρ,o,re',e,q.from sm⟩
def u7:zD X Γ W (.Continue pos) Hj:=PS.imp w6 λ_ _ σ H D _ ⟨B0,B1,Hs,ρ,o,re,e,q⟩=>by cases e;exact q σ Hs H (.refl _) re
theorem CT{B0 B1 Hs H:Hp}{σ:L2.St}{ρ:aJ}{o:nY}{D:nB}{k:S->Option nY}(re:RE Γ B0 B1 Hs H σ ρ)(e:jY (ge ρ) k=some o)(q:EQ Γ W B0 B1 Hs D o):
  tD Γ W ge σ H (λv H1=>∃Hs1 s,Grow Hs H Hs1 H1/\fe Γ H Hs1 H1 s v/\k s=some o):=by
 cases h:ge ρ with
 |none=>rw[h] at e;cases e
 |some x=>
  rw[h] at e;refine⟨B0,B1,Hs,ρ,x,re,h,?_⟩;cases x with
  |exc y=>cases e;exact λHs' H' g'=>q Hs' H' g'.s (re.b.trans g')
  |ok s=>exact λv Hs' H' g' rs=>⟨Hs',s,g',rs,e⟩
def yd{i:Nat}{t:TE}(h:PS X st (Fo (tD Γ W ge) (xb i)))(hi:i<X.N.length):zD X Γ W st (bq i ge):=PS.imp h λpins s σ H D I ⟨B0,B1,Hs,ρ,o,re,e,q⟩=>by
 refine(CT re e q).mono λv H1 ⟨Hs1,s,g1,rs,e1⟩=>?_;cases e1;exact q _ Hs1 H1 g1.s (re.setS g1 (by rw[I.len];exact hi) rs)
def FP{i:Nat}{x:Str}{pos':Pos}(hN:X.N.Nodup)(hi:X.N[i]?=some x)(hx:zF X.env.scope x)(he:PD X Γ W e ge)(hs:swapsWith e (some (.Name x pos')) pos.line X.env=pure false:=by rfl)
  (hf:X.fn x=true\/X.env.scope.names.lookup x=some .local:=by first|exact .inl rfl|exact .inr rfl|assumption):zD X Γ W (.Assign [.Name x pos'] e pos) (bq i ge):=
 yd (t:=tD Γ W ge) (Iu hN hi hx he hs hf) (QM.mp hi).1
def aj(he:PD X Γ W e ge):zD X Γ W (.Return (some e) pos) (bG ge):=PS.imp (Dh he) λpins s σ H D I ⟨B0,B1,Hs,ρ,o,re,e,q⟩=>by
 refine(CT re e q).mono λv H1 ⟨Hs1,s,g1,rs,e1⟩=>?_;cases e1;exact q v Hs1 H1 g1.s (re.b.trans g1) (rs.back re.b.h)
def Cm{x:D}{k:Bool->Option nY}{o:nY}(h:asBO x k=some o):∃c,x=.bl c/\k c=some o:=by
 cases x with
 |bl c=>exact⟨c,rfl,h⟩
 |_=>cases h
def aW(hc:AI X Γ W c gc)(ha:nX X Γ W a g1)(hb:nX X Γ W b g2):zD X Γ W (.If c a b pos) (gI gc g1 g2):=PS.imp (Ky hc ha hb) λpins s σ H D I ⟨B0,B1,Hs,ρ,o,re,e,q⟩=>by
 have e':jY (gc ρ) (λs=>asBO s.val λt=>if t=true then g1 ρ else g2 ρ)=some o:=e;cases h:gc ρ with
 |none=>rw[h] at e';cases e'
 |some x=>
  rw[h] at e';refine⟨B0,B1,Hs,ρ,x,re,h,?_⟩;cases x with
  |exc y=>cases e';exact λHs' H' g'=>q Hs' H' g'.s (re.b.trans g')
  |ok s=>
   obtain⟨t,et,e2⟩:=Cm (show asBO s.val _=some o from e');refine⟨t,et,λHs' H' g'=>?_⟩;cases t with
   |true=>exact⟨B0,B1,Hs',ρ,o,re.grow g',e2,q.from g'.s⟩
   |false=>exact⟨B0,B1,Hs',ρ,o,re.grow g',e2,q.from g'.s⟩
structure EV(Γ:Ct)(Hs0:Hp)(J:It)(ds:List D):Prop where
 go:∀i Hs H,i<ds.length->aM Hs0 Hs->aM Hs H->J.go i H
 stop:∀Hs H,aM Hs0 Hs->aM Hs H->J.stop ds.length H
 yld:∀i Hs H x H',i<ds.length->aM Hs0 Hs->aM Hs H->J.yld i H x H'->∃d Hs',ds[i]?=some d/\Grow Hs H Hs' H'/\c6 Γ Hs' d x
def IQ(Γ:Ct)(W:XW)(Hs H:Hp)(r:RI)(Q:It->Hp->Prop):Prop:=match r with
 |.ok ds=>∀J Hs' H',Grow Hs H Hs' H'->EV Γ Hs' J ds->Q J H'
 |.exc x=>∀Hs' H',Grow Hs H Hs' H'->W x Hs' H'
inductive tI(Γ:Ct)(W:XW)(gi:MI)(σ:L2.St)(H:Hp)(Q:It->Hp->Prop):Prop
 |mk (B0 B1 Hs:Hp) (ρ:aJ) (r:RI) (re:RE Γ B0 B1 Hs H σ ρ) (e:gi ρ=some r) (q:IQ Γ W Hs H r Q)
abbrev K8(X:Cx)(Γ:Ct)(W:XW)(tg iter:Vt)(gi:MI):Prop:=PI X tg iter (tI Γ W gi)
def PI.imp{X:Cx}{tg e:Vt}{t t':TI}(h:PI X tg e t)(i:∀pins s σ H Q,aH X pins σ H s->t' σ H Q->t σ H Q):PI X tg e t':=λpins s σ H Q I q=>h pins s σ H Q I (i pins s σ H Q I q)
inductive LV(Γ:Ct)(js:List Nat)(bd:MB)(v:V)(σ:L2.St)(H:Hp)(Q:L2.St->Hp->Prop):Prop
 |mk (B0 B1 Hs:Hp) (ρ:aJ) (d:D) (ρ':aJ) (re:RE Γ B0 B1 Hs H σ ρ) (rp:c6 Γ Hs d v) (e:bd d ρ=some ρ') (q:∀σ':L2.St,RE Γ B0 B1 Hs H σ' ρ'->(∀j:Nat,j∉js->σ'[j]?=σ[j]?)->Q σ' H)
abbrev JY(X:Cx)(Γ:Ct)(tg:Vt)(js:List Nat)(bd:MB):Prop:=PG X tg (LV Γ js bd)
def PG.imp{X:Cx}{tg:Vt}{t t':TG}(h:PG X tg t)(i:∀pins s v σ H Q,aH X pins σ H s->t' v σ H Q->t v σ H Q):PG X tg t':=λpins s σ H v u Q I r q=>h pins s σ H v u Q I r (i pins s v σ H Q I q)
def Dt{j:Nat}{x:Str}(hN:X.N.Nodup)(hi:X.N[j]?=some x)(hx:zF X.env.scope x)(hf:X.fn x=true\/X.env.scope.names.lookup x=some .local:=by first|exact .inl rfl|exact .inr rfl|assumption):JY X Γ (.Name x pos) [j] (ba j):=
 PG.imp (kS hN hi hx hf) λpins s v σ H Q I ⟨B0,B1,Hs,ρ,d,ρ',re,rp,e,q⟩=>by
  cases e;exact q _ (re.setSh (by rw[I.len];exact(QM.mp hi).1) rp) λi hi=>QQ λz=>hi (by simp[z])
theorem wd{j k:Nat}{x y:Str}{px py:Pos}{kt:Nat}(hK:X.K=Γ.K)(hc:X.calm=true)(hN:X.N.Nodup)(hj:X.N[j]?=some x)(hk:X.N[k]?=some y)(hx:zF X.env.scope x)(hy:zF X.env.scope y)
  (fx:X.fn x=true\/X.env.scope.names.lookup x=some .local:=by first|exact .inl rfl|exact .inr rfl|assumption) (fy:X.fn y=true\/X.env.scope.names.lookup y=some .local:=by first|exact .inl rfl|exact .inr rfl|assumption)
  (hn:(assignEach [.Name x px,.Name y py] X.env).length=2:=by rfl) (hst:(assignEach [.Name x px,.Name y py] X.env).findIdx? (·.1)=none:=by rfl)
  (hs1:(assignEach [.Name x px,.Name y py] X.env).map (·.2)=assign (.Name x px) X.env::(assignEach [.Name y py] X.env).map (·.2):=by rfl) (hs2:(assignEach [.Name y py] X.env).map (·.2)=assign (.Name y py) X.env::(assignEach [] X.env).map (·.2):=by rfl):
  JY X Γ (.Tuple [.Name x px,.Name y py] kt pos) [j,k] (bTup [j,k]):=
 PG.imp (Dj hc (kl (kS hN hj hx fx) (kl (kS hN hk hy fy) A0 hs2) hs1) hn hst) λpins s v σ H Q I t'=>by
  obtain⟨B0,B1,Hs,ρ,d,ρ',re,rp,e,q⟩:=t';have lj:j<σ.length:=by rw[I.len];exact(QM.mp hj).1
  have lk:k<σ.length:=by rw[I.len];exact(QM.mp hk).1
  cases d with
  |tup ds=>
   unfold bTup at e;dsimp only at e;split at e
   ·rename_i hl;cases e
    match ds,hl with
    |[d1,d2],_=>
     obtain⟨a,xs,rfl,sq,rl⟩:=aX.mp rp;obtain⟨x1,r1,rfl,q1,rl⟩:=aw.mp rl;obtain⟨x2,r2,rfl,q2,rl⟩:=aw.mp rl;obtain rfl:=bR.mp rl;refine⟨a,[x1,x2],rfl,by rw[hK];exact bj re.b.i sq,rfl,x1,[x2],rfl,x2,[],rfl,rfl,?_⟩
     exact q _ ((re.setSh lj q1).setSh (by rw[VW];exact lk) q2) λi hi=>by
      rw[QQ λz=>hi (by simp[z]),QQ λz=>hi (by simp[z])]
   ·cases e
  |_=>cases e
theorem Es{js:List Nat}{bd:MB}{body:MC}{ds:List D}{J:It}{D:nB}{B0 B1 Hs0:Hp}{o:nY}(w:EV Γ Hs0 J ds)(q:EQ Γ W B0 B1 Hs0 D o){σ:L2.St}{H:Hp}{ρ:aJ}(re:RE Γ B0 B1 Hs0 H σ ρ)(e:lg bd body ds ρ=some o):
  ∃Wv:Nat->Nat->L2.St->Hp->Prop,(∃m,Wv 0 m σ H)/\∀i m σ H,Wv i m σ H->
   (J.stop i H/\D.nx σ H)\/(J.go i H/\∃N:L2.St->Hp->Prop,(∀σ' H',N σ' H'->∃m',m'<m/\Wv (i+1) m' σ' H')/\∀x H',J.yld i H x H'->LV Γ js bd x σ H' λσ2 H2=>tS Γ W body {D with nx:=N,ct:=N,bk:=D.nx} σ2 H2):=by
 refine⟨λi m σ H=>m=ds.length - i/\i<=ds.length/\∃Hs ρ,aM Hs0 Hs/\RE Γ B0 B1 Hs H σ ρ/\lg bd body (ds.drop i) ρ=some o,⟨_,rfl,VA _,Hs0,ρ,.refl _,re,e⟩,?_⟩
 rintro i m σ H ⟨rfl,hi,Hs,ρ,sm,re,e⟩
 by_cases hlt:i<ds.length
 ·refine .inr ⟨w.go i Hs H hlt sm re.b.i,λσ' H'=>∃Hs' ρ',aM Hs0 Hs'/\RE Γ B0 B1 Hs' H' σ' ρ'/\lg bd body (ds.drop (i+1)) ρ'=some o,λσ' H' ⟨Hs',ρ',s',r',e'⟩=>⟨_,by omega,rfl,hlt,Hs',ρ',s',r',e'⟩,λx H' y=>?_⟩
  obtain⟨d,Hs',ed,g',rp⟩:=w.yld i Hs H x H' hlt sm re.b.i y;have hd:ds.drop i=d::ds.drop (i+1):=by
   rw[W1 hlt];congr 1;rw[QB hlt] at ed;exact VN ed
  rw[hd] at e;unfold lg at e;cases h:bd d ρ with
  |none=>rw[h] at e;cases e
  |some ρ1=>
   rw[h] at e;dsimp only at e;refine⟨B0,B1,Hs',ρ,d,ρ1,re.grow g',rp,h,λσ2 re2 _=>?_⟩;cases hb:body ρ1 with
   |none=>rw[hb] at e;cases e
   |some u=>
    rw[hb] at e;refine⟨B0,B1,Hs',ρ1,u,re2,hb,?_⟩;have s1:aM Hs0 Hs':=sm.trans g'.s;cases u with
    |next ρ2=>exact λσ' Hs2 H2 s2 re3=>⟨Hs2,ρ2,s1.trans s2,re3,e⟩
    |cont ρ2=>exact λσ' Hs2 H2 s2 re3=>⟨Hs2,ρ2,s1.trans s2,re3,e⟩
    |brk ρ2=>cases e;exact λσ' Hs2 H2 s2 re3=>q σ' Hs2 H2 (s1.trans s2) re3
    |ret s=>cases e;exact λv Hs2 H2 s2=>q v Hs2 H2 (s1.trans s2)
    |exc x=>cases e;exact λHs2 H2 s2=>q Hs2 H2 (s1.trans s2)
 ·have ei:i=ds.length:=by omega
  subst ei;rw[List.drop_length] at e;cases e;exact .inl ⟨w.stop Hs H sm re.b.i,q σ Hs H sm re⟩
theorem cE{tg iter:Vt}{gi:MI}{js:List Nat}{bd:MB}{body:List Vu}(hp:PassesOwn (model X.prog X.w) X.A X.env X.xe)(hc:X.calm=true)(hi:K8 X Γ W tg iter gi)(hg:JY X Γ tg js bd)(hb:nX X Γ W body g)
  (hs:∀x,foldedSetIterable iter X.env x=pure x:=by intro _;rfl):zD X Γ W (.For tg iter body [] pos) (iD gi bd g):=PS.imp (Iw hp hc hi hg hb hs) λpins s σ H D I ⟨B0,B1,Hs,ρ,o,re,e,q⟩=>by
 unfold iD at e;cases h:gi ρ with
 |none=>rw[h] at e;cases e
 |some r=>
  rw[h] at e;refine⟨B0,B1,Hs,ρ,r,re,h,?_⟩;cases r with
  |exc x=>cases e;exact λHs' H' g'=>q Hs' H' g'.s (re.b.trans g')
  |ok ds=>exact λJ Hs' H' g' w=>Es w (q.from g'.s) (re.grow g') e
def AN{Hs0:Hp}{a:Vp}{xs:List V}{ds:List D}{K:Frag}(h:iA K Hs0 a xs)(r:RepL Γ Hs0 ds xs):EV Γ Hs0 (My K a) ds where
 go:=λi Hs H hi s1 s2=>⟨xs,xs[i]'(by rw[<-r.length];exact hi),aM.seq (s1.trans s2) h,by rw[QB]⟩
 stop:=λHs H s1 s2=>⟨xs,aM.seq (s1.trans s2) h,Ym r.length.symm⟩
 yld:=λi Hs H x H' hi s1 s2 ⟨e,y⟩=>by
  subst e;obtain⟨z,e1,q⟩:=r.get (QB hi);have e2:=y xs (aM.seq (s1.trans s2) h);rw[e1] at e2;cases e2;exact⟨_,Hs,QB hi,.refl s2,q.mono s1⟩
def CB{Hs0:Hp}{a:Vp}{xs:List V}{ds:List D}{K:Frag}(h:iy K Hs0 a xs)(r:RepL Γ Hs0 ds xs):EV Γ Hs0 (Mx K a) ds where
 go:=λi Hs H hi s1 s2=>⟨xs,xs[i]'(by rw[<-r.length];exact hi),bj (s1.trans s2) h,by rw[QB]⟩
 stop:=λHs H s1 s2=>⟨xs,bj (s1.trans s2) h,Ym r.length.symm⟩
 yld:=λi Hs H x H' hi s1 s2 ⟨e,y⟩=>by
  subst e;obtain⟨z,e1,q⟩:=r.get (QB hi);have e2:=y xs (bj (s1.trans s2) h);rw[e1] at e2;cases e2;exact⟨_,Hs,QB hi,.refl s2,q.mono s1⟩
def CC{Hs0:Hp}(lo hi:Int):EV Γ Hs0 (LF lo (hi - lo).toNat) (rng lo hi) where
 go:=λi Hs H h s1 s2=>by
  unfold rng at h;rw[QG,V2] at h;exact h
 stop:=λHs H s1 s2=>by
  unfold rng;rw[QG,V2];exact QO _
 yld:=λi Hs H x H' h s1 s2 ⟨e,y⟩=>by
  subst e y;unfold rng at h ⊢;rw[QG,V2] at h;exact⟨.int (lo+i),Hs,by rw[Vy,Wu h];rfl,.refl s2,af.mpr rfl⟩
end
end L3
namespace L2
def dn(X:Cx)(scope:Scope)(fp:List Vp)(s:Vo)(H:Hp)(C:Vp):Cx:=
 {X with s₀:=s,H₀:=H,env:=compEnvC scope (uW scope X.env) C X.env,outer:=X.stack,ex:=fp,fn:=λ_=>false,pn:=[],xe:=λ_ _=>False}
theorem nF(f:Str->NameKind->NameKind):∀(l:List (Str×NameKind))(x:Str),(l.map λy=>(y.1,f y.1 y.2)).lookup x=(l.lookup x).map (f x)
 |[],_=>rfl
 | (n,k)::l,x=>by
  rw[Wm,YD,YD];cases hb:x == n with
  |true=>rw[WE hb];rfl
  |false=>exact nF f l x
def ki(scope:Scope)(env:PySem.Env)(x:Str):(relabel scope env).names.lookup x=(scope.names.lookup x).map λk=>if(k == NameKind.free && env.scope.kind == .function && env.kindOf x == some .cell)=true then NameKind.cell else k:=by
 rw[<-nF (λn k=>if(k == NameKind.free && env.scope.kind == .function && env.kindOf n == some .cell)=true then NameKind.cell else k)];unfold relabel;dsimp only;congr 1;refine Zs λy _=>?_;obtain⟨n,k⟩:=y;dsimp only;split <;> rfl
def jx{scope psc:Scope}{env:PySem.Env}{vars:List Str}{x:Str}(hc:cY scope psc vars=true)(h:(relabel scope env).names.lookup x=some .cell\/(relabel scope env).names.lookup x=some .free):scope.names.lookup x=some .free:=by
 rw[ki] at h;cases hl:scope.names.lookup x with
 |none=>rw[hl] at h;simp at h
 |some k=>
  obtain⟨_,h2,h3,_⟩:=lN hc _ (ee hl);rw[hl] at h;cases k with
  |free=>rfl
  |cell=>exact absurd rfl h3
  |_=>simp at h
theorem vV{scope psc:Scope}{env:PySem.Env}{vars:List Str}{x:Str}(hc:cY scope psc vars=true)(h:Ln (relabel scope env) x):
  (x∈vars)\/(scope.names.lookup x=some .free/\((relabel scope env).names.lookup x=some .cell\/(relabel scope env).names.lookup x=some .free)):=by
 rcases h with h|h|h
 ·rw[ki] at h;cases hl:scope.names.lookup x with
  |none=>rw[hl] at h;simp at h
  |some k=>
   obtain⟨_,h2,h3,_⟩:=lN hc _ (ee hl);rw[hl] at h;cases k with
   |«local»=>exact .inl (h2 rfl)
   |cell=>exact absurd rfl h3
   |free=>
    simp only[Option.map_some] at h;split at h <;> simp at h
   |_=>simp at h
 ·exact .inr ⟨jx hc (.inl h),.inl h⟩
 ·exact .inr ⟨jx hc (.inr h),.inr h⟩
theorem xB{scope psc:Scope}{env:PySem.Env}{vars:List Str}(hc:cY scope psc vars=true)(hf:∀y∈scope.names,y.2=.free->∃c,env.cells.lookup y.1=some c):
  (∀x c,(uW scope env).lookup x=some c->env.cells.lookup x=some c)/\∀x,scope.names.lookup x=some .free->∃c,(uW scope env).lookup x=some c/\env.cells.lookup x=some c:=by
 have h1:∀x c,(uW scope env).lookup x=some c->env.cells.lookup x=some c:=λx c e=>GP scope env scope.names [] (λ_ z=>nomatch z) hf (x,c) (ee e)
 refine⟨h1,λx e=>?_⟩;obtain⟨c,hm⟩:=EK scope env scope.names [] x (.inl (ee e));cases q:(uW scope env).lookup x with
 |some d=>exact⟨d,rfl,h1 x d q⟩
 |none=>
  have:=List.lookup_eq_none_iff.mp q _ hm;simp at this
section
variable{X:Cx}{pins:List (Vp×Obj)}{σ:St}{H:Hp}{s:Vo}{scope:Scope}{vars:List Str}{js:List Nat}{fp:List Vp}{C:Vp}{h₁:Vs}{tk:Nat}
def ng(I:aH X pins σ H s)(hc:cY scope X.env.scope vars=true):∀y∈scope.names,y.2=.free->∃c,X.env.cells.lookup y.1=some c:=λy hy e=>by
 obtain⟨_,_,_,h⟩:=lN hc y hy;exact I.ok.has y.1 (h e)
def E9(I:aH X pins σ H s)(hc:cY scope X.env.scope vars=true)(hj:kK X.N vars js=true)(hC:C=s.heap.objs.size)(hfp:∀b∈fp,FpOk X pins H b)(hfo:∀b∈fp,b<s.heap.objs.size)
  {m:Str->Option Vn} (hns:h₁.Ns C m) (keep:∀b o,s.heap.get? b=some o->h₁.get? b=some o):
  aH (dn X scope fp s H C) [] (fJ js σ) H {s with heap:=h₁,toks:=tk}:=by
 have hf:=ng I hc;obtain⟨cl1,cl2⟩:=xB hc hf;have ok:(dn X scope fp s H C).Ok:=by
  refine⟨I.ok.mod,?_,I.ok.glob,I.ok.blt,Ym hC.symm,λx y c h1 h2=>I.ok.inj x y c (cl1 x c h1) (cl1 y c h2),λx hx=>?_,(λx c z=>nomatch z),I.ok.hd,I.ok.frames,Or.inl rfl,λb hb=>?_,I.bs,V5 I.ok.bsz I.sz,λb o e hb=>?_,λb hb z=>?_,I.stack,I.stkFree⟩
  ·show scope.kind=.function;exact mz hc
  ·obtain⟨c,z,_⟩:=cl2 x (jx hc hx);exact⟨c,z⟩
  ·obtain⟨_,_,_,_,f4,_⟩:=hfp b hb;refine⟨λz=>?_,λx c e=>f4 x c (cl1 x c e)⟩;have h1:=hfo b hb;have h2:b=C:=z;rw[h2,hC] at h1;exact Wo _ h1
  ·obtain⟨_,_,_,f3,_⟩:=hfp b hb;rcases f3 with z|z
   ·exact I.ok.noex b o e z
   ·exact absurd (QZ (Vx (I.ok.bs b o e).1) z) (Wo _)
  ·obtain⟨_,f1,f2,_⟩:=hfp b hb;rcases V1.mp (I.stkSub b z) with e|e
   ·exact f1 e
   ·exact f2 e
 refine⟨ok,rfl,I.bare,Un.kept keep,⟨m,hns,λi x v e1 e2 e3=>?_⟩,λx c e=>?_,?_,λx c e=>I.freeC x c (cl1 x c e),(λp hp=>nomatch hp),I.hok.kept keep,?_⟩
 ·obtain⟨nj,e2⟩:=xg js σ i v e2;rcases vV hc e3 with hm|⟨ef,hk⟩
  ·exfalso;have hi:i<X.N.length:=(QM.mp e1).1;have hq:=YC.mp hj i (QX.mpr hi);rcases Y0.mp hq with z|z
   ·exact nj (Zq.mp z)
   ·rw[Wb,show X.N[i]?=some x from e1] at z;have hm':vars.contains x=true:=Zq.mpr hm;rw[Option.getD_some,hm'] at z;cases z
  ·obtain⟨c,z1,z2⟩:=cl2 x ef;obtain⟨m0,_,hl⟩:=I.loc;obtain⟨_,_,_,hp⟩:=lN hc _ (ee ef);have hv:Ln X.env.scope x:=(hp rfl).elim (λz=>.inr (.inl z)) λz=>.inr (.inr z);obtain⟨u,r,l⟩:=hl i x v e1 e2 hv;refine⟨u,r,.inr ⟨hk,c,z1,?_⟩⟩;rcases l with⟨k,_⟩|⟨_,c',e,q⟩
   ·have k':X.env.scope.names.lookup x=some .local:=k;rcases hp rfl with z|z
    ·have z':X.env.scope.names.lookup x=some .cell:=z;rw[k'] at z';cases z'
    ·have z':X.env.scope.names.lookup x=some .free:=z;rw[k'] at z';cases z'
   ·rw[z2] at e;cases e;obtain⟨o,ho,hd⟩:=q;exact⟨o,keep _ o ho,hd⟩
 ·obtain⟨v,o,ho,hd⟩:=I.cell x c (cl1 x c e);exact⟨v,o,keep _ o ho,hd⟩
 ·exact I.hok.fresh (Ym hC.symm)
 ·rw[ky];exact I.len
end
abbrev Fl:Vn->Vo->Prop:=λ_ _=>False
def fl{α:Type}{M:Model}{A:Vv}{t:Sem α}{Q Q':α->Vo->Prop}{E:Vn->Vo->Prop}{s:Vo}(h:wpAny M A t Q Fl s)(k:∀a s,Q a s->Q' a s):wpAny M A t Q' E s:=Z3 h k λ_ _ z=>z.elim
def Az(ifs:List Vt)(env:PySem.Env):Sem Bool:=forIn ifs true λc r=>if r=true then do let ok <-isTrue c env (eval c env);pure (ForInStep.yield ok) else pure (ForInStep.yield r)
theorem Cb{prog:Vq}{w:Vr}{A:Vv}{R:Result->Vo->Prop}{s:Vo}{elt target iter:Vt}{ifs:List Vt}{scope:Scope}{pos:Pos}{it acc:Vn}{env:PySem.Env}(Iv:Nat->Vo->Prop)
  (turn:∀n s,Iv n s->wpAny (model prog w) A (pyNext it) (λr s₁=>match r with
   |none=>R (.ok .next) s₁
   |some v=>wpAny (model prog w) A (letOwnedTupleGo target it v) (λ_ s₂=>wpAny (model prog w) A (assign target env v) (λ_ s₃=>wpAny (model prog w) A (Az ifs env) (λok s₄=>
     if ok=true then wpAny (model prog w) A (eval elt env) (λx s₅=>wpAny (model prog w) A (call (.builtin "list.append") [acc,x]) (λ_ s₆=>∃m,m<n/\Iv m s₆) Fl s₅) Fl s₄
     else ∃m,m<n/\Iv m s₄) Fl s₃) Fl s₂) Fl s₁) Fl s)
  (n:Nat) (h:Iv n s):codeAny (model prog w) A (.compLoop (.ListComp elt [⟨target,iter,ifs,0⟩] scope pos) 0 it acc env) R s:=by
 refine codeAny_loop rfl Iv (λn s hI=>?_) n h;show wpAny _ A ((compTurn (.ListComp elt [⟨target,iter,ifs,0⟩] scope pos) 0 it acc env).onRaise _) _ _ s;refine wpAny_noted ?_;rw[compTurn_list];refine QA (wpAny_standAt (QA (fl (turn n s hI) λr s₁ h₁=>?_)));cases r with
 |none=>exact QD h₁
 |some v=>
  refine QA (fl h₁ λ_ s₂ h₂=>QA (fl h₂ λ_ s₃ h₃=>QA (fl h₃ λok s₄ h₄=>?_)));cases ok with
  |false=>exact QD ⟨rfl,h₄⟩
  |true=>exact QA (QA (fl h₄ λx s₅ h₅=>QA (fl h₅ λ_ s₆ h₆=>QD (QD ⟨rfl,h₆⟩))))
def K7(X:Cx)(ifs:List Vt)(t:TT):Prop:=∀(pins:List (Vp×Obj))(s:Vo)(σ:St)(H:Hp)(Q:Bool->Hp->Prop),aH X pins σ H s->t σ H Q->wpAny (model X.prog X.w) X.A (Az ifs X.env) (TP X pins σ Q) X.xe s
def Hd:TT:=λ_ H Q=>Q true H
def FT{X:Cx}:K7 X [] Hd:=λpins s σ H Q I h=>wpAny_tests_nil ⟨H,I,h⟩
def FS{X:Cx}{c:Vt}{t:TT}(h:PT X c t):K7 X [c] t:=λpins s σ H Q I q=>wpAny_tests_one (h pins s σ H Q I q)
def HP(J:It)(g:TG)(tt:TT)(te:TE)(a:Vp)(Q:VK)(W:Nat->Nat->St->List V->Hp->Prop):Prop:=∀i m σ ys H,W i m σ ys H->H a=some (.lst ys)/\
 ((J.stop i H/\Q (.ref a) H)\/(J.go i H/\∀x H1,J.yld i H x H1->g x σ H1 λσ2 H2=>tt σ2 H2 λb H3=>
  if b=true then te σ2 H3 λy H4=>H4 a=some (.lst ys)/\ys.length<sizeLine/\∃m',m'<m/\W (i+1) m' σ2 (ys++[y]) (cD H4 a (.lst (ys++[y]))) else ∃m',m'<m/\W (i+1) m' σ2 ys H3))
def CV(js:List Nat)(wi:TI)(g:TG)(tt:TT)(te:TE):TE:=λσ H Q=>wi σ H λJ H1=>∀a,H1 a=none->∃W,(∃m,W 0 m (fJ js σ) [] (cD H1 a (.lst [])))/\HP J g tt te a Q W
section
variable{X:Cx}{scope:Scope}{vars:List Str}{js:List Nat}{elt tg iter:Vt}{ifs:List Vt}{pos:Pos}{wi:TI}{g:TG}{tt:TT}{te:TE}
theorem sF{pins:List (Vp×Obj)}{s:Vo}{σ:St}{H:Hp}{it:Vp}{fp:List Vp}{tn:Nat->Vs->Prop}{J:It}{Q:VK}{E:Vn->Vo->Prop}{RR:Vn->Vp->Result->Vo->Prop}(hc:cY scope X.env.scope vars=true)(hj:kK X.N vars js=true)(hcalm:X.calm=true)
  (hg:∀fp s H C,PG (dn X scope fp s H C) tg g) (ht:∀fp s H C,K7 (dn X scope fp s H C) ifs tt) (he:∀fp s H C,PE (dn X scope fp s H C) elt te)
  (I:aH X pins σ H s) (T:Cp X.prog X.w X.K tg J fp it tn) (st:tn 0 s.heap) (hfp:∀b∈fp,FpOk X pins H b) (q:∀a,H a=none->∃W,(∃m,W 0 m (fJ js σ) [] (cD H a (.lst [])))/\HP J g tt te a Q W)
  (fin:∀a C H' s' m,aH X pins σ H' s'->s'.heap.Ns C m->H' C=none->C≠X.env.locals->X.s₀.heap.objs.size<=C->(∀x c,X.env.cells.lookup x=some c->c≠C)->(∀p∈X.pn++pins,p.1≠C)->Q (.ref a) H'->RR (.ref a) C (.ok .next) s'):
  wpAny (model X.prog X.w) X.A (newList []) (λacc s₃=>wpAny (model X.prog X.w) X.A (newFunctionEnv scope X.env.globals (uW scope X.env) [] X.env.qual none .none (some X.env)) (λcenv s₄=>
   codeAny (model X.prog X.w) X.A (.compStart (.ListComp elt [⟨tg,iter,ifs,0⟩] scope pos) 0 (.ref it) acc {cenv with scope:=relabel scope X.env}) (RR acc cenv.locals) s₄) E s₃) E s:=by
 have nocell:∀y∈scope.names,y.2≠.cell:=λy hy=>(lN hc y hy).2.2.1;refine VE (wpAny_newFunctionEnv nocell (by intro y hy;simp at hy) (λh₁ hns hsb=>?_) (mz hc))
 dsimp only at hns hsb ⊢;generalize hA:s.heap.objs.size=a at *;have fa:H a=none:=by rw[<-hA];exact I.fresh
 obtain⟨W,⟨m0,w0⟩,hW⟩:=q a fa;have I3:aH X pins σ (cD H a (.lst [])) {s with heap:=s.heap.push {cls:=.type "list",data:=.seq ([]:List Vn).toArray}}:=by
  rw[<-hA];exact I.lnew (t':=s.toks) (ys:=[]) (its:=[]) .nil (VA _)
 generalize hB:s.heap.push {cls:=.type "list",dict:=none,data:=.seq ([]:List Vn).toArray}=hp at *;have szp:hp.objs.size=a+1:=by rw[<-hB,ZL,hA]
 have keep:∀b o,hp.get? b=some o->h₁.get? b=some o:=λb o e=>(hsb.2 b (V7 (Vx e))).trans (QF _ e);have up:∀b o,s.heap.get? b=some o->hp.get? b=some o:=λb o e=>by rw[<-hB];exact QF _ e
 have lo:∀b∈fp,b<a:=λb hb=>by
  obtain⟨o,e,_⟩:=T.obj 0 _ st b hb;rw[<-hA];exact Vx e
 have hfp3:∀b∈fp,FpOk X pins (cD H a (.lst [])) b:=λb hb=>⟨by rw[az (V7 (lo b hb))];exact(hfp b hb).1,(hfp b hb).2⟩
 have I4:=E9 (tk:=s.toks+([]:List (Str×Vn)).length) I3 hc hj rfl hfp3 (λb hb=>by show b<hp.objs.size;rw[szp];exact WI (lo b hb)) hns keep
 generalize hX:dn X scope fp {s with heap:=hp} (cD H a (.lst [])) hp.objs.size=X' at I4;have eP:X'.prog=X.prog:=by rw[<-hX];rfl
 have eW:X'.w=X.w:=by rw[<-hX];rfl
 have eK:X'.K=X.K:=by rw[<-hX];rfl
 have eA:X'.A=X.A:=by rw[<-hX];rfl
 have eC:X'.calm=true:=by rw[<-hX];exact hcalm
 have eL:X'.env.locals=hp.objs.size:=by rw[<-hX];rfl
 have eE:X'.env=compEnvC scope (uW scope X.env) hp.objs.size X.env:=by rw[<-hX];rfl
 have eX:X'.ex=fp:=by rw[<-hX];rfl
 have exe:X'.xe=Fl:=by rw[<-hX];rfl
 have epn:X'.pn=[]:=by rw[<-hX];rfl
 have hg':PG X' tg g:=by rw[<-hX];exact hg _ _ _ _
 have ht':K7 X' ifs tt:=by rw[<-hX];exact ht _ _ _ _
 have he':PE X' elt te:=by rw[<-hX];exact he _ _ _ _
 have stat:∀{H':Hp},(∀b∈fp,H' b=none)->∀b∈fp,FpOk X' [] H' b:=λhn b hb=>by
  have hb':b∈X'.ex:=by rw[eX];exact hb
  exact⟨hn b hb,(I4.ok.exf b hb').1,I4.ok.exfs b hb',.inl hb',(I4.ok.exf b hb').2,λp hp=>by rw[epn] at hp;cases hp⟩
 have back:∀{σ':St}{H':Hp}{s':Vo},aH X' [] σ' H' s'->Q (.ref a) H'->RR (.ref a) hp.objs.size (.ok .next) s':=λ{σ' H' s'} J qf=>by
  obtain⟨m,hn,_⟩:=J.loc;rw[eL] at hn;have hfree:=J.free;rw[eL] at hfree;have jos:=J.os;have jbase:=J.base;have jhok:=J.hok;rw[<-hX] at jos jbase jhok;refine fin a _ H' s' m (I3.call' (ch:=fp) jos jbase jhok J.bare λb hb=>⟨(hfp b hb).2.2.2.1,(hfp b hb).2.1,(hfp b hb).2.2.2.2.1,(hfp b hb).2.2.2.2.2⟩) hn hfree (ne_of_gt I3.lt) I3.sz (λx c e z=>?_) (λp hp' z=>?_) qf
  ·obtain⟨v,o,ho,_⟩:=I3.cell x c e;have:=Vx ho;rw[z] at this;exact Wo _ this
  ·have:=Vx (I3.pin p hp').1;rw[z] at this;exact Wo _ this
 have st1:tn 0 h₁:=T.keep 0 _ _ st λb hb o e=>keep b o (up b o e);have loop:codeAny (model X.prog X.w) X.A (.compLoop (.ListComp elt [⟨tg,iter,ifs,0⟩] scope pos) 0 (.ref it) (.ref a) X'.env) (RR (.ref a) hp.objs.size) {s with heap:=h₁,toks:=s.toks+([]:List (Str×Vn)).length}:=by
  refine Cb (λn s'=>∃i σ' ys H',aH X' [] σ' H' s'/\tn i s'.heap/\(∀b∈fp,H' b=none)/\W i n σ' ys H') ?_ m0 ⟨0,_,[],_,I4,st1,λb hb=>(hfp3 b hb).1,w0⟩
  rintro n s3 ⟨i,σ3,ys,H3,J3,st3,fr3,w3⟩
  obtain⟨ha,hw⟩:=hW i n σ3 ys H3 w3;rcases hw with⟨stop,qn⟩|⟨go,step⟩
  ·have z:=T.done X' eP eW eK eC i [] s3 σ3 H3 Fl J3 (stat fr3) st3 stop;rw[eA] at z;refine dy z λr s4 ⟨hr,J4⟩=>?_;subst hr;exact back J4 qn
  ·have z:=T.item X' eP eW eK eC i [] s3 σ3 H3 Fl J3 (stat fr3) st3 go;rw[eA] at z;refine dy z λr s4 t'=>?_;obtain⟨u,hr,h4⟩:=t';subst hr;refine dy h4 λ_ s5 t'=>?_;obtain⟨x,H5,J5,r5,y5,st5,fr5⟩:=t';have J5':=J5.pinned (stat fr5) (T.obj _ _ st5);have z5:=hg' _ s5 σ3 H5 x u _ J5' r5 (step x H5 y5);rw[eP,eW,eA,exe] at z5;refine dy z5 λ_ s6 t'=>?_;obtain⟨σ6,H6,J6,q6⟩:=t';have z6:=ht' _ s6 σ6 H6 _ J6 q6;rw[eP,eW,eA,exe] at z6;refine dy z6 λok s7 t'=>?_;obtain⟨H7,J7,q7⟩:=t';have again:∀{σ8:St}{H8:Hp}{s8:Vo}{ys8:List V}{m':Nat},aH X' ([]++p8 fp s5.heap) σ8 H8 s8->m'<n->W (i+1) m' σ8 ys8 H8->∃m,m<n/\∃i σ' ys H',aH X' [] σ' H' s8/\tn i s8.heap/\(∀b∈fp,H' b=none)/\W i m σ' ys H':=λ{σ8 H8 s8 ys8 m'} J8 hm w8=>by
    refine⟨m',hm,i+1,σ8,ys8,H8,J8.unpinned,T.keep _ _ _ st5 λb hb o e=>(J8.pin (b,o) (Wd _ (Wd _ (jD hb e)))).1,λb hb=>?_,w8⟩;obtain⟨o,e,d⟩:=T.obj _ _ st5 b hb;exact(J8.pin (b,o) (Wd _ (Wd _ (jD hb e)))).2.1
   cases ok with
   |false=>
    rw[QI QC] at q7 ⊢;obtain⟨m',hm,w7⟩:=q7;exact again J7 hm w7
   |true=>
    rw[QH rfl] at q7 ⊢;have z7:=he' _ s7 σ6 H7 _ J7 q7;rw[eP,eW,eA,exe] at z7;refine dy z7 λv s8 t'=>?_;obtain⟨y,H8,J8,r8,h8,hl8,m',hm,w8⟩:=t';have z8:=sj _ s8 σ6 H8 (.ref a) [y] (.ref a) [v] (λ_ H9=>H9=cD H8 a (.lst (ys++[y]))) J8 rfl (.cons r8 .nil) ⟨a,ys,y,rfl,rfl,h8,hl8,rfl⟩;rw[eP,eW,eA,exe] at z8;refine dy z8 λ_ s9 t'=>?_;obtain⟨_,H9,J9,_,q9⟩:=t';subst q9;exact again J9 hm w8
 rw[eE] at loop;exact codeAny_compStart_list loop (T.self _ 0 _ _ _ st1 loop)
def FW(hc:cY scope X.env.scope vars=true)(hj:kK X.N vars js=true)(hcalm:X.calm=true)(hi:PI X tg iter wi)
  (hg:∀fp s H C,PG (dn X scope fp s H C) tg g) (ht:∀fp s H C,K7 (dn X scope fp s H C) ifs tt) (he:∀fp s H C,PE (dn X scope fp s H C) elt te) (hs:∀x,foldedSetIterable iter X.env x=pure x:=by intro _;rfl):
  PE X (.ListComp elt [⟨tg,iter,ifs,0⟩] scope pos) (CV js wi g tt te):=by
 intro pins s σ H Q I h;rw[eval_ListComp];refine wpAny_comprehension_free (use:=none) rfl hs (lE (ng I hc)) (mz hc) (λy hy e=>by rw[(lN hc y hy).1,e]) (dy (hi pins s σ H _ I h) λv s1 h1=>dy h1 λitv s2 h2=>?_)
 obtain⟨it,fp,tn,J,H2,e,I2,T,st2,f2,q⟩:=h2;subst e;refine sF (RR:=λacc C=>compPost (model X.prog X.w) X.A X.xe none (EP X pins σ Q) acc C) hc hj hcalm hg ht he I2 T st2 f2 q ?_;intro a C H' s' m J' hn hC hL hS hcell hpin q';exact⟨m,hn,λh' sb=>⟨.ref a,H',J'.turned (t':=s'.toks) (λb o hb e=>(sb.2 b hb).trans e) hC hL (.inr hS) hcell hpin,rfl,q'⟩⟩
def ye{i:Nat}{x:Str}{pos' spos:Pos}(hN:X.N.Nodup)(hi':X.N[i]?=some x)(hx:zF X.env.scope x)(hc:cY scope X.env.scope vars=true)(hj:kK X.N vars js=true)(hcalm:X.calm=true)(hi:PI X tg iter wi)
  (hg:∀fp s H C,PG (dn X scope fp s H C) tg g) (ht:∀fp s H C,K7 (dn X scope fp s H C) ifs tt) (he:∀fp s H C,PE (dn X scope fp s H C) elt te)
  (hsw:swapsWith (.ListComp elt [⟨tg,iter,ifs,0⟩] scope pos) (some (.Name x pos')) spos.line X.env=pure true:=by rfl) (hs:∀x,foldedSetIterable iter X.env x=pure x:=by intro _;rfl)
  (hf:X.fn x=true\/X.env.scope.names.lookup x=some .local:=by first|exact .inl rfl|exact .inr rfl|assumption):
  PS X (.Assign [.Name x pos'] (.ListComp elt [⟨tg,iter,ifs,0⟩] scope pos) spos) (Fo (CV js wi g tt te) (xb i)):=by
 intro pins s σ H D I h;rw[exec_Assign_Name_used _ _ _ _ hsw];refine QA (wpAny_standAt (QA ?_));show wpAny _ X.A (do let _ <-comprehension (.ListComp elt [⟨tg,iter,ifs,0⟩] scope pos) scope X.env _ (newList []) false (eval iter X.env) (some (assign (.Name x pos') X.env))) _ _ s
 refine QA (Z3 (wpAny_comprehension_free (use:=some (assign (.Name x pos') X.env)) (Q:=λ_ s'=>SP X pins D .next s') rfl hs (lE (ng I hc)) (mz hc) (λy hy e=>by rw[(lN hc y hy).1,e])
  (dy (hi pins s σ H _ I h) λv s1 h1=>dy h1 λitv s2 h2=>?_)) (λ_ s' hq=>QD (QD hq)) λ_ _ e=>e)
 obtain⟨it,fp,tn,J,H2,e,I2,T,st2,f2,q⟩:=h2;subst e;refine sF (RR:=λacc C=>compPost (model X.prog X.w) X.A X.xe (some (assign (.Name x pos') X.env)) (λ_ s'=>SP X pins D .next s') acc C) hc hj hcalm hg ht he I2 T st2 f2 q ?_;intro a C H' s' m J' hn hC hL hS hcell hpin q';refine wpAny_assign_Name (rR J' hN hi' hx (v:=.ref a) rfl (λs'' J2 ⟨b,sb,hb⟩=>?_) hf);have hCb:C≠b:=by
  rcases hb with z|z
  ·rw[z];exact hL
  ·exact(hcell x b z).symm
 exact⟨m,hn.sameBut sb hCb,λh' sb'=>⟨_,H',J2.turned (t':=s''.toks) (λb o hb e=>(sb'.2 b hb).trans e) hC hL (.inr hS) hcell hpin,q'⟩⟩
end
end L2
namespace L3
open L2
def rN(js:List Nat):∀ρ:aJ,(cW js ρ).length=ρ.length:=by
 induction js with
 |nil=>intro ρ;rfl
 |cons j js ih=>intro ρ;show(cW js (ρ.set j none)).length=_;rw[ih,VW]
def lM(js:List Nat):∀(ρ:aJ)(i:Nat)(v:S),(cW js ρ)[i]?=some (some v)->i∉js/\ρ[i]?=some (some v):=by
 induction js with
 |nil=>intro ρ i v h;exact⟨by simp,h⟩
 |cons j js ih=>
  intro ρ i v h;obtain⟨h1,h2⟩:=ih (ρ.set j none) i v h;by_cases hj:j=i
  ·subst hj;by_cases hl:j<ρ.length
   ·rw[QR hl] at h2;cases h2
   ·rw[Wj (by rw[VW];omega)] at h2;cases h2
  ·rw[QQ hj] at h2;exact⟨by simp[h1,W8 hj],h2⟩
def xf(js:List Nat):∀(σ:L2.St)(i:Nat),i∉js->(fJ js σ)[i]?=σ[i]?:=by
 induction js with
 |nil=>intro σ i _;rfl
 |cons j js ih=>
  intro σ i h;have h':i≠j/\i∉js:=by simpa using h
  show(fJ js (σ.set j none))[i]?=_;rw[ih _ _ h'.2,QQ (W8 h'.1)]
section
variable{Γ:Ct}{B0 B1 Hs H:Hp}{σ σ':L2.St}{ρ ρ':aJ}
def RE.sub(r:RE Γ B0 B1 Hs H σ ρ)(hl:ρ'.length=σ'.length)(h:∀(i:Nat)(s:S),ρ'[i]?=some (some s)->ρ[i]?=some (some s)/\σ'[i]?=σ[i]?):RE Γ B0 B1 Hs H σ' ρ' where
 tb:=r.tb
 b:=r.b
 sh:=λi d e=>by
  obtain⟨e1,e2⟩:=h i _ e;obtain⟨v,e3,q⟩:=r.sh i d e1;exact⟨v,e2.trans e3,q⟩
 own:=λi o e=>by
  obtain⟨e1,e2⟩:=h i _ e;obtain⟨a,ho,e3,f1,f2,f3,q⟩:=r.own i o e1;exact⟨a,ho,e2.trans e3,f1,f2,f3,q⟩
 apart:=λi j o u a hij hi hj ha=>by
  obtain⟨e1,e2⟩:=h i _ hi;obtain⟨e3,e4⟩:=h j _ hj;rw[e4];exact r.apart i j o u a hij e1 e3 (e2.symm.trans ha)
 len:=hl
def RE.other(r:RE Γ B0 B1 Hs H σ ρ){a:Vp}{ho:HO}(h1:Hs a=none)(h2:B1 a=none)(h3:∀(i:Nat)(o:O),ρ[i]?=some (some (.own o))->σ[i]?≠some (some (.ref a))):RE Γ B0 B1 Hs (cD H a ho) σ ρ where
 tb:=r.tb
 b:=⟨r.b.s,λb u z=>by rw[az (aO z h2)];exact r.b.h _ _ z,λb u z=>by rw[az (aO z h1)];exact r.b.i _ _ z,r.b.n⟩
 sh:=r.sh
 own:=λi o e=>by
  obtain⟨c,hc,f1,f2,f3,f4,f5⟩:=r.own i o e;refine⟨c,hc,f1,f2,f3,?_,f5⟩;rw[az]
  ·exact f4
  ·intro z;subst z;exact h3 i o e f1
 apart:=r.apart
 len:=r.len
end
def Grow.other{Hs H Hs' H':Hp}{a:Vp}{ho:HO}(g:Grow Hs H Hs' H')(h0:H a=none)(h1:Hs' a=none):Grow Hs H Hs' (cD H' a ho):=
 ⟨g.s,λb u z=>by rw[az (aO z h0)];exact g.h _ _ z,λb u z=>by rw[az (aO z h1)];exact g.i _ _ z,g.n⟩
theorem Grow.none{Hs H Hs' H':Hp}{a:Vp}{ho:HO}(g:Grow Hs H Hs' H')(h:Hs a=Option.none)(h':H a=some ho):Hs' a=Option.none:=by
 cases z:Hs' a with
 |none=>rfl
 |some u=>
  rcases g.n a u z with w|w
  ·rw[h] at w;cases w
  ·rw[h'] at w;cases w
def Ha(js:List Nat)(bd:MB):Prop:=∀d ρ ρ',bd d ρ=some ρ'->ρ'.length=ρ.length/\∀i:Nat,i∉js->ρ'[i]?=ρ[i]?
def dA(j:Nat):Ha [j] (ba j):=λd ρ ρ' e=>by
 cases e;exact⟨by rw[VW],λi hi=>QQ λz=>hi (by simp[z])⟩
section
variable{Γ:Ct}{W:XW}{js:List Nat}{gi:MI}{bd:MB}{cond elt:ME}
inductive MD(Γ:Ct)(bd:MB)(cond elt:ME)(ρf:aJ)(ds:List D)(r:R)(B0 B1 Hs1 Hs H:Hp)(a:Vp)(i m:Nat)(σ2:L2.St)(ys:List V)(H2:Hp):Prop
 |mk (e:m=ds.length - i) (hi:i<=ds.length) (Hs2:Hp) (acc:List D) (sm:aM Hs1 Hs2) (g2:Grow Hs H Hs2 H2) (re:RE Γ B0 B1 Hs2 H2 σ2 ρf) (ha:Hs2 a=none) (ap:∀(i:Nat)(o:O),ρf[i]?=some (some (.own o))->σ2[i]?≠some (some (.ref a))) (hy:H2 a=some (.lst ys)) (rl:RepL Γ Hs2 acc ys) (ec:jc bd cond elt ρf (ds.drop i) acc=some r) (hacc:acc.length<=i)
theorem zL{tt:TT}(ht:∀σ H Q,tT Γ W cond σ H Q->tt σ H Q)(hb:Ha js bd){σ:L2.St}{H:Hp}{Q:VK}(t:tD Γ W (cU js gi bd cond elt) σ H Q):
  CV js (tI Γ W gi) (LV Γ js bd) tt (tD Γ W elt) σ H Q:=by
 obtain⟨B0,B1,Hs,ρ,r,re,e,q⟩:=t;unfold cU at e;cases h:gi ρ with
 |none=>rw[h] at e;cases e
 |some x=>
  rw[h] at e;refine⟨B0,B1,Hs,ρ,x,re,h,?_⟩;cases x with
  |exc y=>cases e;exact q
  |ok ds=>
   intro J Hs1 H1 g1 w a ha;dsimp only at e;have hlim:ds.length<=lim:=by
    by_cases z:ds.length<=lim
    ·exact z
    ·rw[QI z] at e;cases e
   rw[QH hlim] at e;have hs1:Hs1 a=none:=g1.i.free ha;have h0:H a=none:=g1.h.free ha;have hb1:B1 a=none:=re.b.h.free h0;have re1:RE Γ B0 B1 Hs1 H1 (fJ js σ) (cW js ρ):=(re.grow g1).sub (by rw[rN,ky,re.len]) λi s z=>by
    obtain⟨z1,z2⟩:=lM js ρ i s z;exact⟨z2,xf js σ i z1⟩
   have ap1:∀(i:Nat)(o:O),(cW js ρ)[i]?=some (some (.own o))->(fJ js σ)[i]?≠some (some (.ref a)):=λi o z z'=>by
    obtain⟨c,hc,f1,_,_,f4,_⟩:=re1.own i o z;rw[z'] at f1;cases f1;rw[ha] at f4;cases f4
   refine⟨MD Γ bd cond elt (cW js ρ) ds r B0 B1 Hs1 Hs H a,⟨_,rfl,VA _,Hs1,[],.refl _,g1.other h0 hs1,re1.other hs1 hb1 ap1,hs1,ap1,aQ,.nil,e,VA _⟩,?_⟩
   rintro i m σ2 ys H2 ⟨rfl,hi,Hs2,acc,sm,g2,re2,ha2,ap,hy,rl,ec,hacc⟩
   refine⟨hy,?_⟩;by_cases hlt:i<ds.length
   ·refine .inr ⟨w.go i Hs2 H2 hlt sm re2.b.i,λx H3 y=>?_⟩;obtain⟨d,Hs3,ed,g3,rp⟩:=w.yld i Hs2 H2 x H3 hlt sm re2.b.i y;have hd:ds.drop i=d::ds.drop (i+1):=by
     rw[W1 hlt];congr 1;rw[QB hlt] at ed;exact VN ed
    rw[hd] at ec;unfold jc at ec;cases hbd:bd d (cW js ρ) with
    |none=>rw[hbd] at ec;cases ec
    |some ρ1=>
     rw[hbd] at ec;dsimp only at ec;obtain⟨bl,bo⟩:=hb d _ ρ1 hbd;refine⟨B0,B1,Hs3,cW js ρ,d,ρ1,re2.grow g3,rp,hbd,λσ4 re4 hσ=>?_⟩;have low:∀{Hs5 H5:Hp},RE Γ B0 B1 Hs5 H5 σ4 ρ1->RE Γ B0 B1 Hs5 H5 σ4 (cW js ρ):=λr5=>r5.sub (by rw[<-bl,r5.len]) λk s z=>by
      obtain⟨z1,_⟩:=lM js ρ k s z;exact⟨(bo k z1).trans z,rfl⟩
     have ap4:∀(k:Nat)(o:O),(cW js ρ)[k]?=some (some (.own o))->σ4[k]?≠some (some (.ref a)):=λk o z=>by
      obtain⟨z1,_⟩:=lM js ρ k _ z;rw[hσ k z1];exact ap k o z
     have ha3:=g3.none ha2 hy;have hy3:=g3.h _ _ hy;refine ht _ _ _ ?_;cases hcv:cond ρ1 with
     |none=>rw[hcv] at ec;cases ec
     |some c=>
      rw[hcv] at ec;refine⟨B0,B1,Hs3,ρ1,c,re4,hcv,?_⟩;cases c with
      |exc x=>
       cases ec;exact λHs' H' g'=>q Hs' H' ((g2.trans g3).trans g')
      |ok s=>
       obtain⟨b,eb,ec2⟩:=hJ (show asB s.val _=some r from ec);refine⟨b,eb,λHs5 H5 g5=>?_⟩;have ha5:=g5.none ha3 hy3;have hy5:=g5.h _ _ hy3;have re5:=re4.grow g5;cases b with
       |false=>
        rw[QI QC] at ec2;refine Mh ?_;exact⟨_,by omega,rfl,hlt,Hs5,acc,(sm.trans g3.s).trans g5.s,(g2.trans g3).trans g5,low re5,ha5,ap4,hy5,rl.mono (g3.s.trans g5.s),ec2,by omega⟩
       |true=>
        rw[QH rfl] at ec2;refine Mg ?_;refine(bW (k:=λx=>jc bd cond elt (cW js ρ) (ds.drop (i+1)) (acc++[x])) re5 ec2 ((q.grow (g2.trans g3)).grow g5)).mono λv H6 t'=>?_;obtain⟨Hs6,z,g6,re6,rp6,ec6,q6⟩:=t';have ha6:=g6.none ha5 hy5;have hy6:=g6.h _ _ hy5;have hlen:acc.length=ys.length:=rl.length;have hbig:ys.length<sizeLine:=QZ (by omega:ys.length<lim) (by decide)
        refine⟨hy6,hbig,_,by omega,rfl,hlt,Hs6,acc++[z],((sm.trans g3.s).trans g5.s).trans g6.s,(((g2.trans g3).trans g5).trans g6).other h0 ha6,(low re6).other ha6 hb1 ap4,ha6,ap4,aQ,(rl.mono ((g3.s.trans g5.s).trans g6.s)).append (.cons rp6 .nil),ec6,by rw[QE,VC];omega⟩
   ·have ei:i=ds.length:=by omega
    subst ei;rw[List.drop_length] at ec;unfold jc at ec;split at ec
    ·cases ec;exact .inl ⟨w.stop Hs2 H2 sm re2.b.i,q _ Hs2 H2 g2 ⟨a,_,rfl,h0,ha2,hy,ys,rfl,rl⟩⟩
    ·cases ec
end
section
variable{X:Cx}{Γ:Ct}{W:XW}{scope:Scope}{vars:List Str}{js:List Nat}{elt tg iter c:Vt}{pos:Pos}{gi:MI}{bd:MB}{cond ge:ME}
def Fm{σ:L2.St}{H:Hp}{Q:Bool->Hp->Prop}(t:tT Γ W gZ σ H Q):Hd σ H Q:=by
 obtain⟨B0,B1,Hs,ρ,r,re,e,q⟩:=t;cases e;obtain⟨b,eb,q⟩:=q;cases eb;exact q Hs H (.refl re.b.i)
def kT(hb:Ha js bd)(hc:cY scope X.env.scope vars=true)(hj:kK X.N vars js=true)(hcalm:X.calm=true)(hi:K8 X Γ W tg iter gi)
  (hg:∀fp s H a,JY (dn X scope fp s H a) Γ tg js bd) (he:∀fp s H a,PD (dn X scope fp s H a) Γ W elt ge) (hs:∀x,foldedSetIterable iter X.env x=pure x:=by intro _;rfl):
  PD X Γ W (.ListComp elt [⟨tg,iter,[],0⟩] scope pos) (cU js gi bd gZ ge):=
 PE.imp (FW hc hj hcalm hi hg (λ_ _ _ _=>FT) he hs) λ_ _ _ _ _ _ t=>zL (λ_ _ _ z=>Fm z) hb t
variable{i:Nat}{x:Str}{pos' spos:Pos}
def w5{st:Vu}{t:TE}{ge:ME}(h:PS X st (Fo t (xb i)))(ht:∀σ H Q,tD Γ W ge σ H Q->t σ H Q)(hi:i<X.N.length):zD X Γ W st (bq i ge):=PS.imp h λpins s σ H D I ⟨B0,B1,Hs,ρ,o,re,e,q⟩=>by
 refine ht _ _ _ ((CT re e q).mono λv H1 ⟨Hs1,s,g1,rs,e1⟩=>?_);cases e1;exact q _ Hs1 H1 g1.s (re.setS g1 (by rw[I.len];exact hi) rs)
def lL(hN:X.N.Nodup)(hi':X.N[i]?=some x)(hx:zF X.env.scope x)(hb:Ha js bd)(hc:cY scope X.env.scope vars=true)(hj:kK X.N vars js=true)(hcalm:X.calm=true)(hi:K8 X Γ W tg iter gi)
  (hg:∀fp s H a,JY (dn X scope fp s H a) Γ tg js bd) (ht:∀fp s H a,AI (dn X scope fp s H a) Γ W c cond) (he:∀fp s H a,PD (dn X scope fp s H a) Γ W elt ge)
  (hsw:swapsWith (.ListComp elt [⟨tg,iter,[c],0⟩] scope pos) (some (.Name x pos')) spos.line X.env=pure true:=by rfl) (hs:∀x,foldedSetIterable iter X.env x=pure x:=by intro _;rfl)
  (hf:X.fn x=true\/X.env.scope.names.lookup x=some .local:=by first|exact .inl rfl|exact .inr rfl|assumption):
  zD X Γ W (.Assign [.Name x pos'] (.ListComp elt [⟨tg,iter,[c],0⟩] scope pos) spos) (bq i (cU js gi bd cond ge)):=
 w5 (ye hN hi' hx hc hj hcalm hi hg (λfp s H a=>FS (ht fp s H a)) he hsw hs hf) (λ_ _ _ t=>zL (λ_ _ _ z=>z) hb t) (QM.mp hi').1
def gC{l:Vt}{g:ME}(hK:X.K=Γ.K)(h:PD X Γ W l g):K8 X Γ W tg l (l9 g):=PI.imp (Iz h) λ_ _ σ H Q _ ⟨B0,B1,Hs,ρ,r,re,e,q⟩=>by
 unfold l9 at e;cases hg:g ρ with
 |none=>rw[hg] at e;cases e
 |some y=>
  rw[hg] at e;cases y with
  |exc z=>
   cases e;exact⟨B0,B1,Hs,ρ,_,re,hg,q⟩
  |ok s=>
   refine⟨B0,B1,Hs,ρ,.ok s,re,hg,λv Hs' H' g' rs=>?_⟩;obtain⟨Hs2,g2,_,rp⟩:=rs.share g';dsimp only at e;cases hv:s.val with
   |lst ds=>
    rw[hv] at e rp;cases e;obtain⟨a,xs,rfl,rd,rl⟩:=b6.mp rp;rw[<-hK] at rd;exact⟨a,rfl,.inl ⟨⟨xs,aM.seq g2.i rd⟩,q _ Hs2 H' g2 (AN rd rl)⟩⟩
   |tup ds=>
    rw[hv] at e rp;cases e;obtain⟨a,xs,rfl,sq,rl⟩:=aX.mp rp;rw[<-hK] at sq;exact⟨a,rfl,.inr ⟨⟨xs,bj g2.i sq⟩,q _ Hs2 H' g2 (CB sq rl)⟩⟩
   |non=>rw[hv] at e;cases e
   |bl _=>rw[hv] at e;cases e
   |int _=>rw[hv] at e;cases e
   |str _=>rw[hv] at e;cases e
   |fn _ _=>rw[hv] at e;cases e
   |obj _ _ _=>rw[hv] at e;cases e
theorem Kk{B0 B1 Hs H:Hp}{σ:L2.St}{ρ:aJ}{g:ME}{k:D->Option RI}{r:RI}{Q:It->Hp->Prop}(re:RE Γ B0 B1 Hs H σ ρ)(e:BO g ρ k=some r)(q:IQ Γ W Hs H r Q):
  tD Γ W g σ H (λv H1=>∃Hs1 d,Grow Hs H Hs1 H1/\RE Γ B0 B1 Hs1 H1 σ ρ/\c6 Γ Hs1 d v/\k d=some r/\IQ Γ W Hs1 H1 r Q):=by
 unfold BO at e;cases h:g ρ with
 |none=>rw[h] at e;cases e
 |some x=>
  rw[h] at e;refine⟨B0,B1,Hs,ρ,x,re,h,?_⟩;cases x with
  |exc y=>cases e;exact q
  |ok s=>
   intro v Hs' H' g' rs;obtain⟨Hs'',g2,_,rp⟩:=rs.share g';refine⟨Hs'',s.val,g2,re.grow g2,rp,e,?_⟩;cases r with
   |ok ds=>exact λJ Hs3 H3 g3 w=>q J Hs3 H3 (g2.trans g3) w
   |exc y=>exact λHs3 H3 g3=>q Hs3 H3 (g2.trans g3)
def kr{i:Int}(h:jV i=true):-(2 ^ 62)<=i/\i<2 ^ 62:=by
 unfold jV at h;simpa using h
def bH{a:Vt}{g:ME}{p p':Pos}(hg:Gl X "range")(hm:X.mg "range" = none)(h:PD X Γ W a g)(hst:starEach (a::[]) X.env=(false,eval a X.env)::starEach [] X.env:=by rfl)(hs:starEach [a] X.env=[(false,eval a X.env)]:=by rfl):
  K8 X Γ W tg (.Call (.Name "range" p) [a] [] p') (bP g):=PI.imp (Bj hg hm (cA h dW hst) hs) λ_ _ σ H Q _ t'=>by
 obtain⟨B0,B1,Hs,ρ,r,re,e,q⟩:=t';refine(Kk re e q).mono λv H1 t'=>?_;obtain⟨Hs1,d,g1,re1,rp,e1,q1⟩:=t';cases d with
 |int hi=>
  dsimp only at e1;split at e1
  ·rename_i hr;cases e1;obtain⟨h1,h2⟩:=kr hr;refine⟨hi,by rw[af.mp rp],h1,h2,q1 _ Hs1 H1 (.refl re1.b.i) ?_⟩
   have w:=CC (Γ:=Γ) (Hs0:=Hs1) 0 hi;rw[Int.sub_zero] at w;exact w
  ·cases e1
 |_=>cases e1
end
end L3
namespace L2
section
variable{X:Cx}{pins:List (Vp×Obj)}{σ:St}{H:Hp}{s:Vo}{l:Vp}{xs:List V}
def Kv(K:Frag):R2:=λx y H Q=>∃l b xs zs,x=.ref l/\y=.ref b/\iA K H l xs/\iA K H b zs/\xs.length+zs.length<=sizeLine/\∀p,H p=none->Q (.ref p) (cD H p (.lst (xs++zs)))
theorem G7:hU X (binaryOp .Add) (Kv X.K):=λpins s σ H x y v u Q I rx ry t'=>by
 obtain⟨l,b,xs,zs,ex,ey,hH,hB,hz,q⟩:=t';subst ex ey;cases rx;cases ry;obtain⟨i1,r1,p1,_⟩:=I.list hH;obtain⟨i2,r2,p2,_⟩:=I.list hB;obtain⟨⟨c1,d1,t1,s1⟩,o1,k1,n1,g1⟩:=p1.isList;obtain⟨⟨c2,d2,t2,s2⟩,o2,k2,n2,g2⟩:=p2.isList;simp only at k1 g1 k2 g2;subst k1 g1 k2 g2;have l1:=r1.length;have l2:=r2.length;have ea:i1.toArray++i2.toArray=(i1++i2).toArray:=by simp
 refine Xi ⟨_,o1,rfl⟩ ⟨_,o2,rfl⟩ noFill_list_add seq_list_add PySem.F.slot_list_add PySem.F.entry_list_add (PySem.F.args_list_add_2 _ _) (list_addW l b _ _ n1 n2 d1 d2 s1 s2 (by rw[QK,QK,<-l1,<-l2];exact hz)) ⟨o1,o2,?_⟩
 rw[ea];exact⟨.ref _,_,I.lnew (t':=s.toks) (r1.append r2) (by rw[QE];exact hz),rfl,q _ I.fresh⟩
theorem Dw:hU X (binaryOp .Add) (λx y H Q=>∃a b ys,x=.ref a/\y=.ref b/\iy X.K H a []/\iy X.K H b ys/\Q (.ref b) H):=λpins s σ H x y v u Q I rx ry t'=>by
 obtain⟨a,b,ys,ex,ey,ha,hb,q⟩:=t';subst ex ey;cases rx;cases ry;obtain⟨i1,r1,⟨⟨c1,d1,t1,s1⟩,o1,k1,n1,g1⟩,_⟩:=I.tuple ha;obtain⟨i2,r2,⟨⟨c2,d2,t2,s2⟩,o2,k2,n2,g2⟩,_⟩:=I.tuple hb;cases r1;simp only at k1 g1 k2 g2;subst k1 g1 k2 g2;exact Xi ⟨_,o1,rfl⟩ ⟨_,o2,rfl⟩ Xr seq_tuple_add Yd ZV (ZQ _ _)
  (tuple_addW0 a b _ _ n1 n2 d1 d2 s1 s2 (by rfl)) ⟨o1,o2,⟨.ref b,H,I,rfl,q⟩⟩
theorem p5(ns:List Int):∀k,k<=ns.length->preSum (λi=>(ns[i]?).getD 0) k=(ns.take k).sum
 |0,_=>by simp[preSum]
 |k+1,h=>by
  have hk:k<ns.length:=h;rw[List.take_add_one,QB hk,List.sum_append,<-p5 ns k (W7 hk)];simp[preSum,QB hk]
theorem Cc(hc:X.calm=true):cI X (.builtin "sum") (λxs H Q=>∃(p:Vp)(ns:List Int),xs=[.ref p]/\iA X.K H p (ns.map V.int)/\Q (.int ns.sum) H):=λpins s σ H xs us Q I r ⟨p,ns,ex,hq,q⟩=>by
 subst ex;obtain⟨u,rfl,rx⟩:=gg r;cases rx;obtain⟨its,rv,pl,hz⟩:=I.list hq;have hlt:p<s.heap.objs.size:=by obtain⟨_,e,_⟩:=pl.isList;exact Vx e
 have hlen:its.length=ns.length:=by rw[<-rv.length,QG]
 have up:∀b o,s.heap.get? b=some o->(s.heap.push {cls:=.type "list_iterator",data:=.fields #[.ref p,.int 0 0]}).get? b=some o:=λb o e=>QF _ e;refine call_sum_walkG (Yk pl.isList ⟨_,_,_,_,_,_,λi=>(ns[i]?).getD 0,rfl,Walks.list (A:=X.A.in1) (I.ok.hd hc) s.heap.objs.size p (V7 hlt) its.toArray,⟨⟨_,QT _ rfl,rfl,rfl⟩,pl.isList.push _⟩,λb hb=>?_,λi v hv=>?_,λh' tk t' hk=>?_⟩)
 ·rw[show({s with heap:=s.heap.push {cls:=.type "list_iterator",data:=.fields #[.ref p,.int 0 0]}}:Vo).heap.objs.size=s.heap.objs.size+1 from ZL ..];rcases V1.mp hb with e|e
  ·rw[e];exact Wz _
  ·rw[V3.mp e];exact WI hlt
 ·have hv':its[i]?=some v:=by simpa using hv
  have hi:i<ns.length:=by rw[<-hlen];exact(QM.mp hv').1
  obtain⟨u,e,ru⟩:=rv.get (i:=i) (x:=.int ns[i]) (by rw[Vy,QB hi];rfl)
  rw[hv'] at e;cases e;obtain⟨t,e⟩:=ru;exact⟨t,by show v=Value.int ((ns[i]?).getD 0) t;rw[e,QB hi];rfl⟩
 ·have es:preSum (λi=>(ns[i]?).getD 0) its.toArray.size=ns.sum:=by rw[QK,hlen,p5 ns _ (QO _),Z8]
  refine⟨.int ns.sum,H,I.kept (t':=tk) λb o e=>hk b o (by simpa using V7 (Vx e)) (up b o e),⟨t',by rw[es]⟩,q⟩
def Co(bs:List Bool):(List.range bs.length).any (λi=>(bs[i]?).getD false)=bs.any id:=by
 rw[VI,YE,YE];constructor
 ·rintro ⟨i,hi,h⟩
  have hi':=QX.mp hi;rw[QB hi'] at h;exact⟨_,VM hi',h⟩
 ·rintro ⟨b,hb,h⟩
  obtain⟨i,hi,rfl⟩:=Wc.mp hb;exact⟨i,QX.mpr hi,by rw[QB hi];exact h⟩
theorem zw(I:aH X pins σ H s)(hc:X.calm=true){p:Vp}{bs:List Bool}(hq:iA X.K H p (bs.map V.bl)){E:Vn->Vo->Prop}{Q:Vn->Vo->Prop}{cmb:List Nat->(Nat->Bool)->Bool}
  (k:∀(h':Vs)(tk:Nat),(∀b o,s.heap.get? b=some o->h'.get? b=some o)->Q (.bool (cmb (List.range bs.length) λi=>(bs[i]?).getD false)) {s with heap:=h',toks:=tk}):
  wpAny (model X.prog X.w) X.A.in1 (pyIter (.ref p)) (λit s₂=>∃I fp wr n P St tr,it=.ref I/\Walks X.prog X.w X.A.in1 I fp wr n P St/\St 0 s₂.heap/\TruthOf X.prog X.w X.A.in1 P tr/\
   ∀h' tk,(∀b o,b∉wr->s₂.heap.get? b=some o->h'.get? b=some o)->Q (.bool (cmb (List.range n) tr)) {s₂ with heap:=h',toks:=tk}) E s:=by
 obtain⟨its,rv,pl,hz⟩:=I.list hq;have hlt:p<s.heap.objs.size:=by obtain⟨_,e,_⟩:=pl.isList;exact Vx e
 have hlen:its.length=bs.length:=by rw[<-rv.length,QG]
 refine Yk pl.isList ⟨_,_,_,_,_,_,λi=>(bs[i]?).getD false,rfl,Walks.list (A:=X.A.in1) (I.ok.hd hc) s.heap.objs.size p (V7 hlt) its.toArray,⟨⟨_,QT _ rfl,rfl,rfl⟩,pl.isList.push _⟩,λi v s' Q' E' hv hQ=>?_,λh' tk hk=>?_⟩
 ·have hv':its[i]?=some v:=by simpa using hv
  have hi:i<bs.length:=by rw[<-hlen];exact(QM.mp hv').1
  obtain⟨u,e,ru⟩:=rv.get (i:=i) (x:=.bl bs[i]) (by rw[Vy,QB hi];rfl)
  rw[hv'] at e;cases e;cases (show v=Value.bool bs[i] from ru);have hQ2:Q' ((bs[i]?).getD false) s':=hQ;rw[QB hi] at hQ2;exact QD hQ2
 ·rw[QK,hlen];exact k h' tk λb o e=>hk b o (by simpa using V7 (Vx e)) (QF _ e)
def Ci(hc:X.calm=true):cI X (.builtin "any") (λxs H Q=>∃(p:Vp)(bs:List Bool),xs=[.ref p]/\iA X.K H p (bs.map V.bl)/\Q (.bl (bs.any id)) H):=λpins s σ H xs us Q I r ⟨p,bs,ex,hq,q⟩=>by
 subst ex;obtain⟨u,rfl,rx⟩:=gg r;cases rx;refine call_any_walk (zw (cmb:=λl f=>l.any f) I hc hq λh' tk hk=>?_);exact⟨.bl (bs.any id),H,I.kept (t':=tk) hk,by rw[Co];rfl,q⟩
def Ew(l:Vp)(items:Array Vn)(n:Nat)(b:Vp)(items2:Array Vn)(n2:Nat)(dd:Option Vp)(sl:Array (Option Vn))(h0:¬(!items.isEmpty && Builtin.List.listTooLong (items.size+items2.size))=true)(h1:items.size<=sizeLine)(h2:items.size+items2.size<=sizeLine+1):
  Meets (Builtin.«list.extend» ⟨[.ref l,.ref b],[]⟩) (λ_ R s=>s.heap.get? l=some {cls:=.type "list",dict:=none,data:=.seq items n,slots:=#[]}/\s.heap.get? b=some ⟨.type "tuple",dd,.seq items2 n2,sl⟩/\R (.ok (.ret Value.none)) {s with heap:=s.heap.update l (Obj.mapSeq λx=>x++items2),toks:=s.toks}):=
 .of_wp λprog w A R s h=>by
  obtain⟨hp,g,d,tk,os⟩:=s;obtain⟨hl,hb,h⟩:=h;have f1:=AutoSeq1.idx_int;have f2:=AutoSeq1.sub_tuple_tuple;have f3:=AutoSeq1.sub_list_list;have f4:=AutoSeq1.sub_tuple_list;have f5:=AutoSeq1.sub_list_tuple;have hz':(items++items2).size<=sizeLine+1:=by rw[Array.size_append];exact h2
  wp_walk using(wpAny_updateSeq hl rfl (hz:=h1) (_hz':=hz')),Zf hl,Zf hb
  exact⟨_,rfl,h⟩
theorem yF:LD X "list.extend" (λx vs H Q=>∃l b xs zs,x=.ref l/\vs=[.ref b]/\H l=some (.lst xs)/\iy X.K H b zs/\xs.length+zs.length<=sizeLine/\Q .non (cD H l (.lst (xs++zs)))):=
 λpins s σ H x vs v us Q I rx rv ⟨l,b,xs,zs,ex,ev,hH,hB,hz,q⟩=>by
 subst ex ev;cases rx;obtain⟨u,rfl,ru⟩:=rv.one;cases ru;obtain⟨z,its,n,r,hl,e⟩:=I.lstM hH;obtain⟨i2,r2,⟨⟨c2,d2,t2,s2⟩,o2,k2,n2,g2⟩,_⟩:=I.tuple hB;simp only at k2 g2;subst k2 g2;have hl2:=r2.length;have hsz:its.toArray.size+i2.toArray.size<=sizeLine:=by rw[QK,QK,<-hl,<-hl2];exact hz
 refine Yz F.slot_list_extend ⟨_,e,rfl⟩ F.entry_list_extend (F.args_list_extend_2 _ _) (Ew l its.toArray n b i2.toArray n2 d2 s2 (by rw[pL hsz,Xj];exact QC) (by rw[QK,<-hl];exact z) (Yf hsz)) ⟨e,o2,?_⟩
 exact⟨.non,_,I.lset (its':=its++i2) hH e (by simp) (r.append r2) (by rw[QE];exact hz),rfl,q⟩
def Ex(l:Vp)(items:Array Vn)(n:Nat)(b:Vp)(items2:Array Vn)(n2:Nat)(dd:Option Vp)(sl:Array (Option Vn))(h0:¬(!items.isEmpty && Builtin.List.listTooLong (items.size+items2.size))=true)(h1:items.size<=sizeLine)(h2:items.size+items2.size<=sizeLine+1):
  Meets (Builtin.«list.extend» ⟨[.ref l,.ref b],[]⟩) (λ_ R s=>s.heap.get? l=some {cls:=.type "list",dict:=none,data:=.seq items n,slots:=#[]}/\s.heap.get? b=some ⟨.type "list",dd,.seq items2 n2,sl⟩/\R (.ok (.ret Value.none)) {s with heap:=s.heap.update l (Obj.mapSeq λx=>x++items2),toks:=s.toks}):=
 .of_wp λprog w A R s h=>by
  obtain⟨hp,g,d,tk,os⟩:=s;obtain⟨hl,hb,h⟩:=h;have f1:=AutoSeq1.idx_int;have f2:=AutoSeq1.sub_tuple_tuple;have f3:=AutoSeq1.sub_list_list;have f4:=AutoSeq1.sub_tuple_list;have f5:=AutoSeq1.sub_list_tuple;have hz':(items++items2).size<=sizeLine+1:=by rw[Array.size_append];exact h2
  wp_walk using(wpAny_updateSeq hl rfl (hz:=h1) (_hz':=hz')),Zf hl,Zf hb
  exact⟨_,rfl,h⟩
theorem yG:LD X "list.extend" (λx vs H Q=>∃l b xs zs,x=.ref l/\vs=[.ref b]/\H l=some (.lst xs)/\iA X.K H b zs/\xs.length+zs.length<=sizeLine/\Q .non (cD H l (.lst (xs++zs)))):=
 λpins s σ H x vs v us Q I rx rv ⟨l,b,xs,zs,ex,ev,hH,hB,hz,q⟩=>by
 subst ex ev;cases rx;obtain⟨u,rfl,ru⟩:=rv.one;cases ru;obtain⟨z,its,n,r,hl,e⟩:=I.lstM hH;obtain⟨i2,r2,p2,_⟩:=I.list hB;obtain⟨⟨c2,d2,t2,s2⟩,o2,k2,n2,g2⟩:=p2.isList;simp only at k2 g2;subst k2 g2;have hl2:=r2.length;have hsz:its.toArray.size+i2.toArray.size<=sizeLine:=by rw[QK,QK,<-hl,<-hl2];exact hz
 refine Yz F.slot_list_extend ⟨_,e,rfl⟩ F.entry_list_extend (F.args_list_extend_2 _ _) (Ex l its.toArray n b i2.toArray n2 d2 s2 (by rw[pL hsz,Xj];exact QC) (by rw[QK,<-hl];exact z) (Yf hsz)) ⟨e,o2,?_⟩
 exact⟨.non,_,I.lset (its':=its++i2) hH e (by simp) (r.append r2) (by rw[QE];exact hz),rfl,q⟩
theorem zI:∀{xs:List V}{us:List Vn},xs.length=us.length->(∀(i:Nat) x u,xs[i]?=some x->us[i]?=some u->bV x u)->Vals xs us
 |[],[],_,_=>.nil
 |x::xs,u::us,hl,h=>.cons (h 0 x u rfl rfl) (zI (by simpa using hl) λi x' u' e1 e2=>h (i+1) x' u' (by simpa using e1) (by simpa using e2))
 |[],_::_,hl,_=>by simp at hl
 |_::_,[],hl,_=>by simp at hl
def CD{lo:Int}{acc:Array Vn}{n:Nat}(h:ItemsOf (λi v=>∃t,v=.int (lo+i * 1) t) acc n):Vals ((List.range n).map λk:Nat=>V.int (lo+k)) acc.toList:=by
 refine zI (by rw[QG,V2,<-h.1,QL]) λi x u e1 e2=>?_
 obtain⟨t,rfl⟩:=h.2 i u (by rw[<-VO];exact e2)
 rw[Vy] at e1;cases q:(List.range n)[i]? with
 |none=>rw[q] at e1;cases e1
 |some k=>
  rw[q] at e1;cases e1;have hk:i<n:=by
   have:=(QM.mp q).1;rwa[V2] at this
  rw[Wu hk] at q;cases q;exact⟨t,by rw[Int.mul_one]⟩
def xE:cI X (.type "range") (λxs H Q=>∃lo hi,xs=[.int lo,.int hi]/\∀p,H p=none->Q (.ref p) (cD H p (.rng lo hi))):=λpins s σ H xs us Q I r ⟨lo,hi,ex,q⟩=>by
 subst ex;obtain⟨u,w,rfl,⟨t,rfl⟩,⟨t',rfl⟩⟩:=CF r;refine call_range_2 ⟨.ref s.heap.objs.size,_,I.laid (t':=s.toks+1) (o:=.rng lo hi) (λb o e=>QF _ e) (QO _) ⟨_,_,_,QT _ rfl⟩,rfl,q _ I.fresh⟩
theorem v8(hc:X.calm=true):cI X (.type "list") (λxs H Q=>∃p lo hi,xs=[.ref p]/\H p=some (.rng lo hi)/\(-(2 ^ 62)<=lo/\lo<2 ^ 62/\-(2 ^ 62)<=hi/\hi<2 ^ 62)/\(hi - lo).toNat<=sizeLine/\
  ∀l,H l=none->Q (.ref l) (cD H l (.lst ((List.range (hi - lo).toNat).map λk:Nat=>V.int (lo+k))))):=λpins s σ H xs us Q I r ⟨p,lo,hi,ex,hp,⟨b1,b2,b3,b4⟩,hz,q⟩=>by
 subst ex;obtain⟨u,rfl,ru⟩:=gg r;cases ru;obtain⟨t,u,v,e⟩:=I.hok p _ hp;refine call_list_range (n:=(hi - lo).toNat) (I.ok.hd hc) (show IsRange s.heap p lo hi 1 t u v from e) (small_one b1 b2 b3 b4) (by rw[rangeSize_one];split <;> omega) hz λh' tk acc c kp e' it=>?_
 exact⟨.ref s.heap.objs.size,_,I.laid (t':=tk) (o:=.lst ((List.range (hi - lo).toNat).map λk:Nat=>V.int (lo+k))) kp (QO _) ⟨by rw[QG,V2];exact hz,acc.toList,c,CD it,by simpa using e'⟩,rfl,q _ I.fresh⟩
def yT{x:V}{u:Vn}{t:Vw}{T:Vw}{b:Bool}(I:aH X pins σ H s)(rx:bV x u)(ty:lO X.K H x (.type t)\/(t = "tuple" /\ ∃a xs,x=.ref a/\iy X.K H a xs)\/(t = "list" /\ ∃a xs,x=.ref a/\iA X.K H a xs))(e:kitOne X.K (.type t) (.type T)=some b){Q:Vn->Vo->Prop}{E:Vn->Vo->Prop}{A:Vv}
  (h:∀tk,Q (.bool b) {s with toks:=tk}):wpAny (model X.prog X.w) A (call (.builtin "isinstance") [u,.type T]) Q E s:=by
 rcases ty with ty|⟨rfl,a,xs,rfl,hq⟩|⟨rfl,a,xs,rfl,hq⟩
 ·exact BM I rx ty e h
 ·cases (show u=Value.ref a from rx);obtain⟨its,_,⟨o,h1,h2,_⟩,_⟩:=I.tuple hq;exact Z1 PySem.W.kitx_tuple I.kIn ⟨o,h1,h2⟩ e (λz=>nomatch z) h
 ·cases (show u=Value.ref a from rx);obtain⟨its,_,pl,_⟩:=I.list hq;obtain⟨o,h1,h2,_⟩:=pl.isList;exact Z1 kitx_list I.kIn ⟨o,h1,h2⟩ e (λz=>nomatch z) h
def xG:cI X (.builtin "isinstance") (λxs H Q=>∃x t T b,xs=[x,.ty T]/\(lO X.K H x (.type t)\/(t = "tuple" /\ ∃a xs,x=.ref a/\iy X.K H a xs)\/(t = "list" /\ ∃a xs,x=.ref a/\iA X.K H a xs))/\kitOne X.K (.type t) (.type T)=some b/\Q (.bl b) H):=λpins s σ H xs us Q I r t'=>by
 obtain⟨x,t,T,b,ex,ty,e,q⟩:=t';subst ex;obtain⟨u,w,rfl,ru,rw'⟩:=CF r;cases (show w=Value.type T from rw');exact yT I ru ty e λtk=>⟨.bl b,H,I.tok tk,rfl,q⟩
end
section
variable{prog:Vq}{w:Vr}{A:Vv}{E:Vn->Vo->Prop}{s:Vo}
def pM{it t:Vp}{i:Nat}{items:Array Vn}{x:Vn}{Q:Vn->Vo->Prop}(hit:s.heap.IsTupleIter it t i)(ht:s.heap.IsTuple t items)(hx:items[i]?=some x)
  (hQ:∀h',h'.IsTupleIter it t (i+1)->Heap.SameBut it s.heap h'->Q x {s with heap:=h'}):wpAny (model prog w) A (Builtin.SmallTypes.nextOf (.ref it)) Q E s:=by
 obtain⟨o,ho,hc,hd⟩:=id hit;obtain⟨ot,hot,_,nt,hdt⟩:=ht;unfold Builtin.SmallTypes.nextOf;refine QA (VU (name:=Str.ofString "__next__") hit.typeIs WU (VD WU hit.typeIs F.entry_tuple_iterator_next ?_ (F.args_tuple_iterator_next_1 _)));show wpAny _ _ (field (.ref it) 0 >>= _) _ _ s;refine QA (Wf ho hd (x:=.ref t) rfl ?_);show wpAny _ _ (if(Value.ref t == Value.none)=true then _ else _) _ _ s;rw[QI (show ¬((Value.ref t == Value.none)=true) from QC)];show wpAny _ _ (field (.ref it) 1 >>= _) _ _ s;refine QA (Wf ho hd (x:=.int i 0) rfl ?_);show wpAny _ _ (seqItems? (.ref t) >>= _) _ _ s;refine QA (wpAny_seqItems hot hdt ?_);simp only[VH,hx];refine QA (ZX ho hd (by simp) (QD ⟨x,rfl,QD (hQ _ ⟨_,WJ _ ho (Y7 (WG hd _)),(Obj.cls_mapFields ..).trans hc,?_⟩ (ZM ..))⟩))
 rw[WG hd];simp[rawInt]
def si{it t:Vp}{i:Nat}{items:Array Vn}{Q:Vn->Vo->Prop}(hh:A.handled=none)(hit:s.heap.IsTupleIter it t i)(ht:s.heap.IsTuple t items)(hx:items[i]?=none)
  (hE:∀h' e,Heap.ExtBut it s.heap h'->(∃o,h'.get? e=some o/\o.cls=.type "StopIteration")->E (.ref e) {s with heap:=h'}):wpAny (model prog w) A (Builtin.SmallTypes.nextOf (.ref it)) Q E s:=by
 obtain⟨o,ho,hc,hd⟩:=id hit;obtain⟨ot,hot,_,nt,hdt⟩:=ht;unfold Builtin.SmallTypes.nextOf;refine QA (VU (name:=Str.ofString "__next__") hit.typeIs WU (VD WU hit.typeIs F.entry_tuple_iterator_next ?_ (F.args_tuple_iterator_next_1 _)));show wpAny _ _ (field (.ref it) 0 >>= _) _ _ s;refine QA (Wf ho hd (x:=.ref t) rfl ?_);show wpAny _ _ (if(Value.ref t == Value.none)=true then _ else _) _ _ s;rw[QI (show ¬((Value.ref t == Value.none)=true) from QC)];show wpAny _ _ (field (.ref it) 1 >>= _) _ _ s;refine QA (Wf ho hd (x:=.int i 0) rfl ?_);show wpAny _ _ (seqItems? (.ref t) >>= _) _ _ s;refine QA (wpAny_seqItems hot hdt ?_);simp only[VH,hx];refine QA (WH (QA (ZX ho hd (by simp) ?_)));show wpAny _ _ (newExc (.type "StopIteration") [] >>= _) _ _ _
 refine QA ?_;simp only[newExc,newTuple];refine QA (VE ?_ (by size_fits))
 refine QA (m:=firstArgMember _ _) (Wn (a:=Value.none) (by first|rfl|(simp only[firstArgMember];rfl)) ?_);refine VE ?_ (by size_fits);simp only[raiseNew]
 refine QA (wpAny_handled ?_);first|rw[show A.in1.handled=none from hh]|rw[hh]
 exact QA (QD (wpAny_throw (hE _ _ (((ZM ..).extBut.push _).push _) ⟨_,QT _ rfl,rfl⟩)))
end
structure Nx(prog:Vq)(w:Vr)(A:Vv)(it l:Vp)(st:Nat->Vs->Prop)(val:Nat->Option Vn):Prop where
 item:∀(s:Vo)(k:Nat)(x:Vn)(Q:Vn->Vo->Prop)(E:Vn->Vo->Prop),st k s.heap->val k=some x->(∀h',st (k+1) h'->Heap.SameBut it s.heap h'->Q x {s with heap:=h'})->wpAny (model prog w) A (Builtin.SmallTypes.nextOf (.ref it)) Q E s
 stop:∀(s:Vo)(k:Nat)(Q:Vn->Vo->Prop)(E:Vn->Vo->Prop),st k s.heap->val k=none->
  (∀h' e,Heap.ExtBut it s.heap h'->(∃o,h'.get? e=some o/\o.cls=.type "StopIteration")->E (.ref e) {s with heap:=h'})->wpAny (model prog w) A (Builtin.SmallTypes.nextOf (.ref it)) Q E s
 ext:∀(k:Nat)(h h':Vs),st k h->(∀b,b=it\/b=l->∀o,h.get? b=some o->h'.get? b=some o)->st k h'
 there:∀(k:Nat)(h:Vs),st k h->(∃o,h.get? it=some o/\∀v,o.data≠.cell v)/\∃o,h.get? l=some o
def Ga{prog:Vq}{w:Vr}{A:Vv}(hh:A.handled=none){it l:Vp}(ne:l≠it)(items:Array Vn):Nx prog w A it l (λk h=>h.IsListIter it l k/\h.IsList l items) (λk=>items[k]?) where
 item:=λs k x Q E st e h=>wpAny_nextOf_list_item st.1 st.2 e λh' a b=>h h' ⟨a,st.2.extBut b.extBut ne⟩ b
 stop:=λs k Q E st e h=>wpAny_nextOf_list_end hh st.1 st.2 e h
 ext:=λk h h' st kp=>⟨st.1.at λo e=>kp it (.inl rfl) o e,st.2.at λo e=>kp l (.inr rfl) o e⟩
 there:=λk h st=>by
  obtain⟨⟨o,e,c,d⟩,⟨o2,e2,_⟩⟩:=st;exact⟨⟨o,e,λv z=>by rw[d] at z;cases z⟩,o2,e2⟩
def Jf{prog:Vq}{w:Vr}{A:Vv}(hh:A.handled=none){it l:Vp}(ne:l≠it)(items:Array Vn):Nx prog w A it l (λk h=>h.IsTupleIter it l k/\h.IsTuple l items) (λk=>items[k]?) where
 item:=λs k x Q E st e h=>pM st.1 st.2 e λh' a b=>h h' ⟨a,st.2.extBut b.extBut ne⟩ b
 stop:=λs k Q E st e h=>si hh st.1 st.2 e h
 ext:=λk h h' st kp=>⟨st.1.at λo e=>kp it (.inl rfl) o e,st.2.at λo e=>kp l (.inr rfl) o e⟩
 there:=λk h st=>by
  obtain⟨⟨o,e,c,d⟩,⟨o2,e2,_⟩⟩:=st;exact⟨⟨o,e,λv z=>by rw[d] at z;cases z⟩,o2,e2⟩
section
variable{X:Cx}{pins:List (Vp×Obj)}{σ:St}{H:Hp}{s:Vo}{h':Vs}
theorem aH.turnedN{t':Nat}{ch:List Vp}(I:aH X pins σ H s)(k:∀b o,b∉ch->s.heap.get? b=some o->h'.get? b=some o)(hf:∀b∈ch,FpOk X pins H b):aH X pins σ H {s with heap:=h',toks:=t'}:=by
 have nch:∀b u,H b=some u->b∉ch:=λb u e z=>by rw[(hf b z).1] at e;cases e
 refine I.step (g':=s.gens) (d':=s.drawn) (ch:=ch) (λb hb=>⟨(hf b hb).2.2.2.1,(hf b hb).2.1,(hf b hb).2.2.2.2.1,(hf b hb).2.2.2.2.2⟩) (λb o _ _ hc e _=>k b o hc e) (λb o _ _ hc e _=>⟨o.slots,k b o hc e⟩) (λ_ _ _ _ n=>n)
  (λb o hc e=>⟨o,k b o hc e⟩) (λ_ _ e=>e) (λ_ _ _ e=>e) (λb ps e=>⟨#[],by rw[e];simp⟩) (λm hm=>?_) (λb u e=>?_) I.bare
 ·obtain⟨o,es,ep,ho,r⟩:=hm;exact⟨o,es,ep,k _ o (λz=>(hf _ z).2.1 rfl) ho,r⟩
 ·refine(I.hok b u e).stay (λc v hc q=>k c v ?_ q) (λ_ q=>q) (λ_ _ q=>q) λ_ _ _ q=>q;rcases hc with z|z
  ·rw[z];exact nch b u e
  ·exact nch c _ z
theorem aH.track{a:Vp}{o:HO}(I:aH X pins σ H s)(hf:FpOk X pins H a)(new:du X.prog X.w (cD H a o) s.heap a o):aH X pins σ (cD H a o) s:=by
 have ne:∀b u,H b=some u->b≠a:=λb u e z=>by rw[z,hf.1] at e;cases e
 have z:=I.step (g':=s.gens) (d':=s.drawn) (t':=s.toks) (h':=s.heap) (H':=cD H a o) (ch:=[a]) (λb hb=>by rw[V3.mp hb];exact⟨hf.2.2.2.1,hf.2.1,hf.2.2.2.2.1,hf.2.2.2.2.2⟩) (λb o _ _ _ e _=>e) (λb o _ _ _ e _=>⟨o.slots,e⟩)
  (λb u hc _ n=>by rw[az (λz=>hc (by simp[z]))];exact n) (λb o _ e=>⟨o,e⟩) (λb xs e=>by rw[az (ne b _ e)];exact e) (λb u v e=>by rw[az (ne b _ e)];exact e) (λb ps e=>⟨#[],by rw[az (ne b _ e),e];simp⟩) (λm hm=>hm) (λb u e=>?_) I.bare
 ·exact z
 ·by_cases hb:b=a
  ·subst hb;rw[aQ] at e;cases e;exact new
  ·rw[az hb] at e;exact(I.hok b u e).stay (λ_ _ _ q=>q) (λc q=>by rw[az (ne c _ q)];exact q) (λc xs q=>by rw[az (ne c _ q)];exact q) λc ob u q=>by rw[az (ne c _ q)];exact q
end
def Cq(K:Frag)(H:Hp):Bool->Vp->List V->Prop
 |true,a,xs=>iA K H a xs
 |false,a,xs=>iy K H a xs
def Jr(h:Vs):Bool->Vp->Vp->Nat->Prop
 |true,it,l,k=>h.IsListIter it l k
 |false,it,l,k=>h.IsTupleIter it l k
def Lu(h:Vs):Bool->Vp->Array Vn->Prop
 |true,l,its=>h.IsList l its
 |false,l,its=>h.IsTuple l its
def M9{prog:Vq}{w:Vr}{A:Vv}(hh:A.handled=none){it l:Vp}(ne:l≠it)(items:Array Vn)(b:Bool):Nx prog w A it l (λk h=>Jr h b it l k/\Lu h b l items) (λk=>items[k]?):=by
 cases b with
 |true=>exact Ga hh ne items
 |false=>exact Jf hh ne items
def aH.seqX{X:Cx}{pins:List (Vp×Obj)}{σ:St}{H:Hp}{s:Vo}{b:Bool}{a:Vp}{xs:List V}(I:aH X pins σ H s)(h:Cq X.K H b a xs):∃its:List Vn,Vals xs its/\Lu s.heap b a its.toArray/\a<s.heap.objs.size:=by
 cases b with
 |true=>
  obtain⟨its,r,p,_⟩:=I.list h;refine⟨its,r,p.isList,?_⟩;obtain⟨_,e,_⟩:=p.isList;exact Vx e
 |false=>
  obtain⟨its,r,p,_⟩:=I.tuple h;refine⟨its,r,p,?_⟩;obtain⟨_,e,_⟩:=p;exact Vx e
def aH.seqX_inj{X:Cx}{pins:List (Vp×Obj)}{σ:St}{H:Hp}{s:Vo}{b:Bool}{a:Vp}{xs ys:List V}(I:aH X pins σ H s)(h:Cq X.K H b a xs)(h':Cq X.K H b a ys):xs=ys:=by
 cases b with
 |true=>exact I.list_inj h h'
 |false=>exact I.tuple_inj h h'
end L2
namespace L3
open L2
section
variable{X:Cx}{Γ:Ct}{W:XW}
def dE{Hs H:Hp}{Q:VK}{d:D}(sm:aM Hs H)(q:RQ Γ W Hs H (.ok (.sh d)) Q){v:V}(rp:c6 Γ Hs d v):Q v H:=q v Hs H (.refl sm) rp
def u6{Hs H:Hp}{Q:VK}{ds:List D}{xs:List V}(sm:aM Hs H)(q:RQ Γ W Hs H (.ok (.sh (.tup ds))) Q)(rl:RepL Γ Hs ds xs){p:Vp}(hp:H p=none):Q (.ref p) (cD H p (.tup xs)):=
 q _ (cD Hs p (.tup xs)) _ (.new sm hp) (fe.of (aX.mpr ⟨p,xs,rfl,.of aQ,rl.mono (bZ (sm.free hp))⟩))
def kR{Hs H:Hp}{Q:VK}{ds:List D}{xs:List V}(sm:aM Hs H)(q:RQ Γ W Hs H (.ok (.own (.lst ds))) Q)(rl:RepL Γ Hs ds xs){p:Vp}(hp:H p=none):Q (.ref p) (cD H p (.lst xs)):=
 q _ Hs _ (.newOwn sm hp) ⟨p,_,rfl,hp,sm.free hp,aQ,xs,rfl,rl⟩
def iF{n:Nat}(h:n<=lim):n<=sizeLine:=V5 h (by decide)
def bz{α:Type}{c:Prop}[Decidable c]{a r:α}(h:(if c then some a else none)=some r):c/\a=r:=by
 by_cases z:c
 ·rw[QH z] at h;exact⟨z,VN h⟩
 ·rw[QI z] at h;cases h
def aR(hK:X.K=Γ.K):hU X (binaryOp .Add) (rD Γ W c9):=λpins s σ H x y v u Q I rx ry ⟨Hs,d1,d2,r,sm,r1,r2,e,q⟩=>by
 cases d1 with
 |int i=>
  cases d2 with
  |int j=>cases e;exact J1 pins s σ H x y v u Q I rx ry ⟨i,j,af.mp r1,af.mp r2,dE sm q (af.mpr rfl)⟩
  |non=>cases e
  |bl _=>cases e
  |str _=>cases e
  |tup _=>cases e
  |lst _=>cases e
  |fn _ _=>cases e
  |obj _ _ _=>cases e
 |str i=>
  cases d2 with
  |str j=>
   obtain⟨hl,rfl⟩:=bz (c:=i.length+j.length<=lim) e;exact yn pins s σ H x y v u Q I rx ry ⟨i,j,aV.mp r1,aV.mp r2,iF hl,dE sm q (aV.mpr rfl)⟩
  |non=>cases e
  |bl _=>cases e
  |int _=>cases e
  |tup _=>cases e
  |lst _=>cases e
  |fn _ _=>cases e
  |obj _ _ _=>cases e
 |tup ds=>
  cases d2 with
  |tup es=>
   obtain⟨hl,rfl⟩:=bz (c:=ds.length+es.length<=lim) e;obtain⟨a,xs,rfl,qa,la⟩:=aX.mp r1;obtain⟨b,ys,rfl,qb,lb⟩:=aX.mp r2;have qa':iy X.K H a xs:=by rw[hK];exact bj sm qa
   have qb':iy X.K H b ys:=by rw[hK];exact bj sm qb
   by_cases h0:xs=[]
   ·subst h0;have e0:ds=[]:=ZY.mp la.length;subst e0;exact Dw pins s σ H _ _ v u Q I rx ry ⟨a,b,ys,rfl,rfl,qa',qb',dE sm q (aX.mpr ⟨b,ys,rfl,qb,lb⟩)⟩
   ·refine G6 pins s σ H _ _ v u Q I rx ry ⟨a,b,xs,ys,rfl,rfl,qa',qb',h0,by rw[<-la.length,<-lb.length];exact iF hl,λz=>?_,λz p hp=>u6 sm q (la.append lb) hp⟩
    subst z;have e0:es=[]:=ZY.mp lb.length;subst e0;rw[Vz] at q;exact dE sm q (aX.mpr ⟨a,xs,rfl,qa,la⟩)
  |non=>cases e
  |bl _=>cases e
  |int _=>cases e
  |str _=>cases e
  |lst _=>cases e
  |fn _ _=>cases e
  |obj _ _ _=>cases e
 |lst ds=>
  cases d2 with
  |lst es=>
   obtain⟨hl,rfl⟩:=bz (c:=ds.length+es.length<=lim) e;obtain⟨a,xs,rfl,qa,la⟩:=b6.mp r1;obtain⟨b,ys,rfl,qb,lb⟩:=b6.mp r2;exact G7 pins s σ H _ _ v u Q I rx ry ⟨a,b,xs,ys,rfl,rfl,by rw[hK];exact aM.seq sm qa,by rw[hK];exact aM.seq sm qb,by rw[<-la.length,<-lb.length];exact iF hl,λp hp=>kR sm q (la.append lb) hp⟩
  |non=>cases e
  |bl _=>cases e
  |int _=>cases e
  |str _=>cases e
  |tup _=>cases e
  |fn _ _=>cases e
  |obj _ _ _=>cases e
 |_=>cases e
def dg{f:Int->Int->Option R}{g:D->D->Option R}(hg:∀d1 d2,g d1 d2=match d1,d2 with|.int i,.int j=>f i j|_,_=>none){d1 d2:D}{r:R}(e:g d1 d2=some r):∃i j,d1=.int i/\d2=.int j/\f i j=some r:=by
 rw[hg] at e;cases d1 with
 |int i=>
  cases d2 with
  |int j=>exact⟨i,j,rfl,rfl,e⟩
  |non=>cases e
  |bl _=>cases e
  |str _=>cases e
  |tup _=>cases e
  |lst _=>cases e
  |fn _ _=>cases e
  |obj _ _ _=>cases e
 |_=>cases e
def kW:hU X (binaryOp .Sub) (rD Γ W nQ):=λpins s σ H x y v u Q I rx ry ⟨Hs,d1,d2,r,sm,r1,r2,e,q⟩=>by
 obtain⟨i,j,rfl,rfl,e⟩:=dg (f:=λi j=>okI (i - j)) (λ_ _=>rfl) e;cases e;exact IT pins s σ H x y v u Q I rx ry ⟨i,j,af.mp r1,af.mp r2,dE sm q (af.mpr rfl)⟩
def rS{i:Int}(h:iB i=true):-(2 ^ 64)<i/\i<2 ^ 64:=by
 unfold iB at h;simpa using h
def gD:hU X (binaryOp .Mod) (rD Γ W lr):=λpins s σ H x y v u Q I rx ry ⟨Hs,d1,d2,r,sm,r1,r2,e,q⟩=>by
 obtain⟨i,j,rfl,rfl,e⟩:=dg (f:=λi j=>if 0<j then okI (i % j) else none) (λ_ _=>rfl) e;obtain⟨h,rfl⟩:=bz e;exact IZ pins s σ H x y v u Q I rx ry ⟨i,j,af.mp r1,af.mp r2,h,dE sm q (af.mpr rfl)⟩
def pC:hU X (binaryOp .FloorDiv) (rD Γ W ql):=λpins s σ H x y v u Q I rx ry ⟨Hs,d1,d2,r,sm,r1,r2,e,q⟩=>by
 obtain⟨i,j,rfl,rfl,e⟩:=dg (f:=λi j=>if 0<j/\j<1073741824 then okI (i / j) else none) (λ_ _=>rfl) e;obtain⟨h,rfl⟩:=bz e;exact G5 pins s σ H x y v u Q I rx ry ⟨i,j,af.mp r1,af.mp r2,h,dE sm q (af.mpr rfl)⟩
def IS:hU X (compareOp .Lt) (rD Γ W Lh):=λpins s σ H x y v u Q I rx ry ⟨Hs,d1,d2,r,sm,r1,r2,e,q⟩=>by
 obtain⟨i,j,rfl,rfl,e⟩:=dg (f:=λi j=>okB (decide (i<j))) (λ_ _=>rfl) e;cases e;exact KI pins s σ H x y v u Q I rx ry ⟨i,j,af.mp r1,af.mp r2,dE sm q (aS.mpr rfl)⟩
def Dv:hU X (compareOp .LtE) (rD Γ W HF):=λpins s σ H x y v u Q I rx ry ⟨Hs,d1,d2,r,sm,r1,r2,e,q⟩=>by
 obtain⟨i,j,rfl,rfl,e⟩:=dg (f:=λi j=>okB (decide (i<=j))) (λ_ _=>rfl) e;cases e;exact KJ pins s σ H x y v u Q I rx ry ⟨i,j,af.mp r1,af.mp r2,dE sm q (aS.mpr rfl)⟩
def ym:hU X (compareOp .Gt) (rD Γ W JE):=λpins s σ H x y v u Q I rx ry ⟨Hs,d1,d2,r,sm,r1,r2,e,q⟩=>by
 obtain⟨i,j,rfl,rfl,e⟩:=dg (f:=λi j=>okB (decide (j<i))) (λ_ _=>rfl) e;cases e;exact KL pins s σ H x y v u Q I rx ry ⟨i,j,af.mp r1,af.mp r2,dE sm q (aS.mpr rfl)⟩
def fI:hU X (binaryOp .Mult) (rD Γ W lq):=λpins s σ H x y v u Q I rx ry ⟨Hs,d1,d2,r,sm,r1,r2,e,q⟩=>by
 cases d1 with
 |int i=>
  cases d2 with
  |int j=>
   obtain⟨hl,rfl⟩:=bz (c:=(iB i || iB j)=true) e;refine IY pins s σ H x y v u Q I rx ry ⟨i,j,af.mp r1,af.mp r2,?_,dE sm q (af.mpr rfl)⟩;rcases Y0.mp hl with h|h
   ·exact .inl (rS h)
   ·exact .inr (rS h)
  |non=>cases e
  |bl _=>cases e
  |str _=>cases e
  |tup _=>cases e
  |lst _=>cases e
  |fn _ _=>cases e
  |obj _ _ _=>cases e
 |_=>cases e
def xo{d1 d2:D}{b:Bool}{x y:V}{H:Hp}(e:GF d1 d2=some b)(r1:c6 Γ H d1 x)(r2:c6 Γ H d2 y):scal x y=true/\decide (x=y)=b:=by
 cases d1 with
 |non=>
  rw[cz.mp r1];cases d2 with
  |non=>rw[cz.mp r2];cases e;exact⟨rfl,rfl⟩
  |bl _=>rw[aS.mp r2];cases e;exact⟨rfl,rfl⟩
  |int _=>rw[af.mp r2];cases e;exact⟨rfl,rfl⟩
  |str _=>rw[aV.mp r2];cases e;exact⟨rfl,rfl⟩
  |tup _=>cases e
  |lst _=>cases e
  |fn _ _=>cases e
  |obj _ _ _=>cases e
 |bl c=>
  rw[aS.mp r1];cases d2 with
  |non=>rw[cz.mp r2];cases e;exact⟨rfl,rfl⟩
  |bl c'=>rw[aS.mp r2];cases e;exact⟨rfl,by rw[VI];simp⟩
  |int _=>cases e
  |str _=>rw[aV.mp r2];cases e;exact⟨rfl,rfl⟩
  |tup _=>cases e
  |lst _=>cases e
  |fn _ _=>cases e
  |obj _ _ _=>cases e
 |int c=>
  rw[af.mp r1];cases d2 with
  |non=>rw[cz.mp r2];cases e;exact⟨rfl,rfl⟩
  |bl _=>cases e
  |int c'=>rw[af.mp r2];cases e;exact⟨rfl,by rw[VI];simp⟩
  |str _=>rw[aV.mp r2];cases e;exact⟨rfl,rfl⟩
  |tup _=>cases e
  |lst _=>cases e
  |fn _ _=>cases e
  |obj _ _ _=>cases e
 |str c=>
  rw[aV.mp r1];cases d2 with
  |non=>rw[cz.mp r2];cases e;exact⟨rfl,rfl⟩
  |bl _=>rw[aS.mp r2];cases e;exact⟨rfl,rfl⟩
  |int _=>rw[af.mp r2];cases e;exact⟨rfl,rfl⟩
  |str c'=>rw[aV.mp r2];cases e;exact⟨rfl,by rw[VI];simp⟩
  |tup _=>cases e
  |lst _=>cases e
  |fn _ _=>cases e
  |obj _ _ _=>cases e
 |_=>cases e
def bf:hU X (compareOp .Eq) (rD Γ W eh):=λpins s σ H x y v u Q I rx ry ⟨Hs,d1,d2,r,sm,r1,r2,e,q⟩=>by
 unfold eh at e;cases h:GF d1 d2 with
 |none=>rw[h] at e;cases e
 |some b=>
  rw[h] at e;cases e;obtain⟨h1,h2⟩:=xo h r1 r2;exact KM pins s σ H x y v u Q I rx ry ⟨h1,by rw[h2];exact dE sm q (aS.mpr rfl)⟩
def jB:hU X (compareOp .NotEq) (rD Γ W qk):=λpins s σ H x y v u Q I rx ry ⟨Hs,d1,d2,r,sm,r1,r2,e,q⟩=>by
 unfold qk at e;cases h:GF d1 d2 with
 |none=>rw[h] at e;cases e
 |some b=>
  rw[h] at e;cases e;obtain⟨h1,h2⟩:=xo h r1 r2;exact KH pins s σ H x y v u Q I rx ry ⟨h1,by rw[h2];exact dE sm q (aS.mpr rfl)⟩
def IK{a b:Vt}{ga gb:ME}{pos:Pos}(ha:PD X Γ W a ga)(hb:PD X Γ W b gb):PD X Γ W (.BinOp a .Mult b pos) (EB ga gb):=PE.imp (Hn IW ha hb) λ_ _ σ H Q _ ⟨B0,B1,Hs,ρ,r,re,e,q⟩=>by
 unfold EB at e;cases h:ga ρ with
 |none=>rw[h] at e;cases e
 |some x=>
  rw[h] at e;refine⟨B0,B1,Hs,ρ,x,re,h,?_⟩;cases x with
  |exc y=>cases e;exact q
  |ok s=>
   cases s with
   |sh d=>cases e
   |two _ _ _=>cases e
   |thr _ _ _ _ _=>cases e
   |own o=>
    cases o with
    |obj _ _ _=>cases e
    |dic _=>cases e
    |par _ _=>cases e
    |fdic _=>cases e
    |tab _=>cases e
    |tre _=>cases e
    |dik _=>cases e
    |lst ds=>
     intro v Hs1 H1 g1 rs;obtain⟨p,ho,rfl,h0,h1,h2,xs,rfl,rl⟩:=rs;refine(bW (k:=Lf ds) (re.grow g1) e (q.grow g1)).mono λu H2 ⟨Hs2,d2,g2,re2,rp2,e2,q2⟩=>?_;cases d2 with
     |int k=>
      obtain⟨hl,rfl⟩:=bz (c:=-(2 ^ 60)<=k/\k<2 ^ 60/\ds.length * k.toNat<=lim) e2;exact⟨p,k,xs,rfl,af.mp rp2,g2.h _ _ h2,by omega,by omega,by rw[<-rl.length];exact iF hl.2.2,λp hp=>kR re2.b.i q2 ((rl.mono g2.s).rep _) hp⟩
     |non=>cases e2
     |bl _=>cases e2
     |str _=>cases e2
     |tup _=>cases e2
     |lst _=>cases e2
     |fn _ _=>cases e2
     |obj _ _ _=>cases e2
def Dc{α:Type}{H:Hp}{f:α->D}{g:α->V}(l:List α)(h:∀k,c6 Γ H (f k) (g k)):RepL Γ H (l.map f) (l.map g):=by
 induction l with
 |nil=>exact .nil
 |cons a l ih=>exact .cons (h a) ih
def AF{H:Hp}{ds:List D}{xs:List V}{i:Int}{d:D}(rl:RepL Γ H ds xs)(e:zA ds i=some d):∃x,JU xs i=some x/\c6 Γ H d x:=by
 unfold zA at e;unfold JU;have hl:=rl.length;have e0:KW xs.length i=KY ds.length i:=by rw[hl];rfl
 rw[e0];cases h:KY ds.length i with
 |none=>rw[h] at e;cases e
 |some j=>
  rw[h] at e;exact rl.get e
def bC(hK:X.K=Γ.K):Ka X (rD Γ W dIx):=λvalue slice pins s σ H x y v u Q I rx ry ⟨Hs,d1,d2,r,sm,r1,r2,e,q⟩ hs=>by
 cases d2 with
 |int i=>
  have ey:=af.mp r2;cases d1 with
  |tup ds=>
   have e:(zA ds i).bind okD=some r:=e;cases h:zA ds i with
   |none=>rw[h] at e;cases e
   |some d=>
    rw[h] at e;cases e;obtain⟨a,xs,rfl,qa,la⟩:=aX.mp r1;obtain⟨z,ez,rz⟩:=AF la h;exact ix_tup value slice pins s σ H _ _ v u Q I rx ry ⟨a,xs,i,z,rfl,ey,by rw[hK];exact bj sm qa,ez,dE sm q rz⟩ hs
  |lst ds=>
   have e:(zA ds i).bind okD=some r:=e;cases h:zA ds i with
   |none=>rw[h] at e;cases e
   |some d=>
    rw[h] at e;cases e;obtain⟨a,xs,rfl,qa,la⟩:=b6.mp r1;obtain⟨z,ez,rz⟩:=AF la h;exact Gv value slice pins s σ H _ _ v u Q I rx ry ⟨a,xs,i,z,rfl,ey,by rw[hK];exact aM.seq sm qa,ez,dE sm q rz⟩ hs
  |str z=>
   have e':(if z.length<=lim then(zA z.cps.toList i).bind (λc=>okD (.str ⟨#[c]⟩)) else none)=some r:=e;by_cases hl:z.length<=lim
   ·rw[QH hl] at e';cases h:zA z.cps.toList i with
    |none=>rw[h] at e';cases e'
    |some c=>
     rw[h] at e';cases e';exact Jp value slice pins s σ H _ _ v u Q I rx ry ⟨z,i,c,aV.mp r1,ey,iF hl,h,dE sm q (aV.mpr rfl)⟩ hs
   ·rw[QI hl] at e';cases e'
  |non=>cases e
  |bl _=>cases e
  |int _=>cases e
  |fn _ _=>cases e
  |obj _ _ _=>cases e
 |_=>cases d1 <;> cases e
def l0{F:D->Option R}{ds:List D}{r:R}(h:f1 F ds=some r):∃d,ds=[d]/\F d=some r:=by
 match ds,h with
 |[d],h=>exact⟨d,rfl,h⟩
def rY{H:Hp}{d:D}{xs:List V}(h:RepL Γ H [d] xs):∃x,xs=[x]/\c6 Γ H d x:=by
 obtain⟨x,r,e,q,t⟩:=aw.mp h;rw[bR.mp t] at e;exact⟨x,e,q⟩
def bQ(hK:X.K=Γ.K):cI X (.builtin "len") (zO Γ W (f1 bU)):=λpins s σ H xs us Q I rs ⟨Hs,ds,r,sm,rl,e,q,tb⟩=>by
 obtain⟨d,rfl,e⟩:=l0 e;obtain⟨x,rfl,rp⟩:=rY rl;cases d with
 |tup ds=>
  cases e;obtain⟨a,ys,rfl,qa,la⟩:=aX.mp rp;exact mC pins s σ H _ us Q I rs ⟨a,ys,rfl,.inr (by rw[hK];exact bj sm qa),by rw[<-la.length];exact dE sm q (af.mpr rfl)⟩
 |lst ds=>
  cases e;obtain⟨a,ys,rfl,qa,la⟩:=b6.mp rp;exact mC pins s σ H _ us Q I rs ⟨a,ys,rfl,.inl (by rw[hK];exact aM.seq sm qa),by rw[<-la.length];exact dE sm q (af.mpr rfl)⟩
 |str z=>
  obtain⟨hl,rfl⟩:=bz (c:=z.length<=lim) e;rw[aV.mp rp] at rs;exact v9 pins s σ H _ us Q I rs ⟨z,rfl,iF hl,dE sm q (af.mpr rfl)⟩
 |_=>cases e
def JI(hK:X.K=Γ.K)(hc:X.calm=true):cI X (.builtin "sum") (zO Γ W (f1 GK)):=λpins s σ H xs us Q I rs ⟨Hs,ds,r,sm,rl,e,q,tb⟩=>by
 obtain⟨d,rfl,e⟩:=l0 e;obtain⟨x,rfl,rp⟩:=rY rl;cases d with
 |lst ds=>
  have e:(intsOf ds).bind (λns=>okI ns.sum)=some r:=e;cases h:intsOf ds with
  |none=>rw[h] at e;cases e
  |some ns=>
   rw[h] at e;cases e;obtain⟨a,ys,rfl,qa,la⟩:=b6.mp rp;have ey:=la.intsOf h;subst ey;exact Cc hc pins s σ H _ us Q I rs ⟨a,ns,rfl,by rw[hK];exact aM.seq sm qa,dE sm q (af.mpr rfl)⟩
 |_=>cases e
def JK(hK:X.K=Γ.K)(hc:X.calm=true):cI X (.builtin "any") (zO Γ W (f1 EH)):=λpins s σ H xs us Q I rs ⟨Hs,ds,r,sm,rl,e,q,tb⟩=>by
 obtain⟨d,rfl,e⟩:=l0 e;obtain⟨x,rfl,rp⟩:=rY rl;cases d with
 |lst ds=>
  have e:(blsOf ds).bind (λbs=>okB (bs.any id))=some r:=e;cases h:blsOf ds with
  |none=>rw[h] at e;cases e
  |some ns=>
   rw[h] at e;cases e;obtain⟨a,ys,rfl,qa,la⟩:=b6.mp rp;have ey:=la.blsOf h;subst ey;exact Ci hc pins s σ H _ us Q I rs ⟨a,ns,rfl,by rw[hK];exact aM.seq sm qa,dE sm q (aS.mpr rfl)⟩
 |_=>cases e
def eZ(hK:X.K=Γ.K):cI X (.type "tuple") (zO Γ W (f1 gY)):=λpins s σ H xs us Q I rs ⟨Hs,ds,r,sm,rl,e,q,tb⟩=>by
 obtain⟨d,rfl,e⟩:=l0 e;obtain⟨x,rfl,rp⟩:=rY rl;cases d with
 |tup ds=>
  cases e;obtain⟨a,ys,rfl,qa,la⟩:=aX.mp rp;exact lF pins s σ H _ us Q I rs ⟨a,ys,rfl,.inr ⟨by rw[hK];exact bj sm qa,dE sm q rp⟩⟩
 |lst ds=>
  cases e;obtain⟨a,ys,rfl,qa,la⟩:=b6.mp rp;exact lF pins s σ H _ us Q I rs ⟨a,ys,rfl,.inl ⟨by rw[hK];exact aM.seq sm qa,λp hp=>u6 sm q la hp⟩⟩
 |_=>cases e
def AB(hK:X.K=Γ.K):cI X (.type "list") (zO Γ W (f1 EF)):=λpins s σ H xs us Q I rs ⟨Hs,ds,r,sm,rl,e,q,tb⟩=>by
 obtain⟨d,rfl,e⟩:=l0 e;obtain⟨x,rfl,rp⟩:=rY rl;cases d with
 |tup ds=>
  cases e;obtain⟨a,ys,rfl,qa,la⟩:=aX.mp rp;exact mB pins s σ H _ us Q I rs ⟨a,ys,rfl,.inr (by rw[hK];exact bj sm qa),λp hp=>kR sm q la hp⟩
 |lst ds=>
  cases e;obtain⟨a,ys,rfl,qa,la⟩:=b6.mp rp;exact mB pins s σ H _ us Q I rs ⟨a,ys,rfl,.inl (by rw[hK];exact aM.seq sm qa),λp hp=>kR sm q la hp⟩
 |_=>cases e
def FM{a:Vt}{g:ME}{j pos pos'}(h:PD X Γ W a g):AI X Γ W (.Compare a [.Is] [.Constant .none j pos'] pos) (lh GL g):=PT.imp (Ir (IR h)) λ_ _ σ H Q _ t=>by
 have t':=CS t;obtain⟨B0,B1,Hs,ρ,r,re,e,q⟩:=t';refine(bW re e q).mono λv H1 ⟨Hs1,d,g1,re1,rp,e1,q1⟩=>?_;cases d with
 |non=>cases e1;rw[cz.mp rp];exact q1 _ Hs1 H1 (.refl re1.b.i) (fe.of (aS.mpr rfl))
 |bl _=>cases e1;rw[aS.mp rp];exact q1 _ Hs1 H1 (.refl re1.b.i) (fe.of (aS.mpr rfl))
 |int _=>cases e1;rw[af.mp rp];exact q1 _ Hs1 H1 (.refl re1.b.i) (fe.of (aS.mpr rfl))
 |str _=>cases e1;rw[aV.mp rp];exact q1 _ Hs1 H1 (.refl re1.b.i) (fe.of (aS.mpr rfl))
 |tup _=>cases e1;obtain⟨a,_,rfl,_⟩:=aX.mp rp;exact q1 _ Hs1 H1 (.refl re1.b.i) (fe.of (aS.mpr rfl))
 |lst _=>cases e1;obtain⟨a,_,rfl,_⟩:=b6.mp rp;exact q1 _ Hs1 H1 (.refl re1.b.i) (fe.of (aS.mpr rfl))
 |fn _ _=>cases e1;obtain⟨a,_,rfl,_⟩:=yc.mp rp;exact q1 _ Hs1 H1 (.refl re1.b.i) (fe.of (aS.mpr rfl))
 |obj _ _ _=>cases e1;obtain⟨a,_,_,rfl,_⟩:=mj.mp rp;exact q1 _ Hs1 H1 (.refl re1.b.i) (fe.of (aS.mpr rfl))
def k0(K:Frag)(T:Vw):Prop:=∀t∈["NoneType","bool","int","str","tuple","list"],kitOne K (.type t) (.type T)=some (t == T || (t == "bool" && T == "int"))
theorem HW{T:Vw}{g:ME}(hK:X.K=Γ.K)(h:k0 X.K T){σ:L2.St}{H:Hp}{Q:VK}(t:tD Γ W (lh (xw T) g) σ H Q):
  tD Γ W g σ H λx H1=>∃y t U b,[x,V.ty T]=[y,V.ty U]/\(lO X.K H1 y (.type t)\/(t = "tuple" /\ ∃a xs,y=.ref a/\iy X.K H1 a xs)\/(t = "list" /\ ∃a xs,y=.ref a/\iA X.K H1 a xs))/\kitOne X.K (.type t) (.type U)=some b/\Q (.bl b) H1:=by
 obtain⟨B0,B1,Hs,ρ,r,re,e,q⟩:=t;refine(bW re e q).mono λv H1 ⟨Hs1,d,g1,re1,rp,e1,q1⟩=>?_;have fin:∀t:Vw,xw T d=okB (t == T || (t == "bool" && T == "int"))->Q (.bl (t == T || (t == "bool" && T == "int"))) H1:=λt z=>by
  rw[z] at e1;cases e1;exact q1 _ Hs1 H1 (.refl re1.b.i) (fe.of (aS.mpr rfl))
 cases d with
 |non=>rw[cz.mp rp];exact⟨_,"NoneType",T,_,rfl,.inl .non,h _ (by simp),fin _ rfl⟩
 |bl _=>rw[aS.mp rp];exact⟨_,"bool",T,_,rfl,.inl (.bl _),h _ (by simp),fin _ rfl⟩
 |int _=>rw[af.mp rp];exact⟨_,"int",T,_,rfl,.inl (.int _),h _ (by simp),fin _ rfl⟩
 |str _=>rw[aV.mp rp];exact⟨_,"str",T,_,rfl,.inl (.str _),h _ (by simp),fin _ rfl⟩
 |tup _=>obtain⟨a,xs,rfl,qa,_⟩:=aX.mp rp;exact⟨_,"tuple",T,_,rfl,.inr (.inl ⟨rfl,a,xs,rfl,by rw[hK];exact bj re1.b.i qa⟩),h _ (by simp),fin _ rfl⟩
 |lst _=>
  obtain⟨a,xs,rfl,qa,_⟩:=b6.mp rp;exact⟨_,"list",T,_,rfl,.inr (.inr ⟨rfl,a,xs,rfl,by rw[hK];exact aM.seq re1.b.i qa⟩),h _ (by simp),fin _ rfl⟩
 |fn _ _=>cases e1
 |obj _ _ _=>cases e1
def ph{a:Vt}{g:ME}{T:Vw}{tn:Str}{p p' pos:Pos}(hK:X.K=Γ.K)(hk:k0 X.K T)(hg:Gl X "isinstance")(hm:X.mg "isinstance" = none)(hg2:Gl X tn)(hm2:X.mg tn=none)(hb:bootBuiltins tn=some (.type T))(h:PD X Γ W a g)
  (hn:tn ≠ "__name__" := by decide) (hdb:(tn == ("__debug__":Str))=false:=by decide) (hs1:starEach [a,.Name tn p'] X.env=(false,eval a X.env)::starEach [.Name tn p'] X.env:=by rfl) (hs2:starEach [.Name tn p'] X.env=(false,eval (.Name tn p') X.env)::starEach [] X.env:=by rfl)
  (hpl:(backTo pos (starEach [.Name tn p'] X.env)).any (·.1)=false:=by rfl):PD X Γ W (.Call (.Name "isinstance" p) [a,.Name tn p'] [] pos) (lh (xw T) g):=
 PE.imp (iP xG hg hm boot_isinstance (cA h (cA (FY (v:=.ty T) hg2 hm2 hb rfl hn hdb) dW hs2) hs1) (by decide) (by decide) hs1 hpl) λ_ _ _ _ _ _ t=>HW hK hk t
def ub{a b:Vt}{ga gb:ME}{p p' pos' pos:Pos}(hc:X.calm=true)(hg:Gl X "list")(hm:X.mg "list" = none)(hg2:Gl X "range")(hm2:X.mg "range" = none)(ha:PD X Γ W a ga)(hb:PD X Γ W b gb)
  (hs1:starEach [a,b] X.env=(false,eval a X.env)::starEach [b] X.env:=by rfl) (hs2:starEach [b] X.env=(false,eval b X.env)::starEach [] X.env:=by rfl) (hpl:(backTo pos' (starEach [b] X.env)).any (·.1)=false:=by rfl)
  (hs3:starEach [.Call (.Name "range" p') [a,b] [] pos'] X.env=(false,eval (.Call (.Name "range" p') [a,b] [] pos') X.env)::starEach [] X.env:=by rfl) (hpl2:(backTo pos (starEach [] X.env)).any (·.1)=false:=by rfl):
  PD X Γ W (.Call (.Name "list" p) [.Call (.Name "range" p') [a,b] [] pos'] [] pos) (a9 kC ga gb):=
 PE.imp (gJ (v8 hc) hg hm boot_list (cA (gJ xE hg2 hm2 boot_range (cA ha (cA hb dW hs2) hs1) (by decide) (by decide) hs1 hpl) dW hs3) (by decide) (by decide) hs3 hpl2) λ_ _ σ H Q _ ⟨B0,B1,Hs,ρ,r,re,e,q⟩=>by
  refine(bW re e q).mono λv H1 ⟨Hs1,d,g1,re1,rp,e1,q1⟩=>?_;refine(bW re1 e1 q1).mono λu H2 ⟨Hs2,d2,g2,re2,rp2,e2,q2⟩=>?_;obtain⟨lo,hi,rfl,rfl,e2⟩:=dg (f:=λlo hi=>if jV lo=true/\jV hi=true/\(hi - lo).toNat<=lim then okL (rng lo hi) else none) (λ_ _=>rfl) e2;obtain⟨⟨h1,h2,h3⟩,rfl⟩:=bz e2;refine⟨lo,hi,by rw[af.mp rp,af.mp rp2],λp hp=>?_⟩
  have sm:=re2.b.i;refine⟨p,lo,hi,rfl,aQ,⟨(kr h1).1,(kr h1).2,(kr h2).1,(kr h2).2⟩,iF h3,λl hl=>?_⟩;have hp2:=sm.free hp;have g3:Grow Hs2 H2 Hs2 (cD (cD H2 p (.rng lo hi)) l (.lst ((List.range (hi - lo).toNat).map λk:Nat=>V.int (lo+k)))):=.only sm ((bZ hp).trans (bZ hl));have hl2:H2 l=none:=(bZ hp).free hl;refine q2 _ Hs2 _ g3 ⟨l,_,rfl,hl2,sm.free hl2,aQ,_,rfl,?_⟩;unfold rng;exact Dc _ λk=>af.mpr rfl
end
section
variable{X:Cx}{Γ:Ct}{W:XW}{i:Nat}{x:Str}{e ex:Vt}{ge gx:ME}{px apos cpos pos:Pos}
def mS{i:Nat}{ρ:aJ}{k:List D->Option nY}{o:nY}(h:wg i ρ k=some o):∃ds,ρ[i]?=some (some (.own (.lst ds)))/\k ds=some o:=by
 unfold wg at h;split at h
 ·rename_i ds hd;exact⟨ds,hd,h⟩
 ·cases h
def cQ(hv:PE X (.Name x px) (qR i))(he:PD X Γ W e ge)(hs:starEach [e] X.env=(false,eval e X.env)::starEach [] X.env:=by rfl)
  (hbase:attributeBase (.Name x px) "append" X.env (eval (.Name x px) X.env)=eval (.Name x px) X.env:=by rfl)
  (hfew:((backTo cpos (starEach [e] X.env)).all (λx=>!x.1) && (backToKw cpos (keywordEach [] X.env)).all (λx=>x.1.isSome) && decide ([e].length+([]:List Keyword).length+(if([]:List Keyword).isEmpty then 0 else 1)<30))=true:=by rfl)
  (hline:(apos.endLine == cpos.line)=true:=by rfl) (hplain:(backTo cpos (starEach [] X.env)).any (·.1)=false:=by rfl) (hsw:swapsWith (.Call (.Attribute (.Name x px) "append" apos) [e] [] cpos) none pos.line X.env=pure false:=by rfl):
  zD X Γ W (.Expr (.Call (.Attribute (.Name x px) "append" apos) [e] [] cpos) pos) (cO i ge):=
 PS.imp (oj (Ho ZZ PySem.F.slot_list_append PySem.F.type_list_append sj hv (cA he dW hs) hbase hfew hline hs hplain) hsw) λpins s σ H En I t'=>by
  obtain⟨B0,B1,Hs,ρ,o,re,eo,q⟩:=t';obtain⟨ds,hd,eo⟩:=mS eo;obtain⟨a,ho,e1,e2,e3,e4,xs,rfl,rl⟩:=re.own i _ hd;refine⟨.ref a,e1,.inl ⟨rfl,xs,.of e4⟩,(CT re eo q).mono λy H1 t'=>?_⟩;obtain⟨Hs1,s,g1,rs,e5⟩:=t';obtain⟨hl,rfl⟩:=bz e5;obtain⟨Hs2,g2,_,rp⟩:=rs.share g1;refine⟨a,xs,y,rfl,rfl,g2.h _ _ e4,by rw[<-rl.length];exact QZ hl (by decide),q σ Hs2 _ g2.s ((re.grow g2).write hd e1 ⟨_,rfl,(rl.mono g2.s).append (.cons rp .nil)⟩)⟩
def p4(hK:X.K=Γ.K)(hv:PE X (.Name x px) (qR i))(he:PD X Γ W e ge)(hs:starEach [e] X.env=(false,eval e X.env)::starEach [] X.env:=by rfl)
  (hbase:attributeBase (.Name x px) "extend" X.env (eval (.Name x px) X.env)=eval (.Name x px) X.env:=by rfl)
  (hfew:((backTo cpos (starEach [e] X.env)).all (λx=>!x.1) && (backToKw cpos (keywordEach [] X.env)).all (λx=>x.1.isSome) && decide ([e].length+([]:List Keyword).length+(if([]:List Keyword).isEmpty then 0 else 1)<30))=true:=by rfl)
  (hline:(apos.endLine == cpos.line)=true:=by rfl) (hplain:(backTo cpos (starEach [] X.env)).any (·.1)=false:=by rfl) (hsw:swapsWith (.Call (.Attribute (.Name x px) "extend" apos) [e] [] cpos) none pos.line X.env=pure false:=by rfl):
  zD X Γ W (.Expr (.Call (.Attribute (.Name x px) "extend" apos) [e] [] cpos) pos) (mf i ge):=
 PS.imp (oj (Ho ZZ PySem.F.slot_list_extend PySem.F.type_list_extend (K0.or yG yF) hv (cA he dW hs) hbase hfew hline hs hplain) hsw) λpins s σ H En I ⟨B0,B1,Hs,ρ,o,re,eo,q⟩=>by
  obtain⟨ds,hd,eo⟩:=mS eo;obtain⟨a,ho,e1,e2,e3,e4,xs,rfl,rl⟩:=re.own i _ hd;refine⟨.ref a,e1,.inl ⟨rfl,xs,.of e4⟩,(CT re eo q).mono λy H1 ⟨Hs1,s,g1,rs,e5⟩=>?_⟩;obtain⟨Hs2,g2,_,rp⟩:=rs.share g1;have wr:∀{es:List D}{ys:List V},RepL Γ Hs2 es ys->o=.next (ρ.set i (some (.own (.lst (ds++es)))))->En.nx σ (cD H1 a (.lst (xs++ys))):=λ{es ys} rl2 eo=>by
   subst eo;exact q σ Hs2 _ g2.s ((re.grow g2).write hd e1 ⟨_,rfl,(rl.mono g2.s).append rl2⟩)
  cases hv:s.val with
  |lst es=>
   rw[hv] at e5 rp;obtain⟨hl,eo⟩:=bz (c:=ds.length+es.length<=lim) e5;obtain⟨b,ys,rfl,rd,rl2⟩:=b6.mp rp;exact .inl ⟨a,b,xs,ys,rfl,rfl,g2.h _ _ e4,by rw[hK];exact aM.seq g2.i rd,by rw[<-rl.length,<-rl2.length];exact iF hl,wr rl2 eo.symm⟩
  |tup es=>
   rw[hv] at e5 rp;obtain⟨hl,eo⟩:=bz (c:=ds.length+es.length<=lim) e5;obtain⟨b,ys,rfl,sq,rl2⟩:=aX.mp rp;exact .inr ⟨a,b,xs,ys,rfl,rfl,g2.h _ _ e4,by rw[hK];exact bj g2.i sq,by rw[<-rl.length,<-rl2.length];exact iF hl,wr rl2 eo.symm⟩
  |_=>rw[hv] at e5;cases e5
end
def W0:XW:=λ_ _ _=>False
def vW{Γ:Ct}{Hs H:Hp}(sm:aM Hs H){N:List Str}{ds:List D}{vs:List V}(rl:RepL Γ Hs ds vs)(tb:aM Γ.tb Hs):RE Γ Hs H Hs H (L2.start N vs) (dU N.length ds):=by
 have hl:=rl.length;have at':∀(i:Nat)(s:S),(dU N.length ds)[i]?=some (some s)->∃d,s=.sh d/\ds[i]?=some d:=λi s e=>by
  unfold dU at e;by_cases hi:i<ds.length
  ·rw[VV (by simpa using hi),Vy,QB hi] at e
   cases e;exact⟨ds[i],rfl,QB hi⟩
  ·rw[VR (by simpa using hi),ZU] at e
   split at e <;> cases e
 refine⟨.refl sm,λi d e=>?_,λi o e=>?_,λi j o u a _ e=>?_,?_,tb⟩
 ·obtain⟨d',e1,e2⟩:=at' i _ e;cases e1;obtain⟨v,e3,q⟩:=rl.get e2;refine⟨v,?_,q⟩;have hi:i<vs.length:=(QM.mp e3).1;unfold L2.start;rw[VV (by simpa using hi),Vy,e3]
  rfl
 ·obtain⟨_,e1,_⟩:=at' i _ e;cases e1
 ·obtain⟨_,e1,_⟩:=at' i _ e;cases e1
 ·unfold dU L2.start;rw[QE,QE,QG,QG,Zp,Zp,hl]
section
variable{P:Vq}{w:Vr}{K:Frag}{mg:Str->Option Vn}{base:Vs}{Γ:Ct}
def xj{np n:Nat}{g:MC}{ds:List D}{r:R}(h:jh np n g ds=some r):ds.length=np/\KF (g (dU n ds))=some r:=by
 unfold jh at h;by_cases z:ds.length=np
 ·rw[QH z] at h;exact⟨z,h⟩
 ·rw[QI z] at h;cases h
theorem Jv{x qual:Str}{st:Vu}{f:Vp}{fd:FuncData}{N ps:List Str}{k:Nat}{g:MC}(F:Cs K x qual st f fd)(S:av N ps (ae st))
  (body:∀(cdv:Vn)(A:Vv)(outer:List PySem.Env)(s:Vo)(H:Hp)(E:XK),cJ k (A.deeper (envOfC qual (ae st) s.heap.objs.size f cdv))->nX (qm qA P w K mg base N qual (ae st) f cdv A outer s H E).nox Γ W0 (bE st) g):
  gf P w K mg base qA (k+1) f fd ps (Hi Γ W0 (jh ps.length N.length g)):=by
 refine F.ok S (λvs H Q E ⟨Hs,ds,r,sm,rl,e,q,tb⟩=>?_) (λcdv A outer s H vs Q E hr ⟨Hs,ds,r,sm,rl,e,q,tb⟩=>?_)
 ·rw[<-rl.length];exact(xj e).1
 ·obtain⟨_,e⟩:=xj e;refine⟨tS Γ W0 g,body cdv A outer s H E hr,?_⟩;cases h:g (dU N.length ds) with
  |none=>rw[h] at e;cases e
  |some o=>
   rw[h] at e;refine⟨Hs,H,Hs,dU N.length ds,o,vW sm rl tb,h,?_⟩;cases o with
   |next ρ'=>cases e;exact λσ' Hs' H' _ re=>q .non Hs' H' re.b (fe.of (cz.mpr rfl))
   |brk ρ'=>cases e
   |cont ρ'=>cases e
   |ret s=>cases e;exact λv Hs' H' _ g' rs=>q v Hs' H' g' rs
   |exc x=>cases e;exact λHs' H' _ g'=>q Hs' H' g'
end
def pU(K:Frag):k0 K "tuple" /\ k0 K "list" /\ k0 K "bool" /\ k0 K "int" /\ k0 K "str" := by
 refine⟨?_,?_,?_,?_,?_⟩ <;>
 ·intro t ht;have:t = "NoneType" \/ t = "bool" \/ t = "int" \/ t = "str" \/ t = "tuple" \/ t = "list" := by simpa using ht
  rcases this with rfl|rfl|rfl|rfl|rfl|rfl <;> rfl
def dv(P:Vq)(w:Vr)(K:Frag)(mg:Str->Option Vn)(base:Vs)(Γ:Ct)(k:Nat)(x:Str)(ps:List Str)(F:List D->Option R):Prop:=
 ∃f fd,gf P w K mg base qA k f fd ps (Hi Γ W0 F)/\mg x=some (.ref f)/\keepIn K (.ref f)=true/\g0 K fd ps []
section
variable{X:Cx}{Γ:Ct}{k:Nat}{ps:List Str}{x:Str}{p pos:Pos}{e:Vt}{es:List Vt}{gs:List ME}{F:List D->Option R}
def aT(h:dv X.prog X.w X.K X.mg X.base Γ k x ps F)(hr:cJ k X.A)(hg:Gl X x)(ha:nz X Γ W0 (e::es) gs)(hdb:(x == ("__debug__":Str))=false:=by decide)(he:starEach (e::es) X.env=(false,eval e X.env)::starEach es X.env:=by rfl)(hpl:(backTo pos (starEach es X.env)).any (·.1)=false:=by rfl):
  PD X Γ W0 (.Call (.Name x p) (e::es) [] pos) (ai F gs):=by
 obtain⟨f,fd,G,hm,hk,hb⟩:=h;exact G1 G hr hg hm hk hb ha hdb he hpl
def uc(h:dv X.prog X.w X.K X.mg X.base Γ k x ps F)(hr:cJ k X.A)(hg:Gl X x)(ha:K9 X Γ W0 (e::es) gs)(hdb:(x == ("__debug__":Str))=false:=by decide)(he:starEach (e::es) X.env=(false,eval e X.env)::starEach es X.env:=by rfl)(hpl:(backTo pos (starEach es X.env)).any (·.1)=false:=by rfl):
  PD X Γ W0 (.Call (.Name x p) (e::es) [] pos) (aI F gs):=by
 obtain⟨f,fd,G,hm,hk,hb⟩:=h;exact Dr G hr hg hm hk hb ha hdb he hpl
end
structure bL(K:Frag)(mg:Str->Option Vn)(x:Str)(st:Vu)(ps:List Str):Prop where
 ex:∃f fd,Cs K x x st f fd/\mg x=some (.ref f)/\g0 K fd ps []
section
variable{P:Vq}{w:Vr}{K:Frag}{mg:Str->Option Vn}{base:Vs}{Γ:Ct}
def b9{x:Str}{st:Vu}{N ps:List Str}{k:Nat}{g:MC}(L:bL K mg x st ps)(S:av N ps (ae st))
  (body:∀(f:Vp)(cdv:Vn)(A:Vv)(outer:List PySem.Env)(s:Vo)(H:Hp)(E:XK),cJ k (A.deeper (envOfC x (ae st) s.heap.objs.size f cdv))->nX (qm qA P w K mg base N x (ae st) f cdv A outer s H E).nox Γ W0 (bE st) g):
  dv P w K mg base Γ (k+1) x ps (jh ps.length N.length g):=by
 obtain⟨f,fd,F,hm,hb⟩:=L.ex;exact⟨f,fd,Jv F S (body f),hm,F.kp,hb⟩
def Gr{h:Vs}(X:K.In h)(G:h.Ns mainGlobals mg){x:Str}{st:Vu}{ps:List Str}{f:Vp}{oc:Vn}{od an:Option Vp}{osl:Array (Option Vn)}{kV doc pm cdv ct:Vn}(a:nsIn K mainGlobals x=some (some (.ref f)))
  (l:K.lookup f=some ⟨oc,od,.func (fnOf x x (cj st) (bE st) (ae st) .none kV doc pm an cdv ct),osl⟩) (c:codeIn K cdv x=true) (k:keepIn K (.ref f)=true)
  (hb:∀(kV doc pm:Vn)(an:Option Vp)(cdv ct:Vn)(us:List Vn),us.length=ps.length->bindArgs (fnOf x x (cj st) (bE st) (ae st) .none kV doc pm an cdv ct) ⟨us,[]⟩=pure (ps.zip us)):bL K mg x st ps:=
 ⟨f,_,n6 l c k,mg_of X G a,(n6 l c k).binds hb⟩
end
def BL(K:Frag):k0 K "tuple" := (pU K).1
def E2(K:Frag):k0 K "list" := (pU K).2.1
def E3(K:Frag):k0 K "bool" := (pU K).2.2.1
def Gu(K:Frag):k0 K "int" := (pU K).2.2.2.1
def Gs(K:Frag):k0 K "str" := (pU K).2.2.2.2
def dS:bootBuiltins "tuple" = some (.type "tuple"):=by decide +kernel
def va:bootBuiltins "list" = some (.type "list"):=by decide +kernel
def GS:bootBuiltins "bool" = some (.type "bool"):=by decide +kernel
def EN:bootBuiltins "int" = some (.type "int"):=by decide +kernel
def JM:bootBuiltins "str" = some (.type "str"):=by decide +kernel
def JL:bootBuiltins "sum" = some (.builtin "sum"):=by decide +kernel
def JN:bootBuiltins "any" = some (.builtin "any"):=by decide +kernel
def D1(K:Frag):Sp:=λvs H Q _=>∃(a:Vp)(ns:List Int),vs=[.ref a]/\iA K H a (ns.map V.int)/\ns.length<=63/\∀H',Q (.bl true) H'
def Ji{P:Vq}{w:Vr}{K:Frag}{mg:Str->Option Vn}{base:Vs}{Γ:Ct}{k:Nat}{f:Vp}{fd:FuncData}{x:Str}{F:List D->Option R}(h:gf P w K mg base qA k f fd [x] (Hi Γ W0 F))(hK:Γ.K=K)(htb:Γ.tb=λ_=>none)
  (T:∀ns:List Int,ns.length<=63->F [.lst (ns.map D.int)]=some (.ok (.sh (.bl true)))):gf P w K mg base qA k f fd [x] (D1 K):=
 h.imp λvs H Q E ⟨a,ns,ev,hS,hl,q⟩=>by
  subst hK;subst ev;refine⟨H,[.lst (ns.map D.int)],_,.refl _,.cons (b6.mpr ⟨a,_,rfl,hS,RepL.ints ns⟩) .nil,T ns hl,λv Hs' H' g rs=>?_,λb o z=>by rw[htb] at z;cases z⟩
  have rs':c6 Γ Hs' (.bl true) v:=rs;rw[aS.mp rs'];exact q H'
def DX{l:PySem.W.OpenLaw}{q:Vq}{loose:List Str}{XP:(Str->Option Vn)->Vs->Prop}{YP:Vr->Vs->Prop}{d:DefRec}{K:Params->Frag}{k:Nat}{x:Str}(hk:k<=60)(hn:l.most=some 63)(hdf:d.params.defaults=[])
  (hY:∀(w:Vr)(h:Vs),YP w h->(K w.params).In h)
  (F:∀(w:Vr)(mg:Str->Option Vn)(fa:Vp)(h:Vs),(K w.params).In h->h.Ns mainGlobals mg->mg d.name=some (.ref fa)->
   ∃fd:FuncData,(∀(s:Vo)(u:Vn),BindsTo s fd ⟨[u],[]⟩ [(x,u)])/\∀base:Vs,gf l.prog w (K w.params) mg base qA k fa fd [x] (D1 (K w.params))):
  PySem.W.WalkO q loose XP YP l.row.toRowW d [] (λf vs=>PySem.call f vs):=
 L2.walk_of (n:=63) (k:=k) (x:=x) (CX:=λ_=>qA) (sp:=λw=>D1 (K w.params)) hn (by decide) hdf (cJ.mono (k:=60) ⟨rfl,by decide,by decide⟩ hk) hY (λw mg fa h KX G hm=>by
  obtain⟨fd,hb,ok⟩:=F w mg fa h KX G hm;exact⟨fd,hb,λbase _ _=>ok base⟩) (λ_ _ a ns hl _ hS=>⟨a,ns,rfl,hS,hl,λ_=>rfl⟩) λ_ _ _ _ _ z=>z
section
variable{X:Cx}{Γ:Ct}{W:XW}
def uf:hU X (binaryOp .LShift) (rD Γ W xu):=λpins s σ H x y v u Q I rx ry ⟨Hs,d1,d2,r,sm,r1,r2,e,q⟩=>by
 obtain⟨i,j,rfl,rfl,e⟩:=dg (f:=λi j=>if 0<=j/\j<=1000000/\i.natAbs<2 ^ 64 then okI (i * 2 ^ j.toNat) else none) (λ_ _=>rfl) e;obtain⟨h,rfl⟩:=bz e;exact IV pins s σ H x y v u Q I rx ry ⟨i,j,af.mp r1,af.mp r2,h,dE sm q (af.mpr rfl)⟩
def A7:hU X (binaryOp .RShift) (rD Γ W uU):=λpins s σ H x y v u Q I rx ry ⟨Hs,d1,d2,r,sm,r1,r2,e,q⟩=>by
 obtain⟨i,j,rfl,rfl,e⟩:=dg (f:=λi j=>if 0<=j then okI (i / 2 ^ j.toNat) else none) (λ_ _=>rfl) e;obtain⟨h,rfl⟩:=bz e;exact IU pins s σ H x y v u Q I rx ry ⟨i,j,af.mp r1,af.mp r2,h,dE sm q (af.mpr rfl)⟩
def A8:hU X (binaryOp .Pow) (rD Γ W BZ):=λpins s σ H x y v u Q I rx ry ⟨Hs,d1,d2,r,sm,r1,r2,e,q⟩=>by
 obtain⟨i,j,rfl,rfl,e⟩:=dg (f:=λi j=>if 0<=j/\j<=1000000/\i.natAbs<2 ^ 64 then okI (i ^ j.toNat) else none) (λ_ _=>rfl) e;obtain⟨h,rfl⟩:=bz e;exact IX pins s σ H x y v u Q I rx ry ⟨i,j,af.mp r1,af.mp r2,h,dE sm q (af.mpr rfl)⟩
def GW{x y:Int}(hx:0<=x)(hy:0<=y):Builtin.bitAnd x y=((x.toNat &&& y.toNat:Nat):Int):=by simp[Builtin.bitAnd,hx,hy]
def pD:hU X (binaryOp .BitAnd) (rD Γ W lD):=λpins s σ H x y v u Q I rx ry ⟨Hs,d1,d2,r,sm,r1,r2,e,q⟩=>by
 obtain⟨i,j,rfl,rfl,e⟩:=dg (f:=λi j=>if 0<=i/\0<=j then okI ((i.toNat &&& j.toNat:Nat):Int) else none) (λ_ _=>rfl) e;obtain⟨h,rfl⟩:=bz e;exact J0 pins s σ H x y v u Q I rx ry ⟨i,j,af.mp r1,af.mp r2,by dsimp only;rw[GW h.1 h.2];exact dE sm q (af.mpr rfl)⟩
section
variable{a b c:Vt}{ga gb gc:ME}{pos:Pos}
def KC{op:UnaryOp}{f:D->Option R}{rr:V->Hp->VK->Prop}(ho:Ly X (unaryOp op) rr)(hf:∀d v Hs H r Q,aM Hs H->c6 Γ Hs d v->f d=some r->RQ Γ W Hs H r Q->rr v H Q)(ha:PD X Γ W a ga):PD X Γ W (.UnaryOp op a pos) (lh f ga):=
 PE.imp (Hm ho ha) λ_ _ σ H Q _ t=>by
  obtain⟨B0,B1,Hs,ρ,r,re,e,q⟩:=t;exact(bW re e q).mono λv H1 ⟨Hs1,d,g1,re1,rp,e1,q1⟩=>hf d v Hs1 H1 r Q re1.b.i rp e1 q1
def G0(ha:PD X Γ W a ga):PD X Γ W (.UnaryOp .USub a pos) (lh Lg ga):=KC CI (λd v Hs H r Q sm rp e q=>by
 cases d with
 |int i=>cases e;exact⟨i,af.mp rp,dE sm q (af.mpr rfl)⟩
 |non=>cases e
 |bl _=>cases e
 |str _=>cases e
 |tup _=>cases e
 |lst _=>cases e
 |fn _ _=>cases e
 |obj _ _ _=>cases e) ha
def HV(hK:X.K=Γ.K){d:D}{v:V}{Hs H:Hp}{k:Bool}(sm:aM Hs H)(rp:c6 Γ Hs d v)(e:F9 d=some k):JW X.K v H k:=by
 cases d with
 |non=>rw[cz.mp rp];cases e;exact rfl
 |bl b=>rw[aS.mp rp];cases e;exact rfl
 |int i=>rw[af.mp rp];cases e;exact rfl
 |str y=>
  rw[aV.mp rp];obtain⟨hl,rfl⟩:=bz (c:=y.length<=lim) e;exact⟨iF hl,rfl⟩
 |tup ds=>
  obtain⟨p,xs,rfl,sq,rl⟩:=aX.mp rp;cases e;refine .inr (.inl ⟨xs,by rw[hK];exact bj sm sq,?_⟩)
  have:=rl.length;cases ds <;> cases xs <;> simp_all
 |lst ds=>
  obtain⟨p,xs,rfl,sq,rl⟩:=b6.mp rp;cases e;refine .inl ⟨xs,by rw[hK];exact aM.seq sm sq,?_⟩
  have:=rl.length;cases ds <;> cases xs <;> simp_all
 |fn _ _=>cases e
 |obj _ _ _=>cases e
def FL(hK:X.K=Γ.K)(ha:PD X Γ W a ga)(he:∀whole,isTrue a X.env whole=(do let v <-whole;standAt a.pos;holding [v] (truthy v)):=by intro _;rfl):AI X Γ W a (JC ga):=
 PT.imp (Df ha he) λ_ _ σ H Q _ t=>by
  obtain⟨B0,B1,Hs,ρ,r,re,e,q⟩:=t;have e':b0 (ga ρ) Le=some r:=e;cases h:ga ρ with
  |none=>rw[h] at e';cases e'
  |some x=>
   rw[h] at e';refine⟨B0,B1,Hs,ρ,x,re,h,?_⟩;cases x with
   |exc y=>cases e';exact q
   |ok s=>
    have e2:(F9 s.val).bind (λb=>okB b)=some r:=e';cases h2:F9 s.val with
    |none=>rw[h2] at e2;cases e2
    |some k=>
     rw[h2] at e2;cases e2;obtain⟨k',ek,q⟩:=q;cases ek;intro v Hs' H' g' rs;obtain⟨Hs2,g2,_,rp⟩:=rs.share g';exact⟨k,HV hK g2.i rp h2,q _ _ g2⟩
end
def JJ:cI X (.type "int") (zO Γ W (f1 GM)):=λpins s σ H xs us Q I rs ⟨Hs,ds,r,sm,rl,e,q,tb⟩=>by
 obtain⟨d,rfl,e⟩:=l0 e;obtain⟨x,rfl,rp⟩:=rY rl;cases d with
 |int i=>cases e;exact sG pins s σ H _ us Q I rs (.inl ⟨i,by rw[af.mp rp],dE sm q (af.mpr rfl)⟩)
 |bl b=>cases e;exact sG pins s σ H _ us Q I rs (.inr ⟨b,by rw[aS.mp rp],dE sm q (af.mpr rfl)⟩)
 |_=>cases e
end
end L3
namespace L2
def BY{prog:Vq}{w:Vr}{A:Vv}(hh:A.handled=none){it l:Vp}(ne:l≠it)(items:Array Vn):Draws prog w A it [it,l] items.size (λi v=>items[i]?=some v) (λi h=>h.IsTupleIter it l i/\h.IsTuple l items) where
 live:=λ_ _ st=>by obtain⟨⟨o,e,_⟩,_⟩:=st;exact⟨o,e⟩
 frame:=λ_ _ _ st k=>⟨Heap.IsTupleIter.at st.1 λo e=>k it (by simp) o e,Heap.IsTuple.at st.2 λo e=>k l (by simp) o e⟩
 item:=λi s Q E hi st hQ=>pM st.1 st.2 (QW hi) λg a b=>hQ _ g s.toks (QW hi) ⟨a,st.2.extBut b.extBut ne⟩ b
 done:=λs Q E st hE=>si hh st.1 st.2 (by simp) hE
def GI{prog:Vq}{w:Vr}{A:Vv}(hh:A.handled=none){it l:Vp}(ne:l≠it)(items:Array Vn)(b:Bool):Draws prog w A it [it,l] items.size (λi v=>items[i]?=some v) (λi h=>Jr h b it l i/\Lu h b l items):=by
 cases b with
 |true=>exact Draws.list hh it l ne items
 |false=>exact BY hh ne items
def Mz(K:Frag)(b:Bool)(l:Vp):It:=
 ⟨λi H=>∃xs x,Cq K H b l xs/\xs[i]?=some x,
  λi H x H'=>∃p u,x=.ref p/\H p=none/\H'=cD H p (.tup [.int i,u])/\∀xs,Cq K H b l xs->xs[i]?=some u,
  λi H=>∃xs,Cq K H b l xs/\xs.length<=i⟩
def Gy{h:Vs}{b:Bool}{it l:Vp}{i:Nat}(j:Jr h b it l i):∃o,h.get? it=some o/\∀v,o.data≠.cell v:=by
 cases b with
 |_=>obtain⟨o,e,_,d⟩:=j;exact⟨o,e,λv z=>by rw[d] at z;cases z⟩
def Jq{h h':Vs}{b:Bool}{it l:Vp}{i:Nat}(j:Jr h b it l i)(k:∀o,h.get? it=some o->h'.get? it=some o):Jr h' b it l i:=by
 cases b with
 |true=>exact Heap.IsListIter.at j k
 |false=>exact Heap.IsTupleIter.at j k
def AQ{P:Vq}{w:Vr}{K:Frag}{elts:List Vt}{kt:Nat}{tp:Pos}(b:Bool)(e it l:Vp)(hei:e≠it)(hle:l≠e)(hli:l≠it):
  Cp P w K (.Tuple elts kt tp) (Mz K b l) [e,it] e (λi h=>(∃old,IsEnum h e it i old)/\Jr h b it l i) where
 mem:=by simp
 obj:=λi h t' c hc=>by
  obtain⟨⟨old,he⟩,j⟩:=t';rcases V1.mp hc with rfl|hc
  ·exact⟨_,he,λv z=>nomatch z⟩
  ·rw[V3.mp hc];exact Gy j
 keep:=λi h h' ⟨⟨old,he⟩,j⟩ k=>⟨⟨old,k e (by simp) _ he⟩,Jq j λo z=>k it (by simp) o z⟩
 item:=by
  intro X hP hw hK hc i pins s σ H E I hf ⟨⟨old,he⟩,j⟩ ⟨xs,x,q1,hx⟩;subst hP hw hK;obtain⟨t1,r1,p1,lt1⟩:=I.seqX q1;obtain⟨u1,e1,ru1⟩:=r1.get hx;have hi:i<t1.toArray.size:=by
   have:=(QM.mp e1).1;simpa using this
  have W:=WalksT.enumerateD (GI (prog:=X.prog) (w:=X.w) (A:=X.A.in1) (I.ok.hd hc) hli t1.toArray b) e hei (by simp[hei,W8 hle]) (by simp)
  refine W.item i s _ _ hi ⟨⟨old,he⟩,j,p1⟩ λT vals h' tk t' hT isT mid kp=>?_;obtain⟨t,v,hv,ev⟩:=t';have ev1:v=u1:=by
   have:t1[i]?=some v:=by simpa using hv
   rw[e1] at this;exact(VN this).symm
  subst ev1;refine⟨_,rfl,W.go elts kt tp i T {s with heap:=h',toks:=tk} _ _ mid λh2 st2 kp2=>?_⟩;have Tn:T∉[e,it]:=W.apart i T h' mid;have I1:aH X pins σ H {s with heap:=h2,toks:=tk}:=I.turnedN (t':=tk) (ch:=[e,it]) (λc o hc z=>kp2 c o hc (kp c o hc z)) hf;have fT:FpOk X pins H T:=I.fpOk hT (I.hok.fresh hT);have I2:aH X pins σ (cD H T (.tup [.int i,x])) {s with heap:=h2,toks:=tk}:=I1.track fT ⟨by show 2<=sizeLine;decide,[.int i t,v],.cons ⟨t,rfl⟩ (.cons ru1 .nil),by
   rw[ev] at isT;exact Heap.IsTuple.at isT λo z=>kp2 T o Tn z⟩
  refine⟨.ref T,_,I2,rfl,⟨T,x,rfl,fT.1,rfl,λxs' q=>by rw[I.seqX_inj q q1];exact hx⟩,⟨st2.1,st2.2.1⟩,λc hc=>?_⟩
  rw[az]
  ·exact(hf c hc).1
  ·intro z;subst z;exact Tn hc
 done:=by
  intro X hP hw hK hc i pins s σ H E I hf ⟨⟨old,he⟩,j⟩ ⟨xs,q1,hl⟩;subst hP hw hK;obtain⟨t1,r1,p1,lt1⟩:=I.seqX q1;have le1:=r1.length;have hT:s.TypeIs (.ref e) "enumerate" := ⟨_,he,rfl⟩;have N1:=M9 (prog:=X.prog) (w:=X.w) (A:=X.A.in1) (I.ok.hd hc) hli t1.toArray b;unfold pyNext;refine QA (WK (VU (name:=Str.ofString "__next__") hT F.slot_enumerate_next (VD F.slot_enumerate_next hT F.entry_enumerate_next ?_ (F.args_enumerate_next_1 _))));show wpAny _ _ (field (.ref e) 2 >>= _) _ _ _;refine QA (Wf he rfl (x:=.ref it) rfl (QA (N1.stop s i _ _ ⟨j,p1⟩ (by simp;omega) λg z kg t'=>?_)))
  obtain⟨o,ho,hc⟩:=t';refine QA (Zb (T := "StopIteration") (b:=true) ⟨o,ho,hc⟩ isSubtype_stop (QD ⟨rfl,I.turnedN (ch:=[e,it]) (t':=s.toks) (λc o hc z=>kg c o ?_ z) hf⟩));intro z;exact hc (by simp[z])
 self:=λA i s Q E st h=>by
  obtain⟨⟨old,he⟩,_⟩:=st;exact wpAny_pyIter_enum he h
abbrev Lx(h:Vs)(l:Vp):Vs:=h.push {cls:=.type "tuple_iterator",data:=.fields #[.ref l,.int 0 0]}
abbrev Mn(h:Vs)(l:Vp):Vs:=(Lx h l).push {cls:=.type "enumerate",data:=.fields #[.none,.bool false,.ref h.objs.size,rawInt 0,.none,.none]}
def pQ(l:Vp)(xs:Array Vn):
  Meets (Builtin.«enumerate.__new__» ⟨[.type "enumerate",.ref l],[]⟩) (λ_ R s=>s.heap.IsTuple l xs/\R (.ok (.ret (.ref (Lx s.heap l).objs.size))) {s with heap:=Mn s.heap l}):=
 .of_wp λprog w A R s h=>by
  obtain⟨hp,g,d,tk,os⟩:=s;obtain⟨hl,h⟩:=h;have hsub:=sub_enumerate;have q1:Heap.IsTuple (Shared.heap ⟨hp,g,d,tk,os⟩) l xs:=hl
  wp_walk using ZW q1
  refine wpAny_stack_any λst=>QD ?_;split
  ·rename_i c _ _ _ _ _;cases (c == Value.type "enumerate") <;> (wp_walk using ZW q1;exact⟨_,rfl,h⟩)
  ·wp_walk using ZW q1;exact⟨_,rfl,h⟩
section
variable{prog:Vq}{w:Vr}{A:Vv}{E:Vn->Vo->Prop}{s:Vo}
theorem zv{b:Bool}{l:Vp}{xs:Array Vn}{Q:Vn->Vo->Prop}(h1:Lu s.heap b l xs)
  (h:∀h',IsEnum h' (s.heap.objs.size+1) s.heap.objs.size 0 .none->Jr h' b s.heap.objs.size l 0->(∀c o,s.heap.get? c=some o->h'.get? c=some o)->Q (.ref (s.heap.objs.size+1)) {s with heap:=h'}):
  wpAny (model prog w) A (call (.type "enumerate") [.ref l]) Q E s:=by
 cases b with
 |true=>exact call_enumerate_list h1 λh' a1 a2 _ a4=>h h' a1 a2 a4
 |false=>
  refine callType_new F.called_enumerate (by decide) (F.typeCall_enumerate_1 _) (F.newCall_enumerate_1 _) (λobj=>F.args_object_init_2 obj _) F.entry_enumerate_new (pQ l xs) ⟨h1,?_⟩
  have n1:(Lx s.heap l).objs.size=s.heap.objs.size+1:=ZL ..;have g2:(Mn s.heap l).get? (Lx s.heap l).objs.size=some _:=QT _ rfl;have g1:(Mn s.heap l).get? s.heap.objs.size=some _:=QF _ (QT _ rfl);show _/\_;rw[n1] at g2;rw[n1];exact⟨⟨_,g2,rfl⟩,h _ g2 ⟨_,g1,rfl,rfl⟩ λc o x=>QF _ (QF _ x)⟩
end
section
variable{X:Cx}
def Ck:bootBuiltins "enumerate" = some (.type "enumerate"):=by decide +kernel
def Js(K:Frag)(ta:TA):TI:=λσ H R=>ta σ H λvs H1=>∃b l,vs=[.ref l]/\(∃xs,Cq K H1 b l xs)/\R (Mz K b l) H1
def FU{a:Vt}{ta:TA}{p pos:Pos}{elts:List Vt}{kt:Nat}{tp:Pos}(hg:Gl X "enumerate")(hm:X.mg "enumerate" = none)(ha:PA X [a] ta)(hs:starEach [a] X.env=[(false,eval a X.env)]:=by rfl):
  PI X (.Tuple elts kt tp) (.Call (.Name "enumerate" p) [a] [] pos) (Js X.K ta):=by
 intro pins s σ H R I h;refine Call_ (pT I hg hm Ck (Z4 (dy (ha pos pins s σ H _ I h) λus s1 t'=>?_) hs rfl));obtain⟨vs,H1,I1,r1,b,l,e,⟨xs,q1⟩,q⟩:=t';subst e;obtain⟨u,rfl,r2⟩:=gg r1;obtain rfl:u=Value.ref l:=r2;obtain⟨t1,_,p1,lt1⟩:=I1.seqX q1;refine zv p1 λh' z1 j1 kp=>?_;show wpAny _ _ (pyIter (.ref (s1.heap.objs.size+1))) _ _ _;refine wpAny_pyIter_enum z1 ?_;refine⟨_,_,_,_,H1,rfl,I1.kept (t':=s1.toks) kp,AQ b (s1.heap.objs.size+1) s1.heap.objs.size l (Nat.succ_ne_self _) (V7 (WI lt1)) (V7 lt1),⟨⟨_,z1⟩,j1⟩,λc hc=>?_,q⟩;have hle:s1.heap.objs.size<=c:=by
  have:c=s1.heap.objs.size+1\/c=s1.heap.objs.size:=by simpa using hc
  rcases this with rfl|rfl
  ·exact Nat.le_add_right _ _
  ·exact QO _
 exact I1.fpOk hle (I1.hok.fresh hle)
end
end L2
namespace L3
open L2
section
variable{X:Cx}{Γ:Ct}{W:XW}
def lX{K:Frag}{Hx Hy:Hp}{bb:Bool}{l:Vp}{zs:List V}(k:aM Hx Hy)(s:Cq K Hx bb l zs):Cq K Hy bb l zs:=by
 cases bb with
 |true=>exact aM.seq k s
 |false=>exact bj k s
def wb{a:Vt}{ga:ME}{p pos tp:Pos}{elts:List Vt}{kt:Nat}(hK:X.K=Γ.K)(hg:Gl X "enumerate")(hm:X.mg "enumerate" = none)(ha:PD X Γ W a ga)(hs1:starEach [a] X.env=(false,eval a X.env)::starEach [] X.env:=by rfl)(hs3:starEach [a] X.env=[(false,eval a X.env)]:=by rfl):
  K8 X Γ W (.Tuple elts kt tp) (.Call (.Name "enumerate" p) [a] [] pos) (x8 ga):=PI.imp (FU hg hm (cA ha dW hs1) hs3) λ_ _ σ H Q _ t'=>by
 obtain⟨B0,B1,Hs,ρ,r,re,e,q⟩:=t';refine(Kk re e q).mono λv H1 t'=>?_;obtain⟨Hs1,d,g1,re1,rp,e1,q1⟩:=t';have sm:=re1.b.i;have step:∀(bb:Bool)(l:Vp)(xs:List V)(ds:List D),v=.ref l->Cq X.K Hs1 bb l xs->RepL Γ Hs1 ds xs->r=.ok ((List.range ds.length).zipWith (λ(i:Nat) d=>D.tup [.int i,d]) ds)->∃b l,[v]=[V.ref l]/\(∃xs,Cq X.K H1 b l xs)/\Q (Mz X.K b l) H1:=λbb l xs ds ev s1 rl er=>by
  subst ev er;have hlen:((List.range ds.length).zipWith (λ(i:Nat) d=>D.tup [.int i,d]) ds).length=ds.length:=by rw[List.length_zipWith,V2,Nat.min_self]
  refine⟨bb,l,rfl,⟨xs,lX sm s1⟩,q1 _ Hs1 H1 (.refl sm) ⟨λi Hs3 H3 hi k1 k2=>?_,λHs3 H3 k1 k2=>?_,λi Hs3 H3 x H4 hi k1 k2 y=>?_⟩⟩
  ·rw[hlen] at hi;have i1:i<xs.length:=by rw[<-rl.length];omega
   exact⟨xs,xs[i],lX (k1.trans k2) s1,QB i1⟩
  ·exact⟨xs,lX (k1.trans k2) s1,by rw[hlen,rl.length];exact QO _⟩
  ·rw[hlen] at hi;obtain⟨p,u,rfl,hp,rfl,f1⟩:=y;obtain⟨x1,e1,q1'⟩:=rl.get (QB hi);have z1:=f1 xs (lX (k1.trans k2) s1);rw[e1] at z1;cases z1;refine⟨.tup [.int i,ds[i]],cD Hs3 p (.tup [.int i,u]),?_,.new k2 hp,?_⟩
   ·rw[List.getElem?_zipWith,Wu hi,QB hi]
   ·have k3:aM Hs3 (cD Hs3 p (.tup [.int i,u])):=bZ (k2.free hp);exact aX.mpr ⟨p,[.int i,u],rfl,.of aQ,.cons (af.mpr rfl) (.cons ((q1'.mono k1).mono k3) .nil)⟩
 cases d with
 |lst ds=>
  cases e1;obtain⟨l,xs,ev,s1,rl⟩:=b6.mp rp;rw[<-hK] at s1;exact step true l xs ds ev s1 rl rfl
 |tup ds=>
  cases e1;obtain⟨l,xs,ev,s1,rl⟩:=aX.mp rp;rw[<-hK] at s1;exact step false l xs ds ev s1 rl rfl
 |_=>cases e1
def Eu{d:D}{v:V}{H:Hp}(r:c6 Γ H d v)(f:flat d=true):lC v=true:=by
 cases d with
 |non=>rw[cz.mp r];rfl
 |bl _=>rw[aS.mp r];rfl
 |int _=>rw[af.mp r];rfl
 |str _=>rw[aV.mp r];rfl
 |_=>cases f
def Lb{d e:D}{v u:V}{H:Hp}(r1:c6 Γ H d v)(r2:c6 Γ H e u)(f1:flat d=true)(f2:flat e=true):F1 v u=Mo d e:=by
 cases d with
 |non=>rw[cz.mp r1];cases e with
  |non=>rw[cz.mp r2];rfl
  |bl _=>rw[aS.mp r2];rfl
  |int _=>rw[af.mp r2];rfl
  |str _=>rw[aV.mp r2];rfl
  |tup _=>cases f2
  |lst _=>cases f2
  |fn _ _=>cases f2
  |obj _ _ _=>cases f2
 |bl _=>rw[aS.mp r1];cases e with
  |non=>rw[cz.mp r2];rfl
  |bl _=>rw[aS.mp r2];rfl
  |int _=>rw[af.mp r2];rfl
  |str _=>rw[aV.mp r2];rfl
  |tup _=>cases f2
  |lst _=>cases f2
  |fn _ _=>cases f2
  |obj _ _ _=>cases f2
 |int _=>rw[af.mp r1];cases e with
  |non=>rw[cz.mp r2];rfl
  |bl _=>rw[aS.mp r2];rfl
  |int _=>rw[af.mp r2];rfl
  |str _=>rw[aV.mp r2];rfl
  |tup _=>cases f2
  |lst _=>cases f2
  |fn _ _=>cases f2
  |obj _ _ _=>cases f2
 |str _=>rw[aV.mp r1];cases e with
  |non=>rw[cz.mp r2];rfl
  |bl _=>rw[aS.mp r2];rfl
  |int _=>rw[af.mp r2];rfl
  |str _=>rw[aV.mp r2];rfl
  |tup _=>cases f2
  |lst _=>cases f2
  |fn _ _=>cases f2
  |obj _ _ _=>cases f2
 |_=>cases f1
theorem HB{x:D}{v:V}{H:Hp}(rx:c6 Γ H x v)(fx:flat x=true):∀{ds:List D}{xs:List V},RepL Γ H ds xs->ds.all flat=true->xs.all lC=true/\Lv v xs=F0 x ds
 |[],xs,h,_=>by rw[bR.mp h];exact⟨rfl,rfl⟩
 |d::ds,xs,h,f=>by
  obtain⟨y,r,rfl,q,t⟩:=aw.mp h;rw[ZR,VJ] at f;obtain⟨i1,i2⟩:=HB rx fx t f.2;refine⟨by rw[ZR,Eu q f.1,i1];rfl,?_⟩
  show(F1 y v || Lv v r)=(Mo d x || F0 x ds);rw[Lb q rx f.1 fx,i2]
def EG{neg:Bool}{d1 d2:D}{r:R}{Hs H:Hp}{x y:V}{Q:VK}(hK:X.K=Γ.K)(sm:aM Hs H)(r1:c6 Γ Hs d1 x)(r2:c6 Γ Hs d2 y)(e:GN neg d1 d2=some r)(q:RQ Γ W Hs H r Q):M7 X.K neg x y H Q:=by
 have fin:∀(ds:List D)(p:Vp)(xs:List V),y=.ref p->(iA X.K H p xs\/iy X.K H p xs)->RepL Γ Hs ds xs->(if flat d1=true/\ds.all flat=true then okB (if neg then !F0 d1 ds else F0 d1 ds) else none)=some r->M7 X.K neg x y H Q:=λds p xs ey hq rl e=>by
  obtain⟨⟨h1,h2⟩,rfl⟩:=bz e;obtain⟨i1,i2⟩:=HB r1 h1 rl h2;refine⟨p,xs,ey,hq,Eu r1 h1,i1,?_⟩;rw[i2];exact dE sm q (aS.mpr rfl)
 cases d2 with
 |tup ds=>obtain⟨p,xs,ey,sq,rl⟩:=aX.mp r2;exact fin ds p xs ey (.inr (by rw[hK];exact bj sm sq)) rl e
 |lst ds=>obtain⟨p,xs,ey,sq,rl⟩:=b6.mp r2;exact fin ds p xs ey (.inl (by rw[hK];exact aM.seq sm sq)) rl e
 |_=>cases e
def yl(hK:X.K=Γ.K):hU X (compareOp .In) (rD Γ W (GN false)):=λpins s σ H x y v u Q I rx ry ⟨Hs,d1,d2,r,sm,r1,r2,e,q⟩=>Bm pins s σ H x y v u Q I rx ry (EG hK sm r1 r2 e q)
def oh(n d:Nat)(o:Option Int):HT.sIx n d o=me n d o:=by cases o <;> rfl
def xy{H:Hp}{ds:List D}{xs:List V}(rl:RepL Γ H ds xs)(lo hi:Option Int):RepL Γ H (Ca ds lo hi) (xx xs lo hi):=by
 unfold Ca xx;rw[oh,oh,<-rl.length];exact(rl.drop _).take _
def Ik(Γ:Ct)(W:XW):V->Option Int->Option Int->Hp->VK->Prop:=λv lo hi H Q=>∃Hs d r,aM Hs H/\c6 Γ Hs d v/\uT d lo hi=some r/\RQ Γ W Hs H r Q
def MY(hK:X.K=Γ.K):Lz X (Ik Γ W):=λpins s σ H x v vl vu lo hi sl Q I rx hs pl pu t'=>by
 obtain⟨Hs,d,r,sm,rp,e,q⟩:=t';cases d with
 |tup ds=>
  obtain⟨a,xs,rfl,sq,rl⟩:=aX.mp rp;have e':(if me ds.length 0 lo=0/\me ds.length ds.length hi=ds.length then none else okD (.tup (Ca ds lo hi)))=some r:=e;by_cases hw:me ds.length 0 lo=0/\me ds.length ds.length hi=ds.length
  ·rw[QH hw] at e';cases e'
  ·rw[QI hw] at e';cases e';exact Ia pins s σ H _ v vl vu lo hi sl Q I rx hs pl pu ⟨a,xs,rfl,by rw[hK];exact bj sm sq,by rw[oh,oh,<-rl.length];exact hw,λp hp=>u6 sm q (xy rl lo hi) hp⟩
 |lst ds=>
  obtain⟨a,xs,rfl,sq,rl⟩:=b6.mp rp;cases e;exact Fw pins s σ H _ v vl vu lo hi sl Q I rx hs pl pu ⟨a,xs,rfl,by rw[hK];exact aM.seq sm sq,λp hp=>kR sm q (xy rl lo hi) hp⟩
 |_=>cases e
def tP(Γ:Ct)(W:XW)(o:Option ME):TO:=match o with
 |none=>zK
 |some g=>He (tD Γ W g)
abbrev LA(X:Cx)(Γ:Ct)(W:XW)(e:Option Vt)(o:Option ME):Prop:=PO X e (tP Γ W o)
def p7:LA X Γ W none none:=FR
def p6{e:Vt}{g:ME}(h:PD X Γ W e g):LA X Γ W (some e) (some g):=FQ h
theorem sf{o:Option ME}{B0 B1 Hs H:Hp}{σ:L2.St}{ρ:aJ}{k:Option Int->Option R}{r:R}{Q:VK}(re:RE Γ B0 B1 Hs H σ ρ)(e:A5 o ρ k=some r)(q:RQ Γ W Hs H r Q){Q':Option Int->Hp->Prop}
  (h:∀i H1 Hs1,Grow Hs H Hs1 H1->RE Γ B0 B1 Hs1 H1 σ ρ->k i=some r->RQ Γ W Hs1 H1 r Q->Q' i H1):tP Γ W o σ H Q':=by
 cases o with
 |none=>exact h none H Hs (.refl re.b.i) re e q
 |some g=>
  have e':b0 (g ρ) (λd=>match d with|.int i=>k (some i)|_=>none)=some r:=e
  refine(bW re e' q).mono λv H1 t'=>?_;obtain⟨Hs1,d,g1,re1,rp,e1,q1⟩:=t';cases d with
  |int i=>exact⟨i,af.mp rp,h (some i) H1 Hs1 g1 re1 e1 q1⟩
  |non=>cases e1
  |bl _=>cases e1
  |str _=>cases e1
  |tup _=>cases e1
  |lst _=>cases e1
  |fn _ _=>cases e1
  |obj _ _ _=>cases e1
def pf{e:Vt}{g:ME}{lo hi:Option Vt}{gl gh:Option ME}{pos p2:Pos}(hK:X.K=Γ.K)(he:PD X Γ W e g)(hl:LA X Γ W lo gl)(hh:LA X Γ W hi gh):PD X Γ W (.Subscript e (.Slice lo hi none p2) pos) (g9 g gl gh):=
 PE.imp (Dk (MY hK) he hl hh) λ_ _ σ H Q _ t'=>by
  obtain⟨B0,B1,Hs,ρ,r,re,e,q⟩:=t';refine(bW re e q).mono λv H1 t'=>?_;obtain⟨Hs1,d,g1,re1,rp,e1,q1⟩:=t';refine sf re1 e1 q1 λl H2 Hs2 g2 re2 e2 q2=>?_;refine sf re2 e2 q2 λu H3 Hs3 g3 re3 e3 q3=>?_;exact⟨Hs3,d,r,re3.b.i,(rp.mono g2.s).mono g3.s,e3,q3⟩
end
end L3
namespace L2
abbrev Cr(xs:Array Nat):Prop:=xs.toList.Pairwise (· < ·)
def oi{xs:Array Nat}(h:Cr xs){i k:Nat}(hik:i<k)(hk:k<xs.size):xs[i]'(by omega)<xs[k]:=by
 have:=W2.mp h i k (by simpa using(by omega:i<xs.size)) (by simpa using hk) hik
 simpa using this
theorem qr{xs:Array Nat}(h:Cr xs)(j:Nat):∀(fuel lo hi:Nat),lo<=hi->hi<=xs.size->hi - lo<=fuel->(∀i (hi':i<xs.size),i<lo->xs[i]<j)->(∀i (hi':i<xs.size),hi<=i->j<=xs[i])->
  SetTable.below.go xs j fuel lo hi<=xs.size/\(∀i (hi':i<xs.size),i<SetTable.below.go xs j fuel lo hi->xs[i]<j)/\∀i (hi':i<xs.size),SetTable.below.go xs j fuel lo hi<=i->j<=xs[i]
 |0,lo,hi,h1,h2,h3,h4,h5=>by
  have e:lo=hi:=by omega
  subst e;exact⟨h2,h4,h5⟩
 |fuel+1,lo,hi,h1,h2,h3,h4,h5=>by
  unfold SetTable.below.go;by_cases hl:lo<hi
  ·rw[QH hl];have m1:lo<=(lo+hi) / 2:=by omega
   have m2:(lo+hi) / 2<hi:=by omega
   generalize (lo+hi) / 2=m at m1 m2;have hm:m<xs.size:=QZ m2 h2;have hg:xs.getD (m) j=xs[m]:=by simp[hm]
   dsimp only;rw[hg];by_cases hc:xs[m]<j
   ·rw[QH hc];refine qr h j fuel _ _ (by omega) h2 (by omega) (λi hi' hlt=>?_) h5
    by_cases e:i=m
    ·subst e;exact hc
    ·exact YY (oi h (by omega) hm) hc
   ·rw[QI hc];refine qr h j fuel _ _ (by omega) (by omega) (by omega) h4 (λi hi' hle=>?_)
    by_cases e:i=m
    ·subst e;omega
    ·have:=oi h (show m<i by omega) hi';omega
  ·rw[QI hl];have e:lo=hi:=by omega
   subst e;exact⟨h2,h4,h5⟩
def jP{xs:Array Nat}(h:Cr xs)(j:Nat):SetTable.below xs j<=xs.size/\(∀i (hi':i<xs.size),i<SetTable.below xs j->xs[i]<j)/\∀i (hi':i<xs.size),SetTable.below xs j<=i->j<=xs[i]:=by
 unfold SetTable.below;exact qr h j xs.size 0 xs.size (VA _) (QO _) (by omega) (λ_ _ z=>absurd z (Nat.not_lt_zero _)) (λi hi' z=>absurd hi' (by omega))
def zy{xs:Array Nat}(h:Cr xs):SetTable.below xs 0=0:=by
 obtain⟨h1,h2,_⟩:=jP h 0;by_cases e:SetTable.below xs 0=0
 ·exact e
 ·have:=h2 0 (by omega) (by omega)
  omega
def zz{xs:Array Nat}(h:Cr xs){i:Nat}(hi:i<xs.size):SetTable.below xs (xs[i]+1)=i+1:=by
 obtain⟨h1,h2,h3⟩:=jP h (xs[i]+1);by_cases l:SetTable.below xs (xs[i]+1)<=i
 ·have:=h3 i hi l;omega
 ·by_cases e:SetTable.below xs (xs[i]+1)=i+1
  ·exact e
  ·have hi1:i+1<xs.size:=by omega
   have a:=h2 (i+1) hi1 (by omega)
   have b:=oi h (i:=i) (k:=i+1) (by omega) hi1
   omega
def lA{α:Type}(xs:Array α)(p:Nat)(x:α)(hp:p<=xs.size):(SetTable.insertAt xs p x).toList=xs.toList.take p++x::xs.toList.drop p:=by
 unfold SetTable.insertAt;simp[Array.toList_extract];rw[Zt (by simp)]
def iH{α:Type}(xs:Array α)(p:Nat)(x:α)(hp:p<=xs.size):(SetTable.insertAt xs p x).toList.Perm (x::xs.toList):=by
 rw[lA xs p x hp];refine List.perm_middle.trans ?_;rw[VP]
def lz{α:Type}(xs:Array α)(p:Nat)(x:α)(hp:p<=xs.size):(SetTable.insertAt xs p x).size=xs.size+1:=by
 rw[<-QL,(iH xs p x hp).length_eq];simp
structure Tb(t:SetTable)(m:Nat):Prop where
 mask:t.mask=7
 dum:t.dummies=#[]
 plain:t.plain=true
 size:t.place.size=m
 rise:Cr t.place
 le:∀j∈t.place.toList,j<=7
theorem Tb.fits{t:SetTable}{m:Nat}(T:Tb t m)(hm:m<=7):t.fits m=true:=by
 unfold SetTable.fits SetTable.fill;rw[T.size,T.dum,T.mask];simp;omega
def Tb.notFull{t:SetTable}{m:Nat}(T:Tb t m)(hm:m<=4):t.tooFull=false:=by
 unfold SetTable.tooFull SetTable.fill;rw[T.size,T.dum,T.mask];simp;omega
theorem Tb.slot{t:SetTable}{m:Nat}(T:Tb t m)(j:Nat):(t.slot j=.empty/\j∉t.place.toList)\/(∃i,t.slot j=.live i)/\j∈t.place.toList:=by
 unfold SetTable.slot;dsimp only;by_cases h:(t.place[SetTable.below t.place j]? == some j)=true
 ·rw[QH h];have e:t.place[SetTable.below t.place j]?=some j:=WE h;rw[<-VO] at e;exact .inr ⟨⟨_,rfl⟩,ZF e⟩
 ·rw[QI h];have hd:SetTable.has t.dummies j=false:=by rw[T.dum];rfl
  rw[QI (by rw[hd];exact QC)]
  refine .inl ⟨rfl,λhm=>h ?_⟩;obtain⟨i,hi,e⟩:=Z2 hm;have hi':i<t.place.size:=by simpa using hi
  have e':t.place[i]=j:=by simpa using e
  obtain⟨h1,h2,h3⟩:=jP T.rise j;have hb:SetTable.below t.place j=i:=by
   by_cases l:SetTable.below t.place j<=i
   ·by_cases l2:SetTable.below t.place j=i
    ·exact l2
    ·have hlt:SetTable.below t.place j<t.place.size:=by omega
     have a:=h3 _ hlt (QO _);have b:=oi T.rise (show SetTable.below t.place j<i by omega) hi'
     omega
   ·have:=h2 i hi' (by omega);omega
  rw[hb,QW hi',e'];exact WL _
def zx{h:Int}(h0:0<=h)(h1:h<32):SetTable.bits h=h.toNat:=by
 unfold SetTable.bits;rw[Int.emod_eq_of_lt h0 (by omega)]
def GC{l:List Nat}{a b c d:Nat}(hl:l.length<=3)(h1:a∈l)(h2:b∈l)(h3:c∈l)(h4:d∈l)(n:[a,b,c,d].Nodup):False:=by
 have hs:[a,b,c,d] ⊆ l:=by
  intro x hx;simp at hx;rcases hx with rfl|rfl|rfl|rfl <;> assumption
 have:=YQ n hs;simp at this;omega
def Tb.free{t:SetTable}{m:Nat}(T:Tb t m)(hm:m<=3){h:Int}(h0:0<=h)(h1:h<32):∃j,t.freeSlot h=some (j,false)/\j<=7/\j∉t.place.toList:=by
 obtain⟨n,rfl⟩:∃n:Nat,h=n:=⟨h.toNat,by omega⟩
 have hb:SetTable.bits (n:Int)=n:=by rw[zx h0 h1];rfl
 have hn:n<32:=by omega
 have hl:t.place.toList.length<=3:=by rw[QL,T.size];exact hm
 have run:∀(i:Nat),SetTable.runEnd t.mask i=i\/7<i:=λi=>by
  unfold SetTable.runEnd;rw[T.mask];by_cases q:i+9<=7
  ·omega
  ·rw[QI q];exact .inl rfl
 have hrun:∀i,SetTable.runEnd t.mask i - i=0:=λi=>by
  unfold SetTable.runEnd;rw[T.mask,QI (by omega)]
  omega
 have adv:∀(i p:Nat),p / 32=0->t.advance ⟨i,0,i,p,none⟩=⟨(i * 5+1) % 8,0,(i * 5+1) % 8,0,none⟩:=λi p hp=>by
  unfold SetTable.advance SetTable.leap;rw[QI (Wo 0)];dsimp only;rw[hp,hrun,T.mask]
 have step:∀(fuel i p:Nat),p / 32=0->(∃r,SetTable.probe.go t (λ_=>(n:Int)+1) n (fuel+1) ⟨i,0,i,p,none⟩=some r/\r=.empty i none/\i∉t.place.toList)\/(i∈t.place.toList/\SetTable.probe.go t (λ_=>(n:Int)+1) n (fuel+1) ⟨i,0,i,p,none⟩=SetTable.probe.go t (λ_=>(n:Int)+1) n fuel ⟨(i * 5+1) % 8,0,(i * 5+1) % 8,0,none⟩):=λfuel i p hp=>by
  rcases T.slot i with⟨e,ni⟩|⟨⟨k,e⟩,hi⟩
  ·refine .inl ⟨.empty i none,?_,rfl,ni⟩;unfold SetTable.probe.go;dsimp only;rw[e]
  ·refine .inr ⟨hi,?_⟩
   conv=>lhs;unfold SetTable.probe.go
   dsimp only;rw[e];dsimp only;rw[QI (by simp;omega),adv i p hp]
 have hps:t.probeStart (n:Int)=⟨n % 8,0,n % 8,n,none⟩:=by
  unfold SetTable.probeStart;dsimp only;rw[hb,hrun,T.mask]
 have fin:∀{j:Nat}{r:SetTable.Met},j<8->SetTable.probe.go t (λ_=>(n:Int)+1) n (10 * SetTable.turns t.mask) ⟨n % 8,0,n % 8,n,none⟩=some r->r=.empty j none->j∉t.place.toList->∃j,t.freeSlot (n:Int)=some (j,false)/\j<=7/\j∉t.place.toList:=λ{j r} hj e er nj=>by
  refine⟨j,?_,YH hj,nj⟩;unfold SetTable.freeSlot SetTable.probe;rw[hps,e,er];rfl
 have hf:10 * SetTable.turns t.mask=216+1+1+1+1:=by unfold SetTable.turns;rw[T.mask]
 rw[hf] at fin;have h8:n % 8<8:=Y8 _ (by decide)
 rcases step (216+1+1+1) (n % 8) n (by omega) with⟨r,e,er,nj⟩|⟨i1,e1⟩
 ·exact fin h8 e er nj
 rcases step (216+1+1) ((n % 8 * 5+1) % 8) 0 rfl with⟨r,e,er,nj⟩|⟨i2,e2⟩
 ·exact fin (Y8 _ (by decide)) (e1.trans e) er nj
 rcases step (216+1) (((n % 8 * 5+1) % 8 * 5+1) % 8) 0 rfl with⟨r,e,er,nj⟩|⟨i3,e3⟩
 ·exact fin (Y8 _ (by decide)) ((e1.trans e2).trans e) er nj
 rcases step 216 ((((n % 8 * 5+1) % 8 * 5+1) % 8 * 5+1) % 8) 0 rfl with⟨r,e,er,nj⟩|⟨i4,e4⟩
 ·exact fin (Y8 _ (by decide)) (((e1.trans e2).trans e3).trans e) er nj
 exact(GC hl i1 i2 i3 i4 ((by decide:∀m<8,[m,(m * 5+1) % 8,((m * 5+1) % 8 * 5+1) % 8,(((m * 5+1) % 8 * 5+1) % 8 * 5+1) % 8].Nodup) _ h8)).elim
theorem Tb.put{t:SetTable}{m:Nat}(T:Tb t m){j:Nat}(hj:j<=7)(nj:j∉t.place.toList):Tb (t.put j).1 (m+1)/\(t.put j).2<=m/\(t.put j).1.led=t.led:=by
 obtain⟨h1,h2,h3⟩:=jP T.rise j;have hd:SetTable.has t.dummies j=false:=by rw[T.dum];rfl
 have hz:SetTable.below t.place j<=m:=by rw[<-T.size];exact h1
 unfold SetTable.put;dsimp only;rw[QI (by rw[hd];exact QC)]
 refine⟨⟨T.mask,T.dum,T.plain,?_,?_,λk hk=>?_⟩,hz,rfl⟩
 ·show(SetTable.insertAt t.place (SetTable.below t.place j) j).size=_;rw[lz _ _ _ h1,T.size]
 ·show(SetTable.insertAt t.place (SetTable.below t.place j) j).toList.Pairwise (· < ·);rw[lA _ _ _ h1];refine VL.mpr ⟨VY (Xc _ _) T.rise,Wl.mpr ⟨λk hk=>?_,VY (YI _ _) T.rise⟩,λa ha b hb=>?_⟩
  ·obtain⟨i,hi,e⟩:=Z2 hk;rw[Xe] at e;rw[Ws,QL] at hi;have a:=h3 (SetTable.below t.place j+i) (by omega) (by omega)
   have e':t.place[SetTable.below t.place j+i]'(by omega)=k:=by simpa using e
   have:k≠j:=λz=>nj (by rw[<-z];exact ZG hk)
   omega
  ·obtain⟨i,hi,e⟩:=Z2 ha;rw[YJ] at e;rw[We,QL] at hi;have a1:=h2 i (by omega) (by omega)
   have e':t.place[i]'(by omega)=a:=by simpa using e
   rcases V1.mp hb with rfl|hb
   ·omega
   ·obtain⟨i2,hi2,e2⟩:=Z2 hb;rw[Xe] at e2;rw[Ws,QL] at hi2;have a2:=h3 (SetTable.below t.place j+i2) (by omega) (by omega)
    have e3:t.place[SetTable.below t.place j+i2]'(by omega)=b:=by simpa using e2
    omega
 ·have hk':k∈(SetTable.insertAt t.place (SetTable.below t.place j) j).toList:=hk;have:=(iH _ _ j h1).mem_iff.mp hk';rcases V1.mp this with rfl|z
  ·exact hj
  ·exact T.le k z
def Tb.lay{t:SetTable}{m:Nat}(T:Tb t m)(hm:m<=3){h:Int}(h0:0<=h)(h1:h<32)(es:Array (Int×Vn))(he:es.size=m)(x:Vn):∃es' t',layNew t es h x=(es',t',false,false)/\Tb t' (m+1)/\t'.led=t.led/\es'.toList.Perm ((h,x)::es.toList)/\es'.size=m+1:=by
 obtain⟨j,ej,hj,nj⟩:=T.free hm h0 h1;obtain⟨T',hp,hled⟩:=T.put hj nj;have hsz:(SetTable.insertAt es (t.put j).2 (h,x)).size=m+1:=by rw[lz _ _ _ (by omega),he]
 have hfit:=T'.fits (by omega)
 refine⟨SetTable.insertAt es (t.put j).2 (h,x),(t.put j).1,?_,T',hled,iH _ _ _ (by omega),hsz⟩
 unfold layNew;rw[ej];dsimp only;rw[hsz,hfit];unfold SetTable.orStandIn;rw[hfit];rfl
theorem sd{α:Type}(next:Nat->Nat):∀(fuel k:Nat)(left:List α)(out:Array α),left.length=fuel->(pickOrder.go next fuel k left out).toList.Perm (out.toList++left)
 |0,k,left,out,h=>by
  have:left=[]:=ZY.mp h;subst this;unfold pickOrder.go;simp
 |fuel+1,k,left,out,h=>by
  unfold pickOrder.go;have hlt:next k % left.length<left.length:=Y8 _ (by omega)
  rw[QB hlt];dsimp only;refine(sd next fuel (k+1) _ _ (by rw[List.length_eraseIdx_of_lt hlt];omega)).trans ?_
  rw[toList_push,V4];refine WB _ ?_;have e:left=left.take (next k % left.length)++left[next k % left.length]::left.drop (next k % left.length+1):=by
   rw[<-W1 hlt,VP]
  rw[List.eraseIdx_eq_take_drop_succ]
  conv=>rhs;rw[e]
  rw[List.singleton_append];exact List.perm_middle.symm
def p9{α:Type}(next:Nat->Nat)(xs:Array α):(pickOrder next xs).toList.Perm xs.toList:=by
 have:=sd next xs.size 0 xs.toList #[] (by simp)
 simpa [pickOrder] using this
inductive EsK:List (Int×Vn)->List Int->Prop
 |nil:EsK [] []
 |cons (k:Int) (tk:Tok) {es ks}:EsK es ks->EsK ((hashInt k,.int k tk)::es) (k::ks)
theorem EsK.length{es:List (Int×Vn)}{ks:List Int}(h:EsK es ks):es.length=ks.length:=by
 induction h with
 |nil=>rfl
 |cons k tk _ ih=>rw[QS,QS,ih]
def EsK.perm{es es':List (Int×Vn)}(p:es'.Perm es):∀{ks:List Int},EsK es ks->∃ks',EsK es' ks'/\ks'.Perm ks:=by
 have q:=p.symm;clear p
 induction q with
 |nil=>intro ks h;cases h;exact⟨[],.nil,.refl _⟩
 |cons x _ ih=>
  intro ks h;cases h with
  |cons k tk t=>obtain⟨ks',e,p⟩:=ih t;exact⟨k::ks',.cons k tk e,p.cons k⟩
 |swap x y l=>
  intro ks h;cases h with
  |cons k tk t=>cases t with
   |cons k2 tk2 t2=>exact⟨k2::k::_,.cons k2 tk2 (.cons k tk t2),List.Perm.swap _ _ _⟩
 |trans _ _ ih1 ih2=>
  intro ks h;obtain⟨k1,e1,p1⟩:=ih1 h;obtain⟨k2,e2,p2⟩:=ih2 e1;exact⟨k2,e2,p2.trans p1⟩
def EsK.elems{prog:Vq}{w:Vr}{es:List (Int×Vn)}{ks:List Int}(h:EsK es ks):ElemsOf (intKind prog w) es:=by
 induction h with
 |nil=>intro e he;cases he
 |cons k tk _ ih=>
  intro e he;rcases V1.mp he with rfl|he
  ·exact⟨⟨k,by simp[intKind,Value.isInt],rfl⟩,rfl⟩
  ·exact ih e he
def EsK.find{es:List (Int×Vn)}{ks:List Int}(h:EsK es ks)(k:Int):(es.findIdx? λe=>Value.isInt k e.2).isSome=decide (k∈ks):=by
 induction h with
 |nil=>rfl
 |cons k' tk _ ih=>
  rw[List.findIdx?_cons];by_cases e:k=k'
  ·subst e;simp[Value.isInt]
  ·have:Value.isInt k (Value.int k' tk)=false:=by simp[Value.isInt,W8 e,e]
   simp only[this];rw[QI QC,Option.isSome_map,ih];simp[e]
def EsK.ints{es:List (Int×Vn)}{ks:List Int}(h:EsK es ks):IntsAre (es.map (·.2)) ks:=by
 induction h with
 |nil=>exact .nil
 |cons k tk _ ih=>exact .cons k tk ih
def SetX(w:Vr)(h:Vs)(a:Vp)(ks:List Int):Prop:=∃o es ep t ks',h.get? a=some o/\o.ExactSet/\o.data=.set es ep t/\EsK es.toList ks'/\ks'.Perm ks/\Tb t es.size/\t.led=!w.params.followText "set-order"
def SetX.at{w:Vr}{h h':Vs}{a:Vp}{ks:List Int}(S:SetX w h a ks)(k:∀o,h.get? a=some o->h'.get? a=some o):SetX w h' a ks:=by
 obtain⟨o,es,ep,t,ks',ho,r⟩:=S;exact⟨o,es,ep,t,ks',k o ho,r⟩
def Eh:∀n:Fin 32,hashInt ((n.val:Nat):Int)=((n.val:Nat):Int):=by decide +kernel
def pY{k:Int}(h0:0<=k)(h1:k<32):hashInt k=k:=by
 have h:=Eh ⟨k.toNat,by omega⟩
 rwa[show(((⟨k.toNat,by omega⟩:Fin 32).val:Nat):Int)=k from Y1 h0] at h
section
variable{prog:Vq}{w:Vr}{A:Vv}{E:Vn->Vo->Prop}{s:Vo}
theorem D3{a:Vp}{ks:List Int}{k:Int}{tk:Tok}{Q:Bool->Vo->Prop}(S:SetX w s.heap a ks)(h0:0<=k)(h1:k<32)(hl:ks.length<=4)(hl2:k∉ks->ks.length<=3)
  (h:∀h' b,Heap.SameBut a s.heap h'->SetX w h' a (if k∈ks then ks else k::ks)->Q b {s with heap:=h',toks:=s.toks+1}):wpAny (model prog w) A (setAdd a (.int k tk)) Q E s:=by
 obtain⟨o,es,ep,t,ks',ho,hex,hd,hes,hp,T,hled⟩:=S;have hsz:es.size=ks.length:=by rw[<-QL,hes.length,hp.length_eq]
 have hf:=T.fits (by omega)
 have hel:ElemsOf (intKind prog w) es.toList:=hes.elems;have hkey:(intKind prog w).is k (.int k tk)=true:=by simp[intKind,Value.isInt]
 unfold setAdd;refine Wt (QA ((intKind prog w).pyHash hkey ?_));unfold setAddHashed setAddHashedIn;refine Wt (QA (wpAny_setState_of ho hd hf ?_));dsimp only;rw[byScan_of (knd:=intKind prog w) rfl (by unfold scanBound;omega) hel,QH rfl]
 unfold setAddByScan;refine QA (QA (WH (QA (wpAny_setScan_of (s:={s with toks:=s.toks+1}) hkey ho hd hf hel ?_))));have hfi:=hes.find k;have hfi':∀r,es.toList.findIdx? (λe=>(intKind prog w).is k e.2)=r->r.isSome=decide (k∈ks'):=λr e=>by rw[<-e];exact hfi
 have hmem:k∈ks'↔k∈ks:=hp.mem_iff;cases hr:es.toList.findIdx? (λe=>(intKind prog w).is k e.2) with
 |some j=>
  have hk:k∈ks:=hmem.mp (by have:=hfi' _ hr;simpa using this.symm)
  dsimp only;refine QD (QD (h s.heap false (Heap.SameBut.refl a s.heap) ?_));rw[QH hk];exact⟨o,es,ep,t,ks',ho,hex,hd,hes,hp,T,hled⟩
 |none=>
  have hk:k∉ks:=λz=>by have:=hfi' _ hr;rw[QV (hmem.mpr z)] at this;cases this
  have h3:=hl2 hk;obtain⟨es',t',el,T',hl',hpm,hsz'⟩:=T.lay (by omega) (h:=hashInt k) (by rw[pY h0 h1];exact h0) (by rw[pY h0 h1];exact h1) es rfl (.int k tk)
  have el':layNew t es ((intKind prog w).hash k) (.int k tk)=(es',t',false,false):=el;dsimp only;rw[el'];dsimp only;refine QA ?_;show wpAny _ _ (pure ()) _ _ _;refine QD ?_;rw[T'.plain,QH rfl,hashByValue_scannable 8 rfl];refine QA (QD ?_);rw[QH (show plainKind (Value.int k tk)=true from rfl)];refine QA (wpAny_storeSet_of (s:={s with toks:=s.toks+1}) ho hd ?_ (by rw[hsz',WC];omega))
  rw[T'.notFull (by omega)]
  simp only[Bool.not_false,Xj,Wa,Zv];refine QD (QD (h _ true (ZM s.heap a (Obj.putSet es' t')) ?_));rw[QI hk];obtain⟨ks2,e2,p2⟩:=EsK.perm hpm (.cons k tk hes);have hg:(s.heap.update a (Obj.putSet es' t')).get? a=some {o with data:=.set es' (ep+1) t'}:=by
   have z:=WJ (Obj.putSet es' t') ho (by rw[putSet_of es' t' hd];rfl)
   rw[putSet_of es' t' hd] at z;exact z
  exact⟨_,es',ep+1,t',ks2,hg,hex,rfl,e2,p2.trans (hp.cons k),by rw[hsz'];exact T',by rw[hl'];exact hled⟩
end
structure GZ(prog:Vq)(w:Vr)(ns:List Int)(SY:Vs->Vp->List Int->Prop):Prop where
 stay:∀{h h':Vs}{a:Vp}{ks:List Int},SY h a ks->(∀o,h.get? a=some o->h'.get? a=some o)->SY h' a ks
 there:∀{h:Vs}{a:Vp}{ks:List Int},SY h a ks->∃o,h.get? a=some o
 fresh:∀{h:Vs}{a:Vp},h.get? a=some {cls:=.type "set",dict:=none,data:=.set #[] 0 (.fresh 0 0 (!w.params.followText "set-order"))}->SY h a []
 add:∀{A:Vv}{E:Vn->Vo->Prop}{s:Vo}{a:Vp}{ks:List Int}{k:Int}{tk:Tok}{Q:Bool->Vo->Prop},SY s.heap a ks->k∈ns->ks.length<ns.length->
  (∀h' b,Heap.SameBut a s.heap h'->SY h' a (if k∈ks then ks else k::ks)->Q b {s with heap:=h',toks:=s.toks+1})->wpAny (model prog w) A (setAdd a (.int k tk)) Q E s
section
variable{prog:Vq}{w:Vr}{A:Vv}{E:Vn->Vo->Prop}{s:Vo}{SY:Vs->Vp->List Int->Prop}
def FA{n l:Nat}(h:l<n):∀b∈[n+1,l],b≠n:=λb hb=>by simp at hb;omega
theorem AZ{R:Result->Vo->Prop}{S I:Vp}{fp:List Vp}{St:Nat->Vs->Prop}{items:Array Vn}{ns:List Int}(W:Walks prog w A.in1 I fp [I] items.size (λi v=>items[i]?=some v) St)(hfp:∀b∈fp,b≠S)(hSI:S≠I)(hi:IntsAre items.toList ns)(G:GZ prog w ns SY):
  ∀(k i:Nat)(s:Vo)(ks:List Int),items.size - i=k->i<=items.size->St i s.heap->SY s.heap S ks->ks.length<=i->(∀n,n∈ks↔n∈ns.take i)->ks.Nodup->
   (∀h' tk ks',(∀b o,b≠S->b≠I->s.heap.get? b=some o->h'.get? b=some o)->SY h' S ks'->(∀n,n∈ks'↔n∈ns)->ks'.Nodup->R (.ok (.ret .none)) {s with heap:=h',toks:=tk})->
   codeAny (model prog w) A (.builtin "set.update.loop" ⟨[.ref S,.ref I],[]⟩) R s:=by
 have hlen:items.size=ns.length:=by rw[<-QL];exact hi.length
 intro k
 induction k with
 |zero=>
  intro i s ks hk hile st S1 hkl hm nd hR;obtain rfl:i=items.size:=by omega
  refine Zj Y2 ?_;rw[WV WQ _];refine QA (m:=pyNext (.ref I)) (W.done s _ _ st λh' tk kp=>?_);refine QD (hR h' tk ks (λb o _ hb e=>kp b o (by simpa using hb) e) (G.stay S1 λo e=>kp S o (by simpa using hSI) e) (λn=>?_) nd)
  rw[hm n,hlen,Z8]
 |succ k ih=>
  intro i s ks hk hile st S1 hkl hm nd hR;have hlt:i<items.size:=by omega
  refine Zj Y2 ?_;rw[WV WQ _];refine QA (m:=pyNext (.ref I)) (W.item i s _ _ hlt st λv h' tk hv st' kp=>?_);obtain⟨t,rfl⟩:=PyProof.Rows.IntsAre.int_at hi i v (by rw[VO];exact hv)
  have hmem:ns.getD i 0∈ns:=by rw[Wb,QB (by omega)];exact VM _
  have S2:SY h' S ks:=G.stay S1 λo e=>kp S o (by simpa using hSI) e
  refine QA (m:=holding _ _) (Wt (G.add (s:={s with heap:=h',toks:=tk}) S2 hmem (by omega) λh2 b sb S3=>?_))
  refine QD ⟨Yn WQ _,ih (i+1) _ _ (by omega) hlt (W.frame _ _ _ st' λb hb o e=>sb.extBut b o (hfp b hb) e) S3 ?_ ?_ ?_ λh3 tk3 ks3 kp3 S4 m4 n4=>?_⟩
  ·split
   ·omega
   ·rw[QS];omega
  ·intro n;have htake:ns.take (i+1)=ns.take i++[ns.getD i 0]:=by
    rw[List.take_add_one,QB (by omega),Wb,QB (by omega)]
    rfl
   rw[htake,VQ,V3,<-hm n];split
   ·rename_i hin;constructor
    ·exact .inl
    ·rintro (z|rfl)
     ·exact z
     ·exact hin
   ·rw[V1,or_comm]
  ·split
   ·exact nd
   ·rename_i hin;exact YR.mpr ⟨hin,nd⟩
  ·refine hR h3 tk3 ks3 (λb o hb1 hb2 e=>kp3 b o hb1 hb2 (sb.extBut b o hb1 (kp b o (by simpa using hb2) e))) S4 m4 n4
def D2(a:Vn){Q₁:Vn->Vo->Prop}(h:Q₁ (.ref s.heap.objs.size) {s with heap:=s.heap.push {cls:=.type "set",dict:=none,data:=.set #[] 0 (.fresh 0 0 (!w.params.followText "set-order"))}}):
  codeAny (model prog w) A (.call (.builtin "set.__new__") ⟨[.type "set",a],[]⟩) (wants Q₁ E) s:=by
 refine codeAny_of_tree (QA (m:=checkBuiltinCall "set.__new__" ⟨[.type "set",a],[]⟩) (Wn (PySem.F.newCall_set_1 a) (QD ⟨Yn PySem.F.plain_set_new _,Zj PySem.F.entry_set_new ?_⟩)));rw[WV PySem.F.plain_set_new _];unfold Builtin.«set.__new__» Builtin.Frozenset.newClass;have hsub:=sub_set_self;obtain⟨hp,g,d,tk,os⟩:=s;dsimp only;wp_walk;refine Z5 (QD ?_);dsimp only;simp only[newObj];exact QA (wpAny_alloc (QD (QD h)))
set_option maxHeartbeats 4000000 in
theorem Cd{l:Vp}{items:Array Vn}{ns:List Int}{Q:Vn->Vo->Prop}(hh:A.handled=none)(hl:s.heap.IsList l items)(hi:IntsAre items.toList ns)(G:GZ prog w ns SY)
  (h:∀(h':Vs)(tk:Nat)(ks:List Int),SY h' s.heap.objs.size ks->(∀n,n∈ks↔n∈ns)->ks.Nodup->(∀b o,s.heap.get? b=some o->h'.get? b=some o)->Q (.ref s.heap.objs.size) {s with heap:=h',toks:=tk}):
  wpAny (model prog w) A (call (.type "set") [.ref l]) Q E s:=by
 obtain⟨c,tl,hmro⟩:=Wi.mro;have hmade:=Wi.made;have hsub:=Wi.sub;refine wpAny_call (codeAny_of_tree ?_);show wpAny _ _ (callAny (.type "set") _) _ _ _;refine QD ⟨Code.quiet_builtin _ (by decide +kernel),Zj PySem.F.entry_type_call ?_⟩
 rw[Around.under_plain (weight_type_call_type "set" [.ref l] []) rfl];have h1:=Wi.notType;have h2:=Wi.canCreate;have hct:=PySem.F.typeCall_set_1 (.ref l)
 repeat (any_goals (first|assumption|wp_step))
 generalize hO:({cls:=.type "set",dict:=none,data:=.set #[] 0 (.fresh 0 0 (!w.params.followText "set-order"))}:Obj)=O0;refine WD (D2 (.ref l) (E:=E) (Q₁:=λobj s₁=>obj=.ref s.heap.objs.size/\s₁={s with heap:=s.heap.push O0}) (by rw[hO];exact⟨rfl,rfl⟩)) λr s₁ hr1=>?_
 cases r with
 |error e=>exact hr1
 |ok fl=>cases fl with
  |ret obj=>
   obtain⟨rfl,rfl⟩:=hr1;have hS:(s.heap.push O0).get? s.heap.objs.size=some O0:=QT _ (by rw[<-hO];rfl)
   have hT:Shared.TypeIs {s with heap:=s.heap.push O0} (.ref s.heap.objs.size) "set" := ⟨_,hS,by rw[<-hO]⟩
   have hli:=Wi.init.lookup;have hbi:=Wi.init.bind (.ref s.heap.objs.size)
   repeat (any_goals (first|assumption|wp_step))
   refine WD (codeAny_call_builtin (R:=wants (λr s₂=>r=.none/\∃h' tk ks,s₂={s with heap:=h',toks:=tk}/\SY h' s.heap.objs.size ks/\(∀n,n∈ks↔n∈ns)/\ks.Nodup/\∀b o,s.heap.get? b=some o->h'.get? b=some o) E) Wi.init.plain PySem.F.entry_set_init (check_set_init_1 hT ?_)) λr₂ s₂ hr₂=>?_
   ·obtain⟨⟨oc,od,odt,osl⟩,hol,hcl,nl,hdl⟩:=hl
    replace hcl:oc=.type "list" := hcl
    replace hdl:odt=.seq items nl:=hdl
    subst hcl hdl;have hol':(s.heap.push O0).get? l=some _:=QF _ hol;have hsls:=PySem.F.sub_list_set;have hslf:=PySem.F.sub_list_frozenset;have hne:(Value.type "list" == Value.type "dict")=false:=by decide
    have hl1:(s.heap.push O0).IsList l items:=⟨_,hol',rfl,nl,rfl⟩;have hlS:l<s.heap.objs.size:=Vx hol;have hS0:(s.heap.push O0).get? s.heap.objs.size=some {cls:=.type "set",dict:=none,data:=.set #[] 0 (.fresh 0 0 (!w.params.followText "set-order"))}:=by rw[hO];exact hS
    unfold Builtin.«set.__init__» noKeywords Builtin.Frozenset.updateFrom;generalize hPI:pyIter=PI;subst hO;wp_walk;subst hPI;refine Yk hl1 (QA (wpAny_runValue ?_));have n1:(s.heap.push {cls:=.type "set",dict:=none,data:=.set #[] 0 (.fresh 0 0 (!w.params.followText "set-order"))}).objs.size=s.heap.objs.size+1:=ZL ..;have hit:((s.heap.push {cls:=.type "set",dict:=none,data:=.set #[] 0 (.fresh 0 0 (!w.params.followText "set-order"))}).push {cls:=.type "list_iterator",data:=.fields #[.ref l,.int 0 0]}).get? (s.heap.objs.size+1)=some {cls:=.type "list_iterator",data:=.fields #[.ref l,.int 0 0]}:=by rw[<-n1];exact QT _ rfl
    rw[n1];refine AZ (Walks.list (prog:=prog) (w:=w) (by simp[hh]) (s.heap.objs.size+1) l (V7 (WI hlS)) items) (FA hlS) (V7 (Wz _)) hi G (items.size - 0) 0 _ [] rfl (VA _) ⟨⟨_,hit,rfl,rfl⟩,hl1.push _⟩ (G.fresh (QF _ hS0)) (QO _) (λn=>by simp) .nil λh' tk ks kp S1 m1 nd=>?_
    refine QD (QD ⟨rfl,h',tk,ks,rfl,S1,m1,nd,λb o e=>?_⟩);have hb:=Vx e;exact kp b o (V7 hb) (V7 (WI hb)) (QF _ (QF _ e))
   ·cases r₂ with
    |error e=>exact hr₂
    |ok fl₂=>cases fl₂ with
     |ret r=>
      obtain⟨rfl,h',tk,ks,rfl,S1,m1,nd,kp⟩:=hr₂
      repeat (any_goals (first|assumption|wp_step))
      exact h _ _ ks S1 m1 nd kp
     |_=>exact hr₂.elim
  |_=>exact hr1.elim
end
def y7{w:Vr}{h:Vs}{a:Vp}(e:h.get? a=some {cls:=.type "set",dict:=none,data:=.set #[] 0 (.fresh 0 0 (!w.params.followText "set-order"))}):SetX w h a []:=
 ⟨_,#[],0,_,[],e,⟨rfl,rfl,rfl⟩,rfl,.nil,.refl _,⟨rfl,rfl,rfl,rfl,.nil,λj hj=>by cases hj⟩,rfl⟩
def Ib{prog:Vq}{w:Vr}{ns:List Int}(hr:∀n∈ns,0<=n/\n<32)(h4:ns.length<=4):GZ prog w ns (SetX w) where
 stay:=SetX.at
 there:=λ⟨o,_,_,_,_,e,_⟩=>⟨o,e⟩
 fresh:=y7
 add:=λS hk hl h=>D3 S (hr _ hk).1 (hr _ hk).2 (by omega) (λ_=>by omega) h
def iO:Slot "set_iterator" "__next__" "set_iterator.__next__" := .of (owner := "set_iterator") (n := "__next__") (by rw[Wq,VS];kernel_rfl) (by decide +kernel) (by decide +kernel) (by decide +kernel) (by first|exact .inl (by decide +kernel)|exact .inr (by decide +kernel)) (by rw[Wy];kernel_rfl)
def xt:entryFor table "set_iterator.__next__" = some Builtin.«set_iterator.__next__»:=Xs (by kernel_rfl)
def zi:entryFor table "set.__iter__" = some Builtin.«frozenset.__iter__»:=entryFor_alias (id' := "frozenset.__iter__") (by kernel_rfl) rfl (by decide +kernel) (by kernel_rfl)
def xJ(a:Vn):argsOk "set_iterator.__next__" ⟨[a],[]⟩:=by unfold argsOk;kernel_rfl
def nV(h:Vs)(a:Vp)(es:Array (Int×Vn))(ep:Nat)(t:SetTable):Prop:=∃o,h.get? a=some o/\o.ExactSet/\o.data=.set es ep t
def gT(w:Vr)(a:Vp)(es:Array (Int×Vn))(ep:Nat):Array (Int×Vn):=if w.params.followText "set-order" = true then pickOrder (w.params.setOrder a ep) es else es
def pB(w:Vr)(a:Vp)(es:Array (Int×Vn))(ep:Nat):(gT w a es ep).toList.Perm es.toList:=by
 unfold gT;split
 ·exact p9 _ _
 ·exact .refl _
def markOf(w:Vr)(t:SetTable)(i:Nat):Nat:=if w.params.followText "set-order" = true then 0 else if i=0 then 0 else t.place.getD (i - 1) 0+1
abbrev sv(a:Vp)(slot i n ep:Nat):Obj:={cls:=.type "set_iterator",dict:=none,data:=.fields #[rawInt slot,rawInt i,.ref a,rawInt n,rawInt ep],slots:=#[]}
section
variable{prog:Vq}{w:Vr}{A:Vv}{E:Vn->Vo->Prop}{s:Vo}{a it:Vp}{es:Array (Int×Vn)}{ep:Nat}{t:SetTable}
def nV.state(S:nV s.heap a es ep t)(hf:t.fits es.size=true){Q:(Array (Int×Vn)×Nat×SetTable)->Vo->Prop}(h:Q (es,ep,t) s):wpAny (model prog w) A (setState a) Q E s:=by
 obtain⟨o,ho,_,hd⟩:=S;exact wpAny_setState_of ho hd hf h
theorem B2{Q:Vn->Vo->Prop}(S:nV s.heap a es ep t)(T:Tb t es.size)(hm:es.size<=4)(h:Q (.ref s.heap.objs.size) {s with heap:=s.heap.push (sv a 0 0 es.size ep)}):wpAny (model prog w) A (pyIter (.ref a)) Q E s:=by
 have hf:=T.fits (by omega)
 obtain⟨o,ho,hex,hd⟩:=id S;have hT:s.TypeIs (.ref a) "set" := ⟨o,ho,hex.1⟩;refine Xk hT PySem.F.slot_set_iter (VD PySem.F.slot_set_iter hT zi ?_ (PySem.F.args_set_iter_1 _));unfold Builtin.«frozenset.__iter__»;rw[show Builtin.Frozenset.slot0 "__iter__" ⟨[.ref a],[]⟩=pure a from rfl];refine QA (QD (QA (m:=Builtin.Frozenset.sizeOf a) ?_));unfold Builtin.Frozenset.sizeOf setEntries;refine QA (QA (S.state hf (QD (QD (QA (m:=setDrawn a) ?_)))));unfold setDrawn setsByText;refine QA (S.state hf ?_);dsimp only;refine QA (QA (Z5 (QD (QD ?_))));show wpAny _ _ (if(!w.params.followText "set-order" && (!t.plain && decide (es.size > 1)))=true then _ else _) _ _ _;rw[T.plain,QI (by simp)]
 refine QA (QD (QA (m:=setEpoch a) ?_));unfold setEpoch;refine QA (S.state hf (QD (QA (m:=newFields _ _) ?_)));unfold newFields;refine VE (QD ⟨_,rfl,"set_iterator",_,⟨_,QT _ rfl,rfl⟩,iO.lookup,h⟩) (by size_fits)
theorem yI(T:Tb t es.size)(hw:w.params.followText "set-order" = false){i:Nat}(hi:i<=es.size):SetTable.below t.place (markOf w t i)=i:=by
 unfold markOf;rw[QI (by rw[hw];exact QC)]
 by_cases h0:i=0
 ·subst h0;rw[QH rfl];exact zy T.rise
 ·rw[QI h0];have hlt:i - 1<t.place.size:=by rw[T.size];omega
  have:=zz T.rise hlt;rw[Xf,QW hlt,Option.getD_some,this];omega
theorem zR{Q:Option (Vn×Nat)->Vo->Prop}{i:Nat}(S:nV s.heap a es ep t)(T:Tb t es.size)(hm:es.size<=4)(hled:t.led=!w.params.followText "set-order")(hi:i<=es.size)
  (h:Q ((gT w a es ep)[i]?.map λe=>(e.2,markOf w t (i+1))) s):wpAny (model prog w) A (setNext a (markOf w t i) i ep) Q E s:=by
 have hf:=T.fits (by omega)
 unfold setNext setsByText;refine QA (S.state hf ?_);dsimp only;refine QA (QA (Z5 (QD ?_)));cases hw:w.params.followText "set-order" with
 |true=>
  show wpAny _ _ (if w.params.followText "set-order" = true then _ else _) _ _ _;rw[QH hw];simp only[ZN,Wa,Zv];unfold setWalk setsByText;refine QA (QA (S.state hf ?_));dsimp only;refine QA (QA (Z5 (QD ?_)));show wpAny _ _ (if w.params.followText "set-order" = true then _ else _) _ _ _;rw[QH hw];refine QA (Z5 (QD (QD ?_)));have e1:gT w a es ep=pickOrder (w.params.setOrder a ep) es:=by unfold gT;rw[QH hw]
  have e2:∀j,markOf w t j=0:=λj=>by unfold markOf;rw[QH hw]
  rw[e1,e2] at h;rw[e2];exact h
 |false=>
  show wpAny _ _ (if w.params.followText "set-order" = true then _ else _) _ _ _;rw[QI (by rw[hw];exact QC)]
  show wpAny _ _ (if(!t.plain && decide (es.size > 1))=true then _ else _) _ _ _;rw[T.plain,QI (by simp)]
  refine QA ?_;show wpAny _ _ (if(!t.led && !es.isEmpty)=true then _ else _) _ _ _;rw[hled,hw,QI (by simp)]
  refine QD (QD ?_);rw[yI T hw hi];have e1:gT w a es ep=es:=by unfold gT;rw[QI (by rw[hw];exact QC)]
  rw[e1] at h;by_cases hlt:i<es.size
  ·have hp:i<t.place.size:=by rw[T.size];exact hlt
   rw[QW hlt] at h ⊢;rw[QW hp];have e2:markOf w t (i+1)=t.place[i]+1:=by
    unfold markOf;rw[QI (by rw[hw];exact QC),QI (by omega),ZA,Xf,QW hp,Option.getD_some]
   rw[e2] at h;exact h
  ·rw[W9 (by omega)] at h ⊢
   exact h
def pA:(gT w a es ep).size=es.size:=by rw[<-QL,(pB w a es ep).length_eq,QL]
theorem AY{Q:Option Vn->Vo->Prop}{i:Nat}{v:Vn}(S:nV s.heap a es ep t)(T:Tb t es.size)(hm:es.size<=4)(hled:t.led=!w.params.followText "set-order")(hit:s.heap.get? it=some (sv a (markOf w t i) i es.size ep))(hi:i<es.size)(hv:((gT w a es ep)[i]?.map (·.2))=some v)
  (h:∀h',h'.get? it=some (sv a (markOf w t (i+1)) (i+1) es.size ep)->Heap.SameBut it s.heap h'->Q (some v) {s with heap:=h'}):wpAny (model prog w) A (pyNext (.ref it)) Q E s:=by
 have hf:=T.fits (by omega)
 have hT:s.TypeIs (.ref it) "set_iterator" := ⟨_,hit,rfl⟩;unfold pyNext;refine QA (WK (VU (name:=Str.ofString "__next__") hT iO (VD iO hT xt ?_ (xJ _))));unfold Builtin.«set_iterator.__next__»;rw[show slotArgs "__next__" 0 ⟨[.ref it],[]⟩=pure (.ref it,[]) from rfl];refine QA (QD (QA (wpAny_fieldsOf hit rfl ?_)));show wpAny _ _ (setEntries a >>= _) _ _ _;unfold setEntries;refine QA (QA (S.state hf (QD ?_)));show wpAny _ _ (if(((es.size:Nat):Int) != ((es.size:Nat):Int))=true then _ else _) _ _ _;rw[QI (by simp)]
 show wpAny _ _ (setNext a ((markOf w t i:Nat):Int).toNat ((i:Nat):Int).toNat ((ep:Nat):Int).toNat >>= _) _ _ _;rw[VH,VH,VH];refine QA (zR S T hm hled (by omega) ?_)
 cases ho:(gT w a es ep)[i]? with
 |none=>rw[ho] at hv;cases hv
 |some e=>
  rw[ho] at hv;cases hv;show wpAny _ _ (setField (.ref it) 0 (rawInt ((markOf w t (i+1):Nat):Int)) >>= _) _ _ _;refine QA (YZ hit (by simp) λh1 i1 s1=>?_)
  refine QA (YZ (s:={s with heap:=h1}) i1 (by simp) λh2 i2 s2=>?_)
  exact QD ⟨_,rfl,QD (h h2 i2 (s1.trans s2))⟩
theorem B3{Q:Option Vn->Vo->Prop}(hh:A.handled=none)(S:nV s.heap a es ep t)(T:Tb t es.size)(hm:es.size<=4)(hled:t.led=!w.params.followText "set-order")(hit:s.heap.get? it=some (sv a (markOf w t es.size) es.size es.size ep))
  (h:∀h',Heap.ExtBut it s.heap h'->Q none {s with heap:=h'}):wpAny (model prog w) A (pyNext (.ref it)) Q E s:=by
 have hf:=T.fits (by omega)
 have hT:s.TypeIs (.ref it) "set_iterator" := ⟨_,hit,rfl⟩;unfold pyNext;refine QA (WK (VU (name:=Str.ofString "__next__") hT iO (VD iO hT xt ?_ (xJ _))));unfold Builtin.«set_iterator.__next__»;rw[show slotArgs "__next__" 0 ⟨[.ref it],[]⟩=pure (.ref it,[]) from rfl];refine QA (QD (QA (wpAny_fieldsOf hit rfl ?_)));show wpAny _ _ (setEntries a >>= _) _ _ _;unfold setEntries;refine QA (QA (S.state hf (QD ?_)));show wpAny _ _ (if(((es.size:Nat):Int) != ((es.size:Nat):Int))=true then _ else _) _ _ _;rw[QI (by simp)]
 show wpAny _ _ (setNext a ((markOf w t es.size:Nat):Int).toNat ((es.size:Nat):Int).toNat ((ep:Nat):Int).toNat >>= _) _ _ _;rw[VH,VH,VH];refine QA (zR S T hm hled (QO _) ?_);rw[W9 (by rw[pA];exact QO _)]
 show wpAny _ _ (setField (.ref it) 2 Value.none >>= _) _ _ _;refine QA (YZ hit (by simp) λh1 i1 s1=>?_)
 refine QA ?_;simp only[newExc,newTuple];refine QA (VE ?_ (by size_fits))
 refine QA (m:=firstArgMember _ _) (Wn (a:=Value.none) (by first|rfl|(simp only[firstArgMember];rfl)) ?_);refine VE ?_ (by size_fits);simp only[raiseNew]
 refine QA (wpAny_handled ?_);first|rw[show A.in1.handled=none from hh]|rw[hh]
 refine QA (QD (wpAny_throw ?_));refine QA (Zb (T := "StopIteration") (b:=true) ⟨_,QT _ rfl,rfl⟩ isSubtype_stop ?_);exact QD (h _ ((s1.extBut.push _).push _))
end
def rT:Slot "set_iterator" "__iter__" "set_iterator.__iter__" := .of (owner := "set_iterator") (n := "__iter__") (by rw[Wq,VS];kernel_rfl) (by decide +kernel) (by decide +kernel) (by decide +kernel) (by first|exact .inl (by decide +kernel)|exact .inr (by decide +kernel)) (by rw[Wy];kernel_rfl)
def BX:entryFor table "set_iterator.__iter__" = some Builtin.«dict_keyiterator.__iter__»:=entryFor_alias (id' := "dict_keyiterator.__iter__") (by kernel_rfl) rfl (by decide +kernel) (by kernel_rfl)
def Cn(a:Vn):argsOk "set_iterator.__iter__" ⟨[a],[]⟩:=by unfold argsOk;kernel_rfl
section
variable{prog:Vq}{w:Vr}{A:Vv}{E:Vn->Vo->Prop}{s:Vo}{a:Vp}{es:Array (Int×Vn)}{ep:Nat}{t:SetTable}
def nV.at{h h':Vs}(S:nV h a es ep t)(k:∀o,h.get? a=some o->h'.get? a=some o):nV h' a es ep t:=by
 obtain⟨o,ho,r⟩:=S;exact⟨o,k o ho,r⟩
theorem xR(hh:A.handled=none)(T:Tb t es.size)(hm:es.size<=4)(hled:t.led=!w.params.followText "set-order")(it:Vp)(ne:a≠it):
  Walks prog w A it [it,a] [it] es.size (λi v=>((gT w a es ep)[i]?.map (·.2))=some v) (λi h=>h.get? it=some (sv a (markOf w t i) i es.size ep)/\nV h a es ep t) where
 sub:=λb hb=>by rw[V3.mp hb];simp
 frame:=λi h h' st k=>⟨k it (by simp) _ st.1,st.2.at λo e=>k a (by simp) o e⟩
 item:=λi s Q E hi st hQ=>by
  have hlt:i<(gT w a es ep).size:=by rw[pA];exact hi
  refine AY (v:=(gT w a es ep)[i].2) st.2 T hm hled st.1 hi (by rw[QW hlt];rfl) λh' i1 sb=>?_
  exact hQ _ h' s.toks (by rw[QW hlt];rfl) ⟨i1,st.2.at λo e=>sb.extBut _ _ ne e⟩ λb o hb e=>sb.extBut b o (by simpa using hb) e
 done:=λs Q E st hQ=>B3 hh st.2 T hm hled st.1 λh' kp=>hQ h' s.toks λb o hb e=>kp b o (by simpa using hb) e
 self:=λi s Q E st h=>by
  have hT:s.TypeIs (.ref it) "set_iterator" := ⟨_,st.1,rfl⟩;refine Xk hT rT (VD rT hT BX (QD ⟨_,rfl,"set_iterator",_,hT,iO.lookup,h⟩) (Cn _))
theorem Ef(hT:s.TypeIs (.ref a) "set"){Q:Bool->Vo->Prop}(h:Q false s):wpAny (model prog w) A (Builtin.List.listLengthHint (.ref a)) Q E s:=by
 unfold Builtin.List.listLengthHint;refine QA (Zk hT PySem.F.slot_set_len.lookup ?_);generalize hid:("set.__len__" : Vw)=id0;wp_delta;rw[show splitId id0=some ("set","__len__") from by subst hid;decide +kernel];subst hid
 refine QA (Zb (T := "set") (b:=true) hT (by rw[Wy];kernel_rfl) (ZJ (λhab=>absurd hab (by decide)) (λ_=>ZJ (λ_=>?_) (λhab=>absurd (by decide +kernel) hab))))
 exact QA (wpAny_typeOf hT (QD h))
theorem E4(T:Tb t es.size)(hm:es.size<=4)(hled:t.led=!w.params.followText "set-order"):KdlSrc prog w "set" a a es.size (λi v=>((gT w a es ep)[i]?.map (·.2))=some v) (λh=>nV h a es ep t) where
 type:=λs S=>by obtain⟨o,ho,hex,_⟩:=S;exact⟨o,ho,hex.1⟩
 there:=λh S=>by obtain⟨o,ho,_⟩:=S;exact⟨Vx ho,Vx ho⟩
 keep:=λh h' S k=>S.at λo e=>k a (.inl rfl) o e
 notList:=by decide
 notTuple:=by decide
 hint:=λA E s Q S hq=>by obtain⟨o,ho,hex,_⟩:=S;exact Ef ⟨o,ho,hex.1⟩ hq
 iter:=λA s hh S=>by
  have hlt:a<s.heap.objs.size:=by obtain⟨o,ho,_⟩:=S;exact Vx ho
  refine⟨sv a 0 0 es.size ep,_,λE Q hq=>B2 S T hm hq,xR hh T hm hled _ (V7 hlt),?_,S.at λo e=>QF _ e⟩;have:markOf w t 0=0:=by unfold markOf;split <;> rfl
  rw[this];exact QT _ rfl
def uO{es es':List Vn}(p:es'.Perm es):∀{ks:List Int},IntsAre es ks->∃ks',IntsAre es' ks'/\ks'.Perm ks:=by
 have q:=p.symm;clear p
 induction q with
 |nil=>intro ks h;cases h;exact⟨[],.nil,.refl _⟩
 |cons x _ ih=>
  intro ks h;cases h with
  |cons k tk t=>obtain⟨ks',e,p⟩:=ih t;exact⟨k::ks',.cons k tk e,p.cons k⟩
 |swap x y l=>
  intro ks h;cases h with
  |cons k tk t=>cases t with
   |cons k2 tk2 t2=>exact⟨k2::k::_,.cons k2 tk2 (.cons k tk t2),List.Perm.swap _ _ _⟩
 |trans _ _ ih1 ih2=>
  intro ks h;obtain⟨k1,e1,p1⟩:=ih1 h;obtain⟨k2,e2,p2⟩:=ih2 e1;exact⟨k2,e2,p2.trans p1⟩
theorem EJ{T:Vw}{r d:Vp}{n:Nat}{P:Nat->Vn->Prop}{OK:Vs->Prop}{R:List Vn->Vo->Prop}(K:KdlSrc prog w T r d n P OK)(hh:A.handled=none)(hok:OK s.heap)(hn:n<=sizeLine)
  (h:∀(h':Vs)(tk:Nat)(acc:Array Vn),(∀b o,s.heap.get? b=some o->h'.get? b=some o)->s.heap.objs.size<h'.objs.size->ItemsOf P acc n->R acc.toList {s with heap:=h',toks:=tk}):wpAny (model prog w) A (collect (.ref r)) R E s:=by
 obtain⟨hr,hd⟩:=K.there _ hok;unfold collect;refine QA (wpAny_runValue (Zj entry_proto_collect' ?_));rw[WV PySem.F.plain_proto_collect _];refine QA (m:=newList []) (VE (QD ⟨Yn PySem.F.plain_list_iadd _,Zj entry_list_iadd' ?_⟩));rw[WV PySem.F.plain_list_iadd _];have e0:(s.heap.push {cls:=.type "list",data:=.seq ([]:List Vn).toArray}).get? s.heap.objs.size=some {cls:=.type "list",data:=.seq #[]}:=QT _ rfl;have fin:∀(q:Result)(s':Vo),(∃(h':Vs)(tk:Nat)(acc:Array Vn)(c:Nat),q=.ok (.ret (.ref s.heap.objs.size))/\s'={s with heap:=h',toks:=tk}/\(∀b o,s.heap.get? b=some o->h'.get? b=some o)/\h'.get? s.heap.objs.size=some {cls:=.type "list",dict:=none,data:=.seq acc c,slots:=#[]}/\ItemsOf P acc n)->∃v,q=.ok (.ret v)/\wpAny (model prog w) A (match v with|.ref a=>(do match (<-load a).data with|.seq xs _=>pure xs.toList|_=>unsupported "internal:collect")|_=>unsupported "internal:collect") R E s':=by
  rintro q s' ⟨h',tk,acc,c,rfl,rfl,kp,e,it⟩
  exact⟨_,rfl,QA (wpAny_load e (QD (h h' tk acc kp (Vx e) it)))⟩
 have key:=PySem.W.kdl_extend (A:=A) (s:={s with heap:=s.heap.push {cls:=.type "list",data:=.seq ([]:List Vn).toArray}}) (R:=λq s'=>∃(h':Vs)(tk:Nat)(acc:Array Vn)(c:Nat),q=.ok (.ret (.ref s.heap.objs.size))/\s'={s with heap:=h',toks:=tk}/\(∀b o,s.heap.get? b=some o->h'.get? b=some o)/\h'.get? s.heap.objs.size=some {cls:=.type "list",dict:=none,data:=.seq acc c,slots:=#[]}/\ItemsOf P acc n)
  K hh (K.keep _ _ hok λb _ o e=>QF _ e) s.heap.objs.size (ne_of_gt hr) (ne_of_gt hd) (.ref s.heap.objs.size) 0 e0 (λh' tk acc c kp e it=>⟨h',tk,acc,c,rfl,rfl,λb o q=>kp b o (V7 (Vx q)) (QF _ q),e,it⟩) hn
 refine Z3 key (λfn s' x=>?_) (λe s' x=>by obtain⟨_,_,_,_,z,_⟩:=x;cases z)
 cases fn with
 |done f=>obtain⟨v,e,z⟩:=fin _ _ x;cases e;exact z
 |again c=>exact⟨x.1,WD x.2 λq s2 y=>by obtain⟨v,e,z⟩:=fin _ _ y;subst e;exact z⟩
theorem uX{ks:List Int}{Q:Vn->Vo->Prop}(hh:A.handled=none)(S:SetX w s.heap a ks)(hk:ks.length<=4)
  (h:∀(h':Vs)(tk:Nat)(out:List Vn)(ns:List Int)(D:Vp)(n:Nat),IntsAre out ns->ns.Perm ks->ns.Pairwise (·<=·)->(∀b o,s.heap.get? b=some o->h'.get? b=some o)->s.heap.objs.size<=D->h'.get? D=some {cls:=.type "list",data:=.seq out.toArray n}->Q (.ref D) {s with heap:=h',toks:=tk}):
  wpAny (model prog w) A (call (.builtin "sorted") [.ref a]) Q E s:=by
 obtain⟨o,es,ep,t,ks',ho,hex,hd,hes,hp,T,hled⟩:=S;have hsz:es.size=ks.length:=by rw[<-QL,hes.length,hp.length_eq]
 have S1:nV s.heap a es ep t:=⟨o,ho,hex,hd⟩;refine Yg kind_sorted plain_sorted entry_sorted (args_sorted1 _) ?_;unfold Builtin.«sorted»;refine QA (m:=checkCount "sorted" 1 1 _) (QD (QA (EJ (A:=A.in1) (E4 T (by omega) hled) hh S1 (by rw[WC];omega) λh1 tk acc kp hlt0 hacc=>?_)))
 have hperm:(acc.toList).Perm (es.toList.map (·.2)):=by
  have e:acc.toList=(gT w a es ep).toList.map (·.2):=by
   refine Yv λi=>?_;rw[Vy,VO,VO];by_cases hi:i<acc.size
   ·have:=hacc.2 i acc[i] (QW hi);rw[QW hi,this]
   ·rw[W9 (by omega),W9 (by rw[pA,<-hacc.1];omega)]
    rfl
  rw[e];exact(pB w a es ep).map _
 obtain⟨k1,hints,pk⟩:∃k1,IntsAre acc.toList k1/\k1.Perm ks:=by
  obtain⟨k1,e1,p1⟩:=uO hperm hes.ints;exact⟨k1,e1,p1.trans hp⟩
 have hal:acc.toList.length<=4:=by rw[hints.length,pk.length_eq];exact hk
 refine QA (Yo ?_ (by rw[WC];omega))
 have hoL:(h1.push {cls:=.type "list",data:=.seq acc.toList.toArray}).get? h1.objs.size=some (seqObj "list" acc.toList.toArray 0):=QT _ rfl;refine QA (Wt (VD (s:={s with heap:=h1.push {cls:=.type "list",data:=.seq acc.toList.toArray},toks:=tk}) slot_list_sort ⟨_,hoL,rfl⟩ entry_list_sort (list_sort_tree hoL hints (by omega) λout ns' i1 p2 so=>⟨_,rfl,?_⟩) (args_list_sort _)))
 obtain⟨e,he⟩:=sortedHeap_at (out:=out) hoL;have hle:s.heap.objs.size<=h1.objs.size:=W7 hlt0;refine QD ⟨_,rfl,h _ _ out.toList ns' h1.objs.size e i1 (p2.trans pk) so (λb o hb=>?_) hle (by simpa [seqObj] using he)⟩
 have hb1:=kp b o hb;have hlt:=Vx hb1;rw[sortedHeap_old (V7 hlt) (by rw[ZL];exact WI hlt)]
 exact QF _ hb1
end
section
variable{X:Cx}
def few(ns:List Int):Prop:=ns.length<=4/\∀n∈ns,0<=n/\n<32
def Kq(w:Vr)(a:Vp)(ks:List Int):HO:=.ext λh=>SetX w h a ks
def zu(hc:X.calm=true)(SY:Vs->Vp->List Int->Prop):cI X (.type "set") (λxs H Q=>∃(p:Vp)(ns:List Int),xs=[.ref p]/\iA X.K H p (ns.map V.int)/\GZ X.prog X.w ns SY/\∀(a:Vp)(ks:List Int),H a=none->(∀n,n∈ks↔n∈ns)->ks.Nodup->Q (.ref a) (cD H a (.ext λh=>SY h a ks))):=λpins s σ H xs us Q I rs ⟨p,ns,ex,sq,G,q⟩=>by
 subst ex;obtain⟨u,rfl,r2⟩:=gg rs;obtain rfl:u=Value.ref p:=r2;obtain⟨its,rv,pl,hz⟩:=I.list sq;refine Cd (I.ok.hd hc) pl.isList (by simpa using yV rv) G λh' tk ks S m nd kp=>?_
 exact⟨.ref s.heap.objs.size,_,I.laid (o:=.ext λh=>SY h s.heap.objs.size ks) (t':=tk) kp (QO _) ⟨S,G.there S,λh1 h2 S1 k=>G.stay S1 k⟩,rfl,q _ ks (I.hok.fresh (QO _)) m nd⟩
def Ce(hc:X.calm=true):cI X (.type "set") (λxs H Q=>∃(p:Vp)(ns:List Int),xs=[.ref p]/\iA X.K H p (ns.map V.int)/\few ns/\∀(a:Vp)(ks:List Int),H a=none->(∀n,n∈ks↔n∈ns)->ks.Nodup->Q (.ref a) (cD H a (Kq X.w a ks))):=
 λpins s σ H xs us Q I rs ⟨p,ns,ex,sq,fw,q⟩=>zu hc (SetX X.w) pins s σ H xs us Q I rs ⟨p,ns,ex,sq,Ib fw.2 fw.1,q⟩
theorem oB:∀{us:List Vn}{ns:List Int},IntsAre us ns->Vals (ns.map V.int) us
 |_,_,.nil=>.nil
 |_,_,.cons n t r=>.cons ⟨t,rfl⟩ (oB r)
def uY(hc:X.calm=true):cI X (.builtin "sorted") (λxs H Q=>∃(a:Vp)(ks:List Int),xs=[.ref a]/\H a=some (Kq X.w a ks)/\ks.length<=4/\∀(l:Vp)(ns:List Int),H l=none->ns.Perm ks->ns.Pairwise (·<=·)->Q (.ref l) (cD H l (.lst (ns.map V.int)))):=λpins s σ H xs us Q I rs ⟨a,ks,ex,ea,hk,q⟩=>by
 subst ex;obtain⟨u,rfl,r2⟩:=gg rs;obtain rfl:u=Value.ref a:=r2;obtain⟨S,_,_⟩:SetX X.w s.heap a ks/\_:=I.hok a _ ea;refine uX (I.ok.hd hc) S hk λh' tk out ns D n it pm so kp hD e=>?_;refine⟨.ref D,_,I.laid (o:=.lst (ns.map V.int)) (t':=tk) kp hD ⟨?_,out,n,oB it,e⟩,rfl,q D ns (I.hok.fresh hD) pm so⟩;rw[QG,pm.length_eq,WC];omega
def Cj:bootBuiltins "set" = some (.type "set"):=by decide +kernel
def jO:bootBuiltins "sorted" = some (.builtin "sorted"):=by decide +kernel
end
end L2
namespace L3
open L2
theorem insD_mem(k x:Int):∀l:List Int,x∈jF k l↔x=k\/x∈l
 |[]=>by simp[jF]
 |y::r=>by
  unfold jF;split
  ·simp
  ·split
   ·rename_i h;subst h;simp
   ·rw[V1,insD_mem k x r,V1];constructor
    ·rintro (h|h|h) <;> simp[h]
    ·rintro (h|h|h) <;> simp[h]
theorem Af(k:Int):∀l:List Int,l.Pairwise (· < ·)->(jF k l).Pairwise (· < ·)
 |[],_=>by simp[jF]
 |y::r,h=>by
  obtain⟨h1,h2⟩:=Wl.mp h;unfold jF;split
  ·rename_i hk;refine Wl.mpr ⟨λz hz=>?_,h⟩;rcases V1.mp hz with rfl|hz
   ·exact hk
   ·have:=h1 z hz;omega
  ·split
   ·exact h
   ·refine Wl.mpr ⟨λz hz=>?_,Af k r h2⟩;rcases(insD_mem k z r).mp hz with rfl|hz
    ·omega
    ·exact h1 z hz
theorem sortD_mem(x:Int):∀l:List Int,x∈gj l↔x∈l
 |[]=>by simp[gj]
 |y::r=>by
  show x∈jF y (gj r)↔_;rw[insD_mem,sortD_mem x r,V1]
theorem vJ:∀l:List Int,(gj l).Pairwise (· < ·)
 |[]=>by simp[gj]
 |y::r=>Af y _ (vJ r)
theorem sk:∀{l m:List Int},l.Pairwise (· < ·)->m.Pairwise (· < ·)->(∀x,x∈l↔x∈m)->l=m
 |[],[],_,_,_=>rfl
 |[],y::m,_,_,h=>by have:=(h y).mpr (VF);cases this
 |x::l,[],_,_,h=>by have:=(h x).mp (VF);cases this
 |x::l,y::m,h1,h2,h=>by
  obtain⟨a1,a2⟩:=Wl.mp h1;obtain⟨b1,b2⟩:=Wl.mp h2;have e:x=y:=by
   have p:=(h x).mp VF;have q:=(h y).mpr VF;rcases V1.mp p with e|p
   ·exact e
   ·rcases V1.mp q with e|q
    ·exact e.symm
    ·have:=b1 x p;have:=a1 y q;omega
  subst e;congr 1;refine sk a2 b2 λz=>⟨λhz=>?_,λhz=>?_⟩
  ·rcases V1.mp ((h z).mp (V0 _ hz)) with rfl|q
   ·have:=a1 z hz;omega
   ·exact q
  ·rcases V1.mp ((h z).mpr (V0 _ hz)) with rfl|q
   ·have:=b1 z hz;omega
   ·exact q
def AX{ns ks l:List Int}(hm:∀n,n∈ks↔n∈ns)(nd:ks.Nodup)(pm:l.Perm ks)(so:l.Pairwise (·<=·)):l=gj ns:=by
 refine sk ?_ (vJ ns) λx=>by rw[sortD_mem,<-hm,pm.mem_iff]
 have nd':l.Nodup:=pm.nodup_iff.mpr nd;have h:=List.Pairwise.and so nd';exact h.imp λ{a b} ⟨h1,h2⟩=>by omega
section
variable{X:Cx}{Γ:Ct}{W:XW}
def GD{ns:List Int}(h:fewD ns=true):few ns:=by
 unfold fewD at h;simp only[VJ,decide_eq_true_eq,YC] at h;exact⟨h.1,λn hn=>by simpa using h.2 n hn⟩
theorem u9{a:Vt}{g:ME}{p p' pos' pos:Pos}(hK:X.K=Γ.K)(hc:X.calm=true)(hg:Gl X "sorted")(hm:X.mg "sorted" = none)(hg2:Gl X "set")(hm2:X.mg "set" = none)(ha:PD X Γ W a g)
  (hs1:starEach [a] X.env=(false,eval a X.env)::starEach [] X.env:=by rfl) (hpl:(backTo pos' (starEach [] X.env)).any (·.1)=false:=by rfl)
  (hs3:starEach [.Call (.Name "set" p') [a] [] pos'] X.env=(false,eval (.Call (.Name "set" p') [a] [] pos') X.env)::starEach [] X.env:=by rfl) (hpl2:(backTo pos (starEach [] X.env)).any (·.1)=false:=by rfl):
  PD X Γ W (.Call (.Name "sorted" p) [.Call (.Name "set" p') [a] [] pos'] [] pos) (lh qi g):=
 PE.imp (iP (uY hc) hg hm jO (cA (gJ (Ce hc) hg2 hm2 Cj (cA ha dW hs1) (by decide) (by decide) hs1 hpl) dW hs3) (by decide) (by decide) hs3 hpl2) λ_ _ σ H Q _ ⟨B0,B1,Hs,ρ,r,re,e,q⟩=>by
  refine(bW re e q).mono λv H1 ⟨Hs1,d,g1,re1,rp,e1,q1⟩=>?_;cases d with
  |lst ds=>
   have e1:(intsOf ds).bind (λns=>if fewD ns=true then okL ((gj ns).map D.int) else none)=some r:=e1;cases hi:intsOf ds with
   |none=>rw[hi] at e1;cases e1
   |some ns=>
    rw[hi] at e1;obtain⟨hf,rfl⟩:=bz (c:=fewD ns=true) e1;obtain⟨b,xs,rfl,sq,rl⟩:=b6.mp rp;have ex:=rl.intsOf hi;subst ex;have fw:=GD hf;have sm:=re1.b.i;refine⟨b,ns,rfl,by rw[hK];exact aM.seq sm sq,fw,λa ks ha hm nd=>?_⟩
    refine⟨a,ks,rfl,aQ,?_,λl ms hl pm so=>?_⟩
    ·have:ks.length<=ns.length:=YQ nd λx hx=>(hm x).mp hx;have:=fw.1;omega
    ·have hl1:H1 l=none:=(bZ ha).free hl;have ems:=AX hm nd pm so;subst ems;exact q1 _ Hs1 _ (.only sm ((bZ ha).trans (bZ hl))) ⟨l,_,rfl,hl1,sm.free hl1,aQ,_,rfl,RepL.ints _⟩
  |_=>cases e1
end
theorem xk{Γ:Ct}{H:Hp}{f:Str}:∀{ns:List Str}{ds:List D}{xs:List V}{d:D},RepL Γ H ds xs->uR f ns ds=some d->∃v,(ns.zip xs).lookup f=some v/\c6 Γ H d v
 |[],ds,xs,d,_,e=>by cases ds <;> cases e
 |n::ns,[],xs,d,_,e=>by cases e
 |n::ns,d0::ds,xs,d,r,e=>by
  obtain⟨x,r',rfl,q,t⟩:=aw.mp r;unfold uR at e;rw[Y9,YD];cases h:(f == n) with
  |true=>rw[h] at e;rw[QH rfl] at e;cases e;exact⟨x,rfl,q⟩
  |false=>rw[h] at e;rw[QI QC] at e;exact xk t e
theorem g7{m:Str}:∀{ns:List Str}{xs:List V},ns.contains m=false->(ns.zip xs).lookup m=none
 |[],xs,_=>by cases xs <;> rfl
 |n::ns,[],_=>rfl
 |n::ns,x::xs,h=>by
  rw[Yl,Bool.or_eq_false_iff] at h;rw[Y9,YD,h.1];exact g7 h.2
section
variable{X:Cx}{Γ:Ct}{W:XW}{e o:Vt}{es:List Vt}{g go:ME}{gs:List ME}{f m x:Str}{p pos apos:Pos}
def yj{cs:List Vw}(hK:X.K=Γ.K)(hC:∀c∈cs,k7 Γ.K (Γ.cls c)/\cH Γ.K (Γ.cls c) f)(he:PD X Γ W e g)(hb:attributeBase e f X.env (eval e X.env)=eval e X.env:=by rfl):PD X Γ W (.Attribute e f pos) (lh (zt cs f) g):=
 PE.imp (IH he hb) λ_ _ σ H Q _ t'=>by
  obtain⟨B0,B1,Hs,ρ,r,re,e,q⟩:=t';refine(bW (k:=zt cs f) re e q).mono λv H1 t'=>?_;obtain⟨Hs1,d,g1,re1,rp,e1,q1⟩:=t';cases d with
  |obj c ns ds=>
   unfold zt at e1;by_cases hc:cs.contains c=true
   ·simp only[QH hc] at e1;cases hf:uR f ns ds with
    |none=>rw[hf] at e1;cases e1
    |some d'=>
     rw[hf] at e1;cases e1;obtain⟨a,dx,xs,rfl,ea,rl⟩:=mj.mp rp;obtain⟨v',hl,rv⟩:=xk rl hf;obtain⟨c1,c2⟩:=hC c (by simpa using hc)
     exact⟨a,_,dx,_,v',rfl,re1.b.i _ _ ea,hK▸c1,hK▸c2,hl,q1 v' Hs1 H1 (.refl re1.b.i) (fe.of rv)⟩
   ·simp only[QI hc] at e1;cases e1
  |_=>cases e1
end
def mI(P:Vq)(w:Vr)(K:Frag)(mg:Str->Option Vn)(base:Vs)(Γ:Ct)(k:Nat)(m:Str)(ps:List Str)(F:List D->Option R)(cs:List Vw):Prop:=
 ∃f fd,gf P w K mg base qA k f fd ps (Hi Γ W0 F)/\g0 K fd ps []/\∀c∈cs,k7 K (Γ.cls c)/\K1 K (Γ.cls c) m f
def xM(X:Cx)(Γ:Ct)(m:Str)(tb:Vw->Option (List D->Option R)):Prop:=
 ∀c F,tb c=some F->∃k ps cs,c∈cs/\mI X.prog X.w X.K X.mg X.base Γ k m ps F cs/\cJ k X.A
def zJ:Vw->Option (List D->Option R):=λ_=>none
def Hc(cs:List Vw)(F:List D->Option R)(t:Vw->Option (List D->Option R)):Vw->Option (List D->Option R):=λc=>if cs.contains c=true then some F else t c
section
variable{X:Cx}{Γ:Ct}{e o:Vt}{es:List Vt}{g go:ME}{gs:List ME}{f m x:Str}{p pos apos:Pos}{tb:Vw->Option (List D->Option R)}
def sW:xM X Γ m zJ:=λ_ _ h=>nomatch h
theorem oF{k:Nat}{ps:List Str}{F:List D->Option R}{cs:List Vw}(h:mI X.prog X.w X.K X.mg X.base Γ k m ps F cs)(r:cJ k X.A)(t:xM X Γ m tb):xM X Γ m (Hc cs F tb):=λc G e=>by
 unfold Hc at e;by_cases hc:cs.contains c=true
 ·rw[QH hc] at e;cases e;exact⟨k,ps,cs,by simpa using hc,h,r⟩
 ·rw[QI hc] at e;exact t c G e
theorem qh{d:D}{ρ:aJ}{r:R} (h:(match d with
 |.obj c ns ds=>if ns.contains m=true then none else(match tb c with
  |some F=>br gs ρ λvs=>F (.obj c ns ds::vs)
  |none=>none)
 |_=>none)=some r):∃c ns ds F,d=.obj c ns ds/\ns.contains m=false/\tb c=some F/\br gs ρ (λvs=>F (.obj c ns ds::vs))=some r:=by
 cases d with
 |obj c ns ds=>
  dsimp only at h;cases hn:ns.contains m with
  |true=>rw[hn,QH rfl] at h;cases h
  |false=>
   rw[hn,QI QC] at h;cases ht:tb c with
   |none=>rw[ht] at h;cases h
   |some F=>rw[ht] at h;exact⟨c,ns,ds,F,rfl,hn,ht,h⟩
 |_=>cases h
def A4{pl:Sem Bool}(T:xM X Γ m tb)(he:PD X Γ W0 o go)(ha:nz X Γ W0 (e::es) gs)
  (hst:starEach (e::es) X.env=(false,eval e X.env)::starEach es X.env:=by rfl) (hpl:(backTo pos (starEach es X.env)).any (·.1)=false:=by rfl)
  (ht:eval (.Call (.Attribute o m apos) (e::es) [] pos) X.env=(do
   let ov <-eval o X.env
   standAt apos.atName
   let (f,first) <-holding [ov] (getMethod ov m pl)
   callWith pos f first (backTo pos (starEach (e::es) X.env)) (backToKw pos (keywordEach [] X.env))):=by rfl):
  PD X Γ W0 (.Call (.Attribute o m apos) (e::es) [] pos) (jb m tb go gs):=by
 intro pins s σ H Q I ⟨B0,B1,Hs,ρ,r,re,e0,q⟩;refine methodCall_KW (pl:=pl) (dy (he pins s σ H _ I (bW re e0 q)) λu s1 ⟨x,H1,I1,rx,Hs1,d,g1,re1,rp,e1,q1⟩=>?_) ht;obtain⟨c,ns,ds,F,rfl,hn,htb,e2⟩:=qh e1;obtain⟨a,dx,xs,rfl,ea,rl⟩:=mj.mp rp;obtain rfl:u=Value.ref a:=rx;obtain⟨k,ps,cs,hc,⟨f,fd,G,hb,hcs⟩,hr⟩:=T c F htb;obtain⟨c1,c2⟩:=hcs c hc;refine pZ I1 (re1.b.i _ _ ea) c1 c2 (g7 hn) ?_;refine callWith_K (first:=[.ref a]) (h₀:=X.base) I.ok.mod.kin c2.kp (dy (ha pos pins s1 σ H1 _ I1 (l7 gs re1 e2 q1)) λus s2 ⟨vs,H2,I2,rr,Hs2,ds2,g2,re2,rps,e3,q2⟩=>⟨I2.kIn,?_⟩) hst hpl
 exact u5 (E:=E0) (dvs:=[]) (us:=.ref a::us) (vs:=.ref a::vs) G hr hb .nil pq I2 (.cons rfl rr) ⟨Hs2,.obj c ns ds::ds2,r,re2.b.i,by rw[Vz];exact .cons (rp.mono g2.s) rps,e3,q2,re2.tb⟩
def Do{pl:Sem Bool}(T:xM X Γ m tb)(he:PD X Γ W0 o go)
  (ht:eval (.Call (.Attribute o m apos) [] [] pos) X.env=(do
   let ov <-eval o X.env
   standAt apos.atName
   let (f,first) <-holding [ov] (getMethod ov m pl)
   callWith pos f first (backTo pos (starEach [] X.env)) (backToKw pos (keywordEach [] X.env))):=by rfl):
  PD X Γ W0 (.Call (.Attribute o m apos) [] [] pos) (jb m tb go []):=by
 intro pins s σ H Q I ⟨B0,B1,Hs,ρ,r,re,e0,q⟩;refine methodCall_KW (pl:=pl) (dy (he pins s σ H _ I (bW re e0 q)) λu s1 t'=>?_) ht;obtain⟨x,H1,I1,rx,Hs1,d,g1,re1,rp,e1,q1⟩:=t';obtain⟨c,ns,ds,F,rfl,hn,htb,e2⟩:=qh e1;obtain⟨a,dx,xs,rfl,ea,rl⟩:=mj.mp rp;obtain rfl:u=Value.ref a:=rx;obtain⟨k,ps,cs,hc,⟨f,fd,G,hb,hcs⟩,hr⟩:=T c F htb;obtain⟨c1,c2⟩:=hcs c hc;refine pZ I1 (re1.b.i _ _ ea) c1 c2 (g7 hn) ?_;exact PySem.W.callWith_K0 (first:=[.ref a]) I1.kIn c2.kp (u5 (E:=E0) (dvs:=[]) (us:=[.ref a]) (vs:=[.ref a]) G hr hb .nil pq I1 (.cons rfl .nil) ⟨Hs1,[.obj c ns ds],r,re1.b.i,.cons rp .nil,e2,q1,re1.tb⟩)
end
structure kJ(a:Vp)(Hs H Hs' H':Hp):Prop where
 s:aM Hs Hs'
 h:∀b o,b≠a->H b=some o->H' b=some o
 i:aM Hs' H'
 n:∀b o,Hs' b=some o->Hs b=some o\/H b=none
def Grow.x{a:Vp}{Hs H Hs' H':Hp}(g:Grow Hs H Hs' H'):kJ a Hs H Hs' H':=⟨g.s,λb o _ e=>g.h b o e,g.i,g.n⟩
theorem kJ.trans{a:Vp}{Hs H Hs1 H1 Hs2 H2:Hp}(x:kJ a Hs H Hs1 H1)(y:kJ a Hs1 H1 Hs2 H2)(ha:Hs1 a=none)(hb:∃o,H1 a=some o):kJ a Hs H Hs2 H2:=
 ⟨x.s.trans y.s,λb o hb e=>y.h b o hb (x.h b o hb e),y.i,λb o e=>by
  rcases y.n b o e with z|z
  ·exact x.n b o z
  ·by_cases hba:b=a
   ·subst hba;obtain⟨o',ho'⟩:=hb;rw[ho'] at z;cases z
   ·right;cases q:H b with
    |none=>rfl
    |some u=>rw[x.h b u hba q] at z;cases z⟩
theorem kJ.none{a:Vp}{Hs H Hs' H':Hp}(g:kJ a Hs H Hs' H'){ho:HO}(h:Hs a=Option.none)(h':H a=some ho):Hs' a=Option.none:=by
 cases q:Hs' a with
 |none=>rfl
 |some u=>
  rcases g.n a u q with z|z
  ·rw[h] at z;cases z
  ·rw[h'] at z;cases z
inductive LX(Γ:Ct)(F:ff)(vs:List V)(H:Hp)(Q:VK)(E:XK):Prop
 |mk (a:Vp) (xs:List V) (Hs:Hp) (o:O) (ho:HO) (ds:List D) (o':O) (ev:vs=.ref a::xs) (sm:aM Hs H) (hs:Hs a=none) (hh:H a=some ho) (ro:nr Γ Hs o ho) (rl:RepL Γ Hs ds xs) (e:F o ds=some o')
  (q:∀Hs' H' ho',kJ a Hs H Hs' H'->H' a=some ho'->nr Γ Hs' o' ho'->Q .non H') (tb:aM Γ.tb Hs)
structure cf(P:Vq)(w:Vr)(K:Frag)(mg:Str->Option Vn)(base:Vs)(Γ:Ct)(k:Nat)(c:Vw)(x:Str)(ps:List Str)(F:ff):Prop where
 ex:∃f fd,gf P w K mg base qA k f fd ps (LX Γ F)/\g0 K fd ps []/\keepIn K (.ref f)=true/\Mk K (Γ.cls c) f/\findCls K (.ref (Γ.cls c)) (.type "type") "__init__" = some (.val (.ref f))
 at_:mg x=some (.ref (Γ.cls c))
 sp:specialIn K (.ref (Γ.cls c)) "__getattribute__" = some (some (.builtin "type.__getattribute__"))
 rd:readsIn K (Γ.cls c) (.type "type")=true
section
variable{X:Cx}{Γ:Ct}{e o:Vt}{es:List Vt}{g go:ME}{gs:List ME}{f m x:Str}{p pos apos:Pos}{k:Nat}{c:Vw}{ps:List Str}{F:ff}
theorem zj{ds:List D}{r:R} (h:(match F (.obj c [] []) ds with
 |some o=>some (R.ok (.own o))
 |none=>none)=some r):∃o,F (.obj c [] []) ds=some o/\r=.ok (.own o):=by
 cases q:F (.obj c [] []) ds with
 |none=>rw[q] at h;cases h
 |some o=>rw[q] at h;cases h;exact⟨o,rfl,rfl⟩
theorem Ab{Hs H:Hp}{ds:List D}{vs:List V}{r:R}{Q:VK}(sm:aM Hs H)(rl:RepL Γ Hs ds vs) (e:(match F (.obj c [] []) ds with
 |some o=>some (R.ok (.own o))
 |none=>none)=some r) (q:RQ Γ W0 Hs H r Q) (tb:aM Γ.tb Hs):∀x dx,H x=none->H dx=none->dx≠x->
  LX Γ F (.ref x::(vs++[])) (cD (cD H dx (.own x)) x (.ins (Γ.cls c) dx [])) (λv H2=>v=.non/\Q (.ref x) H2) E0:=by
 intro x dx hx hd ne;obtain⟨o,eo,rfl⟩:=zj e;have hxs:Hs x=none:=sm.free hx;have hds:Hs dx=none:=sm.free hd;refine⟨x,vs,Hs,.obj c [] [],_,ds,o,by rw[Vz],λb u z=>?_,hxs,aQ,⟨dx,[],rfl,.nil⟩,rl,eo,λHs' H' ho' gx e' ro=>⟨rfl,?_⟩,tb⟩
 ·rw[az (aO z hxs),az (aO z hds)];exact sm _ _ z
 ·have g:Grow Hs H Hs' H':=⟨gx.s,λb u z=>gx.h b u (aO z hx) (by rw[az (aO z hx),az (aO z hd)];exact z),gx.i,λb u z=>by
   rcases gx.n b u z with y|y
   ·exact .inl y
   ·right;by_cases hb:b=x
    ·subst hb;exact hx
    ·rw[az hb] at y;by_cases hb':b=dx
     ·subst hb';exact hd
     ·rw[az hb'] at y;exact y⟩
  exact q (.ref x) Hs' H' g ⟨x,ho',rfl,hx,gx.none hxs aQ,e',ro⟩
def jz(h:cf X.prog X.w X.K X.mg X.base Γ k c x ps F)(hr:cJ (k+1) X.A)(hg:Gl X x)(ha:nz X Γ W0 (e::es) gs)(hdb:(x == ("__debug__":Str))=false:=by decide)(he:starEach (e::es) X.env=(false,eval e X.env)::starEach es X.env:=by rfl)
  (hpl:(backTo pos (starEach es X.env)).any (·.1)=false:=by rfl):PD X Γ W0 (.Call (.Name x p) (e::es) [] pos) (fj c F gs):=by
 obtain⟨f,fd,G,hb,_,M,_⟩:=h.ex;exact PE.imp (FV (E:=E0) (dvs:=[]) (ds:=[]) M G hr hg h.at_ hb .nil pq ha hdb he hpl) λ_ _ σ H Q _ ⟨B0,B1,Hs,ρ,r,re,e,q⟩=>by
  exact dB gs (λvs H1 ⟨Hs1,ds,_,re1,rp,e1,q1⟩=>Ab re1.b.i rp e1 q1 re1.tb) (l7 gs re e q)
def Dp(h:cf X.prog X.w X.K X.mg X.base Γ k c x ps F)(hr:cJ (k+1) X.A)(hg:Gl X x)(hdb:(x == ("__debug__":Str))=false:=by decide):PD X Γ W0 (.Call (.Name x p) [] [] pos) (fj c F []):=by
 obtain⟨f,fd,G,hb,_,M,_⟩:=h.ex;exact PE.imp (Dl (E:=E0) (dvs:=[]) (ds:=[]) M G hr hg h.at_ hb .nil pq hdb) λ_ _ σ H Q _ ⟨B0,B1,Hs,ρ,r,re,e,q⟩=>by
  exact Ab re.b.i .nil e q re.tb
end
inductive tX(Γ:Ct)(g:MG)(D:nB)(σ:L2.St)(H:Hp):Prop
 |mk (a:Vp) (B0 B1 Hs:Hp) (ρ:aJ) (o:O) (ho:HO) (o':O) (re:RE Γ B0 B1 Hs H σ ρ) (hb:B1 a=none) (no:∀(i:Nat)(u:O),ρ[i]?≠some (some (.own u))) (h0:σ[0]?=some (some (.ref a))) (hs:Hs a=none) (hh:H a=some ho) (ro:nr Γ Hs o ho) (e:g ρ o=some o')
  (q:∀Hs' H' ho',kJ a Hs H Hs' H'->H' a=some ho'->nr Γ Hs' o' ho'->D.nx σ H')
abbrev Mv(X:Cx)(Γ:Ct)(st:Vu)(g:MG):Prop:=PS X st (tX Γ g)
abbrev EW(X:Cx)(Γ:Ct)(st:List Vu)(g:MG):Prop:=qz X st (tX Γ g)
def RE.growX{Γ:Ct}{B0 B1 Hs H Hs' H':Hp}{σ:L2.St}{ρ:aJ}{a:Vp}(r:RE Γ B0 B1 Hs H σ ρ)(g:kJ a Hs H Hs' H')(hb:B1 a=none)(no:∀(i:Nat)(u:O),ρ[i]?≠some (some (.own u)))(hs:Hs a=none):RE Γ B0 B1 Hs' H' σ ρ where
 tb:=r.tb.trans g.s
 b:=⟨r.b.s.trans g.s,λb o e=>g.h b o (aO e hb) (r.b.h b o e),g.i,λb o e=>by
  rcases g.n b o e with z|z
  ·exact r.b.n b o z
  ·exact .inr (r.b.h.free z)⟩
 sh:=λi d e=>let ⟨v,e1,q⟩:=r.sh i d e;⟨v,e1,q.mono g.s⟩
 own:=λi o e=>absurd e (no i o)
 apart:=r.apart
 len:=r.len
section
variable{X:Cx}{Γ:Ct}{st:Vu}{rest:List Vu}{g h:MG}{e o:Vt}{es:List Vt}{ge:ME}{gs:List ME}{f m x y:Str}{p px pos pos' apos cpos:Pos}{k:Nat}{c:Vw}{ps:List Str}{F:ff}
def eF:EW X Γ [] jW:=qz.imp zY λD σ H ⟨a,B0,B1,Hs,ρ,o,ho,o',re,hb,no,h0,hs,hh,ro,e,q⟩=>by
 cases e;exact q Hs H ho (Grow.x (.refl re.b.i)) hh ro
def cu(h1:Mv X Γ st g)(h2:EW X Γ rest h):EW X Γ (st::rest) (eS g h):=qz.imp (w4 h1 h2) λD σ H ⟨a,B0,B1,Hs,ρ,o,ho,o',re,hb,no,h0,hs,hh,ro,e,q⟩=>by
 unfold eS at e;cases z:g ρ o with
 |none=>rw[z] at e;cases e
 |some o1=>
  rw[z] at e;refine⟨a,B0,B1,Hs,ρ,o,ho,o1,re,hb,no,h0,hs,hh,ro,z,λHs' H' ho' gx hh' ro'=>?_⟩;exact⟨a,B0,B1,Hs',ρ,o1,ho',o',re.growX gx hb no hs,hb,no,h0,gx.none hs hh,hh',ro',e,λHs2 H2 ho2 gx2 hh2 ro2=>q Hs2 H2 ho2 (gx.trans gx2 (gx.none hs hh) ⟨_,hh'⟩) hh2 ro2⟩
theorem vX{H:Hp}{y:V}{d:D}(q:c6 Γ H d y):∀{ns:List Str}{ds:List D}{xs:List V},ns.length=ds.length->RepL Γ H ds xs->∃xs',kj f y (ns.zip xs)=(putN f ns).zip xs'/\RepL Γ H (Bg f d ns ds) xs'
 |[],ds,xs,hl,r=>by
  refine⟨[y],?_,.cons q .nil⟩;cases xs <;> rfl
 |n::ns,[],xs,hl,r=>by cases hl
 |n::ns,d0::ds,xs,hl,r=>by
  obtain⟨x,r',rfl,qx,t⟩:=aw.mp r;unfold putN Bg;rw[Y9];by_cases hn:n=f
  ·rw[QH hn,QH hn];refine⟨y::r',?_,.cons q t⟩;show(if n=f then _ else _)=_;rw[QH hn];rfl
  ·rw[QI hn,QI hn];obtain⟨xs',e1,e2⟩:=vX q (Nat.succ.inj hl) t;refine⟨x::xs',?_,.cons qx e2⟩;show(if n=f then _ else _)=_;rw[QI hn,e1];rfl
def z3{cs:List Vw}{ρ:aJ}{o o':O}(h:lB cs f ge ρ o=some o'):∃s c ns ds,ge ρ=some (.ok s)/\o=.obj c ns ds/\c∈cs/\ns.length=ds.length/\ns.length<900/\o'=.obj c (putN f ns) (Bg f s.val ns ds):=by
 unfold lB at h;split at h
 ·rename_i s c ns ds e1;obtain⟨⟨h1,h2,h3⟩,h4⟩:=bz h;exact⟨s,c,ns,ds,e1,rfl,by simpa using h1,h2,h3,h4.symm⟩
 ·cases h
def p3{cs:List Vw}(hK:X.K=Γ.K)(hC:∀c∈cs,k7 Γ.K (Γ.cls c)/\cH Γ.K (Γ.cls c) f)(hv:PE X (.Name x px) (qR 0))(he:PD X Γ W0 e ge)(hs:swapsWith e (some (.Attribute (.Name x px) f pos')) pos.line X.env=pure false:=by rfl):Mv X Γ (.Assign [.Attribute (.Name x px) f pos'] e pos) (lB cs f ge):=
 PS.imp (Iy hv he hs) λ_ _ σ H En _ ⟨a,B0,B1,Hs,ρ,o,ho,o',re,hb,no,h0,hs0,hh,ro,e,q⟩=>by
  obtain⟨s,c,ns,ds,e1,rfl,hc,hl,h9,rfl⟩:=z3 e;refine⟨B0,B1,Hs,ρ,_,re,e1,λv Hs' H' g' rs=>?_⟩;obtain⟨Hs2,g2,_,rp⟩:=rs.share g';obtain⟨dx,xs,rfl,rl⟩:=ro;obtain⟨c1,c2⟩:=hC c hc;obtain⟨xs',e2,r2⟩:=vX (f:=f) rp hl (rl.mono g2.s);have hs2:Hs2 a=none:=g2.none hs0 hh;refine⟨.ref a,h0,a,_,dx,_,rfl,g2.h _ _ hh,hK▸c1,hK▸c2,?_,?_⟩
  ·rw[List.length_zip];exact Za (Xa _ _) (YY h9 (by decide))
  ·refine q Hs2 _ _ ⟨g2.s,λb u hb e=>?_,λb u e=>?_,g2.n⟩ aQ ⟨dx,xs',by rw[e2],r2⟩
   ·rw[az hb];exact g2.h _ _ e
   ·rw[az (aO e hs2)];exact g2.i _ _ e
theorem qt:∀(gs:List ME){B0 B1 Hs H:Hp}{σ:L2.St}{ρ:aJ}{ds:List D},RE Γ B0 B1 Hs H σ ρ->jN gs ρ=some ds->qu Γ W0 gs σ H (λvs H1=>∃Hs1,Grow Hs H Hs1 H1/\RepL Γ Hs1 ds vs)
 |[],B0,B1,Hs,H,σ,ρ,ds,re,e=>by
  cases e;exact⟨Hs,.refl re.b.i,.nil⟩
 |g::gs,B0,B1,Hs,H,σ,ρ,ds,re,e=>by
  unfold jN at e;split at e
  ·rename_i s hs;cases z:jN gs ρ with
   |none=>rw[z] at e;cases e
   |some ds'=>
    rw[z] at e;cases e;refine⟨B0,B1,Hs,ρ,_,re,hs,λv Hs' H' g' rs=>?_⟩;obtain⟨Hs2,g2,_,rp⟩:=rs.share g';refine dB gs (λvs H2 ⟨Hs3,g3,rl⟩=>?_) (qt gs (re.grow g2) z);exact⟨Hs3,g2.trans g3,.cons (rp.mono g3.s) rl⟩
  ·cases e
def FZ{t:TA}{pl:Sem Bool}{fa:Vp}{fd:FuncData}{sp:Sp}{C:Vp}(G:gf X.prog X.w X.K X.mg X.base qA k fa fd ps sp)(hb:g0 X.K fd ps [])(hk:keepIn X.K (.ref fa)=true)(hf:findCls X.K (.ref C) (.type "type") m=some (.val (.ref fa)))
  (hm:X.mg x=some (.ref C)) (hsp:specialIn X.K (.ref C) "__getattribute__" = some (some (.builtin "type.__getattribute__"))) (hrd:readsIn X.K C (.type "type")=true) (hr:cJ k X.A) (hg:Gl X x) (ha:PA X (e::es) t)
  (hdb:(x == ("__debug__":Str))=false:=by decide) (hst:starEach (e::es) X.env=(false,eval e X.env)::starEach es X.env:=by rfl) (hpl:(backTo pos (starEach es X.env)).any (·.1)=false:=by rfl)
  (ht:eval (.Call (.Attribute (.Name x p) m apos) (e::es) [] pos) X.env=(do
   let ov <-eval (.Name x p) X.env
   standAt apos.atName
   let (f,first) <-holding [ov] (getMethod ov m pl)
   callWith pos f first (backTo pos (starEach (e::es) X.env)) (backToKw pos (keywordEach [] X.env))):=by rfl):
  PE X (.Call (.Attribute (.Name x p) m apos) (e::es) [] pos) (Hg sp [] E0 t):=by
 intro pins s σ H Q I h;refine methodCall_KW (pl:=pl) (ou I hg hm ?_ hdb) ht;refine PySem.W.method_cls I.kIn hsp (PySem.W.cls_value I.kIn hrd hf (by rfl) ?_)
 have I1:=I.tok (s.toks+1);refine callWith_K (first:=[]) (h₀:=X.base) I.ok.mod.kin hk (dy (ha pos pins _ σ H _ I1 h) λus s2 ⟨vs,H2,I2,rr,q2⟩=>⟨I2.kIn,?_⟩) hst hpl
 exact u5 (E:=E0) (ds:=[]) (dvs:=[]) G hr hb .nil pq I2 rr q2
theorem fG{pl:Sem Bool}(h:cf X.prog X.w X.K X.mg X.base Γ k c x ps F)(hr:cJ k X.A)(hg:Gl X x)(hv:PE X (.Name y px) (qR 0))(ha:nz X Γ W0 es gs)
  (hsw:swapsWith (.Call (.Attribute (.Name x p) "__init__" apos) (.Name y px::es) [] cpos) none pos.line X.env=pure false:=by rfl)
  (hdb:(x == ("__debug__":Str))=false:=by decide) (hst:starEach (.Name y px::es) X.env=(false,eval (.Name y px) X.env)::starEach es X.env:=by rfl) (hpl:(backTo cpos (starEach es X.env)).any (·.1)=false:=by rfl)
  (ht:eval (.Call (.Attribute (.Name x p) "__init__" apos) (.Name y px::es) [] cpos) X.env=(do
   let ov <-eval (.Name x p) X.env
   standAt apos.atName
   let (f,first) <-holding [ov] (getMethod ov "__init__" pl)
   callWith cpos f first (backTo cpos (starEach (.Name y px::es) X.env)) (backToKw cpos (keywordEach [] X.env))):=by rfl):
  Mv X Γ (.Expr (.Call (.Attribute (.Name x p) "__init__" apos) (.Name y px::es) [] cpos) pos) (gm F gs):=by
 obtain⟨fa,fd,G,hb,hk,M,hf⟩:=h.ex;exact PS.imp (oj (FZ (pl:=pl) G hb hk hf h.at_ h.sp h.rd hr hg (cA hv ha hst) hdb hst hpl ht) hsw) λ_ _ σ H En _ ⟨a,B0,B1,Hs,ρ,o,ho,o',re,hb,no,h0,hs0,hh,ro,e,q⟩=>by
  unfold gm at e;cases z:jN gs ρ with
  |none=>rw[z] at e;cases e
  |some ds=>
   rw[z] at e;refine⟨.ref a,h0,dB gs (λvs H1 ⟨Hs1,g1,rl⟩=>?_) (qt gs re z)⟩;refine⟨a,vs,Hs1,o,ho,ds,o',by rw[Vz],g1.i,g1.none hs0 hh,g1.h _ _ hh,ro.mono g1.s,rl,e,λHs' H' ho' gx hh' ro'=>?_,re.tb.trans g1.s⟩
   exact q Hs' H' ho' (kJ.trans (Grow.x g1) gx (g1.none hs0 hh) ⟨_,g1.h _ _ hh⟩) hh' ro'
end
def Be{Γ:Ct}{Hs H:Hp}(sm:aM Hs H){N:List Str}{ds:List D}{vs:List V}{v0:V}(hN:0<N.length)(rl:RepL Γ Hs ds vs)(tb:aM Γ.tb Hs):RE Γ Hs Hs Hs H (L2.start N (v0::vs)) (none::dU (N.length - 1) ds):=by
 have q:=vW (Γ:=Γ) sm (N:=N.tail) rl tb;have e1:L2.start N (v0::vs)=some v0::L2.start N.tail vs:=by
  unfold L2.start;rw[Wm,QS,List.length_tail,List.cons_append];congr 3;omega
 have e2:N.tail.length=N.length - 1:=List.length_tail;rw[e2] at q;rw[e1];refine⟨⟨.refl _,sm,sm,λ_ _ z=>.inl z⟩,λi d e=>?_,λi o e=>?_,λi j o u a ij e f=>?_,by rw[QS,QS,q.len],tb⟩
 ·cases i with
  |zero=>cases e
  |succ i=>exact q.sh i d e
 ·cases i with
  |zero=>cases e
  |succ i=>
   obtain⟨a,ho,f1,f2,f3,f4,f5⟩:=q.own i o e;exact⟨a,ho,f1,sm.free f2,f3,f4,f5⟩
 ·cases i with
  |zero=>cases e
  |succ i=>
   cases j with
   |zero=>cases f
   |succ j=>exact q.apart i j o u a (λz=>ij (by rw[z])) e f
def AV(n:Nat)(ds:List D)(i:Nat)(u:O):(none::dU n ds)[i]?≠some (some (.own u)):=by
 cases i with
 |zero=>intro e;cases e
 |succ i=>
  intro e;have e:(dU n ds)[i]?=some (some (.own u)):=e;unfold dU at e;by_cases hi:i<ds.length
  ·rw[VV (by simpa using hi),Vy,QB hi] at e
   cases e
  ·rw[VR (by simpa using hi),ZU] at e
   split at e <;> cases e
def Ml{P:Vq}{w:Vr}{K:Frag}{mg:Str->Option Vn}{base:Vs}{Γ:Ct}{x qual:Str}{st:Vu}{f:Vp}{fd:FuncData}{N ps:List Str}{k:Nat}{g:MG}(F:Cs K x qual st f fd)(S:av N ps (ae st))(hN:0<N.length)
  (body:∀(cdv:Vn)(A:Vv)(outer:List PySem.Env)(s:Vo)(H:Hp)(E:XK),cJ k (A.deeper (envOfC qual (ae st) s.heap.objs.size f cdv))->EW (qm qA P w K mg base N qual (ae st) f cdv A outer s H E).nox Γ (bE st) g):
  gf P w K mg base qA (k+1) f fd ps (LX Γ (xi ps.length N.length g)):=by
 refine F.ok S (λvs H Q E ⟨a,xs,Hs,o,ho,ds,o',ev,sm,hs,hh,ro,rl,e,q,tb⟩=>?_) (λcdv A outer s H vs Q E hr ⟨a,xs,Hs,o,ho,ds,o',ev,sm,hs,hh,ro,rl,e,q,tb⟩=>?_)
 ·subst ev;unfold xi at e;obtain⟨h1,_⟩:ds.length+1=ps.length/\True:=by
   by_cases z:ds.length+1=ps.length
   ·exact⟨z,trivial⟩
   ·rw[QI z] at e;cases e
  rw[QS,<-rl.length,h1]
 ·subst ev;unfold xi at e;by_cases z:ds.length+1=ps.length
  ·rw[QH z] at e;refine⟨tX Γ g,body cdv A outer s H E hr,a,Hs,Hs,Hs,_,o,ho,o',Be sm hN rl tb,hs,AV _ _,?_,hs,hh,ro,e,q⟩;rfl
  ·rw[QI z] at e;cases e
structure mJ(K:Frag)(cls:Vw->Vp)(m qual:Str)(st:Vu)(ps:List Str)(cs:List Vw):Prop where
 ex:∃f fd,Cs K m qual st f fd/\g0 K fd ps []/\∀c∈cs,k7 K (cls c)/\K1 K (cls c) m f
structure cV(K:Frag)(mg:Str->Option Vn)(cls:Vw->Vp)(c:Vw)(x qual:Str)(st:Vu)(ps:List Str):Prop where
 ex:∃f fd,Cs K "__init__" qual st f fd/\g0 K fd ps []/\Mk K (cls c) f/\findCls K (.ref (cls c)) (.type "type") "__init__" = some (.val (.ref f))
 at_:mg x=some (.ref (cls c))
 sp:specialIn K (.ref (cls c)) "__getattribute__" = some (some (.builtin "type.__getattribute__"))
 rd:readsIn K (cls c) (.type "type")=true
section
variable{P:Vq}{w:Vr}{K:Frag}{mg:Str->Option Vn}{base:Vs}{Γ:Ct}
def mW{x qual:Str}{st:Vu}{N ps:List Str}{k:Nat}{g:MC}{cs:List Vw}(L:mJ K Γ.cls x qual st ps cs)(S:av N ps (ae st))
  (body:∀(f:Vp)(cdv:Vn)(A:Vv)(outer:List PySem.Env)(s:Vo)(H:Hp)(E:XK),cJ k (A.deeper (envOfC qual (ae st) s.heap.objs.size f cdv))->nX (qm qA P w K mg base N qual (ae st) f cdv A outer s H E).nox Γ W0 (bE st) g):
  mI P w K mg base Γ (k+1) x ps (jh ps.length N.length g) cs:=by
 obtain⟨f,fd,F,hb,hc⟩:=L.ex;exact⟨f,fd,Jv F S (body f),hb,hc⟩
def cL{x qual:Str}{c:Vw}{st:Vu}{N ps:List Str}{k:Nat}{g:MG}(L:cV K mg Γ.cls c x qual st ps)(S:av N ps (ae st))(hN:0<N.length)
  (body:∀(f:Vp)(cdv:Vn)(A:Vv)(outer:List PySem.Env)(s:Vo)(H:Hp)(E:XK),cJ k (A.deeper (envOfC qual (ae st) s.heap.objs.size f cdv))->EW (qm qA P w K mg base N qual (ae st) f cdv A outer s H E).nox Γ (bE st) g):
  cf P w K mg base Γ (k+1) c x ps (xi ps.length N.length g):=by
 obtain⟨f,fd,F,hb,hm,hf⟩:=L.ex;exact⟨⟨f,fd,Ml F S hN (body f),hb,F.kp,hm,hf⟩,L.at_,L.sp,L.rd⟩
def DZ{cls:Vw->Vp}{x qual:Str}{st:Vu}{ps:List Str}{f:Vp}{oc:Vn}{od an:Option Vp}{osl:Array (Option Vn)}{kV doc pm cdv ct:Vn}{cs:List Vw}
  (l:K.lookup f=some ⟨oc,od,.func (fnOf x qual (cj st) (bE st) (ae st) .none kV doc pm an cdv ct),osl⟩) (c:codeIn K cdv qual=true) (k:keepIn K (.ref f)=true) (i:isFn K (.ref f)=true)
  (hb:∀(kV doc pm:Vn)(an:Option Vp)(cdv ct:Vn)(us:List Vn),us.length=ps.length->bindArgs (fnOf x qual (cj st) (bE st) (ae st) .none kV doc pm an cdv ct) ⟨us,[]⟩=pure (ps.zip us))
  (hc:∀c∈cs,k7 K (cls c)/\findIn K (.ref (cls c)) x=some (some (.ref f))):mJ K cls x qual st ps cs:=
 ⟨f,_,n6 l c k,(n6 l c k).binds hb,λc h=>⟨(hc c h).1,(hc c h).2,i,k⟩⟩
def E1{h:Vs}(X:K.In h)(G:h.Ns mainGlobals mg){cls:Vw->Vp}{cn:Vw}{C:Vp}(ec:cls cn=C){x qual:Str}{st:Vu}{ps:List Str}{f:Vp}{oc:Vn}{od an:Option Vp}{osl:Array (Option Vn)}{kV doc pm cdv ct:Vn}
  (a:nsIn K mainGlobals x=some (some (.ref C))) (fi:findIn K (.ref C) "__init__" = some (some (.ref f)))
  (l:K.lookup f=some ⟨oc,od,.func (fnOf "__init__" qual (cj st) (bE st) (ae st) .none kV doc pm an cdv ct),osl⟩) (c:codeIn K cdv qual=true) (k:keepIn K (.ref f)=true) (i:isFn K (.ref f)=true)
  (mk:makesIn K C=true) (kc:keepIn K (.ref C)=true) (fc:findCls K (.ref C) (.type "type") "__init__" = some (.val (.ref f)))
  (sp:specialIn K (.ref C) "__getattribute__" = some (some (.builtin "type.__getattribute__"))) (rd:readsIn K C (.type "type")=true)
  (hb:∀(kV doc pm:Vn)(an:Option Vp)(cdv ct:Vn)(us:List Vn),us.length=ps.length->bindArgs (fnOf "__init__" qual (cj st) (bE st) (ae st) .none kV doc pm an cdv ct) ⟨us,[]⟩=pure (ps.zip us)):cV K mg cls cn x qual st ps:=by
 subst ec;exact⟨⟨f,_,n6 l c k,(n6 l c k).binds hb,⟨mk,fi,i,kc⟩,fc⟩,mg_of X G a,sp,rd⟩
end
def iw{α:Type}{p:α->Prop}:∀c∈([]:List α),p c:=λ_ h=>nomatch h
def all_cons{α:Type}{p:α->Prop}{a:α}{l:List α}(h:p a)(t:∀c∈l,p c):∀c∈a::l,p c:=λc hc=>by
 rcases V1.mp hc with rfl|h'
 ·exact h
 ·exact t c h'
def clsF:List (Vw×Vp)->Vw->Vp
 |[],_=>0
 | (c,a)::r,s=>if s=c then a else clsF r s
mutual
def Tr.val:Tr->D
 |.sh d=>d
 |.lst ts=>.lst (Tr.vals ts)
 |.ins c ns ts=>.obj c ns (Tr.vals ts)
def Tr.vals:List Tr->List D
 |[]=>[]
 |t::ts=>t.val::Tr.vals ts
end
section
variable{X:Cx}{Γ:Ct}{W:XW}
def mT(hK:X.K=Γ.K)(hu:X.A.units<cLine):hU X (compareOp .NotEq) (rD Γ W qj):=λpins s σ H x y v u Q I rx ry ⟨Hs,d1,d2,r,sm,r1,r2,e,q⟩=>by
 cases d1 with
 |lst ds=>
  cases d2 with
  |lst es=>
   cases es with
   |cons _ _=>cases e
   |nil=>
    cases e;obtain⟨a,xs,rfl,qa,la⟩:=b6.mp r1;obtain⟨b,ys,rfl,qb,lb⟩:=b6.mp r2;cases rx;cases ry;obtain rfl:=bR.mp lb;obtain⟨its,ra,pa,za⟩:=I.list (by rw[hK];exact aM.seq sm qa)
    obtain⟨its2,rb,pb,zb⟩:=I.list (by rw[hK];exact aM.seq sm qb)
    have l1:=ra.length;have l2:=rb.length;have l3:=la.length;have fin:∀c:Bool,(!ds.isEmpty)=c->EP X pins σ Q (.bool c) s:=λc hc=>by subst hc;exact⟨.bl _,H,I,rfl,dE sm q (aS.mpr rfl)⟩
    cases ds with
    |nil=>
     have h0:its=[]:=by cases its with|nil=>rfl|cons _ _=>simp at l1 l3;omega
     have h2:its2=[]:=by cases its2 with|nil=>rfl|cons _ _=>simp at l2
     subst h0 h2;exact PySem.SeqAt.RcNeAt.lists (e:=λ_=>true) pa.isList pb.isList rfl hu (λj h1 _=>absurd h1 (by simp)) X.prog X.w X.xe _ (fin _ rfl)
    |cons d ds=>
     refine PySem.SeqAt.RcNeAt.lists_lengths pa.isList pb.isList ?_ hu X.prog X.w X.xe _ (fin _ rfl);rw[QK,QK,<-l1,<-l2,<-l3];simp
  |non=>cases e
  |bl _=>cases e
  |int _=>cases e
  |str _=>cases e
  |tup _=>cases e
  |fn _ _=>cases e
  |obj _ _ _=>cases e
 |_=>cases e
def wj:hU X (binaryOp .Mult) (rD Γ W Ay):=λpins s σ H x y v u Q I rx ry ⟨Hs,d1,d2,r,sm,r1,r2,e,q⟩=>by
 cases d1 with
 |str z=>
  cases d2 with
  |int n=>
   have e':(if z.length=1/\(n=1\/n=2) then okD (.str (if n=1 then z else⟨z.cps++z.cps⟩)) else none)=some r:=e;by_cases hc:z.length=1/\(n=1\/n=2)
   ·rw[QH hc] at e';cases e';obtain rfl:=aV.mp r1;obtain rfl:=af.mp r2;obtain⟨t,rfl⟩:=rx;obtain⟨t',rfl⟩:=ry;have fin:∀(z':Str)(s':Vo)(tk:Tok),z'=(if n=1 then z else⟨z.cps++z.cps⟩)->aH X pins σ H s'->EP X pins σ Q (.str z' tk) s':=λz' s' tk hz I'=>by subst hz;exact⟨.str _,H,I',⟨tk,rfl⟩,dE sm q (aV.mpr rfl)⟩
    rcases hc.2 with rfl|rfl
    ·exact P.mul_str (by decide) (λ_ h=>absurd h (by simp)) (λ_ h=>absurd h (by simp)) (by
      rw[QI (by decide),QH (by simp)]
      exact fin z s t rfl I)
    ·refine P.mul_str (by decide) (λ_ _=>by rw[hc.1];decide) (λ_ _=>by rw[hc.1];decide) ?_
     rw[QI (by decide),QI (by rw[hc.1];decide)]
     refine⟨?_,fin _ _ _ ?_ (I.tok _)⟩
     ·have h1:z.cps.size=1:=hc.1;have h2:(List.foldl (λx1 x2:Array Nat=>x1++x2) #[] [z.cps,z.cps]).size=2:=by simp[h1]
      exact V5 (Ym h2) (by decide)
     ·show(⟨List.foldl (·++·) #[] [z.cps,z.cps]⟩:Str)=_;simp
   ·rw[QI hc] at e';cases e'
  |non=>cases e
  |bl _=>cases e
  |str _=>cases e
  |tup _=>cases e
  |lst _=>cases e
  |fn _ _=>cases e
  |obj _ _ _=>cases e
 |_=>cases e
end
def z4{A:Vv}{k:Nat}(hr:cJ k A):A.units<cLine:=Nat.lt_of_succ_lt (L6 hr)
section
variable{X:Cx}{Γ:Ct}{W:XW}{es:List Vt}{gs:List ME}{g:ME}{pos:Pos}
def cB{c j}(h:PD X Γ W (.Constant c j pos) g)(t:nz X Γ W es gs):nz X Γ W (.Constant c j pos::es) (g::gs):=c0 h t rfl
def padN{x}(h:PD X Γ W (.Name x pos) g)(t:nz X Γ W es gs):nz X Γ W (.Name x pos::es) (g::gs):=c0 h t rfl
def dG{a op b}(h:PD X Γ W (.BinOp a op b pos) g)(t:nz X Γ W es gs):nz X Γ W (.BinOp a op b pos::es) (g::gs):=c0 h t rfl
def cT{a b}(h:PD X Γ W (.Subscript a b pos) g)(t:nz X Γ W es gs):nz X Γ W (.Subscript a b pos::es) (g::gs):=c0 h t rfl
def iQ{f as ks}(h:PD X Γ W (.Call f as ks pos) g)(t:nz X Γ W es gs):nz X Γ W (.Call f as ks pos::es) (g::gs):=c0 h t rfl
def iE{xs c}(h:PD X Γ W (.Tuple xs c pos) g)(t:nz X Γ W es gs):nz X Γ W (.Tuple xs c pos::es) (g::gs):=c0 h t rfl
def M8{op a}(h:PD X Γ W (.UnaryOp op a pos) g)(t:nz X Γ W es gs):nz X Γ W (.UnaryOp op a pos::es) (g::gs):=c0 h t rfl
end
def uV:PySem.Expr->Option D
 |.Constant (.str s) _ _=>some (.str s)
 |.Constant (.int i) _ _=>some (.int i)
 |_=>none
def GH:List PySem.Expr->Option (List D)
 |[]=>some []
 |e::es=>match uV e,GH es with
  |some d,some ds=>some (d::ds)
  |_,_=>none
def Dq{X:Cx}{Γ:Ct}{W:XW}{e:PySem.Expr}{d:D}(h:uV e=some d):PD X Γ W e (eC d)/\∀es:List PySem.Expr,starEach (e::es) X.env=(false,eval e X.env)::starEach es X.env:=by
 unfold uV at h;split at h
 ·cases h;exact⟨aK,λ_=>rfl⟩
 ·cases h;exact⟨a8,λ_=>rfl⟩
 ·cases h
theorem jA{X:Cx}{Γ:Ct}{W:XW}:∀{es:List PySem.Expr}{ds:List D},GH es=some ds->nz X Γ W es (ds.map eC)
 |[],ds,h=>by cases h;exact a7
 |e::es,ds,h=>by
  unfold GH at h;cases h1:uV e with
  |none=>rw[h1] at h;cases h
  |some d=>
   cases h2:GH es with
   |none=>rw[h1,h2] at h;cases h
   |some ds'=>
    rw[h1,h2] at h;cases h;obtain⟨p,st⟩:=Dq (X:=X) (Γ:=Γ) (W:=W) h1;exact c0 p (jA h2) (st es)
section
variable{X:Cx}{Γ:Ct}{W:XW}
def fg{i:Nat}{x:Str}{pos' pos:Pos}{e:Vt}{ge:ME}(hN:X.N.Nodup)(hi:X.N[i]?=some x)(he:PD X Γ W e ge)(hx:zF X.env.scope x:=by first|exact Or.inl rfl|exact Or.inr rfl)(hs:swapsWith e (some (.Name x pos')) pos.line X.env=pure false:=by rfl)
  (hf:X.fn x=true\/X.env.scope.names.lookup x=some .local:=by first|exact .inl rfl|exact .inr rfl|assumption):zD X Γ W (.Assign [.Name x pos'] e pos) (bq i ge):=FP hN hi hx he hs hf
def qw{j:Nat}{x:Str}{pos:Pos}(hN:X.N.Nodup)(hi:X.N[j]?=some x)(hx:zF X.env.scope x:=by first|exact Or.inl rfl|exact Or.inr rfl)(hf:X.fn x=true\/X.env.scope.names.lookup x=some .local:=by first|exact .inl rfl|exact .inr rfl|assumption):JY X Γ (.Name x pos) [j] (ba j):=Dt hN hi hx hf
end
end L3
namespace L3
open L2 PySem.SeqAt
section
variable{X:Cx}{Γ:Ct}{W:XW}{pins:List (Vp×Obj)}{σ:L2.St}{H:Hp}{s:Vo}
theorem n8(n:Nat)(ih:∀(d1 d2:D)(b:Bool)(v:V),mx n d1 d2=some b->c6 Γ H d1 v->c6 Γ H d2 v->b=true):∀(xs ys:List D)(vs:List V)(b:Bool),iI (mx n) xs ys=some b->RepL Γ H xs vs->RepL Γ H ys vs->b=true
 |[],[],vs,b,h,_,_=>by cases h;rfl
 |[],y::ys,vs,b,h,r1,r2=>by
  obtain⟨z,r,e,_,_⟩:=aw.mp r2;rw[bR.mp r1] at e;cases e
 |x::xs,[],vs,b,h,r1,r2=>by
  obtain⟨z,r,e,_,_⟩:=aw.mp r1;rw[bR.mp r2] at e;cases e
 |x::xs,y::ys,vs,b,h,r1,r2=>by
  obtain⟨z,r,e,p1,t1⟩:=aw.mp r1;obtain⟨z',r',e',p2,t2⟩:=aw.mp r2;rw[e] at e';cases e';have h:(mx n x y).bind (λb=>(iI (mx n) xs ys).bind λc=>some (b && c))=some b:=h;cases h1:mx n x y with
  |none=>rw[h1] at h;cases h
  |some b1=>
   rw[h1] at h;cases h2:iI (mx n) xs ys with
   |none=>rw[h2] at h;cases h
   |some b2=>
    rw[h2] at h;cases h;rw[ih x y b1 z h1 p1 p2,n8 n ih xs ys r b2 h2 t1 t2];rfl
inductive EZ(n:Nat):D->D->Bool->Prop
 |int (i j:Int):EZ n (.int i) (.int j) (i == j)
 |str (x y:Str):EZ n (.str x) (.str y) (x == y)
 |tup (xs ys:List D) (b:Bool) (h:iI (mx n) xs ys=some b):EZ n (.tup xs) (.tup ys) b
 |lst (xs ys:List D) (b:Bool) (h:(if xs.length=ys.length then iI (mx n) xs ys else some false)=some b):EZ n (.lst xs) (.lst ys) b
def Au{n:Nat}{d y:D}{b:Bool}(h:mx (n+1) d y=some b):EZ n d y b:=by
 cases d with
 |int i=>
  cases y with
  |int j=>cases h;exact .int _ _
  |_=>cases h
 |str i=>
  cases y with
  |str j=>cases h;exact .str _ _
  |_=>cases h
 |tup i=>
  cases y with
  |tup j=>exact .tup _ _ _ h
  |_=>cases h
 |lst i=>
  cases y with
  |lst j=>exact .lst _ _ _ h
  |_=>cases h
 |_=>cases y <;> cases h
def zS(hK:X.K=Γ.K)(I:aH X pins σ H s){b:Bool}{a:Vp}{vs ws:List V}(q1:Cq Γ.K H b a vs)(q2:Cq Γ.K H b a ws):vs=ws:=I.seqX_inj (b:=b) (by rw[hK];exact q1) (by rw[hK];exact q2)
theorem qg(hK:X.K=Γ.K)(I:aH X pins σ H s):∀(n:Nat)(d1 d2:D)(b:Bool)(v:V),mx n d1 d2=some b->c6 Γ H d1 v->c6 Γ H d2 v->b=true
 |0,_,_,_,_,h,_,_=>by cases h
 |n+1,d1,d2,b,v,h,r1,r2=>by
  have ih:=qg hK I n;cases Au h with
  |int i j=>cases (af.mp r1).symm.trans (af.mp r2);exact WL _
  |str x y=>cases (aV.mp r1).symm.trans (aV.mp r2);exact WL _
  |tup xs ys b h=>
   obtain⟨a,vs,rfl,q1,l1⟩:=aX.mp r1;obtain⟨a',ws,e,q2,l2⟩:=aX.mp r2;cases e;cases zS hK I (b:=false) q1 q2;exact n8 n ih xs ys vs b h l1 l2
  |lst xs ys b h=>
   obtain⟨a,vs,rfl,q1,l1⟩:=b6.mp r1;obtain⟨a',ws,e,q2,l2⟩:=b6.mp r2;cases e;cases zS hK I (b:=true) q1 q2;rw[QH (l1.length.trans l2.length.symm)] at h;exact n8 n ih xs ys vs b h l1 l2
theorem jM(n:Nat){A:Vv}(ih:∀(d1 d2:D)(b:Bool)(x y:V)(v u:Vn),mx n d1 d2=some b->c6 Γ H d1 x->c6 Γ H d2 y->bV x v->bV y u->EqAt A s v u b){xs ys:List D}{vs ws:List V}{its its2:List Vn}{b:Bool}(h:iI (mx n) xs ys=some b)(l1:RepL Γ H xs vs)(l2:RepL Γ H ys ws)(r1:Vals vs its)(r2:Vals ws its2):
  ∀j (h1:j<its.toArray.size) (h2:j<its2.toArray.size),EqAt A s its.toArray[j] its2.toArray[j] (((xs[j]?).bind λx=>(ys[j]?).bind λy=>mx n x y) == some true):=by
 intro j h1 h2;have e1:=l1.length;have e2:=l2.length;have e3:=r1.length;have e4:=r2.length;rw[QK] at h1 h2;have hx:xs[j]?=some xs[j]:=QB (by omega)
 have hy:ys[j]?=some ys[j]:=QB (by omega)
 obtain⟨c,hc⟩:=As _ xs ys b h j _ _ hx hy;obtain⟨x,ex,rx⟩:=l1.get hx;obtain⟨y,ey,ry⟩:=l2.get hy;obtain⟨v,ev,rv⟩:=r1.get ex;obtain⟨u,eu,ru⟩:=r2.get ey;have ev':its[j]=v:=by rw[QB h1] at ev;exact VN ev
 have eu':its2[j]=u:=by rw[QB h2] at eu;exact VN eu
 rw[hx,hy];show EqAt A s its[j] its2[j] (mx n xs[j] ys[j] == some true);rw[hc,ev',eu',show(some c == some true)=c by cases c <;> rfl]
 exact ih _ _ c x y v u hc rx ry rv ru
theorem xr(hK:X.K=Γ.K)(I:aH X pins σ H s):∀(n:Nat)(A:Vv),A.units+n<cLine->∀(d1 d2:D)(b:Bool)(x y:V)(v u:Vn),mx n d1 d2=some b->c6 Γ H d1 x->c6 Γ H d2 y->bV x v->bV y u->EqAt A s v u b
 |0,_,_,_,_,_,_,_,_,_,h,_,_,_,_=>by cases h
 |n+1,A,hu,d1,d2,b,x,y,v,u,h,r1,r2,rx,ry=>by
  have ih:=xr hK I n A.in1 (by show A.units+1+n<cLine;omega)
  cases Au h with
  |int i j=>
    rw[af.mp r1] at rx;rw[af.mp r2] at ry;obtain⟨t,rfl⟩:=rx;obtain⟨t',rfl⟩:=ry;exact EqAt.int_int i t j t'
  |str z z'=>
    rw[aV.mp r1] at rx;rw[aV.mp r2] at ry;obtain⟨t,rfl⟩:=rx;obtain⟨t',rfl⟩:=ry;exact EqAt.str_str z t z' t'
  |tup xs ys _ h'=>
    obtain⟨a,vs,rfl,q1,l1⟩:=aX.mp r1;obtain⟨a',ws,rfl,q2,l2⟩:=aX.mp r2;cases rx;cases ry;by_cases c:a=a'
    ·subst c;rw[qg hK I (n+1) (.tup xs) (.tup ys) b (.ref a) h r1 r2];exact EqAt.same _
    ·obtain⟨its,v1,p1,_⟩:=I.tuple (by rw[hK];exact q1)
     obtain⟨its2,v2,p2,_⟩:=I.tuple (by rw[hK];exact q2)
     have e:=RcAt.tuples p1 p2 (A:=A) (by omega) (jM n ih h' l1 l2 v1 v2)
     rw[QK,QK,<-v1.length,<-v2.length,<-l1.length,<-l2.length,<-kA _ xs ys b h'] at e;exact EqAt.of_refs c e
  |lst xs ys _ h'=>
    obtain⟨a,vs,rfl,q1,l1⟩:=b6.mp r1;obtain⟨a',ws,rfl,q2,l2⟩:=b6.mp r2;cases rx;cases ry;by_cases c:a=a'
    ·subst c;rw[qg hK I (n+1) (.lst xs) (.lst ys) b (.ref a) h r1 r2];exact EqAt.same _
    ·obtain⟨its,v1,p1,_⟩:=I.list (by rw[hK];exact q1)
     obtain⟨its2,v2,p2,_⟩:=I.list (by rw[hK];exact q2)
     have s1:its.toArray.size=xs.length:=by rw[QK,<-v1.length,<-l1.length]
     have s2:its2.toArray.size=ys.length:=by rw[QK,<-v2.length,<-l2.length]
     by_cases hl:xs.length=ys.length
     ·rw[QH hl] at h';have e:=RcAt.lists p1.isList p2.isList (A:=A) (by rw[s1,s2,hl]) (by omega) (jM n ih h' l1 l2 v1 v2)
      have ea:=kA _ xs ys b h';rw[hl,Nat.min_self,WL,Bool.and_true] at ea;rw[s1,hl,<-ea] at e;exact EqAt.of_refs c e
     ·rw[QI hl] at h';cases h';exact EqAt.of_refs c (RcAt.lists_lengths p1.isList p2.isList (by rw[s1,s2];simpa using hl) (by omega))
end
section
variable{X:Cx}{Γ:Ct}{W:XW}{pins:List (Vp×Obj)}{σ:L2.St}{H:Hp}{s:Vo}
theorem Dd(hK:X.K=Γ.K)(I:aH X pins σ H s)(n:Nat)(A:Vv)(hu:A.units+n<cLine)(d1 d2:D)(b:Bool)(x y:V)(v u:Vn)(h:mx n d1 d2=some b)(r1:c6 Γ H d1 x)(r2:c6 Γ H d2 y)(rx:bV x v)(ry:bV y u):RcAt A s v u b:=by
 cases n with
 |zero=>cases h
 |succ n=>
  have ih:=xr hK I n A.in1 (by show A.units+1+n<cLine;omega)
  cases d1 with
  |int i=>
   cases d2 with
   |int j=>
    cases h;rw[af.mp r1] at rx;rw[af.mp r2] at ry;obtain⟨t,rfl⟩:=rx;obtain⟨t',rfl⟩:=ry;exact RcAt.int_int i t j t'
   |_=>cases h
  |str z=>
   cases d2 with
   |str z'=>
    cases h;rw[aV.mp r1] at rx;rw[aV.mp r2] at ry;obtain⟨t,rfl⟩:=rx;obtain⟨t',rfl⟩:=ry;exact RcAt.str_str z t z' t'
   |_=>cases h
  |tup xs=>
   cases d2 with
   |tup ys=>
    obtain⟨a,vs,rfl,q1,l1⟩:=aX.mp r1;obtain⟨a',ws,rfl,q2,l2⟩:=aX.mp r2;cases rx;cases ry;obtain⟨its,v1,p1,_⟩:=I.tuple (by rw[hK];exact q1)
    obtain⟨its2,v2,p2,_⟩:=I.tuple (by rw[hK];exact q2)
    have e:=RcAt.tuples p1 p2 (A:=A) (by omega) (jM n ih h l1 l2 v1 v2)
    rw[QK,QK,<-v1.length,<-v2.length,<-l1.length,<-l2.length,<-kA _ xs ys b h] at e;exact e
   |_=>cases h
  |lst xs=>
   cases d2 with
   |lst ys=>
    obtain⟨a,vs,rfl,q1,l1⟩:=b6.mp r1;obtain⟨a',ws,rfl,q2,l2⟩:=b6.mp r2;cases rx;cases ry;obtain⟨its,v1,p1,_⟩:=I.list (by rw[hK];exact q1)
    obtain⟨its2,v2,p2,_⟩:=I.list (by rw[hK];exact q2)
    have h:(if xs.length=ys.length then iI (mx n) xs ys else some false)=some b:=h;have s1:its.toArray.size=xs.length:=by rw[QK,<-v1.length,<-l1.length]
    have s2:its2.toArray.size=ys.length:=by rw[QK,<-v2.length,<-l2.length]
    by_cases hl:xs.length=ys.length
    ·rw[QH hl] at h;have e:=RcAt.lists p1.isList p2.isList (A:=A) (by rw[s1,s2,hl]) (by omega) (jM n ih h l1 l2 v1 v2)
     have ea:=kA _ xs ys b h;rw[hl,Nat.min_self,WL,Bool.and_true] at ea;rw[s1,hl,<-ea] at e;exact e
    ·rw[QI hl] at h;cases h;exact RcAt.lists_lengths p1.isList p2.isList (by rw[s1,s2];simpa using hl) (by omega)
   |_=>cases h
  |non=>cases d2 <;> cases h
  |bl _=>cases d2 <;> cases h
  |fn _ _=>cases d2 <;> cases h
  |obj _ _ _=>cases d2 <;> cases h
end
section
variable{X:Cx}{Γ:Ct}{W:XW}
def Jt{A:Vv}{k n:Nat}(hr:cJ k A)(hn:n<=9:=by decide):A.units+n<cLine:=by
 have:=hr.un;omega
def G4{n:Nat}(hK:X.K=Γ.K)(hu:X.A.units+n<cLine):hU X (compareOp .Eq) (rD Γ W (Li n)):=λpins s σ H x y v u Q I rx ry ⟨Hs,d1,d2,r,sm,r1,r2,e,q⟩=>by
 have e:(mx n d1 d2).bind (λb=>okB b)=some r:=e;cases h:mx n d1 d2 with
 |none=>rw[h] at e;cases e
 |some b=>
  rw[h] at e;cases e;exact Dd hK I n X.A hu d1 d2 b x y v u h (r1.mono sm) (r2.mono sm) rx ry X.prog X.w X.xe _ ⟨.bl b,H,I,rfl,dE sm q (aS.mpr rfl)⟩
variable{i:Nat}{x:Str}{px apos cpos pos:Pos}
def Dg(hv:PE X (.Name x px) (qR i)):zD X Γ W (.Return (some (.Name x px)) pos) (vP i):=
 PS.imp (Dh hv) λpins s σ H En I ⟨B0,B1,Hs,ρ,o,re,eo,q⟩=>by
  unfold vP at eo;split at eo
  ·rename_i s' hs;obtain⟨hn,eo⟩:=bz (c:=s'.nd=true) eo;cases eo;cases s' with
   |sh d=>
    obtain⟨v,e1,r⟩:=re.sh i d hs;exact⟨v,e1,q v Hs H (.refl _) re.b r⟩
   |own u=>
    obtain⟨a,ho,e1,e2,e3,e4,r⟩:=re.own i u hs;have r:=r.o (λkvs z=>by subst z;cases hn) (λb u' z=>by subst z;cases hn) (λkvs z=>by subst z;cases hn) (λkvs z=>by subst z;cases hn) λt z=>by subst z;cases hn
    exact⟨.ref a,e1,q (.ref a) Hs H (.refl _) re.b ⟨a,ho,rfl,e2,e3,e4,r⟩⟩
   |_=>cases hn
  ·cases eo
def Bh(hv:PE X (.Name x px) (qR i))
  (hbase:attributeBase (.Name x px) "clear" X.env (eval (.Name x px) X.env)=eval (.Name x px) X.env:=by rfl)
  (hline:(apos.endLine == cpos.line)=true:=by rfl) (hsw:swapsWith (.Call (.Attribute (.Name x px) "clear" apos) [] [] cpos) none pos.line X.env=pure false:=by rfl):
  zD X Γ W (.Expr (.Call (.Attribute (.Name x px) "clear" apos) [] [] cpos) pos) (u0 i):=
 PS.imp (oj (II ZZ PySem.F.slot_list_clear PySem.F.type_list_clear DL hv hbase hline) hsw) λpins s σ H En I ⟨B0,B1,Hs,ρ,o,re,eo,q⟩=>by
  obtain⟨ds,hd,eo⟩:=mS eo;obtain⟨a,ho,e1,e2,e3,e4,xs,rfl,rl⟩:=re.own i _ hd;cases eo;exact⟨.ref a,e1,.inl ⟨rfl,xs,.of e4⟩,a,xs,rfl,rfl,e4,q σ Hs _ (.refl _) (re.write hd e1 ⟨_,rfl,.nil⟩)⟩
end
end L3
namespace L2
open PySem.W
section
variable{prog:Vq}{w:Vr}{A:Vv}{E:Vn->Vo->Prop}{s:Vo}{it l:Vp}
def Bd{items acc:Array Vn}(h:ItemsOf (λi v=>items[items.size - 1 - i]?=some v) acc items.size):acc=items.toList.reverse.toArray:=by
 apply toList_inj.mp;refine Yv λi=>?_;show acc.toList[i]?=items.toList.reverse[i]?;rw[VO];by_cases hi:i<acc.size
 ·have h1:=h.2 i acc[i] (QW hi);have hi2:i<items.toList.length:=by rw[QL,<-h.1];exact hi
  rw[QW hi,List.getElem?_reverse hi2,VO,QL];exact h1.symm
 ·rw[W9 (YO hi),Wj];rw[Y3,QL,<-h.1];exact YO hi
end
section
variable{X:Cx}{pins:List (Vp×Obj)}{σ:St}{s:Vo}
theorem aH.drop{H0:Hp}{it:Vp}{φ:Vs->Prop}(I:aH X pins σ (cD H0 it (.ext φ)) s)(hn:H0 it=none):aH X pins σ H0 s:=by
 have ne:∀b u,H0 b=some u->b≠it:=λb u e z=>by rw[z,hn] at e;cases e
 have ne2:∀b u,cD H0 it (.ext φ) b=some u->(∀ψ,u≠.ext ψ)->H0 b=some u:=λb u e hu=>by
  by_cases z:b=it
  ·subst z;rw[aQ] at e;cases e;exact absurd rfl (hu φ)
  ·rwa[az z] at e
 refine I.un (h':=s.heap) (t':=s.toks) ⟨λb o q _ _ _=>q,λb o q _ _ _=>⟨o.slots,q⟩,λb o q n _=>?_,λb o q _=>⟨o,q⟩,λb xs q=>ne2 b _ q (λψ z=>nomatch z),λb o u q=>ne2 b _ q (λψ z=>nomatch z),λb ps q=>⟨#[],by rw[ne2 b _ q (λψ z=>nomatch z)];simp⟩⟩ λb u e=>?_
 ·by_cases z:b=it
  ·rw[z];exact hn
  ·rwa[az z] at n
 ·have q:=I.hok b u (by rw[az (ne b u e)];exact e)
  exact q.stay (λc v _ r=>r) (λc r=>ne2 c _ r (λψ z=>nomatch z)) (λc xs r=>ne2 c _ r (λψ z=>nomatch z)) λc ob u r=>ne2 c _ r (λψ z=>nomatch z)
end
end L2
namespace L3
open L2
def rO:bootBuiltins "reversed" = some (.type "reversed"):=by decide +kernel
section
variable{X:Cx}{Γ:Ct}{W:XW}
theorem RepL.reverse{H:Hp}:∀{ds:List D}{xs:List V},RepL Γ H ds xs->RepL Γ H ds.reverse xs.reverse
 |[],xs,h=>by rw[bR.mp h];exact .nil
 |d::ds,xs,h=>by
  obtain⟨x,r,rfl,q,t⟩:=aw.mp h;rw[Xd,Xd];exact(RepL.reverse t).append (.cons q .nil)
variable{i:Nat}{x:Str}{px apos cpos pos pos' zpos:Pos}{k:Vt}{gk:ME}
end
section
variable{X:Cx}{Γ:Ct}{W:XW}{pos:Pos}
theorem se{j k l:Nat}{x y z:Str}{px py pz:Pos}{kt:Nat}(hK:X.K=Γ.K)(hc:X.calm=true)(hN:X.N.Nodup)(hj:X.N[j]?=some x)(hk:X.N[k]?=some y)(hl:X.N[l]?=some z)(hx:zF X.env.scope x)(hy:zF X.env.scope y)(hz:zF X.env.scope z)
  (fx:X.fn x=true\/X.env.scope.names.lookup x=some .local:=by first|exact .inl rfl|exact .inr rfl|assumption) (fy:X.fn y=true\/X.env.scope.names.lookup y=some .local:=by first|exact .inl rfl|exact .inr rfl|assumption) (fz:X.fn z=true\/X.env.scope.names.lookup z=some .local:=by first|exact .inl rfl|exact .inr rfl|assumption)
  (hn:(assignEach [.Name x px,.Name y py,.Name z pz] X.env).length=3:=by rfl) (hst:(assignEach [.Name x px,.Name y py,.Name z pz] X.env).findIdx? (·.1)=none:=by rfl)
  (hs1:(assignEach [.Name x px,.Name y py,.Name z pz] X.env).map (·.2)=assign (.Name x px) X.env::(assignEach [.Name y py,.Name z pz] X.env).map (·.2):=by rfl) (hs2:(assignEach [.Name y py,.Name z pz] X.env).map (·.2)=assign (.Name y py) X.env::(assignEach [.Name z pz] X.env).map (·.2):=by rfl) (hs3:(assignEach [.Name z pz] X.env).map (·.2)=assign (.Name z pz) X.env::(assignEach [] X.env).map (·.2):=by rfl):
  JY X Γ (.Tuple [.Name x px,.Name y py,.Name z pz] kt pos) [j,k,l] (bTup [j,k,l]):=
 PG.imp (Dj hc (kl (kS hN hj hx fx) (kl (kS hN hk hy fy) (kl (kS hN hl hz fz) A0 hs3) hs2) hs1) hn hst) λpins s v σ H Q I t'=>by
  obtain⟨B0,B1,Hs,ρ,d,ρ',re,rp,e,q⟩:=t';have lj:j<σ.length:=by rw[I.len];exact(QM.mp hj).1
  have lk:k<σ.length:=by rw[I.len];exact(QM.mp hk).1
  have ll:l<σ.length:=by rw[I.len];exact(QM.mp hl).1
  cases d with
  |tup ds=>
   unfold bTup at e;dsimp only at e;split at e
   ·rename_i hl;cases e
    match ds,hl with
    |[d1,d2,d3],_=>
     obtain⟨a,xs,rfl,sq,rl⟩:=aX.mp rp;obtain⟨x1,r1,rfl,q1,rl⟩:=aw.mp rl;obtain⟨x2,r2,rfl,q2,rl⟩:=aw.mp rl;obtain⟨x3,r3,rfl,q3,rl⟩:=aw.mp rl;obtain rfl:=bR.mp rl;refine⟨a,[x1,x2,x3],rfl,by rw[hK];exact bj re.b.i sq,rfl,x1,[x2,x3],rfl,x2,[x3],rfl,x3,[],rfl,rfl,?_⟩
     exact q _ (((re.setSh lj q1).setSh (by rw[VW];exact lk) q2).setSh (by rw[VW,VW];exact ll) q3) λi hi=>by
      rw[QQ λz=>hi (by simp[z]),QQ λz=>hi (by simp[z]),QQ λz=>hi (by simp[z])]
   ·cases e
  |_=>cases e
end
inductive MR(i j:Nat)(σ:L2.St)(H:Hp):Prop
 |mk (a:Vp) (xs:List V) (T:List (Vp×List V)) (l:Vp) (v0:List V) (b:Vp) (h1:σ[i]?=some (some (.ref a))) (h2:H a=some (.big (.lst xs) T)) (h3:xs[1]?=some (.ref l)) (h4:(l,v0++[.ref b])∈T) (h5:σ[j]?=some (some (.ref b)))
def EA(Γ:Ct)(i j:Nat)(B0 B1 Hs:Hp)(D:nB):nY->Prop
 |.next ρ'=>∀σ' Hs' H',aM Hs Hs'->RE Γ B0 B1 Hs' H' σ' ρ'->MR i j σ' H'->D.nx σ' H'
 |.ret s=>∀v Hs' H',aM Hs Hs'->Grow B0 B1 Hs' H'->fe Γ B1 Hs' H' s v->D.rt v H'
 |_=>False
inductive tA(Γ:Ct)(i j:Nat)(g:MC)(D:nB)(σ:L2.St)(H:Hp):Prop
 |mk (B0 B1 Hs:Hp) (ρ:aJ) (o:nY) (re:RE Γ B0 B1 Hs H σ ρ) (al:MR i j σ H) (e:g ρ=some o) (q:EA Γ i j B0 B1 Hs D o)
def scal:D->Bool
 |.non=>true
 |.bl _=>true
 |.int _=>true
 |.str _=>true
 |_=>false
end L3
namespace L2
abbrev y1(h:Vs)(l1:Vp):Vs:=h.push {cls:=.type "list_iterator",data:=.fields #[.ref l1,.int 0 0]}
abbrev y2(h:Vs)(l1 l2:Vp):Vs:=(y1 h l1).push {cls:=.type "list_iterator",data:=.fields #[.ref l2,.int 0 0]}
abbrev y3(h:Vs)(l1 l2 l3:Vp):Vs:=(y2 h l1 l2).push {cls:=.type "list_iterator",data:=.fields #[.ref l3,.int 0 0]}
abbrev y4(h:Vs)(l1 l2 l3:Vp):Vs:=(y3 h l1 l2 l3).push {cls:=.type "tuple",data:=.seq #[.ref h.objs.size,.ref (y1 h l1).objs.size,.ref (y2 h l1 l2).objs.size]}
abbrev y5(h:Vs)(l1 l2 l3:Vp):Vs:=(y4 h l1 l2 l3).push {cls:=.type "tuple",data:=.seq #[.none,.none,.none]}
open PySem.W
structure Lq where
 params:Arguments
 body:Vt
 scope:Scope
 qual:Str
 par:Str
 fv:List Str
abbrev Lq.obj(L:Lq)(clos:List (Str×Vp))(pm:Vn)(c:Vp)(ctv:Vn):Obj:=kla_obj "<lambda>" L.qual L.params L.body L.scope clos pm c ctv
def without(H:Hp)(cs:List Vp):Hp:=λb=>if b∈cs then none else H b
def back(H:Hp)(cs:List Vp)(H2:Hp):Hp:=λb=>if b∈cs then H b else H2 b
end L2
namespace L3
open L2 PySem.W
mutual
theorem c6.to{Γ:Ct}{H H':Hp}(k:∀b u,H b=some u->(∀o c,u≠.frz o (.own c))->H' b=some u):∀{d:D}{v:V},Bt d=true->c6 Γ H d v->c6 Γ H' d v
 |.non,_,_,r=>by unfold c6 at r ⊢;exact r
 |.bl _,_,_,r=>by unfold c6 at r ⊢;exact r
 |.int _,_,_,r=>by unfold c6 at r ⊢;exact r
 |.str _,_,_,r=>by unfold c6 at r ⊢;exact r
 |.tup ds,_,n,r=>by
  unfold c6 at r ⊢;obtain⟨a,xs,e1,q,r⟩:=r;refine⟨a,xs,e1,?_,RepL.to k (by unfold Bt at n;exact n) r⟩
  rcases q with(q|⟨o,q⟩)|q
  ·exact .inl (.inl (k _ _ q λ_ _ z=>nomatch z))
  ·exact .inl (.inr ⟨o,k _ _ q λ_ _ z=>by cases z⟩)
  ·exact .inr q
 |.lst ds,_,n,r=>by
  unfold c6 at r ⊢;obtain⟨a,xs,e1,q,r⟩:=r;refine⟨a,xs,e1,?_,RepL.to k (by unfold Bt at n;exact n) r⟩
  rcases q with(q|⟨o,q⟩)|q
  ·exact .inl (.inl (k _ _ q λ_ _ z=>nomatch z))
  ·exact .inl (.inr ⟨o,k _ _ q λ_ _ z=>by cases z⟩)
  ·exact .inr q
 |.obj c ns ds,_,n,r=>by
  unfold c6 at r ⊢;obtain⟨a,dx,xs,e1,q,r⟩:=r;exact⟨a,dx,xs,e1,k _ _ q (λ_ _ z=>nomatch z),RepL.to k (by unfold Bt at n;exact n) r⟩
 |.fn _ _,_,n,_=>by unfold Bt at n;cases n
theorem RepL.to{Γ:Ct}{H H':Hp}(k:∀b u,H b=some u->(∀o c,u≠.frz o (.own c))->H' b=some u):∀{ds:List D}{xs:List V},sg ds=true->RepL Γ H ds xs->RepL Γ H' ds xs
 |[],_,_,r=>by unfold RepL at r ⊢;exact r
 |d::ds,_,n,r=>by
  unfold RepL at r ⊢;unfold sg at n;rw[VJ] at n;obtain⟨x,r',e1,q,r2⟩:=r;exact⟨x,r',e1,c6.to k n.1 q,RepL.to k n.2 r2⟩
end
end L3
namespace L2
def GA:Bool->Keyed->Array Keyed->Nat->Nat->Nat->StateT SortSt Sem (Option Nat):=sortPriv% PySem.Builtin.gallop
def Kr(rk:Keyed->Int)(xs:Array Keyed)(i:Nat):Int:=match xs[i]? with
 |some p=>rk p
 |none=>0
def AK{rk:Keyed->Int}{xs:Array Keyed}{i:Nat}{p:Keyed}(h:xs[i]?=some p):Kr rk xs i=rk p:=by unfold Kr;rw[h]
def jg{rk:Keyed->Int}{xs ys:Array Keyed}{i j:Nat}(h:xs[i]?=ys[j]?):Kr rk xs i=Kr rk ys j:=by unfold Kr;rw[h]
def Cu(prog:Vq)(w:Vr)(A:Vv)(E:Vn->Vo->Prop)(s:Vo)(rk:Keyed->Int)(kd:SortKind)(a₀:Array Keyed):Prop:=
 ∀x∈a₀.toList,∀y∈a₀.toList,∀{Q:Option Bool->SortSt->Prop}{st:SortSt},kindOf st=kd->Q (some (decide (rk x<rk y))) st->wpS (model prog w) A E s (lt' x y) Q st
def jd(rk:Keyed->Int)(left:Bool)(key:Keyed)(arr:Array Keyed)(j:Nat):Bool:=if left then decide (Kr rk arr j<rk key) else !decide (rk key<Kr rk arr j)
section
variable{prog:Vq}{w:Vr}{A:Vv}{E:Vn->Vo->Prop}{s:Vo}{rk:Keyed->Int}{kd:SortKind}{a₀:Array Keyed}{st:SortSt}
def bh{arr:Array Keyed}{i:Nat}{p:Keyed}{Q:Keyed->SortSt->Prop}(h:arr[i]?=some p)(q:Q p st):wpS (model prog w) A E s (elem' arr i) Q st:=by
 rw[elem'_eq,h];exact QN q
variable{left:Bool}{key:Keyed}{arr:Array Keyed}{base n hint:Nat}
def ji(hC:Cu prog w A E s rk kd a₀)(hk:kindOf st=kd)(hx:key∈a₀.toList)(ha:∀p∈arr.toList,p∈a₀.toList){j:Nat}(hj:j<arr.size){Q:Option Bool->SortSt->Prop}
  (h:Q (some (jd rk left key arr j)) st):wpS (model prog w) A E s (elem' arr j >>= λx=>if left=true then lt' x key else lt' key x >>= λr=>pure (r.map (!·))) Q st:=by
 have e:arr[j]?=some arr[j]:=Wp arr j hj;refine QJ (bh e ?_);have hm:arr[j]∈a₀.toList:=ha _ (by simp)
 unfold jd at h;rw[AK e] at h;by_cases l:left=true
 ·rw[QH l] at h ⊢;exact hC _ hm _ hx hk h
 ·rw[QI l] at h ⊢;exact QJ (hC _ hx _ hm hk (QN h))
theorem fk(hC:Cu prog w A E s rk kd a₀)(hk:kindOf st=kd)(hx:key∈a₀.toList)(ha:∀p∈arr.toList,p∈a₀.toList)(hn:base+n<=arr.size)(hh:hint<n)
  (hm:∀i j,i<=j->j<n->jd rk left key arr (base+j)=true->jd rk left key arr (base+i)=true) {Q:Option Nat->SortSt->Prop}
  (h:∀k,k<=n->(∀i,i<k->jd rk left key arr (base+i)=true)->(∀i,k<=i->i<n->jd rk left key arr (base+i)=false)->Q (some k) st):
  wpS (model prog w) A E s (GA left key arr base n hint) Q st:=by
 have hb:∀i,i<n->base+i<arr.size:=λi hi=>by omega
 have hm':∀i j,i<=j->j<n->jd rk left key arr (base+i)=false->jd rk left key arr (base+j)=false:=λi j hij hj e=>by
  cases q:jd rk left key arr (base+j) with
  |false=>rfl
  |true=>rw[hm i j hij hj q] at e;cases e
 have fin:∀{lo hi:Nat},lo<=hi->hi<=n->(∀i,i<lo->jd rk left key arr (base+i)=true)->(∀i,hi<=i->i<n->jd rk left key arr (base+i)=false)->
   wpS (model prog w) A E s (forIn [:n] ((none:Option (Option Nat)),lo,hi) λ_ c=>if c.2.1 ≥ c.2.2 then pure (ForInStep.done (none,c.2.1,c.2.2)) else(elem' arr (base+(c.2.1+(c.2.2 - c.2.1) / 2)) >>= λx=>if left=true then lt' x key else lt' key x >>= λr=>pure (r.map (!·))) >>= λy=>match y with
    |some more=>if more=true then pure (ForInStep.yield (none,c.2.1+(c.2.2 - c.2.1) / 2+1,c.2.2)) else pure (ForInStep.yield (none,c.2.1,c.2.1+(c.2.2 - c.2.1) / 2))
    |_=>pure (ForInStep.done (some none,c.2.1,c.2.2)))
    (λc st'=>st'=st/\∃k,c=(none,k,k)/\k<=n/\(∀i,i<k->jd rk left key arr (base+i)=true)/\∀i,k<=i->i<n->jd rk left key arr (base+i)=false) st:=λ{lo hi} h1 h2 h3 h4=>by
  refine VX (I:=λx c st'=>st'=st/\∃l r,c=(none,l,r)/\l<=r/\r<=n/\r - l<=n - x/\(∀i,i<l->jd rk left key arr (base+i)=true)/\∀i,r<=i->i<n->jd rk left key arr (base+i)=false) ?_ ?_ ⟨rfl,lo,hi,rfl,h1,h2,by omega,h3,h4⟩
  ·rintro x c st' _ hxn ⟨rfl,l,r,rfl,hlr,hr,hmn,q1,q2⟩
   dsimp only;by_cases ge:l ≥ r
   ·rw[QH ge];have:l=r:=by omega
    subst this;exact QN ⟨rfl,l,rfl,hr,q1,q2⟩
   ·rw[QI ge];refine QJ (ji hC hk hx ha (hb _ (by omega)) ?_)
    cases q:jd rk left key arr (base+(l+(r - l) / 2)) with
    |true=>exact QN ⟨rfl,_,_,rfl,by omega,hr,by omega,λi hi=>hm i _ (by omega) (by omega) q,q2⟩
    |false=>exact QN ⟨rfl,_,_,rfl,by omega,by omega,by omega,q1,λi hi hi2=>hm' _ i hi hi2 q⟩
  ·rintro c st' ⟨rfl,l,r,rfl,hlr,hr,hmn,q1,q2⟩
   have:l=r:=by omega
   subst this;exact⟨rfl,l,rfl,hr,q1,q2⟩
 refine QJ (ji hC hk hx ha (hb _ hh) ?_);cases q:jd rk left key arr (base+hint) with
 |true=>
  refine QJ (WA (VX (I:=λx c st'=>st'=st/\∃l o,c=(none,l,o)/\l<o/\x<o/\hint+l<n/\jd rk left key arr (base+(hint+l))=true)
   (Q:=λc st'=>st'=st/\∃l o,c=(none,l,o)/\l<o/\hint+l<n/\jd rk left key arr (base+(hint+l))=true/\(o<n - hint->jd rk left key arr (base+(hint+o))=false)) ?_ ?_ ⟨rfl,0,1,rfl,by omega,by omega,hh,q⟩) ?_)
  ·rintro x c st' _ hxn ⟨rfl,l,o,rfl,hlo,hxo,hl,q1⟩
   dsimp only;by_cases ge:o ≥ n - hint
   ·rw[QH ge];exact QN ⟨rfl,l,o,rfl,hlo,hl,q1,λz=>by omega⟩
   ·rw[QI ge];refine QJ (ji hC hk hx ha (hb _ (by omega)) ?_)
    cases q2:jd rk left key arr (base+(hint+o)) with
    |true=>exact QN ⟨rfl,_,_,rfl,by omega,by omega,by omega,q2⟩
    |false=>exact QN ⟨rfl,_,_,rfl,hlo,hl,q1,λ_=>q2⟩
  ·rintro c st' ⟨rfl,l,o,rfl,hlo,hxo,hl,q1⟩
   exact⟨rfl,l,o,rfl,hlo,hl,q1,λz=>by omega⟩
  ·rintro c st' ⟨rfl,l,o,rfl,hlo,hl,q1,q2⟩
   refine QJ (WA (fin (lo:=hint+l+1) (hi:=hint+min o (n - hint)) (by omega) (by omega) (λi hi=>hm i (hint+l) (by omega) hl q1) λi hi hi2=>?_) ?_)
   ·exact hm' (hint+o) i (by omega) hi2 (q2 (by omega))
   ·rintro c st' ⟨rfl,k,rfl,k1,k2,k3⟩
    exact QN (h k k1 k2 k3)
 |false=>
  refine QJ (WA (VX (I:=λx c st'=>st'=st/\∃l o,c=(none,l,o)/\l<o/\x<o/\l<=hint/\jd rk left key arr (base+(hint - l))=false)
   (Q:=λc st'=>st'=st/\∃l o,c=(none,l,o)/\l<o/\l<=hint/\jd rk left key arr (base+(hint - l))=false/\(o<hint+1->jd rk left key arr (base+(hint - o))=true)) ?_ ?_ ⟨rfl,0,1,rfl,by omega,by omega,by omega,q⟩) ?_)
  ·rintro x c st' _ hxn ⟨rfl,l,o,rfl,hlo,hxo,hl,q1⟩
   dsimp only;by_cases ge:o ≥ hint+1
   ·rw[QH ge];exact QN ⟨rfl,l,o,rfl,hlo,hl,q1,λz=>by omega⟩
   ·rw[QI ge];refine QJ (ji hC hk hx ha (hb _ (by omega)) ?_)
    cases q2:jd rk left key arr (base+(hint - o)) with
    |true=>exact QN ⟨rfl,_,_,rfl,hlo,hl,q1,λ_=>q2⟩
    |false=>exact QN ⟨rfl,_,_,rfl,by omega,by omega,by omega,q2⟩
  ·rintro c st' ⟨rfl,l,o,rfl,hlo,hxo,hl,q1⟩
   exact⟨rfl,l,o,rfl,hlo,hl,q1,λz=>by omega⟩
  ·rintro c st' ⟨rfl,l,o,rfl,hlo,hl,q1,q2⟩
   refine QJ (WA (fin (lo:=hint+1 - min o (hint+1)) (hi:=hint - l) (by omega) (by omega) (λi hi=>?_) λi hi hi2=>hm' (hint - l) i hi hi2 q1) ?_)
   ·exact hm i (hint - o) (by omega) (by omega) (q2 (by omega))
   ·rintro c st' ⟨rfl,k,rfl,k1,k2,k3⟩
    exact QN (h k k1 k2 k3)
end
def DO:Array Keyed->Array Keyed->StateT SortSt Sem (Array Keyed):=sortPriv% PySem.Builtin.mergeLo
def fZ(st st':SortSt):Prop:=kindOf st'=kindOf st/\arrOf st'=arrOf st/\pendingOf st'=pendingOf st/\failedOf st'=failedOf st
def fZ.rfl'{st:SortSt}:fZ st st:=⟨rfl,rfl,rfl,rfl⟩
def fZ.gal{st st':SortSt}(h:fZ st st')(g:Nat):fZ st (SortSt.mk' (kindOf st') (arrOf st') (pendingOf st') g (failedOf st')):=h
structure MI(r:Keyed->Keyed->Prop)(L O A B:List Keyed):Prop where
 pa:(O++A).Pairwise r
 pb:(O++B).Pairwise r
 pm:(O++(A++B)).Perm L
section
variable{r:Keyed->Keyed->Prop}{L O A B A1 A2:List Keyed}
def MI.swap(h:MI r L O A B):MI r L O B A:=⟨h.pb,h.pa,(WB O List.perm_append_comm).trans h.pm⟩
def MI.chunk(h:MI r L O (A1++A2) B)(q:∀x∈A1,∀y∈B,r x y):MI r L (O++A1) A2 B:=by
 refine⟨by rw[V4];exact h.pa,?_,by rw[V4,<-V4 A1];exact h.pm⟩
 have p1:=h.pa;have p2:=h.pb;rw[<-V4] at p1;rw[VL] at p2 ⊢;refine⟨(VL.mp p1).1,p2.2.1,λx hx y hy=>?_⟩;rcases VQ.mp hx with hx|hx
 ·exact p2.2.2 x hx y hy
 ·exact q x hx y hy
def MI.nil(h:MI r L O A []):(O++A).Pairwise r/\(O++A).Perm L:=⟨h.pa,by have:=h.pm;rwa[Vz] at this⟩
def MI.one{z:Keyed}(h:MI r L O [z] B)(q:∀y∈B,r y z):(O++(B++[z])).Pairwise r/\(O++(B++[z])).Perm L:=by
 refine⟨?_,(WB O List.perm_append_comm).trans h.pm⟩;have p1:=h.pa;have p2:=h.pb;rw[<-V4,VL];refine⟨p2,Ya _ _,λx hx y hy=>?_⟩;rw[V3.mp hy];rcases VQ.mp hx with hx|hx
 ·exact(VL.mp p1).2.2 x hx z VF
 ·exact q x hx
theorem MI.take{y:Keyed}(tr:∀x y z,r x y->r y z->r x z)(h:MI r L O A (y::B)){k:Nat}(q:∀x∈A.take k,r x y):MI r L (O++A.take k) (A.drop k) (y::B):=by
 refine MI.chunk (by rw[VP];exact h) λx hx z hz=>?_
 rcases V1.mp hz with rfl|hz
 ·exact q x hx
 ·exact tr _ _ _ (q x hx) ((Wl.mp (VL.mp h.pb).2.1).1 z hz)
end
def dY{xs:Array Keyed}{i j:Nat}:(xs.extract i j).toList=(xs.toList.drop i).take (j - i):=by simp[List.extract_eq_drop_take]
def l5{xs:Array Keyed}{i:Nat}(h:i<xs.size):xs.toList.drop i=xs[i]::xs.toList.drop (i+1):=W1 (by simpa using h)
def yH{rk:Keyed->Int}{xs:Array Keyed}{i k:Nat}{p:Int->Prop}(q:∀j,j<k->p (Kr rk xs (i+j)))(hk:i+k<=xs.size):∀x∈(xs.toList.drop i).take k,p (rk x):=λx hx=>by
 obtain⟨j,hj,rfl⟩:=Wc.mp hx;rw[We] at hj;rw[YJ,Xe];have:=q j (by omega)
 rwa[AK (p:=xs.toList[i+j]'(by rw[QL];omega)) (by rw[<-VO,QB])] at this
section
variable{rk:Keyed->Int}{a b out:Array Keyed}{ia ib:Nat}{x y:Keyed}
abbrev ML(rk:Keyed->Int)(a b out:Array Keyed)(ia ib:Nat):Prop:=MI (λx y=>rk x<rk y) (a.toList++b.toList) out.toList (a.toList.drop ia) (b.toList.drop ib)
def Gd(rk:Keyed->Int)(L:List Keyed)(o:Array Keyed):Prop:=o.toList.Pairwise (λx y=>rk x<rk y)/\o.toList.Perm L
def MM{rk:Keyed->Int}:∀x y z,rk x<rk y->rk y<rk z->rk x<rk z:=λ_ _ _=>Z6
def ML.chA(h:ML rk a b out ia ib)(hb:ib<b.size){k:Nat}(hk:ia+k<=a.size)(q:∀i,i<k->Kr rk a (ia+i)<rk b[ib]):ML rk a b (out++a.extract ia (ia+k)) (ia+k) ib:=by
 show MI _ _ (out++a.extract ia (ia+k)).toList _ _;have h':MI _ _ _ _ _:=h;rw[l5 hb] at h' ⊢;rw[VG,dY,V9,<-List.drop_drop];exact h'.take MM (yH (p:=λz=>z<rk b[ib]) q hk)
def ML.chB(h:ML rk a b out ia ib)(ha:ia<a.size){k:Nat}(hk:ib+k<=b.size)(q:∀i,i<k->Kr rk b (ib+i)<rk a[ia]):ML rk a b (out++b.extract ib (ib+k)) ia (ib+k):=by
 show MI _ _ (out++b.extract ib (ib+k)).toList _ _;have h':MI _ _ _ _ _:=h;rw[<-List.drop_drop (l:=b.toList),VG,dY,V9];rw[l5 ha] at h' ⊢;exact(h'.swap.take MM (yH (p:=λz=>z<rk a[ia]) q hk)).swap
def vZ{xs:Array Keyed}{i:Nat}(h:i<xs.size):out.push xs[i]=out++xs.extract i (i+1):=by
 apply toList_inj.mp;rw[toList_push,VG,dY,l5 h,V9];rfl
def bt{xs:Array Keyed}{i:Nat}(h:i<xs.size):Kr rk xs i=rk xs[i]:=AK (Wp xs i h)
def ML.puA(h:ML rk a b out ia ib)(hb:ib<b.size)(ha:ia<a.size)(q:rk a[ia]<rk b[ib]):ML rk a b (out.push a[ia]) (ia+1) ib:=by
 rw[vZ ha];exact h.chA hb ha λi hi=>by rw[show i=0 by omega,add_zero,bt ha];exact q
def ML.puB(h:ML rk a b out ia ib)(hb:ib<b.size)(ha:ia<a.size)(q:rk b[ib]<rk a[ia]):ML rk a b (out.push b[ib]) ia (ib+1):=by
 rw[vZ hb];exact h.chB ha hb λi hi=>by rw[show i=0 by omega,add_zero,bt hb];exact q
def l4{xs:Array Keyed}{i:Nat}:(xs.extract i xs.size).toList=xs.toList.drop i:=by rw[dY];exact Zt (by simp)
def ML.dnB(h:ML rk a b out ia ib)(e:ib=b.size):Gd rk (a.toList++b.toList) (out++a.extract ia a.size++b.extract ib b.size):=by
 have h':MI _ _ _ _ _:=h;have z:b.toList.drop ib=[]:=W3 (by simp[e])
 rw[z] at h';unfold Gd;rw[VG,VG,l4,l4,z,Vz];exact h'.nil
def ML.dnA(h:ML rk a b out ia ib)(e:ia=a.size):Gd rk (a.toList++b.toList) (out++a.extract ia a.size++b.extract ib b.size):=by
 have h':MI _ _ _ _ _:=h;have z:a.toList.drop ia=[]:=W3 (by simp[e])
 rw[z] at h';unfold Gd;rw[VG,VG,l4,l4,z,Vz];exact h'.swap.nil
def ML.lst(h:ML rk a b out ia ib)(e:ia+1=a.size)(q:∀y∈b.toList,rk y<Kr rk a (a.size - 1)):Gd rk (a.toList++b.toList) (out++b.extract ib b.size++a.extract ia a.size):=by
 have h':MI _ _ _ _ _:=h;have z:a.toList.drop ia=[a[ia]]:=by rw[l5 (by omega),W3 (by simp[e])]
 rw[z] at h';unfold Gd;rw[VG,VG,l4,l4,z,V4];refine h'.one λy hy=>?_;have:=q y (ZG hy);rwa[<-e,ZA,bt (by omega)] at this
end
def qT:Nat->StateT SortSt Sem Unit:=sortPriv% PySem.Builtin.setMinGallop
def aE{M:Model}{A:Vv}{E:Vn->Vo->Prop}{s:Vo}{σ α:Type}{Q:α->σ->Prop}{st:σ}{c:Prop}{_:Decidable c}{x y:StateT σ Sem α}(h:c->wpS M A E s x Q st)(h':¬c->wpS M A E s y Q st):wpS M A E s (if c then x else y) Q st:=by
 by_cases d:c
 ·rw[QH d];exact h d
 ·rw[QI d];exact h' d
def oA{M:Model}{A:Vv}{E:Vn->Vo->Prop}{s:Vo}{Q:Unit->SortSt->Prop}{st st2:SortSt}{g:Nat}(sm:fZ st st2)(h:∀st3,fZ st st3->Q () st3):wpS M A E s (qT g) Q st2:=ZS (h _ (sm.gal g))
section
variable{prog:Vq}{w:Vr}{A:Vv}{E:Vn->Vo->Prop}{s:Vo}{rk:Keyed->Int}{kd:SortKind}{a₀:Array Keyed}{st:SortSt}
structure vg(rk:Keyed->Int)(a₀ a b:Array Keyed):Prop where
 na:0<a.size
 nb:0<b.size
 sa:∀i j,i<j->j<a.size->Kr rk a i<Kr rk a j
 sb:∀i j,i<j->j<b.size->Kr rk b i<Kr rk b j
 ne:∀i j,i<a.size->j<b.size->Kr rk a i≠Kr rk b j
 fb:Kr rk b 0<Kr rk a 0
 la:Kr rk b (b.size - 1)<Kr rk a (a.size - 1)
 ma:∀p∈a.toList,p∈a₀.toList
 mb:∀p∈b.toList,p∈a₀.toList
def jU{f:Nat->Int}{n:Nat}(h:∀i j,i<j->j<n->f i<f j){i j:Nat}(hij:i<=j)(hj:j<n):f i<=f j:=by
 by_cases e:i=j
 ·subst e;exact Int.le_refl _
 ·exact Int.le_of_lt (h i j (by omega) hj)
def vg.lb{a b:Array Keyed}(p:vg rk a₀ a b):∀y∈b.toList,rk y<Kr rk a (a.size - 1):=λy hy=>by
 obtain⟨j,hj,rfl⟩:=Wc.mp hy;rw[QL] at hj;have:=jU p.sb (show j<=b.size - 1 by omega) (by have:=p.nb;omega)
 rw[Array.getElem_toList,<-bt (rk:=rk) hj];exact Int.lt_of_le_of_lt this p.la
def zW{xs:Array Keyed}(h:∀i j,i<j->j<xs.size->Kr rk xs i<Kr rk xs j):xs.toList.Pairwise λx y=>rk x<rk y:=by
 rw[W2];intro i j hi hj hij;rw[QL] at hi hj;have:=h i j hij hj;rwa[bt hi,bt hj] at this
def JQ{key:Keyed}{arr:Array Keyed}{i j:Nat}(h:Kr rk arr i<=Kr rk arr j)(q:jd rk false key arr j=true):jd rk false key arr i=true:=by
 unfold jd at q ⊢;simp only[Wa,Zv,Zg,W5] at q ⊢;omega
def ER{key:Keyed}{arr:Array Keyed}{i j:Nat}(h:Kr rk arr i<=Kr rk arr j)(q:jd rk true key arr j=true):jd rk true key arr i=true:=by
 unfold jd at q ⊢;simp only[if_true,decide_eq_true_eq] at q ⊢;omega
def JS{key:Keyed}{arr:Array Keyed}{i:Nat}(h:Kr rk arr i≠rk key)(q:jd rk false key arr i=true):Kr rk arr i<rk key:=by
 unfold jd at q;simp only[Wa,Zv,Zg,W5] at q;omega
def JR{key:Keyed}{arr:Array Keyed}{i:Nat}(q:jd rk false key arr i=false):rk key<Kr rk arr i:=by
 unfold jd at q;simpa using q
def ES{key:Keyed}{arr:Array Keyed}{i:Nat}(q:jd rk true key arr i=true):Kr rk arr i<rk key:=by
 unfold jd at q;simpa using q
def AE{key:Keyed}{arr:Array Keyed}{i:Nat}(h:Kr rk arr i≠rk key)(q:jd rk true key arr i=false):rk key<Kr rk arr i:=by
 unfold jd at q;simp only[if_true,W5] at q;omega
def Mp{key:Keyed}{arr:Array Keyed}{i:Nat}(h:Kr rk arr i≠rk key)(q:jd rk true key arr i=false)(hi:i<arr.size):rk key<rk arr[i]:=by
 rw[<-bt (rk:=rk) hi];exact AE h q
def vg.ne'{a b:Array Keyed}(p:vg rk a₀ a b){i j:Nat}(hi:i<a.size)(hj:j<b.size):Kr rk b j≠rk a[i]:=by
 rw[<-bt (rk:=rk) hi];exact(p.ne i j hi hj).symm
def vh{a b:Array Keyed}{Q:Array Keyed->SortSt->Prop}(hC:Cu prog w A E s rk kd a₀)(hk:kindOf st=kd)(p:vg rk a₀ a b)
  (h:∀o st',Gd rk (a.toList++b.toList) o->fZ st st'->Q o st'):wpS (model prog w) A E s (DO a b) Q st:=by
 have na:=p.na;have nb:=p.nb;have ga:∀{i},(hi:i<a.size)->a[i]?=some a[i]:=λhi=>Wp a _ hi;have gb:∀{i},(hi:i<b.size)->b[i]?=some b[i]:=λhi=>Wp b _ hi;have ma:∀{i},(hi:i<a.size)->a[i]∈a₀.toList:=λhi=>p.ma _ (by simp)
 have mb:∀{i},(hi:i<b.size)->b[i]∈a₀.toList:=λhi=>p.mb _ (by simp)
 have ne:∀{i j},(hi:i<a.size)->(hj:j<b.size)->rk a[i]≠rk b[j]:=λ{i j} hi hj=>by
  have:=p.ne i j hi hj;rwa[bt hi,bt hj] at this
 have i0:ML rk a b #[b[0]] 0 1:=by
  have z:ML rk a b #[] 0 0:=⟨zW p.sa,zW p.sb,List.Perm.refl _⟩;exact z.puB nb na (by have:=p.fb;rwa[bt nb,bt na] at this)
 refine QJ (Xn (WH ⟨rfl,?_⟩));refine QJ (bh (gb nb) ?_);dsimp only;by_cases c1:1=b.size
 ·rw[QH (QP.mpr c1)];exact QN (h _ _ (i0.dnB c1) .rfl')
 rw[QI (λz=>c1 (QP.mp z))];by_cases c2:0+1=a.size
 ·rw[QH (QP.mpr c2)];exact QN (h _ _ (i0.lst c2 p.lb) .rfl')
 rw[QI (λz=>c2 (QP.mp z))];refine QJ (YA ?_);refine QJ (WA (VX
  (I:=λx c st'=>fZ st st'/\∃out ia ib g,c=(none,out,ia,ib,g)/\ia+1<a.size/\ib<b.size/\x<=ia+ib/\ML rk a b out ia ib)
  (Q:=λc st'=>fZ st st'/\∃o,c.1=some o/\Gd rk (a.toList++b.toList) o) ?step ?fin ⟨.rfl',_,_,_,_,rfl,by omega,by omega,by omega,i0⟩) ?post)
 case post=>
  rintro ⟨_,_⟩ st' ⟨sm,o,rfl,hg⟩
  exact QN (h _ _ hg sm)
 case fin=>
  rintro c st' ⟨sm,out,ia,ib,g,rfl,h1,h2,h3,hM⟩
  omega
 case step=>
  rintro x c st' _ hx ⟨sm,out,ia,ib,g,rfl,h1,h2,h3,hM⟩
  have hk':kindOf st'=kd:=sm.1.trans hk;refine QJ (WA (VX
   (I:=λy c st''=>st''=st'/\∃o2 i2 j2 ac bc,c=(none,o2,i2,j2,ac,bc)/\i2+1<a.size/\j2<b.size/\ia+ib+y<=i2+j2/\ML rk a b o2 i2 j2)
   (Q:=λc st''=>st''=st'/\∃rr o2 i2 j2 ac bc,c=(rr,o2,i2,j2,ac,bc)/\((∃o,rr=some o/\Gd rk (a.toList++b.toList) o)\/(rr=none/\i2+1<a.size/\j2<b.size/\ia+ib+1<=i2+j2/\ML rk a b o2 i2 j2))) ?s1 ?f1 ⟨rfl,_,_,_,_,_,rfl,h1,h2,QO _,hM⟩) ?p1)
  case f1=>
   rintro c st'' ⟨rfl,o2,i2,j2,ac,bc,rfl,q1,q2,q3,hM2⟩
   omega
  case s1=>
   rintro y c st'' _ hy ⟨rfl,o2,i2,j2,ac,bc,rfl,q1,q2,q3,hM2⟩
   have q0:i2<a.size:=by omega
   refine QJ (bh (gb q2) (QJ (bh (ga q0) (QJ (hC _ (mb q2) _ (ma q0) hk' ?_)))));by_cases less:rk b[j2]<rk a[i2]
   ·rw[QV less];refine QJ (bh (gb q2) ?_);have hM3:=hM2.puB q2 q0 less;dsimp only;by_cases e:j2+1=b.size
    ·rw[QH (QP.mpr e)];exact QN ⟨rfl,_,_,_,_,_,_,rfl,.inl ⟨_,rfl,hM3.dnB e⟩⟩
    rw[QI (λz=>e (QP.mp z))];by_cases e2:bc+1 ≥ g
    ·rw[QH e2];exact QN ⟨rfl,_,_,_,_,_,_,rfl,.inr ⟨rfl,q1,by omega,by omega,hM3⟩⟩
    rw[QI e2];exact QN ⟨rfl,_,_,_,_,_,rfl,q1,by omega,by omega,hM3⟩
   ·rw[QY less];refine QJ (bh (ga q0) ?_);have hM3:=hM2.puA q2 q0 (by have:=ne q0 q2;omega)
    dsimp only;by_cases e:i2+1+1=a.size
    ·rw[QH (QP.mpr e)];exact QN ⟨rfl,_,_,_,_,_,_,rfl,.inl ⟨_,rfl,hM3.lst e p.lb⟩⟩
    rw[QI (λz=>e (QP.mp z))];by_cases e2:ac+1 ≥ g
    ·rw[QH e2];exact QN ⟨rfl,_,_,_,_,_,_,rfl,.inr ⟨rfl,by omega,q2,by omega,hM3⟩⟩
    rw[QI e2];exact QN ⟨rfl,_,_,_,_,_,rfl,by omega,q2,by omega,hM3⟩
  case p1=>
   rintro c st'' ⟨rfl,rr,o2,i2,j2,ac,bc,rfl,⟨o,rfl,hg⟩|⟨rfl,q1,q2,q3,hM2⟩⟩
   ·exact QN ⟨sm,_,rfl,hg⟩
   refine QJ (Xn (WH ⟨rfl,?_⟩));refine QJ (WA (VX
    (I:=λy c st2=>fZ st st2/\∃o3 i3 j3 g3 ac bc,c=(none,o3,i3,j3,g3,ac,bc)/\i3+1<a.size/\j3<b.size/\i2+j2+y<=i3+j3/\ML rk a b o3 i3 j3)
    (Q:=λc st2=>fZ st st2/\∃rr o3 i3 j3 g3 ac bc,c=(rr,o3,i3,j3,g3,ac,bc)/\((∃o,rr=some o/\Gd rk (a.toList++b.toList) o)\/(rr=none/\i3+1<a.size/\j3<b.size/\i2+j2<=i3+j3/\ML rk a b o3 i3 j3))) ?s2 ?f2 ⟨sm,_,_,_,_,_,_,rfl,q1,q2,QO _,hM2⟩) ?p2)
   case f2=>
    rintro c st2 ⟨sm2,o3,i3,j3,g3,ac,bc,rfl,r1,r2,r3,hM3⟩
    omega
   case p2=>
    rintro c st2 ⟨sm2,rr,o3,i3,j3,g3,ac,bc,rfl,⟨o,rfl,hg⟩|⟨rfl,r1,r2,r3,hM3⟩⟩
    ·exact QN ⟨sm2,_,rfl,hg⟩
    exact QJ (ZS (QN ⟨sm2.gal _,_,_,_,_,rfl,r1,r2,show x+1<=i3+j3 by omega,hM3⟩))
   case s2=>
    rintro y c st2 _ hy ⟨sm2,o3,i3,j3,g3,ac,bc,rfl,r1,r2,r3,hM3⟩
    have r0:i3<a.size:=by omega
    refine aE (λ_=>?_) (λ_=>?_)
    all_goals
     refine QJ (oA sm2 λst3 sm3=>?_);have hk3:=sm3.1.trans hk;refine QJ (bh (gb r2) (QJ (fk (base:=i3) (n:=a.size - i3) hC hk3 (mb r2) p.ma (by omega) (by omega) (λi j hij hj q=>JQ (jU p.sa (by omega) (by omega)) q) λk k1 k2 k3=>?_)))
     have gA:∀i,i<k->Kr rk a (i3+i)<rk b[j3]:=λi hi=>JS (by rw[<-bt (rk:=rk) r2];exact p.ne _ _ (by omega) r2) (k2 i hi)
     have gB:(hi:i3+k<a.size)->rk b[j3]<rk a[i3+k]:=λhi=>by
      have:=JR (k3 k (QO _) (by omega))
      rwa[bt hi] at this
     refine aE (λkp=>?_) (λkz=>?_)
     rotate_left
     have hz:k=0:=by omega
     subst hz;have hM4:=hM3;have hi4:i3+0<a.size:=r0;have hi5:¬i3+0+1=a.size:=by omega
     have lt4:=gB hi4
     rotate_left
     have hM4:=hM3.chA r2 (k:=k) (by omega) gA
     refine aE (λe=>QN ⟨sm3,_,_,_,_,_,_,_,rfl,.inl ⟨_,rfl,hM4.lst (QP.mp e) p.lb⟩⟩) λe=>?_;have hi5:¬i3+k+1=a.size:=λz=>e (QP.mpr z);refine aE (λe=>QN ⟨sm3,_,_,_,_,_,_,_,rfl,.inl ⟨_,rfl,hM4.dnA (QP.mp e)⟩⟩) λe=>?_;have hi4:i3+k<a.size:=by
      have:¬i3+k=a.size:=λz=>e (QP.mpr z);omega
     have lt4:=gB hi4
     all_goals
      refine QJ (bh (gb r2) ?_);have hM5:=hM4.puB r2 hi4 lt4;refine aE (λe=>QN ⟨sm3,_,_,_,_,_,_,_,rfl,.inl ⟨_,rfl,hM5.dnB (QP.mp e)⟩⟩) λe=>?_;have hj:j3+1<b.size:=by
       have:¬j3+1=b.size:=λz=>e (QP.mpr z);omega
      refine QJ (bh (ga hi4) (QJ (fk (base:=j3+1) (n:=b.size - (j3+1)) hC hk3 (ma hi4) p.mb (by omega) (by omega) (λi j hij hj q=>ER (jU p.sb (by omega) (by omega)) q) λk' k1' k2' k3'=>?_)))
      have gA':=λi (hi:i<k')=>ES (k2' i hi);have gB':=λ(hi:j3+1+k'<b.size)=>Mp (p.ne' hi4 hi) (k3' k' (QO _) (by omega)) hi
      refine aE (λkp'=>?_) (λkz'=>?_)
      rotate_left
      have hz':k'=0:=by omega
      subst hz';have hj6:j3+1+0<b.size:=hj;have hM7:=hM5.puA hj6 hi4 (gB' hj6)
      rotate_left
      have hM6:=hM5.chB hi4 (k:=k') (by omega) gA'
      refine aE (λe=>QN ⟨sm3,_,_,_,_,_,_,_,rfl,.inl ⟨_,rfl,hM6.dnB (QP.mp e)⟩⟩) λe=>?_;have hj6:j3+1+k'<b.size:=by
       have:¬j3+1+k'=b.size:=λz=>e (QP.mpr z);omega
      have hM7:=hM6.puA hj6 hi4 (gB' hj6)
      all_goals
       refine QJ (bh (ga hi4) ?_);refine aE (λe=>QN ⟨sm3,_,_,_,_,_,_,_,rfl,.inl ⟨_,rfl,hM7.lst (QP.mp e) p.lb⟩⟩) λe=>?_;have hi7:¬_=a.size:=λz=>e (QP.mpr z);refine aE (λ_=>QN ⟨sm3,_,_,_,_,_,_,_,rfl,.inr ⟨rfl,?_,hj6,?_,hM7⟩⟩) λ_=>QN ⟨sm3,_,_,_,_,_,_,rfl,?_,hj6,?_,hM7⟩
       all_goals (dsimp only at hi7 ⊢;omega)
end
def DP:Array Keyed->Array Keyed->StateT SortSt Sem (Array Keyed):=sortPriv% PySem.Builtin.mergeHi
section
variable{rk:Keyed->Int}{a b out:Array Keyed}{na nb:Nat}
abbrev MH(rk:Keyed->Int)(a b out:Array Keyed)(na nb:Nat):Prop:=MI (λx y=>rk y<rk x) (a.toList++b.toList) out.toList (a.toList.take na).reverse (b.toList.take nb).reverse
def CO{xs:Array Keyed}{n:Nat}(h:n<xs.size):(xs.toList.take (n+1)).reverse=xs[n]::(xs.toList.take n).reverse:=by
 rw[List.take_succ,QB (by rw[QL];exact h),Zu]
 rfl
def Hb{xs:Array Keyed}{k n:Nat}(hk:k<=n)(hn:n<=xs.size):(xs.toList.take n).reverse=(xs.extract k n).toList.reverse++(xs.toList.take k).reverse:=by
 rw[dY,<-Zu,<-List.drop_take];congr 1
 conv=>lhs;rw[<-VP k (xs.toList.take n)]
 rw[List.take_take,YX hk]
def Ar{xs:Array Keyed}{k n:Nat}{p:Int->Prop}(hn:n<=xs.size)(q:∀i,k<=i->i<n->p (Kr rk xs i)):∀x∈(xs.extract k n).toList,p (rk x):=λx hx=>by
 rw[dY] at hx;by_cases c:k<=n
 ·exact yH (rk:=rk) (i:=k) (k:=n - k) (p:=p) (λj hj=>q (k+j) (by omega) (by omega)) (by omega) x hx
 ·rw[show n - k=0 by omega] at hx;cases hx
def MH.chA(h:MH rk a b out na (nb+1))(hb:nb<b.size){k:Nat}(hk:k<=na)(hn:na<=a.size)(q:∀i,k<=i->i<na->rk b[nb]<Kr rk a i):MH rk a b (out++(a.extract k na).reverse) k (nb+1):=by
 show MI _ _ (out++(a.extract k na).reverse).toList _ _;have h':MI _ _ _ _ _:=h;rw[Hb hk hn] at h';rw[CO hb] at h' ⊢;rw[VG,Zy];refine h'.chunk λx hx y hy=>?_;have hx:=Ar (p:=λz=>rk b[nb]<z) hn q x (Xt.mp hx);rcases V1.mp hy with rfl|hy
 ·exact hx
 ·exact Z6 ((Wl.mp (VL.mp h'.pb).2.1).1 y hy) hx
def MH.chB(h:MH rk a b out (na+1) nb)(ha:na<a.size){k:Nat}(hk:k<=nb)(hn:nb<=b.size)(q:∀i,k<=i->i<nb->rk a[na]<Kr rk b i):MH rk a b (out++(b.extract k nb).reverse) (na+1) k:=by
 show MI _ _ (out++(b.extract k nb).reverse).toList _ _;have h':MI _ _ _ _ _:=h;rw[Hb hk hn] at h';rw[CO ha] at h' ⊢;rw[VG,Zy];refine(h'.swap.chunk λx hx y hy=>?_).swap;have hx:=Ar (p:=λz=>rk a[na]<z) hn q x (Xt.mp hx);rcases V1.mp hy with rfl|hy
 ·exact hx
 ·exact Z6 ((Wl.mp (VL.mp h'.pa).2.1).1 y hy) hx
def vY{xs:Array Keyed}{i:Nat}(h:i<xs.size):out.push xs[i]=out++(xs.extract i (i+1)).reverse:=by
 apply toList_inj.mp;rw[toList_push,VG,Zy,dY,l5 h,V9];rfl
def MH.puA(h:MH rk a b out (na+1) (nb+1))(hb:nb<b.size)(ha:na<a.size)(q:rk b[nb]<rk a[na]):MH rk a b (out.push a[na]) na (nb+1):=by
 rw[vY ha];exact h.chA hb (le_succ _) ha λi h1 h2=>by rw[show i=na by omega,bt ha];exact q
def MH.puB(h:MH rk a b out (na+1) (nb+1))(hb:nb<b.size)(ha:na<a.size)(q:rk a[na]<rk b[nb]):MH rk a b (out.push b[nb]) (na+1) nb:=by
 rw[vY hb];exact h.chB ha (le_succ _) hb λi h1 h2=>by rw[show i=nb by omega,bt hb];exact q
def ze{L l:List Keyed}{o:Array Keyed}(e:o.toList=l.reverse)(h:l.Pairwise (λx y=>rk y<rk x)/\l.Perm L):Gd rk L o:=by
 unfold Gd;rw[e,Yp];exact⟨h.1,(YK _).trans h.2⟩
def MH.dnA(h:MH rk a b out 0 nb):Gd rk (a.toList++b.toList) (a.extract 0 0++b.extract 0 nb++out.reverse):=by
 have h':MI _ _ _ [] _:=h;refine ze ?_ h'.swap.nil;rw[VG,VG,dY,dY,Zy,Zu,Yt];rfl
def MH.dnB(h:MH rk a b out na 0):Gd rk (a.toList++b.toList) (a.extract 0 na++b.extract 0 0++out.reverse):=by
 have h':MI _ _ _ _ []:=h;refine ze ?_ h'.nil;rw[VG,VG,dY,dY,Zy,Zu,Yt];simp
def MH.fst(h:MH rk a b out na 1)(nb:0<b.size)(q:∀y∈a.toList,Kr rk b 0<rk y):Gd rk (a.toList++b.toList) (b.extract 0 1++a.extract 0 na++out.reverse):=by
 have h':MI _ _ _ _ _:=h;rw[CO (n:=0) nb,List.take_zero,List.reverse_nil] at h';refine ze ?_ (h'.swap.one λy hy=>?_)
 ·rw[VG,VG,dY,dY,Zy,Zu,Zu,Yt,l5 nb];rfl
 ·have:=q y (ZH (Xt.mp hy));rwa[bt nb] at this
end
section
variable{prog:Vq}{w:Vr}{A:Vv}{E:Vn->Vo->Prop}{s:Vo}{rk:Keyed->Int}{kd:SortKind}{a₀:Array Keyed}{st:SortSt}
def vg.fa{a b:Array Keyed}(p:vg rk a₀ a b):∀y∈a.toList,Kr rk b 0<rk y:=λy hy=>by
 obtain⟨j,hj,rfl⟩:=Wc.mp hy;rw[QL] at hj;have:=jU p.sa (VA j) hj;rw[Array.getElem_toList,<-bt (rk:=rk) hj];exact ZC p.fb this
def Lk{key:Keyed}{arr:Array Keyed}{i:Nat}(q:jd rk true key arr i=true)(hi:i<arr.size):rk arr[i]<rk key:=by
 rw[<-bt (rk:=rk) hi];exact ES q
def vi{a b:Array Keyed}{Q:Array Keyed->SortSt->Prop}(hC:Cu prog w A E s rk kd a₀)(hk:kindOf st=kd)(p:vg rk a₀ a b)
  (h:∀o st',Gd rk (a.toList++b.toList) o->fZ st st'->Q o st'):wpS (model prog w) A E s (DP a b) Q st:=by
 have na:=p.na;have nb:=p.nb;have ga:∀{i},(hi:i<a.size)->a[i]?=some a[i]:=λhi=>Wp a _ hi;have gb:∀{i},(hi:i<b.size)->b[i]?=some b[i]:=λhi=>Wp b _ hi;have ma:∀{i},(hi:i<a.size)->a[i]∈a₀.toList:=λhi=>p.ma _ (by simp)
 have mb:∀{i},(hi:i<b.size)->b[i]∈a₀.toList:=λhi=>p.mb _ (by simp)
 have ne:∀{i j},(hi:i<a.size)->(hj:j<b.size)->rk a[i]≠rk b[j]:=λ{i j} hi hj=>by
  have:=p.ne i j hi hj;rwa[bt hi,bt hj] at this
 obtain⟨i0,ei⟩:∃i0,a.size=i0+1:=⟨a.size - 1,by omega⟩
 obtain⟨j0,ej⟩:∃j0,b.size=j0+1:=⟨b.size - 1,by omega⟩
 have hi0:i0<a.size:=by omega
 have hj0:j0<b.size:=by omega
 have z0:MH rk a b #[a[i0]] i0 (j0+1):=by
  have z:MH rk a b #[] (i0+1) (j0+1):=by
   rw[<-ei,<-ej];refine⟨?_,?_,?_⟩
   ·rw[<-QL,Z8];exact Yp.mpr (zW p.sa)
   ·rw[<-QL,Z8];exact Yp.mpr (zW p.sb)
   ·rw[<-QL,<-QL,Z8,Z8];exact(YK _).append (YK _)
  refine z.puA hj0 hi0 ?_;have:=p.la;rwa[ei,ej,ZA,ZA,bt hi0,bt hj0] at this
 have e1:a.size - 1=i0:=by omega
 refine QJ (Xn (WH ⟨rfl,?_⟩));refine QJ (bh (p:=a[i0]) (by rw[e1];exact ga hi0) ?_)
 rw[e1,ej];refine aE (λc1=>?_) λc1=>?_
 ·have c1:=QP.mp c1;subst c1;exact QN (h _ _ z0.dnA .rfl')
 refine aE (λc2=>?_) λc2=>?_
 ·have c2:j0+1=1:=QP.mp c2;obtain rfl:j0=0:=by omega
  exact QN (h _ _ (z0.fst nb p.fa) .rfl')
 have c1:¬i0=0:=λz=>c1 (QP.mpr z);have c2:¬j0+1=1:=λz=>c2 (QP.mpr z);obtain⟨i1,rfl⟩:∃i1,i0=i1+1:=⟨i0 - 1,by omega⟩
 refine QJ (YA ?_);refine QJ (WA (VX
  (I:=λx c st'=>fZ st st'/\∃i j out g,c=(none,i+1,j+1,out,g)/\i<a.size/\1<=j/\j<b.size/\x+i+j<=i1+j0/\MH rk a b out (i+1) (j+1))
  (Q:=λc st'=>fZ st st'/\∃o,c.1=some o/\Gd rk (a.toList++b.toList) o) ?step ?fin ⟨.rfl',i1,j0,_,_,rfl,by omega,by omega,hj0,by omega,z0⟩) ?post)
 case post=>
  rintro ⟨_,_⟩ st' ⟨sm,o,rfl,hg⟩
  exact QN (h _ _ hg sm)
 case fin=>
  rintro c st' ⟨sm,i,j,out,g,rfl,h1,h2,h3,h4,hM⟩
  omega
 case step=>
  rintro x c st' _ hx ⟨sm,i,j,out,g,rfl,h1,h2,h3,h4,hM⟩
  have hk':kindOf st'=kd:=sm.1.trans hk;refine QJ (WA (VX
   (I:=λy c st''=>st''=st'/\∃i2 j2 o2 ac bc,c=(none,i2+1,j2+1,o2,ac,bc)/\i2<a.size/\1<=j2/\j2<b.size/\y+i2+j2<=i+j/\MH rk a b o2 (i2+1) (j2+1))
   (Q:=λc st''=>st''=st'/\∃rr i2 j2 o2 ac bc,c=(rr,i2,j2,o2,ac,bc)/\((∃o,rr=some o/\Gd rk (a.toList++b.toList) o)\/(rr=none/\∃i3 j3,i2=i3+1/\j2=j3+1/\i3<a.size/\1<=j3/\j3<b.size/\1+i3+j3<=i+j/\MH rk a b o2 (i3+1) (j3+1)))) ?s1 ?f1 ⟨rfl,i,j,_,_,_,rfl,h1,h2,h3,by omega,hM⟩) ?p1)
  case f1=>
   rintro c st'' ⟨rfl,i2,j2,o2,ac,bc,rfl,q1,q2,q3,q4,hM2⟩
   omega
  case s1=>
   rintro y c st'' _ hy ⟨rfl,i2,j2,o2,ac,bc,rfl,q1,q2,q3,q4,hM2⟩
   refine QJ (bh (gb q3) (QJ (bh (ga q1) (QJ (hC _ (mb q3) _ (ma q1) hk' ?_)))));by_cases less:rk b[j2]<rk a[i2]
   ·rw[QV less];refine QJ (bh (ga q1) ?_);have hM3:=hM2.puA q3 q1 less;refine aE (λe=>?_) λe=>?_
    ·have e:i2=0:=QP.mp e;subst e;exact QN ⟨rfl,_,_,_,_,_,_,rfl,.inl ⟨_,rfl,hM3.dnA⟩⟩
    have e:¬i2=0:=λz=>e (QP.mpr z);obtain⟨i3,rfl⟩:∃i3,i2=i3+1:=⟨i2 - 1,by omega⟩
    exact aE (λ_=>QN ⟨rfl,_,_,_,_,_,_,rfl,.inr ⟨rfl,i3,j2,rfl,rfl,by omega,q2,q3,by omega,hM3⟩⟩) λ_=>QN ⟨rfl,i3,j2,_,_,_,rfl,by omega,q2,q3,by omega,hM3⟩
   ·rw[QY less];refine QJ (bh (gb q3) ?_);have hM3:=hM2.puB q3 q1 (by have:=ne q1 q3;omega)
    refine aE (λe=>?_) λe=>?_
    ·have e:j2=1:=QP.mp e;subst e;exact QN ⟨rfl,_,_,_,_,_,_,rfl,.inl ⟨_,rfl,hM3.fst nb p.fa⟩⟩
    have e:¬j2=1:=λz=>e (QP.mpr z);obtain⟨j3,rfl⟩:∃j3,j2=j3+1:=⟨j2 - 1,by omega⟩
    exact aE (λ_=>QN ⟨rfl,_,_,_,_,_,_,rfl,.inr ⟨rfl,i2,j3,rfl,rfl,q1,by omega,by omega,by omega,hM3⟩⟩) λ_=>QN ⟨rfl,i2,j3,_,_,_,rfl,q1,by omega,by omega,by omega,hM3⟩
  case p1=>
   rintro c st'' ⟨rfl,rr,i2,j2,o2,ac,bc,rfl,⟨o,rfl,hg⟩|⟨rfl,i3,j3,rfl,rfl,q1,q2,q3,q4,hM2⟩⟩
   ·exact QN ⟨sm,_,rfl,hg⟩
   refine QJ (Xn (WH ⟨rfl,?_⟩));refine QJ (WA (VX
    (I:=λy c st2=>fZ st st2/\∃i4 j4 o4 g4 ac bc,c=(none,i4+1,j4+1,o4,g4,ac,bc)/\i4<a.size/\1<=j4/\j4<b.size/\y+i4+j4<=i3+j3/\MH rk a b o4 (i4+1) (j4+1))
    (Q:=λc st2=>fZ st st2/\∃rr i4 j4 o4 g4 ac bc,c=(rr,i4,j4,o4,g4,ac,bc)/\((∃o,rr=some o/\Gd rk (a.toList++b.toList) o)\/(rr=none/\∃i5 j5,i4=i5+1/\j4=j5+1/\i5<a.size/\1<=j5/\j5<b.size/\i5+j5<=i3+j3/\MH rk a b o4 (i5+1) (j5+1)))) ?s2 ?f2 ⟨sm,i3,j3,_,_,_,_,rfl,q1,q2,q3,by omega,hM2⟩) ?p2)
   case f2=>
    rintro c st2 ⟨sm2,i4,j4,o4,g4,ac,bc,rfl,r1,r2,r3,r4,hM3⟩
    omega
   case p2=>
    rintro c st2 ⟨sm2,rr,i4,j4,o4,g4,ac,bc,rfl,⟨o,rfl,hg⟩|⟨rfl,i5,j5,rfl,rfl,r1,r2,r3,r4,hM3⟩⟩
    ·exact QN ⟨sm2,_,rfl,hg⟩
    exact QJ (oA sm2 λst3 sm3=>QN ⟨sm3,i5,j5,_,_,rfl,r1,r2,r3,by omega,hM3⟩)
   case s2=>
    rintro y c st2 _ hy ⟨sm2,i4,j4,o4,g4,ac,bc,rfl,r1,r2,r3,r4,hM3⟩
    refine aE (λ_=>?_) (λ_=>?_)
    all_goals
     refine QJ (oA sm2 λst3 sm3=>?_);have hk3:=sm3.1.trans hk;refine QJ (bh (gb r3) (QJ (fk (base:=0) (n:=i4+1) (hint:=i4) hC hk3 (mb r3) p.ma (by omega) (by omega) (λi j hij hj q=>JQ (jU p.sa (by omega) (by omega)) q) λk k1 k2 k3=>?_)))
     simp only[Z7] at k2 k3;have gA:∀i,k<=i->i<i4+1->rk b[j4]<Kr rk a i:=λi h1 h2=>JR (k3 i h1 h2);have gB:∀i (hi:i<a.size),i<k->rk a[i]<rk b[j4]:=λi hi hik=>by
      have:=JS (by rw[<-bt (rk:=rk) r3];exact p.ne _ _ hi r3) (k2 i hik)
      rwa[bt hi] at this
     have hM4:=hM3.chA r3 k1 r1 gA;refine aE (λkp=>?_) (λkz=>?_)
     rotate_left
     have kz:¬i4+1 - k > 0:=kz;obtain⟨k',rfl⟩:∃k',k=k'+1:=⟨k - 1,by omega⟩
     obtain rfl:k'=i4:=by omega
     have hM5:=hM3;have lt5:=gB k' r1 (Wz _);have hi5:=r1;have pg:k'<=k':=QO _
     rotate_left
     refine aE (λe=>?_) λe=>?_
     ·have e:k=0:=QP.mp e;subst e;exact QN ⟨sm3,_,_,_,_,_,_,_,rfl,.inl ⟨_,rfl,hM4.dnA⟩⟩
     have e:¬k=0:=λz=>e (QP.mpr z);obtain⟨k',rfl⟩:∃k',k=k'+1:=⟨k - 1,by omega⟩
     have hM5:=hM4;have hi5:k'<a.size:=by omega
     have lt5:=gB k' hi5 (Wz _);have pg:k'<=i4:=by omega
     all_goals
      clear gA gB hM4 k2 k3;refine QJ (bh (gb r3) ?_);have hM6:=hM5.puB r3 hi5 lt5;refine aE (λe=>?_) λe=>?_
      ·have e:j4=1:=QP.mp e;subst e;exact QN ⟨sm3,_,_,_,_,_,_,_,rfl,.inl ⟨_,rfl,hM6.fst nb p.fa⟩⟩
      have e:¬j4=1:=λz=>e (QP.mpr z);obtain⟨j5,rfl⟩:∃j5,j4=j5+1:=⟨j4 - 1,by omega⟩
      refine QJ (bh (ga hi5) (QJ (fk (base:=0) (n:=j5+1) (hint:=j5) hC hk3 (ma hi5) p.mb (by omega) (by omega) (λi j hij hj q=>ER (jU p.sb (by omega) (by omega)) q) λm m1 m2 m3=>?_)))
      simp only[Z7] at m2 m3;have gB':=λi (hi:i<b.size) (him:i<m)=>Lk (m2 i him) hi;have hM7:=hM6.chB hi5 m1 (by omega) λi h1 h2=>AE (p.ne' hi5 (by omega)) (m3 i h1 h2)
      refine aE (λkp'=>?_) (λkz'=>?_)
      rotate_left
      have kz':¬j5+1 - m > 0:=kz';obtain⟨m',rfl⟩:∃m',m=m'+1:=⟨m - 1,by omega⟩
      obtain rfl:m'=j5:=by omega
      have hj8:m'<b.size:=by omega
      have hj9:1<=m':=by omega
      have pj:m'<=m':=QO _;have hM9:=hM6.puA hj8 hi5 (gB' m' hj8 (Wz _))
      rotate_left
      refine aE (λe=>?_) λe1=>?_
      ·have e:m=1:=QP.mp e;subst e;exact QN ⟨sm3,_,_,_,_,_,_,_,rfl,.inl ⟨_,rfl,hM7.fst nb p.fa⟩⟩
      refine aE (λe=>?_) λe0=>?_
      ·have e:m=0:=QP.mp e;subst e;exact QN ⟨sm3,_,_,_,_,_,_,_,rfl,.inl ⟨_,rfl,hM7.dnB⟩⟩
      have e1:¬m=1:=λz=>e1 (QP.mpr z);have e0:¬m=0:=λz=>e0 (QP.mpr z);obtain⟨m',rfl⟩:∃m',m=m'+1:=⟨m - 1,by omega⟩
      have hj8:m'<b.size:=by omega
      have hj9:1<=m':=by omega
      have pj:m'<=j5:=by omega
      have hM9:=hM7.puA hj8 hi5 (gB' m' hj8 (Wz _))
      all_goals
       refine QJ (bh (ga hi5) ?_);refine aE (λe=>?_) λe=>?_
       ·have e:k'=0:=QP.mp e;subst e;exact QN ⟨sm3,_,_,_,_,_,_,_,rfl,.inl ⟨_,rfl,hM9.dnA⟩⟩
       have e:¬k'=0:=λz=>e (QP.mpr z);obtain⟨i9,rfl⟩:∃i9,k'=i9+1:=⟨k' - 1,by omega⟩
       exact aE (λ_=>QN ⟨sm3,_,_,_,_,_,_,_,rfl,.inr ⟨rfl,i9,m',rfl,rfl,by omega,hj9,hj8,by omega,hM9⟩⟩) λ_=>QN ⟨sm3,i9,m',_,_,_,_,rfl,by omega,hj9,hj8,by omega,hM9⟩
end
section
variable{rk:Keyed->Int}
abbrev Pw(rk:Keyed->Int)(l:List Keyed):Prop:=l.Pairwise λx y=>rk x<rk y
def AJ{a:Array Keyed}{P A S:List Keyed}(h:a.toList=P++(A++S)){i:Nat}(hi:i<A.length):Kr rk a (P.length+i)=rk A[i]:=by
 refine AK ?_;rw[<-VO,h,VR (by omega),V9,VV hi,QB hi]
def Eb{xs:Array Keyed}(h:Pw rk xs.toList):∀i j,i<j->j<xs.size->Kr rk xs i<Kr rk xs j:=λi j hij hj=>by
 rw[bt (YY hij hj),bt hj];exact W2.mp h i j (YY hij hj) hj hij
theorem zX{s:Nat}{f:Array Keyed->Keyed×Nat->Array Keyed}(hf:∀a p j,f a (p,j)=a.setIfInBounds (s+j) p):∀(l:List Keyed)(n:Nat)(a:Array Keyed),s+n+l.length<=a.size->
  ((l.zipIdx n).foldl f a).toList=a.toList.take (s+n)++(l++a.toList.drop (s+n+l.length))
 |[],n,a,_=>(VP _ _).symm
 |p::l,n,a,h=>by
  rw[List.zipIdx_cons,YS,hf];have hl:s+n<a.toList.length:=by rw[QS] at h;rw[QL];omega
  rw[zX hf l (n+1) _ (by rw[Xu];rw[QS] at h;omega),Xl,<-YF,List.drop_set_of_lt (by omega),List.set_eq_take_append_cons_drop,QH hl,
   List.take_append,We,YX (W7 hl),List.take_take,Nat.min_eq_right (le_succ _),V9,List.take_succ_cons,List.take_zero,V4,QS,Nat.add_right_comm,YF _ _ 1]
  rfl
end
def nA{rk:Keyed->Int}{a:Array Keyed}{b c i:Nat}(h:b+i<c)(hc:c<=a.size):Kr rk (a.extract b c) i=Kr rk a (b+i):=by
 refine jg ?_;rw[Array.getElem?_extract,QH (by omega)]
section
variable{prog:Vq}{w:Vr}{A:Vv}{E:Vn->Vo->Prop}{s:Vo}{rk:Keyed->Int}{kd:SortKind}{a₀:Array Keyed}{st:SortSt}
def vj{i sa na sb nb pw pw2:Nat}{P U V S:List Keyed}{Q:Bool->SortSt->Prop}(hC:Cu prog w A E s rk kd a₀)(hk:kindOf st=kd)(hf:failedOf st=none)
  (h1:(pendingOf st)[i]?=some (sa,na,pw)) (h2:(pendingOf st)[i+1]?=some (sb,nb,pw2))
  (ha:(arrOf st).toList=P++(U++(V++S))) (e1:sa=P.length) (e2:na=U.length) (e3:sb=sa+na) (e4:nb=V.length)
  (nu:0<na) (nv:0<nb) (pu:Pw rk U) (pv:Pw rk V) (df:∀x∈U,∀y∈V,rk x≠rk y) (hm:∀p∈(arrOf st).toList,p∈a₀.toList)
  (h:∀st' C,kindOf st'=kd->failedOf st'=none->pendingOf st'=((pendingOf st).setIfInBounds i (sa,na+nb,pw)).eraseIdxIfInBounds (i+1)->(arrOf st').toList=P++(C++S)->Pw rk C->C.Perm (U++V)->Q true st'):
  wpS (model prog w) A E s (mergeAt' i) Q st:=by
 subst e1 e2 e4 e3;have hsz:(arrOf st).size=P.length+(U.length+(V.length+S.length)):=by rw[<-QL,ha,QE,QE,QE]
 have ha2:(arrOf st).toList=(P++U)++(V++S):=by rw[ha,V4]
 have kU:∀i,(hi:i<U.length)->Kr rk (arrOf st) (P.length+i)=rk U[i]:=λi hi=>AJ ha hi;have kV:∀i,(hi:i<V.length)->Kr rk (arrOf st) (P.length+U.length+i)=rk V[i]:=λi hi=>by rw[<-QE];exact AJ ha2 hi
 have uu:∀i j,i<j->j<U.length->Kr rk (arrOf st) (P.length+i)<Kr rk (arrOf st) (P.length+j):=λi j hij hj=>by
  rw[kU i (by omega),kU j hj];exact W2.mp pu i j (by omega) hj hij
 have vv:∀i j,i<j->j<V.length->Kr rk (arrOf st) (P.length+U.length+i)<Kr rk (arrOf st) (P.length+U.length+j):=λi j hij hj=>by
  rw[kV i (by omega),kV j hj];exact W2.mp pv i j (by omega) hj hij
 have gV:(arrOf st)[P.length+U.length]?=some V[0]:=by
  rw[<-VO,ha2,VR (by rw[QE];omega),QE,sub_self,VV nv,QB nv]
 have mU:∀p∈U,p∈a₀.toList:=λp hp=>hm p (by rw[ha];simp[hp])
 have mV:∀p∈V,p∈a₀.toList:=λp hp=>hm p (by rw[ha];simp[hp])
 refine QJ (YA ?_);rw[h1,h2];dsimp only;refine QJ (ZS ?_);refine QJ (bh gV (QJ (fk (base:=P.length) (n:=U.length) hC (by exact hk) (mV _ (VM nv)) hm (by omega) nu (λi j hij hj q=>JQ (jU uu hij hj) q) λk k1 k2 k3=>?_)))
 have lU:∀i,i<k->Kr rk (arrOf st) (P.length+i)<rk V[0]:=λi hi=>JS (by rw[kU i (by omega)];exact df _ (VM _) _ (VM nv)) (k2 i hi)
 have lV:∀y∈V,rk V[0]<=rk y:=λy hy=>by
  obtain⟨j,hj,rfl⟩:=Wc.mp hy;have:=jU vv (VA j) hj;rwa[kV 0 nv,kV j hj] at this
 have tk:∀x∈U.take k,∀y∈V,rk x<rk y:=λx hx y hy=>by
  obtain⟨j,hj,rfl⟩:=Wc.mp hx;rw[We] at hj;rw[YJ];have:=lU j (by omega)
  rw[kU j (by omega)] at this
  exact ZC this (lV y hy)
 dsimp only;refine aE (λe=>QN (h _ (U++V) hk hf rfl (by rw[V4];exact ha) ?_ (List.Perm.refl _))) λe=>?_
 ·have e:k=U.length:=by have:=QP.mp e;omega
  rw[e,Z8] at tk;exact VL.mpr ⟨pu,pv,tk⟩
 have hku:k<U.length:=by have:¬U.length - k=0:=λz=>e (QP.mpr z);omega
 have nl:U.length - 1<U.length:=by omega
 have gU:(arrOf st)[P.length+k+(U.length - k) - 1]?=some U[U.length - 1]:=by
  rw[show P.length+k+(U.length - k) - 1=P.length+(U.length - 1) by omega,<-VO,ha,VR (by omega),V9,VV nl,QB nl]
 have gt:rk V[0]<Kr rk (arrOf st) (P.length+k):=JR (k3 k (QO _) hku);have gt2:rk V[0]<rk U[U.length - 1]:=by
  rw[<-kU _ nl];exact ZC gt (jU uu (by omega) nl)
 refine QJ (bh gU (QJ (fk (base:=P.length+U.length) (n:=V.length) hC (by exact hk) (mU _ (VM nl)) hm (by omega) (by omega) (λi j hij hj q=>ER (jU vv hij hj) q) λm m1 m2 m3=>?_)))
 dsimp only;have m0:0<m:=by
  refine Nat.pos_of_ne_zero λz=>?_;subst z;have:=AE (by rw[kV 0 nv];exact(df _ (VM nl) _ (VM nv)).symm) (m3 0 (QO _) nv)
  rw[kV 0 nv] at this;exact Int.lt_irrefl _ (Z6 gt2 this)
 refine aE (λe=>absurd (QP.mp e) (ne_of_gt m0)) λ_=>?_;have hx:((arrOf st).extract (P.length+k) (P.length+U.length)).toList=U.drop k:=by
  rw[dY,ha,Xv,W3 (by omega),V9,YT,YU (by omega),Zz (by rw[Ws];omega),Zt (by rw[Ws];omega)]
 have hy:((arrOf st).extract (P.length+U.length) (P.length+U.length+m)).toList=V.take m:=by
  rw[dY,ha2,Xv,W3 (by rw[QE];omega),QE,sub_self,YT,List.drop_zero,Zz (by omega),V9]
 have sx:((arrOf st).extract (P.length+k) (P.length+U.length)).size=U.length - k:=by rw[<-QL,hx,Ws]
 have sy:((arrOf st).extract (P.length+U.length) (P.length+U.length+m)).size=m:=by rw[<-QL,hy,We];omega
 have p:vg rk a₀ ((arrOf st).extract (P.length+k) (P.length+U.length)) ((arrOf st).extract (P.length+U.length) (P.length+U.length+m)):=by
  refine⟨by omega,by omega,Eb (by rw[hx];exact VY (YI _ _) pu),Eb (by rw[hy];exact VY (Xc _ _) pv),λi j hi hj=>?_,?_,?_,λp hp=>mU p (ZG (by rw[hx] at hp;exact hp)),λp hp=>mV p (ZH (by rw[hy] at hp;exact hp))⟩
  ·rw[nA (by omega) (by omega),nA (by omega) (by omega),YF,kU _ (by omega),kV _ (by omega)]
   exact df _ (VM _) _ (VM _)
  ·rw[nA (by omega) (by omega),nA (by omega) (by omega),kV 0 nv];exact gt
  ·rw[sx,sy,nA (by omega) (by omega),nA (by omega) (by omega),show P.length+k+(U.length - k - 1)=P.length+(U.length - 1) by omega,kU _ nl]
   exact ES (m2 (m - 1) (by omega))
 have dr:∀x∈U,∀y∈V.drop m,rk x<rk y:=λx hx y hy=>by
  obtain⟨j,hj,rfl⟩:=Wc.mp hy;obtain⟨i,hi,rfl⟩:=Wc.mp hx;rw[Ws] at hj;rw[Xe];have a1:=AE (by rw[kV (m+j) (by omega)];exact(df _ (VM nl) _ (VM _)).symm) (m3 (m+j) (by omega) (by omega))
  have a2:=jU uu (show i<=U.length - 1 by omega) nl
  rw[kV (m+j) (by omega)] at a1
  rw[kU i hi,kU _ nl] at a2;exact Int.lt_of_le_of_lt a2 a1
 refine aE (λ_=>QJ (vh hC (by exact hk) p λo st' g sm=>?_)) λ_=>QJ (vi hC (by exact hk) p λo st' g sm=>?_)
 all_goals
  refine QJ (ZS (QJ (YA (QN ?_))));have hfn:failedOf st'=none:=sm.2.2.2.trans hf;have g2:=g.2;rw[hx,hy] at g2;have lo:o.toList.length=U.length - k+m:=by rw[g2.length_eq,QE,Ws,We];omega
  have hst:arrOf st'=arrOf st:=sm.2.1;show Q (Option.isNone (failedOf st')) _;rw[hfn];refine h _ (U.take k++(o.toList++V.drop m)) (sm.1.trans hk) hfn sm.2.2.1 ?_ ?_ ?_
  ·refine(zX (s:=P.length+k) (λ_ _ _=>rfl) o.toList 0 (arrOf st') (by rw[lo,hst];omega)).trans ?_
   rw[hst,lo,ha,add_zero,List.take_append,Zt (by omega),V9,Zz (by omega),Xv,W3 (by omega),YT,
    show P.length+k+(U.length - k+m) - P.length=U.length+m by omega,Xv,W3 (by omega),YT,V9,YU (by omega)]
   simp only[V4]
  ·show List.Pairwise _ _;rw[VL,VL];have hmo:∀z∈o.toList,z∈U.drop k\/z∈V.take m:=λz hz=>VQ.mp (g2.mem_iff.mp hz);have ud:Pw rk (U.take k++U.drop k):=by rw[VP];exact pu
   have vd:Pw rk (V.take m++V.drop m):=by rw[VP];exact pv
   refine⟨VY (Xc _ _) pu,⟨g.1,VY (YI _ _) pv,λx hx y hy=>?_⟩,λx hx y hy=>?_⟩
   ·rcases hmo x hx with q|q
    ·exact dr x (ZG q) y hy
    ·exact(VL.mp vd).2.2 x q y hy
   ·rcases VQ.mp hy with hy|hy
    ·rcases hmo y hy with q|q
     ·exact(VL.mp ud).2.2 x hx y q
     ·exact tk x hx y (ZH q)
    ·exact tk x hx y (ZG hy)
  ·refine(WB _ (g2.append_right _)).trans ?_;rw[V4,VP,<-V4,VP]
end
def DM{xs:Array Keyed}{i j:Nat}(hj:j<=xs.size){k:Nat}(h:i<=k/\k<j):(mirror xs i j ((j - i) / 2))[k]?=xs[i+j - 1 - k]?:=by
 have:=getElem?_mirror_all (i:=i) hj k;rw[QH h] at this;exact this
def Gj{xs:Array Keyed}{i j:Nat}(hj:j<=xs.size){k:Nat}(h:¬(i<=k/\k<j)):(mirror xs i j ((j - i) / 2))[k]?=xs[k]?:=by
 have:=getElem?_mirror_all (i:=i) hj k;rw[QI h] at this;exact this
def md{l r:Nat}(h:l<r):l<=(l+r) / 2/\(l+r) / 2<r:=⟨by omega,by omega⟩
structure SR(a₀ a₁:Array Keyed)(kd:SortKind)(p:Array (Nat×Nat×Nat))(lo:Nat)(st:SortSt):Prop where
 perm:(arrOf st).Perm a₀
 kind:kindOf st=kd
 fail:failedOf st=none
 pend:pendingOf st=p
 keep:∀i,i<lo->(arrOf st)[i]?=a₁[i]?
def EY(rk:Keyed->Int)(a:Array Keyed)(lo n:Nat):Prop:=∀i j,i<j->j<n->Kr rk a (lo+i)<Kr rk a (lo+j)
def MA(rk:Keyed->Int)(a:Array Keyed)(lo n:Nat):Prop:=∀i j,i<j->j<n->Kr rk a (lo+j)<Kr rk a (lo+i)
section
variable{prog:Vq}{w:Vr}{A:Vv}{E:Vn->Vo->Prop}{s:Vo}{rk:Keyed->Int}{kd:SortKind}{a₀ a₁:Array Keyed}{p:Array (Nat×Nat×Nat)}{lo:Nat}{st:SortSt}
theorem SR.size(h:SR a₀ a₁ kd p lo st):(arrOf st).size=a₀.size:=h.perm.size_eq
def SR.mem(h:SR a₀ a₁ kd p lo st):∀q∈(arrOf st).toList,q∈a₀.toList:=λq hq=>(WW.mp h.perm).mem_iff.mp hq
def SR.setA(h:SR a₀ a₁ kd p lo st){xs:Array Keyed}(hp:xs.Perm (arrOf st))(hk:∀i,i<lo->xs[i]?=(arrOf st)[i]?):SR a₀ a₁ kd p lo (setArr st xs):=
 ⟨hp.trans h.perm,h.kind,h.fail,h.pend,λi hi=>(hk i hi).trans (h.keep i hi)⟩
theorem EX{a:Array Keyed}(hp:a.Perm a₀)(hd:(a₀.toList.map rk).Nodup){i j:Nat}(hi:i<a.size)(hj:j<a.size)(h:i≠j):Kr rk a i≠Kr rk a j:=λe=>by
 rw[bt hi,bt hj] at e;have n:(a.toList.map rk).Nodup:=((WW.mp hp).map rk).nodup_iff.mpr hd;refine h ((YM (h₀:=by simpa using hi) (h₁:=by simpa using hj) n).mp ?_)
 simpa using e
theorem lP{i j:Nat}{Q:Option Bool->SortSt->Prop}(hC:Cu prog w A E s rk kd a₀)(h:SR a₀ a₁ kd p lo st)(hi:i<a₀.size)(hj:j<a₀.size)(q:Q (some (decide (Kr rk (arrOf st) i<Kr rk (arrOf st) j))) st):wpS (model prog w) A E s (ltAt' i j) Q st:=by
 rw[<-h.size] at hi hj;rw[bt hi,bt hj] at q;exact QJ (YA (QJ (bh (Wp _ i hi) (QJ (bh (Wp _ j hj) (hC _ (h.mem _ (by simp)) _ (h.mem _ (by simp)) h.kind q))))))
def Cz{k l:Nat}{Q:Unit->SortSt->Prop}(h:Q () (setArr st (bubble (arrOf st) (lo+k) (k - l)))):wpS (model prog w) A E s (moveDown' (lo+k) (lo+l)) Q st:=by
 rw[moveDown'_eq,Nat.add_sub_add_left];exact ZS h
theorem F3{n ok:Nat}{Q:Bool->SortSt->Prop}(hC:Cu prog w A E s rk kd a₀)(hd:(a₀.toList.map rk).Nodup)(hn:lo+n<=a₀.size)(h1:1<=ok)(hok:ok<=n)(hB:SR a₀ a₁ kd p lo st)(hs:EY rk (arrOf st) lo ok)
  (h:∀st',SR a₀ a₁ kd p lo st'->EY rk (arrOf st') lo n->Q true st'):wpS (model prog w) A E s (binarySort' lo n ok) Q st:=by
 refine QJ (WA (VX (I:=λk c st'=>c=(none,())/\SR a₀ a₁ kd p lo st'/\EY rk (arrOf st') lo k)
  (Q:=λc st'=>c=(none,())/\SR a₀ a₁ kd p lo st'/\EY rk (arrOf st') lo n) ?step ?fin ?init) ?post)
 case post=>
  rintro c st' ⟨rfl,hB',hs'⟩
  exact QN (h st' hB' hs')
 case init=>
  rw[Nat.max_eq_left h1];exact⟨rfl,hB,hs⟩
 case fin=>
  rintro c st' ⟨hc,hB',hs'⟩
  rw[Nat.max_eq_left h1,Yb hok] at hs';exact⟨hc,hB',hs'⟩
 case step=>
  rintro k c st' hak hkn ⟨rfl,hB',hs'⟩
  have hk:lo+k<a₀.size:=by omega
  have le:∀i j,i<=j->j<k->Kr rk (arrOf st') (lo+i)<=Kr rk (arrOf st') (lo+j):=λi j hij hj=>jU (f:=λi=>Kr rk (arrOf st') (lo+i)) hs' hij hj;refine QJ (WA (VX (I:=λx c st''=>st''=st'/\∃l r,c=(none,l,r)/\l<=r/\r<=k/\r+x<=l+k/\
    (∀i,i<l->Kr rk (arrOf st') (lo+i)<=Kr rk (arrOf st') (lo+k))/\(∀i,r<=i->i<k->Kr rk (arrOf st') (lo+k)<Kr rk (arrOf st') (lo+i)))
   (Q:=λc st''=>st''=st'/\∃l r,c=(none,l,r)/\l<=k/\
    (∀i,i<l->Kr rk (arrOf st') (lo+i)<=Kr rk (arrOf st') (lo+k))/\(∀i,l<=i->i<k->Kr rk (arrOf st') (lo+k)<Kr rk (arrOf st') (lo+i))) ?istep ?ifin ?iinit) ?ipost)
  case iinit=>exact⟨rfl,0,k,rfl,VA _,QO _,Ym (Z7 k).symm,λi hi=>absurd hi (Nat.not_lt_zero i),λi h1 h2=>absurd h2 (Yh.mpr h1)⟩
  case ifin=>
   rintro c st'' ⟨rfl,l,r,rfl,hlr,hrk,hm,hlo,hhi⟩
   rw[Yb (VA k)] at hm;cases Xb hlr (Nat.le_of_add_le_add_right hm);exact⟨rfl,l,l,rfl,hrk,hlo,hhi⟩
  case istep=>
   rintro x c st'' _ hxk ⟨rfl,l,r,rfl,hlr,hrk,hm,hlo,hhi⟩
   refine aE (λhge=>?_) λhge=>?_
   ·cases Xb hlr hge;exact QN ⟨rfl,l,l,rfl,hrk,hlo,hhi⟩
   ·obtain⟨m1,m2⟩:=md (l:=l) (r:=r) (Nat.not_le.mp hge);have mk:=QZ m2 hrk;refine QJ (lP hC hB' hk (YY (Nat.add_lt_add_left mk lo) hk) ?_);refine aE (λz=>QN ⟨rfl,l,(l+r) / 2,rfl,m1,W7 mk,?_,hlo,λi h1 h2=>ZC (Wx z) (le _ _ h1 h2)⟩) λz=>QN ⟨rfl,(l+r) / 2+1,r,rfl,m2,hrk,?_,λi h1=>Int.le_trans (le i _ (YH h1) mk) (Ye.mp λy=>z (QV y)),hhi⟩
    ·generalize (l+r) / 2=m at m1 m2;omega
    ·generalize (l+r) / 2=m at m1 m2 ⊢;omega
  case ipost=>
   rintro c st'' ⟨rfl,l,r,rfl,hlk,hlo,hhi⟩
   have hks:lo+k<(arrOf st'').size:=by rw[hB'.size];exact hk
   have bub:∀i,(bubble (arrOf st'') (lo+k) (k - l))[i]?=if i=lo+l then(arrOf st'')[lo+k]? else if lo+l<i/\i<=lo+k then(arrOf st'')[i - 1]? else(arrOf st'')[i]?:=λi=>by
    have e:=getElem?_bubble hks (k - l) (by omega) i
    rw[show lo+k - (k - l)=lo+l by omega] at e
    exact e
   have b1:Kr rk (bubble (arrOf st'') (lo+k) (k - l)) (lo+l)=Kr rk (arrOf st'') (lo+k):=jg (by rw[bub,QH rfl])
   have b2:∀i,l<=i->i<k->Kr rk (bubble (arrOf st'') (lo+k) (k - l)) (lo+(i+1))=Kr rk (arrOf st'') (lo+i):=λi h1 h2=>jg (by rw[bub,QI (by omega),QH (by omega)];rfl)
   have b3:∀i,i<l->Kr rk (bubble (arrOf st'') (lo+k) (k - l)) (lo+i)=Kr rk (arrOf st'') (lo+i):=λi h1=>jg (by rw[bub,QI (by omega),QI (by omega)])
   have sc:∀{j},¬j<l->¬l=j->∃j',j=j'+1/\l<=j':=λ{j} c2 c3=>match j with
    |0=>absurd (Xb (Yh.mp c2) (VA l)) c3
    |j+1=>⟨j,rfl,YH (Nat.lt_of_le_of_ne (Yh.mp c2) c3)⟩
   refine QJ (Cz (QN ⟨rfl,hB'.setA (bubble_perm _ _ _) λi hi=>by rw[bub,QI (by omega),QI (by omega)],?_⟩))
   intro i j hij hj;show Kr rk (bubble _ _ _) _<Kr rk (bubble _ _ _) _;by_cases c1:i<l
   ·rw[b3 i c1];by_cases c2:j<l
    ·rw[b3 j c2];exact hs' i j hij (QZ c2 hlk)
    ·by_cases c3:l=j
     ·subst c3;rw[b1];exact Zx.mpr ⟨hlo i c1,EX hB'.perm hd (by omega) hks (by omega)⟩
     ·obtain⟨j,rfl,d1⟩:=sc c2 c3;rw[b2 j d1 (Zh hj)];exact hs' i j (QZ c1 d1) (Zh hj)
   ·have hl:=Za (Yh.mp c1) hij;obtain⟨j,rfl,d1⟩:=sc (Yh.mpr (W7 hl)) (V7 hl);have d2:=Zh hj;rw[b2 j d1 d2];by_cases c3:l=i
    ·subst c3;rw[b1];exact hhi j d1 d2
    ·obtain⟨i,rfl,d3⟩:=sc c1 c3;have d4:=Zh hij;rw[b2 i d3 (YY d4 d2)];exact hs' i j d4 d2
end
section
variable{prog:Vq}{w:Vr}{A:Vv}{E:Vn->Vo->Prop}{s:Vo}{rk:Keyed->Int}{kd:SortKind}{a₀ a₁:Array Keyed}{p:Array (Nat×Nat×Nat)}{lo:Nat}{st:SortSt}
def Mq(lo a nrem:Nat):StateT SortSt Sem AscSt:=forIn [a:nrem] ((none,a):AscSt) λ_ c=>ltAt' (lo+c.2) (lo+c.2 - 1) >>= λy=>match y with
 |some l=>if l=true then pure (ForInStep.done (none,c.2)) else pure (ForInStep.yield (none,c.2+1))
 |_=>pure (ForInStep.done (some none,c.2))
theorem Ea{a:Array Keyed}{x:Nat}(h:EY rk a lo x)(h1:1<=x)(q:Kr rk a (lo+x - 1)<Kr rk a (lo+x)):EY rk a lo (x+1):=λi j hij hj=>by
 by_cases c:j<x
 ·exact h i j hij c
 ·have e:j=x:=by omega
  subst e;by_cases d:i=j - 1
  ·subst d;rwa[Yi h1] at q
  ·have:=h i (j - 1) (by omega) (by omega)
   rw[<-Yi h1] at this;exact Z6 this q
theorem zH{a nrem:Nat}{Q:AscSt->SortSt->Prop}(hC:Cu prog w A E s rk kd a₀)(hd:(a₀.toList.map rk).Nodup)(hn:lo+nrem<=a₀.size)(ha:1<=a)(han:a<=nrem)(hB:SR a₀ a₁ kd p lo st)(hs:EY rk (arrOf st) lo a)
  (h:∀n,a<=n->n<=nrem->EY rk (arrOf st) lo n->(n=nrem\/Kr rk (arrOf st) (lo+n)<Kr rk (arrOf st) (lo+n - 1))->Q (none,n) st):
  wpS (model prog w) A E s (Mq lo a nrem) Q st:=by
 refine VX (I:=λx c st'=>st'=st/\c=(none,x)/\EY rk (arrOf st) lo x) ?step ?fin ⟨rfl,rfl,hs⟩
 case fin=>
  rintro c st' ⟨rfl,rfl,hs'⟩
  rw[Yb han] at hs' ⊢;exact h nrem han (QO _) hs' (.inl rfl)
 case step=>
  rintro x c st' hax hxn ⟨rfl,rfl,hs'⟩
  have z:lo+x<(arrOf st').size:=by rw[hB.size];omega
  refine QJ (lP hC hB (by omega) (by omega) ?_)
  refine aE (λl=>QN (h x hax (W7 hxn) hs' (.inr (Wx l)))) λl=>QN ⟨rfl,rfl,Ea hs' (V5 ha hax) ?_⟩;refine Zx.mpr ⟨Ye.mp λy=>l (QV y),EX hB.perm hd (by omega) z (by omega)⟩
theorem AM{nrem:Nat}{Q:Option Nat->SortSt->Prop}(hC:Cu prog w A E s rk kd a₀)(hd:(a₀.toList.map rk).Nodup)(hn:lo+nrem<=a₀.size)(h1:1<=nrem)(hB:SR a₀ a₁ kd p lo st)
  (h:∀m st',SR a₀ a₁ kd p lo st'->1<=m->m<=nrem->EY rk (arrOf st') lo m->Q (some m) st'):
  wpS (model prog w) A E s (countRun' lo nrem) Q st:=by
 refine QJ (zH hC hd hn (QO 1) h1 hB (λi j hij hj=>by omega) λn hn1 hn2 hsn hor=>?_)
 refine aE (λ_=>QN (h n st hB hn1 hn2 hsn)) λc=>?_;have hlt:=hor.resolve_left λz=>c (QP.mpr z);have hnn:n<nrem:=Nat.lt_of_le_of_ne hn2 λz=>c (QP.mpr z);refine aE (λc2=>?_) λc2=>?_
 ·refine QJ (lP hC hB (by omega) (by omega) ?_)
  have:=hsn 0 (n - 1) (by omega) (by omega)
  rw[add_zero,<-Yi hn1] at this;rw[QV this];exact QN (h n st hB hn1 hn2 hsn)
 have e:n=1:=by omega
 subst e;have d2:MA rk (arrOf st) lo (1+1):=λi j hij hj=>by
  rw[show i=0 by omega,show j=1 by omega];exact hlt
 refine QJ (Xn (WH ⟨rfl,?_⟩));refine QJ (WA (VX (I:=λx c st'=>st'=st/\c=(none,x,0)/\MA rk (arrOf st) lo x)
  (Q:=λc st'=>st'=st/\∃m,c=(none,m,0)/\1<=m/\m<=nrem/\MA rk (arrOf st) lo m) ?step ?fin ⟨rfl,rfl,d2⟩) ?post)
 case fin=>
  rintro c st' ⟨rfl,rfl,hs⟩
  rw[Yb (by omega)] at hs ⊢
  exact⟨rfl,_,rfl,h1,QO _,hs⟩
 case step=>
  rintro x c st' hx hxn ⟨rfl,rfl,hs⟩
  have hx:2<=x:=hx;dsimp only;have z:lo+x<(arrOf st').size:=by rw[hB.size];omega
  refine QJ (lP hC hB (by omega) (by omega) ?_)
  refine aE (λl=>?_) λl=>?_
  ·refine aE (λy=>absurd y (Wo 0)) λ_=>QN ⟨rfl,rfl,λi j hij hj=>?_⟩;have l:=Wx l;by_cases c:j<x
   ·exact hs i j hij c
   ·have e:j=x:=by omega
    subst e;by_cases d:i=j - 1
    ·subst d;rwa[Yi (by omega)] at l
    ·have:=hs i (j - 1) (by omega) (by omega)
     rw[<-Yi (by omega)] at this
     exact Z6 l this
  ·refine QJ (lP hC hB (by omega) (by omega) ?_)
   rw[QV (Zx.mpr ⟨Ye.mp λy=>l (QV y),EX hB.perm hd (by omega) z (by omega)⟩)]
   exact QN ⟨rfl,x,rfl,by omega,by omega,hs⟩
 case post=>
  rintro c st' ⟨rfl,m,rfl,m1,m2,hs⟩
  dsimp only;refine aE (λy=>absurd y (Wo 0)) λ_=>?_;have hz:lo+m<=(arrOf st').size:=by rw[hB.size];omega
  have hB':SR a₀ a₁ kd p lo (setArr st' (mirror (arrOf st') lo (lo+m) ((lo+m - lo) / 2))):=hB.setA (mirror_perm _ _ _ _) λi hi=>Gj hz (by omega)
  refine QJ (wpS_reverse (QJ (zH hC hd hn m1 m2 hB' (λi j hij hj=>?_) λn hn1 hn2 hsn _=>QN (h n _ hB' (by omega) hn2 hsn))))
  show Kr rk (mirror _ _ _ _) _<Kr rk (mirror _ _ _ _) _;rw[jg (DM hz (k:=lo+i) (by omega)),jg (DM hz (k:=lo+j) (by omega)),show lo+(lo+m) - 1 - (lo+i)=lo+(m - 1 - i) by omega,show lo+(lo+m) - 1 - (lo+j)=lo+(m - 1 - j) by omega]
  exact hs _ _ (by omega) (by omega)
end
abbrev Pd:=Array (Nat×Nat×Nat)
def pg(p:Nat×Nat×Nat):Nat×Nat:=(p.1,p.2.1)
inductive Al(rk:Keyed->Int):Nat->List (Nat×Nat)->List (List Keyed)->Prop
 |nil (s):Al rk s [] []
 |cons {s n ps r rs} (e:n=r.length) (h:0<n) (q:Pw rk r) (t:Al rk (s+n) ps rs):Al rk s ((s,n)::ps) (r::rs)
section
variable{rk:Keyed->Int}
theorem Al.split:∀{ps:List (Nat×Nat)}{s ps2 rs},Al rk s (ps++ps2) rs->∃r1 r2,rs=r1++r2/\Al rk s ps r1/\Al rk (s+r1.flatten.length) ps2 r2
 |[],s,ps2,rs,h=>⟨[],rs,rfl,.nil _,h⟩
 |_::ps,_,ps2,_,.cons (n:=n) (r:=r) e h q t=>by
  obtain⟨r1,r2,rfl,a,b⟩:=t.split (ps:=ps);refine⟨r::r1,r2,rfl,.cons e h q a,?_⟩;rw[VT,QE,<-e,<-YF];exact b
theorem Al.join:∀{ps:List (Nat×Nat)}{s ps2 r1 r2},Al rk s ps r1->Al rk (s+r1.flatten.length) ps2 r2->Al rk s (ps++ps2) (r1++r2)
 |_,_,_,_,_,.nil _,b=>b
 |_,_,ps2,_,r2,.cons (n:=n) (r:=r) e h q t,b=>.cons e h q (t.join (by rw[VT,QE,<-e,<-YF] at b;exact b))
def Al.inv{s a n:Nat}{ps:List (Nat×Nat)}{rs:List (List Keyed)}(h:Al rk s ((a,n)::ps) rs):∃r rs',rs=r::rs'/\a=s/\n=r.length/\0<n/\Pw rk r/\Al rk (s+n) ps rs':=by
 cases h with
 |cons e h q t=>exact⟨_,_,rfl,rfl,e,h,q,t⟩
theorem Al.len:∀{ps:List (Nat×Nat)}{s rs},Al rk s ps rs->ps.length=rs.length/\rs.length<=rs.flatten.length
 |_,_,_,.nil _=>⟨rfl,QO _⟩
 |_,_,_,.cons (r:=r) e h q t=>by
  obtain⟨a,b⟩:=t.len;rw[VT,QE,QS,QS,a];exact⟨rfl,by omega⟩
structure SQ(rk:Keyed->Int)(a₀:Array Keyed)(kd:SortKind)(rest:List Keyed)(st:SortSt):Prop where
 perm:(arrOf st).Perm a₀
 kind:kindOf st=kd
 fail:failedOf st=none
 runs:∃rs:List (List Keyed),(arrOf st).toList=rs.flatten++rest/\Al rk 0 ((pendingOf st).toList.map pg) rs
variable{prog:Vq}{w:Vr}{A:Vv}{E:Vn->Vo->Prop}{s:Vo}{kd:SortKind}{a₀:Array Keyed}{rest:List Keyed}{st:SortSt}
def cut2{p:Pd}{i:Nat}(hi:i+1<p.size):∃l a b r,p.toList=l++(a::b::r)/\l.length=i/\p[i]?=some a/\p[i+1]?=some b:=by
 refine⟨p.toList.take i,p[i],p[i+1],p.toList.drop (i+2),?_,by rw[We,QL];omega,Wp p i (by omega),Wp p (i+1) hi⟩
 have h1:i<p.toList.length:=by rw[QL];omega
 have h2:i+1<p.toList.length:=by rw[QL];exact hi
 have e1:=W1 h1;rw[W1 h2] at e1;rw[show p[i]=p.toList[i] from rfl,show p[i+1]=p.toList[i+1] from rfl,<-e1,VP]
def Kx{l r:List (Nat×Nat×Nat)}{a b x:Nat×Nat×Nat}{p:Pd}{i:Nat}(h:p.toList=l++(a::b::r))(hl:l.length=i):((p.setIfInBounds i x).eraseIdxIfInBounds (i+1)).toList=l++(x::r):=by
 have hs:i+1<(p.setIfInBounds i x).size:=by
  have:=Wh List.length h;rw[QL,QE,QS,QS] at this;rw[Xu];omega
 rw[Array.eraseIdxIfInBounds_eq,dif_pos hs,Array.toList_eraseIdx,Xl,h,List.set_append_right _ _ (by omega),hl,sub_self,List.set_cons_zero,List.eraseIdx_append_of_length_le (by omega),hl,V9]
 rfl
def SQ.merge{i:Nat}{Q:Bool->SortSt->Prop}(hC:Cu prog w A E s rk kd a₀)(hd:(a₀.toList.map rk).Nodup)(hq:SQ rk a₀ kd rest st)(hi:i+1<(pendingOf st).size)
  (h:∀st',SQ rk a₀ kd rest st'->(pendingOf st').size+1=(pendingOf st).size->Q true st'):wpS (model prog w) A E s (mergeAt' i) Q st:=by
 obtain⟨rs,ha,al⟩:=hq.runs;obtain⟨l,⟨sa,na,pa⟩,⟨sb,nb,pb⟩,r,hp,hl,g1,g2⟩:=cut2 hi;rw[hp,VB] at al;obtain⟨r1,r2,rfl,al1,al2⟩:=al.split;rw[Z7] at al2;have pp:=WW.mp hq.perm;obtain⟨U,_,rfl,rfl,e1,n1,p1,t⟩:=al2.inv;obtain⟨V,rs2,rfl,rfl,e2,n2,p2,t⟩:=t.inv;have ha':(arrOf st).toList=r1.flatten++(U++(V++(rs2.flatten++rest))):=by
  rw[ha,Y4,VT,VT];simp only[V4]
 have nd:((arrOf st).toList.map rk).Nodup:=(pp.map rk).nodup_iff.mpr hd;rw[ha',VB,VB,VB] at nd;have df:∀x∈U,∀y∈V,rk x≠rk y:=λx hx y hy=>(List.nodup_append.mp (List.nodup_append.mp nd).2.1).2.2 _ (List.mem_map_of_mem hx) _ (Yr _ (List.mem_map_of_mem hy));refine vj hC hq.kind hq.fail g1 g2 ha' rfl e1 rfl e2 n1 n2 p1 p2 df (λq hq'=>pp.mem_iff.mp hq') λst' C k f pe ar pw pm=>h st' ⟨?_,k,f,r1++(C::rs2),?_,?_⟩ ?_
 ·refine WW.mpr ?_;rw[ar];refine List.Perm.trans ?_ pp;rw[ha',<-V4 U];exact WB _ (List.Perm.append_right _ pm)
 ·rw[ar,Y4,VT];simp only[V4]
 ·rw[pe,Kx hp hl,VB];refine al1.join ?_;rw[Z7];have e1:na=U.length:=e1;have e2:nb=V.length:=e2;refine .cons (show na+nb=_ by rw[pm.length_eq,QE,e1,e2]) (Nat.add_pos_left n1 nb) pw ?_
  rw[<-YF];exact t
 ·rw[pe,<-QL,Kx hp hl,<-QL,hp];simp only[QE,QS];omega
end
section
variable{rk:Keyed->Int}{prog:Vq}{w:Vr}{A:Vv}{E:Vn->Vo->Prop}{s:Vo}{kd:SortKind}{a₀:Array Keyed}{rest:List Keyed}{st:SortSt}
def SQ.lo(h:SQ rk a₀ kd rest st):rest.length<=a₀.size:=by
 obtain⟨rs,ha,_⟩:=h.runs;rw[<-h.perm.size_eq,<-QL,ha,QE];exact Nat.le_add_left _ _
def SQ.sr(h:SQ rk a₀ kd rest st):SR a₀ (arrOf st) kd (pendingOf st) (a₀.size - rest.length) st:=⟨h.perm,h.kind,h.fail,rfl,λ_ _=>rfl⟩
def SQ.new{st':SortSt}{n:Nat}(h:SQ rk a₀ kd rest st)(q:SR a₀ (arrOf st) kd (pendingOf st) (a₀.size - rest.length) st')(hn:n<=rest.length)(hi:EY rk (arrOf st') (a₀.size - rest.length) n):
  ∃N rest',N.length=n/\Pw rk N/\SQ rk a₀ kd (N++rest') st'/\rest'.length+n=rest.length:=by
 obtain⟨rs,ha,al⟩:=h.runs;have hz:rs.flatten.length=a₀.size - rest.length:=by
  have:=Wh List.length ha;rw[QL,h.perm.size_eq,QE] at this;omega
 have hs:=q.size;have hl:=h.lo;have tk:(arrOf st').toList.take (a₀.size - rest.length)=rs.flatten:=by
  have:(arrOf st).toList.take (a₀.size - rest.length)=rs.flatten:=by rw[ha,<-hz,List.take_left'];rfl
  rw[<-this];refine Yv λi=>?_;by_cases c:i<a₀.size - rest.length
  ·rw[ZP c,ZP c,VO,VO,q.keep i c]
  ·rw[Xm (by omega),Xm (by omega)]
 have sz:((arrOf st').toList.drop (a₀.size - rest.length)).length=rest.length:=by rw[Ws,QL,hs];omega
 refine⟨((arrOf st').toList.drop (a₀.size - rest.length)).take n,((arrOf st').toList.drop (a₀.size - rest.length)).drop n,by rw[We,sz];omega,?_,⟨q.perm,q.kind,q.fail,rs,?_,by rw[q.pend];exact al⟩,by rw[Ws,sz];omega⟩
 ·refine W2.mpr λi j hi' hj hij=>?_;rw[We,sz] at hi' hj;have:=hi i j hij (by omega)
  rw[bt (by omega),bt (by omega)] at this
  simpa using this
 ·rw[VP,<-tk,VP]
theorem SQ.push{N rest':List Keyed}(h:SQ rk a₀ kd (N++rest') st)(hN:Pw rk N)(h0:0<N.length){lo n:Nat}(e1:lo=a₀.size - (N++rest').length)(e2:n=N.length)(p':Pd)(hp:p'.toList.map pg=(pendingOf st).toList.map pg):SQ rk a₀ kd rest' (setPending st (p'.push (lo,n,0))):=by
 obtain⟨rs,ha,al⟩:=h.runs;have hz:lo=rs.flatten.length:=by
  have:=Wh List.length ha;rw[QL,h.perm.size_eq,QE] at this;omega
 refine⟨h.perm,h.kind,h.fail,rs++[N],?_,?_⟩
 ·show(arrOf st).toList=_;rw[ha,Y4,VT,List.flatten_nil,Vz,V4]
 ·show Al rk 0 ((p'.push (lo,n,0)).toList.map pg) _;rw[toList_push,VB,hp];refine al.join ?_;rw[Z7,<-hz];exact .cons e2 (by rw[e2];exact h0) hN (.nil _)
def E8{c:Prop}{_:Decidable c}{n:Nat}(h:¬n<=1):(if c then n - 2 - 1 else n - 2)+1<n:=by split <;> omega
def Gk{p:Pd}{i:Nat}{f:Nat×Nat×Nat->Nat×Nat×Nat}(h:∀x,pg (f x)=pg x):(p.modify i f).toList.map pg=p.toList.map pg:=by
 rw[Array.toList_modify];refine Yv λj=>?_;rw[Vy,Vy,List.getElem?_modify];cases p.toList[j]? with
 |none=>rfl
 |some x=>
  by_cases c:i=j
  ·exact Wh some (show pg (if i=j then f x else x)=pg x by rw[QH c];exact h x)
  ·exact Wh some (show pg (if i=j then f x else x)=pg x by rw[QI c])
theorem SQ.size(h:SQ rk a₀ kd rest st):(pendingOf st).size<=a₀.size:=by
 obtain⟨rs,ha,al⟩:=h.runs;have:=al.len;rw[QG,QL] at this;rw[this.1,<-h.perm.size_eq,<-QL,ha,QE];exact V5 this.2 (Nat.le_add_right _ _)
def SQ.end(h:SQ rk a₀ kd [] st)(hs:(pendingOf st).size<=1):Pw rk (arrOf st).toList:=by
 obtain⟨rs,ha,al⟩:=h.runs;rw[ha,Vz];have:=al.len.1;rw[QG,QL] at this;generalize (pendingOf st).toList.map pg=ps at al;cases al with
 |nil=>exact .nil
 |cons e _ q t=>cases t with
  |nil=>rw[VT,List.flatten_nil,Vz];exact q
  |cons=>rw[QS,QS] at this;omega
def Cy{Q:Unit->SortSt->Prop}(hC:Cu prog w A E s rk kd a₀)(hd:(a₀.toList.map rk).Nodup)(ha:arrOf st=a₀)(hk:kindOf st=kd)(hf:failedOf st=none)(hp:pendingOf st=#[])
  (h:∀st',(arrOf st').Perm a₀->failedOf st'=none->Pw rk (arrOf st').toList->Q () st'):wpS (model prog w) A E s sortRuns' Q st:=by
 have q0:SQ rk a₀ kd a₀.toList st:=⟨by rw[ha],hk,hf,[],by rw[ha];rfl,by rw[hp];exact .nil _⟩
 refine QJ (YA ?_);dsimp only;rw[show(arrOf st).size=a₀.size by rw[ha]]
 refine QJ (WA (VX (I:=λx c st'=>∃rest,c=(none,a₀.size - rest.length)/\x<=a₀.size - rest.length/\SQ rk a₀ kd rest st')
  (Q:=λc st'=>c=(none,a₀.size)/\SQ rk a₀ kd [] st') ?step ?fin ⟨a₀.toList,by rw[QL,sub_self],VA _,q0⟩) ?post)
 case fin=>
  rintro c st' ⟨rest,rfl,hx,hq⟩
  have:=hq.lo;have:rest=[]:=Z0 (by omega)
  subst this;exact⟨rfl,hq⟩
 case step=>
  rintro x c st' _ hx ⟨rest,rfl,hxl,hq⟩
  have hl:=hq.lo;refine aE (λc=>?_) λc=>?_
  ·have c:a₀.size - rest.length ≥ a₀.size:=c;have:rest=[]:=Z0 (by omega)
   subst this;exact QN ⟨rfl,hq⟩
  have c:¬a₀.size - rest.length ≥ a₀.size:=c;refine QJ (AM hC hd (by omega) (by omega) hq.sr λm st2 hB2 hm1 hm2 hi2=>?_)
  have hm2:m<=a₀.size - (a₀.size - rest.length):=hm2;refine aE (λc2=>QJ (Xn (WH ⟨rfl,QJ (F3 hC hd (Nat.add_le_of_le_sub' (by omega) (Xa _ _)) hm1 (Nat.le_min.mpr ⟨hm2,W7 c2⟩) hB2 hi2 λst3 hB3 hi3=>aE (λz=>nomatch z) λ_=>?_)⟩))) λc2=>?_
  rotate_left
  obtain⟨N,rest',eN,pN,qN,er⟩:=hq.new hB2 (by omega) hi2
  have h0:0<N.length:=by omega
  rotate_left
  obtain⟨N,rest',eN,pN,qN,er⟩:=hq.new hB3 (V5 (Xa _ _) (by dsimp only;omega)) hi3
  have h0:0<N.length:=by rw[eN];exact V5 hm1 (Nat.le_min.mpr ⟨hm2,W7 c2⟩)
  all_goals
   refine QJ (YA ?_);split
   ·refine QJ (WA (VX (I:=λ_ c st4=>c=(none,())/\SQ rk a₀ kd (N++rest') st4) (Q:=λc st4=>c=(none,())/\SQ rk a₀ kd (N++rest') st4) ?_ (λ_ _ z=>z) ⟨rfl,qN⟩) ?_)
    ·rintro _ c st4 _ _ ⟨rfl,q4⟩
     refine QJ (YA ?_);by_cases c4:(pendingOf st4).size > 1
     ·rw[QH c4,Wp (pendingOf st4) _ (Nat.sub_lt (Nat.lt_of_succ_lt c4) Nat.two_pos)];exact aE (λ_=>QN ⟨rfl,q4⟩) λ_=>QJ (q4.merge hC hd (E8 (c:=False) (Nat.not_le.mpr c4)) λst5 q5 _=>aE (λz=>nomatch z) λ_=>QN ⟨rfl,q5⟩)
     ·rw[QI c4];exact QN ⟨rfl,q4⟩
    ·rintro c st4 ⟨rfl,q4⟩
     refine QJ (ZS (QJ (ZS (QN ⟨rest',?_,?_,q4.push pN h0 (by rw[QE,eN,Nat.add_comm,er]) eN.symm _ (Gk λ_=>rfl)⟩))))
     all_goals ((try dsimp only at er ⊢);first|exact Wh (Prod.mk none) (by omega)|omega)
   ·refine QJ (ZS (QN ⟨rest',?_,?_,qN.push pN h0 (by rw[QE,eN,Nat.add_comm,er]) eN.symm _ rfl⟩))
    all_goals ((try dsimp only at er ⊢);first|exact Wh (Prod.mk none) (by omega)|omega)
 case post=>
  rintro c st' ⟨rfl,hq⟩
  refine QJ (WA (VX (I:=λx c st2=>c=(none,())/\SQ rk a₀ kd [] st2/\((pendingOf st2).size<=1\/(pendingOf st2).size+x<=a₀.size)) (Q:=λc st2=>c=(none,())/\SQ rk a₀ kd [] st2/\(pendingOf st2).size<=1) ?_ ?_ ⟨rfl,hq,.inr hq.size⟩) ?_)
  ·rintro x c st2 _ hx ⟨rfl,q2,hor⟩
   refine QJ (YA (aE (λc=>QN ⟨rfl,q2,c⟩) λc=>?_));have c:¬(pendingOf st2).size<=1:=c;have hx2:=hor.resolve_left c;refine QJ (q2.merge hC hd (E8 c) λst3 q3 e3=>aE (λz=>nomatch z) λ_=>QN ⟨rfl,q3,.inr (by omega)⟩)
  ·rintro c st2 ⟨rfl,q2,hor⟩
   exact⟨rfl,q2,by omega⟩
  ·rintro c st2 ⟨rfl,q2,h1⟩
   exact QN (h st2 q2.perm q2.fail (q2.end h1))
end
open PySem.W
def code5(a b c d e:Int):Int:=(((a * 1000+b) * 1000+c) * 1000+d) * 1000+e
def Sm(n:Int):Prop:=0<=n/\n<1000
inductive zC(h:Vs)(p:Vp):Int->Prop
 |mk {a b c d e:Int} {t1 t2 t3 t4 t5 t6:Tok} {x:Str} (i:IsTup h p [Value.int a t1,.int b t2,.int c t3,.int d t4,.int e t5,.str x t6].toArray) (ha:Sm a) (hb:Sm b) (hc:Sm c) (hd:Sm d) (he:Sm e):zC h p (code5 a b c d e)
section
variable{prog:Vq}{w:Vr}{A:Vv}{E:Vn->Vo->Prop}{s:Vo}{p q:Vp}
def G8{a b:Int}{t u:Tok}{Q:Bool->Vo->Prop}(h:Q (decide (a<b)) s):wpAny (model prog w) A (oneLt' false (.int a t) (.int b u)) Q E s:=kat_one _ _ (lt_int h)
section
variable{fin:Bool}{Q:Bool->Vo->Prop}{a b:Int}{t u:Tok}{r:List (Vn×Vn)}
def Jo(h1:a=b->KatLex prog w A true fin Q r 1 s)(h2:a≠b->Q (decide (a<b)) s):KatLex prog w A true fin Q ((.int a t,.int b u)::r) 0 s:=
 kat_cons (Yq (kat_go (λe=>kat_yes (h1 (WE e))) λe=>kat_no (oneLt_int (h2 (ne_of_beq_false e)))))
def uN{i:Nat}(h1:a=b->KatLex prog w A true fin Q r (i+1+1) s)(h2:a≠b->Q (decide (a<b)) s):KatLex prog w A true fin Q ((.int a t,.int b u)::r) (i+1) s:=
 kat_cons (Yq (kat_go (λe=>kat_yes (h1 (WE e))) λe=>kat_no (G8 (h2 (ne_of_beq_false e)))))
end
def HZ{c c':Int}(hp:zC s.heap p c)(hq:zC s.heap q c')(h:c=c'->p=q){Q:Bool->Vo->Prop}(hQ:Q (decide (c<c')) s):
  wpAny (model prog w) A (keyLt' (tuples' true) (.ref p) (.ref q)) Q E s:=by
 obtain @⟨a1,b1,c1,d1,e1,_,_,_,_,_,_,x1,i1,g1,g2,g3,g4,g5⟩:=hp;obtain @⟨a2,b2,c2,d2,e2,_,_,_,_,_,_,x2,i2,k1,k2,k3,k4,k5⟩:=hq;unfold Sm at g1 g2 g3 g4 g5 k1 k2 k3 k4 k5;have dd:∀{x:Prop}{_:Decidable x},(x↔code5 a1 b1 c1 d1 e1<code5 a2 b2 c2 d2 e2)->Q (decide x) s:=λ{x _} z=>by rw[Yc.mpr z];exact hQ
 have hx:code5 a1 b1 c1 d1 e1=code5 a2 b2 c2 d2 e2->x1=x2:=λz=>by
  have:=h z;subst this;obtain⟨o1,y1,_,n1,z1⟩:=i1;obtain⟨o2,y2,_,n2,z2⟩:=i2;rw[y1] at y2;cases y2;rw[z1] at z2;injection z2 with z2 _;have z2:=Wh Array.toList z2;simp only[List.cons.injEq] at z2;obtain⟨_,_,_,_,_,z2,_⟩:=z2;cases z2;rfl
 obtain⟨o1,y1,_,n1,z1⟩:=i1;obtain⟨o2,y2,_,n2,z2⟩:=i2;unfold code5 at dd hx hQ;refine kat_lt y1 z1 y2 z2 ?_;refine Jo (λr1=>?_) λr1=>dd (by omega)
 refine uN (λr2=>?_) λr2=>dd (by omega)
 refine uN (λr3=>?_) λr3=>dd (by omega)
 refine uN (λr4=>?_) λr4=>dd (by omega)
 refine uN (λr5=>?_) λr5=>dd (by omega)
 subst r1 r2 r3 r4 r5;refine kat_cons (wpAny_eqBool_str ?_);rw[QV (hx rfl)];exact kat_yes (kat_nil (dd (by simp)))
end
def Ld(p:Vp):Keyed:=(.ref p,.ref p)
def HM(k:Keyed):Vp:=match k.1 with
 |.ref p=>p
 |_=>0
section
variable{prog:Vq}{w:Vr}{A:Vv}{E:Vn->Vo->Prop}{s:Vo}{as:List Vp}{cs:Vp->Int}
theorem CW{h:Vs}:∀(as:List Vp),(∀a∈as,∃c,zC h a c)->∃fs,KatTups h (as.map Value.ref) fs/\fs.length=as.length/\∀v∈fs,∃n t,v=Value.int n t
 |[],_=>⟨[],.nil,rfl,λ_ h=>nomatch h⟩
 |a::as,H=>by
  obtain⟨fs,k,l,g⟩:=CW as λb hb=>H b (.tail _ hb);obtain⟨_,i⟩:=H a (.head _);obtain⟨i⟩:=i;obtain⟨o,e,c,n,d⟩:=i;refine⟨_::fs,.cons e c d rfl k,by rw[QS,l,QS],λv hv=>?_⟩
  rcases V1.mp hv with rfl|hv
  ·exact⟨_,_,rfl⟩
  ·exact g v hv
def Fq(ht:∀a∈as,zC s.heap a (cs a))(h0:0<as.length){Q:SortKind->Vo->Prop}(hQ:Q (tuples' true) s):wpAny (model prog w) A (keyKind' (as.map Value.ref).toArray) Q E s:=by
 obtain⟨fs,k,l,g⟩:=CW as λa ha=>⟨_,ht a ha⟩;refine kat_kind (T:=.type "int") k (by rw[l];exact h0) (λv hv=>?_) (by decide) hQ
 obtain⟨n,t,rfl⟩:=g v hv;exact .now
def I8(ht:∀a∈as,zC s.heap a (cs a))(nd:(as.map cs).Nodup){a₀:Array Keyed}(ha:a₀.toList=as.map Ld):Cu prog w A E s (λk=>cs (HM k)) (tuples' true) a₀:=λx hx y hy Q st hk hq=>by
 rw[ha] at hx hy;obtain⟨p,hp,rfl⟩:=V6.mp hx;obtain⟨q,hq',rfl⟩:=V6.mp hy;rw[lt'_eq];refine QJ (YA ?_);rw[hk];refine QJ (Xn (WK (HZ (ht p hp) (ht q hq') (λe=>?_) ⟨rfl,?_⟩)))
 ·obtain⟨i,hi,rfl⟩:=Wc.mp hp;obtain⟨j,hj,rfl⟩:=Wc.mp hq';have:=(YM (h₀:=by simpa using hi) (h₁:=by simpa using hj) nd (i:=i) (j:=j)).mp (by simpa using e)
  subst this;rfl
 ·exact QN hq
def nZ:((as.map Value.ref).toArray.zip (as.map Value.ref).toArray).toList=as.map Ld:=by
 rw[Array.toList_zip,List.toList_toArray,List.zip_map',];rfl
def HX{o a₀:Array Keyed}(ha:a₀.toList=as.map Ld)(hp:o.Perm a₀)(pw:Pw (λk=>cs (HM k)) o.toList):∃bs:List Vp,bs.Perm as/\bs.Pairwise (λx y=>cs x<cs y)/\o.map (·.2)=(bs.map Value.ref).toArray:=by
 have pp:=WW.mp hp;rw[ha] at pp;have e1:(as.map Ld).map HM=as:=by rw[Zi];exact List.map_id _
 have e2:o.toList=(o.toList.map HM).map Ld:=by
  rw[Zi];refine((List.map_id _).symm.trans (Zs λk hk=>?_));obtain⟨p,_,rfl⟩:=V6.mp (pp.mem_iff.mp hk);rfl
 refine⟨o.toList.map HM,by have:=pp.map HM;rwa[e1] at this,WY.mpr pw,?_⟩
 apply toList_inj.mp;rw[Array.toList_map,List.toList_toArray]
 conv=>lhs;rw[e2]
 rw[Zi];rfl
theorem Fb{a:Vp}{e:Nat}{P:PySem.Fin->Vo->Prop}(ho:s.heap.get? a=some (seqObj "list" (as.map Value.ref).toArray e))(hz:as.length<=sizeLine)(hna:∀p∈as,p≠a)
  (ht:∀p∈as,zC s.heap p (cs p)) (nd:(as.map cs).Nodup)
  (h:∀bs:List Vp,bs.Perm as->bs.Pairwise (λx y=>cs x<cs y)->P (.done (.ret .none)) {s with heap:=sortedHeap s.heap a (as.map Value.ref) (bs.map Value.ref).toArray}):
  wpAny (model prog w) A (Builtin.«list.sort» ⟨[.ref a],[]⟩) P E s:=by
 have hz1:(as.map Value.ref).length<=sizeLine:=by rw[QG];exact hz
 rw[list_sort_plain];refine QA (listItems_at ho rfl (QA (Zc ho rfl ?_ hz1 (VA _))));obtain⟨e1,h1⟩:∃k,(s.heap.update a (Obj.mapSeq λ_=>(#[]:Array Vn))).get? a=some (seqObj "list" #[] k):=⟨_,get?_update_seq ho _⟩;refine QA (Xo h1 rfl (QA (wpAny_newTuple ?_ hz1)));refine QA (Yo ?_ (VA _));refine Wt ?_;generalize hg:((s.heap.update a (Obj.mapSeq λ_=>(#[]:Array Vn))).push (seqObj "tuple" (as.map Value.ref).toArray 0)).push (seqObj "list" #[] 0)=g;have ha:g.get? a=some (seqObj "list" #[] e1):=by subst hg;exact QF _ (QF _ h1)
 have gt:∀p∈as,zC g p (cs p):=λp hp=>by
  have:=ht p hp;generalize cs p=c at this ⊢;obtain⟨i,q1,q2,q3,q4,q5⟩:=this;obtain⟨o,eo,r⟩:=i;refine⟨⟨o,?_,r⟩,q1,q2,q3,q4,q5⟩;subst hg;refine QF _ (QF _ ?_);rw[Z9 _ _ _ _ (hna p hp)];exact eo
 have fin:∀bs:List Vp,sortedHeap s.heap a (as.map Value.ref) (bs.map Value.ref).toArray=g.update a (Obj.mapSeq λ_=>(bs.map Value.ref).toArray):=λbs=>by subst hg;rfl
 have tail:∀st:SortSt,failedOf st=none->(arrOf st).Perm ((as.map Value.ref).toArray.zip (as.map Value.ref).toArray)->Pw (λk=>cs (HM k)) (arrOf st).toList->∃bs:List Vp,bs.length<=sizeLine/\(arrOf st).map (·.2)=(bs.map Value.ref).toArray/\P (.done (.ret .none)) {s with heap:=g.update a (Obj.mapSeq λ_=>(bs.map Value.ref).toArray)}:=λst _ hp pw=>by
  obtain⟨bs,b1,b2,b3⟩:=HX nZ hp pw;exact⟨bs,by rw[b1.length_eq];exact hz,b3,by rw[<-fin];exact h bs b1 b2⟩
 show wpAny (model prog w) A _ P E {s with heap:=g};clear hg;dsimp only;by_cases c2:(as.map Value.ref).toArray.size<2
 ·rw[QH c2,QH c2];refine QA (QD ?_);rw[StateT.run_pure];refine QA (QD ?_);rw[QK,QG] at c2;obtain⟨bs,b1,b2,b3⟩:=tail (SortSt.mk' general' ((as.map Value.ref).toArray.zip (as.map Value.ref).toArray) #[] 7 none) rfl (Array.Perm.refl _) (by
   show Pw _ (Array.toList ((as.map Value.ref).toArray.zip (as.map Value.ref).toArray));rw[nZ]
   match as,c2 with
   |[],_=>exact .nil
   |[_],_=>exact Ya _ _
   |_::_::_,z=>rw[QS,QS] at z;omega)
  have b2:((as.map Value.ref).toArray.zip (as.map Value.ref).toArray).map (·.2)=(bs.map Value.ref).toArray:=b2;dsimp only;rw[b2];refine QA (Xo (s:={s with heap:=g}) ha rfl (QA (Zc ha rfl ?_ (VA _) (by show(bs.map Value.ref).toArray.size<=_;rw[QK,QG];exact Yf b1))))
  simp only[ZN,Wa,Zv];exact QD b3
 ·rw[QI c2,QI c2];rw[QK,QG] at c2;refine QA (Fq (s:={s with heap:=g}) gt (by omega) ?_)
  refine QA (Z3 (Cy (s:={s with heap:=g}) (a₀:=(as.map Value.ref).toArray.zip (as.map Value.ref).toArray) (st:=SortSt.mk' (tuples' true) ((as.map Value.ref).toArray.zip (as.map Value.ref).toArray) #[] 7 none)
   (Q:=λ_ st=>failedOf st=none/\(arrOf st).Perm ((as.map Value.ref).toArray.zip (as.map Value.ref).toArray)/\Pw (λk=>cs (HM k)) (arrOf st).toList) (I8 (s:={s with heap:=g}) gt nd nZ) ?_ rfl rfl rfl rfl λst' q1 q2 q3=>⟨q2,q1,q3⟩) ?_ λ_ _ x=>x)
  ·rw[nZ,Zi];exact nd
  ·rintro ⟨⟨⟩,st⟩ s' ⟨rfl,ef,hp,pw⟩
   dsimp only at ef hp pw ⊢;obtain⟨bs,b1,b2,b3⟩:=tail st ef hp pw;rw[b2];refine QA (Xo (s:={s with heap:=g}) ha rfl (QA (Zc ha rfl ?_ (VA _) (by show(bs.map Value.ref).toArray.size<=_;rw[QK,QG];exact Yf b1))))
   rw[ef];simp only[ZN,Wa,Zv];exact QD b3
end
section
variable{X:Cx}
inductive T5(K:Frag)(H:Hp)(p:Vp):Int->Prop
 |mk {a b c d e:Int} {x:Str} (i:iy K H p [.int a,.int b,.int c,.int d,.int e,.str x]) (ha:Sm a) (hb:Sm b) (hc:Sm c) (hd:Sm d) (he:Sm e):T5 K H p (code5 a b c d e)
theorem rP:∀{as:List Vp}{its:List Vn},Vals (as.map V.ref) its->its=as.map Value.ref
 |[],_,.nil=>rfl
 |_::_,_,.cons e r=>by rw[rP r];cases (show _=_ from e);rfl
theorem lQ:∀{as:List Vp},Vals (as.map V.ref) (as.map Value.ref)
 |[]=>.nil
 |_::_=>.cons rfl lQ
def HY{h:Vs}{p:Vp}{c c':Int}(u:zC h p c)(v:zC h p c'):c=c':=by
 obtain⟨i1⟩:=u;obtain⟨i2⟩:=v;obtain⟨o1,y1,_,n1,z1⟩:=i1;obtain⟨o2,y2,_,n2,z2⟩:=i2;rw[y1] at y2;cases y2;rw[z1] at z2;injection z2 with z2 _;have z2:=Wh Array.toList z2;simp only[List.cons.injEq,Value.int.injEq] at z2;obtain⟨⟨rfl,_⟩,⟨rfl,_⟩,⟨rfl,_⟩,⟨rfl,_⟩,⟨rfl,_⟩,_⟩:=z2;rfl
def Bk{α β:Type}{f:α->β}{P Q:List β}(h:P.Perm Q):∀l,Q=l.map f->∃m:List α,m.Perm l/\m.map f=P:=by
 induction h with
 |nil=>intro l e;exact⟨[],by rw[List.map_eq_nil_iff.mp e.symm],rfl⟩
 |cons x _ ih=>
  intro l e;obtain⟨a,l,rfl,rfl,e2⟩:=Yu.mp e.symm;obtain⟨m,h1,h2⟩:=ih l e2.symm;exact⟨a::m,h1.cons a,by rw[Wm,h2]⟩
 |swap x y r=>
  intro l e;obtain⟨a,l,rfl,rfl,e2⟩:=Yu.mp e.symm;obtain⟨b,l,rfl,rfl,e3⟩:=Yu.mp e2;exact⟨b::a::l,.swap a b l,by rw[Wm,Wm,e3]⟩
 |trans _ _ i1 i2=>
  intro l e;obtain⟨m,h1,h2⟩:=i2 l e;obtain⟨m',h3,h4⟩:=i1 m h2.symm;exact⟨m',h3.trans h1,h4⟩
def Lo(K:Frag)(xs:List V)(H:Hp)(Q:V->Hp->Prop):Prop:=∃(α:Type)(l:Vp)(its:List α)(ad:α->Vp)(cc:α->Int),xs=[.ref l]/\iA K H l ((its.map ad).map V.ref)/\(∀p∈its,T5 K H (ad p) (cc p))/\(its.map cc).Nodup/\∀(bs:List α) r,bs.Perm its->bs.Pairwise (λx y=>cc x<cc y)->H r=none->Q (.ref r) (cD H r (.lst ((bs.map ad).map V.ref)))
def uZ:cI X (.builtin "sorted") (Lo X.K):=λpins s σ H xs us Q I rs ⟨α,l,its,ad,cc,ex,hl,ht,nd,k⟩=>by
 subst ex;obtain⟨v,rfl,r2⟩:=gg rs;obtain rfl:v=Value.ref l:=r2;have hh:∀p∈its,zC s.heap (ad p) (cc p):=λp hp=>by
  have:=ht p hp;generalize cc p=c at this ⊢;obtain⟨i,q1,q2,q3,q4,q5⟩:=this;obtain⟨ip,rp,tp,_⟩:=I.tuple i;obtain⟨⟩|⟨⟨_,rfl⟩,rp⟩:=rp;obtain⟨⟩|⟨⟨_,rfl⟩,rp⟩:=rp;obtain⟨⟩|⟨⟨_,rfl⟩,rp⟩:=rp;obtain⟨⟩|⟨⟨_,rfl⟩,rp⟩:=rp;obtain⟨⟩|⟨⟨_,rfl⟩,rp⟩:=rp;obtain⟨⟩|⟨⟨_,rfl⟩,rp⟩:=rp;cases rp;exact⟨tp,q1,q2,q3,q4,q5⟩
 obtain⟨cs,hcs⟩:∃cs:Vp->Int,∀p∈its,cs (ad p)=cc p:=
  ⟨λa=>Classical.epsilon λc=>zC s.heap a c,λp hp=>HY (Classical.epsilon_spec (p:=λc=>zC s.heap (ad p) c) ⟨_,hh p hp⟩) (hh p hp)⟩
 have hm:(its.map ad).map cs=its.map cc:=by rw[Zi];exact Zs hcs
 rw[<-hm] at nd;have hh:∀a∈its.map ad,zC s.heap a (cs a):=λa ha=>by
  obtain⟨p,hp,rfl⟩:=V6.mp ha;rw[hcs p hp];exact hh p hp
 have k:∀(bs:List Vp) r,bs.Perm (its.map ad)->bs.Pairwise (λx y=>cs x<cs y)->H r=none->Q (.ref r) (cD H r (.lst (bs.map V.ref))):=λbs r b1 b2 hr=>by
  obtain⟨m,m1,rfl⟩:=Bk b1 its rfl;refine k m r m1 ?_ hr;refine(WY.mp b2).imp_of_mem λ{x y} hx hy z=>?_;rwa[hcs x (m1.mem_iff.mp hx),hcs y (m1.mem_iff.mp hy)] at z
 generalize its.map ad=as at nd hl hh k;clear hm hcs ht;obtain⟨its,rv,pl,hz⟩:=I.list hl;obtain rfl:=rP rv;have hz0:as.length<=sizeLine:=by rw[QG] at hz;exact hz
 have hz1:(as.map Value.ref).length<=sizeLine:=by rw[QG];exact hz0
 refine Yg kind_sorted plain_sorted entry_sorted (args_sorted1 _) ?_;unfold Builtin.«sorted»;refine QA (m:=checkCount "sorted" 1 1 _) (QD (QA (collect_list pl.isList ?_ hz1)));refine QA (Yo ?_ hz1);generalize hg:(s.heap.push (seqObj "list" #[] 0)).update s.heap.objs.size (Obj.mapSeq (·++(as.map Value.ref).toArray))=g;have sz:g.objs.size=s.heap.objs.size+1:=by subst hg;rw[Heap.size_update,size_push']
 have kp:∀b o,s.heap.get? b=some o->g.get? b=some o:=λb o eb=>by
  subst hg;rw[Z9 _ _ _ _ (V7 (Vx eb))];exact QF _ eb
 show wpAny _ _ _ _ _ {s with heap:=g.push (seqObj "list" (as.map Value.ref).toArray 0)};have hD:(g.push (seqObj "list" (as.map Value.ref).toArray 0)).get? g.objs.size=some (seqObj "list" (as.map Value.ref).toArray 0):=QT _ rfl;have kp2:∀b o,s.heap.get? b=some o->(g.push (seqObj "list" (as.map Value.ref).toArray 0)).get? b=some o:=λb o eb=>QF _ (kp b o eb);have lt:∀b o,s.heap.get? b=some o->b≠g.objs.size:=λb o eb=>V7 (Vx (kp b o eb));have h2:∀p∈as,zC (g.push (seqObj "list" (as.map Value.ref).toArray 0)) p (cs p)/\p≠g.objs.size:=λp hp=>by
  have:=hh p hp;generalize cs p=c at this ⊢;obtain⟨i,q1,q2,q3,q4,q5⟩:=this;obtain⟨o,eo,r⟩:=i;exact⟨⟨⟨o,kp2 _ _ eo,r⟩,q1,q2,q3,q4,q5⟩,lt _ _ eo⟩
 refine QA (Wt (VD slot_list_sort ⟨_,hD,rfl⟩ entry_list_sort (Fb (s:={s with heap:=g.push (seqObj "list" (as.map Value.ref).toArray 0)}) (cs:=cs) hD hz0 (λp hp=>(h2 p hp).2) (λp hp=>(h2 p hp).1) nd λbs b1 b2=>⟨_,rfl,?_⟩) (args_list_sort _)));obtain⟨e,he⟩:=sortedHeap_at (out:=(bs.map Value.ref).toArray) hD;refine QD ⟨_,rfl,.ref g.objs.size,_,I.laid (o:=.lst (bs.map V.ref)) (t':=s.toks) (λb o eb=>?_) (by omega) ⟨?_,bs.map Value.ref,e,lQ,he⟩,rfl,k _ _ b1 b2 (I.hok.fresh (by omega))⟩
 ·rw[sortedHeap_old (lt b o eb) (by rw[ZL];exact WI (Vx (kp b o eb)))]
  exact kp2 b o eb
 ·rw[QG,b1.length_eq];exact hz0
end
section
variable{prog:Vq}{w:Vr}{A:Vv}{E:Vn->Vo->Prop}{s:Vo}{p q:Vp}{xp xq:List Vn}{m n:Int}{t u:Tok}
def K5:2<=sizeLine:=by rw[WC];decide
def Ke(hp:IsTup s.heap p (Value.int m t::xp).toArray)(hq:IsTup s.heap q (Value.int n u::xq).toArray)(ne:m≠n){Q:Bool->Vo->Prop}(hQ:Q (decide (m<n)) s):
  wpAny (model prog w) A (keyLt' (tuples' true) (.ref p) (.ref q)) Q E s:=by
 obtain⟨o1,e1,c1,n1,d1⟩:=hp;obtain⟨o2,e2,c2,n2,d2⟩:=hq;refine kat_lt e1 d1 e2 d2 (kat_cons (Yq ?_));rw[WN.mpr ne];exact kat_no (oneLt_int hQ)
def F7(hp:IsTup s.heap p (Value.int m t::xp).toArray)(hq:IsTup s.heap q (Value.int n u::xq).toArray){Q:SortKind->Vo->Prop}(hQ:Q (tuples' true) s):
  wpAny (model prog w) A (keyKind' [Value.ref p,Value.ref q].toArray) Q E s:=by
 obtain⟨o1,e1,c1,n1,d1⟩:=hp;obtain⟨o2,e2,c2,n2,d2⟩:=hq;refine kat_kind (fs:=[.int m t,.int n u]) (T:=.type "int") (.cons e1 c1 d1 rfl (.cons e2 c2 d2 rfl .nil)) (Nat.succ_pos _) (λv hv=>?_) (by decide) hQ
 rcases V1.mp hv with rfl|hv
 ·exact .now
 ·rcases V1.mp hv with rfl|hv
  ·exact .now
  ·cases hv
def F6{a:Vp}{e:Nat}{P:PySem.Fin->Vo->Prop}(ho:s.heap.get? a=some (seqObj "list" [Value.ref p,Value.ref q].toArray e))(hap:p≠a)(haq:q≠a)
  (hp:IsTup s.heap p (Value.int m t::xp).toArray) (hq:IsTup s.heap q (Value.int n u::xq).toArray) (ne:m≠n)
  (h:P (.done (.ret .none)) {s with heap:=sortedHeap s.heap a [.ref p,.ref q] (if m<n then #[.ref p,.ref q] else #[.ref q,.ref p])}):
  wpAny (model prog w) A (Builtin.«list.sort» ⟨[.ref a],[]⟩) P E s:=by
 have la:=Vx ho;rw[list_sort_plain];refine QA (listItems_at ho rfl (QA (Zc ho rfl ?_ (show 2<=sizeLine from K5) (VA _))));obtain⟨e1,h1⟩:∃k,(s.heap.update a (Obj.mapSeq λ_=>(#[]:Array Vn))).get? a=some (seqObj "list" #[] k):=⟨_,get?_update_seq ho _⟩;refine QA (Xo h1 rfl (QA (wpAny_newTuple ?_ (show 2<=sizeLine from K5))));refine QA (Yo ?_ (VA _));refine Wt ?_;generalize hg:((s.heap.update a (Obj.mapSeq λ_=>(#[]:Array Vn))).push (seqObj "tuple" [Value.ref p,Value.ref q].toArray 0)).push (seqObj "list" #[] 0)=g;have kp:∀b o,b≠a->s.heap.get? b=some o->g.get? b=some o:=λb o hb eb=>by
  subst hg;refine QF _ (QF _ ?_);rw[Z9 _ _ _ _ hb];exact eb
 have ha:g.get? a=some (seqObj "list" #[] e1):=by subst hg;exact QF _ (QF _ h1)
 have gp:IsTup g p (Value.int m t::xp).toArray:=by obtain⟨o,eo,r⟩:=hp;exact⟨o,kp _ _ hap eo,r⟩
 have gq:IsTup g q (Value.int n u::xq).toArray:=by obtain⟨o,eo,r⟩:=hq;exact⟨o,kp _ _ haq eo,r⟩
 have fin:∀out:Array Vn,out=(if m<n then #[.ref p,.ref q] else #[.ref q,.ref p])->sortedHeap s.heap a [.ref p,.ref q] (if m<n then #[.ref p,.ref q] else #[.ref q,.ref p])=g.update a (Obj.mapSeq λ_=>out):=λout eo=>by
  subst eo;subst hg;rfl
 show wpAny (model prog w) A _ P E {s with heap:=g};clear hg;dsimp only;rw[QI (show ¬([Value.ref p,Value.ref q].toArray.size<2) from Wo 2),QI (show ¬([Value.ref p,Value.ref q].toArray.size<2) from Wo 2)];refine QA (F7 (s:={s with heap:=g}) gp gq ?_);refine QA (Z3 (kat_run (vs:=[.ref p,.ref q]) (ks:=[.ref p,.ref q]) (Q:=λst s'=>s'={s with heap:=g}/\failedOf st=none/\(arrOf st).map (·.2)=(if m<n then #[.ref p,.ref q] else #[.ref q,.ref p]))
  (G:=λr s'=>s'={s with heap:=g}/\r=if m<n then #[0,1] else #[1,0]) rfl (QO 2) (show 2<64 by decide) (λr st s' z ea ef ⟨es,er⟩=>⟨es,ef,?_⟩) ?_) ?_ λ_ _ x=>x)
 ·rw[kat_snds (vs:=[.ref p,.ref q]) (ks:=[.ref p,.ref q]) rfl ea,er];split <;> rfl
 ·show wpAny (model prog w) A (keyLt' (tuples' true) (.ref q) (.ref p)) _ _ _;refine Ke (s:={s with heap:=g}) gq gp (λz=>ne z.symm) ?_;by_cases c:m<n
  ·rw[QY (show ¬n<m by omega)]
   refine⟨rfl,?_⟩;rw[QH c];rfl
  ·rw[QV (show n<m by omega)]
   refine⟨rfl,?_⟩;rw[QI c];dsimp only[List.length];decide +kernel
 ·rintro ⟨⟨⟩,st⟩ s' ⟨rfl,ef,eo⟩
  dsimp only at ef eo ⊢;rw[eo];refine QA (Xo (s:={s with heap:=g}) ha rfl (QA (Zc ha rfl ?_ (by decide) (by split <;> exact Yf K5))))
  rw[ef];simp only[ZN,Wa,Zv];rw[fin _ rfl] at h;exact QD h
end
section
variable{X:Cx}
def v7:cI X (.builtin "sorted") (λxs H Q=>∃(l p q:Vp)(m n:Int)(vp vq:List V),xs=[.ref l]/\iA X.K H l [.ref p,.ref q]/\iy X.K H p (.int m::vp)/\iy X.K H q (.int n::vq)/\m≠n/\∀r,H r=none->Q (.ref r) (cD H r (.lst (if m<n then[.ref p,.ref q] else[.ref q,.ref p])))):=λpins s σ H xs us Q I rs ⟨l,p,q,m,n,vp,vq,ex,hl,hp,hq,ne,k⟩=>by
 subst ex;obtain⟨v,rfl,r2⟩:=gg rs;obtain rfl:v=Value.ref l:=r2;obtain⟨its,rv,pl,hz⟩:=I.list hl;obtain⟨v1,v2,rfl,rfl,rfl⟩:∃v1 v2,its=[v1,v2]/\v1=.ref p/\v2=.ref q:=by
  obtain⟨v1,v2,e,r1,r2⟩:=CF rv;exact⟨v1,v2,e,r1,r2⟩
 obtain⟨ip,rp,tp,_⟩:=I.tuple hp;obtain⟨iq,rq,tq,_⟩:=I.tuple hq;cases rp with
 |@cons _ _ _ zp hv1 rp=>
  cases rq with
  |@cons _ _ _ zq hv2 rq=>
   obtain⟨t1,rfl⟩:=hv1;obtain⟨t2,rfl⟩:=hv2;refine Yg kind_sorted plain_sorted entry_sorted (args_sorted1 _) ?_;unfold Builtin.«sorted»;refine QA (m:=checkCount "sorted" 1 1 _) (QD (QA (collect_list pl.isList ?_ (show 2<=sizeLine from K5))));refine QA (Yo ?_ (show 2<=sizeLine from K5));generalize hg:(s.heap.push (seqObj "list" #[] 0)).update s.heap.objs.size (Obj.mapSeq (·++[Value.ref p,Value.ref q].toArray))=g;have sz:g.objs.size=s.heap.objs.size+1:=by subst hg;rw[Heap.size_update,size_push']
   have kp:∀b o,s.heap.get? b=some o->g.get? b=some o:=λb o eb=>by
    subst hg;rw[Z9 _ _ _ _ (V7 (Vx eb))];exact QF _ eb
   show wpAny _ _ _ _ _ {s with heap:=g.push (seqObj "list" [Value.ref p,Value.ref q].toArray 0)};have hD:(g.push (seqObj "list" [Value.ref p,Value.ref q].toArray 0)).get? g.objs.size=some (seqObj "list" [Value.ref p,Value.ref q].toArray 0):=QT _ rfl;have kp2:∀b o,s.heap.get? b=some o->(g.push (seqObj "list" [Value.ref p,Value.ref q].toArray 0)).get? b=some o:=λb o eb=>QF _ (kp b o eb);have lt:∀b o,s.heap.get? b=some o->b≠g.objs.size:=λb o eb=>V7 (Vx (kp b o eb));have tp2:IsTup (g.push (seqObj "list" [Value.ref p,Value.ref q].toArray 0)) p (Value.int m t1::zp).toArray:=by obtain⟨o,eo,r⟩:=tp;exact⟨o,kp2 _ _ eo,r⟩
   have tq2:IsTup (g.push (seqObj "list" [Value.ref p,Value.ref q].toArray 0)) q (Value.int n t2::zq).toArray:=by obtain⟨o,eo,r⟩:=tq;exact⟨o,kp2 _ _ eo,r⟩
   have np:p≠g.objs.size:=by obtain⟨o,eo,_⟩:=tp;exact lt _ _ eo
   have nq:q≠g.objs.size:=by obtain⟨o,eo,_⟩:=tq;exact lt _ _ eo
   refine QA (Wt (VD slot_list_sort ⟨_,hD,rfl⟩ entry_list_sort (F6 (s:={s with heap:=g.push (seqObj "list" [Value.ref p,Value.ref q].toArray 0)}) hD np nq tp2 tq2 ne ⟨_,rfl,?_⟩) (args_list_sort _)));obtain⟨e,he⟩:=sortedHeap_at (out:=if m<n then #[.ref p,.ref q] else #[.ref q,.ref p]) hD;refine QD ⟨_,rfl,.ref g.objs.size,_,I.laid (o:=.lst (if m<n then[.ref p,.ref q] else[.ref q,.ref p])) (t':=s.toks) (λb o eb=>?_) (by omega) ⟨?_,(if m<n then[.ref p,.ref q] else[.ref q,.ref p]),e,?_,?_⟩,rfl,k _ (I.hok.fresh (by omega))⟩
   ·rw[sortedHeap_old (lt b o eb) (by rw[ZL];exact WI (Vx (kp b o eb)))]
    exact kp2 b o eb
   ·split <;> exact K5
   ·split
    ·exact .cons rfl (.cons rfl .nil)
    ·exact .cons rfl (.cons rfl .nil)
   ·rw[he];split <;> rfl
end
end L2
namespace L3
open L2
section
variable{X:Cx}{Γ:Ct}{W:XW}
def yi{a:Vt}{g:ME}{p pos:Pos}(hK:X.K=Γ.K)(hg:Gl X "sorted")(hm:X.mg "sorted" = none)(ha:PD X Γ W a g)
  (hs1:starEach [a] X.env=(false,eval a X.env)::starEach [] X.env:=by rfl) (hpl:(backTo pos (starEach [] X.env)).any (·.1)=false:=by rfl):
  PD X Γ W (.Call (.Name "sorted" p) [a] [] pos) (lh uS g):=
 PE.imp (iP v7 hg hm jO (cA ha dW hs1) (by decide) (by decide) hs1 hpl) λ_ _ σ H Q _ ⟨B0,B1,Hs,ρ,r,re,e,q⟩=>by
  refine(bW re e q).mono λv H1 ⟨Hs1,d,g1,re1,rp,e1,q1⟩=>?_;obtain⟨m,n,xs,ys,rfl,ne,rfl⟩:=zr e1;obtain⟨b,vs,rfl,sq,rl⟩:=b6.mp rp;obtain⟨v1,r1,rfl,p1,rl⟩:=aw.mp rl;obtain⟨v2,r2,rfl,p2,rl⟩:=aw.mp rl;obtain rfl:=bR.mp rl;obtain⟨a1,x1,rfl,s1,q1'⟩:=aX.mp p1;obtain⟨a2,x2,rfl,s2,q2'⟩:=aX.mp p2;obtain⟨i1,t1,rfl,e1',_⟩:=aw.mp q1';obtain⟨i2,t2,rfl,e2',_⟩:=aw.mp q2';obtain rfl:=af.mp e1';obtain rfl:=af.mp e2';have sm:=re1.b.i;refine⟨b,a1,a2,m,n,t1,t2,rfl,by rw[hK];exact aM.seq sm sq,by rw[hK];exact bj sm s1,by rw[hK];exact bj sm s2,ne,λl hl=>?_⟩
  refine q1 _ Hs1 _ (.only sm (bZ hl)) ⟨l,_,rfl,hl,sm.free hl,aQ,_,rfl,?_⟩;split
  ·exact .cons p1 (.cons p2 .nil)
  ·exact .cons p2 (.cons p1 .nil)
end
def GQ{d:D}(h:(GR d).isSome=true):∃a b c d' e x,d=.tup [.int a,.int b,.int c,.int d',.int e,.str x]/\Sm a/\Sm b/\Sm c/\Sm d'/\Sm e/\ft d=code5 a b c d' e:=by
 unfold GR at h;split at h
 ·rename_i a b c d' e x;by_cases z:Sm a/\Sm b/\Sm c/\Sm d'/\Sm e
  ·refine⟨a,b,c,d',e,x,rfl,z.1,z.2.1,z.2.2.1,z.2.2.2.1,z.2.2.2.2,?_⟩;show Option.getD (if Sm a/\Sm b/\Sm c/\Sm d'/\Sm e then some (code5 a b c d' e) else none) 0=_;rw[QH z];rfl
  ·rw[QI z] at h;cases h
 ·cases h
section
variable{X:Cx}{Γ:Ct}{W:XW}
def Fp{K:Frag}{H H':Hp}{p:Vp}{c:Int}(e:aM H H')(t:L2.T5 K H p c):L2.T5 K H' p c:=by
 obtain⟨i,h1,h2,h3,h4,h5⟩:=t;exact .mk (bj e i) h1 h2 h3 h4 h5
def Ij{H:Hp}{d:D}{v:V}(h:(GR d).isSome=true)(r:c6 Γ H d v):∃a,v=.ref a/\L2.T5 Γ.K H a (ft d):=by
 obtain⟨a,b,c,d',e,x,rfl,h1,h2,h3,h4,h5,hk⟩:=GQ h;obtain⟨p,xs,rfl,s,q⟩:=aX.mp r;obtain⟨v1,r1,rfl,e1,q⟩:=aw.mp q;obtain⟨v2,r2,rfl,e2,q⟩:=aw.mp q;obtain⟨v3,r3,rfl,e3,q⟩:=aw.mp q;obtain⟨v4,r4,rfl,e4,q⟩:=aw.mp q;obtain⟨v5,r5,rfl,e5,q⟩:=aw.mp q;obtain⟨v6,r6,rfl,e6,q⟩:=aw.mp q;obtain rfl:=bR.mp q;obtain rfl:=af.mp e1;obtain rfl:=af.mp e2;obtain rfl:=af.mp e3;obtain rfl:=af.mp e4;obtain rfl:=af.mp e5;obtain rfl:=aV.mp e6;refine⟨p,rfl,?_⟩;rw[hk];exact .mk s h1 h2 h3 h4 h5
theorem vT{H:Hp}:∀{ds:List D}{xs:List V},(∀d∈ds,(GR d).isSome=true)->RepL Γ H ds xs->∃its:List (D×Vp),its.map (·.1)=ds/\xs=(its.map (·.2)).map V.ref/\∀p∈its,c6 Γ H p.1 (.ref p.2)/\L2.T5 Γ.K H p.2 (ft p.1)
 |[],xs,_,r=>⟨[],rfl,bR.mp r,λ_ h=>nomatch h⟩
 |d::ds,xs,h,r=>by
  obtain⟨v,r1,rfl,e1,q⟩:=aw.mp r;obtain⟨a,rfl,t⟩:=Ij (h d (.head _)) e1;obtain⟨its,h1,h2,h3⟩:=vT (λd hd=>h d (.tail _ hd)) q;refine⟨(d,a)::its,by rw[Wm,h1],by rw[Wm,Wm,<-h2],λp hp=>?_⟩
  rcases V1.mp hp with rfl|hp
  ·exact⟨e1,t⟩
  ·exact h3 p hp
theorem vU{H:Hp}:∀{its:List (D×Vp)},(∀p∈its,c6 Γ H p.1 (.ref p.2))->RepL Γ H (its.map (·.1)) ((its.map (·.2)).map V.ref)
 |[],_=>.nil
 |p::its,h=>.cons (h p (.head _)) (vU λq hq=>h q (.tail _ hq))
def pd{a:Vt}{g:ME}{p pos:Pos}(hK:X.K=Γ.K)(hg:Gl X "sorted")(hm:X.mg "sorted" = none)(ha:PD X Γ W a g)
  (hs1:starEach [a] X.env=(false,eval a X.env)::starEach [] X.env:=by rfl) (hpl:(backTo pos (starEach [] X.env)).any (·.1)=false:=by rfl):
  PD X Γ W (.Call (.Name "sorted" p) [a] [] pos) (lh kB g):=
 PE.imp (iP uZ hg hm jO (cA ha dW hs1) (by decide) (by decide) hs1 hpl) λ_ _ σ H Q _ ⟨B0,B1,Hs,ρ,r,re,e,q⟩=>by
  refine(bW re e q).mono λv H1 ⟨Hs1,d,g1,re1,rp,e1,q1⟩=>?_;obtain⟨ds,rfl,hs,nd,rfl⟩:=zo e1;obtain⟨b,vs,rfl,sq,rl⟩:=b6.mp rp;obtain⟨its,h1,h2,h3⟩:=vT hs rl;subst h1 h2;have sm:=re1.b.i;rw[Zi] at nd;refine⟨D×Vp,b,its,(·.2),λp=>ft p.1,rfl,by rw[hK];exact aM.seq sm sq,λp hp=>?_,nd,λbs l hb1 hb2 hl=>?_⟩
  ·rw[hK];exact Fp sm (h3 p hp).2
  ·refine q1 _ Hs1 _ (.only sm (bZ hl)) ⟨l,_,rfl,hl,sm.free hl,aQ,_,rfl,?_⟩;rw[<-ve (k:=ft) ((hb1.map (·.1)).trans (iN _).symm) (WY.mpr hb2) (tQ _)];exact vU λp hp=>(h3 p (hb1.mem_iff.mp hp)).1
end
end L3
namespace L2
open PySem.W
def p0:Manifest.owners.lookup (String.ofList ['d','e','s','r','e','v','e','r'].reverse)=some Manifest.sig_reversed:=by kernel_rfl
def mh:Slot "reversed" "__next__" "reversed.__next__":=
 .of (owner := "reversed") (n := "__next__") (by rw[Wq,VS];kernel_rfl) (by decide +kernel) (by decide +kernel) (by decide +kernel)
  (by first|exact .inl (by decide +kernel)|exact .inr (by decide +kernel)) (by rw[Wy];kernel_rfl)
def ly:entryFor table "reversed.__next__" = some Builtin.«reversed.__next__»:=Xs (by kernel_rfl)
def mi(a:Vn):argsOk "reversed.__next__" ⟨[a],[]⟩:=by
 unfold argsOk;rw[signature?_of (id := "reversed.__next__") (n:=['_','_','t','x','e','n','_','_']) (o:=['d','e','s','r','e','v','e','r']) (by kernel_rfl) p0];kernel_rfl
def zU:Slot "reversed" "__iter__" "reversed.__iter__":=
 .of (owner := "reversed") (n := "__iter__") (by rw[Wq,VS];kernel_rfl) (by decide +kernel) (by decide +kernel) (by decide +kernel)
  (by first|exact .inl (by decide +kernel)|exact .inr (by decide +kernel)) (by rw[Wy];kernel_rfl)
def u4(a:Vn):argsOk "reversed.__iter__" ⟨[a],[]⟩:=by
 unfold argsOk;rw[signature?_of (id := "reversed.__iter__") (n:=['_','_','r','e','t','i','_','_']) (o:=['d','e','s','r','e','v','e','r']) (by kernel_rfl) p0];kernel_rfl
def qX:entryFor table "reversed.__iter__" = some Builtin.«dict_keyiterator.__iter__»:=
 entryFor_alias (id' := "dict_keyiterator.__iter__") (by kernel_rfl) (by first|rfl|decide +kernel|(unfold String.splitOn;simp +decide [String.splitOnAux])) (by decide +kernel) (by kernel_rfl)
def FF:Slot "reversed" "__init__" "object.__init__":=
 .of (owner := "object") (n := "__init__") (by rw[Wq,VS];kernel_rfl) (by decide +kernel) (by decide +kernel) (by decide +kernel)
  (by first|exact .inl (by decide +kernel)|exact .inr (by decide +kernel)) (by rw[Wy];kernel_rfl)
def Bb:TypeCalled "reversed" "reversed.__new__" "object.__init__":=
 ⟨by decide +kernel,by decide +kernel,⟨_,_,F.mro_reversed⟩,F.made_reversed,by decide +kernel,F.sub_reversed_self,FF⟩
def FD:typeLookup (.type "tuple") "__reversed__" = pure none:=by rw[Wq,VS];kernel_rfl
def Ie:typeLookup (.type "reversed") "__len__" = pure none:=by rw[Wq,VS];kernel_rfl
def FG:typeLookup (.type "reversed") "__length_hint__" = pure (some (.builtin "reversed.__length_hint__")):=by rw[Wq,VS];kernel_rfl
def Hk(l:Vp)(i:Int):Obj:={cls:=.type "reversed",data:=.fields #[.ref l,rawInt i]}
def IsRv(h:Vs)(a l:Vp)(i:Int):Prop:=∃o,h.get? a=some o/\o.cls=.type "reversed" /\ o.data=.fields #[.ref l,rawInt i]
section
variable{prog:Vq}{w:Vr}{A:Vv}{E:Vn->Vo->Prop}{s:Vo}
def IsRv.typeIs{a l:Vp}{i:Int}(x:IsRv s.heap a l i):s.TypeIs (.ref a) "reversed" := let ⟨o,ho,hc,_⟩:=x;⟨o,ho,hc⟩
def IsRv.at{h h':Vs}{a l:Vp}{i:Int}(x:IsRv h a l i)(e:∀o,h.get? a=some o->h'.get? a=some o):IsRv h' a l i:=let ⟨o,ho,r⟩:=x;⟨o,e _ ho,r⟩
def D7(t:Vp)(items:Array Vn):Meets (Builtin.«reversed.__new__» ⟨[.type "reversed",.ref t],[]⟩) (λ_ R s=>IsTup s.heap t items/\(items.size:Int)<2 ^ 63/\R (.ok (.ret (.ref s.heap.objs.size))) {s with heap:=s.heap.push (Hk t ((items.size:Int) - 1)),toks:=s.toks+1+1}):=
 .of_wp λprog w A R s h=>by
  obtain⟨ht,hf,h⟩:=h;unfold Builtin.«reversed.__new__»;refine QA (Wn (newClass_reversed _) ?_)
  try dsimp only
  refine QA (Wn (a:=()) (by first|rfl|kernel_rfl) ?_)
  refine QA (Wn (a:=()) (by first|rfl|kernel_rfl) ?_)
  try dsimp only
  refine QA (Zk ht.typeIs FD ?_)
  try dsimp only
  refine QA (QA (Zb (T := "tuple") (b:=false) ht.typeIs (by rw[Wy];kernel_rfl) ?_))
  refine QA (Zk ht.typeIs slot_tuple_getitem.lookup ?_);refine QD ?_;refine QA (len_tuple ht hf ?_);refine QA (Wn (a:=some (items.size:Int)) rfl ?_);refine QA ?_;unfold Builtin.SmallTypes.newRecord;exact VE (QD ⟨_,rfl,h⟩)
def EM{t:Vp}{items:Array Vn}{Q:Vn->Vo->Prop}(ht:IsTup s.heap t items)(hf:(items.size:Int)<2 ^ 63)(h:Q (.ref s.heap.objs.size) {s with heap:=s.heap.push (Hk t ((items.size:Int) - 1)),toks:=s.toks+1+1}):wpAny (model prog w) A (call (.type "reversed") [.ref t]) Q E s:=
 callType_new Bb (by decide) (F.typeCall_reversed_1 _) (F.newCall_reversed_1 _) (λobj=>F.args_object_init_2 obj _) F.entry_reversed_new (D7 t items) ⟨ht,hf,⟨_,QT _ rfl,rfl⟩,h⟩
def FE{it l:Vp}{i:Nat}{items:Array Vn}{x:Vn}{Q:Option Vn->Vo->Prop}(hit:IsRv s.heap it l (i:Int))(hl:IsTup s.heap l items)(hx:items[i]?=some x)(hs:(items.size:Int)<2 ^ 63)
  (hQ:∀h',IsRv h' it l ((i:Int) - 1)->Heap.SameBut it s.heap h'->Q (some x) {s with heap:=h',toks:=s.toks+1}):wpAny (model prog w) A (pyNext (.ref it)) Q E s:=by
 obtain⟨o,ho,hc,hd⟩:=id hit;have hi:i<items.size:=(Array.getElem?_eq_some_iff.mp hx).1;unfold pyNext;refine QA (WK (VU (name:=Str.ofString "__next__") hit.typeIs mh
  (VD mh hit.typeIs ly ?_ (mi _))))
 unfold Builtin.«reversed.__next__»;refine QA (Wn (a:=(Value.ref it,[])) rfl ?_)
 try dsimp only
 refine QA (Wf ho hd (x:=.ref l) rfl ?_);refine QA (Wf ho hd (x:=rawInt (i:Int)) rfl ?_);show wpAny _ _ (if(i:Int)<0 then _ else _) _ _ s;rw[QI (by omega)]
 refine QA (Zk hl.typeIs slot_tuple_getitem.lookup ?_);refine QA (wpAny_mkInt ?_);refine QA (WK (getItem_tuple (s:={s with toks:=s.toks+1}) hl (by omega) (by omega) (j:=i) ?_ hx ?_))
 ·unfold seqIndex?;simp;omega
 ·refine QA (Wf (s:={s with toks:=s.toks+1}) ho hd (x:=rawInt (i:Int)) rfl ?_);refine QA (ZX ho hd (by simp) ?_)
  refine QD ⟨x,rfl,QD (hQ _ ?_ (ZM ..))⟩;exact⟨_,WJ _ ho (Y7 (WG hd _)),(Obj.cls_mapFields ..).trans hc,by
   rw[WG hd];simp⟩
def FC{it l:Vp}{Q:Option Vn->Vo->Prop}(hh:A.handled=none)(hit:IsRv s.heap it l (-1))
  (hQ:∀h',Heap.ExtBut it s.heap h'->Q none {s with heap:=h'}):wpAny (model prog w) A (pyNext (.ref it)) Q E s:=by
 obtain⟨o,ho,hc,hd⟩:=id hit;unfold pyNext;refine QA (WK (VU (name:=Str.ofString "__next__") hit.typeIs mh
  (VD mh hit.typeIs ly ?_ (mi _))))
 unfold Builtin.«reversed.__next__»;refine QA (Wn (a:=(Value.ref it,[])) rfl ?_)
 try dsimp only
 refine QA (Wf ho hd (x:=.ref l) rfl ?_);refine QA (Wf ho hd (x:=rawInt (-1)) rfl ?_);show wpAny _ _ (if(-1:Int)<0 then _ else _) _ _ s;rw[QH (by decide)]
 refine QA (WH ?_);refine QA (QA (ZX ho hd (by simp) ?_))
 refine ZX (WJ _ ho (Y7 (WG hd _))) (WG hd _) (by simp) ?_
 refine QA ?_;show wpAny _ _ (newExc (.type "StopIteration") [] >>= _) _ _ _;refine QA ?_;simp only[newExc,newTuple];refine QA (VE ?_ (by size_fits))
 refine QA (m:=firstArgMember _ _) (Wn (a:=Value.none) (by first|rfl|(simp only[firstArgMember];rfl)) ?_)
 refine VE ?_ (by size_fits)
 simp only[raiseNew];refine QA (wpAny_handled ?_)
 first|rw[show A.in1.handled=none from hh]|rw[hh]
 refine QA (QD (wpAny_throw ?_));refine QA (Zb (T := "StopIteration") (b:=true) ⟨_,QT _ rfl,rfl⟩ isSubtype_stop ?_);refine QD (hQ _ ?_);refine Heap.ExtBut.push (Heap.ExtBut.push ?_ _) _;intro b x hb e;rw[Z9 _ _ _ _ hb,Z9 _ _ _ _ hb];exact e
def rX{it l:Vp}{i:Int}{Q:Vn->Vo->Prop}(hit:IsRv s.heap it l i)(h:Q (.ref it) s):wpAny (model prog w) A (pyIter (.ref it)) Q E s:=by
 refine Xk hit.typeIs zU (VD zU hit.typeIs qX ?_ (u4 _));show wpAny _ _ (ret (.ref it)) _ _ s;exact QD ⟨_,rfl,"reversed",_,hit.typeIs,mh.lookup,h⟩
def vQ:Slot "reversed" "__length_hint__" "reversed.__length_hint__":=
 .of (owner := "reversed") (n := "__length_hint__") (by rw[Wq,VS];kernel_rfl) (by decide +kernel) (by decide +kernel) (by decide +kernel)
  (by first|exact .inl (by decide +kernel)|exact .inr (by decide +kernel)) (by rw[Wy];kernel_rfl)
def Ba:entryFor table "reversed.__length_hint__" = some Builtin.«reversed.__length_hint__»:=Xs (by kernel_rfl)
def D9(a:Vn):argsOk "reversed.__length_hint__" ⟨[a],[]⟩:=by
 unfold argsOk;rw[signature?_of (id := "reversed.__length_hint__") (n := "__length_hint__".toList.reverse) (o:=['d','e','s','r','e','v','e','r']) (by kernel_rfl) p0];kernel_rfl
def Jz{i:Int}(h0:0<=i)(h:i<2 ^ 63):Builtin.List.listFitsIndex i=true:=by
 unfold Builtin.List.listFitsIndex;rw[VJ];exact⟨QV (by omega),QV h⟩
def D8{it l:Vp}{items:Array Vn}(hit:IsRv s.heap it l ((items.size:Int) - 1))(hl:IsTup s.heap l items)(hz:items.size<=sizeLine)(hf:(items.size:Int)<2 ^ 63){Q:Bool->Vo->Prop}(h:∀tk,Q ((items.size:Int) != 0) {s with toks:=tk}):wpAny (model prog w) A (Builtin.List.listLengthHint (.ref it)) Q E s:=by
 obtain⟨o,ho,hc,hd⟩:=id hit;unfold Builtin.List.listLengthHint;refine QA (Zk hit.typeIs Ie ?_);show wpAny _ A (specialOf (Value.ref it) (Str.ofString "__length_hint__") >>= _) _ _ _;refine QA (Zk hit.typeIs FG ?_);generalize hid:("reversed.__length_hint__" : Vw)=id0
 wp_delta
 rw[show splitId id0=some ("reversed","__length_hint__") from by subst hid;decide +kernel]
 subst hid;refine QA (Zb (T := "reversed") (b:=true) hit.typeIs (by rw[Wy];kernel_rfl) (ZJ (λhab=>absurd hab (by decide)) (λ_=>ZJ (λhab=>absurd hab (by decide +kernel)) λ_=>?_)))
 refine QA (WH ?_);refine QA (Wn (vQ.bind _) ?_);refine QA (WK (VD vQ hit.typeIs Ba ?_ (D9 _)));unfold Builtin.«reversed.__length_hint__»;refine QA (Wn (a:=Value.ref it) rfl ?_);refine QA (Wf ho hd (x:=.ref l) rfl ?_);rw[QI (show ¬((Value.ref l == Value.none)=true) from QC)];refine QA (len_tuple hl hf ?_);refine QA (Wn (a:=some (items.size:Int)) rfl ?_);refine QA (Wf (s:={s with toks:=s.toks+1+1}) ho hd (x:=rawInt ((items.size:Int) - 1)) rfl ?_);show wpAny _ _ (if(items.size:Int)<(items.size:Int) - 1+1 then _ else _) _ _ _;rw[QI (by omega),Int.sub_add_cancel]
 refine QA (wpAny_mkInt (QD ⟨_,rfl,?_⟩));dsimp only;refine QA ?_;have ea:asInt? (Value.int (items.size:Int) (s.toks+1+1))=pure (some (items.size:Int)):=rfl;rw[ea];refine QD ?_;dsimp only;rw[QI (by rw[Jz (Zr _) hf];exact QC),QI (Ye.mpr (Zr _)),QI (by rw[VH];exact λz=>Yh.mpr hz (Wx z))]
 exact QD (h _)
end
def D6{prog:Vq}{w:Vr}{A:Vv}(hh:A.handled=none)(I l:Vp)(hne:l≠I)(items:Array Vn)(hs:(items.size:Int)<2 ^ 63):
  Walks prog w A I [I,l] [I] items.size (λi v=>items[items.size - 1 - i]?=some v) (λi h=>i<=items.size/\IsRv h I l ((items.size:Int) - 1 - (i:Int))/\IsTup h l items) where
 sub:=λb hb=>by simp at hb;simp[hb]
 frame:=λ_ _ _ x hk=>⟨x.1,x.2.1.at λo e=>hk I (by simp) o e,let ⟨o,ho,r⟩:=x.2.2;⟨o,hk l (by simp) o ho,r⟩⟩
 item:=λi s Q E hi x hQ=>by
  have e:(items.size:Int) - 1 - (i:Int)=((items.size - 1 - i:Nat):Int):=by omega
  have hit:=x.2.1;rw[e] at hit;have hx:items[items.size - 1 - i]?=some (items[items.size - 1 - i]'(by omega)):=QW (by omega)
  refine FE hit x.2.2 hx hs λh' hit' hs'=>?_;have e2:((items.size - 1 - i:Nat):Int) - 1=(items.size:Int) - 1 - ((i+1:Nat):Int):=by omega
  rw[e2] at hit';exact hQ _ h' (s.toks+1) hx ⟨hi,hit',let ⟨o,ho,r⟩:=x.2.2;⟨o,(hs'.2 l hne).trans ho,r⟩⟩ λb o hb eo=>hs'.extBut b o (λh=>hb (by simp[h])) eo
 done:=λs Q E x hQ=>by
  have e:(items.size:Int) - 1 - (items.size:Int)=-1:=by omega
  have hit:=x.2.1;rw[e] at hit;exact FC hh hit λh' he'=>hQ h' s.toks λb o hb eo=>he' b o (λh=>hb (by simp[h])) eo
 self:=λ_ _ _ _ x hQ=>rX x.2.1 hQ
section
variable{prog:Vq}{w:Vr}{A:Vv}{E:Vn->Vo->Prop}{s:Vo}{it l:Vp}
def x4{h h':Vs}{a:Vp}{xs:Array Vn}(x:IsTup h a xs)(e:∀o,h.get? a=some o->h'.get? a=some o):IsTup h' a xs:=let ⟨o,ho,r⟩:=x;⟨o,e _ ho,r⟩
def xF{items:Array Vn}{Q:Vn->Vo->Prop}(hh:A.handled=none)(hit:IsRv s.heap it l ((items.size:Int) - 1))(hl:IsTup s.heap l items)(hne:l≠it)(hn:items.size<=sizeLine)
  (h:∀(h':Vs)(tk:Nat)(c:Nat),(∀b o,b≠it->s.heap.get? b=some o->h'.get? b=some o)->h'.get? s.heap.objs.size=some {cls:=.type "list",data:=.seq items.toList.reverse.toArray c}->Q (.ref s.heap.objs.size) {s with heap:=h',toks:=tk}):
  wpAny (model prog w) A (call (.type "list") [.ref it]) Q E s:=by
 have hf:(items.size:Int)<2 ^ 63:=by rw[WC] at hn;omega
 have lit:it≠s.heap.objs.size:=by obtain⟨o,ho,_⟩:=hit;exact V7 (Vx ho)
 have ll:l≠s.heap.objs.size:=V7 (by obtain⟨o,ho,_⟩:=hl;exact Vx ho)
 have Wk:=(D6 (prog:=prog) (w:=w) (A:=A.in1.in1) hh it l hne items hf).toS;have hSf:s.heap.objs.size∉[it,l]:=λz=>by
  rcases V1.mp z with z|z
  ·exact lit z.symm
  ·exact ll (V3.mp z).symm
 refine callType_codes (Q₁:=λob s1=>ob=.ref s.heap.objs.size/\s1={s with heap:=s.heap.push {cls:=.type "list",data:=.seq #[]}}) PySem.F.called_list (PySem.F.typeCall_list_1 _) PySem.F.entry_list_init (code_list_new _ ⟨rfl,rfl⟩) λob s1 h1=>?_;obtain⟨rfl,rfl⟩:=h1;have hS0:(s.heap.push {cls:=.type "list",data:=.seq #[]}).get? s.heap.objs.size=some {cls:=.type "list",data:=.seq #[]}:=QT _ rfl;refine⟨⟨_,hS0,rfl⟩,PySem.F.args_list_init_2 _ _,?_⟩;have kp:∀b o,s.heap.get? b=some o->(s.heap.push {cls:=.type "list",data:=.seq #[]}).get? b=some o:=λb o e=>QF _ e;generalize s.heap.push {cls:=.type "list",data:=.seq #[]}=g at hS0 kp;have loop:∀(h1:Vs)(tk c1:Nat),(∀b o,b≠s.heap.objs.size->g.get? b=some o->h1.get? b=some o)->h1.get? s.heap.objs.size=some {cls:=.type "list",data:=.seq #[] c1}->
   codeAny (model prog w) A.in1 (.builtin "list.extend.loop" ⟨[.ref s.heap.objs.size,.ref it,.none],[]⟩) (λr s'=>r=.ok (.ret .none)/\Q (.ref s.heap.objs.size) s') {s with heap:=h1,toks:=tk}:=λh1 tk c1 k1 e1=>by
  have st:0<=items.size/\IsRv h1 it l ((items.size:Int) - 1 - ((0:Nat):Int))/\IsTup h1 l items:=⟨VA _,by
   rw[show(items.size:Int) - 1 - ((0:Nat):Int)=(items.size:Int) - 1 by omega]
   exact hit.at λo e=>k1 _ _ lit (kp _ _ e),x4 hl λo e=>k1 _ _ ll (kp _ _ e)⟩
  refine codeAny_extend_loopS Wk hn _ hSf .none items.size 0 {s with heap:=h1,toks:=tk} #[] c1 rfl (VA _) st e1 (ItemsOf.nil _) λs' acc c hm hS hacc=>?_;rw[Moved.eq_with hm];refine⟨rfl,h s'.heap s'.toks c (λb o hb e=>hm.heap b o (λz=>?_) (k1 b o (V7 (Vx e)) (kp b o e))) ?_⟩
  ·rcases V1.mp z with z|z
   ·exact V7 (Vx e) z
   ·exact hb (V3.mp z)
  ·rw[hS,Bd hacc]
 show wpAny _ _ (do let old <-Builtin.List.listItems (.ref s.heap.objs.size);Builtin.List.listUpdate (.ref s.heap.objs.size) (λ_=>#[]);letGo old.toList.reverse;Builtin.List.listExtendWith (.ref s.heap.objs.size) (.ref it) .none) _ _ _
 refine QA (listItems_at hS0 rfl (QA (Zc hS0 rfl ?_ (VA _) (VA _))));have hS1:=WJ (Obj.mapSeq (λ_=>(#[]:Array Vn))) hS0 rfl;have o1:∀b o,b≠s.heap.objs.size->g.get? b=some o->(g.update s.heap.objs.size (Obj.mapSeq (λ_=>(#[]:Array Vn)))).get? b=some o:=λb o hb e=>(Zw _ _ (W8 hb)).trans e;generalize g.update s.heap.objs.size (Obj.mapSeq (λ_=>(#[]:Array Vn)))=g1 at hS1 o1;refine QA (wpAny_letGo ?_);unfold Builtin.List.listExtendWith;have hit1:IsRv g1 it l ((items.size:Int) - 1):=hit.at λo e=>o1 _ _ lit (kp _ _ e);have hl1:IsTup g1 l items:=x4 hl λo e=>o1 _ _ ll (kp _ _ e);have hT:Shared.TypeIs {s with heap:=g1} (.ref it) "reversed" := hit1.typeIs (s:={s with heap:=g1});refine QA (wpAny_typeOf hT ?_);have n1:Builtin.List.listSameRef (.ref s.heap.objs.size) (.ref it)=false:=by simp[Builtin.List.listSameRef,W8 lit]
 have n2:(Value.type "reversed" == Value.type "list")=false:=by decide
 have n3:(Value.type "reversed" == Value.type "tuple")=false:=by decide
 simp only[n1,n2,n3,WT,Wa,Zv];refine QA (rX (s:={s with heap:=g1}) hit1 (QA (Wt (D8 (s:={s with heap:=g1}) hit1 hl1 hn hf λtk=>?_))));refine ZJ (λz=>?_) (λ_=>QD ⟨Yn Xp _,?_⟩)
 ·refine QA (WH ?_);refine QA (QA (Zc (s:={s with heap:=g1,toks:=tk}) hS1 rfl ?_ (VA _) (by decide)))
  have hS2:=WJ (Obj.mapSeq (λa:Array Vn=>a.push .none)) hS1 rfl;have o2:∀b o,b≠s.heap.objs.size->g.get? b=some o->(g1.update s.heap.objs.size (Obj.mapSeq (λa:Array Vn=>a.push .none))).get? b=some o:=λb o hb e=>(Zw _ _ (W8 hb)).trans (o1 b o hb e);generalize g1.update s.heap.objs.size (Obj.mapSeq (λa:Array Vn=>a.push .none))=g2 at hS2 o2;refine Zc (s:={s with heap:=g2,toks:=tk}) hS2 rfl ?_ (by decide) (VA _)
  have hS3:=WJ (Obj.mapSeq (λa:Array Vn=>a.pop)) hS2 rfl;have o3:∀b o,b≠s.heap.objs.size->g.get? b=some o->(g2.update s.heap.objs.size (Obj.mapSeq (λa:Array Vn=>a.pop))).get? b=some o:=λb o hb e=>(Zw _ _ (W8 hb)).trans (o2 b o hb e);refine QD ⟨Yn Xp _,?_⟩;exact WD (loop _ _ _ o3 hS3) λr s' ⟨er,q⟩=>by subst er;exact⟨rfl,q⟩
 ·exact WD (loop g1 _ _ o1 hS1) λr s' ⟨er,q⟩=>by subst er;exact⟨rfl,q⟩
end
def Ks(it l:Vp)(n:Nat):HO:=.ext λh=>IsRv h it l ((n:Int) - 1)
section
variable{X:Cx}{pins:List (Vp×Obj)}{σ:St}{s:Vo}
def Ig{P:Vq}{w:Vr}{H:Hp}{h:Vs}{a l:Vp}{n:Nat}(S:IsRv h a l ((n:Int) - 1)):du P w H h a (Ks a l n):=by
 refine⟨S,?_,λh1 h2 S1 k=>S1.at k⟩;obtain⟨o,e,_⟩:=S;exact⟨o,e⟩
def I9{K:Frag}{H0:Hp}{p it:Vp}{vs:List V}{u:HO}(h:iy K H0 p vs)(hn:H0 it=none):iy K (cD H0 it u) p vs:=by
 rcases h with(h|⟨o,h⟩)|h
 ·exact .inl (.inl (by rw[az (aO h hn)];exact h))
 ·exact .inl (.inr ⟨o,by rw[az (aO h hn)];exact h⟩)
 ·exact .inr h
theorem Cf:cI X (.type "reversed") (λxs H Q=>∃(p:Vp)(vs:List V),xs=[.ref p]/\iy X.K H p vs/\∀a:Vp,H a=none->X.s₀.heap.objs.size<=a->Q (.ref a) (cD H a (Ks a p vs.length))):=λpins s σ H xs us Q I rs ⟨p,vs,ex,sq,q⟩=>by
 subst ex;obtain⟨u,rfl,r2⟩:=gg rs;obtain rfl:u=Value.ref p:=r2;obtain⟨its,rv,pl,hz⟩:=I.tuple sq;refine EM pl (by rw[QK,<-rv.length];rw[WC] at hz;omega) ?_
 have e:((its.toArray.size:Nat):Int) - 1=(vs.length:Int) - 1:=by rw[QK,rv.length]
 rw[e];have big:X.s₀.heap.objs.size<=s.heap.objs.size:=by
  obtain⟨m,⟨o,es,ep,ho,_⟩,_⟩:=id I.loc;exact V5 I.ok.above (W7 (Vx ho))
 exact⟨.ref s.heap.objs.size,_,I.laid (o:=Ks s.heap.objs.size p vs.length) (t':=s.toks+1+1) (λb o q=>QF _ q) (QO _) (Ig ⟨_,QT _ rfl,rfl,rfl⟩),rfl,q _ (I.hok.fresh (QO _)) big⟩
def Cg(hc:X.calm=true):cI X (.type "list") (λxs H Q=>∃(it p:Vp)(vs:List V)(H0:Hp),xs=[.ref it]/\H0 it=none/\X.s₀.heap.objs.size<=it/\H=cD H0 it (Ks it p vs.length)/\iy X.K H0 p vs/\∀l:Vp,H0 l=none->Q (.ref l) (cD H0 l (.lst vs.reverse))):=λpins s σ H xs us Q I rs ⟨it,p,vs,H0,ex,hn,big,eH,sq,q⟩=>by
 subst ex eH;obtain⟨u,rfl,r2⟩:=gg rs;obtain rfl:u=Value.ref it:=r2;obtain⟨its,rv,pl,hz⟩:=I.tuple (I9 sq hn);obtain⟨S,_,_⟩:IsRv s.heap it p ((vs.length:Int) - 1)/\_:=I.hok it _ aQ;have e:((its.toArray.size:Nat):Int) - 1=(vs.length:Int) - 1:=by rw[QK,rv.length]
 have hpi:p≠it:=λz=>by
  subst z;obtain⟨o,e1,c1,_⟩:=S;obtain⟨o2,e2,c2,_⟩:=pl;rw[e1] at e2;cases e2;rw[c1] at c2;injection c2 with c2;exact absurd c2 (by decide)
 have I0:=I.drop hn;have nit:∀b,cD H0 it (Ks it p vs.length) b=none->b≠it:=λb h z=>by subst z;rw[aQ] at h;cases h
 refine xF (I.ok.hd hc) (by rw[e];exact S) pl hpi (by rw[QK,<-rv.length];exact hz) λh' tk c kp hS=>?_
 have hf:H0 s.heap.objs.size=none:=I0.hok.fresh (QO _);have I1:=I0.laid (a:=s.heap.objs.size) (o:=.lst vs.reverse) (t':=s.toks) (h':=s.heap.push {cls:=.type "list",data:=.seq its.reverse.toArray c}) (λb o q=>QF _ q) (QO _)
  ⟨by rw[Y3];exact hz,its.reverse,c,rv.reverse,QT _ rfl⟩
 have lt:it≠s.heap.objs.size:=by obtain⟨o,ho,_⟩:=S;exact V7 (Vx ho)
 have I2:=I1.turned (t':=tk) (it:=it) (h':=h') (λb o hb q=>by
   by_cases z:b=s.heap.objs.size
   ·subst z;rw[QT _ rfl] at q;cases q;exact hS
   ·exact kp b o hb (by rwa[Heap.get?_push_ne _ _ _ z] at q)) (by rw[az lt];exact hn) (λz=>nit _ I.free z.symm) (.inr big) (λx c hx=>nit _ (I.freeC x c hx)) λp hp=>nit _ (I.pin p hp).2.1
 exact⟨.ref s.heap.objs.size,_,I2,rfl,q _ hf⟩
end
end L2
namespace L3
open L2
section
variable{X:Cx}{Γ:Ct}{W:XW}
theorem wc{a:Vt}{g:ME}{p p' pos' pos:Pos}(hK:X.K=Γ.K)(hc:X.calm=true)(hg:Gl X "list")(hm:X.mg "list" = none)(hg2:Gl X "reversed")(hm2:X.mg "reversed" = none)(ha:PD X Γ W a g)
  (hs1:starEach [a] X.env=(false,eval a X.env)::starEach [] X.env:=by rfl) (hpl:(backTo pos' (starEach [] X.env)).any (·.1)=false:=by rfl)
  (hs3:starEach [.Call (.Name "reversed" p') [a] [] pos'] X.env=(false,eval (.Call (.Name "reversed" p') [a] [] pos') X.env)::starEach [] X.env:=by rfl) (hpl2:(backTo pos (starEach [] X.env)).any (·.1)=false:=by rfl):
  PD X Γ W (.Call (.Name "list" p) [.Call (.Name "reversed" p') [a] [] pos'] [] pos) (lh EE g):=
 PE.imp (gJ (Cg hc) hg hm boot_list (cA (gJ Cf hg2 hm2 rO (cA ha dW hs1) (by decide) (by decide) hs1 hpl) dW hs3) (by decide) (by decide) hs3 hpl2) λ_ _ σ H Q _ ⟨B0,B1,Hs,ρ,r,re,e,q⟩=>by
  refine(bW re e q).mono λv H1 ⟨Hs1,d,g1,re1,rp,e1,q1⟩=>?_;cases d with
  |tup ds=>
   cases e1;obtain⟨b,xs,rfl,sq,rl⟩:=aX.mp rp;have sm:=re1.b.i;refine⟨b,xs,rfl,by rw[hK];exact bj sm sq,λa hn big=>⟨a,b,xs,H1,rfl,hn,big,rfl,by rw[hK];exact bj sm sq,λl hl=>?_⟩⟩
   exact kR sm q1 rl.reverse hl
  |_=>cases e1
end
end L3
namespace L3
section
variable{ρ ρ' ρ1:aJ}{a b c:ME}{x y:MC}{o:Option nY}{s t:S}{r:Option R}
def b5(h:x ρ=some (.ret s)):aC x y ρ=some (.ret s):=by unfold aC;rw[h]
def a3(h:x ρ=some (.next ρ'))(h2:y ρ'=o):aC x y ρ=o:=by unfold aC;rw[h];exact h2
def cp{u v:MC}(h:c ρ=okB true)(h2:u ρ=o):gI c u v ρ=o:=by unfold gI;rw[h];exact h2
def aq{u v:MC}(h:c ρ=okB false)(h2:v ρ=o):gI c u v ρ=o:=by unfold gI;rw[h];exact h2
def ak{i:Nat}(h:a ρ=some (.ok s)):bq i a ρ=some (.next (ρ.set i (some s))):=by unfold bq;rw[h];rfl
def ay(h:a ρ=some (.ok s)):bG a ρ=some (.ret s):=by unfold bG;rw[h];rfl
def bw{i:Nat}(h:x (dem i ρ)=o):dc i x ρ=o:=h
def f6{i:Nat}{ds:List D}(h0:ρ[i]?=some (some (.own (.lst ds))))(h:a ρ=some (.ok s))(hl:ds.length<lim):cO i a ρ=some (.next (ρ.set i (some (.own (.lst (ds++[s.val])))))):=by
 unfold cO wg;rw[h0];dsimp only;rw[h];dsimp only[jY];rw[QH hl]
def xm{i:Nat}{ds es:List D}(h0:ρ[i]?=some (some (.own (.lst ds))))(h:a ρ=some (.ok s))(hi:mr s.val=some es)(hl:ds.length+es.length<=lim):mf i a ρ=some (.next (ρ.set i (some (.own (.lst (ds++es)))))):=by
 unfold mf wg;rw[h0];dsimp only;rw[h];dsimp only[jY];rw[hi];dsimp only;rw[QH hl]
def fh{it:MI}{bd:MB}{body:MC}{ds:List D}(h:it ρ=some (.ok ds))(h2:lg bd body ds ρ=o):iD it bd body ρ=o:=by unfold iD;rw[h];exact h2
def ao{np n:Nat}{g:MC}{ds:List D}(hl:ds.length=np)(h:g (dU n ds)=some (.ret s)):jh np n g ds=some (.ok s):=by unfold jh;rw[QH hl,h];rfl
def a6{f:D->D->Option R}(h1:a ρ=some (.ok s))(h2:b ρ=some (.ok t))(h3:f s.val t.val=r):a9 f a b ρ=r:=by unfold a9;rw[h1];dsimp only[b0];rw[h2];exact h3
def oC{f:D->Option R}(h1:a ρ=some (.ok s))(h3:f s.val=r):lh f a ρ=r:=by unfold lh;rw[h1];exact h3
def fY(h:a ρ=okB true)(h2:b ρ=r):fu a b ρ=r:=by unfold fu;rw[h];exact h2
def dt(h:a ρ=okB false):fu a b ρ=okB false:=by unfold fu;rw[h];rfl
def qY(h:a ρ=okB true):qy a b ρ=okB true:=by unfold qy;rw[h];rfl
def cm(h:a ρ=okB false)(h2:b ρ=r):qy a b ρ=r:=by unfold qy;rw[h];exact h2
def KN{z:Bool}(h:a ρ=okB z):n9 a ρ=okB (!z):=by unfold n9 lh;rw[h];rfl
def pK(h:a ρ=okB true):n9 a ρ=okB false:=KN h
def bK{F:List D->Option R}{e1:ME}{s1:S}(h1:e1 ρ=some (.ok s1))(h:F [s1.val]=r):ai F [e1] ρ=r:=by unfold ai br;rw[h1];exact h
def bB{F:List D->Option R}{e1 e2:ME}{s1 s2:S}(h1:e1 ρ=some (.ok s1))(h2:e2 ρ=some (.ok s2))(h:F [s1.val,s2.val]=r):ai F [e1,e2] ρ=r:=by
 unfold ai br;rw[h1];dsimp only[b0];unfold br;rw[h2];exact h
def bN{F:List D->Option R}{e1 e2 e3:ME}{s1 s2 s3:S}(h1:e1 ρ=some (.ok s1))(h2:e2 ρ=some (.ok s2))(h3:e3 ρ=some (.ok s3))(h:F [s1.val,s2.val,s3.val]=r):ai F [e1,e2,e3] ρ=r:=by
 unfold ai br;rw[h1];dsimp only[b0];unfold br;rw[h2];dsimp only[b0];unfold br;rw[h3];exact h
def sT{e1 e2:ME}{s1 s2:S}(h1:e1 ρ=some (.ok s1))(h2:e2 ρ=some (.ok s2)):bA [e1,e2] ρ=okD (.tup [s1.val,s2.val]):=bB h1 h2 rfl
def eQ{e1:ME}{s1:S}{n:Int}(h1:e1 ρ=some (.ok s1))(h:bU s1.val=okI n):aI (f1 bU) [e1] ρ=okI n:=by
 have:br [e1] ρ (f1 bU)=okI n:=bK (F:=f1 bU) h1 h;unfold aI;rw[this];rfl
def cK{i:Nat}{d:D}(h:ρ[i]?=some (some (.sh d))):a5 i ρ=okD d:=by unfold a5;rw[h]
def f9{i:Nat}(h:ρ[i]?=some (some s))(hn:s.nd=true:=by rfl):dR i ρ=okD s.val:=by
 unfold dR;rw[h];cases s with
 |sh d=>rfl
 |own o=>cases o with
  |lst _=>rfl
  |obj _ _ _=>rfl
  |dic _=>cases hn
  |par _ _=>cases hn
  |fdic _=>cases hn
  |tab _=>cases hn
  |tre _=>cases hn
  |dik _=>rfl
 |_=>cases hn
def jE{ds:List D}(h:a ρ=some (.ok s))(hi:mr s.val=some ds):l9 a ρ=some (.ok ds):=by unfold l9;rw[h];dsimp only;rw[hi];rfl
def cq{i:Int}(h:a ρ=okI i)(hr:jV i=true):bP a ρ=some (.ok (rng 0 i)):=by unfold bP BO;rw[h];dsimp only[S.val];rw[QH hr]
def Kt{ds:List D}{k:Int}(h1:a ρ=okL ds)(h2:b ρ=okI k)(hk:-(2 ^ 60)<=k/\k<2 ^ 60/\ds.length * k.toNat<=lim):EB a b ρ=okL (replicate k.toNat ds).flatten:=by
 unfold EB;rw[h1];dsimp only;rw[h2];exact QH hk
def add_int(i j:Int):c9 (.int i) (.int j)=okI (i+j):=rfl
def sub_int(i j:Int):nQ (.int i) (.int j)=okI (i - j):=rfl
def mul_int{i j:Int}(h:(iB i || iB j)=true):lq (.int i) (.int j)=okI (i * j):=by unfold lq;exact QH h
def gE{i j:Int}(h:0<j):lr (.int i) (.int j)=okI (i % j):=by unfold lr;exact QH h
def vL{i:Int}(h1:-(2 ^ 60)<=i)(h2:i<=2 ^ 60):iB i=true:=by unfold iB;simp;omega
def yE{i j:Int}(h1:-(2 ^ 60)<=i)(h2:i<=2 ^ 60):lq (.int i) (.int j)=okI (i * j):=mul_int (by rw[vL h1 h2];rfl)
def Jh{i j:Int}(h1:-(2 ^ 60)<=j)(h2:j<=2 ^ 60):lq (.int i) (.int j)=okI (i * j):=mul_int (by rw[vL h1 h2,Bool.or_true])
def ix_tup{ds:List D}{d:D}{n:Nat}(h:ds[n]?=some d):dIx (.tup ds) (.int n)=okD d:=by
 have hn:n<ds.length:=(QM.mp h).1;show(zA ds (n:Int)).bind okD=_;unfold zA KY;rw[QH (by omega),QH (by omega)]
 simp[h]
def c8{ds:List D}{d:D}{n:Nat}(h:ds[n]?=some d):dIx (.lst ds) (.int n)=okD d:=ix_tup h
def Bc(n:Nat):rng 0 n=(List.range n).map λk:Nat=>D.int k:=by
 unfold rng;rw[Int.sub_zero,VH];exact Zs λk _=>by rw[Int.zero_add]
def bI{n:Nat}(h:n<=1000000):jV (n:Int)=true:=by unfold jV;simp;omega
theorem qc{bd:MB}{body:MC}(Iv:Nat->aJ->Prop):∀(ds:List D)(i:Nat)(ρ:aJ),Iv i ρ->(∀(k:Nat)(ρ:aJ)(d:D),ds[k]?=some d->Iv (i+k) ρ->∃ρ1 ρ2,bd d ρ=some ρ1/\body ρ1=some (.next ρ2)/\Iv (i+k+1) ρ2)->
  ∃ρ',lg bd body ds ρ=some (.next ρ')/\Iv (i+ds.length) ρ'
 |[],i,ρ,h,_=>⟨ρ,rfl,h⟩
 |d::ds,i,ρ,h,hs=>by
  obtain⟨ρ1,ρ2,e1,e2,h2⟩:=hs 0 ρ d rfl h;obtain⟨ρ',e3,h3⟩:=qc Iv ds (i+1) ρ2 h2 λk ρ d' e hk=>by
   obtain⟨r1,r2,f1,f2,f3⟩:=hs (k+1) ρ d' (by simpa using e) (by rw[show i+(k+1)=i+1+k by omega];exact hk)
   exact⟨r1,r2,f1,f2,by rw[show i+1+k+1=i+(k+1)+1 by omega];exact f3⟩
  refine⟨ρ',?_,by rw[QS,show i+(ds.length+1)=i+1+ds.length by omega];exact h3⟩
  unfold lg;rw[e1];dsimp only;rw[e2];exact e3
def cy{bd:MB}{body:MC}(Iv:Nat->aJ->Prop)(n:Nat)(h0:Iv 0 ρ)(hs:∀(k:Nat)(ρ:aJ),k<n->Iv k ρ->∃ρ1 ρ2,bd (.int k) ρ=some ρ1/\body ρ1=some (.next ρ2)/\Iv (k+1) ρ2):
  ∃ρ',lg bd body (rng 0 n) ρ=some (.next ρ')/\Iv n ρ':=by
 obtain⟨ρ',e,h⟩:=qc (bd:=bd) (body:=body) Iv (rng 0 n) 0 ρ h0 λk ρ d e hk=>by
  rw[Bc,Vy] at e;have hk':k<n:=by
   by_cases z:k<n
   ·exact z
   ·rw[Wj (by rw[V2];omega)] at e;cases e
  rw[Wu hk'] at e;cases e;rw[Z7] at hk ⊢;exact hs k ρ hk' hk
 rw[Z7,Bc,QG,V2] at h;exact⟨ρ',e,h⟩
end
def Bf{lo hi:Int}(h1:jV lo=true)(h2:jV hi=true)(h3:(hi - lo).toNat<=lim):kC (.int lo) (.int hi)=okL (rng lo hi):=by
 unfold kC;exact QH ⟨h1,h2,h3⟩
def x5(ns:List Int):intsOf (ns.map D.int)=some ns:=by
 induction ns with
 |nil=>rfl
 |cons n ns ih=>rw[Wm];unfold intsOf;rw[ih];rfl
def xn(i:Str):eh (.str i) (.str i)=okB true:=by unfold eh GF;simp
section
variable{ρ ρ' ρ1:aJ}{a b c:ME}
theorem qo{α:Type}{bd:MB}{cond elt:ME}{g:α->D}{f:α->D}{p:α->Bool}:∀(xs:List α)(acc:List D),(∀x∈xs,∃ρ1,bd (g x) ρ=some ρ1/\cond ρ1=okB (p x)/\(p x=true->∃s,elt ρ1=some (.ok s)/\s.val=f x))->acc.length+xs.length<=lim->jc bd cond elt ρ (xs.map g) acc=okL (acc++(xs.filter p).map f)
 |[],acc,_,hl=>by
  rw[map_nil];unfold jc;rw[QH (by simpa using hl)]
  simp
 |x::xs,acc,h,hl=>by
  obtain⟨ρ1,e1,e2,e3⟩:=h x VF;rw[Wm];unfold jc;rw[e1];dsimp only;rw[e2];show(if p x=true then(b0 (elt ρ1) λy=>jc bd cond elt ρ (xs.map g) (acc++[y])) else jc bd cond elt ρ (xs.map g) acc)=_;rw[QS] at hl;by_cases hp:p x=true
  ·obtain⟨s,e4,e5⟩:=e3 hp;rw[QH hp,e4];show jc bd cond elt ρ (xs.map g) (acc++[s.val])=_;rw[e5,qo xs (acc++[f x]) (λy hy=>h y (V0 _ hy)) (by rw[QE,VC];omega)]
   simp[hp]
  ·rw[QI hp,qo xs acc (λy hy=>h y (V0 _ hy)) (by omega)]
   simp[hp]
def ox{α:Type}{js:List Nat}{it:MI}{bd:MB}{cond elt:ME}(xs:List α)(g:α->D)(p:α->Bool)(f:α->D)(hi:it ρ=some (.ok (xs.map g)))(hl:xs.length<=lim)
  (h:∀x∈xs,∃ρ1,bd (g x) (cW js ρ)=some ρ1/\cond ρ1=okB (p x)/\(p x=true->∃s,elt ρ1=some (.ok s)/\s.val=f x)):cU js it bd cond elt ρ=okL ((xs.filter p).map f):=by
 unfold cU;rw[hi];dsimp only;rw[QH (by rw[QG];exact hl),qo xs [] h (by simpa using hl)]
 rfl
def kD{α:Type}{js:List Nat}{it:MI}{bd:MB}{elt:ME}(xs:List α)(g:α->D)(f:α->D)(hi:it ρ=some (.ok (xs.map g)))(hl:xs.length<=lim)
  (h:∀x∈xs,∃ρ1,bd (g x) (cW js ρ)=some ρ1/\∃s,elt ρ1=some (.ok s)/\s.val=f x):cU js it bd gZ elt ρ=okL (xs.map f):=by
 rw[ox xs g (λ_=>true) f hi hl λx hx=>?_]
 ·rw[Y5.mpr (λ_ _=>rfl)]
 ·obtain⟨ρ1,e1,e2⟩:=h x hx;exact⟨ρ1,e1,rfl,λ_=>e2⟩
def LZ(lo:Nat)(hi:Nat):rng lo hi=(List.range (hi - lo)).map λk:Nat=>D.int (lo+k:Nat):=by
 unfold rng;rw[Int.toNat_sub];exact Zs λk _=>by congr 1
def zQ{i j:Int}(h0:0<=j)(h1:j<=1000000)(h2:i.natAbs<2 ^ 64):xu (.int i) (.int j)=okI (i * 2 ^ j.toNat):=by unfold xu;exact QH ⟨h0,h1,h2⟩
def Fz(i j:Nat):uU (.int i) (.int j)=okI ((i >>> j:Nat):Int):=by
 show(if(0:Int)<=(j:Int) then okI ((i:Int) / 2 ^ (j:Int).toNat) else none)=_;rw[QH (by omega),VH,Nat.shiftRight_eq_div_pow,Int.natCast_ediv,Int.natCast_pow]
 rfl
def xH(i j:Nat):lD (.int i) (.int j)=okI ((i &&& j:Nat):Int):=by
 show(if 0<=(i:Int)/\0<=(j:Int) then okI (((i:Int).toNat &&& (j:Int).toNat:Nat):Int) else none)=_;rw[QH (by omega),VH,VH]
def Mr(w k:Nat):(w >>> k &&& 1)=(w.testBit k).toNat:=by
 unfold Nat.testBit;rw[Nat.and_comm];have h:1 &&& w >>> k=(w >>> k) % 2:=by rw[Nat.and_comm,Nat.and_one_is_mod]
 rw[h];rcases Nat.mod_two_eq_zero_or_one (w >>> k) with e|e <;> rw[e] <;> rfl
def HJ{w k:Nat}{a b:ME}(h1:a ρ=okI w)(h2:b ρ=okI k):a9 lD (a9 uU a b) (eC (.int 1)) ρ=okI ((w.testBit k).toNat:Int):=by
 rw[<-Mr];exact a6 (a6 h1 h2 (Fz w k)) rfl (xH _ 1)
def GV{w k:Nat}{a b:ME}(h1:a ρ=okI w)(h2:b ρ=okI k):a9 eh (a9 lD (a9 uU a b) (eC (.int 1))) (eC (.int 1)) ρ=okB (w.testBit k):=by
 refine a6 (HJ h1 h2) rfl ?_;cases w.testBit k <;> rfl
def GU{w k:Nat}{a b:ME}(h1:a ρ=okI w)(h2:b ρ=okI k):JC (a9 lD (a9 uU a b) (eC (.int 1))) ρ=okB (w.testBit k):=by
 refine oC (HJ h1 h2) ?_;cases w.testBit k <;> rfl
def Me(i j:Int):HF (.int i) (.int j)=okB (decide (i<=j)):=rfl
def KU(i j:Int):Lh (.int i) (.int j)=okB (decide (i<j)):=rfl
def L8(i j:Int):JE (.int i) (.int j)=okB (decide (j<i)):=rfl
def JA(i j:Int):eh (.int i) (.int j)=okB (decide (i=j)):=rfl
def Jg(i j:Int):qk (.int i) (.int j)=okB (!decide (i=j)):=rfl
def Mb{i j:Int}(h:i<j):Lh (.int i) (.int j)=okB true:=by rw[KU,QV h]
def Mc{i j:Int}(h:¬i<j):Lh (.int i) (.int j)=okB false:=by rw[KU,QY h]
def Ju{i j:Int}(h:j<i):JE (.int i) (.int j)=okB true:=by rw[L8,QV h]
def L7{i j:Int}(h:¬j<i):JE (.int i) (.int j)=okB false:=by rw[L8,QY h]
def BV{i j:Int}(h:i=j):eh (.int i) (.int j)=okB true:=by rw[JA,QV h]
def BW{i j:Int}(h:¬i=j):eh (.int i) (.int j)=okB false:=by rw[JA,QY h]
def Gc{i j:Int}(h:¬i=j):qk (.int i) (.int j)=okB true:=by rw[Jg,QY h];rfl
def Gf{i j:Int}(h:i=j):qk (.int i) (.int j)=okB false:=by rw[Jg,QV h];rfl
def kE{F:List D->Option R}{e1 e2 e3 e4:ME}{s1 s2 s3 s4:S}{r:Option R}(h1:e1 ρ=some (.ok s1))(h2:e2 ρ=some (.ok s2))(h3:e3 ρ=some (.ok s3))(h4:e4 ρ=some (.ok s4))(h:F [s1.val,s2.val,s3.val,s4.val]=r):ai F [e1,e2,e3,e4] ρ=r:=by
 unfold ai br;rw[h1];dsimp only[b0];unfold br;rw[h2];dsimp only[b0];unfold br;rw[h3];dsimp only[b0];unfold br;rw[h4];exact h
def HI{F:List D->Option R}{e1 e2 e3 e4 e5:ME}{s1 s2 s3 s4 s5:S}{r:Option R}(h1:e1 ρ=some (.ok s1))(h2:e2 ρ=some (.ok s2))(h3:e3 ρ=some (.ok s3))(h4:e4 ρ=some (.ok s4))(h5:e5 ρ=some (.ok s5))(h:F [s1.val,s2.val,s3.val,s4.val,s5.val]=r):ai F [e1,e2,e3,e4,e5] ρ=r:=by
 unfold ai br;rw[h1];dsimp only[b0];unfold br;rw[h2];dsimp only[b0];unfold br;rw[h3];dsimp only[b0];unfold br;rw[h4];dsimp only[b0];unfold br;rw[h5];exact h
def HH{F:List D->Option R}{e1 e2 e3 e4 e5 e6:ME}{s1 s2 s3 s4 s5 s6:S}{r:Option R}(h1:e1 ρ=some (.ok s1))(h2:e2 ρ=some (.ok s2))(h3:e3 ρ=some (.ok s3))(h4:e4 ρ=some (.ok s4))(h5:e5 ρ=some (.ok s5))(h6:e6 ρ=some (.ok s6))(h:F [s1.val,s2.val,s3.val,s4.val,s5.val,s6.val]=r):ai F [e1,e2,e3,e4,e5,e6] ρ=r:=by
 unfold ai br;rw[h1];dsimp only[b0];unfold br;rw[h2];dsimp only[b0];unfold br;rw[h3];dsimp only[b0];unfold br;rw[h4];dsimp only[b0];unfold br;rw[h5];dsimp only[b0];unfold br;rw[h6];exact h
def xl{i j:Int}(h:0<j)(h2:j<1073741824):ql (.int i) (.int j)=okI (i / j):=by unfold ql;exact QH ⟨h,h2⟩
def su:lim=1000000:=rfl
def pV{d:D}{ds:List D}:dIx (.lst (d::ds)) (.int 0)=okD d:=c8 (n:=0) rfl
def wX{d e:D}{ds:List D}:dIx (.lst (d::e::ds)) (.int 1)=okD e:=c8 (n:=1) rfl
def Ae{d e f:D}{ds:List D}:dIx (.lst (d::e::f::ds)) (.int 2)=okD f:=c8 (n:=2) rfl
def bF{d:D}{ds:List D}:dIx (.tup (d::ds)) (.int 0)=okD d:=ix_tup (n:=0) rfl
def bg{d e:D}{ds:List D}:dIx (.tup (d::e::ds)) (.int 1)=okD e:=ix_tup (n:=1) rfl
def dD{d e f:D}{ds:List D}:dIx (.tup (d::e::f::ds)) (.int 2)=okD f:=ix_tup (n:=2) rfl
def E5{d e f g:D}{ds:List D}:dIx (.tup (d::e::f::g::ds)) (.int 3)=okD g:=ix_tup (n:=3) rfl
def xh{bd:MB}{body:MC}(g:Nat->D)(Iv:Nat->aJ->Prop)(n:Nat){ρ:aJ}(h0:Iv 0 ρ)(hs:∀(k:Nat)(ρ:aJ),k<n->Iv k ρ->∃ρ1 ρ2,bd (g k) ρ=some ρ1/\body ρ1=some (.next ρ2)/\Iv (k+1) ρ2):
  ∃ρ',lg bd body ((List.range n).map g) ρ=some (.next ρ')/\Iv n ρ':=by
 obtain⟨ρ',e,h⟩:=qc (bd:=bd) (body:=body) Iv ((List.range n).map g) 0 ρ h0 λk ρ d e hk=>by
  rw[Vy] at e;have hk':k<n:=by
   by_cases z:k<n
   ·exact z
   ·rw[Wj (by rw[V2];omega)] at e;cases e
  rw[Wu hk'] at e;cases e;rw[Z7] at hk ⊢;exact hs k ρ hk' hk
 rw[Z7,QG,V2] at h;exact⟨ρ',e,h⟩
def Ez{α:Type}(xs:List α)(g:α->D)(z:α){a:ME}{ρ:aJ}{s:S}(h:a ρ=some (.ok s))(hs:s.val=.lst (xs.map g)\/s.val=.tup (xs.map g)):x8 a ρ=some (.ok ((List.range xs.length).map λi:Nat=>D.tup [.int i,g (xs.getD i z)])):=by
 have e:(List.range (xs.map g).length).zipWith (λ(i:Nat) d=>D.tup [.int i,d]) (xs.map g)=(List.range xs.length).map λi:Nat=>D.tup [.int i,g (xs.getD i z)]:=by
  refine Yv λi=>?_;rw[List.getElem?_zipWith,QG];by_cases hi:i<xs.length
  ·rw[Wu hi,Vy,QB hi,Vy,Wu hi];simp only[Option.map_some,Wb,QB hi,Option.getD_some]
  ·rw[Wj (l:=List.range xs.length) (by rw[V2];omega),Wj (l:=(List.range xs.length).map λi:Nat=>D.tup [.int i,g (xs.getD i z)]) (by rw[QG,V2];omega)]
 unfold x8 BO;rw[h];dsimp only;rcases hs with hs|hs
 ·rw[hs];show some (RI.ok _)=_;rw[e]
 ·rw[hs];show some (RI.ok _)=_;rw[e]
theorem sA{α:Type}{bd:MB}{body:MC}(g:α->D)(Iv:List α->aJ->Prop):∀(xs pre:List α)(ρ:aJ),Iv pre ρ->(∀(q:List α)(x:α)(post:List α)(ρ:aJ),pre++xs=q++x::post->Iv q ρ->∃ρ1 ρ2,bd (g x) ρ=some ρ1/\(body ρ1=some (.next ρ2)\/body ρ1=some (.cont ρ2))/\Iv (q++[x]) ρ2)->
  ∃ρ',lg bd body (xs.map g) ρ=some (.next ρ')/\Iv (pre++xs) ρ'
 |[],pre,ρ,h,_=>⟨ρ,rfl,by simpa using h⟩
 |x::xs,pre,ρ,h,hs=>by
  obtain⟨ρ1,ρ2,e1,e2,h2⟩:=hs pre x xs ρ rfl h;obtain⟨ρ',e3,h3⟩:=sA g Iv xs (pre++[x]) ρ2 h2 λq y post ρ hy hi=>hs q y post ρ (by rw[<-hy];simp) hi
  refine⟨ρ',?_,by simpa using h3⟩
  rw[Wm];unfold lg;rw[e1];dsimp only;rcases e2 with e2|e2 <;> rw[e2] <;> exact e3
def mv{α:Type}{bd:MB}{body:MC}(g:α->D)(Iv:List α->aJ->Prop)(xs:List α){ρ:aJ}(h0:Iv [] ρ)(hs:∀(q:List α)(x:α)(post:List α)(ρ:aJ),xs=q++x::post->Iv q ρ->∃ρ1 ρ2,bd (g x) ρ=some ρ1/\(body ρ1=some (.next ρ2)\/body ρ1=some (.cont ρ2))/\Iv (q++[x]) ρ2):
  ∃ρ',lg bd body (xs.map g) ρ=some (.next ρ')/\Iv xs ρ':=by
 have:=sA (bd:=bd) (body:=body) g Iv xs [] ρ h0 (by simpa using hs)
 simpa using this
end
section
variable{ρ:aJ}{a b e1 e2 e3 e4:ME}{s s1 s2 s3 s4:S}{o o1:O}{r:Option O}{q:Option R}{F:ff}{c:Vw}{f m:Str}{ns:List Str}{ds:List D}{cs:List Vw}
def mD(h:e1 ρ=some (.ok s1))(h2:F o [s1.val]=r):gm F [e1] ρ o=r:=by unfold gm jN;rw[h];exact h2
def HK(h:e1 ρ=some (.ok s1))(h':e2 ρ=some (.ok s2))(h2:F o [s1.val,s2.val]=r):gm F [e1,e2] ρ o=r:=by
 unfold gm jN jN;rw[h];dsimp only;rw[h'];exact h2
def l8{g h:MG}(h1:g ρ o=some o1)(h2:h ρ o1=r):eS g h ρ o=r:=by unfold eS;rw[h1];exact h2
def jX{np n:Nat}{g:MG}(hl:ds.length+1=np)(h:g (none::dU (n - 1) ds) o=r):xi np n g o ds=r:=by unfold xi;rw[QH hl];exact h
def oR(h:e1 ρ=some (.ok s))(hc:cs.contains c=true)(hl:ns.length=ds.length)(h9:ns.length<900):lB cs f e1 ρ (.obj c ns ds)=some (.obj c (putN f ns) (Bg f s.val ns ds)):=by
 unfold lB;rw[h];dsimp only;rw[QH ⟨hc,hl,h9⟩]
def KR(h:F (.obj c [] []) []=some o):fj c F [] ρ=some (.ok (.own o)):=by unfold fj br;dsimp only;rw[h]
def Hw(h1:e1 ρ=some (.ok s1))(h:F (.obj c [] []) [s1.val]=some o):fj c F [e1] ρ=some (.ok (.own o)):=by
 unfold fj br;rw[h1];dsimp only[b0];unfold br;dsimp only;rw[h]
def wJ(h1:e1 ρ=some (.ok s1))(h2:e2 ρ=some (.ok s2))(h:F (.obj c [] []) [s1.val,s2.val]=some o):fj c F [e1,e2] ρ=some (.ok (.own o)):=by
 unfold fj br;rw[h1];dsimp only[b0];unfold br;rw[h2];dsimp only[b0];unfold br;dsimp only;rw[h]
def KQ(h1:e1 ρ=some (.ok s1))(h2:e2 ρ=some (.ok s2))(h3:e3 ρ=some (.ok s3))(h:F (.obj c [] []) [s1.val,s2.val,s3.val]=some o):fj c F [e1,e2,e3] ρ=some (.ok (.own o)):=by
 unfold fj br;rw[h1];dsimp only[b0];unfold br;rw[h2];dsimp only[b0];unfold br;rw[h3];dsimp only[b0];unfold br;dsimp only;rw[h]
def DN{tb:Vw->Option (List D->Option R)}{as:List ME}{G:List D->Option R}(ho:a ρ=some (.ok s))(hv:s.val=.obj c ns ds)(hn:ns.contains m=false)(ht:tb c=some G):jb m tb a as ρ=br as ρ λvs=>G (.obj c ns ds::vs):=by
 unfold jb;rw[ho];dsimp only[b0];rw[hv];dsimp only;rw[hn,QI QC,ht]
def KP{tb:Vw->Option (List D->Option R)}{G:List D->Option R}(ho:a ρ=some (.ok s))(hv:s.val=.obj c ns ds)(hn:ns.contains m=false)(ht:tb c=some G)(h:G [.obj c ns ds]=q):jb m tb a [] ρ=q:=by rw[DN ho hv hn ht];exact h
def Hv{tb:Vw->Option (List D->Option R)}{G:List D->Option R}(ho:a ρ=some (.ok s))(hv:s.val=.obj c ns ds)(hn:ns.contains m=false)(ht:tb c=some G)(h1:e1 ρ=some (.ok s1))(h:G [.obj c ns ds,s1.val]=q):jb m tb a [e1] ρ=q:=by
 rw[DN ho hv hn ht];exact bK (F:=λvs=>G (.obj c ns ds::vs)) h1 h
def Et{d:D}(h:a ρ=some (.ok s))(hv:s.val=.obj c ns ds)(hc:cs.contains c=true)(hf:uR f ns ds=some d):lh (zt cs f) a ρ=okD d:=by
 refine oC h ?_;rw[hv];show(if cs.contains c=true then(uR f ns ds).bind okD else none)=_;rw[QH hc,hf];rfl
def Aj(h:a ρ=okB true)(h2:e1 ρ=q):F2 a e1 e2 ρ=q:=by unfold F2;rw[h];exact h2
def Ak(h:a ρ=okB false)(h2:e2 ρ=q):F2 a e1 e2 ρ=q:=by unfold F2;rw[h];exact h2
def y6{x:Nat}(h0:0<x)(h:x<=ds.length):uT (.tup ds) (some x) none=okD (.tup (ds.drop x)):=by
 have e:me ds.length 0 (some (x:Int))=x:=by
  show(if(x:Int)<0 then((x:Int)+(ds.length:Int)).toNat else min (x:Int).toNat ds.length)=x;rw[QI (by omega)];omega
 show(if(me ds.length 0 (some (x:Int))=0/\ds.length=ds.length) then none else okD (.tup (Ca ds (some (x:Int)) none)))=_;rw[e,QI (by omega)]
 show okD (.tup ((ds.drop (me ds.length 0 (some (x:Int)))).take (ds.length - me ds.length 0 (some (x:Int)))))=_;rw[e,Zt (by rw[Ws];omega)]
def vM{x:Nat}(h:a ρ=some (.ok s))(hv:s.val=.tup ds)(hx:e1 ρ=okI x)(h0:0<x)(hl:x<=ds.length):g9 a (some e1) none ρ=okD (.tup (ds.drop x)):=by
 unfold g9;rw[h];dsimp only[b0];rw[hv];show(b0 (e1 ρ) λd=>match d with|.int i=>uT (.tup ds) (some i) none|_=>none)=_
 rw[hx];exact y6 h0 hl
def Lj{xs ys:List D}(h:xs.length+ys.length<=100000):c9 (.tup xs) (.tup ys)=okD (.tup (xs++ys)):=by
 show(if xs.length+ys.length<=lim then okD (.tup (xs++ys)) else none)=_;rw[QH (V5 h (by decide))]
def qp{xs ys:List D}(h:xs.length+ys.length<=100000):c9 (.lst xs) (.lst ys)=okL (xs++ys):=by
 show(if xs.length+ys.length<=lim then okL (xs++ys) else none)=_;rw[QH (V5 h (by decide))]
def oy{G:List D->Option R}{as:List ME}{d:D}(h:br as ρ G=okD d)(hf:flat d=true):aI G as ρ=okD d:=by
 unfold aI;rw[h];show(if flat d=true then okD d else none)=_;rw[QH hf]
def fN{x y:Str}(h:x=y):eh (.str x) (.str y)=okB true:=by subst h;exact xn x
def aL{x y:Str}(h:x≠y):eh (.str x) (.str y)=okB false:=by unfold eh GF;simp[h]
def Ge{x y:Str}(h:x≠y):qk (.str x) (.str y)=okB true:=by unfold qk GF;simp[h]
def A9{x y:Str}(h:x=y):qk (.str x) (.str y)=okB false:=by unfold qk GF;simp[h]
end
end L3
end
namespace Bell
open PySem L3
noncomputable section
def wL:MC:=
 (bG (fu (lh (xw "int") (a5 0)) (n9 (lh (xw "bool") (a5 0)))))
def iu:List D->Option R:=jh 1 1 wL
def lJ:MC:=(gI (n9 (ai iu [(a9 dIx (a5 2) (a5 3))])) (bG (eC (.bl false))) bx)
def nU:MC:=(iD (bP (eC (.int 5))) (ba 3) lJ)
def lI:MC:=(aC (gI (qy (n9 (lh (xw "tuple") (a5 2))) (qy (a9 qk (aI (f1 bU) [(dR 2)]) (eC (.int 6))) (n9 (lh (xw "str") (a9 dIx (a5 2) (eC (.int 5))))))) (bG (eC (.bl false))) bx) nU)
def qP:MC:=(bG (a9 (Li 3) (a5 0) (a5 1)))
def qQ:MC:=(aC (iD (l9 (a5 0)) (ba 2) lI) qP)
def wQ:MC:=
 (aC (gI (qy (n9 (lh (xw "list") (a5 0))) (a9 qk (aI (f1 bU) [(dR 0)]) (aI (f1 bU) [(dR 1)]))) (bG (eC (.bl false))) bx) qQ)
def c5:List D->Option R:=jh 2 4 wQ
def lS:MC:=(bG (a9 lr (a9 ql (a9 lr (a9 lq (a9 lr (a9 lq (a9 c9 (a5 3) (eC (.int 1))) (a9 c9 (a9 c9 (a9 lq (a5 1) (a5 1)) (a5 1)) (eC (.int 41)))) (eC (.int 999983))) (eC (.int 48271))) (eC (.int 2147483647))) (eC (.int 11))) (a5 2)))
def tm:MC:=(aC (gI (a9 JE (aI (f1 bU) [(dR 0)]) (eC (.int 0))) (bq 3 (a9 lr (a9 dIx (a5 0) (a9 lr (a5 1) (aI (f1 bU) [(dR 0)]))) (eC (.int 1000003)))) bx) lS)
def yP:MC:=
 (aC (bq 3 (eC (.int 0))) tm)
def aD:List D->Option R:=jh 3 4 yP
def qB:MC:=(bG (cC [(a9 dIx (a5 0) (eC (.int 1))),(a9 dIx (a5 0) (eC (.int 2)))]))
def qC:MC:=(aC (gI (a9 eh (a9 dIx (a5 0) (eC (.int 0))) (eC (.str "anew"))) (bG (cC [(a9 dIx (a5 0) (eC (.int 1))),(a9 dIx (a5 0) (eC (.int 2))),(a9 dIx (a5 0) (eC (.int 3)))])) bx) qB)
def qD:MC:=(aC (gI (qy (a9 eh (a9 dIx (a5 0) (eC (.int 0))) (eC (.str "put"))) (qy (a9 eh (a9 dIx (a5 0) (eC (.int 0))) (eC (.str "grow"))) (a9 eh (a9 dIx (a5 0) (eC (.int 0))) (eC (.str "tick"))))) (bG (cC [(a9 dIx (a5 0) (eC (.int 1)))])) bx) qC)
def wM:MC:=
 (aC (gI (qy (a9 eh (a9 dIx (a5 0) (eC (.int 0))) (eC (.str "still"))) (a9 eh (a9 dIx (a5 0) (eC (.int 0))) (eC (.str "none")))) (bG (cC [])) bx) qD)
def fW:List D->Option R:=jh 1 1 wM
def oG:MC:=(dc 2 (bG (fu (a9 (GN false) (a9 dIx (a5 0) (eC (.int 0))) (a5 2)) (a9 eh (a9 dIx (a5 0) (eC (.int 1))) (a5 1)))))
def uB:MC:=
 (aC (bq 2 (cC [(eC (.str "put")),(eC (.str "copy")),(eC (.str "grow")),(eC (.str "tick")),(eC (.str "anew"))])) oG)
def eU:List D->Option R:=jh 2 3 uB
def nh:MC:=(gI (fu (a9 (GN false) (a5 1) (ai fW [(a5 9)])) (qy (a5 6) (a5 10))) (aC (bq 11 (a9 dIx (cC [(eC (.str "half")),(eC (.str "over"))]) (ai (f1 GM) [(fu (a5 6) (a5 10))]))) (aC (gI (a9 eh (a9 lD (a9 uU (a9 dIx (a9 dIx (a9 dIx (a9 dIx (a5 5) (a5 2)) (eC (.int 2))) (a5 3)) (eC (.int 1))) (a5 4)) (eC (.int 1))) (eC (.int 1))) (bq 11 (eC (.str "shut"))) bx) (aC (gI (a9 HF (a9 dIx (a9 dIx (a5 5) (a5 4)) (eC (.int 1))) (a9 dIx (a9 dIx (a5 5) (a5 2)) (eC (.int 1)))) (bq 11 (eC (.str "rank"))) bx) (cO 7 (bA [(a5 1),(a5 2),(a5 3),(a5 4),(a5 8),(a5 11)]))))) bx)
def nk:MC:=(aC (bq 10 (ai eU [(a5 9),(a5 1)])) nh)
def kF:MC:=(aC (bq 9 (a9 dIx (a9 dIx (a9 dIx (a9 dIx (a5 5) (a5 4)) (eC (.int 2))) (a5 8)) (eC (.int 0)))) nk)
def oJ:MC:=(dc 7 (bG (a5 7)))
def oK:MC:=(aC (iD (bP (aI (f1 bU) [(a9 dIx (a9 dIx (a5 5) (a5 4)) (eC (.int 2)))])) (ba 8) kF) oJ)
def oM:MC:=(aC (bq 7 (cC [])) oK)
def oN:MC:=(aC (bq 6 (ai eU [(a9 dIx (a9 dIx (a9 dIx (a9 dIx (a5 5) (a5 2)) (eC (.int 2))) (a5 3)) (eC (.int 0))),(a5 1)])) oM)
def uE:MC:=
 (aC (bq 5 (a9 dIx (a5 0) (eC (.int 1)))) oN)
def gG:List D->Option R:=jh 5 12 uE
def nI:MC:=(bG (cC []))
def nJ:MC:=(aC (gI (qy (a9 eh (a9 dIx (a5 1) (eC (.int 0))) (eC (.str "put"))) (qy (a9 eh (a9 dIx (a5 1) (eC (.int 0))) (eC (.str "copy"))) (a9 eh (a9 dIx (a5 1) (eC (.int 0))) (eC (.str "anew"))))) (gI (a9 eh (aI (f1 bU) [(a9 dIx (a9 dIx (a5 0) (a9 dIx (a5 1) (eC (.int 1)))) (eC (.int 1)))]) (eC (.int 2))) (aC (gI (a9 eh (a9 dIx (a5 1) (eC (.int 0))) (eC (.str "put"))) (bG (cC [(bA [(a9 dIx (a5 1) (eC (.int 1))),(eC (.int 0)),(eC (.int 1))])])) bx) (aC (gI (a9 eh (a9 dIx (a5 1) (eC (.int 0))) (eC (.str "anew"))) (bG (cC [(bA [(a9 dIx (a5 1) (eC (.int 1))),(eC (.int 4)),(eC (.int 5))])])) bx) (bG (lh uS (cC [(bA [(a9 dIx (a5 1) (eC (.int 1))),(eC (.int 0)),(eC (.int 1))]),(bA [(a9 dIx (a5 1) (eC (.int 2))),(eC (.int 0)),(eC (.int 1))])]))))) bx) bx) nI)
def rH:MC:=
 (aC (gI (a9 eh (a9 dIx (a5 1) (eC (.int 0))) (eC (.str "grow"))) (bG (cC [(bA [(a9 dIx (a5 1) (eC (.int 1))),(eC (.int 0)),(a9 nQ (a9 lq (eC (.int 2)) (aI (f1 bU) [(a9 dIx (a9 dIx (a5 0) (a9 dIx (a5 1) (eC (.int 1)))) (eC (.int 1)))])) (eC (.int 1)))])])) bx) nJ)
def fL:List D->Option R:=jh 2 2 rH
def lG:MC:=(gI (a9 qk (a5 6) (a5 3)) (mf 2 (ai gG [(a5 0),(a9 dIx (a5 5) (eC (.int 0))),(a5 3),(a5 4),(a5 6)])) bx)
def iL:MC:=(iD (bP (aI (f1 bU) [(dR 1)])) (ba 6) lG)
def iK:MC:=(iD (l9 (ai fL [(a9 dIx (a5 0) (eC (.int 0))),(a9 dIx (a9 dIx (a9 dIx (a9 dIx (a5 1) (a5 3)) (eC (.int 2))) (a5 4)) (eC (.int 0)))])) (ba 5) iL)
def iJ:MC:=(iD (bP (aI (f1 bU) [(a9 dIx (a9 dIx (a5 1) (a5 3)) (eC (.int 2)))])) (ba 4) iK)
def qE:MC:=(dc 2 (bG (lh kB (a5 2))))
def qF:MC:=(aC (iD (bP (aI (f1 bU) [(dR 1)])) (ba 3) iJ) qE)
def qG:MC:=(aC (bq 2 (cC [])) qF)
def wN:MC:=
 (aC (bq 1 (a9 dIx (a5 0) (eC (.int 1)))) qG)
def eg:List D->Option R:=jh 1 7 wN
def oH:MC:=(dc 3 (bG (a9 dIx (a5 3) (ai aD [(a5 0),(a9 c9 (a5 1) (eC (.int 4000))),(eC (.int 4))]))))
def oI:MC:=(aC (bq 3 (cC [(a9 nQ (a9 lr (a5 2) (eC (.int 7))) (eC (.int 3))),(a9 nQ (a9 BZ (eC (.int 10)) (eC (.int 9))) (a9 lr (a5 2) (eC (.int 5)))),(a9 nQ (a9 lr (a5 2) (eC (.int 5))) (a9 BZ (eC (.int 10)) (eC (.int 9)))),(a9 lq (a5 2) (eC (.int 499999)))])) oH)
def uC:MC:=
 (aC (bq 2 (ai aD [(a5 0),(a5 1),(eC (.int 2000))])) oI)
def cG:List D->Option R:=jh 2 4 uC
def nR:MC:=(dc 3 (cO 1 (bA [(a9 Ay (a9 dIx (eC (.str "abcdefgh")) (a5 2)) (a5 4)),(ai (f1 gY) [(g9 (a5 3) none (some (a5 4)))])])))
def nT:MC:=(aC (bq 4 (a9 c9 (eC (.int 1)) (ai aD [(a5 0),(a9 c9 (eC (.int 12)) (a9 lq (eC (.int 4)) (a5 2))),(eC (.int 2))]))) nR)
def lH:MC:=(aC (bq 3 (cC [(ai cG [(a5 0),(a9 c9 (eC (.int 10)) (a9 lq (eC (.int 4)) (a5 2)))]),(ai cG [(a5 0),(a9 c9 (eC (.int 11)) (a9 lq (eC (.int 4)) (a5 2)))])])) nT)
def qM:MC:=(dc 1 (bG (ai (f1 gY) [(a5 1)])))
def qO:MC:=(aC (iD (bP (a9 dIx (cC [(eC (.int 1)),(eC (.int 2)),(eC (.int 3)),(eC (.int 3)),(eC (.int 4)),(eC (.int 4)),(eC (.int 5)),(eC (.int 8))]) (ai aD [(a5 0),(eC (.int 3)),(eC (.int 8))]))) (ba 2) lH) qM)
def wO:MC:=
 (aC (bq 1 (cC [])) qO)
def iv:List D->Option R:=jh 1 5 wO
def lu:MC:=(bG (bA [(eC (.str "still")),(a9 c9 (eC (.int 1)) (ai aD [(a5 1),(a9 c9 (a5 2) (eC (.int 5))),(eC (.int 9))]))]))
def qH:MC:=(aC (gI (fu (a9 eh (a5 4) (eC (.str "anew"))) (fu (a9 qk (a5 5) (a5 8)) (a9 JE (aI (f1 bU) [(dR 9)]) (eC (.int 0))))) (dc 9 (bG (bA [(eC (.str "anew")),(a5 5),(a5 8),(a9 dIx (a5 9) (ai aD [(a5 1),(a9 c9 (a5 2) (eC (.int 4))),(aI (f1 bU) [(dR 9)])]))]))) bx) lu)
def qI:MC:=(aC (gI (a9 eh (a5 4) (eC (.str "none"))) (bG (bA [(eC (.str "none")),(a5 5)])) bx) qH)
def qJ:MC:=(aC (gI (qy (a9 eh (a5 4) (eC (.str "is"))) (a9 eh (a5 4) (eC (.str "most")))) (bG (bA [(a5 4),(a5 5),(a5 8),(a5 10)])) bx) qI)
def qK:MC:=(aC (gI (fu (a9 eh (a5 4) (eC (.str "tick"))) (a9 eh (a5 6) (eC (.int 1)))) (bG (bA [(eC (.str "tick")),(a5 5)])) bx) qJ)
def qL:MC:=(aC (gI (a9 eh (a5 4) (eC (.str "grow"))) (bG (bA [(eC (.str "grow")),(a5 5),(a5 10)])) bx) qK)
def tu:MC:=(aC (gI (fu (a9 eh (a5 4) (eC (.str "copy"))) (a9 qk (a5 5) (a5 8))) (bG (bA [(eC (.str "copy")),(a5 5),(a5 8)])) bx) qL)
def lT:MC:=(aC (gI (a9 eh (a5 4) (eC (.str "put"))) (bG (bA [(eC (.str "put")),(a5 5),(ai (f1 gY) [(g9 (cC [(a5 10),(lh Lg (a5 10))]) none (some (a5 6)))])])) bx) tu)
def tw:MC:=(aC (bq 10 (ai cG [(a5 1),(a9 c9 (a5 2) (eC (.int 3)))])) lT)
def tx:MC:=(aC (bq 9 (cU [11] (bP (aI (f1 bU) [(dR 0)])) (ba 11) (fu (a9 eh (aI (f1 bU) [(a9 dIx (a9 dIx (a5 0) (a5 11)) (eC (.int 1)))]) (eC (.int 1))) (fu (a9 qk (a5 11) (a5 5)) (a9 qk (a5 11) (a5 8)))) (a5 11))) tw)
def tE:MC:=(dc 7 (aC (bq 8 (a9 dIx (a5 7) (ai aD [(a5 1),(a9 c9 (a5 2) (eC (.int 2))),(aI (f1 bU) [(dR 7)])]))) tx))
def tF:MC:=(aC (bq 7 (cU [11] (bP (aI (f1 bU) [(dR 0)])) (ba 11) (a9 eh (aI (f1 bU) [(a9 dIx (a9 dIx (a5 0) (a5 11)) (eC (.int 1)))]) (a5 6)) (a5 11))) tE)
def tG:MC:=(aC (bq 6 (aI (f1 bU) [(a9 dIx (a9 dIx (a5 0) (a5 5)) (eC (.int 1)))])) tF)
def tH:MC:=(aC (bq 5 (ai aD [(a5 1),(a9 c9 (a5 2) (eC (.int 1))),(aI (f1 bU) [(dR 0)])])) tG)
def tJ:MC:=(dc 3 (aC (bq 4 (a9 dIx (a5 3) (ai aD [(a5 1),(a5 2),(eC (.int 12))]))) tH))
def yQ:MC:=
 (aC (bq 3 (cC [(eC (.str "put")),(eC (.str "copy")),(eC (.str "grow")),(eC (.str "tick")),(eC (.str "still")),(eC (.str "is")),(eC (.str "most")),(eC (.str "none")),(eC (.str "anew")),(eC (.str "grow")),(eC (.str "put")),(eC (.str "anew"))])) tJ)
def jL:List D->Option R:=jh 3 12 yQ
def tj:MC:=(bG (a9 dIx (cC [(a9 c9 (eC (.int 1)) (a5 2)),(a9 c9 (a5 1) (a9 ql (a5 2) (eC (.int 3)))),(a9 nQ (eC (.int 9)) (a5 1)),(a9 c9 (eC (.int 1)) (a9 ql (a5 2) (eC (.int 3))))]) (ai aD [(a5 0),(eC (.int 4)),(eC (.int 4))])))
def yO:MC:=
 (aC (bq 2 (ai aD [(a5 0),(a9 c9 (eC (.int 60)) (a5 1)),(eC (.int 9))])) tj)
def jK:List D->Option R:=jh 2 3 yO
def tf:MC:=(bG (a9 xu (a9 dIx (cC [(eC (.int 0)),(a9 lD (a5 3) (a5 4)),(a5 3)]) (ai aD [(a5 0),(eC (.int 5)),(eC (.int 3))])) (eC (.int 1))))
def ti:MC:=(aC (bq 4 (ai aD [(a5 0),(a9 c9 (a5 1) (eC (.int 1))),(a9 xu (eC (.int 1)) (a5 2))])) tf)
def yN:MC:=
 (aC (bq 3 (ai aD [(a5 0),(a5 1),(a9 xu (eC (.int 1)) (a5 2))])) ti)
def jJ:List D->Option R:=jh 3 5 yN
def mH:MC:=(cO 6 (bA [(ai jL [(a5 2),(a5 0),(a5 8)]),(ai jJ [(a5 0),(a9 c9 (a5 8) (eC (.int 7))),(a5 3)])]))
def gd:MC:=(aC (bq 8 (a9 c9 (a9 c9 (eC (.int 100)) (a9 lq (eC (.int 200)) (a5 5))) (a9 lq (eC (.int 12)) (a5 7)))) mH)
def mF:MC:=(gI (a9 eh (a5 5) (eC (.int 0))) (dc 6 (cO 4 (bA [(eC (.str "main")),(eC (.int 0)),(ai (f1 gY) [(a5 6)])]))) (dc 6 (cO 4 (bA [(a9 Ay (a9 dIx (eC (.str "klmnop")) (a9 nQ (a5 5) (eC (.int 1)))) (a9 c9 (eC (.int 1)) (a9 lr (a5 5) (eC (.int 2))))),(ai jK [(a5 0),(a5 5)]),(ai (f1 gY) [(a5 6)])]))))
def mG:MC:=(aC (iD (bP (a9 c9 (eC (.int 1)) (ai aD [(a5 0),(a9 c9 (eC (.int 70)) (a5 5)),(a5 1)]))) (ba 7) gd) mF)
def jZ:MC:=(aC (bq 6 (cC [])) mG)
def nK:MC:=(dc 4 (bG (bA [(a5 2),(ai (f1 gY) [(a5 4)])])))
def nL:MC:=(aC (iD (bP (a9 c9 (a5 3) (eC (.int 1)))) (ba 5) jZ) nK)
def nM:MC:=(aC (bq 4 (cC [])) nL)
def nN:MC:=(aC (bq 3 (ai aD [(a5 0),(eC (.int 6)),(eC (.int 7))])) nM)
def rJ:MC:=
 (aC (bq 2 (ai iv [(a5 0)])) nN)
def fM:List D->Option R:=jh 2 9 rJ
def BE:MC:=
 (bG (aI (f1 bU) [(a9 dIx (a9 dIx (a5 0) (a5 1)) (eC (.int 1)))]))
def gL:List D->Option R:=jh 2 2 BE
def tM:MC:=(bG (a9 kC (a5 2) (a9 c9 (a5 2) (ai gL [(a5 0),(a5 1)]))))
def yR:MC:=
 (aC (bq 2 (ai (f1 GK) [(cU [3] (bP (a5 1)) (ba 3) gZ (ai gL [(a5 0),(a5 3)]))])) tM)
def dk:List D->Option R:=jh 2 4 yR
def Eo:MG:=
 (eS (lB ["Deed","Promise","Comparing","Untouched","Still","Put","Copy","Tick","Handed","Grow","Anew"] "plan" (a5 1)) jW)
def eR:ff:=xi 2 2 Eo
def zf:MG:=
 (eS (gm eR [(a9 c9 (cU [3] (l9 (a5 1)) (ba 3) gZ (bA [(bA [(a5 3)]),(bA [])])) (cU [3] (l9 (a5 2)) (ba 3) gZ (bA [(bA []),(bA [(a5 3)])])))]) jW)
def j7:ff:=xi 3 4 zf
def Er:MG:=
 (eS (gm j7 [(a9 c9 (a9 c9 (cC [(a5 3)]) (a5 2)) (cC [(a5 3)])),(a5 1)]) (eS (lB ["Anew"] "check" (a9 c9 (aI (f1 bU) [(dR 2)]) (eC (.int 1)))) jW))
def yZ:ff:=xi 4 4 Er
def xa:MG:=
 (eS (gm eR [(cC [(bA [(ai (f1 gY) [(a5 1)]),(bA [])])])]) jW)
def gK:ff:=xi 2 2 xa
def rM:MG:=
 (eS (gm gK [(lh qi (a9 c9 (a5 1) (a5 2)))]) jW)
def kx:ff:=xi 3 3 rM
def Ep:MG:=
 (eS (gm eR [(cU [3] (bP (aI (f1 bU) [(dR 1)])) (ba 3) gZ (bA [(bA [(a9 dIx (a5 2) (a5 3))]),(bA [(a9 dIx (a5 1) (a5 3))])]))]) jW)
def yY:ff:=xi 3 4 Ep
def Em:MG:=
 (eS (gm j7 [(a5 1),(a5 1)]) (eS (lB ["Grow"] "size" (aI (f1 bU) [(dR 1)])) (eS (lB ["Grow"] "number" (a5 2)) jW)))
def yX:ff:=xi 3 3 Em
def GB:MG:=
 (eS (gm eR [(cU [3] (l9 (a5 1)) (ba 3) gZ (bA [(bA []),(bA [(a5 3)])]))]) (eS (lB ["Put"] "numbers" (ai (f1 gY) [(a5 2)])) jW))
def Ec:ff:=xi 3 4 GB
def BS:MG:=
 (eS (gm eR [(EB (cC [(bA [(bA []),(bA [])])]) (a5 1))]) jW)
def uP:ff:=xi 2 2 BS
def El:MG:=
 (eS (gm eR [(cC [(bA [(bA [(a5 1)]),(bA [(a5 1)])])])]) jW)
def yW:ff:=xi 2 2 El
def rL:MG:=
 (eS (gm gK [(cC [])]) jW)
def ku:ff:=xi 1 1 rL
def tK:MC:=(dc 4 (dc 3 (bG (fj "Comparing" kx [(a5 3),(a5 4)]))))
def vx:MC:=(aC (gI (a9 eh (a5 2) (eC (.str "anew"))) (dc 4 (dc 3 (bG (fj "Anew" yZ [(a5 3),(a5 4),(a9 dIx (ai dk [(a5 0),(a9 dIx (a5 1) (eC (.int 3)))]) (eC (.int 0)))])))) bx) tK)
def vy:MC:=(aC (gI (a9 eh (a5 2) (eC (.str "copy"))) (dc 4 (dc 3 (bG (fj "Copy" yY [(a5 3),(a5 4)])))) bx) vx)
def vz:MC:=(aC (bq 4 (ai dk [(a5 0),(a9 dIx (a5 1) (eC (.int 2)))])) vy)
def vA:MC:=(aC (gI (a9 eh (a5 2) (eC (.str "tick"))) (dc 3 (bG (fj "Tick" yW [(a9 dIx (a5 3) (eC (.int 0)))]))) bx) vz)
def vB:MC:=(aC (gI (a9 eh (a5 2) (eC (.str "grow"))) (dc 3 (bG (fj "Grow" yX [(a5 3),(a9 dIx (a5 1) (eC (.int 2)))]))) bx) vA)
def vC:MC:=(aC (gI (a9 eh (a5 2) (eC (.str "put"))) (dc 3 (bG (fj "Put" Ec [(a5 3),(a9 dIx (a5 1) (eC (.int 2)))]))) bx) vB)
def vD:MC:=(aC (bq 3 (ai dk [(a5 0),(a9 dIx (a5 1) (eC (.int 1)))])) vC)
def vE:MC:=(aC (gI (a9 eh (a5 2) (eC (.str "none"))) (bG (fj "Untouched" ku [])) bx) vD)
def vF:MC:=(aC (gI (a9 eh (a5 2) (eC (.str "still"))) (bG (fj "Still" uP [(a9 dIx (a5 1) (eC (.int 1)))])) bx) vE)
def BF:MC:=
 (aC (bq 2 (a9 dIx (a5 1) (eC (.int 0)))) vF)
def kZ:List D->Option R:=jh 2 5 BF
def uG:MC:=
 (bG (ai (f1 EF) [(a9 dIx (a9 dIx (lh (zt ["Deed","Promise","Comparing","Untouched","Still","Put","Copy","Tick","Handed","Grow","Anew"] "plan") (a5 0)) (a5 1)) (eC (.int 0)))]))
def eY:List D->Option R:=jh 2 2 uG
def uF:MC:=
 (bG (aI (f1 bU) [(lh (zt ["Deed","Promise","Comparing","Untouched","Still","Put","Copy","Tick","Handed","Grow","Anew"] "plan") (a5 0))]))
def eV:List D->Option R:=jh 1 1 uF
def rK:MC:=
 (bG (ai (f1 EF) [(a9 dIx (a9 dIx (lh (zt ["Deed","Promise","Comparing","Untouched","Still","Put","Copy","Tick","Handed","Grow","Anew"] "plan") (a5 0)) (a5 1)) (eC (.int 1)))]))
def dQ:List D->Option R:=jh 2 2 rK
def iM:Vw->Option (List D->Option R):=(Hc ["Deed","Promise","Comparing","Untouched","Still","Put","Copy","Tick","Handed","Grow","Anew"] eY zJ)
def lR:Vw->Option (List D->Option R):=(Hc ["Deed","Promise","Comparing","Untouched","Still","Put","Copy","Tick","Handed","Grow","Anew"] eV zJ)
def gH:Vw->Option (List D->Option R):=(Hc ["Deed","Promise","Comparing","Untouched","Still","Put","Copy","Tick","Handed","Grow","Anew"] dQ zJ)
def qs:MC:=(dc 8 (dc 5 (gI (ai (f1 EH) [(cU [9] (l9 (a5 8)) (ba 9) gZ (a9 (GN false) (a5 9) (a5 5)))]) (cO 6 (a5 7)) bx)))
def jR:MC:=(dc 4 (aC (bq 8 (a9 c9 (jb "writes" gH (a5 4) [(a5 7)]) (F2 (a5 3) (jb "reads" iM (a5 4) [(a5 7)]) (cC [])))) qs))
def t7:MC:=(dc 6 (bG (a5 6)))
def t8:MC:=(dc 4 (aC (iD (bP (jb "turns" lR (a5 4) [])) (ba 7) jR) t7))
def t9:MC:=(aC (bq 6 (cC [])) t8)
def td:MC:=(aC (bq 5 (ai dk [(a5 0),(a5 2)])) t9)
def yM:MC:=
 (aC (bq 4 (ai kZ [(a5 0),(a5 1)])) td)
def dh:List D->Option R:=jh 4 10 yM
def xI:MC:=(gI (fu (a9 JE (aI (f1 bU) [(dR 4)]) (eC (.int 1))) (qy (a9 qk (a9 dIx (a5 1) (eC (.int 0))) (eC (.str "anew"))) (a9 eh (a5 3) (a9 dIx (a5 1) (eC (.int 1)))))) (dc 4 (cO 2 (bA [(a5 3),(a9 dIx (a5 4) (eC (.int 0))),(a9 dIx (a5 4) (eC (.int (-1))))]))) bx)
def l6:MC:=(aC (bq 4 (ai dh [(a5 0),(a5 1),(a5 3),(eC (.bl true))])) xI)
def AR:MC:=(aC (iD (bP (aI (f1 bU) [(dR 0)])) (ba 3) l6) (vP 2))
def Gm:MC:=
 (aC (bq 2 (cC [])) AR)
def mw:List D->Option R:=jh 2 5 Gm
def tN:MC:=(dc 3 (bG (F2 (a9 qj (a5 3) (cC [])) (a9 dIx (a5 3) (eC (.int 0))) (eC .non))))
def yS:MC:=
 (aC (bq 3 (cU [4] (l9 (ai mw [(a5 0),(a5 1)])) (ba 4) (a9 eh (a9 dIx (a5 4) (eC (.int 0))) (a5 2)) (a9 dIx (a5 4) (eC (.int 1))))) tN)
def gX:List D->Option R:=jh 3 5 yS
def BG:MC:=
 (bG (a9 dIx (a9 dIx (a9 dIx (a9 dIx (a9 dIx (a5 0) (eC (.int 1))) (a5 1)) (eC (.int 2))) (a5 2)) (eC (.int 0))))
def ja:List D->Option R:=jh 3 3 BG
def rG:MC:=
 (bG (a9 qj (ai dh [(a5 0),(a5 1),(a5 2),(eC (.bl true))]) (cC [])))
def fK:List D->Option R:=jh 3 3 rG
def uA:MC:=
 (bG (a9 qj (ai dh [(a5 0),(a5 1),(a5 2),(eC (.bl false))]) (cC [])))
def gF:List D->Option R:=jh 3 3 uA
def mE:MC:=(gI (ai fK [(a5 2),(a9 dIx (a5 7) (eC (.int 0))),(a5 1)]) (cO 3 (bA [(a5 4),(a5 6),(ai gF [(a5 2),(a9 dIx (a5 7) (eC (.int 0))),(a5 1)])])) bx)
def jQ:MC:=(iD (x8 (a9 dIx (a5 5) (eC (.int 2)))) (bTup [6,7]) mE)
def sX:MC:=(dc 3 (bG (a5 3)))
def sY:MC:=(aC (iD (x8 (a9 dIx (a5 0) (eC (.int 1)))) (bTup [4,5]) jQ) sX)
def sZ:MC:=(aC (bq 3 (cC [])) sY)
def yL:MC:=
 (aC (bq 2 (a9 dIx (a5 0) (eC (.int 0)))) sZ)
def jH:List D->Option R:=jh 2 8 yL
def wK:MC:=
 (bG (a9 dIx (a9 dIx (a9 dIx (a5 0) (eC (.int 1))) (a5 1)) (eC (.int 2))))
def ir:List D->Option R:=jh 2 2 wK
def vw:MC:=(bG (F2 (a9 Lh (a5 2) (aI (f1 bU) [(dR 3)])) (a9 dIx (a9 dIx (a5 3) (a5 2)) (eC (.int 1))) (eC (.int 0))))
def BD:MC:=
 (aC (bq 3 (ai ir [(a5 0),(a5 1)])) vw)
def j9:List D->Option R:=jh 3 4 BD
def vn:MC:=(bG (F2 (a5 4) (eC (.str "over")) (eC (.str "half"))))
def vo:MC:=(aC (gI (JC (a9 lD (a9 uU (ai j9 [(a5 0),(a5 1),(a5 2)]) (a5 3)) (eC (.int 1)))) (bG (eC (.str "shut"))) bx) vn)
def vt:MC:=(aC (gI (a9 HF (a9 dIx (a9 dIx (a5 5) (a5 3)) (eC (.int 1))) (a9 dIx (a9 dIx (a5 5) (a5 1)) (eC (.int 1)))) (bG (eC (.str "rank"))) bx) vo)
def BC:MC:=
 (aC (bq 5 (a9 dIx (a5 0) (eC (.int 1)))) vt)
def kY:List D->Option R:=jh 5 6 BC
def jf:MC:=(gI (fu (a9 qk (a5 7) (a5 4)) (qy (a5 6) (a5 9))) (cO 3 (bA [(a5 1),(a5 4),(a5 5),(a5 7),(a5 8),(ai kY [(a5 0),(a5 4),(a5 5),(a5 7),(fu (a5 6) (a5 9))])])) bx)
def hG:MC:=(dc 2 (iD (l9 (a5 2)) (bTup [7,8,9]) jf))
def je:MC:=(aC (gI (lh GL (ai gX [(a9 dIx (a5 0) (eC (.int 0))),(ai ja [(a5 0),(a5 4),(a5 5)]),(a5 1)])) Hj bx) hG)
def mM:MC:=(dc 3 (bG (a5 3)))
def mN:MC:=(dc 2 (aC (iD (l9 (a5 2)) (bTup [4,5,6]) je) mM))
def mO:MC:=(aC (bq 3 (cC [])) mN)
def pR:MC:=
 (aC (bq 2 (ai jH [(a5 0),(a5 1)])) mO)
def eT:List D->Option R:=jh 2 10 pR
def sN:MC:=(mf 1 (ai eT [(a5 0),(a5 2)]))
def AS:MC:=(dc 1 (bG (lh kB (a5 1))))
def AU:MC:=(aC (iD (bP (aI (f1 bU) [(a9 dIx (a5 0) (eC (.int 0)))])) (ba 2) sN) AS)
def Gn:MC:=
 (aC (bq 1 (cC [])) AU)
def jI:List D->Option R:=jh 1 3 Gn
def CQ:MC:=(bG (aI c5 [(dR 6),(dR 5)]))
def Fc:MC:=(aC (u0 7) CQ)
def Fd:MC:=(aC (gI (n9 (aI c5 [(dR 7),(dR 5)])) (bG (eC (.bl false))) bx) Fc)
def Fe:MC:=(aC (bq 7 (ai jI [(a5 1)])) Fd)
def Ff:MC:=(aC (gI (qy (n9 (aI c5 [(dR 6),(dR 5)])) (n9 (aI c5 [(ai jI [(a5 4)]),(ai eg [(a5 4)])]))) (bG (eC (.bl false))) bx) Fe)
def Fg:MC:=(aC (bq 6 (ai jI [(a5 1)])) Ff)
def Fh:MC:=(aC (bq 5 (ai eg [(a5 1)])) Fg)
def Fi:MC:=(aC (bq 4 (bA [(a9 dIx (a5 1) (eC (.int 0))),(a9 c9 (bA [(a5 3)]) (g9 (a9 dIx (a5 1) (eC (.int 1))) (some (eC (.int 1))) none))])) Fh)
def Fj:MC:=(aC (bq 3 (bA [(eC (.str "main")),(eC (.int 0)),(ai (f1 gY) [(lh EE (a9 dIx (a5 2) (eC (.int 2))))])])) Fi)
def Fk:MC:=(aC (bq 2 (a9 dIx (a9 dIx (a5 1) (eC (.int 1))) (eC (.int 0)))) Fj)
def KS:MC:=
 (aC (bq 1 (ai fM [(a5 0),(a9 dIx (cC [(eC (.int 1)),(eC (.int 2)),(eC (.int 3)),(eC (.int 12))]) (ai aD [(a5 0),(eC (.int 7)),(eC (.int 4))]))])) Fk)
def Aq:List D->Option R:=jh 1 8 KS
end
abbrev Bx:=Str×List Int
def bD(b:Bx):D:=.tup [.str b.1,.tup (b.2.map D.int)]
def aZ(bs:List Bx):D:=.tup (bs.map bD)
def kI(i:Int):Prop:=-1000000000<=i/\i<=1000000000
def BxOk(b:Bx):Prop:=1<=b.2.length/\b.2.length<=2/\∀i∈b.2,kI i
def cM(bs:List Bx):Prop:=bs.length<=8/\∀b∈bs,BxOk b
noncomputable def szB(bs:List Bx)(x:Nat):Nat:=(bs.getD x (Str.empty,[])).2.length
inductive Deed where
 |put (x:Nat) (ns:List Int)|copy (x y:Nat)|grow (x:Nat) (n:Int)|tick (x:Nat)|still (n:Nat)
 |iz (x y:Nat) (n:Int)|most (x y:Nat) (n:Int)|non (x:Nat)|anew (x y t:Nat)
def Deed.d:Deed->D
 |.put x ns=>.tup [.str (Str.ofString "put"),.int x,.tup (ns.map D.int)]
 |.copy x y=>.tup [.str (Str.ofString "copy"),.int x,.int y]
 |.grow x n=>.tup [.str (Str.ofString "grow"),.int x,.int n]
 |.tick x=>.tup [.str (Str.ofString "tick"),.int x]
 |.still n=>.tup [.str (Str.ofString "still"),.int n]
 |.iz x y n=>.tup [.str (Str.ofString "is"),.int x,.int y,.int n]
 |.most x y n=>.tup [.str (Str.ofString "most"),.int x,.int y,.int n]
 |.non x=>.tup [.str (Str.ofString "none"),.int x]
 |.anew x y t=>.tup [.str (Str.ofString "anew"),.int x,.int y,.int t]
def Deed.Ok(bs:List Bx):Deed->Prop
 |.put x ns=>x<bs.length/\ns.length=szB bs x/\∀i∈ns,kI i
 |.copy x y=>x<bs.length/\y<bs.length/\x≠y/\szB bs y=szB bs x
 |.grow x n=>x<bs.length/\kI n
 |.tick x=>x<bs.length/\szB bs x=1
 |.still n=>1<=n/\n<=9
 |.iz x y n=>x<bs.length/\y<bs.length/\szB bs y=szB bs x/\kI n
 |.most x y n=>x<bs.length/\y<bs.length/\szB bs y=szB bs x/\kI n
 |.non x=>x<bs.length
 |.anew x y t=>x<bs.length/\y<bs.length/\t<bs.length/\x≠y/\x≠t/\y≠t/\szB bs y=szB bs x/\szB bs t=1
abbrev Pl:=Deed×Nat
structure Rw where
 nm:Str
 rk:Nat
 pl:List Pl
def plD(p:Pl):D:=.tup [p.1.d,.int p.2]
def Rw.d(r:Rw):D:=.tup [.str r.nm,.int r.rk,.tup (r.pl.map plD)]
def cS(bs:List Bx)(rs:List Rw):D:=.tup [aZ bs,.tup (rs.map Rw.d)]
def xv(ds:List D):bU (.tup ds)=okI (ds.length:Int):=rfl
def my(ds:List D):bU (.lst ds)=okI (ds.length:Int):=rfl
def wZ{bs:List Bx}{x:Nat}(h:x<bs.length):dIx (aZ bs) (.int x)=okD (bD bs[x]):=ix_tup (by rw[Vy,QB h];rfl)
def j6(bs:List Bx):bU (aZ bs)=okI (bs.length:Int):=by show okI ((bs.map bD).length:Int)=_;rw[QG]
def xY{bs:List Bx}{x:Nat}(h:x<bs.length):szB bs x=bs[x].2.length:=by
 unfold szB;rw[Wb,QB h];rfl
def wW(ns:List Int):bU (.tup (ns.map D.int))=okI (ns.length:Int):=by show okI ((ns.map D.int).length:Int)=_;rw[QG]
def E7(b:Bx):dIx (bD b) (.int 1)=okD (.tup (b.2.map D.int)):=bg
def tU{bs:List Bx}{x:Nat}(h:x<bs.length){ρ:aJ}{i j:Nat}(hi:ρ[i]?=some (some (.sh (aZ bs))))(hj:ρ[j]?=some (some (.sh (.int x)))):aI (f1 bU) [a9 dIx (a9 dIx (a5 i) (a5 j)) (eC (.int 1))] ρ=okI (szB bs x:Nat):=by
 rw[xY h];exact eQ (a6 (a6 (cK hi) (cK hj) (wZ h)) rfl (E7 _)) (wW _)
def cg{bs:List Bx}(hb:cM bs){x:Nat}(h:x<bs.length):szB bs x=1\/szB bs x=2:=by
 have hx:=hb.2 bs[x] (VM h);rw[xY h];have:=hx.1;have:=hx.2.1;omega
abbrev intD(k:Nat):D:=.int k
def HE(i j:Nat):eh (.int i) (.int j)=okB (decide (i=j)):=by rw[JA,show decide ((i:Int)=(j:Int))=decide (i=j) from Yc.mpr (by omega)]
def Ma(i j:Nat):qk (.int i) (.int j)=okB (!decide (i=j)):=by rw[Jg,show decide ((i:Int)=(j:Int))=decide (i=j) from Yc.mpr (by omega)]
def sQ{ρ:aJ}{a b:ME}{p q:Bool}(h1:a ρ=okB p)(h2:b ρ=okB q):fu a b ρ=okB (p && q):=by
 cases p with
 |true=>exact fY h1 h2
 |false=>exact dt h1
def KG{ρ:aJ}{a b:ME}{p q:Bool}(h1:a ρ=okB p)(h2:b ρ=okB q):qy a b ρ=okB (p || q):=by
 cases p with
 |true=>exact qY h1
 |false=>exact cm h1 h2
def E6{l:List Nat}{j:Nat}(h:j<l.length):dIx (.lst (l.map intD)) (.int j)=okI (l[j]:Nat):=c8 (by rw[Vy,QB h];rfl)
def sE{sc:D}{k m c:Int}(h0:0<=k)(h1:k<=100000)(hm:0<m)(hc:0<=c):∃n:Nat,lS [some (.sh sc),some (.sh (.int k)),some (.sh (.int m)),some (.sh (.int c))]=some (.ret (.sh (.int (n:Int))))/\(n:Int)<m:=by
 have hk:k * k<=100000 * 100000:=Int.mul_le_mul h1 h1 h0 (by decide)
 have hk0:0<=k * k:=Int.mul_nonneg h0 h0;have hp:=YB ((c+1) * (k * k+k+41) % 999983 * 48271 % 2147483647 / 11) (b:=m) (by omega)
 have hq:=ZD ((c+1) * (k * k+k+41) % 999983 * 48271 % 2147483647 / 11) hm;refine⟨((c+1) * (k * k+k+41) % 999983 * 48271 % 2147483647 / 11 % m).toNat,?_,by omega⟩
 rw[Y1 hp];exact ay (a6 (a6 (a6 (a6 (a6 (a6 (a6 rfl rfl rfl) (a6 (a6 (a6 rfl rfl (yE (by omega) (by omega))) rfl rfl) rfl rfl) (Jh (by omega) (by omega))) rfl (gE (by decide))) rfl (Jh (by decide) (by decide))) rfl (gE (by decide))) rfl (xl (by decide) (by decide))) rfl (gE hm))
def fX{ns:List Int}{k m:Int}(h0:0<=k)(h1:k<=100000)(hm:0<m):∃n:Nat,aD [.lst (ns.map D.int),.int k,.int m]=okI n/\(n:Int)<m:=by
 cases ns with
 |nil=>
  obtain⟨n,e,hn⟩:=sE (sc:=.lst []) (c:=0) h0 h1 hm (by decide)
  exact⟨n,ao rfl (a3 (ak rfl) (a3 (aq rfl rfl) e)),hn⟩
 |cons a ns=>
  have hl:(0:Int)<((a::ns).length:Int):=by rw[QS];omega
  have hp:0<=k % ((a::ns).length:Int):=YB _ (by omega)
  have hq:k % ((a::ns).length:Int)<((a::ns).length:Int):=ZD _ hl;have hlen:bU (.lst ((a::ns).map D.int))=okI ((a::ns).length:Int):=by show okI (((a::ns).map D.int).length:Int)=_;rw[QG]
  have hix:dIx (.lst ((a::ns).map D.int)) (.int (k % ((a::ns).length:Int)))=okI ((a::ns).getD (k % ((a::ns).length:Int)).toNat 0):=by
   have e:((a::ns).map D.int)[(k % ((a::ns).length:Int)).toNat]?=some (.int ((a::ns).getD (k % ((a::ns).length:Int)).toNat 0)):=by
    have hi:(k % ((a::ns).length:Int)).toNat<(a::ns).length:=by omega
    rw[Vy,Wb,QB hi];rfl
   have z:=c8 e;rwa[Y1 hp] at z
  obtain⟨n,e,hn⟩:=sE (sc:=.lst ((a::ns).map D.int)) (c:=(a::ns).getD (k % ((a::ns).length:Int)).toNat 0 % 1000003) h0 h1 hm (YB _ (by decide))
  refine⟨n,ao rfl (a3 (ak rfl) (a3 (cp (a6 (eQ rfl hlen) rfl ?_) (ak (a6 (a6 rfl (a6 rfl (eQ rfl hlen) (gE hl)) hix) rfl (gE (by decide))))) e)),hn⟩
  show okB (decide (0<((a::ns).length:Int)))=_;rw[QV hl]
def numN{ns:List Int}{k:Int}(h0:0<=k)(h1:k<=90000):∃v:Int,cG [.lst (ns.map D.int),.int k]=okI v/\kI v:=by
 obtain⟨f,df,hf⟩:=fX (ns:=ns) (k:=k) (m:=2000) h0 (by omega) (by decide)
 obtain⟨i,di,hi⟩:=fX (ns:=ns) (k:=k+4000) (m:=4) (by omega) (by omega) (by decide)
 have hp:BZ (.int 10) (.int 9)=okI 1000000000:=rfl;have f7:=YB (f:Int) (b:=7) (by decide)
 have f7':=ZD (f:Int) (b:=7) (by decide)
 have f5:=YB (f:Int) (b:=5) (by decide)
 have f5':=ZD (f:Int) (b:=5) (by decide)
 have menu:∀ρ:aJ,ρ[2]?=some (some (.sh (.int f)))->cC [(a9 nQ (a9 lr (a5 2) (eC (.int 7))) (eC (.int 3))),(a9 nQ (a9 BZ (eC (.int 10)) (eC (.int 9))) (a9 lr (a5 2) (eC (.int 5)))),(a9 nQ (a9 lr (a5 2) (eC (.int 5))) (a9 BZ (eC (.int 10)) (eC (.int 9)))),(a9 lq (a5 2) (eC (.int 499999)))] ρ=okL [.int ((f:Int) % 7 - 3),.int (1000000000 - (f:Int) % 5),.int ((f:Int) % 5 - 1000000000),.int ((f:Int) * 499999)]:=λρ h=>
  kE (a6 (a6 (cK h) rfl (gE (by decide))) rfl rfl) (a6 (a6 rfl rfl hp) (a6 (cK h) rfl (gE (by decide))) rfl) (a6 (a6 (cK h) rfl (gE (by decide))) (a6 rfl rfl hp) rfl) (a6 (cK h) rfl (Jh (by decide) (by decide))) rfl
 have go:∀v:Int,dIx (.lst [.int ((f:Int) % 7 - 3),.int (1000000000 - (f:Int) % 5),.int ((f:Int) % 5 - 1000000000),.int ((f:Int) * 499999)]) (.int (i:Int))=okI v->cG [.lst (ns.map D.int),.int k]=okI v:=λv hv=>
  ao rfl (a3 (ak (bN rfl rfl rfl df)) (a3 (ak (menu _ rfl)) (bw (ay (a6 rfl (bN rfl (a6 rfl rfl rfl) rfl di) hv)))))
 match i,hi,go with
 |0,_,go=>exact⟨_,go _ pV,by unfold kI;omega⟩
 |1,_,go=>exact⟨_,go _ wX,by unfold kI;omega⟩
 |2,_,go=>exact⟨_,go _ Ae,by unfold kI;omega⟩
 |3,_,go=>exact⟨_,go _ (c8 (n:=3) rfl),by unfold kI;omega⟩
 |n+4,hi,_=>omega
def DK{x:Str}{n:Nat}(h:x.length=1)(hn:n=1\/n=2):∃y,Ay (.str x) (.int (n:Int))=okD (.str y):=by
 have hc:x.length=1/\((n:Int)=1\/(n:Int)=2):=⟨h,by omega⟩
 exact⟨_,QH hc⟩
def DW{b:Nat}(h:b<8):∃c:Nat,dIx (.str (Str.ofString "abcdefgh")) (.int (b:Int))=okD (.str ⟨#[c]⟩):=by
 match b,h with
 |0,_=>exact⟨97,rfl⟩
 |1,_=>exact⟨98,rfl⟩
 |2,_=>exact⟨99,rfl⟩
 |3,_=>exact⟨100,rfl⟩
 |4,_=>exact⟨101,rfl⟩
 |5,_=>exact⟨102,rfl⟩
 |6,_=>exact⟨103,rfl⟩
 |7,_=>exact⟨104,rfl⟩
def CP{a b:Int}{n:Nat}(hn:n=1\/n=2){ρ:aJ}{e:ME}{s:S}(h:e ρ=some (.ok s))(hv:s.val=.lst [.int a,.int b]){e1:ME}(h1:e1 ρ=okI (n:Int)):g9 e none (some e1) ρ=okL (([a,b].take n).map D.int):=by
 unfold g9;rw[h];simp only[bindV_ok,A5,hv,h1,S.val_sh];rcases hn with rfl|rfl <;> rfl
def EO{ns:List Int}:∃bs:List Bx,iv [.lst (ns.map D.int)]=okD (aZ bs)/\1<=bs.length/\cM bs:=by
 obtain⟨i,di,hi⟩:=fX (ns:=ns) (k:=3) (m:=8) (by decide) (by decide) (by decide)
 have hcount:∃m:Nat,dIx (.lst [.int 1,.int 2,.int 3,.int 3,.int 4,.int 4,.int 5,.int 8]) (.int (i:Int))=okI (m:Int)/\1<=m/\m<=8:=by
  match i,hi with
  |0,_=>exact⟨1,rfl,by decide,by decide⟩
  |1,_=>exact⟨2,rfl,by decide,by decide⟩
  |2,_=>exact⟨3,rfl,by decide,by decide⟩
  |3,_=>exact⟨3,rfl,by decide,by decide⟩
  |4,_=>exact⟨4,rfl,by decide,by decide⟩
  |5,_=>exact⟨4,rfl,by decide,by decide⟩
  |6,_=>exact⟨5,rfl,by decide,by decide⟩
  |7,_=>exact⟨8,rfl,by decide,by decide⟩
  |n+8,hi=>omega
 obtain⟨m,hm,m1,m8⟩:=hcount;have step:∀(k:Nat)(ρ:aJ),k<m->(∃bs:List Bx,bs.length=k/\(∀b∈bs,BxOk b)/\∃e2 e3 e4:Option S,ρ=[some (.sh (.lst (ns.map D.int))),some (.own (.lst (bs.map bD))),e2,e3,e4])->
   ∃ρ1 ρ2,ba 2 (.int k) ρ=some ρ1/\lH ρ1=some (.next ρ2)/\(∃bs:List Bx,bs.length=k+1/\(∀b∈bs,BxOk b)/\∃e2 e3 e4:Option S,ρ2=[some (.sh (.lst (ns.map D.int))),some (.own (.lst (bs.map bD))),e2,e3,e4]):=by
  rintro k ρ hk ⟨bs,hl,hs,e2,e3,e4,rfl⟩
  obtain⟨a,ea,oa⟩:=numN (ns:=ns) (k:=10+4 * (k:Int)) (by omega) (by omega)
  obtain⟨b,eb,ob⟩:=numN (ns:=ns) (k:=11+4 * (k:Int)) (by omega) (by omega)
  obtain⟨j,ej,hj⟩:=fX (ns:=ns) (k:=12+4 * (k:Int)) (m:=2) (by omega) (by omega) (by decide)
  obtain⟨c,ec⟩:=DW (b:=k) (by omega)
  have h12:1+j=1\/1+j=2:=by omega
  obtain⟨y,ey⟩:=DK (x:=⟨#[c]⟩) rfl h12;have e1j:c9 (.int 1) (.int (j:Int))=okI ((1+j:Nat):Int):=by rw[add_int];congr 4
  refine⟨_,_,rfl,a3 (ak (bB (bB rfl (a6 rfl (a6 rfl rfl (yE (by decide) (by decide))) rfl) ea) (bB rfl (a6 rfl (a6 rfl rfl (yE (by decide) (by decide))) rfl) eb) rfl)) (a3 (ak (a6 rfl (bN rfl (a6 rfl (a6 rfl rfl (yE (by decide) (by decide))) rfl) rfl ej) e1j)) (bw (f6 (s:=.sh (bD (y,[a,b].take (1+j)))) rfl (sT (s1:=.sh (.str y)) (s2:=.sh (.tup (([a,b].take (1+j)).map D.int))) (a6 (a6 rfl rfl ec) rfl ey) (bK (CP h12 rfl rfl rfl) rfl)) ?_))),bs++[(y,[a,b].take (1+j))],by rw[QE,hl];rfl,?_,some (.sh (.int (k:Int))),some (.sh (.lst [.int a,.int b])),some (.sh (.int ((1+j:Nat):Int))),?_⟩
  ·rw[QG,hl];exact QZ (by omega:k<8) (by decide)
  ·intro z hz;rcases VQ.mp hz with h|h
   ·exact hs z h
   ·rw[V3.mp h];refine⟨by show 1<=([a,b].take (1+j)).length;rw[We];show 1<=min (1+j) 2;omega,by show([a,b].take (1+j)).length<=2;rw[We];show min (1+j) 2<=2;omega,λi hi=>?_⟩
    have hi':=ZH hi;rcases V1.mp hi' with rfl|hi'
    ·exact oa
    ·rw[V3.mp hi'];exact ob
  ·rw[VB];rfl
 obtain⟨ρ',e,bs,hl,hs,e2,e3,e4,rfl⟩:=cy (ρ:=[some (.sh (.lst (ns.map D.int))),some (.own (.lst [])),none,none,none]) (λk ρ=>∃bs:List Bx,bs.length=k/\(∀b∈bs,BxOk b)/\∃e2 e3 e4:Option S,ρ=[some (.sh (.lst (ns.map D.int))),some (.own (.lst (bs.map bD))),e2,e3,e4]) m ⟨[],rfl,λ_ h=>(nomatch h),none,none,none,rfl⟩ step
 refine⟨bs,ao rfl (a3 (ak rfl) (a3 (fh (cq (a6 (s:=.own (.lst [.int 1,.int 2,.int 3,.int 3,.int 4,.int 4,.int 5,.int 8])) rfl (bN rfl rfl rfl di) hm) (bI (by omega))) e) (bw (ay (bK rfl rfl))))),by omega,by omega,hs⟩
def i6(bs:List Bx)(x:Nat):List Nat:=(List.range bs.length).filter λy=>decide (szB bs y=szB bs x)
def iZ(bs:List Bx)(x y:Nat):List Nat:=(List.range bs.length).filter λt=>decide (szB bs t=1) && (!decide (t=x) && !decide (t=y))
def rW{bs:List Bx}{x y:Nat}:y∈i6 bs x↔y<bs.length/\szB bs y=szB bs x:=by
 unfold i6;rw[WR,QX];simp
def BI{bs:List Bx}{x y t:Nat}:t∈iZ bs x y↔t<bs.length/\szB bs t=1/\t≠x/\t≠y:=by
 unfold iZ;rw[WR,QX];simp
def B9{bs:List Bx}{x:Nat}:(i6 bs x).length<=bs.length:=by
 unfold i6;refine V5 (WZ _ _) ?_;rw[V2];exact QO _
def BJ{bs:List Bx}{x y:Nat}:(iZ bs x y).length<=bs.length:=by
 unfold iZ;refine V5 (WZ _ _) ?_;rw[V2];exact QO _
def gW(l:List Nat):bU (.lst (l.map intD))=okI (l.length:Int):=by rw[my,QG]
def bu{bs:List Bx}{a b:MC}{ρ ρ':aJ}(h:a ρ=some (.next ρ'))(t:∃dd:Deed,dd.Ok bs/\b ρ'=some (.ret (.sh dd.d))):∃dd:Deed,dd.Ok bs/\aC a b ρ=some (.ret (.sh dd.d)):=by
 obtain⟨dd,ok,e⟩:=t;exact⟨dd,ok,a3 h e⟩
abbrev mY:List D:=[.str (Str.ofString "put"),.str (Str.ofString "copy"),.str (Str.ofString "grow"),.str (Str.ofString "tick"),.str (Str.ofString "still"),.str (Str.ofString "is"),.str (Str.ofString "most"),.str (Str.ofString "none"),.str (Str.ofString "anew"),.str (Str.ofString "grow"),.str (Str.ofString "put"),.str (Str.ofString "anew")]
inductive Kd:Str->Prop
 |put:Kd (Str.ofString "put")|copy:Kd (Str.ofString "copy")|grow:Kd (Str.ofString "grow")|tick:Kd (Str.ofString "tick")|still:Kd (Str.ofString "still")
 |iz:Kd (Str.ofString "is")|most:Kd (Str.ofString "most")|non:Kd (Str.ofString "none")|anew:Kd (Str.ofString "anew")
def Jj{i:Nat}(h:i<12):∃s,Kd s/\dIx (.lst mY) (.int (i:Int))=okD (.str s):=by
 match i,h with
 |0,_=>exact⟨_,.put,c8 (n:=0) rfl⟩
 |1,_=>exact⟨_,.copy,c8 (n:=1) rfl⟩
 |2,_=>exact⟨_,.grow,c8 (n:=2) rfl⟩
 |3,_=>exact⟨_,.tick,c8 (n:=3) rfl⟩
 |4,_=>exact⟨_,.still,c8 (n:=4) rfl⟩
 |5,_=>exact⟨_,.iz,c8 (n:=5) rfl⟩
 |6,_=>exact⟨_,.most,c8 (n:=6) rfl⟩
 |7,_=>exact⟨_,.non,c8 (n:=7) rfl⟩
 |8,_=>exact⟨_,.anew,c8 (n:=8) rfl⟩
 |9,_=>exact⟨_,.grow,c8 (n:=9) rfl⟩
 |10,_=>exact⟨_,.put,c8 (n:=10) rfl⟩
 |11,_=>exact⟨_,.anew,c8 (n:=11) rfl⟩
set_option maxHeartbeats 4000000 in
def GJ{ns:List Int}{bs:List Bx}(hb:cM bs)(h1:1<=bs.length){k:Int}(hk0:0<=k)(hk1:k<=2000):∃dd:Deed,dd.Ok bs/\jL [aZ bs,.lst (ns.map D.int),.int k]=okD dd.d:=by
 obtain⟨i,di,hi⟩:=fX (ns:=ns) (k:=k) (m:=12) hk0 (by omega) (by decide)
 obtain⟨kd,hkd,ekd⟩:=Jj (i:=i) (by omega)
 obtain⟨x,dx,hx⟩:=fX (ns:=ns) (k:=k+1) (m:=bs.length) (by omega) (by omega) (by omega)
 have hx:x<bs.length:=by omega
 have h12:=cg hb hx;have b8:=hb.1;have sl:=B9 (bs:=bs) (x:=x);have s0:0<(i6 bs x).length:=List.length_pos_of_mem (rW.mpr ⟨hx,rfl⟩);obtain⟨j,dj,hj⟩:=fX (ns:=ns) (k:=k+2) (m:=((i6 bs x).length:Int)) (by omega) (by omega) (by omega)
 have hj:j<(i6 bs x).length:=by omega
 have ey:dIx (.lst ((i6 bs x).map intD)) (.int (j:Int))=okI ((i6 bs x)[j]:Nat):=E6 hj;have hy:=rW.mp (VM hj);generalize (i6 bs x)[j]=y at ey hy;obtain⟨n,en,on⟩:=numN (ns:=ns) (k:=k+3) (by omega) (by omega)
 have ol:=BJ (bs:=bs) (x:=x) (y:=y);have hsame:cU [11] (bP (aI (f1 bU) [(dR 0)])) (ba 11) (a9 eh (aI (f1 bU) [(a9 dIx (a9 dIx (a5 0) (a5 11)) (eC (.int 1)))]) (a5 6)) (a5 11) [some (.sh (aZ bs)),some (.sh (.lst (ns.map D.int))),some (.sh (.int k)),some (.sh (.lst mY)),some (.sh (.str kd)),some (.sh (.int x)),some (.sh (.int (szB bs x:Nat))),none,none,none,none,none]=okL ((i6 bs x).map intD):=by
  refine ox (List.range bs.length) intD (λy=>decide (szB bs y=szB bs x)) intD ?_ (by rw[V2];exact V5 b8 (by decide)) λt ht=>?_
  ·rw[<-Bc];exact cq (eQ (f9 rfl) (j6 bs)) (bI (by omega))
  ·exact⟨_,rfl,a6 (tU (QX.mp ht) rfl rfl) rfl (HE _ _),λ_=>⟨_,rfl,rfl⟩⟩
 have hones:cU [11] (bP (aI (f1 bU) [(dR 0)])) (ba 11) (fu (a9 eh (aI (f1 bU) [(a9 dIx (a9 dIx (a5 0) (a5 11)) (eC (.int 1)))]) (eC (.int 1))) (fu (a9 qk (a5 11) (a5 5)) (a9 qk (a5 11) (a5 8)))) (a5 11) [some (.sh (aZ bs)),some (.sh (.lst (ns.map D.int))),some (.sh (.int k)),some (.sh (.lst mY)),some (.sh (.str kd)),some (.sh (.int x)),some (.sh (.int (szB bs x:Nat))),some (.sh (.lst ((i6 bs x).map intD))),some (.sh (.int y)),none,none,none]=okL ((iZ bs x y).map intD):=by
  refine ox (List.range bs.length) intD (λt=>decide (szB bs t=1) && (!decide (t=x) && !decide (t=y))) intD ?_ (by rw[V2];exact V5 b8 (by decide)) λt ht=>?_
  ·rw[<-Bc];exact cq (eQ (f9 rfl) (j6 bs)) (bI (by omega))
  ·exact⟨_,rfl,sQ (a6 (tU (QX.mp ht) rfl rfl) rfl (HE _ 1)) (sQ (a6 rfl rfl (Ma t x)) (a6 rfl rfl (Ma t y))),λ_=>⟨_,rfl,rfl⟩⟩
 have kinds:∀ρ:aJ,cC [(eC (.str (Str.ofString "put"))),(eC (.str (Str.ofString "copy"))),(eC (.str (Str.ofString "grow"))),(eC (.str (Str.ofString "tick"))),(eC (.str (Str.ofString "still"))),(eC (.str (Str.ofString "is"))),(eC (.str (Str.ofString "most"))),(eC (.str (Str.ofString "none"))),(eC (.str (Str.ofString "anew"))),(eC (.str (Str.ofString "grow"))),(eC (.str (Str.ofString "put"))),(eC (.str (Str.ofString "anew")))] ρ=okL mY:=λ_=>rfl
 suffices z:∃dd:Deed,dd.Ok bs/\lT [some (.sh (aZ bs)),some (.sh (.lst (ns.map D.int))),some (.sh (.int k)),some (.sh (.lst mY)),some (.sh (.str kd)),some (.sh (.int x)),some (.sh (.int (szB bs x:Nat))),some (.sh (.lst ((i6 bs x).map intD))),some (.sh (.int y)),some (.own (.lst ((iZ bs x y).map intD))),some (.sh (.int n)),none]=some (.ret (.sh dd.d)) by
  obtain⟨dd,ok,e⟩:=z;exact⟨dd,ok,ao rfl (a3 (ak (kinds _)) (bw (a3 (ak (a6 rfl (bN rfl rfl rfl di) ekd)) (a3 (ak (bN rfl (a6 rfl rfl rfl) (eQ rfl (j6 bs)) dx)) (a3 (ak (tU hx rfl rfl)) (a3 (ak hsame) (bw (a3 (ak (a6 rfl (bN rfl (a6 rfl rfl rfl) (eQ rfl (gW _)) dj) ey)) (a3 (ak hones) (a3 (ak (bB rfl (a6 rfl rfl rfl) en)) e))))))))))⟩
 have still:∀kd:Str,∃dd:Deed,dd.Ok bs/\lu [some (.sh (aZ bs)),some (.sh (.lst (ns.map D.int))),some (.sh (.int k)),some (.sh (.lst mY)),some (.sh (.str kd)),some (.sh (.int x)),some (.sh (.int (szB bs x:Nat))),some (.sh (.lst ((i6 bs x).map intD))),some (.sh (.int y)),some (.own (.lst ((iZ bs x y).map intD))),some (.sh (.int n)),none]=some (.ret (.sh dd.d)):=λkd=>by
  obtain⟨m,dm,hm⟩:=fX (ns:=ns) (k:=k+5) (m:=9) (by omega) (by omega) (by decide)
  refine⟨.still (1+m),⟨by omega,by omega⟩,ay (bB (s2:=.sh (.int ((1+m:Nat):Int))) rfl (a6 rfl (bN rfl (a6 rfl rfl rfl) rfl dm) ?_) rfl)⟩
  show okI (1+(m:Int))=okI ((1+m:Nat):Int);congr 4
 have f:∀{a b:Str}{ρ:aJ},ρ[4]?=some (some (.sh (.str b)))->b≠a->a9 eh (a5 4) (eC (.str a)) ρ=okB false:=λh e=>a6 (cK h) rfl (aL e);have t:∀{a:Str}{ρ:aJ},ρ[4]?=some (some (.sh (.str a)))->a9 eh (a5 4) (eC (.str a)) ρ=okB true:=λh=>a6 (cK h) rfl (fN rfl);cases hkd with
 |put=>
  refine⟨.put x ([n,-n].take (szB bs x)),⟨hx,?_,λi hi=>?_⟩,b5 (cp (t rfl) (ay (bN rfl rfl (bK (CP h12 (bB rfl (oC rfl rfl) rfl) rfl rfl) rfl) rfl)))⟩
  ·rw[We];show min (szB bs x) 2=_;omega
  ·have hi':=ZH hi;unfold kI at on ⊢;rcases V1.mp hi' with rfl|hi'
   ·exact on
   ·rw[V3.mp hi'];omega
 |copy=>
  refine bu (aq (f rfl (by decide)) rfl) ?_
  by_cases c:x=y
  ·exact bu (aq (fY (t rfl) (a6 rfl rfl (Gf (by omega)))) rfl) (bu (aq (f rfl (by decide)) rfl) (bu (aq (dt (f rfl (by decide))) rfl) (bu (aq (cm (f rfl (by decide)) (f rfl (by decide))) rfl) (bu (aq (f rfl (by decide)) rfl) (bu (aq (dt (f rfl (by decide))) rfl) (still _))))))
  ·exact⟨.copy x y,⟨hx,hy.1,c,hy.2⟩,b5 (cp (fY (t rfl) (a6 rfl rfl (Gc (by omega)))) (ay (bN rfl rfl rfl rfl)))⟩
 |grow=>exact bu (aq (f rfl (by decide)) rfl) (bu (aq (dt (f rfl (by decide))) rfl) ⟨.grow x n,⟨hx,on⟩,b5 (cp (t rfl) (ay (bN rfl rfl rfl rfl)))⟩)
 |tick=>
  refine bu (aq (f rfl (by decide)) rfl) (bu (aq (dt (f rfl (by decide))) rfl) (bu (aq (f rfl (by decide)) rfl) ?_))
  by_cases c:szB bs x=1
  ·exact⟨.tick x,⟨hx,c⟩,b5 (cp (fY (t rfl) (a6 rfl rfl (BV (by omega)))) (ay (bB rfl rfl rfl)))⟩
  ·exact bu (aq (fY (t rfl) (a6 rfl rfl (BW (by omega)))) rfl) (bu (aq (cm (f rfl (by decide)) (f rfl (by decide))) rfl) (bu (aq (f rfl (by decide)) rfl) (bu (aq (dt (f rfl (by decide))) rfl) (still _))))
 |still=>exact bu (aq (f rfl (by decide)) rfl) (bu (aq (dt (f rfl (by decide))) rfl) (bu (aq (f rfl (by decide)) rfl) (bu (aq (dt (f rfl (by decide))) rfl) (bu (aq (cm (f rfl (by decide)) (f rfl (by decide))) rfl) (bu (aq (f rfl (by decide)) rfl) (bu (aq (dt (f rfl (by decide))) rfl) (still _)))))))
 |iz=>exact bu (aq (f rfl (by decide)) rfl) (bu (aq (dt (f rfl (by decide))) rfl) (bu (aq (f rfl (by decide)) rfl) (bu (aq (dt (f rfl (by decide))) rfl) ⟨.iz x y n,⟨hx,hy.1,hy.2,on⟩,b5 (cp (qY (t rfl)) (ay (kE rfl rfl rfl rfl rfl)))⟩)))
 |most=>exact bu (aq (f rfl (by decide)) rfl) (bu (aq (dt (f rfl (by decide))) rfl) (bu (aq (f rfl (by decide)) rfl) (bu (aq (dt (f rfl (by decide))) rfl) ⟨.most x y n,⟨hx,hy.1,hy.2,on⟩,b5 (cp (cm (f rfl (by decide)) (t rfl)) (ay (kE rfl rfl rfl rfl rfl)))⟩)))
 |non=>exact bu (aq (f rfl (by decide)) rfl) (bu (aq (dt (f rfl (by decide))) rfl) (bu (aq (f rfl (by decide)) rfl) (bu (aq (dt (f rfl (by decide))) rfl) (bu (aq (cm (f rfl (by decide)) (f rfl (by decide))) rfl) ⟨.non x,hx,b5 (cp (t rfl) (ay (bB rfl rfl rfl)))⟩))))
 |anew=>
  refine bu (aq (f rfl (by decide)) rfl) (bu (aq (dt (f rfl (by decide))) rfl) (bu (aq (f rfl (by decide)) rfl) (bu (aq (dt (f rfl (by decide))) rfl) (bu (aq (cm (f rfl (by decide)) (f rfl (by decide))) rfl) (bu (aq (f rfl (by decide)) rfl) ?_)))))
  by_cases c:x=y
  ·exact bu (aq (fY (t rfl) (dt (a6 rfl rfl (Gf (by omega))))) rfl) (still _)
  ·by_cases c2:0<(iZ bs x y).length
   ·obtain⟨q,dq,hq⟩:=fX (ns:=ns) (k:=k+4) (m:=((iZ bs x y).length:Int)) (by omega) (by omega) (by omega)
    have hq:q<(iZ bs x y).length:=by omega
    have eq:dIx (.lst ((iZ bs x y).map intD)) (.int (q:Int))=okI ((iZ bs x y)[q]:Nat):=E6 hq;have hm:=BI.mp (VM hq);generalize (iZ bs x y)[q]=r at eq hm;exact⟨.anew x y r,⟨hx,hy.1,hm.1,c,λz=>hm.2.2.1 z.symm,λz=>hm.2.2.2 z.symm,hy.2,hm.2.1⟩,b5 (cp (fY (t rfl) (fY (a6 rfl rfl (Gc (by omega))) (a6 (eQ rfl (gW _)) rfl (Ju (by omega))))) (bw (ay (kE rfl rfl rfl (a6 rfl (bN rfl (a6 rfl rfl rfl) (eQ rfl (gW _)) dq) eq) rfl))))⟩
   ·exact bu (aq (fY (t rfl) (fY (a6 rfl rfl (Gc (by omega))) (a6 (eQ rfl (gW _)) rfl (L7 (by omega))))) rfl) (still _)
def fstB(bs:List Bx)(x:Nat):Nat:=((List.range x).map (szB bs)).sum
def CN(bs:List Bx):Nat:=fstB bs bs.length
def q8(bs:List Bx)(x:Nat):fstB bs (x+1)=fstB bs x+szB bs x:=by
 unfold fstB;rw[Ww,VB,List.sum_append];simp
theorem xc{bs:List Bx}:∀{x y:Nat},x<=y->fstB bs x<=fstB bs y
 |x,0,h=>by rw[Nat.le_zero.mp h];exact QO _
 |x,y+1,h=>by
  by_cases e:x=y+1
  ·rw[e];exact QO _
  ·rw[q8];have:=xc (bs:=bs) (x:=x) (y:=y) (by omega);omega
def zg{bs:List Bx}{x y:Nat}(h:x<y):fstB bs x+szB bs x<=fstB bs y:=by rw[<-q8];exact xc h
def Ao{bs:List Bx}{x:Nat}(h:x<bs.length):fstB bs x+szB bs x<=CN bs:=zg h
theorem Ap{bs:List Bx}(hb:cM bs):∀{x:Nat},x<=bs.length->fstB bs x<=2 * x
 |0,_=>QO _
 |x+1,h=>by
  rw[q8];have:=Ap hb (x:=x) (by omega)
  rcases cg hb (x:=x) (by omega) with e|e <;> omega
def CM{bs:List Bx}(hb:cM bs):CN bs<=16:=by
 have:=Ap hb (QO bs.length);have:=hb.1;unfold CN;omega
def ah(bs:List Bx)(x:Nat):List Nat:=(List.range (szB bs x)).map λk=>fstB bs x+k
def Fs(l:List Nat):(l.map λn:Nat=>(n:Int)).sum=((l.sum:Nat):Int):=by
 induction l with
 |nil=>rfl
 |cons n l ih=>rw[Wm,List.sum_cons,List.sum_cons,ih];omega
def ED(l:List Nat):GK (.lst (l.map intD))=okI ((l.sum:Nat):Int):=by
 have:l.map intD=(l.map λn:Nat=>(n:Int)).map D.int:=by rw[Zi];rfl
 rw[this];show(intsOf _).bind _=_;rw[x5];show okI _=_;rw[Fs]
def xC{bs:List Bx}{x c:Nat}(h:x<bs.length)(hc:c∈ah bs x):c<CN bs:=by
 unfold ah at hc;obtain⟨k,hk,rfl⟩:=V6.mp hc;have:=QX.mp hk;have:=Ao h;omega
def c7(bs:List Bx)(x:Nat):(ah bs x).length=szB bs x:=by unfold ah;rw[QG,V2]
def xA{bs:List Bx}(hb:cM bs){x:Nat}(h:x<bs.length):(ah bs x).length<=2:=by rw[c7];rcases cg hb h with e|e <;> omega
def EL{bs:List Bx}(hb:cM bs){x:Nat}(h:x<bs.length):(ah bs x)[0]?=some (fstB bs x):=by
 unfold ah;rw[Vy,Wu (by rcases cg hb h with e|e <;> omega)]
 rfl
def JH{bs:List Bx}{x k:Nat}(h:k<szB bs x):(ah bs x)[k]?=some (fstB bs x+k):=by
 unfold ah;rw[Vy,Wu h];rfl
def wY{bs:List Bx}{x k:Nat}(h:k<szB bs x):dIx (.lst ((ah bs x).map intD)) (.int k)=okI (fstB bs x+k:Nat):=c8 (by rw[Vy,JH h];rfl)
def oQ{bs:List Bx}{x:Nat}(h:x<bs.length):gL [aZ bs,.int x]=okI (szB bs x:Nat):=ao rfl (ay (tU h rfl rfl))
def bJ{bs:List Bx}(hb:cM bs){x:Nat}(h:x<bs.length):dk [aZ bs,.int x]=okL ((ah bs x).map intD):=by
 have h8:=hb.1;have ht:=CM hb;have hf:=Ao h;have hc:cU [3] (bP (a5 1)) (ba 3) gZ (ai gL [(a5 0),(a5 3)]) [some (.sh (aZ bs)),some (.sh (.int x)),none,none]=okL ((List.range x).map λk=>intD (szB bs k)):=
  kD (List.range x) intD _ (by rw[<-Bc];exact cq rfl (bI (by omega))) (by rw[V2];exact V5 (by omega:x<=8) (by decide)) λk hk=>⟨_,rfl,_,bB rfl rfl (oQ (by have:=QX.mp hk;omega)),rfl⟩
 have hs:GK (.lst ((List.range x).map λk=>intD (szB bs k)))=okI (fstB bs x:Nat):=by
  have:((List.range x).map λk=>intD (szB bs k))=((List.range x).map (szB bs)).map intD:=by rw[Zi];rfl
  rw[this,ED];rfl
 have hr:kC (.int (fstB bs x:Nat)) (.int ((fstB bs x:Nat)+(szB bs x:Nat):Int))=okL ((ah bs x).map intD):=by
  rw[Bf (by exact bI (by omega)) (by exact bI (n:=fstB bs x+szB bs x) (by omega)) (V5 (by omega:_<=16) (by decide))]
  have e:=LZ (fstB bs x) (fstB bs x+szB bs x);rw[V9] at e;show okL (rng (fstB bs x:Nat) (((fstB bs x+szB bs x:Nat):Int)))=_;rw[e];unfold ah;rw[Zi];rfl
 exact ao rfl (a3 (ak (bK hc hs)) (ay (a6 rfl (a6 rfl (bB rfl rfl (oQ h)) rfl) hr)))
abbrev ix:=List Nat×List Nat
def hZ(p:ix):D:=.tup [.tup (p.1.map intD),.tup (p.2.map intD)]
def AW(bs:List Bx)(x y:Nat):List Nat:=(gj ((ah bs x++ah bs y).map λn:Nat=>(n:Int))).map Int.toNat
def bp(bs:List Bx):Deed->List ix
 |.put x _=>(ah bs x).map λc=>([],[c])
 |.copy x y=>(List.range (szB bs x)).map λk=>([fstB bs y+k],[fstB bs x+k])
 |.grow x _=>((ah bs x).map λc=>([c],[]))++(ah bs x).map λc=>([],[c])
 |.tick x=>[([fstB bs x],[fstB bs x])]
 |.still n=>replicate n ([],[])
 |.iz x y _=>[(AW bs x y,[])]
 |.most x y _=>[(AW bs x y,[])]
 |.non _=>[([],[])]
 |.anew x y t=>(([fstB bs t]++ah bs y++[fstB bs t]).map λc=>([c],[]))++(ah bs x).map λc=>([],[c])
abbrev planS:Str:=Str.ofString "plan"
def planD(bs:List Bx)(dd:Deed):D:=.lst ((bp bs dd).map hZ)
def HG:Deed->Vw
 |.put _ _ => "Put" | .copy _ _ => "Copy" | .grow _ _ => "Grow" | .tick _ => "Tick" | .still _ => "Still" | .iz _ _ _ => "Comparing" | .most _ _ _ => "Comparing" | .non _ => "Untouched" | .anew _ _ _ => "Anew"
def oq:Deed->List Str
 |.put _ _=>[Str.ofString "numbers"]|.grow _ _=>[Str.ofString "size",Str.ofString "number"]|.anew _ _ _=>[Str.ofString "check"]|_=>[]
def Jx(bs:List Bx):Deed->List D
 |.put _ ns=>[.tup (ns.map D.int)]|.grow x n=>[.int (szB bs x:Nat),.int n]|.anew _ y _=>[.int ((szB bs y:Nat)+1:Int)]|_=>[]
def iX(bs:List Bx)(dd:Deed):O:=.obj (HG dd) (planS::oq dd) (planD bs dd::Jx bs dd)
abbrev DC:List Vw:=["Deed","Promise","Comparing","Untouched","Still","Put","Copy","Tick","Handed","Grow","Anew"]
def nc(dd:Deed):DC.contains (HG dd)=true:=by cases dd <;> rfl
def j8{c:Vw}(hc:DC.contains c=true)(p:D):eR (.obj c [] []) [p]=some (.obj c [planS] [p]):=jX rfl (l8 (oR rfl hc rfl (by decide)) rfl)
def JG{A:List Nat}(hA:A.length<=100){ρ:aJ}{js:List Nat}{it:MI}{v:Nat}(hi:it ρ=some (.ok (A.map intD)))(hv:v<(cW js ρ).length):cU js it (ba v) gZ (bA [(bA [(a5 v)]),(bA [])]) ρ=okL ((A.map λc=>(([c],[]):ix)).map hZ):=by
 rw[Zi];exact kD A intD _ hi (V5 hA (by decide)) λb _=>⟨_,rfl,_,sT (bK (cK (QR hv)) rfl) rfl,rfl⟩
def EI{A:List Nat}(hA:A.length<=100){ρ:aJ}{js:List Nat}{it:MI}{v:Nat}(hi:it ρ=some (.ok (A.map intD)))(hv:v<(cW js ρ).length):cU js it (ba v) gZ (bA [(bA []),(bA [(a5 v)])]) ρ=okL ((A.map λc=>(([],[c]):ix)).map hZ):=by
 rw[Zi];exact kD A intD _ hi (V5 hA (by decide)) λb _=>⟨_,rfl,_,sT rfl (bK (cK (QR hv)) rfl),rfl⟩
def pX{c:Vw}(hc:DC.contains c=true){A B:List Nat}(hA:A.length<=100)(hB:B.length<=100):j7 (.obj c [] []) [.lst (A.map intD),.lst (B.map intD)]=some (.obj c [planS] [.lst (((A.map λc=>(([c],[]):ix))++B.map λc=>(([],[c]):ix)).map hZ)]):=by
 refine jX rfl (l8 (mD (s1:=.own (.lst (((A.map λc=>(([c],[]):ix))++B.map λc=>(([],[c]):ix)).map hZ))) (a6 (JG hA (jE rfl rfl) (by show 3<4;decide)) (EI hB (jE rfl rfl) (by show 3<4;decide)) ?_) (j8 hc _)) rfl)
 show c9 (.lst _) (.lst _)=_;rw[qp (by rw[QG,QG,QG,QG];omega),VB]
def kv{c:Vw}(hc:DC.contains c=true){A:List Nat}:gK (.obj c [] []) [.lst (A.map intD)]=some (.obj c [planS] [.lst ([((A,[]):ix)].map hZ)]):=
 jX rfl (l8 (mD (bK (sT (bK rfl rfl) rfl) rfl) (j8 hc _)) rfl)
theorem insD_mem{k m:Int}:∀{l:List Int},m∈jF k l->m=k\/m∈l
 |[],h=>by simp[jF] at h;exact .inl h
 |x::r,h=>by
  unfold jF at h;split at h
  ·rcases V1.mp h with h|h
   ·exact .inl h
   ·exact .inr h
  ·split at h
   ·exact .inr h
   ·rcases V1.mp h with h|h
    ·exact .inr (by rw[h];exact VF)
    ·rcases insD_mem h with h|h
     ·exact .inl h
     ·exact .inr (V0 _ h)
theorem sortD_mem{m:Int}:∀{l:List Int},m∈gj l->m∈l
 |[],h=>h
 |x::r,h=>by
  rcases insD_mem (show m∈jF x (gj r) from h) with h|h
  ·rw[h];exact VF
  ·exact V0 _ (sortD_mem h)
def zP{bs:List Bx}(hb:cM bs){x y:Nat}(hx:x<bs.length)(hy:y<bs.length):qi (.lst ((ah bs x).map intD++(ah bs y).map intD))=okL ((AW bs x y).map intD):=by
 have e:(ah bs x).map intD++(ah bs y).map intD=((ah bs x++ah bs y).map λn:Nat=>(n:Int)).map D.int:=by
  rw[<-VB,Zi];rfl
 rw[e];show(intsOf _).bind _=_;rw[x5];show(if fewD _=true then _ else none)=_;have few:fewD ((ah bs x++ah bs y).map λn:Nat=>(n:Int))=true:=by
  unfold fewD;rw[VJ];constructor
  ·have h1:=cg hb hx;have h2:=cg hb hy;rw[ZE,QG,QE,c7,c7];omega
  ·rw[YC];intro n hn;obtain⟨c,hc,rfl⟩:=V6.mp hn;have ht:=CM hb;have:c<CN bs:=by
    rcases VQ.mp hc with h|h
    ·exact xC hx h
    ·exact xC hy h
   simp;omega
 rw[QH few];unfold AW;rw[Zi];refine Wh okL (Zs λn hn=>?_);obtain⟨c,hc,rfl⟩:=V6.mp (sortD_mem hn);rfl
def zl{bs:List Bx}(hb:cM bs){dd:Deed}(ok:dd.Ok bs):kZ [aZ bs,dd.d]=some (.ok (.own (iX bs dd))):=by
 cases dd with
 |still n=>
  have hn:n<=9:=ok.2;refine ao rfl (a3 (ak (a6 rfl rfl bF)) (b5 (cp (a6 rfl rfl (fN rfl)) (ay (Hw (a6 rfl rfl bg) (jX rfl (l8 (mD (Kt (ds:=[hZ ([],[])]) (k:=(n:Int)) rfl rfl ⟨by omega,by omega,?_⟩) (j8 rfl _)) ?_)))))))
  ·rw[VH,VC];exact V5 (by omega:1 * n<=9) (by decide)
  ·show some (O.obj "Still" [planS] [.lst (replicate (n:Int).toNat [hZ ([],[])]).flatten])=some (O.obj "Still" [planS] [.lst ((replicate n (([],[]):ix)).map hZ)]);rw[VH,List.map_replicate];congr 5
   induction n with
   |zero=>rfl
   |succ n ih=>rw[Wg,Wg,VT];exact Wh _ (by
     clear ih ok hn
     induction n with
     |zero=>rfl
     |succ n ih=>rw[Wg,Wg,VT,ih];rfl)
 |non x=>
  exact ao rfl (a3 (ak (a6 rfl rfl bF)) (a3 (aq (a6 rfl rfl (aL (by decide))) rfl) (b5 (cp (a6 rfl rfl (fN rfl)) (ay (KR (jX rfl (l8 (mD rfl (kv (A:=[]) rfl)) rfl))))))))
 |put x ns=>
  have hx:x<bs.length:=ok.1;have hc:=bJ hb hx;have h2:=xA hb hx;exact ao rfl (a3 (ak (a6 rfl rfl bF)) (a3 (aq (a6 rfl rfl (aL (by decide))) rfl) (a3 (aq (a6 rfl rfl (aL (by decide))) rfl) (a3 (ak (bB rfl (a6 rfl rfl bg) hc)) (b5 (cp (a6 rfl rfl (fN rfl)) (bw (ay (wJ rfl (a6 rfl rfl dD)
   (jX rfl (l8 (mD (EI (by omega) (jE rfl rfl) (by show 3<4;decide)) (j8 rfl _)) (l8 (oR (bK rfl rfl) rfl rfl (by decide)) rfl))))))))))))
 |grow x n=>
  have hx:x<bs.length:=ok.1;have hc:=bJ hb hx;have h2:=xA hb hx;have hl:bU (.lst ((ah bs x).map intD))=okI (szB bs x:Nat):=by rw[my,QG,c7]
  exact ao rfl (a3 (ak (a6 rfl rfl bF)) (a3 (aq (a6 rfl rfl (aL (by decide))) rfl) (a3 (aq (a6 rfl rfl (aL (by decide))) rfl) (a3 (ak (bB rfl (a6 rfl rfl bg) hc)) (a3 (aq (a6 rfl rfl (aL (by decide))) rfl) (b5 (cp (a6 rfl rfl (fN rfl)) (bw (ay (wJ rfl (a6 rfl rfl dD)
   (jX rfl (l8 (HK rfl rfl (pX rfl (by omega) (by omega))) (l8 (oR (eQ rfl hl) rfl rfl (by decide)) (l8 (oR rfl rfl rfl (by decide)) rfl))))))))))))))
 |tick x=>
  have hx:x<bs.length:=ok.1;have hc:=bJ hb hx;have h1:dIx (.lst ((ah bs x).map intD)) (.int 0)=okI (fstB bs x:Nat):=c8 (n:=0) (by rw[Vy,EL hb hx];rfl)
  exact ao rfl (a3 (ak (a6 rfl rfl bF)) (a3 (aq (a6 rfl rfl (aL (by decide))) rfl) (a3 (aq (a6 rfl rfl (aL (by decide))) rfl) (a3 (ak (bB rfl (a6 rfl rfl bg) hc)) (a3 (aq (a6 rfl rfl (aL (by decide))) rfl) (a3 (aq (a6 rfl rfl (aL (by decide))) rfl) (b5 (cp (a6 rfl rfl (fN rfl)) (bw (ay (Hw (a6 rfl rfl h1)
   (jX rfl (l8 (mD (bK (sT (bK rfl rfl) (bK rfl rfl)) rfl) (j8 rfl _)) rfl)))))))))))))
 |copy x y=>
  have hx:x<bs.length:=ok.1;have hy:y<bs.length:=ok.2.1;have hxy:szB bs y=szB bs x:=ok.2.2.2;have hc:=bJ hb hx;have hd:=bJ hb hy;have h12:=cg hb hx;have hl:bU (.lst ((ah bs x).map intD))=okI (szB bs x:Nat):=by rw[my,QG,c7]
  have hcomp:cU [3] (bP (aI (f1 bU) [(dR 1)])) (ba 3) gZ (bA [(bA [(a9 dIx (a5 2) (a5 3))]),(bA [(a9 dIx (a5 1) (a5 3))])]) [none,some (.sh (.lst ((ah bs x).map intD))),some (.sh (.lst ((ah bs y).map intD))),none]=okL (((List.range (szB bs x)).map λk=>(([fstB bs y+k],[fstB bs x+k]):ix)).map hZ):=by
   rw[Zi];refine kD (List.range (szB bs x)) intD _ (by rw[<-Bc];exact cq (eQ rfl hl) (bI (by omega))) (by rw[V2];exact V5 (by omega:szB bs x<=2) (by decide)) λk hk=>⟨_,rfl,_,sT (bK (a6 rfl rfl (wY (by have:=QX.mp hk;omega))) rfl) (bK (a6 rfl rfl (wY (QX.mp hk))) rfl),rfl⟩
  exact ao rfl (a3 (ak (a6 rfl rfl bF)) (a3 (aq (a6 rfl rfl (aL (by decide))) rfl) (a3 (aq (a6 rfl rfl (aL (by decide))) rfl) (a3 (ak (bB rfl (a6 rfl rfl bg) hc)) (a3 (aq (a6 rfl rfl (aL (by decide))) rfl) (a3 (aq (a6 rfl rfl (aL (by decide))) rfl) (a3 (aq (a6 rfl rfl (aL (by decide))) rfl) (a3 (ak (bB rfl (a6 rfl rfl dD) hd)) (b5 (cp (a6 rfl rfl (fN rfl)) (bw (bw (ay (wJ rfl rfl
   (jX rfl (l8 (mD hcomp (j8 rfl _)) rfl))))))))))))))))
 |anew x y t=>
  obtain⟨hx,hy,ht,nxy,nxt,nyt,hxy,ht1⟩:=ok;have hc:=bJ hb hx;have hd:=bJ hb hy;have he:=bJ hb ht;have h2:=xA hb hx;have h3:=xA hb hy;have h1:dIx (.lst ((ah bs t).map intD)) (.int 0)=okI (fstB bs t:Nat):=c8 (n:=0) (by rw[Vy,EL hb ht];rfl)
  have hl:bU (.lst ((ah bs y).map intD))=okI (szB bs y:Nat):=by rw[my,QG,c7]
  have e1:c9 (.lst [.int (fstB bs t:Nat)]) (.lst ((ah bs y).map intD))=okL (([fstB bs t]++ah bs y).map intD):=by
   rw[qp (by rw[QG,VC];omega),VB];rfl
  have e2:c9 (.lst (([fstB bs t]++ah bs y).map intD)) (.lst [.int (fstB bs t:Nat)])=okL (([fstB bs t]++ah bs y++[fstB bs t]).map intD):=by
   rw[qp (by rw[QG,QE,VC,VC];omega),VB (l₁:=[fstB bs t]++ah bs y)];rfl
  exact ao rfl (a3 (ak (a6 rfl rfl bF)) (a3 (aq (a6 rfl rfl (aL (by decide))) rfl) (a3 (aq (a6 rfl rfl (aL (by decide))) rfl) (a3 (ak (bB rfl (a6 rfl rfl bg) hc)) (a3 (aq (a6 rfl rfl (aL (by decide))) rfl) (a3 (aq (a6 rfl rfl (aL (by decide))) rfl) (a3 (aq (a6 rfl rfl (aL (by decide))) rfl) (a3 (ak (bB rfl (a6 rfl rfl dD) hd)) (a3 (aq (a6 rfl rfl (aL (by decide))) rfl) (b5 (cp (a6 rfl rfl (fN rfl)) (bw (bw (ay (KQ rfl rfl (a6 (bB rfl (a6 rfl rfl E5) he) rfl h1)
   (jX rfl (l8 (HK (a6 (a6 (bK rfl rfl) rfl e1) (bK rfl rfl) e2) rfl (pX rfl (by rw[QE,QE,VC];omega) (by omega))) (l8 (oR (a6 (eQ rfl hl) rfl rfl) rfl rfl (by decide)) rfl))))))))))))))))))
 |iz x y n=>
  obtain⟨hx,hy,hxy,_⟩:=ok;have hc:=bJ hb hx;have hd:=bJ hb hy;have h2:=xA hb hx;have h3:=xA hb hy;exact ao rfl (a3 (ak (a6 rfl rfl bF)) (a3 (aq (a6 rfl rfl (aL (by decide))) rfl) (a3 (aq (a6 rfl rfl (aL (by decide))) rfl) (a3 (ak (bB rfl (a6 rfl rfl bg) hc)) (a3 (aq (a6 rfl rfl (aL (by decide))) rfl) (a3 (aq (a6 rfl rfl (aL (by decide))) rfl) (a3 (aq (a6 rfl rfl (aL (by decide))) rfl) (a3 (ak (bB rfl (a6 rfl rfl dD) hd)) (a3 (aq (a6 rfl rfl (aL (by decide))) rfl) (a3 (aq (a6 rfl rfl (aL (by decide))) rfl) (bw (bw (ay (wJ rfl rfl
   (jX rfl (l8 (mD (oC (a6 rfl rfl (qp (by rw[QG,QG];omega))) (zP hb hx hy)) (kv rfl)) rfl))))))))))))))))
 |most x y n=>
  obtain⟨hx,hy,hxy,_⟩:=ok;have hc:=bJ hb hx;have hd:=bJ hb hy;have h2:=xA hb hx;have h3:=xA hb hy;exact ao rfl (a3 (ak (a6 rfl rfl bF)) (a3 (aq (a6 rfl rfl (aL (by decide))) rfl) (a3 (aq (a6 rfl rfl (aL (by decide))) rfl) (a3 (ak (bB rfl (a6 rfl rfl bg) hc)) (a3 (aq (a6 rfl rfl (aL (by decide))) rfl) (a3 (aq (a6 rfl rfl (aL (by decide))) rfl) (a3 (aq (a6 rfl rfl (aL (by decide))) rfl) (a3 (ak (bB rfl (a6 rfl rfl dD) hd)) (a3 (aq (a6 rfl rfl (aL (by decide))) rfl) (a3 (aq (a6 rfl rfl (aL (by decide))) rfl) (bw (bw (ay (wJ rfl rfl
   (jX rfl (l8 (mD (oC (a6 rfl rfl (qp (by rw[QG,QG];omega))) (zP hb hx hy)) (kv rfl)) rfl))))))))))))))))
def Jy(f:Str)(ns:List Str)(d:D)(ds:List D):uR f (f::ns) (d::ds)=some d:=by
 unfold uR;rw[QH (by simp)]
def FH{c:Vw}(hc:DC.contains c=true){ns:List Str}{pl:List ix}{ds:List D}{k:Nat}{p:ix}(h:pl[k]?=some p):eY [.obj c (planS::ns) (.lst (pl.map hZ)::ds),.int k]=okL (p.1.map intD):=
 ao rfl (ay (bK (a6 (a6 (Et rfl rfl hc (Jy planS ns _ ds)) rfl (c8 (by rw[Vy,h];rfl))) rfl bF) rfl))
def Cw{c:Vw}(hc:DC.contains c=true){ns:List Str}{pl:List ix}{ds:List D}{k:Nat}{p:ix}(h:pl[k]?=some p):dQ [.obj c (planS::ns) (.lst (pl.map hZ)::ds),.int k]=okL (p.2.map intD):=
 ao rfl (ay (bK (a6 (a6 (Et rfl rfl hc (Jy planS ns _ ds)) rfl (c8 (by rw[Vy,h];rfl))) rfl bg) rfl))
def F8{c:Vw}(hc:DC.contains c=true){ns:List Str}{pl:List ix}{ds:List D}:eV [.obj c (planS::ns) (.lst (pl.map hZ)::ds)]=okI (pl.length:Nat):=
 ao rfl (ay (eQ (Et rfl rfl hc (Jy planS ns _ ds)) (by show okI ((pl.map hZ).length:Int)=_;rw[QG])))
def xX{c:Vw}(hc:DC.contains c=true):iM c=some eY:=by unfold iM Hc;rw[QH hc]
def vm{c:Vw}(hc:DC.contains c=true):gH c=some dQ:=by unfold gH Hc;rw[QH hc]
def xW{c:Vw}(hc:DC.contains c=true):lR c=some eV:=by unfold lR Hc;rw[QH hc]
theorem wa{bs:List Bx}:∀{dd:Deed},(bp bs dd).length=match dd with|.put x _=>szB bs x|.copy x _=>szB bs x|.grow x _=>2 * szB bs x|.tick _=>1|.still n=>n|.iz _ _ _=>1|.most _ _ _=>1|.non _=>1|.anew x y _=>szB bs y+2+szB bs x
 |.put x _=>by show((ah bs x).map _).length=_;rw[QG,c7]
 |.copy x _=>by show((List.range (szB bs x)).map _).length=_;rw[QG,V2]
 |.grow x _=>by show(((ah bs x).map _)++_).length=_;rw[QE,QG,QG,c7];show _=2 * szB bs x;omega
 |.tick _=>rfl
 |.still n=>by show(replicate n _).length=_;rw[Zp]
 |.iz _ _ _=>rfl
 |.most _ _ _=>rfl
 |.non _=>rfl
 |.anew x y t=>by show((([fstB bs t]++ah bs y++[fstB bs t]).map _)++(ah bs x).map _).length=_;rw[QE,QG,QG,QE,QE,c7,c7];show _=szB bs y+2+szB bs x;simp;omega
def dF(bs:List Bx)(x:Nat)(rd:Bool)(p:ix):Bool:=(p.2++if rd=true then p.1 else[]).any λc=>(ah bs x).contains c
theorem Ag(c:Nat):∀l:List Nat,F0 (.int (c:Int)) (l.map intD)=l.contains c
 |[]=>rfl
 |z::l=>by
  have ih:=Ag c l;unfold F0 at ih ⊢;rw[Wm,Ze,ih,Yl];congr 1;show((z:Int) == (c:Int))=(c == z);rw[VI,QP,QP];omega
def BU(l:List Nat):(l.map intD).all flat=true:=by rw[List.all_map,YC];exact λ_ _=>rfl
def KZ{c:Nat}{l:List Nat}:GN false (.int (c:Int)) (.lst (l.map intD))=okB (l.contains c):=by
 show(if flat (.int (c:Int))=true/\(l.map intD).all flat=true then okB (if false then !F0 (.int c) (l.map intD) else F0 (.int c) (l.map intD)) else none)=_;rw[QH ⟨rfl,BU l⟩,QI (by decide),Ag]
theorem sH{α:Type}(f:α->Bool):∀l:List α,blsOf (l.map λc=>D.bl (f c))=some (l.map f)
 |[]=>rfl
 |a::l=>by
  show(blsOf (l.map λc=>D.bl (f c))).map (f a::·)=_;rw[sH f l];rfl
def JV{α:Type}(f:α->Bool)(l:List α):EH (.lst (l.map λc=>D.bl (f c)))=okB (l.any f):=by
 show(blsOf _).bind _=_;rw[sH];show okB ((l.map f).any id)=_;rw[Xg];rfl
def Gb(dd:Deed):(planS::oq dd).contains (Str.ofString "reads")=false/\(planS::oq dd).contains (Str.ofString "writes")=false/\(planS::oq dd).contains (Str.ofString "turns")=false:=by cases dd <;> exact⟨rfl,rfl,rfl⟩
def yg{bs:List Bx}(hb:cM bs){dd:Deed}(ok:dd.Ok bs):(bp bs dd).length<=9:=by
 rw[wa];cases dd with
 |grow x n=>have:=cg hb ok.1;dsimp only;omega
 |anew x y t=>have:=cg hb ok.1;have:=ok.2.2.2.2.2.2.1;dsimp only;omega
 |put x ns=>have:=cg hb ok.1;dsimp only;omega
 |copy x y=>have:=cg hb ok.1;dsimp only;omega
 |tick x=>exact(by decide:1<=9)
 |still n=>exact ok.2
 |non x=>exact(by decide:1<=9)
 |iz x y n=>exact(by decide:1<=9)
 |most x y n=>exact(by decide:1<=9)
def zM{bs:List Bx}(hb:cM bs){x y:Nat}(hx:x<bs.length)(hy:y<bs.length):(AW bs x y).length<=4:=by
 have ins:∀(k:Int)(l:List Int),(jF k l).length<=l.length+1:=λk l=>by
  induction l with
  |nil=>exact QO _
  |cons a l ih=>
   unfold jF;split
   ·exact QO _
   ·split
    ·exact le_succ _
    ·rw[QS,QS];omega
 have srtl:∀l:List Int,(gj l).length<=l.length:=λl=>by
  induction l with
  |nil=>exact QO _
  |cons a l ih=>have:=ins a (gj l);show(jF a (gj l)).length<=_;rw[QS];omega
 have h:=srtl ((ah bs x++ah bs y).map λn:Nat=>(n:Int));rw[QG,QE,c7,c7] at h;have h1:=cg hb hx;have h2:=cg hb hy;unfold AW;rw[QG];omega
def xZ{bs:List Bx}(hb:cM bs){dd:Deed}(ok:dd.Ok bs):∀p∈bp bs dd,p.1.length<=4/\p.2.length<=4:=by
 intro p hp;cases dd with
 |put x ns=>obtain⟨c,_,rfl⟩:=V6.mp hp;exact⟨VA _,(by decide:1<=4)⟩
 |copy x y=>obtain⟨c,_,rfl⟩:=V6.mp hp;exact⟨(by decide:1<=4),(by decide:1<=4)⟩
 |grow x n=>
  rcases VQ.mp hp with hp|hp
  ·obtain⟨c,_,rfl⟩:=V6.mp hp;exact⟨(by decide:1<=4),VA _⟩
  ·obtain⟨c,_,rfl⟩:=V6.mp hp;exact⟨VA _,(by decide:1<=4)⟩
 |tick x=>rw[V3.mp hp];exact⟨(by decide:1<=4),(by decide:1<=4)⟩
 |still n=>rw[WX hp];exact⟨VA _,VA _⟩
 |iz x y n=>rw[V3.mp hp];exact⟨zM hb ok.1 ok.2.1,VA _⟩
 |most x y n=>rw[V3.mp hp];exact⟨zM hb ok.1 ok.2.1,VA _⟩
 |non x=>rw[V3.mp hp];exact⟨VA _,VA _⟩
 |anew x y t=>
  rcases VQ.mp hp with hp|hp
  ·obtain⟨c,_,rfl⟩:=V6.mp hp;exact⟨(by decide:1<=4),VA _⟩
  ·obtain⟨c,_,rfl⟩:=V6.mp hp;exact⟨VA _,(by decide:1<=4)⟩
def gM(bs:List Bx)(dd:Deed)(x:Nat)(rd:Bool)(k:Nat):List Nat:=(List.range k).filter λj=>((bp bs dd)[j]?).any (dF bs x rd)
def HR{bs:List Bx}{dd:Deed}{x:Nat}{rd:Bool}{k:Nat}{p:ix}(e:(bp bs dd)[k]?=some p)(h:dF bs x rd p=true):gM bs dd x rd (k+1)=gM bs dd x rd k++[k]:=by
 unfold gM;rw[Ww,W6,Zl (by rw[e];exact h),Yw]
def HS{bs:List Bx}{dd:Deed}{x:Nat}{rd:Bool}{k:Nat}{p:ix}(e:(bp bs dd)[k]?=some p)(h:dF bs x rd p=false):gM bs dd x rd (k+1)=gM bs dd x rd k:=by
 unfold gM;rw[Ww,W6,Zm (by rw[e];show ¬dF bs x rd p=true;rw[h];exact QC),Yw,Vz]
def k8{bs:List Bx}(hb:cM bs){dd:Deed}(ok:dd.Ok bs){x:Nat}(hx:x<bs.length)(rd:Bool):dh [aZ bs,dd.d,.int x,.bl rd]=okD (.lst ((gM bs dd x rd (bp bs dd).length).map intD)):=by
 have hdo:=zl hb ok;have hc:=bJ hb hx;obtain⟨o1,o2,o3⟩:=Gb dd;have h9:=yg hb ok;have hsm:=xZ hb ok;have step:∀(k:Nat)(ρ:aJ),k<(bp bs dd).length->(∃(ts:List Nat)(e4 e5:S)(e7 e8:Option S),ts=gM bs dd x rd k/\ts.length<=k/\e4.val=(iX bs dd).val/\(e5=.own (.lst ((ah bs x).map intD))\/e5=.sh (.lst ((ah bs x).map intD)))/\e4=.sh (iX bs dd).val/\ρ=[some (.sh (aZ bs)),some (.sh dd.d),some (.sh (.int x)),some (.sh (.bl rd)),some e4,some e5,some (.own (.lst (ts.map intD))),e7,e8,none])->
   ∃ρ1 ρ2,ba 7 (.int k) ρ=some ρ1/\jR ρ1=some (.next ρ2)/\(∃(ts:List Nat)(e4 e5:S)(e7 e8:Option S),ts=gM bs dd x rd (k+1)/\ts.length<=k+1/\e4.val=(iX bs dd).val/\(e5=.own (.lst ((ah bs x).map intD))\/e5=.sh (.lst ((ah bs x).map intD)))/\e4=.sh (iX bs dd).val/\ρ2=[some (.sh (aZ bs)),some (.sh dd.d),some (.sh (.int x)),some (.sh (.bl rd)),some e4,some e5,some (.own (.lst (ts.map intD))),e7,e8,none]):=by
  rintro k ρ hk ⟨ts,e4,e5,e7,e8,h1,h2,_,h5,rfl,rfl⟩
  have hpk:(bp bs dd)[k]?=some (bp bs dd)[k]:=QB hk;obtain⟨s1,s2⟩:=hsm _ (VM hk);generalize (bp bs dd)[k]=p at hpk s1 s2;have hr:∀ρ:aJ,ρ[4]?=some (some (.sh (iX bs dd).val))->ρ[7]?=some (some (.sh (.int k)))->jb (Str.ofString "reads") iM (a5 4) [(a5 7)] ρ=okL (p.1.map intD):=λρ h4 h7=>Hv (cK h4) rfl o1 (xX (nc dd)) (cK h7) (FH (nc dd) hpk);have hw:∀ρ:aJ,ρ[4]?=some (some (.sh (iX bs dd).val))->ρ[7]?=some (some (.sh (.int k)))->jb (Str.ofString "writes") gH (a5 4) [(a5 7)] ρ=okL (p.2.map intD):=λρ h4 h7=>Hv (cK h4) rfl o2 (vm (nc dd)) (cK h7) (Cw (nc dd) hpk);have hth:∀ρ:aJ,ρ[4]?=some (some (.sh (iX bs dd).val))->ρ[7]?=some (some (.sh (.int k)))->ρ[3]?=some (some (.sh (.bl rd)))->a9 c9 (jb (Str.ofString "writes") gH (a5 4) [(a5 7)]) (F2 (a5 3) (jb (Str.ofString "reads") iM (a5 4) [(a5 7)]) (cC [])) ρ=okL ((p.2++if rd=true then p.1 else[]).map intD):=λρ h4 h7 h3=>by
   cases rd with
   |true=>exact a6 (hw ρ h4 h7) (Aj (cK h3) (hr ρ h4 h7)) (by rw[QH rfl,VB];exact qp (by rw[QG,QG];omega))
   |false=>exact a6 (t:=.own (.lst [])) (hw ρ h4 h7) (Ak (cK h3) rfl) (by show c9 (.lst (p.2.map intD)) (.lst [])=_;rw[qp (by rw[QG];show p.2.length+0<=_;omega),QI (by decide),Vz,Vz])
  have hll:(p.2++if rd=true then p.1 else[]).length<=8:=by
   rw[QE];cases rd with
   |true=>show p.2.length+p.1.length<=8;omega
   |false=>show p.2.length+0<=8;omega
  have hany:∀ρ:aJ,ρ[8]?=some (some (.sh (.lst ((p.2++if rd=true then p.1 else[]).map intD))))->(cW [9] ρ)[5]?=some (some (.sh (.lst ((ah bs x).map intD))))->9<(cW [9] ρ).length->ai (f1 EH) [cU [9] (l9 (a5 8)) (ba 9) gZ (a9 (GN false) (a5 9) (a5 5))] ρ=okB (dF bs x rd p):=λρ h8 h5 h9=>
   bK (kD (p.2++if rd=true then p.1 else[]) intD (λc=>.bl ((ah bs x).contains c)) (jE (cK h8) rfl) (V5 hll (by decide)) λc _=>⟨_,rfl,.sh (.bl ((ah bs x).contains c)),a6 (cK (QR h9)) (cK (by rw[QQ (by decide)];exact h5)) KZ,rfl⟩) (JV _ _)
  have fin:∀ρ:aJ,ρ=[some (.sh (aZ bs)),some (.sh dd.d),some (.sh (.int x)),some (.sh (.bl rd)),some (.sh (iX bs dd).val),some (.sh (.lst ((ah bs x).map intD))),some (.own (.lst (ts.map intD))),some (.sh (.int k)),some (.sh (.lst ((p.2++if rd=true then p.1 else[]).map intD))),none]->
    ∃ts':List Nat,(gI (ai (f1 EH) [cU [9] (l9 (a5 8)) (ba 9) gZ (a9 (GN false) (a5 9) (a5 5))]) (cO 6 (a5 7)) bx) ρ=some (.next (ρ.set 6 (some (.own (.lst (ts'.map intD))))))/\ts'=gM bs dd x rd (k+1)/\ts'.length<=k+1:=by
   rintro ρ rfl
   have ha:=hany [some (.sh (aZ bs)),some (.sh dd.d),some (.sh (.int x)),some (.sh (.bl rd)),some (.sh (iX bs dd).val),some (.sh (.lst ((ah bs x).map intD))),some (.own (.lst (ts.map intD))),some (.sh (.int k)),some (.sh (.lst ((p.2++if rd=true then p.1 else[]).map intD))),none] rfl rfl (by show 9<10;decide)
   cases hh:dF bs x rd p with
   |true=>
    rw[hh] at ha;refine⟨ts++[k],cp ha ?_,by rw[HR hpk hh,h1],by rw[QE,VC];omega⟩
    rw[f6 (ds:=ts.map intD) (s:=.sh (.int k)) rfl rfl (by rw[QG];exact Za (by omega:ts.length<=9) (by decide)),VB (l₁:=ts)]
    rfl
   |false=>
    rw[hh] at ha;exact⟨ts,aq ha rfl,by rw[HS hpk hh,h1],by omega⟩
  obtain⟨ts',ef,f1,f2⟩:=fin _ rfl;refine⟨_,_,rfl,bw (a3 (ak (hth _ rfl rfl rfl)) (bw (bw ?_))),ts',.sh (iX bs dd).val,.sh (.lst ((ah bs x).map intD)),some (.sh (.int k)),some (.sh (.lst ((p.2++if rd=true then p.1 else[]).map intD))),f1,f2,rfl,.inr rfl,rfl,rfl⟩;rcases h5 with rfl|rfl <;> exact ef
 obtain⟨ρ',e,ts,e4,e5,e7,e8,h1,h2,h4,h5,rfl,rfl⟩:=cy (bd:=ba 7) (body:=jR) (ρ:=[some (.sh (aZ bs)),some (.sh dd.d),some (.sh (.int x)),some (.sh (.bl rd)),some (.sh (iX bs dd).val),some (.own (.lst ((ah bs x).map intD))),some (.own (.lst [])),none,none,none]) _ (bp bs dd).length ⟨[],.sh (iX bs dd).val,.own (.lst ((ah bs x).map intD)),none,none,rfl,QO _,rfl,.inl rfl,rfl,rfl⟩ step;rw[<-h1];exact ao rfl (a3 (ak (bB rfl rfl hdo)) (a3 (ak (bB rfl rfl hc)) (a3 (ak rfl) (bw (a3 (fh (cq (KP rfl rfl o3 (xW (nc dd)) (F8 (nc dd))) (bI (by omega))) e) (bw (ay rfl)))))))
section
variable{bs:List Bx}{x:Nat}
def BB{c:Nat}:c∈ah bs x↔fstB bs x<=c/\c<fstB bs x+szB bs x:=by
 unfold ah;constructor
 ·intro h;obtain⟨k,hk,rfl⟩:=V6.mp h;have:=QX.mp hk;omega
 ·rintro ⟨h1,h2⟩
  exact V6.mpr ⟨c - fstB bs x,QX.mpr (by omega),by omega⟩
def cx{z k:Nat}(hk:k<szB bs z):(ah bs x).contains (fstB bs z+k)=decide (z=x):=by
 rw[VI,Zq,ZE,BB];constructor
 ·rintro ⟨h1,h2⟩
  rcases ZO z x with h|h|h
  ·have:=zg (bs:=bs) h;omega
  ·exact h
  ·have:=zg (bs:=bs) h;omega
 ·rintro rfl
  omega
def mQ{n:Nat}{f:Nat->Bool}{b:Bool}(h0:0<n)(h:∀k,k<n->f k=b):(List.range n).any f=b:=by
 cases b with
 |true=>exact YE.mpr ⟨0,QX.mpr h0,h 0 h0⟩
 |false=>exact ZK.mpr λk hk=>by rw[h k (QX.mp hk)];exact QC
def dC{z:Nat}(h:0<szB bs z):((ah bs z).any λc=>(ah bs x).contains c)=decide (z=x):=by
 show(((List.range (szB bs z)).map λk=>fstB bs z+k).any λc=>(ah bs x).contains c)=_;rw[Xg];exact mQ h λk hk=>cx hk
def Am(c:Nat)(rd:Bool):dF bs x rd ([],[c])=(ah bs x).contains c:=by cases rd <;> simp[dF]
def Ee(c:Nat):dF bs x true ([c],[])=(ah bs x).contains c:=by simp[dF]
def zc(l:List Nat):dF bs x false (l,[])=false:=by simp[dF]
def HC(l:List Nat):dF bs x true (l,[])=l.any λc=>(ah bs x).contains c:=by simp[dF]
def z9(a b:Nat):dF bs x true ([a],[b])=((ah bs x).contains b || (ah bs x).contains a):=by simp[dF]
def An(a b:Nat):dF bs x false ([a],[b])=(ah bs x).contains b:=by simp[dF]
def x9(rd:Bool):dF bs x rd ([],[])=false:=by cases rd <;> simp[dF]
def sP(l:List Nat)(rd:Bool):(l.map λc=>(([],[c]):ix)).any (dF bs x rd)=l.any λc=>(ah bs x).contains c:=by
 rw[Xg];congr 1;funext c;exact Am c rd
def HL(l:List Nat):(l.map λc=>(([c],[]):ix)).any (dF bs x true)=l.any λc=>(ah bs x).contains c:=by
 rw[Xg];congr 1;funext c;exact Ee c
def EU(l:List Nat):(l.map λc=>(([c],[]):ix)).any (dF bs x false)=false:=by
 rw[Xg];exact ZK.mpr λc _=>by rw[Function.comp_apply,zc];exact QC
theorem kX{k m:Int}:∀{l:List Int},m=k\/m∈l->m∈jF k l
 |[],h=>by
  rcases h with rfl|h
  ·exact V3.mpr rfl
  ·exact nomatch h
 |a::r,h=>by
  unfold jF;split
  ·rcases h with rfl|h
   ·exact VF
   ·exact V0 _ h
  ·split
   ·rename_i e;rcases h with rfl|h
    ·rw[e];exact VF
    ·exact h
   ·rcases h with h|h
    ·exact V0 _ (kX (.inl h))
    ·rcases V1.mp h with h|h
     ·rw[h];exact VF
     ·exact V0 _ (kX (.inr h))
theorem oO{m:Int}:∀{l:List Int},m∈l->m∈gj l
 |a::r,h=>by
  show m∈jF a (gj r);rcases V1.mp h with h|h
  ·exact kX (.inl h)
  ·exact kX (.inr (oO h))
def Aa{z y c:Nat}:c∈AW bs z y↔c∈ah bs z\/c∈ah bs y:=by
 unfold AW;rw[<-VQ];constructor
 ·intro h;obtain⟨i,hi,rfl⟩:=V6.mp h;obtain⟨n,hn,rfl⟩:=V6.mp (sortD_mem hi);exact hn
 ·intro h;exact V6.mpr ⟨(c:Int),oO (V6.mpr ⟨c,h,rfl⟩),VH c⟩
def AG{z y:Nat}(hz:0<szB bs z)(hy:0<szB bs y):((AW bs z y).any λc=>(ah bs x).contains c)=(decide (z=x) || decide (y=x)):=by
 rw[<-dC hz,<-dC hy,<-ZT,VI,YE,YE];constructor
 ·rintro ⟨c,hc,h⟩;exact⟨c,VQ.mpr (Aa.mp hc),h⟩
 ·rintro ⟨c,hc,h⟩;exact⟨c,Aa.mpr (VQ.mp hc),h⟩
end
abbrev T3:=Nat×Nat×Nat
def tD(a:T3):D:=.tup [.int a.1,.int a.2.1,.int a.2.2]
def spX(bs:List Bx)(dd:Deed)(x:Nat):Option T3:=match dd with
 |.put z _=>if x=z/\szB bs z=2 then some (x,0,1) else none
 |.copy z y=>if(x=z\/x=y)/\szB bs z=2 then some (x,0,1) else none
 |.grow z _=>if x=z then some (x,0,2 * szB bs z - 1) else none
 |.anew z _ _=>if x=z/\szB bs z=2 then some (x,4,5) else none
 |_=>none
def fmN(g:Nat->Option T3)(n:Nat):List T3:=(List.range n).filterMap g
def jG(g:Nat->Option T3)(n:Nat):fmN g (n+1)=fmN g n++(g n).toList:=by
 unfold fmN;rw[Ww,List.filterMap_append];cases h:g n <;> simp[h]
theorem qd(g:Nat->Option T3):∀n:Nat,(fmN g n).length<=n
 |0=>QO _
 |n+1=>by
  rw[jG,QE];have h1:=qd g n;have h2:(g n).toList.length<=1:=by
   cases g n
   ·exact VA _
   ·exact QO 1
  omega
theorem Jw{g:Nat->Option T3}(h:∀x,g x=none):∀n:Nat,fmN g n=[]
 |0=>rfl
 |n+1=>by rw[jG,Jw h n,h];rfl
theorem Lw{g:Nat->Option T3}{z:Nat}(h:∀x,x≠z->g x=none):∀n:Nat,fmN g n=if z<n then(g z).toList else[]
 |0=>rfl
 |n+1=>by
  rw[jG,Lw h n];rcases ZO z n with c|c|c
  ·rw[QH c,QH (by omega),h n (by omega)];exact Vz _
  ·subst c;rw[QI (by omega),QH (by omega)];rfl
  ·rw[QI (by omega),QI (by omega),h n (by omega)];rfl
theorem Mm{g:Nat->Option T3}{z y:Nat}(hzy:z<y)(h:∀x,x≠z->x≠y->g x=none):∀n:Nat,fmN g n=if y<n then(g z).toList++(g y).toList else if z<n then(g z).toList else[]
 |0=>rfl
 |n+1=>by
  rw[jG,Mm hzy h n];rcases ZO y n with c|c|c
  ·rw[QH c,QH (by omega),h n (by omega) (by omega)];exact Vz _
  ·subst c;rw[QI (by omega),QH hzy,QH (by omega)]
  ·rw[QI (show ¬y<n by omega),QI (show ¬y<n+1 by omega)]
   rcases ZO z n with c2|c2|c2
   ·rw[QH c2,QH (by omega),h n (by omega) (by omega)];exact Vz _
   ·subst c2;rw[QI (by omega),QH (by omega)];rfl
   ·rw[QI (by omega),QI (by omega),h n (by omega) (by omega)];rfl
section
variable{bs:List Bx}{dd:Deed}{x:Nat}
def sU(k:Nat):(gM bs dd x true k).length<=k:=by
 unfold gM;refine V5 (WZ _ _) ?_;rw[V2];exact QO _
def sV{b:Bool}(h:∀p∈bp bs dd,dF bs x true p=b):gM bs dd x true (bp bs dd).length=if b=true then List.range (bp bs dd).length else[]:=by
 unfold gM;have e:∀j∈List.range (bp bs dd).length,((bp bs dd)[j]?).any (dF bs x true)=b:=λj hj=>by
  have hj:=QX.mp hj;rw[QB hj];exact h _ (VM hj)
 cases b with
 |true=>rw[QH rfl,Y5];exact e
 |false=>rw[QI QC,Yj];exact λj hj=>by rw[e j hj];exact QC
def HQ{m s:Nat}(hl:(bp bs dd).length=m+s)(h1:∀j p,j<m->(bp bs dd)[j]?=some p->dF bs x true p=false)(h2:∀j p,m<=j->(bp bs dd)[j]?=some p->dF bs x true p=true):gM bs dd x true (m+s)=(List.range s).map (m + ·):=by
 unfold gM;rw[List.range_add,W6];have a:(List.range m).filter (λj=>((bp bs dd)[j]?).any (dF bs x true))=[]:=Yj.mpr λj hj=>by
  have hj:=QX.mp hj;have hj2:j<(bp bs dd).length:=by omega
  rw[QB hj2];show ¬dF bs x true _=true;rw[h1 j _ hj (QB hj2)];exact QC
 have b:((List.range s).map (m + ·)).filter (λj=>((bp bs dd)[j]?).any (dF bs x true))=(List.range s).map (m + ·):=Y5.mpr λj hj=>by
  obtain⟨i,hi,rfl⟩:=V6.mp hj;have hi:=QX.mp hi;have hj2:m+i<(bp bs dd).length:=by omega
  rw[QB hj2];exact h2 _ _ (by omega) (QB hj2)
 rw[a,b];rfl
end
section
variable{bs:List Bx}
def n0:Deed->Bool|.anew _ _ _=>true|_=>false
def AC:Deed->Nat
 |.put z _=>z|.copy z _=>z|.grow z _=>z|.tick z=>z|.still n=>n|.iz z _ _=>z|.most z _ _=>z|.non z=>z|.anew z _ _=>z
theorem Fv(hb:cM bs){dd:Deed}(ok:dd.Ok bs)(x:Nat):
  (∃f g u,spX bs dd x=some (x,f,g)/\gM bs dd x true (bp bs dd).length=f::(u++[g])/\(n0 dd=true->x=AC dd))\/
   (spX bs dd x=none/\((gM bs dd x true (bp bs dd).length).length<=1\/(n0 dd=true/\x≠AC dd))):=by
 have pos:∀{z:Nat},z<bs.length->0<szB bs z:=λh=>by have:=cg hb h;omega
 have hl:=wa (bs:=bs) (dd:=dd);have no:∀(ts:List Nat)(c:Bool),c=false->ts=(if c=true then List.range (bp bs dd).length else[])->ts.length<=1:=λts c hc e=>by
  rw[e,hc,QI QC];exact VA _
 cases dd with
 |put z ns=>
  have h:=sV (bs:=bs) (dd:=.put z ns) (x:=x) (b:=decide (z=x)) λp hp=>by
   obtain⟨c,hc,rfl⟩:=V6.mp hp;obtain⟨k,hk,rfl⟩:=V6.mp hc;rw[Am,cx (QX.mp hk)]
  by_cases c:z=x
  ·rw[QH (QV c)] at h;rcases cg hb ok.1 with s|s
   ·refine .inr ⟨QI (by omega),.inl ?_⟩
    rw[h,hl];dsimp only;rw[s];exact QO 1
   ·refine .inl ⟨0,1,[],QH ⟨c.symm,s⟩,?_,λz=>nomatch z⟩
    rw[h,hl];dsimp only;rw[s];rfl
  ·exact .inr ⟨QI (by omega),.inl (no _ _ (QY c) h)⟩
 |copy z y=>
  have h:=sV (bs:=bs) (dd:=.copy z y) (x:=x) (b:=decide (z=x) || decide (y=x)) λp hp=>by
   obtain⟨k,hk,rfl⟩:=V6.mp hp;have hk:=QX.mp hk;rw[z9,cx hk,cx (by rw[ok.2.2.2];exact hk)]
  by_cases c:z=x\/y=x
  ·have e:(decide (z=x) || decide (y=x))=true:=by rcases c with c|c <;> simp[c]
   rw[QH e] at h;rcases cg hb ok.1 with s|s
   ·refine .inr ⟨QI (by omega),.inl ?_⟩
    rw[h,hl];dsimp only;rw[s];exact QO 1
   ·refine .inl ⟨0,1,[],QH ⟨by omega,s⟩,?_,λz=>nomatch z⟩
    rw[h,hl];dsimp only;rw[s];rfl
  ·have e:(decide (z=x) || decide (y=x))=false:=by rw[QY (λq=>c (.inl q)),QY (λq=>c (.inr q))];rfl
   exact .inr ⟨QI (by omega),.inl (no _ _ e h)⟩
 |grow z n=>
  have h:=sV (bs:=bs) (dd:=.grow z n) (x:=x) (b:=decide (z=x)) λp hp=>by
   rcases VQ.mp hp with hp|hp
   ·obtain⟨c,hc,rfl⟩:=V6.mp hp;obtain⟨k,hk,rfl⟩:=V6.mp hc;rw[Ee,cx (QX.mp hk)]
   ·obtain⟨c,hc,rfl⟩:=V6.mp hp;obtain⟨k,hk,rfl⟩:=V6.mp hc;rw[Am,cx (QX.mp hk)]
  by_cases c:z=x
  ·rw[QH (QV c)] at h;rcases cg hb ok.1 with s|s
   ·refine .inl ⟨0,2 * szB bs z - 1,[],QH c.symm,?_,λz=>nomatch z⟩
    rw[h,hl];dsimp only;rw[s];rfl
   ·refine .inl ⟨0,2 * szB bs z - 1,[1,2],QH c.symm,?_,λz=>nomatch z⟩
    rw[h,hl];dsimp only;rw[s];rfl
  ·exact .inr ⟨QI (by omega),.inl (no _ _ (QY c) h)⟩
 |tick z=>exact .inr ⟨rfl,.inl (sU _)⟩
 |still n=>
  have h:=sV (bs:=bs) (dd:=.still n) (x:=x) (b:=false) λp hp=>by rw[WX hp,x9]
  exact .inr ⟨rfl,.inl (no _ _ rfl h)⟩
 |non z=>exact .inr ⟨rfl,.inl (sU _)⟩
 |iz z y n=>exact .inr ⟨rfl,.inl (sU _)⟩
 |most z y n=>exact .inr ⟨rfl,.inl (sU _)⟩
 |anew z y t=>
  by_cases c:x=z
  ·subst c;obtain⟨o1,o2,o3,o4,o5,o6,o7,o8⟩:=ok;dsimp only at hl;have h:=HQ (bs:=bs) (dd:=.anew x y t) (x:=x) (m:=szB bs y+2) (s:=szB bs x) hl (λj p hj e=>by
     have e:(((([fstB bs t]++ah bs y++[fstB bs t]).map λc=>(([c],[]):ix))++(ah bs x).map λc=>(([],[c]):ix)))[j]?=some p:=e;have h3:([fstB bs t]++ah bs y++[fstB bs t]).length=szB bs y+2:=by simp only[QE,c7,VC];omega
     rw[VV (by rw[QG,h3];exact hj)] at e
     obtain⟨c,hc,rfl⟩:=V6.mp (ZF e);rw[Ee];have ht:(ah bs x).contains (fstB bs t)=false:=(cx (bs:=bs) (x:=x) (z:=t) (k:=0) (by omega)).trans (QY λq=>o5 q.symm)
     rcases VQ.mp hc with hc|hc
     ·rcases VQ.mp hc with hc|hc
      ·rw[V3.mp hc];exact ht
      ·obtain⟨k,hk,rfl⟩:=V6.mp hc;rw[cx (QX.mp hk)];exact QY λq=>o4 q.symm
     ·rw[V3.mp hc];exact ht) (λj p hj e=>by
     have e:(((([fstB bs t]++ah bs y++[fstB bs t]).map λc=>(([c],[]):ix))++(ah bs x).map λc=>(([],[c]):ix)))[j]?=some p:=e;have h3:([fstB bs t]++ah bs y++[fstB bs t]).length=szB bs y+2:=by simp only[QE,c7,VC];omega
     rw[VR (by rw[QG,h3];exact hj)] at e
     obtain⟨c,hc,rfl⟩:=V6.mp (ZF e);obtain⟨k,hk,rfl⟩:=V6.mp hc;rw[Am,cx (QX.mp hk)];exact QV rfl)
   rw[hl,h];rcases cg hb o1 with s|s
   ·refine .inr ⟨QI (by omega),.inl ?_⟩
    rw[QG,V2,s];exact QO 1
   ·refine .inl ⟨4,5,[],QH ⟨rfl,s⟩,?_,λ_=>rfl⟩;rw[o7,s];rfl
  ·exact .inr ⟨QI (by omega),.inr ⟨rfl,c⟩⟩
def Gw{ds:List D}{d:D}:dIx (.lst (ds++[d])) (.int (-1))=okD d:=by
 show(zA (ds++[d]) (-1)).bind okD=_;unfold zA KY;rw[QI (by decide),QH (by rw[QE,VC];omega)]
 have:((-1:Int)+((ds++[d]).length:Int)).toNat=ds.length:=by rw[QE,VC];omega
 simp only[Option.bind_some,this];rw[VR (QO _),sub_self];rfl
def DA{dd:Deed}(h:n0 dd=false):∃k ds,dd.d=.tup (.str k::ds)/\k≠Str.ofString "anew" := by
 cases dd with
 |anew _ _ _=>exact Bool.noConfusion h
 |put _ _=>exact⟨Str.ofString "put",_,rfl,by decide⟩
 |copy _ _=>exact⟨Str.ofString "copy",_,rfl,by decide⟩
 |grow _ _=>exact⟨Str.ofString "grow",_,rfl,by decide⟩
 |tick _=>exact⟨Str.ofString "tick",_,rfl,by decide⟩
 |still _=>exact⟨Str.ofString "still",_,rfl,by decide⟩
 |iz _ _ _=>exact⟨Str.ofString "is",_,rfl,by decide⟩
 |most _ _ _=>exact⟨Str.ofString "most",_,rfl,by decide⟩
 |non _=>exact⟨Str.ofString "none",_,rfl,by decide⟩
def BK(f g:Nat)(u:List Nat):dIx (.lst ((f::(u++[g])).map intD)) (.int (-1))=okD (intD g):=by
 rw[show(f::(u++[g])).map intD=(f::u).map intD++[intD g] from by simp]
 exact Gw
theorem GT(hb:cM bs){dd:Deed}(ok:dd.Ok bs){x:Nat}(hx:x<bs.length){l:List T3}(hl:l.length<=1000)(e4:Option S):
  ∃e4':Option S,l6 [some (.sh (aZ bs)),some (.sh dd.d),some (.own (.lst (l.map tD))),some (.sh (.int x)),e4]=some (.next [some (.sh (aZ bs)),some (.sh dd.d),some (.own (.lst ((l++(spX bs dd x).toList).map tD))),some (.sh (.int x)),e4']):=by
 have ht:=k8 hb ok hx true;have hd:∀{s:S},(n0 dd=true->x=AC dd)->qy (a9 qk (a9 dIx (a5 1) (eC (.int 0))) (eC (.str (Str.ofString "anew")))) (a9 eh (a5 3) (a9 dIx (a5 1) (eC (.int 1)))) [some (.sh (aZ bs)),some (.sh dd.d),some (.own (.lst (l.map tD))),some (.sh (.int x)),some s]=okB true:=λ{s} h=>by
  cases ha:n0 dd with
  |true=>
   cases dd with
   |anew z y t=>exact cm (a6 (a6 rfl rfl bF) rfl (A9 rfl)) (a6 rfl (a6 rfl rfl bg) (BV (by have h:x=z:=h rfl;omega)))
   |_=>exact nomatch ha
  |false=>
   obtain⟨k,ds,e,hk⟩:=DA ha;rw[e];exact qY (a6 (a6 rfl rfl bF) rfl (Ge hk))
 rcases Fv hb ok x with⟨f,g,u,h1,h2,h3⟩|⟨h1,h2⟩
 ·rw[h2] at ht;rw[h1];refine⟨some (.sh (.lst ((f::(u++[g])).map intD))),a3 (ak (kE rfl rfl rfl rfl ht)) (cp (fY (a6 (eQ (n:=((f::(u++[g])).length:Nat)) (f9 rfl) (gW _)) rfl (Ju (by rw[QS,QE,VC];omega))) (hd h3)) (bw ((f6 (ds:=l.map tD) (s:=.sh (tD (x,f,g))) rfl (bN rfl (a6 rfl rfl pV) (a6 rfl rfl (BK f g u)) rfl) (by rw[QG];exact Za hl (by decide))).trans ?_)))⟩
  rw[VB];rfl
 ·rw[h1];show ∃e4',l6 _=some (.next [_,_,some (.own (.lst ((l++[]).map tD))),_,e4']);rw[Vz];by_cases c:(gM bs dd x true (bp bs dd).length).length<=1
  ·exact⟨_,a3 (ak (kE rfl rfl rfl rfl ht)) (aq (dt (a6 (eQ (n:=((gM bs dd x true (bp bs dd).length).length:Nat)) (f9 rfl) (gW _)) rfl (L7 (by omega)))) rfl)⟩
  ·obtain⟨ha,hn⟩:n0 dd=true/\x≠AC dd:=h2.resolve_left c;cases dd with
   |anew z y t=>
    have hn:x≠z:=hn;exact⟨_,a3 (ak (kE rfl rfl rfl rfl ht)) (aq (fY (a6 (eQ (n:=((gM bs (.anew z y t) x true (bp bs (.anew z y t)).length).length:Nat)) (f9 rfl) (gW _)) rfl (Ju (by omega))) (cm (a6 (a6 rfl rfl bF) rfl (A9 rfl)) (a6 rfl (a6 rfl rfl bg) (BW (by omega))))) rfl)⟩
   |_=>exact nomatch ha
def CZ(hb:cM bs){dd:Deed}(ok:dd.Ok bs):mw [aZ bs,dd.d]=okL ((fmN (spX bs dd) bs.length).map tD):=by
 have b8:=hb.1;obtain⟨ρ',e,e3,e4,rfl⟩:=cy (bd:=ba 3) (body:=l6) (λk ρ=>∃e3 e4:Option S,ρ=[some (.sh (aZ bs)),some (.sh dd.d),some (.own (.lst ((fmN (spX bs dd) k).map tD))),e3,e4]) bs.length (ρ:=[some (.sh (aZ bs)),some (.sh dd.d),some (.own (.lst [])),none,none]) ⟨none,none,rfl⟩ (by
  rintro k ρ hk ⟨e3,e4,rfl⟩
  obtain⟨e4',e⟩:=GT hb ok hk (l:=fmN (spX bs dd) k) (by have:=qd (spX bs dd) k;omega) e4
  exact⟨_,_,rfl,e,_,e4',by rw[jG]⟩)
 exact ao rfl (a3 (ak rfl) (a3 (fh (cq (eQ (f9 rfl) (j6 bs)) (bI (by omega))) e) (Ii rfl)))
end
section
variable{ns:List Int}{bs:List Bx}
def vK{α:Type}{l:List α}{a b:α}{k:Nat}(h:(l++[a])[k]?=some b):l[k]?=some b\/(k=l.length/\b=a):=by
 rcases Nat.lt_or_ge k l.length with c|c
 ·rw[VV c] at h;exact .inl h
 ·rw[VR c] at h;have z:k - l.length=0:=by
   rcases Nat.eq_zero_or_pos (k - l.length) with z|z
   ·exact z
   ·rw[Wj (by simp;omega)] at h;cases h
  rw[z] at h;cases h;exact .inr ⟨by omega,rfl⟩
def rZ(a n:Nat):c9 (.int (a:Int)) (.int (n:Int))=okI ((a+n:Nat):Int):=by rw[add_int];congr 4
def Hh{a b:Nat}(h:b<=a):nQ (.int (a:Int)) (.int (b:Int))=okI ((a - b:Nat):Int):=by rw[sub_int];congr 4;omega
def Fy{k:Int}{bells:Nat}(hk0:0<=k)(hk1:k<=9000)(hb:bells<=6):∃w:Nat,jJ [.lst (ns.map D.int),.int k,.int bells]=okI (w:Nat)/\w<128:=by
 have hs:xu (.int 1) (.int (bells:Int))=okI ((2 ^ bells:Nat):Int):=by
  rw[zQ (by omega) (by omega) (by decide),VH,Int.one_mul,Int.natCast_pow];rfl
 have hp2:0<2 ^ bells:=Nat.pow_pos (by decide)
 have hp3:2 ^ bells<=2 ^ 6:=Nat.pow_le_pow_right (by decide) hb
 obtain⟨a,da,ha⟩:=fX (ns:=ns) (k:=k) (m:=((2 ^ bells:Nat):Int)) hk0 (by omega) (by omega)
 obtain⟨b,db,hb'⟩:=fX (ns:=ns) (k:=k+1) (m:=((2 ^ bells:Nat):Int)) (by omega) (by omega) (by omega)
 obtain⟨i,di,hi⟩:=fX (ns:=ns) (k:=5) (m:=3) (by decide) (by decide) (by decide)
 have hand:a &&& b<=a:=Nat.and_le_left;obtain⟨v,ev,hv⟩:∃v:Nat,dIx (.lst [.int 0,.int ((a &&& b:Nat):Int),.int (a:Int)]) (.int (i:Int))=okI (v:Nat)/\v<2 ^ 6:=by
  match i,hi with
  |0,_=>exact⟨0,pV,by decide⟩
  |1,_=>exact⟨a &&& b,wX,by omega⟩
  |2,_=>exact⟨a,Ae,by omega⟩
  |n+3,hi=>omega
 refine⟨v * 2,ao rfl (a3 (ak (bN rfl rfl (a6 rfl rfl hs) da)) (a3 (ak (bN rfl (a6 rfl rfl rfl) (a6 rfl rfl hs) db)) (ay (a6 (a6 (s:=.own (.lst [.int 0,.int ((a &&& b:Nat):Int),.int (a:Int)])) (bN rfl (a6 rfl rfl (xH a b)) rfl rfl) (bN rfl rfl rfl di) ev) rfl ?_)))),by omega⟩
 show xu (.int (v:Int)) (.int 1)=okI ((v * 2:Nat):Int);rw[zQ (by decide) (by decide) (by show(v:Int).natAbs<2 ^ 64;omega)]
 congr 4
def FI{r:Nat}(hr:r<=6)(hr1:1<=r):∃n:Nat,jK [.lst (ns.map D.int),.int r]=okI (n:Nat)/\1<=n/\n<=9:=by
 obtain⟨w,dw,hw⟩:=fX (ns:=ns) (k:=60+(r:Int)) (m:=9) (by omega) (by omega) (by decide)
 obtain⟨i,di,hi⟩:=fX (ns:=ns) (k:=4) (m:=4) (by decide) (by decide) (by decide)
 have hd:ql (.int (w:Int)) (.int 3)=okI ((w / 3:Nat):Int):=by rw[xl (by decide) (by decide)];congr 4
 obtain⟨v,ev,h9⟩:∃v:Nat,dIx (.lst [.int ((1+w:Nat):Int),.int ((r+w / 3:Nat):Int),.int ((9 - r:Nat):Int),.int ((1+w / 3:Nat):Int)]) (.int (i:Int))=okI (v:Nat)/\1<=v/\v<=9:=by
  match i,hi with
  |0,_=>exact⟨_,pV,by omega⟩
  |1,_=>exact⟨_,wX,by omega⟩
  |2,_=>exact⟨_,Ae,by omega⟩
  |3,_=>exact⟨_,c8 (n:=3) rfl,by omega⟩
  |n+4,hi=>omega
 exact⟨v,ao rfl (a3 (ak (bN rfl (a6 rfl rfl rfl) rfl dw)) (ay (a6 (s:=.own (.lst [.int ((1+w:Nat):Int),.int ((r+w / 3:Nat):Int),.int ((9 - r:Nat):Int),.int ((1+w / 3:Nat):Int)])) (kE (a6 rfl rfl (rZ 1 w)) (a6 rfl (a6 rfl rfl hd) (rZ r (w / 3))) (a6 rfl rfl (Hh (a:=9) (by omega))) (a6 rfl (a6 rfl rfl hd) (rZ 1 (w / 3))) rfl) (bN rfl rfl rfl di) ev))),h9⟩
def Gp{b:Nat}(h:b<6):∃c:Nat,dIx (.str (Str.ofString "klmnop")) (.int (b:Int))=okD (.str ⟨#[c]⟩):=by
 match b,h with
 |0,_=>exact⟨107,rfl⟩
 |1,_=>exact⟨108,rfl⟩
 |2,_=>exact⟨109,rfl⟩
 |3,_=>exact⟨110,rfl⟩
 |4,_=>exact⟨111,rfl⟩
 |5,_=>exact⟨112,rfl⟩
def ROx(bs:List Bx)(r:Rw):Prop:=1<=r.pl.length/\∀q∈r.pl,q.1.Ok bs
def ROk(r:Rw):Prop:=r.rk<=9/\r.pl.length<=12/\∀q∈r.pl,q.2<128
abbrev ρP(ns:List Int)(bs:List Bx)(long bells:Nat)(rows:List Rw)(r:Nat)(pl:List Pl)(e7 e8:Option S):aJ:=
 [some (.sh (.lst (ns.map D.int))),some (.sh (.int long)),some (.sh (aZ bs)),some (.sh (.int bells)),some (.own (.lst (rows.map Rw.d))),some (.sh (.int r)),some (.own (.lst (pl.map plD))),e7,e8]
def Ih(hb:cM bs)(h1:1<=bs.length){long bells r:Nat}(hr:r<=6)(hbl:bells<=6){rows:List Rw}{many:Nat}(hm:many<=12)(e7 e8:Option S):
  ∃(pl:List Pl)(e7' e8':Option S),pl.length=many/\(∀q∈pl,q.1.Ok bs/\q.2<128)/\lg (ba 7) gd (rng 0 many) (ρP ns bs long bells rows r [] e7 e8)=some (.next (ρP ns bs long bells rows r pl e7' e8')):=by
 obtain⟨ρ',e,pl,e7',e8',hl,hq,rfl⟩:=cy (bd:=ba 7) (body:=gd) (λk ρ=>∃(pl:List Pl)(e7 e8:Option S),pl.length=k/\(∀q∈pl,q.1.Ok bs/\q.2<128)/\ρ=ρP ns bs long bells rows r pl e7 e8) many (ρ:=ρP ns bs long bells rows r [] e7 e8) ⟨[],e7,e8,rfl,λ_ h=>(nomatch h),rfl⟩ (by
  rintro p ρ hp ⟨pl,e7,e8,hl,hq,rfl⟩
  obtain⟨a,ha⟩:∃a:Int,a=100+200 * (r:Int)+12 * (p:Int):=⟨_,rfl⟩;obtain⟨dd,ok,ed⟩:=GJ (ns:=ns) hb h1 (k:=a) (by omega) (by omega)
  obtain⟨w,ew,hw⟩:=Fy (ns:=ns) (k:=a+7) (bells:=bells) (by omega) (by omega) hbl
  refine⟨_,_,rfl,a3 (ak (s:=.sh (.int a)) ?_) (f6 (ds:=pl.map plD) (s:=.sh (plD (dd,w))) rfl (sT (s1:=.sh dd.d) (s2:=.sh (.int (w:Int))) (bN rfl rfl rfl ed) (bN rfl (a6 rfl rfl rfl) rfl ew)) (by rw[QG];exact QZ (by omega:pl.length<12) (by decide))),pl++[(dd,w)],some (.sh (.int p)),some (.sh (.int a)),by rw[QE,hl];rfl,λq h=>?_,by unfold ρP;rw[VB (l₁:=pl)];rfl⟩
  ·rw[ha];exact a6 (a6 rfl (a6 rfl rfl (yE (by decide) (by decide))) rfl) (a6 rfl rfl (yE (by decide) (by decide))) rfl
  ·rcases VQ.mp h with h|h
   ·exact hq q h
   ·rw[V3.mp h];exact⟨ok,hw⟩)
 exact⟨pl,e7',e8',hl,hq,e⟩
def yf{long:Nat}(h1:1<=long)(h2:long<=12):∃(bs:List Bx)(rs:List Rw),fM [.lst (ns.map D.int),.int long]=okD (cS bs rs)/\1<=rs.length/\rs.length<=7/\cM bs/\(∀r∈rs,ROk r/\ROx bs r)/\∀k r,rs[k]?=some r->(k=0↔r.rk=0):=by
 obtain⟨bs,ebs,hl,hb⟩:=EO (ns:=ns);obtain⟨bells,db,hbl⟩:=fX (ns:=ns) (k:=6) (m:=7) (by decide) (by decide) (by decide)
 obtain⟨ρ',e,rs,e5,e6,e7,e8,hl',hq,rfl⟩:=cy (bd:=ba 5) (body:=jZ) (λk ρ=>∃(rs:List Rw)(e5 e6 e7 e8:Option S),rs.length=k/\((∀r∈rs,ROk r/\ROx bs r)/\∀k r,rs[k]?=some r->(k=0↔r.rk=0))/\ρ=[some (.sh (.lst (ns.map D.int))),some (.sh (.int long)),some (.sh (aZ bs)),some (.sh (.int bells)),some (.own (.lst (rs.map Rw.d))),e5,e6,e7,e8]) (bells+1)
  (ρ:=[some (.sh (.lst (ns.map D.int))),some (.sh (.int long)),some (.sh (aZ bs)),some (.sh (.int bells)),some (.own (.lst [])),none,none,none,none]) ⟨[],none,none,none,none,rfl,⟨λ_ h=>(nomatch h),λk r h=>by simp at h⟩,rfl⟩ (by
  rintro r ρ hr ⟨rs,e5,e6,e7,e8,hl',hq,rfl⟩
  obtain⟨m,dm,hm⟩:=fX (ns:=ns) (k:=70+(r:Int)) (m:=(long:Int)) (by omega) (by omega) (by omega)
  obtain⟨pl,e7',e8',hpl,hpq,el⟩:=Ih (ns:=ns) (long:=long) (bells:=bells) (r:=r) (rows:=rs) (many:=1+m) hb hl (by omega) (by omega) (by omega) e7 e8
  have rg:bP (a9 c9 (eC (.int 1)) (ai aD [(a5 0),(a9 c9 (eC (.int 70)) (a5 5)),(a5 1)])) (ρP ns bs long bells rs r [] e7 e8)=some (.ok (rng 0 ((1+m:Nat):Int))):=cq (a6 rfl (bN rfl (a6 rfl rfl rfl) rfl dm) (rZ 1 m)) (bI (by omega))
  by_cases c:r=0
  ·refine⟨_,_,rfl,a3 (ak rfl) (a3 (fh rg el) (cp (a6 rfl rfl (BV (by omega))) (bw (f6 (ds:=rs.map Rw.d) (s:=.sh (Rw.d ⟨Str.ofString "main",0,pl⟩)) rfl (bN rfl rfl (bK rfl rfl) rfl) (by rw[QG];exact QZ (by omega:rs.length<8) (by decide)))))),rs++[⟨Str.ofString "main",0,pl⟩],_,_,_,_,by rw[QE,hl'];rfl,⟨λR hR=>?_,λk R hR=>?_⟩,by rw[VB (l₁:=rs)];rfl⟩
   ·rcases VQ.mp hR with h|h
    ·exact hq.1 R h
    ·rw[V3.mp h];exact⟨⟨VA _,by show pl.length<=12;omega,λq hq=>(hpq q hq).2⟩,by show 1<=pl.length;omega,λq hq=>(hpq q hq).1⟩
   ·rcases vK hR with h|⟨h,e⟩
    ·exact hq.2 k R h
    ·subst e;exact⟨λ_=>rfl,λ_=>by omega⟩
  ·obtain⟨n,en,h9⟩:=FI (ns:=ns) (r:=r) (by omega) (by omega)
   obtain⟨ch,ech⟩:=Gp (b:=r - 1) (by omega)
   obtain⟨y,ey⟩:=DK (x:=⟨#[ch]⟩) (n:=1+r % 2) rfl (by omega)
   have hmd:lr (.int (r:Int)) (.int 2)=okI ((r % 2:Nat):Int):=by rw[gE (by decide)];congr 4
   refine⟨_,_,rfl,a3 (ak rfl) (a3 (fh rg el) (aq (a6 rfl rfl (BW (by omega))) (bw (f6 (ds:=rs.map Rw.d) (s:=.sh (Rw.d ⟨y,n,pl⟩)) rfl (bN (a6 (a6 rfl (a6 rfl rfl (Hh (a:=r) (b:=1) (by omega))) ech) (a6 rfl (a6 rfl rfl hmd) (rZ 1 (r % 2))) ey) (bB rfl rfl en) (bK rfl rfl) rfl) (by rw[QG];exact QZ (by omega:rs.length<8) (by decide)))))),rs++[⟨y,n,pl⟩],_,_,_,_,by rw[QE,hl'];rfl,⟨λR hR=>?_,λk R hR=>?_⟩,by rw[VB (l₁:=rs)];rfl⟩
   ·rcases VQ.mp hR with h|h
    ·exact hq.1 R h
    ·rw[V3.mp h];exact⟨⟨h9.2,by show pl.length<=12;omega,λq hq=>(hpq q hq).2⟩,by show 1<=pl.length;omega,λq hq=>(hpq q hq).1⟩
   ·rcases vK hR with h|⟨h,e⟩
    ·exact hq.2 k R h
    ·subst e;exact⟨λz=>by omega,λz=>by have z:n=0:=z;omega⟩)
 exact⟨bs,rs,ao rfl (a3 (ak (bK rfl ebs)) (a3 (ak (bN rfl rfl rfl db)) (a3 (ak rfl) (a3 (fh (cq (a6 rfl rfl (rZ bells 1)) (bI (by omega))) e) (bw (ay (sT (s1:=.sh (aZ bs)) (s2:=.sh (.tup (rs.map Rw.d))) rfl (bK rfl rfl)))))))),by omega,by omega,hb,hq.1,hq.2⟩
end
section
variable{bs:List Bx}
def Fx{x:Nat}(h:x<bs.length){ρ:aJ}{i:Nat}(hi:ρ[i]?=some (some (.sh (aZ bs)))){e:ME}(he:e ρ=okI (x:Nat)):aI (f1 bU) [a9 dIx (a9 dIx (a5 i) e) (eC (.int 1))] ρ=okI (szB bs x:Nat):=by
 rw[xY h];exact eQ (a6 (a6 (cK hi) he (wZ h)) rfl (E7 _)) (wW _)
def y0(hb:cM bs){dd:Deed}(ok:dd.Ok bs):fL [aZ bs,dd.d]=okL ((fmN (spX bs dd) bs.length).map tD):=by
 have f:∀{a b:Str}{ds:List D}{ρ:aJ},ρ[1]?=some (some (.sh (.tup (.str b::ds))))->b≠a->a9 eh (a9 dIx (a5 1) (eC (.int 0))) (eC (.str a)) ρ=okB false:=λh e=>a6 (a6 (cK h) rfl bF) rfl (aL e);have t:∀{a:Str}{ds:List D}{ρ:aJ},ρ[1]?=some (some (.sh (.tup (.str a::ds))))->a9 eh (a9 dIx (a5 1) (eC (.int 0))) (eC (.str a)) ρ=okB true:=λh=>a6 (a6 (cK h) rfl bF) rfl (fN rfl);have z1:∀{k:Str}{x:Nat}{ds:List D},x<bs.length->aI (f1 bU) [a9 dIx (a9 dIx (a5 0) (a9 dIx (a5 1) (eC (.int 1)))) (eC (.int 1))] [some (.sh (aZ bs)),some (.sh (.tup (.str k::.int (x:Int)::ds)))]=okI (szB bs x:Nat):=λh=>Fx h rfl (a6 rfl rfl bg);cases dd with
 |put z ns=>
  rw[Lw (g:=spX bs (.put z ns)) (z:=z) (λx hx=>QI (λq:x=z/\szB bs z=2=>hx q.1)),QH ok.1];rcases cg hb ok.1 with s|s
  ·have e:spX bs (.put z ns) z=none:=QI (by omega)
   rw[e];exact ao rfl (a3 (aq (f rfl (by decide)) rfl) (a3 (cp (qY (t rfl)) (aq (a6 (z1 ok.1) rfl (BW (by omega))) rfl)) (ay rfl)))
  ·have e:spX bs (.put z ns) z=some (z,0,1):=QH ⟨rfl,s⟩;rw[e];exact ao rfl (a3 (aq (f rfl (by decide)) rfl) (b5 (cp (qY (t rfl)) (cp (a6 (z1 ok.1) rfl (BV (by omega))) (b5 (cp (t rfl) (ay (bK (bN (a6 rfl rfl bg) rfl rfl rfl) rfl))))))))
 |copy z y=>
  obtain⟨o1,o2,o3,o4⟩:=ok;rcases cg hb o1 with s|s
  ·rw[Jw (g:=spX bs (.copy z y)) (λx=>QI (by omega))]
   exact ao rfl (a3 (aq (f rfl (by decide)) rfl) (a3 (cp (cm (f rfl (by decide)) (qY (t rfl))) (aq (a6 (z1 o1) rfl (BW (by omega))) rfl)) (ay rfl)))
  ·have ez:spX bs (.copy z y) z=some (z,0,1):=QH ⟨.inl rfl,s⟩;have ey:spX bs (.copy z y) y=some (y,0,1):=QH ⟨.inr rfl,s⟩;refine ao rfl (a3 (aq (f rfl (by decide)) rfl) (b5 (cp (cm (f rfl (by decide)) (qY (t rfl))) (cp (a6 (z1 o1) rfl (BV (by omega))) (a3 (aq (f rfl (by decide)) rfl) (a3 (aq (f rfl (by decide)) rfl) (ay (oC (bB (bN (a6 rfl rfl bg) rfl rfl rfl) (bN (a6 rfl rfl dD) rfl rfl rfl) rfl) ?_))))))))
   show(if(z:Int)<(y:Int) then okL [tD (z,0,1),tD (y,0,1)] else if(y:Int)<(z:Int) then okL [tD (y,0,1),tD (z,0,1)] else none)=_;by_cases c:z<y
   ·rw[Mm (g:=spX bs (.copy z y)) c (λx h1 h2=>QI (by omega)),QH o2,ez,ey,QH (by omega)];rfl
   ·rw[Mm (g:=spX bs (.copy z y)) (z:=y) (y:=z) (by omega) (λx h1 h2=>QI (by omega)),QH o1,ez,ey,QI (by omega),QH (by omega)];rfl
 |grow z n=>
  rw[Lw (g:=spX bs (.grow z n)) (z:=z) (λx hx=>QI (λq=>hx q)),QH ok.1];have e:spX bs (.grow z n) z=some (z,0,2 * szB bs z - 1):=QH rfl;have s:=cg hb ok.1;rw[e];refine ao rfl (b5 (cp (t rfl) (ay (bK (bN (a6 rfl rfl bg) rfl (a6 (a6 rfl (z1 ok.1) (yE (by decide) (by decide))) rfl (sub_int _ _)) rfl) ?_))))
  show okL [D.tup [.int z,.int 0,.int (2 * (szB bs z:Int) - 1)]]=okL [D.tup [.int z,.int 0,.int ((2 * szB bs z - 1:Nat):Int)]];rw[show 2 * (szB bs z:Int) - 1=((2 * szB bs z - 1:Nat):Int) by omega]
 |tick z=>
  rw[Jw (g:=spX bs (.tick z)) (λx=>rfl)];exact ao rfl (a3 (aq (f rfl (by decide)) rfl) (a3 (aq (cm (f rfl (by decide)) (cm (f rfl (by decide)) (f rfl (by decide)))) rfl) (ay rfl)))
 |still n=>
  rw[Jw (g:=spX bs (.still n)) (λx=>rfl)];exact ao rfl (a3 (aq (f rfl (by decide)) rfl) (a3 (aq (cm (f rfl (by decide)) (cm (f rfl (by decide)) (f rfl (by decide)))) rfl) (ay rfl)))
 |non z=>
  rw[Jw (g:=spX bs (.non z)) (λx=>rfl)];exact ao rfl (a3 (aq (f rfl (by decide)) rfl) (a3 (aq (cm (f rfl (by decide)) (cm (f rfl (by decide)) (f rfl (by decide)))) rfl) (ay rfl)))
 |iz z y n=>
  rw[Jw (g:=spX bs (.iz z y n)) (λx=>rfl)];exact ao rfl (a3 (aq (f rfl (by decide)) rfl) (a3 (aq (cm (f rfl (by decide)) (cm (f rfl (by decide)) (f rfl (by decide)))) rfl) (ay rfl)))
 |most z y n=>
  rw[Jw (g:=spX bs (.most z y n)) (λx=>rfl)];exact ao rfl (a3 (aq (f rfl (by decide)) rfl) (a3 (aq (cm (f rfl (by decide)) (cm (f rfl (by decide)) (f rfl (by decide)))) rfl) (ay rfl)))
 |anew z y tt=>
  obtain⟨o1,o2,o3,o4,o5,o6,o7,o8⟩:=ok;rw[Lw (g:=spX bs (.anew z y tt)) (z:=z) (λx hx=>QI (λq:x=z/\szB bs z=2=>hx q.1)),QH o1];rcases cg hb o1 with s|s
  ·have e:spX bs (.anew z y tt) z=none:=QI (by omega)
   rw[e];exact ao rfl (a3 (aq (f rfl (by decide)) rfl) (a3 (cp (cm (f rfl (by decide)) (cm (f rfl (by decide)) (t rfl))) (aq (a6 (z1 o1) rfl (BW (by omega))) rfl)) (ay rfl)))
  ·have e:spX bs (.anew z y tt) z=some (z,4,5):=QH ⟨rfl,s⟩;rw[e];exact ao rfl (a3 (aq (f rfl (by decide)) rfl) (b5 (cp (cm (f rfl (by decide)) (cm (f rfl (by decide)) (t rfl))) (cp (a6 (z1 o1) rfl (BV (by omega))) (a3 (aq (f rfl (by decide)) rfl) (b5 (cp (t rfl) (ay (bK (bN (a6 rfl rfl bg) rfl rfl rfl) rfl)))))))))
end
section
variable{bs:List Bx}{dd:Deed}{x:Nat}{rd:Bool}
def CK:(gM bs dd x rd (bp bs dd).length).isEmpty=!((bp bs dd).any (dF bs x rd)):=by
 unfold gM;rw[VI,List.isEmpty_iff,Yj,Zg,ZK];constructor
 ·intro h p hp;obtain⟨j,hj,rfl⟩:=Wc.mp hp;have:=h j (QX.mpr hj);rw[QB hj] at this;exact this
 ·intro h j hj;have hj:=QX.mp hj;rw[QB hj];exact h _ (VM hj)
def DE{ts:List Nat}:qj (.lst (ts.map intD)) (.lst [])=okB (!ts.isEmpty):=by cases ts <;> rfl
end
def jj:Deed->List Nat
 |.still _=>[]|.non _=>[]|.put z _=>[z]|.grow z _=>[z]|.tick z=>[z]|.anew z y t=>[z,y,t]|.copy z y=>[z,y]|.iz z y _=>[z,y]|.most z y _=>[z,y]
def sR(x:Nat):Deed->Bool
 |.put z _=>decide (z=x)|.grow z _=>decide (z=x)|.tick z=>decide (z=x)|.anew z _ _=>decide (z=x)|.copy z _=>decide (z=x)|_=>false
def Ei(x z:Nat):(x == z)=decide (z=x):=by rw[VI,QP,ZE,eq_comm]
def mL(x z:Nat):[z].contains x=decide (z=x):=by rw[Yl,Ei,List.contains_nil,WT]
def oE(x z y:Nat):[z,y].contains x=(decide (z=x) || decide (y=x)):=by rw[Yl,Ei,mL]
def CL(x z y t:Nat):[z,y,t].contains x=(decide (z=x) || (decide (y=x) || decide (t=x))):=by rw[Yl,Ei,oE]
def Ed{bs:List Bx}(hb:cM bs){dd:Deed}(ok:dd.Ok bs)(x:Nat):(bp bs dd).any (dF bs x true)=(jj dd).contains x:=by
 have pos:∀{z:Nat},z<bs.length->0<szB bs z:=λh=>by have:=cg hb h;omega
 cases dd with
 |put z ns=>exact(sP _ _).trans ((dC (pos ok.1)).trans (mL x z).symm)
 |copy z y=>
  show(((List.range (szB bs z)).map λk=>(([fstB bs y+k],[fstB bs z+k]):ix)).any _)=[z,y].contains x;rw[Xg,oE];exact mQ (pos ok.1) λk hk=>(z9 _ _).trans (by rw[cx hk,cx (by rw[ok.2.2.2];exact hk)])
 |grow z n=>
  show((((ah bs z).map λc=>(([c],[]):ix))++(ah bs z).map λc=>(([],[c]):ix)).any _)=[z].contains x;rw[ZT,HL,sP,dC (pos ok.1),mL,Bool.or_self]
 |tick z=>
  have h0:(ah bs x).contains (fstB bs z)=decide (z=x):=cx (k:=0) (pos ok.1);show([(([fstB bs z],[fstB bs z]):ix)].any _)=[z].contains x;rw[Ze,Yx,z9,h0,mL,Bool.or_self,WT]
 |still n=>exact ZK.mpr λp hp=>by rw[WX hp,x9];exact QC
 |non z=>show([(([],[]):ix)].any _)=false;rw[Ze,Yx,x9];rfl
 |iz z y n=>show([((AW bs z y,[]):ix)].any _)=[z,y].contains x;rw[Ze,Yx,HC,AG (pos ok.1) (pos ok.2.1),oE,WT]
 |most z y n=>show([((AW bs z y,[]):ix)].any _)=[z,y].contains x;rw[Ze,Yx,HC,AG (pos ok.1) (pos ok.2.1),oE,WT]
 |anew z y t=>
  have h0:(ah bs x).contains (fstB bs t)=decide (t=x):=cx (k:=0) (pos ok.2.2.1);show(((([fstB bs t]++ah bs y++[fstB bs t]).map λc=>(([c],[]):ix))++(ah bs z).map λc=>(([],[c]):ix)).any _)=[z,y,t].contains x;rw[ZT,HL,sP,dC (pos ok.1),ZT,ZT,dC (pos ok.2.1),Ze,Yx,h0,CL];cases decide (z=x) <;> cases decide (y=x) <;> cases decide (t=x) <;> rfl
def BP{bs:List Bx}(hb:cM bs){dd:Deed}(ok:dd.Ok bs)(x:Nat):(bp bs dd).any (dF bs x false)=sR x dd:=by
 have pos:∀{z:Nat},z<bs.length->0<szB bs z:=λh=>by have:=cg hb h;omega
 cases dd with
 |put z ns=>exact(sP _ _).trans (dC (pos ok.1))
 |copy z y=>
  show(((List.range (szB bs z)).map λk=>(([fstB bs y+k],[fstB bs z+k]):ix)).any _)=decide (z=x);rw[Xg];exact mQ (pos ok.1) λk hk=>(An _ _).trans (cx hk)
 |grow z n=>
  show((((ah bs z).map λc=>(([c],[]):ix))++(ah bs z).map λc=>(([],[c]):ix)).any _)=decide (z=x);rw[ZT,EU,sP,dC (pos ok.1),Bool.false_or]
 |tick z=>
  have h0:(ah bs x).contains (fstB bs z)=decide (z=x):=cx (k:=0) (pos ok.1);show([(([fstB bs z],[fstB bs z]):ix)].any _)=decide (z=x);rw[Ze,Yx,An,h0,WT]
 |still n=>exact ZK.mpr λp hp=>by rw[WX hp,x9];exact QC
 |non z=>show([(([],[]):ix)].any _)=false;rw[Ze,Yx,x9];rfl
 |iz z y n=>show([((AW bs z y,[]):ix)].any _)=false;rw[Ze,Yx,zc];rfl
 |most z y n=>show([((AW bs z y,[]):ix)].any _)=false;rw[Ze,Yx,zc];rfl
 |anew z y t=>
  show(((([fstB bs t]++ah bs y++[fstB bs t]).map λc=>(([c],[]):ix))++(ah bs z).map λc=>(([],[c]):ix)).any _)=decide (z=x);rw[ZT,EU,sP,dC (pos ok.1),Bool.false_or]
def uL(dd:Deed):fW [dd.d]=okL ((jj dd).map intD):=by
 have f:∀{a b:Str}{ds:List D}{ρ:aJ},ρ[0]?=some (some (.sh (.tup (.str b::ds))))->b≠a->a9 eh (a9 dIx (a5 0) (eC (.int 0))) (eC (.str a)) ρ=okB false:=λh e=>a6 (a6 (cK h) rfl bF) rfl (aL e);have t:∀{a:Str}{ds:List D}{ρ:aJ},ρ[0]?=some (some (.sh (.tup (.str a::ds))))->a9 eh (a9 dIx (a5 0) (eC (.int 0))) (eC (.str a)) ρ=okB true:=λh=>a6 (a6 (cK h) rfl bF) rfl (fN rfl);cases dd with
 |still n=>exact ao rfl (b5 (cp (qY (t rfl)) (ay rfl)))
 |non z=>exact ao rfl (b5 (cp (cm (f rfl (by decide)) (t rfl)) (ay rfl)))
 |put z ns=>exact ao rfl (a3 (aq (cm (f rfl (by decide)) (f rfl (by decide))) rfl) (b5 (cp (qY (t rfl)) (ay (bK (a6 rfl rfl bg) rfl)))))
 |grow z n=>exact ao rfl (a3 (aq (cm (f rfl (by decide)) (f rfl (by decide))) rfl) (b5 (cp (cm (f rfl (by decide)) (qY (t rfl))) (ay (bK (a6 rfl rfl bg) rfl)))))
 |tick z=>exact ao rfl (a3 (aq (cm (f rfl (by decide)) (f rfl (by decide))) rfl) (b5 (cp (cm (f rfl (by decide)) (cm (f rfl (by decide)) (t rfl))) (ay (bK (a6 rfl rfl bg) rfl)))))
 |anew z y t'=>exact ao rfl (a3 (aq (cm (f rfl (by decide)) (f rfl (by decide))) rfl) (a3 (aq (cm (f rfl (by decide)) (cm (f rfl (by decide)) (f rfl (by decide)))) rfl) (b5 (cp (t rfl) (ay (bN (a6 rfl rfl bg) (a6 rfl rfl dD) (a6 rfl rfl E5) rfl))))))
 |copy z y=>exact ao rfl (a3 (aq (cm (f rfl (by decide)) (f rfl (by decide))) rfl) (a3 (aq (cm (f rfl (by decide)) (cm (f rfl (by decide)) (f rfl (by decide)))) rfl) (a3 (aq (f rfl (by decide)) rfl) (ay (bB (a6 rfl rfl bg) (a6 rfl rfl dD) rfl)))))
 |iz z y n=>exact ao rfl (a3 (aq (cm (f rfl (by decide)) (f rfl (by decide))) rfl) (a3 (aq (cm (f rfl (by decide)) (cm (f rfl (by decide)) (f rfl (by decide)))) rfl) (a3 (aq (f rfl (by decide)) rfl) (ay (bB (a6 rfl rfl bg) (a6 rfl rfl dD) rfl)))))
 |most z y n=>exact ao rfl (a3 (aq (cm (f rfl (by decide)) (f rfl (by decide))) rfl) (a3 (aq (cm (f rfl (by decide)) (cm (f rfl (by decide)) (f rfl (by decide)))) rfl) (a3 (aq (f rfl (by decide)) rfl) (ay (bB (a6 rfl rfl bg) (a6 rfl rfl dD) rfl)))))
def iG(dd:Deed)(x:Nat):eU [dd.d,.int x]=okB (sR x dd):=by
 cases dd with
 |put z ns=>exact ao rfl (a3 (ak (s:=.own (.lst [.str (Str.ofString "put"),.str (Str.ofString "copy"),.str (Str.ofString "grow"),.str (Str.ofString "tick"),.str (Str.ofString "anew")])) rfl) (bw (ay (fY (a6 (a6 rfl rfl bF) rfl rfl) (a6 (a6 rfl rfl bg) rfl (HE _ _))))))
 |copy z y=>exact ao rfl (a3 (ak (s:=.own (.lst [.str (Str.ofString "put"),.str (Str.ofString "copy"),.str (Str.ofString "grow"),.str (Str.ofString "tick"),.str (Str.ofString "anew")])) rfl) (bw (ay (fY (a6 (a6 rfl rfl bF) rfl rfl) (a6 (a6 rfl rfl bg) rfl (HE _ _))))))
 |grow z n=>exact ao rfl (a3 (ak (s:=.own (.lst [.str (Str.ofString "put"),.str (Str.ofString "copy"),.str (Str.ofString "grow"),.str (Str.ofString "tick"),.str (Str.ofString "anew")])) rfl) (bw (ay (fY (a6 (a6 rfl rfl bF) rfl rfl) (a6 (a6 rfl rfl bg) rfl (HE _ _))))))
 |tick z=>exact ao rfl (a3 (ak (s:=.own (.lst [.str (Str.ofString "put"),.str (Str.ofString "copy"),.str (Str.ofString "grow"),.str (Str.ofString "tick"),.str (Str.ofString "anew")])) rfl) (bw (ay (fY (a6 (a6 rfl rfl bF) rfl rfl) (a6 (a6 rfl rfl bg) rfl (HE _ _))))))
 |anew z y t=>exact ao rfl (a3 (ak (s:=.own (.lst [.str (Str.ofString "put"),.str (Str.ofString "copy"),.str (Str.ofString "grow"),.str (Str.ofString "tick"),.str (Str.ofString "anew")])) rfl) (bw (ay (fY (a6 (a6 rfl rfl bF) rfl rfl) (a6 (a6 rfl rfl bg) rfl (HE _ _))))))
 |still n=>exact ao rfl (a3 (ak (s:=.own (.lst [.str (Str.ofString "put"),.str (Str.ofString "copy"),.str (Str.ofString "grow"),.str (Str.ofString "tick"),.str (Str.ofString "anew")])) rfl) (bw (ay (dt (a6 (a6 rfl rfl bF) rfl rfl)))))
 |non z=>exact ao rfl (a3 (ak (s:=.own (.lst [.str (Str.ofString "put"),.str (Str.ofString "copy"),.str (Str.ofString "grow"),.str (Str.ofString "tick"),.str (Str.ofString "anew")])) rfl) (bw (ay (dt (a6 (a6 rfl rfl bF) rfl rfl)))))
 |iz z y n=>exact ao rfl (a3 (ak (s:=.own (.lst [.str (Str.ofString "put"),.str (Str.ofString "copy"),.str (Str.ofString "grow"),.str (Str.ofString "tick"),.str (Str.ofString "anew")])) rfl) (bw (ay (dt (a6 (a6 rfl rfl bF) rfl rfl)))))
 |most z y n=>exact ao rfl (a3 (ak (s:=.own (.lst [.str (Str.ofString "put"),.str (Str.ofString "copy"),.str (Str.ofString "grow"),.str (Str.ofString "tick"),.str (Str.ofString "anew")])) rfl) (bw (ay (dt (a6 (a6 rfl rfl bF) rfl rfl)))))
def xV{bs:List Bx}(hb:cM bs){dd:Deed}(ok:dd.Ok bs){x:Nat}(hx:x<bs.length):fK [aZ bs,dd.d,.int x]=okB ((jj dd).contains x):=by
 rw[<-Ed hb ok];refine ao rfl (ay (a6 (t:=.own (.lst [])) (kE rfl rfl rfl rfl (k8 hb ok hx true)) rfl (DE.trans ?_)));rw[CK,Bool.not_not]
def AL{bs:List Bx}(hb:cM bs){dd:Deed}(ok:dd.Ok bs){x:Nat}(hx:x<bs.length):gF [aZ bs,dd.d,.int x]=okB (sR x dd):=by
 rw[<-BP hb ok];refine ao rfl (ay (a6 (t:=.own (.lst [])) (kE rfl rfl rfl rfl (k8 hb ok hx false)) rfl (DE.trans ?_)));rw[CK,Bool.not_not]
abbrev ck(rs:List Rw)(k:Nat):Rw:=rs.getD k ⟨Str.empty,0,[]⟩
def vS{rs:List Rw}{k:Nat}(h:k<rs.length):rs[k]=ck rs k:=by
 unfold ck;rw[Wb,QB h];rfl
def g8{rs:List Rw}{k:Nat}(h:k<rs.length):dIx (.tup (rs.map Rw.d)) (.int k)=okD (ck rs k).d:=ix_tup (by rw[Vy,QB h,vS h];rfl)
def uK(l:List Pl):bU (.tup (l.map plD))=okI (l.length:Nat):=by rw[xv,QG]
def zV{rs:List Rw}{k:Nat}(h:k<rs.length):ck rs k∈rs:=by rw[<-vS h];exact VM h
def wdAt(rs:List Rw)(r p:Nat):Nat:=((ck rs r).pl[p]?.map (·.2)).getD 0
section
variable{bs:List Bx}{rs:List Rw}{r w:Nat}
def F4(h:r<rs.length)(p:Nat):j9 [cS bs rs,.int r,.int p]=okI (wdAt rs r p:Nat):=by
 have pe:ir [cS bs rs,.int r]=okD (.tup ((ck rs r).pl.map plD)):=ao rfl (ay (a6 (a6 (a6 rfl rfl bg) rfl (g8 h)) rfl dD));refine ao rfl (a3 (ak (bB rfl rfl pe)) (ay (s:=.sh (.int (wdAt rs r p:Nat))) ?_));by_cases c:p<(ck rs r).pl.length
 ·have hq:(ck rs r).pl[p]?=some (ck rs r).pl[p]:=QB c;have e:wdAt rs r p=(ck rs r).pl[p].2:=by unfold wdAt;rw[hq];rfl
  rw[e];exact Aj (a6 rfl (eQ (f9 rfl) (uK _)) (Mb (by omega))) (a6 (a6 rfl rfl (ix_tup (d:=plD (ck rs r).pl[p]) (by rw[Vy,hq];rfl))) rfl bg)
 ·have e:wdAt rs r p=0:=by unfold wdAt;rw[Wj (by omega)];rfl
  rw[e];exact Ak (a6 rfl (eQ (f9 rfl) (uK _)) (Mc (by omega))) rfl
end
structure PQ(bs:List Bx)(rs:List Rw):Prop where
 hb:cM bs
 h7:rs.length<=7
 row:∀r∈rs,r.pl.length<=12/\∀q∈r.pl,q.1.Ok bs
abbrev MK:Pl:=(.still 1,0)
def plN(rs:List Rw)(i:Nat):Nat:=(ck rs i).pl.length
def plA(rs:List Rw)(i p:Nat):Pl:=(ck rs i).pl.getD p MK
def bT(rs:List Rw)(i p:Nat):Deed:=(plA rs i p).1
abbrev U2:=Nat×Nat
def K4(rs:List Rw)(x i p:Nat):Bool:=(jj (bT rs i p)).contains x
def wrt(rs:List Rw)(x:Nat)(u:U2):Bool:=sR x (bT rs u.1 u.2)
def uD(rs:List Rw)(x:Nat)(u:U2):D:=.tup [.int u.1,.int u.2,.bl (wrt rs x u)]
def inU(rs:List Rw)(x i n:Nat):List U2:=((List.range n).filter (K4 rs x i)).map λp=>(i,p)
def usN(rs:List Rw)(x n:Nat):List U2:=(List.range n).flatMap λi=>inU rs x i (plN rs i)
section
variable{bs:List Bx}{rs:List Rw}{x i p:Nat}
def PQ.n12(h:PQ bs rs)(hi:i<rs.length):plN rs i<=12:=(h.row _ (zV hi)).1
def om(hp:p<plN rs i):(ck rs i).pl[p]?=some (plA rs i p):=by
 unfold plA;rw[Wb,QB hp];rfl
def PQ.ok(h:PQ bs rs)(hi:i<rs.length)(hp:p<plN rs i):(bT rs i p).Ok bs:=(h.row _ (zV hi)).2 _ (ZF (om hp))
def L0{n:Nat}(h:K4 rs x i n=true):inU rs x i (n+1)=inU rs x i n++[(i,n)]:=by
 unfold inU;rw[Ww,W6,Zl h,VB];rfl
def L4{n:Nat}(h:K4 rs x i n=false):inU rs x i (n+1)=inU rs x i n:=by
 unfold inU;rw[Ww,W6,Zm (by rw[h];exact QC),Yw,Vz]
def Ah(n:Nat):(inU rs x i n).length<=n:=by
 unfold inU;rw[QG];refine V5 (WZ _ _) ?_;rw[V2];exact QO _
def vk(n:Nat):usN rs x (n+1)=usN rs x n++inU rs x n (plN rs n):=by
 unfold usN;rw[Ww,WS,W4]
theorem sS(h:PQ bs rs):∀n,n<=rs.length->(usN rs x n).length<=12 * n
 |0,_=>QO _
 |n+1,hn=>by
  have h1:=sS h n (YL hn);have h2:=Ah (rs:=rs) (x:=x) (i:=n) (plN rs n);have h3:=h.n12 hn;rw[vk,QE];omega
abbrev ρU(bs:List Bx)(rs:List Rw)(x:Nat)(l:List U2)(e4 e5 e6 e7:Option S):aJ:=[some (.sh (cS bs rs)),some (.sh (.int x)),some (.sh (aZ bs)),some (.own (.lst (l.map (uD rs x)))),e4,e5,e6,e7]
def CG(h:PQ bs rs)(hx:x<bs.length)(hi:i<rs.length){l:List U2}(hl:l.length<=1000)(e6 e7:Option S):∃e6' e7':Option S,jQ (ρU bs rs x l (some (.sh (.int i))) (some (.sh (ck rs i).d)) e6 e7)=some (.next (ρU bs rs x (l++inU rs x i (plN rs i)) (some (.sh (.int i))) (some (.sh (ck rs i).d)) e6' e7')):=by
 have h12:=h.n12 hi;obtain⟨ρ',e,e6',e7',rfl⟩:=xh (bd:=bTup [6,7]) (body:=mE) (λp:Nat=>D.tup [.int p,plD (plA rs i p)]) (λk ρ=>∃e6 e7:Option S,ρ=ρU bs rs x (l++inU rs x i k) (some (.sh (.int i))) (some (.sh (ck rs i).d)) e6 e7) (plN rs i)
  (ρ:=ρU bs rs x l (some (.sh (.int i))) (some (.sh (ck rs i).d)) e6 e7) ⟨e6,e7,by rw[show inU rs x i 0=[] from rfl,Vz]⟩ (by
  rintro k ρ hk ⟨e6,e7,rfl⟩
  have ok:=h.ok hi hk;have ht:=xV h.hb ok hx;have hw:=AL h.hb ok hx;have hn:=Ah (rs:=rs) (x:=x) (i:=i) k;cases c:K4 rs x i k with
  |true=>
   have c':(jj (bT rs i k)).contains x=true:=c;rw[c'] at ht;refine⟨_,_,rfl,cp (bN rfl (a6 rfl rfl bF) rfl ht) (f6 (ds:=(l++inU rs x i k).map (uD rs x)) (s:=.sh (uD rs x (i,k))) rfl (bN rfl rfl (bN rfl (a6 rfl rfl bF) rfl hw) rfl) (by rw[QG,QE,su];omega)),some (.sh (.int k)),some (.sh (plD (plA rs i k))),?_⟩
   unfold ρU;rw[L0 c,<-V4,VB (l₂:=[(i,k)])];rfl
  |false=>
   have c':(jj (bT rs i k)).contains x=false:=c;rw[c'] at ht;exact⟨_,_,rfl,aq (bN rfl (a6 rfl rfl bF) rfl ht) rfl,some (.sh (.int k)),some (.sh (plD (plA rs i k))),by rw[L4 c];rfl⟩)
 exact⟨e6',e7',fh (Ez (ck rs i).pl plD MK (s:=.sh (.tup ((ck rs i).pl.map plD))) (a6 rfl rfl dD) (.inr rfl)) e⟩
def CH(h:PQ bs rs)(hx:x<bs.length):jH [cS bs rs,.int x]=okD (.lst ((usN rs x rs.length).map (uD rs x))):=by
 obtain⟨ρ',e,e4',e5',e6',e7',rfl⟩:=xh (bd:=bTup [4,5]) (body:=jQ) (λi:Nat=>D.tup [.int i,(ck rs i).d]) (λk ρ=>∃e4 e5 e6 e7:Option S,ρ=ρU bs rs x (usN rs x k) e4 e5 e6 e7) rs.length
  (ρ:=ρU bs rs x [] none none none none) ⟨none,none,none,none,rfl⟩ (by
  rintro k ρ hk ⟨e4,e5,e6,e7,rfl⟩
  have:=sS (x:=x) h k (W7 hk);have:=h.h7;obtain⟨e6',e7',eb⟩:=CG h hx hk (l:=usN rs x k) (by omega) e6 e7
  exact⟨_,_,rfl,eb,_,_,_,_,by rw[vk]⟩)
 exact ao rfl (a3 (ak (a6 rfl rfl bF)) (a3 (ak rfl) (a3 (fh (Ez rs Rw.d ⟨Str.empty,0,[]⟩ (s:=.sh (.tup (rs.map Rw.d))) (a6 rfl rfl bg) (.inr rfl)) e) (bw (ay rfl)))))
def zN{dd:Deed}{t:T3}(h:spX bs dd x=some t):t.1=x:=by
 unfold spX at h;split at h <;> first|cases h|skip
 all_goals
  split at h
  ·cases h;rfl
  ·cases h
theorem sD{g:Nat->Option T3}(hg:∀x t,g x=some t->t.1=x):∀n,(fmN g n).filter (λa=>decide (a.1=x))=if x<n then(g x).toList else[]
 |0=>rfl
 |n+1=>by
  rw[jG,W6,sD hg n];cases e:g n with
  |none=>
   rw[Option.toList_none,Yw,Vz];by_cases c:x=n
   ·subst c;rw[QI (Wo _),QH (Wz _),e];rfl
   ·by_cases c2:x<n
    ·rw[QH c2,QH (by omega)]
    ·rw[QI c2,QI (by omega)]
  |some t=>
   have ht:=hg n t e;rw[Option.toList_some];by_cases c:x=n
   ·subst c;rw[QI (Wo _),QH (Wz _),e,Zl (p:=λa:T3=>decide (a.1=x)) (QV ht)];rfl
   ·rw[Zm (by rw[ZE,ht];omega),Yw,Vz]
    by_cases c2:x<n
    ·rw[QH c2,QH (by omega)]
    ·rw[QI c2,QI (by omega)]
def ET(hb:cM bs){dd:Deed}(ok:dd.Ok bs)(hx:x<bs.length):∃d:D,gX [aZ bs,dd.d,.int x]=okD d/\GL d=okB (!(spX bs dd x).isSome):=by
 have hb8:=hb.1;have hl:=qd (spX bs dd) bs.length;have hc:cU [4] (l9 (ai mw [(a5 0),(a5 1)])) (ba 4) (a9 eh (a9 dIx (a5 4) (eC (.int 0))) (a5 2)) (a9 dIx (a5 4) (eC (.int 1))) [some (.sh (aZ bs)),some (.sh dd.d),some (.sh (.int x)),none,none]=okL (((fmN (spX bs dd) bs.length).filter λa=>decide (a.1=x)).map λa=>intD a.2.1):=
  ox (fmN (spX bs dd) bs.length) tD (λa=>decide (a.1=x)) (λa=>intD a.2.1) (jE (bB rfl rfl (CZ hb ok)) rfl) (by rw[su];omega) λa ha=>⟨_,rfl,a6 (a6 rfl rfl bF) rfl (HE _ _),λ_=>⟨_,a6 rfl rfl bg,rfl⟩⟩
 rw[sD (λ_ _=>zN),QH hx] at hc;cases e:spX bs dd x with
 |none=>
  rw[e] at hc;exact⟨.non,ao rfl (a3 (ak hc) (bw (ay (Ak (a6 (t:=.own (.lst [])) rfl rfl rfl) rfl)))),rfl⟩
 |some t=>
  rw[e] at hc;exact⟨intD t.2.1,ao rfl (a3 (ak hc) (bw (ay (Aj (a6 (t:=.own (.lst [])) rfl rfl rfl) (a6 rfl rfl pV))))),rfl⟩
def xQ(rs:List Rw)(i p j:Nat)(both:Bool):Str:=if(ck rs j).rk<=(ck rs i).rk then Str.ofString "rank" else if(wdAt rs i p).testBit j then Str.ofString "shut" else if both then Str.ofString "over" else Str.ofString "half"
def MN(i j:Nat):HF (.int i) (.int j)=okB (decide (i<=j)):=by rw[Me,show decide ((i:Int)<=(j:Int))=decide (i<=j) from Yc.mpr (by omega)]
def xP{j:Nat}(hi:i<rs.length)(hj:j<rs.length)(both:Bool):kY [cS bs rs,.int i,.int p,.int j,.bl both]=okD (.str (xQ rs i p j both)):=by
 have cl:=a6 (f:=HF) (a:=a9 dIx (a9 dIx (a5 5) (a5 3)) (eC (.int 1))) (b:=a9 dIx (a9 dIx (a5 5) (a5 1)) (eC (.int 1))) (ρ:=[some (.sh (cS bs rs)),some (.sh (.int i)),some (.sh (.int p)),some (.sh (.int j)),some (.sh (.bl both)),some (.sh (.tup (rs.map Rw.d)))]) (a6 (a6 rfl rfl (g8 hj)) rfl bg) (a6 (a6 rfl rfl (g8 hi)) rfl bg) (MN (ck rs j).rk (ck rs i).rk);have cb:=GU (ρ:=[some (.sh (cS bs rs)),some (.sh (.int i)),some (.sh (.int p)),some (.sh (.int j)),some (.sh (.bl both)),some (.sh (.tup (rs.map Rw.d)))]) (w:=wdAt rs i p) (k:=j) (a:=ai j9 [(a5 0),(a5 1),(a5 2)]) (b:=a5 3) (bN rfl rfl rfl (F4 hi p)) rfl;unfold xQ;by_cases d1:(ck rs j).rk<=(ck rs i).rk
 ·rw[QV d1] at cl;rw[QH d1];exact ao rfl (a3 (ak (a6 rfl rfl bg)) (b5 (cp cl (ay rfl))))
 ·rw[QY d1] at cl;rw[QI d1];cases d2:(wdAt rs i p).testBit j with
  |true=>
   rw[d2] at cb;exact ao rfl (a3 (ak (a6 rfl rfl bg)) (a3 (aq cl rfl) (b5 (cp cb (ay rfl)))))
  |false=>
   rw[d2] at cb;cases both with
   |true=>exact ao rfl (a3 (ak (a6 rfl rfl bg)) (a3 (aq cl rfl) (a3 (aq cb rfl) (ay (Aj rfl rfl)))))
   |false=>exact ao rfl (a3 (ak (a6 rfl rfl bg)) (a3 (aq cl rfl) (a3 (aq cb rfl) (ay (Ak rfl rfl)))))
end
abbrev Q5:=Nat×Nat×Nat×Nat×Nat
def d6(rs:List Rw)(t:Q5):D:=.tup [.int t.1,.int t.2.1,.int t.2.2.1,.int t.2.2.2.1,.int t.2.2.2.2,.str (xQ rs t.2.1 t.2.2.1 t.2.2.2.1 (wrt rs t.1 (t.2.1,t.2.2.1) && wrt rs t.1 (t.2.2.2.1,t.2.2.2.2)))]
def Je(rs:List Rw)(x:Nat)(u v:U2):Bool:=!decide (v.1=u.1) && (wrt rs x u || wrt rs x v)
def inP(rs:List Rw)(x:Nat)(u:U2)(l:List U2):List Q5:=(l.filter (Je rs x u)).map λv=>(x,u.1,u.2,v.1,v.2)
def Bl(bs:List Bx)(rs:List Rw)(x:Nat)(u:U2):List Q5:=if(spX bs (bT rs u.1 u.2) x).isSome then inP rs x u (usN rs x rs.length) else[]
def pbL(bs:List Bx)(rs:List Rw)(x:Nat)(l:List U2):List Q5:=l.flatMap (Bl bs rs x)
def prN(bs:List Bx)(rs:List Rw)(n:Nat):List Q5:=(List.range n).flatMap λx=>pbL bs rs x (usN rs x rs.length)
def D5{a b:MC}{ρ ρ':aJ}(h:a ρ=some (.cont ρ')):aC a b ρ=some (.cont ρ'):=by unfold aC;rw[h]
section
variable{bs:List Bx}{rs:List Rw}{x:Nat}{u:U2}
def x6{l:List U2}{v:U2}:inP rs x u (l++[v])=inP rs x u l++if Je rs x u v=true then[(x,u.1,u.2,v.1,v.2)] else[]:=by
 unfold inP;rw[W6,VB];congr 1;by_cases c:Je rs x u v=true
 ·rw[QH c,Zl c];rfl
 ·rw[QI c,Zm c];rfl
def Ai(l:List U2):(inP rs x u l).length<=l.length:=by unfold inP;rw[QG];exact WZ _ _
def mK{v:U2}:v∈usN rs x rs.length↔v.1<rs.length/\v.2<plN rs v.1/\K4 rs x v.1 v.2=true:=by
 unfold usN inU;rw[VZ];constructor
 ·rintro ⟨i,hi,hv⟩
  obtain⟨p,hp,rfl⟩:=V6.mp hv;obtain⟨h1,h2⟩:=WR.mp hp;exact⟨QX.mp hi,QX.mp h1,h2⟩
 ·rintro ⟨h1,h2,h3⟩
  exact⟨v.1,QX.mpr h1,V6.mpr ⟨v.2,WR.mpr ⟨QX.mpr h2,h3⟩,rfl⟩⟩
def F5(h:PQ bs rs):(usN rs x rs.length).length<=84:=by have:=sS (x:=x) h rs.length (QO _);have:=h.h7;omega
abbrev ρB(bs:List Bx)(rs:List Rw)(x:Nat)(l:List Q5)(e4 e5 e6 e7 e8 e9:Option S):aJ:=[some (.sh (cS bs rs)),some (.sh (.int x)),some (.sh (.lst ((usN rs x rs.length).map (uD rs x)))),some (.own (.lst (l.map (d6 rs)))),e4,e5,e6,e7,e8,e9]
abbrev nS(n:Nat):Option S:=some (.sh (.int n))
abbrev bS(b:Bool):Option S:=some (.sh (.bl b))
def KD(h:PQ bs rs)(hu:u.1<rs.length){l:List Q5}(hl:l.length<=10000)(e7 e8 e9:Option S):∃e7' e8' e9':Option S,hG (ρB bs rs x l (nS u.1) (nS u.2) (bS (wrt rs x u)) e7 e8 e9)=some (.next (ρB bs rs x (l++inP rs x u (usN rs x rs.length)) (nS u.1) (nS u.2) (bS (wrt rs x u)) e7' e8' e9')):=by
 have h84:=F5 (x:=x) h;obtain⟨ρ',e,e7',e8',e9',rfl⟩:=mv (bd:=bTup [7,8,9]) (body:=jf) (uD rs x) (λq ρ=>∃e7 e8 e9:Option S,ρ=ρB bs rs x (l++inP rs x u q) (nS u.1) (nS u.2) (bS (wrt rs x u)) e7 e8 e9) (usN rs x rs.length)
  (ρ:=ρB bs rs x l (nS u.1) (nS u.2) (bS (wrt rs x u)) e7 e8 e9) ⟨e7,e8,e9,by rw[show inP rs x u []=[] from rfl,Vz]⟩ (by
  rintro q v post ρ hq ⟨e7,e8,e9,rfl⟩
  have hv:v∈usN rs x rs.length:=by rw[hq];simp
  have hv1:=(mK.mp hv).1;have hql:q.length<=84:=by rw[hq,QE] at h84;omega
  have hn:=Ai (rs:=rs) (x:=x) (u:=u) q;have hc:fu (a9 qk (a5 7) (a5 4)) (qy (a5 6) (a5 9)) (ρB bs rs x (l++inP rs x u q) (nS u.1) (nS u.2) (bS (wrt rs x u)) (nS v.1) (nS v.2) (bS (wrt rs x v)))=okB (Je rs x u v):=sQ (a6 rfl rfl (Ma _ _)) (KG rfl rfl);have hb:fu (a5 6) (a5 9) (ρB bs rs x (l++inP rs x u q) (nS u.1) (nS u.2) (bS (wrt rs x u)) (nS v.1) (nS v.2) (bS (wrt rs x v)))=okB (wrt rs x u && wrt rs x v):=sQ rfl rfl;have hw:=xP (bs:=bs) (p:=u.2) hu hv1 (wrt rs x u && wrt rs x v);cases c:Je rs x u v with
  |true=>
   rw[c] at hc;refine⟨_,_,rfl,.inl (cp hc (f6 (ds:=(l++inP rs x u q).map (d6 rs)) (s:=.sh (d6 rs (x,u.1,u.2,v.1,v.2))) rfl (HH rfl rfl rfl rfl rfl (HI rfl rfl rfl rfl hb hw) rfl) (by rw[QG,QE,su];omega))),nS v.1,nS v.2,bS (wrt rs x v),?_⟩
   unfold ρB;rw[x6,QH c,<-V4,VB (l₂:=[(x,u.1,u.2,v.1,v.2)])];rfl
  |false=>
   rw[c] at hc;refine⟨_,_,rfl,.inl (aq hc rfl),nS v.1,nS v.2,bS (wrt rs x v),?_⟩;rw[x6,QI (by rw[c];exact QC),Vz]
   rfl)
 exact⟨e7',e8',e9',bw (fh (jE rfl rfl) e)⟩
def zm{i p:Nat}(hi:i<rs.length)(hp:p<plN rs i):ja [cS bs rs,.int i,.int p]=okD (bT rs i p).d:=
 ao rfl (ay (a6 (a6 (a6 (a6 (a6 rfl rfl bg) rfl (g8 hi)) rfl dD) rfl (ix_tup (d:=plD (plA rs i p)) (by rw[Vy,om hp];rfl))) rfl bF))
theorem yk(h:PQ bs rs):∀l:List U2,(pbL bs rs x l).length<=84 * l.length
 |[]=>QO _
 |u::l=>by
  have h1:=yk h l;have h2:(Bl bs rs x u).length<=84:=by
   unfold Bl;split
   ·exact V5 (Ai _) (F5 h)
   ·exact VA _
  show((u::l).flatMap (Bl bs rs x)).length<=_;rw[List.flatMap_cons,QE,QS];have h1:(l.flatMap (Bl bs rs x)).length<=84 * l.length:=h1;omega
def JO(h:PQ bs rs)(hx:x<bs.length):eT [cS bs rs,.int x]=okD (.lst ((pbL bs rs x (usN rs x rs.length)).map (d6 rs))):=by
 have h84:=F5 (x:=x) h;obtain⟨ρ',e,e4,e5,e6,e7,e8,e9,rfl⟩:=mv (bd:=bTup [4,5,6]) (body:=je) (uD rs x) (λq ρ=>∃e4 e5 e6 e7 e8 e9:Option S,ρ=ρB bs rs x (pbL bs rs x q) e4 e5 e6 e7 e8 e9) (usN rs x rs.length)
  (ρ:=ρB bs rs x [] none none none none none none) ⟨none,none,none,none,none,none,rfl⟩ (by
  rintro q u post ρ hq ⟨e4,e5,e6,e7,e8,e9,rfl⟩
  have hu:u∈usN rs x rs.length:=by rw[hq];simp
  obtain⟨u1,u2,u3⟩:=mK.mp hu;have hql:q.length<=84:=by rw[hq,QE] at h84;omega
  have hpl:=yk (x:=x) h q;obtain⟨d,ed,hd⟩:=ET h.hb (h.ok u1 u2) hx;have hc:lh GL (ai gX [(a9 dIx (a5 0) (eC (.int 0))),(ai ja [(a5 0),(a5 4),(a5 5)]),(a5 1)]) (ρB bs rs x (pbL bs rs x q) (nS u.1) (nS u.2) (bS (wrt rs x u)) e7 e8 e9)=okB (!(spX bs (bT rs u.1 u.2) x).isSome):=oC (bN (a6 rfl rfl bF) (bN rfl rfl rfl (zm u1 u2)) rfl ed) hd;have es:pbL bs rs x (q++[u])=pbL bs rs x q++Bl bs rs x u:=by unfold pbL;rw[WS,W4]
  cases c:(spX bs (bT rs u.1 u.2) x).isSome with
  |true=>
   rw[c] at hc;obtain⟨e7',e8',e9',eb⟩:=KD (x:=x) h u1 (l:=pbL bs rs x q) (by omega) e7 e8 e9
   refine⟨_,_,rfl,.inl (a3 (aq hc rfl) eb),nS u.1,nS u.2,bS (wrt rs x u),e7',e8',e9',?_⟩;rw[es,show Bl bs rs x u=inP rs x u (usN rs x rs.length) from QH c]
  |false=>
   rw[c] at hc;refine⟨_,_,rfl,.inr (D5 (cp hc rfl)),nS u.1,nS u.2,bS (wrt rs x u),e7,e8,e9,?_⟩;rw[es,show Bl bs rs x u=[] from QI (by rw[c];exact QC),Vz]
   rfl)
 exact ao rfl (a3 (ak (bB rfl rfl (CH h hx))) (a3 (ak rfl) (bw (a3 (fh (jE rfl rfl) e) (bw (ay rfl))))))
def w9(n:Nat):prN bs rs (n+1)=prN bs rs n++pbL bs rs n (usN rs n rs.length):=by unfold prN;rw[Ww,WS,W4]
def we(h:PQ bs rs):(pbL bs rs x (usN rs x rs.length)).length<=7056:=by
 have:=yk (x:=x) h (usN rs x rs.length);have:=F5 (x:=x) h;omega
theorem zZ(h:PQ bs rs):∀n,(prN bs rs n).length<=7056 * n
 |0=>QO _
 |n+1=>by rw[w9,QE];have:=zZ h n;have:=we (x:=n) h;omega
def Du(h:PQ bs rs){s:S}(ho:kB (.lst ((prN bs rs bs.length).map (d6 rs)))=some (.ok s)):jI [cS bs rs]=some (.ok s):=by
 have h8:=h.hb.1;obtain⟨ρ',e,e2,rfl⟩:=cy (bd:=ba 2) (body:=sN) (λk ρ=>∃e2:Option S,ρ=[some (.sh (cS bs rs)),some (.own (.lst ((prN bs rs k).map (d6 rs)))),e2]) bs.length (ρ:=[some (.sh (cS bs rs)),some (.own (.lst [])),none]) ⟨none,rfl⟩ (by
  rintro k ρ hk ⟨e2,rfl⟩
  have h1:=zZ h k;have h2:=we (x:=k) h;refine⟨_,_,rfl,xm (ds:=(prN bs rs k).map (d6 rs)) rfl (bB rfl rfl (JO h hk)) rfl (by rw[QG,QG,su];omega),nS k,?_⟩
  rw[w9,VB];rfl)
 exact ao rfl (a3 (ak rfl) (a3 (fh (cq (eQ (a6 rfl rfl bF) (j6 bs)) (bI (by omega))) e) (bw (ay (oC rfl ho)))))
end
def rm(rs:List Rw)(x:Nat)(u v:U2):Bool:=K4 rs x v.1 v.2 && (wrt rs x u || wrt rs x v)
def besN(rs:List Rw)(x:Nat)(u:U2)(j n:Nat):List Q5:=((List.range n).filter λq=>rm rs x u (j,q)).map λq=>(x,u.1,u.2,j,q)
def lw1(rs:List Rw)(x:Nat)(u:U2)(n:Nat):List Q5:=(List.range n).flatMap λj=>if j=u.1 then[] else besN rs x u j (plN rs j)
def lw2(rs:List Rw)(u:U2)(l:List T3):List Q5:=l.flatMap λt=>lw1 rs t.1 u rs.length
def lw3(bs:List Bx)(rs:List Rw)(i n:Nat):List Q5:=(List.range n).flatMap λp=>lw2 rs (i,p) (fmN (spX bs (bT rs i p)) bs.length)
def lw4(bs:List Bx)(rs:List Rw)(n:Nat):List Q5:=(List.range n).flatMap λi=>lw3 bs rs i (plN rs i)
section
variable{bs:List Bx}{rs:List Rw}{x j:Nat}{u:U2}
def Ll{n:Nat}(h:rm rs x u (j,n)=true):besN rs x u j (n+1)=besN rs x u j n++[(x,u.1,u.2,j,n)]:=by
 unfold besN;rw[Ww,W6,Zl (p:=λq=>rm rs x u (j,q)) h,VB];rfl
def Lm{n:Nat}(h:rm rs x u (j,n)=false):besN rs x u j (n+1)=besN rs x u j n:=by
 unfold besN;rw[Ww,W6,Zm (p:=λq=>rm rs x u (j,q)) (by rw[h];exact QC),Yw,Vz]
def vb(n:Nat):(besN rs x u j n).length<=n:=by
 unfold besN;rw[QG];refine V5 (WZ _ _) ?_;rw[V2];exact QO _
def Ad{i p:Nat}(hp:p<plN rs i):dIx (.tup ((ck rs i).pl.map plD)) (.int p)=okD (plD (plA rs i p)):=ix_tup (by rw[Vy,om hp];rfl)
def Kc{i p:Nat}(hp:p<plN rs i):(plA rs i p).2=wdAt rs i p:=by unfold wdAt;rw[om hp];rfl
abbrev ρL(bs:List Bx)(rs:List Rw)(x:Nat)(u:U2)(j:Nat)(l:List Q5)(e8 e9 e10 e11:Option S):aJ:=
 [some (.sh (cS bs rs)),some (.sh (.int x)),some (.sh (.int u.1)),some (.sh (.int u.2)),some (.sh (.int j)),some (.sh (.tup (rs.map Rw.d))),some (.sh (.bl (wrt rs x u))),some (.own (.lst (l.map (d6 rs)))),e8,e9,e10,e11]
theorem Kb(hu1:u.1<rs.length)(hu2:u.2<plN rs u.1)(hj:j<rs.length){q:Nat}{l:List Q5}(hl:l.length<=1000)(e11:Option S):∃e11':Option S,
  (aC (bq 11 (a9 dIx (cC [(eC (.str (Str.ofString "half"))),(eC (.str (Str.ofString "over")))]) (ai (f1 GM) [(fu (a5 6) (a5 10))]))) (aC (gI (a9 eh (a9 lD (a9 uU (a9 dIx (a9 dIx (a9 dIx (a9 dIx (a5 5) (a5 2)) (eC (.int 2))) (a5 3)) (eC (.int 1))) (a5 4)) (eC (.int 1))) (eC (.int 1))) (bq 11 (eC (.str (Str.ofString "shut")))) bx) (aC (gI (a9 HF (a9 dIx (a9 dIx (a5 5) (a5 4)) (eC (.int 1))) (a9 dIx (a9 dIx (a5 5) (a5 2)) (eC (.int 1)))) (bq 11 (eC (.str (Str.ofString "rank")))) bx) (cO 7 (bA [(a5 1),(a5 2),(a5 3),(a5 4),(a5 8),(a5 11)])))))
   (ρL bs rs x u j l (nS q) (some (.sh (bT rs j q).d)) (bS (wrt rs x (j,q))) e11)=some (.next (ρL bs rs x u j (l++[(x,u.1,u.2,j,q)]) (nS q) (some (.sh (bT rs j q).d)) (bS (wrt rs x (j,q))) e11')):=by
 have h1:∀e,a9 dIx (cC [(eC (.str (Str.ofString "half"))),(eC (.str (Str.ofString "over")))]) (ai (f1 GM) [(fu (a5 6) (a5 10))]) (ρL bs rs x u j l (nS q) (some (.sh (bT rs j q).d)) (bS (wrt rs x (j,q))) e)=okD (.str (if(wrt rs x u && wrt rs x (j,q))=true then Str.ofString "over" else Str.ofString "half")):=λe=>by
  refine a6 (s:=.own (.lst [.str (Str.ofString "half"),.str (Str.ofString "over")])) (t:=.sh (.int (if(wrt rs x u && wrt rs x (j,q))=true then 1 else 0))) rfl (bK (sQ rfl rfl) ?_) ?_
  ·cases wrt rs x u && wrt rs x (j,q) <;> rfl
  ·cases wrt rs x u && wrt rs x (j,q)
   ·exact pV
   ·exact wX
 have h2:∀e,a9 eh (a9 lD (a9 uU (a9 dIx (a9 dIx (a9 dIx (a9 dIx (a5 5) (a5 2)) (eC (.int 2))) (a5 3)) (eC (.int 1))) (a5 4)) (eC (.int 1))) (eC (.int 1)) (ρL bs rs x u j l (nS q) (some (.sh (bT rs j q).d)) (bS (wrt rs x (j,q))) e)=okB ((wdAt rs u.1 u.2).testBit j):=λe=>
  GV (by rw[<-Kc hu2];exact a6 (a6 (a6 (a6 rfl rfl (g8 hu1)) rfl dD) rfl (Ad hu2)) rfl bg) rfl
 have h3:∀e,a9 HF (a9 dIx (a9 dIx (a5 5) (a5 4)) (eC (.int 1))) (a9 dIx (a9 dIx (a5 5) (a5 2)) (eC (.int 1))) (ρL bs rs x u j l (nS q) (some (.sh (bT rs j q).d)) (bS (wrt rs x (j,q))) e)=okB (decide ((ck rs j).rk<=(ck rs u.1).rk)):=λe=>
  a6 (a6 (a6 rfl rfl (g8 hj)) rfl bg) (a6 (a6 rfl rfl (g8 hu1)) rfl bg) (MN _ _)
 have ap:∀w:Str,w=xQ rs u.1 u.2 j (wrt rs x u && wrt rs x (j,q))->cO 7 (bA [(a5 1),(a5 2),(a5 3),(a5 4),(a5 8),(a5 11)]) (ρL bs rs x u j l (nS q) (some (.sh (bT rs j q).d)) (bS (wrt rs x (j,q))) (some (.sh (.str w))))=some (.next (ρL bs rs x u j (l++[(x,u.1,u.2,j,q)]) (nS q) (some (.sh (bT rs j q).d)) (bS (wrt rs x (j,q))) (some (.sh (.str w))))):=λw hw=>by
  refine(f6 (ds:=l.map (d6 rs)) (s:=.sh (d6 rs (x,u.1,u.2,j,q))) rfl (HH rfl rfl rfl rfl rfl rfl (by rw[hw];rfl)) (by rw[QG,su];omega)).trans ?_
  unfold ρL;rw[VB (l₂:=[(x,u.1,u.2,j,q)])];rfl
 by_cases c3:(ck rs j).rk<=(ck rs u.1).rk
 ·have h3:=λe=>h3 e;simp only[QV c3] at h3;have a:=ap (Str.ofString "rank") (by unfold xQ;rw[QH c3])
  cases c2:(wdAt rs u.1 u.2).testBit j with
  |true=>simp only[c2] at h2;exact⟨_,a3 (ak (h1 e11)) (a3 (cp (h2 _) (ak rfl)) (a3 (cp (h3 _) (ak rfl)) a))⟩
  |false=>simp only[c2] at h2;exact⟨_,a3 (ak (h1 e11)) (a3 (aq (h2 _) rfl) (a3 (cp (h3 _) (ak rfl)) a))⟩
 ·simp only[QY c3] at h3;cases c2:(wdAt rs u.1 u.2).testBit j with
  |true=>simp only[c2] at h2;exact⟨_,a3 (ak (h1 e11)) (a3 (cp (h2 _) (ak rfl)) (a3 (aq (h3 _) rfl) (ap (Str.ofString "shut") (by unfold xQ;rw[QI c3,QH c2]))))⟩
  |false=>simp only[c2] at h2;exact⟨_,a3 (ak (h1 e11)) (a3 (aq (h2 _) rfl) (a3 (aq (h3 _) rfl) (ap (if(wrt rs x u && wrt rs x (j,q))=true then Str.ofString "over" else Str.ofString "half") (by unfold xQ;rw[QI c3,c2];rfl))))⟩
def JT(h:PQ bs rs)(hu1:u.1<rs.length)(hu2:u.2<plN rs u.1)(hj:j<rs.length):gG [cS bs rs,.int x,.int u.1,.int u.2,.int j]=okD (.lst ((besN rs x u j (plN rs j)).map (d6 rs))):=by
 have h12:=h.n12 hj;obtain⟨ρ',e,e8,e9,e10,e11,rfl⟩:=cy (bd:=ba 8) (body:=kF) (λk ρ=>∃e8 e9 e10 e11:Option S,ρ=ρL bs rs x u j (besN rs x u j k) e8 e9 e10 e11) (plN rs j) (ρ:=ρL bs rs x u j [] none none none none) ⟨none,none,none,none,rfl⟩ (by
  rintro k ρ hk ⟨e8,e9,e10,e11,rfl⟩
  have ed:a9 dIx (a9 dIx (a9 dIx (a9 dIx (a5 5) (a5 4)) (eC (.int 2))) (a5 8)) (eC (.int 0)) (ρL bs rs x u j (besN rs x u j k) (nS k) e9 e10 e11)=okD (bT rs j k).d:=a6 (a6 (a6 (a6 rfl rfl (g8 hj)) rfl dD) rfl (Ad hk)) rfl bF;have hl:=vb (rs:=rs) (x:=x) (u:=u) (j:=j) k;have hc:fu (a9 (GN false) (a5 1) (ai fW [(a5 9)])) (qy (a5 6) (a5 10)) (ρL bs rs x u j (besN rs x u j k) (nS k) (some (.sh (bT rs j k).d)) (bS (wrt rs x (j,k))) e11)=okB (rm rs x u (j,k)):=sQ (a6 rfl (bK rfl (uL _)) KZ) (KG rfl rfl);cases c:rm rs x u (j,k) with
  |true=>
   rw[c] at hc;obtain⟨e11',ew⟩:=Kb (bs:=bs) (x:=x) (q:=k) (l:=besN rs x u j k) hu1 hu2 hj (by omega) e11
   exact⟨_,_,rfl,a3 (ak ed) (a3 (ak (bB rfl rfl (iG _ x))) (cp hc ew)),_,_,_,e11',by rw[Ll c]⟩
  |false=>
   rw[c] at hc;exact⟨_,_,rfl,a3 (ak ed) (a3 (ak (bB rfl rfl (iG _ x))) (aq hc rfl)),nS k,some (.sh (bT rs j k).d),bS (wrt rs x (j,k)),e11,by rw[Lm c];rfl⟩)
 exact ao rfl (a3 (ak (a6 rfl rfl bg)) (a3 (ak (bB (a6 (a6 (a6 (a6 rfl rfl (g8 hu1)) rfl dD) rfl (Ad hu2)) rfl bF) rfl (iG _ x))) (a3 (ak rfl) (a3 (fh (cq (eQ (a6 (a6 rfl rfl (g8 hj)) rfl dD) (uK _)) (bI (by show plN rs j<=_;omega))) e) (bw (ay rfl))))))
end
section
variable{bs:List Bx}{rs:List Rw}
def pS(x:Nat)(u:U2)(n:Nat):lw1 rs x u (n+1)=lw1 rs x u n++if n=u.1 then[] else besN rs x u n (plN rs n):=by unfold lw1;rw[Ww,WS,W4]
theorem uJ(h:PQ bs rs)(x:Nat)(u:U2):∀n,n<=rs.length->(lw1 rs x u n).length<=12 * n
 |0,_=>QO _
 |n+1,hn=>by
  have h1:=uJ h x u n (YL hn);have h2:=vb (rs:=rs) (x:=x) (u:=u) (j:=n) (plN rs n);have h3:=h.n12 hn;rw[pS,QE];split
  ·rw[List.length_nil];omega
  ·omega
def DT(u:U2)(l:List T3)(t:T3):lw2 rs u (l++[t])=lw2 rs u l++lw1 rs t.1 u rs.length:=by unfold lw2;rw[WS,W4]
theorem uI(h:PQ bs rs)(u:U2):∀l:List T3,(lw2 rs u l).length<=84 * l.length
 |[]=>QO _
 |t::l=>by
  have h1:=uI h u l;have h2:=uJ h t.1 u rs.length (QO _);have h3:=h.h7;show((t::l).flatMap _).length<=_;rw[List.flatMap_cons,QE,QS];have h1:(l.flatMap λt=>lw1 rs t.1 u rs.length).length<=84 * l.length:=h1;omega
def wU(i n:Nat):lw3 bs rs i (n+1)=lw3 bs rs i n++lw2 rs (i,n) (fmN (spX bs (bT rs i n)) bs.length):=by unfold lw3;rw[Ww,WS,W4]
theorem uH(h:PQ bs rs)(i:Nat):∀n,(lw3 bs rs i n).length<=672 * n
 |0=>QO _
 |n+1=>by
  have h1:=uH h i n;have h2:=uI h (i,n) (fmN (spX bs (bT rs i n)) bs.length);have h3:=qd (spX bs (bT rs i n)) bs.length;have h4:=h.hb.1;rw[wU,QE];omega
def wR(n:Nat):lw4 bs rs (n+1)=lw4 bs rs n++lw3 bs rs n (plN rs n):=by unfold lw4;rw[Ww,WS,W4]
theorem Ac(h:PQ bs rs):∀n,n<=rs.length->(lw4 bs rs n).length<=8064 * n
 |0,_=>QO _
 |n+1,hn=>by
  have h1:=Ac h n (YL hn);have h2:=uH h n (plN rs n);have h3:=h.n12 hn;rw[wR,QE];omega
abbrev ρW(bs:List Bx)(rs:List Rw)(l:List Q5)(e3 e4 e5 e6:Option S):aJ:=[some (.sh (cS bs rs)),some (.sh (.tup (rs.map Rw.d))),some (.own (.lst (l.map (d6 rs)))),e3,e4,e5,e6]
def wV(rs:List Rw):bU (.tup (rs.map Rw.d))=okI (rs.length:Nat):=by rw[xv,QG]
def lw_1(h:PQ bs rs){u:U2}(hu1:u.1<rs.length)(hu2:u.2<plN rs u.1)(t:T3){l:List Q5}(hl:l.length<=60000)(e6:Option S):∃e6':Option S,iL (ρW bs rs l (nS u.1) (nS u.2) (some (.sh (tD t))) e6)=some (.next (ρW bs rs (l++lw1 rs t.1 u rs.length) (nS u.1) (nS u.2) (some (.sh (tD t))) e6')):=by
 have h7:=h.h7;obtain⟨ρ',e,e6',rfl⟩:=cy (bd:=ba 6) (body:=lG) (λk ρ=>∃e6:Option S,ρ=ρW bs rs (l++lw1 rs t.1 u k) (nS u.1) (nS u.2) (some (.sh (tD t))) e6) rs.length (ρ:=ρW bs rs l (nS u.1) (nS u.2) (some (.sh (tD t))) e6) ⟨e6,by rw[show lw1 rs t.1 u 0=[] from rfl,Vz]⟩ (by
  rintro k ρ hk ⟨e6,rfl⟩
  have h1:=uJ h t.1 u k (W7 hk);have h2:=vb (rs:=rs) (x:=t.1) (u:=u) (j:=k) (plN rs k);have h3:=h.n12 hk;by_cases c:k=u.1
  ·refine⟨_,_,rfl,aq (a6 rfl rfl (Gf (by rw[c]))) rfl,nS k,?_⟩
   rw[pS,QH c,Vz];rfl
  ·refine⟨_,_,rfl,cp (a6 rfl rfl (Gc (by omega))) (xm (ds:=(l++lw1 rs t.1 u k).map (d6 rs)) rfl (HI rfl (a6 rfl rfl bF) rfl rfl rfl (JT (x:=t.1) h hu1 hu2 hk)) rfl (by rw[QG,QG,QE,su];omega)),nS k,?_⟩
   unfold ρW;rw[pS,QI c,<-V4,VB (l₂:=besN rs t.1 u k (plN rs k))];rfl)
 exact⟨e6',fh (cq (eQ (f9 rfl) (wV rs)) (bI (by omega))) e⟩
def lw_2(h:PQ bs rs){u:U2}(hu1:u.1<rs.length)(hu2:u.2<plN rs u.1){l:List Q5}(hl:l.length<=59000)(e5 e6:Option S):∃e5' e6':Option S,iK (ρW bs rs l (nS u.1) (nS u.2) e5 e6)=some (.next (ρW bs rs (l++lw2 rs u (fmN (spX bs (bT rs u.1 u.2)) bs.length)) (nS u.1) (nS u.2) e5' e6')):=by
 have h8:=h.hb.1;have hf:=qd (spX bs (bT rs u.1 u.2)) bs.length;obtain⟨ρ',e,e5',e6',rfl⟩:=mv (bd:=ba 5) (body:=iL) tD (λq ρ=>∃e5 e6:Option S,ρ=ρW bs rs (l++lw2 rs u q) (nS u.1) (nS u.2) e5 e6) (fmN (spX bs (bT rs u.1 u.2)) bs.length) (ρ:=ρW bs rs l (nS u.1) (nS u.2) e5 e6) ⟨e5,e6,by rw[show lw2 rs u []=[] from rfl,Vz]⟩ (by
  rintro q t post ρ hq ⟨e5,e6,rfl⟩
  have hql:q.length<=8:=by rw[hq,QE] at hf;omega
  have h1:=uI h u q;obtain⟨e6',e⟩:=lw_1 h hu1 hu2 t (l:=l++lw2 rs u q) (by rw[QE];omega) e6
  refine⟨_,_,rfl,.inl e,some (.sh (tD t)),e6',?_⟩;rw[DT,V4])
 exact⟨e5',e6',fh (jE (bB (a6 rfl rfl bF) (a6 (a6 (a6 (a6 rfl rfl (g8 hu1)) rfl dD) rfl (Ad hu2)) rfl bF) (y0 h.hb (h.ok hu1 hu2))) rfl) e⟩
def lw_3(h:PQ bs rs){i:Nat}(hi:i<rs.length){l:List Q5}(hl:l.length<=50000)(e4 e5 e6:Option S):∃e4' e5' e6':Option S,iJ (ρW bs rs l (nS i) e4 e5 e6)=some (.next (ρW bs rs (l++lw3 bs rs i (plN rs i)) (nS i) e4' e5' e6')):=by
 have h12:=h.n12 hi;obtain⟨ρ',e,e4',e5',e6',rfl⟩:=cy (bd:=ba 4) (body:=iK) (λk ρ=>∃e4 e5 e6:Option S,ρ=ρW bs rs (l++lw3 bs rs i k) (nS i) e4 e5 e6) (plN rs i) (ρ:=ρW bs rs l (nS i) e4 e5 e6) ⟨e4,e5,e6,by rw[show lw3 bs rs i 0=[] from rfl,Vz]⟩ (by
  rintro k ρ hk ⟨e4,e5,e6,rfl⟩
  have h1:=uH h i k;obtain⟨e5',e6',e⟩:=lw_2 h (u:=(i,k)) hi hk (l:=l++lw3 bs rs i k) (by rw[QE];omega) e5 e6
  refine⟨_,_,rfl,e,nS k,e5',e6',?_⟩;rw[wU,V4])
 exact⟨e4',e5',e6',fh (cq (eQ (a6 (a6 rfl rfl (g8 hi)) rfl dD) (uK _)) (bI (by show plN rs i<=_;omega))) e⟩
def uM(h:PQ bs rs){s:S}(ho:kB (.lst ((lw4 bs rs rs.length).map (d6 rs)))=some (.ok s)):eg [cS bs rs]=some (.ok s):=by
 have h7:=h.h7;obtain⟨ρ',e,e3,e4,e5,e6,rfl⟩:=cy (bd:=ba 3) (body:=iJ) (λk ρ=>∃e3 e4 e5 e6:Option S,ρ=ρW bs rs (lw4 bs rs k) e3 e4 e5 e6) rs.length (ρ:=ρW bs rs [] none none none none) ⟨none,none,none,none,rfl⟩ (by
  rintro k ρ hk ⟨e3,e4,e5,e6,rfl⟩
  have h1:=Ac h k (W7 hk);obtain⟨e4',e5',e6',e⟩:=lw_3 h hk (l:=lw4 bs rs k) (by omega) e4 e5 e6
  exact⟨_,_,rfl,e,nS k,e4',e5',e6',by rw[wR]⟩)
 exact ao rfl (a3 (ak (a6 rfl rfl bg)) (a3 (ak rfl) (a3 (fh (cq (eQ (f9 rfl) (wV rs)) (bI (by omega))) e) (bw (ay (oC rfl ho))))))
end
def jC{α β γ:Type}{l:List α}{f:α->List β}(π:β->γ)(κ:α->γ)(hκ:l.Pairwise λa b=>κ a≠κ b)(h1:∀a∈l,(f a).Nodup)(h2:∀a∈l,∀b∈f a,π b=κ a):(l.flatMap f).Nodup:=by
 refine List.pairwise_flatMap.mpr ⟨h1,hκ.imp_of_mem λ{a b} ha hb n x hx y hy e=>n ?_⟩;rw[<-h2 a ha x hx,<-h2 b hb y hy,e]
def iY(n:Nat):(List.range n).Pairwise λa b=>a≠b:=List.nodup_range
def Hu{α:Type}{n:Nat}{p:Nat->Bool}{f:Nat->α}(hf:∀a b,f a=f b->a=b):(((List.range n).filter p).map f).Nodup:=
 WY.mpr (YG (λ{a b} n e=>n (hf a b e)) (VY List.filter_sublist (iY n)))
section
variable{bs:List Bx}{rs:List Rw}
def HN(bs:List Bx)(rs:List Rw)(t:Q5):Prop:=t.1<bs.length/\t.2.1<rs.length/\t.2.2.1<plN rs t.2.1/\(spX bs (bT rs t.2.1 t.2.2.1) t.1).isSome=true/\t.2.2.2.1<rs.length/\t.2.2.2.2<plN rs t.2.2.2.1/\t.2.2.2.1≠t.2.1/\rm rs t.1 (t.2.1,t.2.2.1) (t.2.2.2.1,t.2.2.2.2)=true
def D0{dd:Deed}{x:Nat}(h:(spX bs dd x).isSome=true):(jj dd).contains x=true:=by
 unfold spX at h;split at h
 ·split at h
  ·rename_i e;rw[e.1];exact(mL _ _).trans (QV rfl)
  ·cases h
 ·split at h
  ·rename_i e;rw[jj,oE];rcases e.1 with e|e <;> simp[e]
  ·cases h
 ·split at h
  ·rename_i e;rw[e];exact(mL _ _).trans (QV rfl)
  ·cases h
 ·split at h
  ·rename_i e;rw[jj,CL,e.1];simp
  ·cases h
 ·cases h
def DQ(t:Q5):t∈prN bs rs bs.length↔HN bs rs t:=by
 unfold prN pbL HN;rw[VZ];constructor
 ·rintro ⟨x,hx,h⟩
  obtain⟨u,hu,h⟩:=VZ.mp h;obtain⟨u1,u2,_⟩:=mK.mp hu;unfold Bl at h;split at h
  ·rename_i c;obtain⟨v,hv,rfl⟩:=V6.mp h;obtain⟨v1,v2⟩:=WR.mp hv;obtain⟨w1,w2,w3⟩:=mK.mp v1;unfold Je at v2;rw[VJ,Zg,W5] at v2;exact⟨QX.mp hx,u1,u2,c,w1,w2,v2.1,by unfold rm;rw[VJ];exact⟨w3,v2.2⟩⟩
  ·exact nomatch h
 ·rintro ⟨h1,h2,h3,h4,h5,h6,h7,h8⟩
  unfold rm at h8;rw[VJ] at h8;refine⟨t.1,QX.mpr h1,VZ.mpr ⟨(t.2.1,t.2.2.1),mK.mpr ⟨h2,h3,D0 h4⟩,?_⟩⟩;unfold Bl;rw[QH h4];refine V6.mpr ⟨(t.2.2.2.1,t.2.2.2.2),WR.mpr ⟨mK.mpr ⟨h5,h6,h8.1⟩,?_⟩,rfl⟩;unfold Je;rw[VJ,Zg,W5];exact⟨h7,h8.2⟩
def zh{g:Nat->Option T3}{n:Nat}{a:T3}:a∈fmN g n↔∃x,x<n/\g x=some a:=by
 unfold fmN;rw[Y6];exact⟨λ⟨x,h1,h2⟩=>⟨x,QX.mp h1,h2⟩,λ⟨x,h1,h2⟩=>⟨x,QX.mpr h1,h2⟩⟩
def DR(t:Q5):t∈lw4 bs rs rs.length↔HN bs rs t:=by
 unfold lw4 lw3 lw2 lw1 HN;constructor
 ·intro h;obtain⟨i,hi,h⟩:=VZ.mp h;obtain⟨p,hp,h⟩:=VZ.mp h;obtain⟨a,ha,h⟩:=VZ.mp h;obtain⟨j,hj,h⟩:=VZ.mp h;obtain⟨x,hx,e⟩:=zh.mp ha;have e1:=zN e;split at h
  ·exact nomatch h
  ·rename_i c;obtain⟨q,hq,rfl⟩:=V6.mp h;obtain⟨q1,q2⟩:=WR.mp hq;exact⟨by rw[e1];exact hx,QX.mp hi,QX.mp hp,by rw[e1,e];rfl,QX.mp hj,QX.mp q1,c,q2⟩
 ·rintro ⟨h1,h2,h3,h4,h5,h6,h7,h8⟩
  obtain⟨a,ea⟩:=Xq.mp h4;refine VZ.mpr ⟨t.2.1,QX.mpr h2,VZ.mpr ⟨t.2.2.1,QX.mpr h3,VZ.mpr ⟨a,zh.mpr ⟨t.1,h1,ea⟩,VZ.mpr ⟨t.2.2.2.1,QX.mpr h5,?_⟩⟩⟩⟩;rw[QI h7,zN ea];exact V6.mpr ⟨t.2.2.2.2,WR.mpr ⟨QX.mpr h6,h8⟩,rfl⟩
def Hq(x n:Nat):(usN rs x n).Nodup:=jC (·.1) id (iY n) (λi _=>Hu λa b e=>(Zd e).2) λi _ b hb=>by
 obtain⟨p,_,rfl⟩:=V6.mp hb;rfl
def Hr:(prN bs rs bs.length).Nodup:=by
 refine jC (·.1) id (iY _) (λx _=>?_) λx _ t ht=>?_
 ·refine jC (λt:Q5=>((t.2.1,t.2.2.1):U2)) id (Hq x _) (λu _=>?_) λu _ t ht=>?_
  ·unfold Bl;split
   ·refine WY.mpr (YG (λ{a b} n e=>n ?_) (VY List.filter_sublist (Hq x _)));have e:=(Zd (Zd (Zd e).2).2).2;exact e
   ·exact .nil
  ·unfold Bl at ht;split at ht
   ·obtain⟨v,_,rfl⟩:=V6.mp ht;rfl
   ·exact nomatch ht
 ·obtain⟨u,_,ht⟩:=VZ.mp ht;unfold Bl at ht;split at ht
  ·obtain⟨v,_,rfl⟩:=V6.mp ht;rfl
  ·exact nomatch ht
theorem HD{g:Nat->Option T3}(hg:∀x t,g x=some t->t.1=x):∀n,(fmN g n).Pairwise λa b=>a.1≠b.1
 |0=>.nil
 |n+1=>by
  rw[jG];refine VL.mpr ⟨HD hg n,?_,λa ha b hb=>?_⟩
  ·cases g n with
   |none=>exact .nil
   |some t=>exact Ya _ _
  ·obtain⟨x,hx,e⟩:=zh.mp ha;rw[Option.mem_toList] at hb;rw[hg x a e,hg n b hb];omega
def DV{x:Nat}{u:U2}{n:Nat}{t:Q5}(h:t∈lw1 rs x u n):t.1=x/\t.2.1=u.1/\t.2.2.1=u.2:=by
 obtain⟨j,_,h⟩:=VZ.mp h;split at h
 ·exact nomatch h
 ·obtain⟨q,_,rfl⟩:=V6.mp h;exact⟨rfl,rfl,rfl⟩
def DU{u:U2}{l:List T3}{t:Q5}(h:t∈lw2 rs u l):t.2.1=u.1/\t.2.2.1=u.2:=by
 obtain⟨a,_,h⟩:=VZ.mp h;exact(DV h).2
def Ht:(lw4 bs rs rs.length).Nodup:=by
 refine jC (·.2.1) id (iY _) (λi _=>?_) λi _ t ht=>?_
 ·refine jC (·.2.2.1) id (iY _) (λp _=>?_) λp _ t ht=>(DU ht).2;refine jC (·.1) (·.1) (HD (λ_ _=>zN) _) (λa _=>?_) λa _ t ht=>(DV ht).1;refine jC (·.2.2.2.1) id (iY _) (λj _=>?_) λj _ t ht=>?_
  ·split
   ·exact .nil
   ·exact Hu λa b e=>(Zd (Zd (Zd (Zd e).2).2).2).2
  ·split at ht
   ·exact nomatch ht
   ·obtain⟨q,_,rfl⟩:=V6.mp ht;rfl
 ·obtain⟨p,_,ht⟩:=VZ.mp ht;exact(DU ht).1
def Kz:(prN bs rs bs.length).Perm (lw4 bs rs rs.length):=(List.perm_ext_iff_of_nodup Hr Ht).mpr λt=>(DQ t).trans (DR t).symm
def Kp{n:Nat}(h:n<1000):Sm (n:Int):=⟨Zr _,by omega⟩
def zk(h:PQ bs rs){t:Q5}(d:HN bs rs t):GR (d6 rs t)=some (code5 t.1 t.2.1 t.2.2.1 t.2.2.2.1 t.2.2.2.2):=by
 obtain⟨h1,h2,h3,_,h5,h6,_⟩:=d;have:=h.hb.1;have:=h.h7;have:=h.n12 h2;have:=h.n12 h5;exact QH ⟨Kp (by omega),Kp (by omega),Kp (by omega),Kp (by omega),Kp (by omega)⟩
def GG(h:PQ bs rs){t t':Q5}(d:HN bs rs t)(d':HN bs rs t')(e:ft (d6 rs t)=ft (d6 rs t')):t=t':=by
 unfold ft at e;rw[zk h d,zk h d'] at e;obtain⟨h1,h2,h3,_,h5,h6,_⟩:=d;obtain⟨k1,k2,k3,_,k5,k6,_⟩:=d';have:=h.hb.1;have:=h.h7;have:=h.n12 h2;have:=h.n12 h5;have:=h.n12 k2;have:=h.n12 k5;obtain⟨a,b,c,d,f⟩:=t;obtain⟨a',b',c',d',f'⟩:=t';dsimp only[Option.getD_some] at *;unfold code5 at e;obtain⟨rfl,rfl,rfl,rfl,rfl⟩:a=a'/\b=b'/\c=c'/\d=d'/\f=f':=by refine⟨?_,?_,?_,?_,?_⟩ <;> omega
 rfl
def CY(h:PQ bs rs){l:List Q5}(hd:∀t∈l,HN bs rs t)(nd:l.Nodup):((l.map (d6 rs)).map ft).Nodup/\kB (.lst (l.map (d6 rs)))=okL (vI (l.map (d6 rs))):=by
 have n:((l.map (d6 rs)).map ft).Nodup:=WY.mpr (WY.mpr (nd.imp_of_mem λ{a b} ha hb n e=>n (GG h (hd a ha) (hd b hb) e)));refine⟨n,QH ⟨λd hd'=>?_,n⟩⟩;obtain⟨t,ht,rfl⟩:=V6.mp hd';rw[zk h (hd t ht)];rfl
def AD(h:PQ bs rs):∃L:List D,(∀d∈L,∃t,d=d6 rs t)/\jI [cS bs rs]=okL L/\eg [cS bs rs]=okL L:=by
 obtain⟨n1,e1⟩:=CY h (λt ht=>(DQ t).mp ht) Hr;obtain⟨_,e2⟩:=CY h (λt ht=>(DR t).mp ht) Ht;rw[<-Fu (Kz.map (d6 rs)) n1] at e2;refine⟨_,λd hd=>?_,Du h e1,uM h e2⟩;obtain⟨t,_,rfl⟩:=V6.mp ((iN _).mem_iff.mp hd);exact⟨t,rfl⟩
def N3(t:Q5):mx 2 (d6 rs t) (d6 rs t)=some true:=by
 unfold d6;show iI (mx 1) _ _=_;simp only[iI,mx,WL,Option.bind_some,Bool.and_self]
theorem MP:∀L:List D,(∀d∈L,∃t,d=d6 rs t)->iI (mx 2) L L=some true
 |[],_=>rfl
 |a::l,h=>by
  obtain⟨t,rfl⟩:=h a (.head _);show(mx 2 (d6 rs t) (d6 rs t)).bind (λb=>(iI (mx 2) l l).bind λc=>some (b && c))=_;rw[N3,MP l λd hd=>h d (.tail _ hd)];rfl
def CA(i:Int):iu [.int i]=okB true:=rfl
def xK{L:List D}(hL:∀d∈L,∃t,d=d6 rs t):c5 [.lst L,.lst L]=okB true:=by
 have hlen:bU (.lst L)=okI (L.length:Nat):=rfl;obtain⟨ρ',e,e2,e3,rfl⟩:=mv (bd:=ba 2) (body:=lI) id (λ_ ρ=>∃e2 e3:Option S,ρ=[some (.sh (.lst L)),some (.sh (.lst L)),e2,e3]) L
  (ρ:=[some (.sh (.lst L)),some (.sh (.lst L)),none,none]) ⟨none,none,rfl⟩ (by
  rintro q a post ρ hq ⟨e2,e3,rfl⟩
  obtain⟨t,rfl⟩:=hL a (by rw[hq];simp)
  obtain⟨ρ',e,e3',rfl⟩:=cy (bd:=ba 3) (body:=lJ) (λ_ ρ=>∃e3:Option S,ρ=[some (.sh (.lst L)),some (.sh (.lst L)),some (.sh (d6 rs t)),e3]) 5 (ρ:=[some (.sh (.lst L)),some (.sh (.lst L)),some (.sh (d6 rs t)),e3]) ⟨e3,rfl⟩ (by
   rintro k ρ hk ⟨e3,rfl⟩
   obtain⟨i,hi⟩:∃i:Int,dIx (d6 rs t) (.int k)=okI i:=by
    match k,hk with
    |0,_=>exact⟨_,bF⟩
    |1,_=>exact⟨_,bg⟩
    |2,_=>exact⟨_,dD⟩
    |3,_=>exact⟨_,E5⟩
    |4,_=>exact⟨_,ix_tup (n:=4) rfl⟩
    |n+5,h=>omega
   exact⟨_,_,rfl,aq (pK (bK (a6 rfl rfl hi) (CA _))) rfl,nS k,rfl⟩)
  exact⟨_,_,rfl,.inl (a3 (aq (cm (pK rfl) (cm (a6 (eQ (f9 rfl) (show bU (d6 rs t)=okI 6 from rfl)) rfl rfl) (pK (oC (a6 rfl rfl (ix_tup (n:=5) rfl)) rfl)))) rfl) (fh (cq rfl (bI (n:=5) (by decide))) e)),some (.sh (d6 rs t)),e3',rfl⟩)
 rw[List.map_id] at e;refine ao rfl (a3 (aq (cm (pK rfl) (a6 (eQ (f9 rfl) hlen) (eQ (f9 rfl) hlen) (Gf rfl))) rfl) (a3 (fh (jE rfl rfl) e) (ay (a6 rfl rfl ?_))));show((if L.length=L.length then iI (mx 2) L L else some false).bind λb=>okB b)=_;rw[QH rfl,MP L hL];rfl
end
def G2{ρ:aJ}{bs:List Bx}{r0 m:Rw}{rt:List Rw}(h1:ρ[1]?=some (some (.sh (cS bs (r0::rt)))))(h3:ρ[3]?=some (some (.sh m.d)))(hl:rt.length<=7):bA [(a9 dIx (a5 1) (eC (.int 0))),(a9 c9 (bA [(a5 3)]) (g9 (a9 dIx (a5 1) (eC (.int 1))) (some (eC (.int 1))) none))] ρ=okD (cS bs (m::rt)):=by
 have e3:bA [(a5 3)] ρ=okD (.tup [m.d]):=bK (cK h3) rfl;have e1:a9 dIx (a5 1) (eC (.int 1)) ρ=okD (.tup ((r0::rt).map Rw.d)):=a6 (cK h1) rfl bg;have es:g9 (a9 dIx (a5 1) (eC (.int 1))) (some (eC (.int 1))) none ρ=okD (.tup (((r0::rt).map Rw.d).drop 1)):=vM (x:=1) e1 rfl rfl (by decide) (by rw[QG,QS];omega)
 have ea:a9 c9 (bA [(a5 3)]) (g9 (a9 dIx (a5 1) (eC (.int 1))) (some (eC (.int 1))) none) ρ=okD (.tup ((m::rt).map Rw.d)):=a6 e3 es (Lj (xs:=[m.d]) (ys:=rt.map Rw.d) (by rw[QG,VC];omega))
 have e0:a9 dIx (a5 1) (eC (.int 0)) ρ=okD (aZ bs):=a6 (cK h1) rfl bF;exact sT e0 ea
def law_true(ns:List Int)(_:ns.length<=63):Aq [.lst (ns.map D.int)]=some (.ok (.sh (.bl true))):=by
 obtain⟨w,dw,hw⟩:=fX (ns:=ns) (k:=7) (m:=4) (by decide) (by decide) (by decide)
 obtain⟨long,el,l1,l2⟩:∃long:Nat,dIx (.lst [.int 1,.int 2,.int 3,.int 12]) (.int (w:Int))=okI (long:Nat)/\1<=long/\long<=12:=by
  match w,hw with
  |0,_=>exact⟨1,pV,by decide,by decide⟩
  |1,_=>exact⟨2,wX,by decide,by decide⟩
  |2,_=>exact⟨3,Ae,by decide,by decide⟩
  |3,_=>exact⟨12,c8 (n:=3) rfl,by decide,by decide⟩
  |n+4,h=>omega
 obtain⟨bs,rs,ep,r1,r7,hb,hr,_⟩:=yf (ns:=ns) l1 l2;obtain⟨r0,rt,rfl⟩:∃r0 rt,rs=r0::rt:=by
  cases rs with
  |nil=>exact absurd r1 (by decide)
  |cons r0 rt=>exact⟨r0,rt,rfl⟩
 have h1:PQ bs (r0::rt):=⟨hb,r7,λr hr'=>⟨(hr r hr').1.2.1,(hr r hr').2.2⟩⟩;have h2:PQ bs (⟨Str.ofString "main",0,r0.pl.reverse⟩::rt):=⟨hb,r7,λr hr'=>by
  rcases V1.mp hr' with rfl|hr'
  ·have:=h1.row r0 (.head _);exact⟨by show r0.pl.reverse.length<=12;rw[Y3];exact this.1,λq hq=>this.2 q (Xt.mp hq)⟩
  ·exact h1.row r (.tail _ hr')⟩
 obtain⟨L1,g1,e1,k1⟩:=AD h1;obtain⟨L2,g2,e2,k2⟩:=AD h2;have a1:=xK g1;have a2:=xK g2;have eo:bA [(a9 dIx (a5 1) (eC (.int 0))),(a9 c9 (bA [(a5 3)]) (g9 (a9 dIx (a5 1) (eC (.int 1))) (some (eC (.int 1))) none))] [some (.sh (.lst (ns.map D.int))),some (.sh (cS bs (r0::rt))),some (.sh r0.d),some (.sh (Rw.d ⟨Str.ofString "main",0,r0.pl.reverse⟩)),none,none,none,none]=okD (cS bs (⟨Str.ofString "main",0,r0.pl.reverse⟩::rt)):=G2 (r0:=r0) rfl rfl (by rw[QS] at r7;omega)
 have er:bA [(eC (.str (Str.ofString "main"))),(eC (.int 0)),(ai (f1 gY) [(lh EE (a9 dIx (a5 2) (eC (.int 2))))])] [some (.sh (.lst (ns.map D.int))),some (.sh (cS bs (r0::rt))),some (.sh r0.d),none,none,none,none,none]=okD (Rw.d ⟨Str.ofString "main",0,r0.pl.reverse⟩):=by
  refine bN rfl rfl (bK (s1:=.own (.lst ((r0.pl.map plD).reverse))) (oC (a6 rfl rfl dD) rfl) rfl) ?_;show okD (.tup [.str (Str.ofString "main"),.int 0,.tup ((r0.pl.map plD).reverse)])=okD (.tup [.str (Str.ofString "main"),.int 0,.tup (r0.pl.reverse.map plD)]);rw[List.map_reverse]
 exact ao rfl (a3 (ak (bB rfl (a6 (s:=.own (.lst [.int 1,.int 2,.int 3,.int 12])) (kE rfl rfl rfl rfl rfl) (bN rfl rfl rfl dw) el) ep)) (a3 (ak (a6 (a6 rfl rfl bg) rfl bF)) (a3 (ak er) (a3 (ak eo) (a3 (ak (bK rfl k1)) (a3 (ak (bK rfl e1)) (a3 (aq (cm (pK (oy (bB (F:=c5) (f9 rfl) (f9 rfl) a1) rfl)) (pK (oy (bB (F:=c5) (bK rfl e2) (bK rfl k2) a2) rfl))) rfl) (a3 (ak (bK rfl e1)) (a3 (aq (pK (oy (bB (F:=c5) (f9 rfl) (f9 rfl) a1) rfl)) rfl) (a3 (GO rfl) (ay (oy (bB (F:=c5) (f9 rfl) (f9 rfl) a1) rfl))))))))))))
end Bell
set_option maxHeartbeats 8000000
namespace Bell
open PySem PySem.Spec PyProof.Rows L2 L3
def top(i:Nat):Vu:=PySem.Challenge.pw_bellnest_k42_pairs_told.main.body.getD i (.Pass ⟨0,0,0,0⟩)
abbrev i8:Vu:=top 45
def wC:List Str:=["_law_found"]
def fQ:List Str:=["_law_found"]
abbrev ik:Vu:=top 46
def wH:List Str:=["_law_found","_law_due","_law_one","_law_k"]
def fV:List Str:=["_law_found","_law_due"]
abbrev jr:Vu:=top 33
def yz:List Str:=["_law_script","_law_k","_law_many","_law_cell"]
def cw:List Str:=["_law_script","_law_k","_law_many"]
abbrev ic:Vu:=top 40
def wD:List Str:=["_law_deed_here"]
def fR:List Str:=["_law_deed_here"]
abbrev gr:Vu:=top 41
def ur:List Str:=["_law_deed_here","_law_x","_law_writers"]
def eI:List Str:=["_law_deed_here","_law_x"]
abbrev gv:Vu:=top 43
def uw:List Str:=["_law_program_here","_law_x","_law_i","_law_p","_law_j","_law_rows","_law_mine","_law_listed","_law_q","_law_other","_law_theirs","_law_why"]
def eJ:List Str:=["_law_program_here","_law_x","_law_i","_law_p","_law_j"]
abbrev fB:Vu:=top 42
def rA:List Str:=["_law_boxes_here","_law_deed_here"]
def dI:List Str:=["_law_boxes_here","_law_deed_here"]
abbrev ie:Vu:=top 44
def wF:List Str:=["_law_program_here","_law_rows","_law_listed","_law_i","_law_p","_law_span","_law_j"]
def fS:List Str:=["_law_program_here"]
abbrev gu:Vu:=top 34
def uv:List Str:=["_law_script","_law_k","_law_far","_law_menu"]
def dz:List Str:=["_law_script","_law_k"]
abbrev ig:Vu:=top 35
def wG:List Str:=["_law_script","_law_boxes_here","_law_b","_law_starts","_law_size"]
def fU:List Str:=["_law_script"]
abbrev jt:Vu:=top 36
def yA:List Str:=["_law_boxes_here","_law_script","_law_k","_law_kinds","_law_kind","_law_x","_law_size","_law_same","_law_y","_law_ones","_law_n","_law_b"]
def gR:List Str:=["_law_boxes_here","_law_script","_law_k"]
abbrev jq:Vu:=top 37
def yy:List Str:=["_law_script","_law_r","_law_wild"]
def gQ:List Str:=["_law_script","_law_r"]
abbrev jo:Vu:=top 38
def yx:List Str:=["_law_script","_law_k","_law_bells","_law_word","_law_half"]
def gP:List Str:=["_law_script","_law_k","_law_bells"]
abbrev fC:Vu:=top 39
def rB:List Str:=["_law_script","_law_longest","_law_boxes_here","_law_bells","_law_rows","_law_r","_law_places","_law_p","_law_k"]
def dJ:List Str:=["_law_script","_law_longest"]
abbrev kN:Vu:=top 2
def Bw:List Str:=["boxes","x"]
def iT:List Str:=["boxes","x"]
abbrev jv:Vu:=top 3
def yC:List Str:=["boxes","x","first","k"]
def fq:List Str:=["boxes","x"]
abbrev m6:Vu:=cX (top 5) 0
def DH:List Str:=["self","plan"]
def dN:List Str:=["self","plan"]
abbrev ju:Vu:=cX (top 13) 0
def yB:List Str:=["self","sources","targets","cell"]
def fo:List Str:=["self","sources","targets"]
abbrev m9:Vu:=cX (top 15) 0
def DJ:List Str:=["self","targets","sources","tally"]
def kq:List Str:=["self","targets","sources","tally"]
abbrev il:Vu:=cX (top 6) 0
def wI:List Str:=["self","watched"]
def dZ:List Str:=["self","watched"]
abbrev fE:Vu:=cX (top 7) 0
def rE:List Str:=["self","left","right"]
def dO:List Str:=["self","left","right"]
abbrev m7:Vu:=cX (top 11) 0
def DI:List Str:=["self","targets","sources","k"]
def ko:List Str:=["self","targets","sources"]
abbrev m5:Vu:=cX (top 14) 0
def DG:List Str:=["self","targets","number"]
def kn:List Str:=["self","targets","number"]
abbrev og:Vu:=cX (top 10) 0
def Gi:List Str:=["self","targets","numbers","cell"]
def mq:List Str:=["self","targets","numbers"]
abbrev kO:Vu:=cX (top 9) 0
def By:List Str:=["self","number"]
def iU:List Str:=["self","number"]
abbrev lZ:Vu:=cX (top 12) 0
def DF:List Str:=["self","target"]
def km:List Str:=["self","target"]
abbrev fD:Vu:=cX (top 8) 0
def rC:List Str:=["self"]
def dM:List Str:=["self"]
abbrev kP:Vu:=top 16
def Bz:List Str:=["boxes","deed","kind","first","second"]
def iV:List Str:=["boxes","deed"]
abbrev gy:Vu:=cX (top 5) 2
def uy:List Str:=["self","turn"]
def eO:List Str:=["self","turn"]
abbrev gw:Vu:=cX (top 5) 1
def ux:List Str:=["self"]
def eM:List Str:=["self"]
abbrev fF:Vu:=cX (top 5) 3
def rF:List Str:=["self","turn"]
def dP:List Str:=["self","turn"]
abbrev jn:Vu:=top 21
def yw:List Str:=["boxes","deed","x","reading","made","cells","turns","turn","there","cell"]
def dX:List Str:=["boxes","deed","x","reading"]
abbrev o9:Vu:=top 24
def Gg:List Str:=["boxes","deed","found","x","turns"]
def mm:List Str:=["boxes","deed"]
abbrev jw:Vu:=top 29
def yD:List Str:=["boxes","deed","x","turns","span"]
def gS:List Str:=["boxes","deed","x"]
abbrev kQ:Vu:=top 26
def BA:List Str:=["program","row","place"]
def iW:List Str:=["program","row","place"]
abbrev fA:Vu:=top 22
def rn:List Str:=["boxes","deed","x"]
def dH:List Str:=["boxes","deed","x"]
abbrev gn:Vu:=top 23
def uq:List Str:=["boxes","deed","x"]
def eG:List Str:=["boxes","deed","x"]
abbrev jm:Vu:=top 28
def yv:List Str:=["program","x","boxes","users","number","row","place","told"]
def gO:List Str:=["program","x"]
abbrev i7:Vu:=top 18
def wB:List Str:=["program","row"]
def fP:List Str:=["program","row"]
abbrev kM:Vu:=top 19
def Bv:List Str:=["program","row","place","places"]
def iS:List Str:=["program","row","place"]
abbrev kL:Vu:=top 27
def Bu:List Str:=["program","i","p","j","both","rows"]
def iR:List Str:=["program","i","p","j","both"]
abbrev eD:Vu:=top 30
def pO:List Str:=["program","x","users","found","i","p","first","j","q","second"]
def de:List Str:=["program","x"]
abbrev oe:Vu:=top 31
def Gh:List Str:=["program","found","x"]
def mn:List Str:=["program"]
abbrev vO:Vu:=top 47
def KO:List Str:=["_law_script","_law_program_here","_law_main","_law_turned_main","_law_other","_law_due","_law_first","_law_again"]
def A6:List Str:=["_law_script"]
structure hV(mg:Str->Option Vn):Prop where
 any:mg "any" = none
 bool:mg "bool" = none
 enumerate:mg "enumerate" = none
 int:mg "int" = none
 isinstance:mg "isinstance" = none
 len:mg "len" = none
 list:mg "list" = none
 range:mg "range" = none
 reversed:mg "reversed" = none
 set:mg "set" = none
 sorted:mg "sorted" = none
 str:mg "str" = none
 sum:mg "sum" = none
 tuple:mg "tuple" = none
structure K2(K:Frag)(mg:Str->Option Vn)(cls:Vw->Vp):Prop where
 L_law_whole:bL K mg "_law_whole" i8 fQ
 L_law_alike:bL K mg "_law_alike" ik fV
 L_law_draw:bL K mg "_law_draw" jr cw
 L_law_touch:bL K mg "_law_touch" ic fR
 L_law_writes:bL K mg "_law_writes" gr eI
 L_law_beside:bL K mg "_law_beside" gv eJ
 L_law_spanned:bL K mg "_law_spanned" fB dI
 L_law_pairs:bL K mg "_law_pairs" ie fS
 L_law_number:bL K mg "_law_number" gu dz
 L_law_boxes:bL K mg "_law_boxes" ig fU
 L_law_deed:bL K mg "_law_deed" jt gR
 L_law_rank:bL K mg "_law_rank" jq gQ
 L_law_shut:bL K mg "_law_shut" jo gP
 L_law_program:bL K mg "_law_program" fC dJ
 L_size_of:bL K mg "size_of" kN iT
 L_cells_of:bL K mg "cells_of" jv fq
 L_i_Deed:cV K mg cls "Deed" "Deed" "Deed.__init__" m6 dN
 L_i_Handed:cV K mg cls "Handed" "Handed" "Handed.__init__" ju fo
 L_i_Anew:cV K mg cls "Anew" "Anew" "Anew.__init__" m9 kq
 L_i_Promise:cV K mg cls "Promise" "Promise" "Promise.__init__" il dZ
 L_i_Comparing:cV K mg cls "Comparing" "Comparing" "Comparing.__init__" fE dO
 L_i_Copy:cV K mg cls "Copy" "Copy" "Copy.__init__" m7 ko
 L_i_Grow:cV K mg cls "Grow" "Grow" "Grow.__init__" m5 kn
 L_i_Put:cV K mg cls "Put" "Put" "Put.__init__" og mq
 L_i_Still:cV K mg cls "Still" "Still" "Still.__init__" kO iU
 L_i_Tick:cV K mg cls "Tick" "Tick" "Tick.__init__" lZ km
 L_i_Untouched:cV K mg cls "Untouched" "Untouched" "Untouched.__init__" fD dM
 L_deed_of:bL K mg "deed_of" kP iV
 L_Deed_reads:mJ K cls "reads" "Deed.reads" gy eO ["Deed","Promise","Comparing","Untouched","Still","Put","Copy","Tick","Handed","Grow","Anew"]
 L_Deed_turns:mJ K cls "turns" "Deed.turns" gw eM ["Deed","Promise","Comparing","Untouched","Still","Put","Copy","Tick","Handed","Grow","Anew"]
 L_Deed_writes:mJ K cls "writes" "Deed.writes" fF dP ["Deed","Promise","Comparing","Untouched","Still","Put","Copy","Tick","Handed","Grow","Anew"]
 L_turns_at:bL K mg "turns_at" jn dX
 L_spans:bL K mg "spans" o9 mm
 L_begun_at:bL K mg "begun_at" jw gS
 L_deed_at:bL K mg "deed_at" kQ iW
 L_touches_box:bL K mg "touches_box" fA dH
 L_writes_box:bL K mg "writes_box" gn eG
 L_users_of:bL K mg "users_of" jm gO
 L_places_of:bL K mg "places_of" i7 fP
 L_word_at:bL K mg "word_at" kM iS
 L_word_of:bL K mg "word_of" kL iR
 L_pairs_of_box:bL K mg "pairs_of_box" eD de
 L_pairs:bL K mg "pairs" oe mn
 L_law:bL K mg "law" vO A6
 fld_check:∀c∈["Anew"],k7 K (cls c)/\cH K (cls c) "check"
 fld_number:∀c∈["Grow"],k7 K (cls c)/\cH K (cls c) "number"
 fld_numbers:∀c∈["Put"],k7 K (cls c)/\cH K (cls c) "numbers"
 fld_plan:∀c∈["Deed","Promise","Comparing","Untouched","Still","Put","Copy","Tick","Handed","Grow","Anew"],k7 K (cls c)/\cH K (cls c) "plan"
 fld_size:∀c∈["Grow"],k7 K (cls c)/\cH K (cls c) "size"
seal PySem.wpAny
section
variable{P:Vq}{w:Vr}{K:Frag}{mg:Str->Option Vn}{base:Vs}{cls:Vw->Vp}
def tW:av wC fQ (ae i8):=⟨rfl,rfl,rfl,by decide +kernel,rfl,by decide +kernel,by decide +kernel⟩
def uh(L:bL K mg "_law_whole" i8 fQ)(Z:hV mg)  : dv P w K mg base (aF K cls) 1 "_law_whole" fQ iu:=b9 (k:=0) L tW λf c A o s H E hr=>(ab (aj (ue (ph rfl (Gu _) rfl Z.isinstance rfl Z.int L3.EN (a0 (pv 0))) (ua (IL (ph rfl (E3 _) rfl Z.isinstance rfl Z.bool L3.GS (a0 (pv 0))))))))
def jk:av wH fV (ae ik):=⟨rfl,rfl,rfl,by decide +kernel,rfl,by decide +kernel,by decide +kernel⟩
def um(L:bL K mg "_law_alike" ik fV)(Z:hV mg)(Va:dv P w K mg base (aF K cls) 1 "_law_whole" fQ iu):dv P w K mg base (aF K cls) 2 "_law_alike" fV c5:=b9 (k:=1) L jk λf c A o s H E hr=>(aa (aW (nW.pt (fm (jy (cP (ph rfl (E2 _) rfl Z.isinstance rfl Z.list L3.va (a0 (pv 0))))) (fH (au jB (b7 (bQ rfl) rfl Z.len QU (aA (aP (pv 0)) aU)) (b7 (bQ rfl) rfl Z.len QU (aA (aP (pv 1)) aU)))))) (ab (aj nD)) ax) (aa (cE V8 rfl (gC rfl (a0 (pv 0))) (qw jk.nd rfl) (aa (aW (nW.pt (fm (jy (cP (ph rfl (BL _) rfl Z.isinstance rfl Z.tuple L3.dS (a0 (pv 2))))) (fm (au jB (b7 (bQ rfl) rfl Z.len QU (aA (aP (pv 2)) aU)) a8) (fH (jy (cP (ph rfl (Gs _) rfl Z.isinstance rfl Z.str L3.JM (ag (bC rfl) (a0 (pv 2)) a8)))))))) (ab (aj nD)) ax) (ab (cE V8 rfl (bH rfl Z.range a8) (qw jk.nd rfl) (ab (aW (jy (cP (aT Va (hr.mono (by first|decide|omega)) rfl (cT (ag (bC rfl) (a0 (pv 2)) (a0 (pv 3))) a7)))) (ab (aj nD)) ax)))))) (ab (aj (mR (G4 (n:=3) rfl (Jt hr)) (a0 (pv 0)) (a0 (pv 1)))))))
def ka:av yz cw (ae jr):=⟨rfl,rfl,rfl,by decide +kernel,rfl,by decide +kernel,by decide +kernel⟩
def wt(L:bL K mg "_law_draw" jr cw)(Z:hV mg)  : dv P w K mg base (aF K cls) 1 "_law_draw" cw aD:=b9 (k:=0) L ka λf c A o s H E hr=>(aa (fg (i:=3) ka.nd rfl a8) (aa (aW (au ym (b7 (bQ rfl) rfl Z.len QU (aA (aP (pv 0)) aU)) a8) (ab (fg (i:=3) ka.nd rfl (aB gD (ag (bC rfl) (a0 (pv 0)) (aB gD (a0 (pv 1)) (b7 (bQ rfl) rfl Z.len QU (aA (aP (pv 0)) aU)))) a8))) ax) (ab (aj (aB gD (aB pC (aB gD (aB fI (aB gD (aB fI (aB (aR rfl) (a0 (pv 3)) a8) (aB (aR rfl) (aB (aR rfl) (aB fI (a0 (pv 1)) (a0 (pv 1))) (a0 (pv 1))) a8)) a8) a8) a8) a8) (a0 (pv 2)))))))
def tY:av wD fR (ae ic):=⟨rfl,rfl,rfl,by decide +kernel,rfl,by decide +kernel,by decide +kernel⟩
def ui(L:bL K mg "_law_touch" ic fR)(Z:hV mg)  : dv P w K mg base (aF K cls) 1 "_law_touch" fR fW:=b9 (k:=0) L tY λf c A o s H E hr=>(aa (aW (nW.pt (fm (au bf (ag (bC rfl) (a0 (pv 0)) a8) aK) (fH (au bf (ag (bC rfl) (a0 (pv 0)) a8) aK)))) (ab (aj (aY a7))) ax) (aa (aW (nW.pt (fm (au bf (ag (bC rfl) (a0 (pv 0)) a8) aK) (fm (au bf (ag (bC rfl) (a0 (pv 0)) a8) aK) (fH (au bf (ag (bC rfl) (a0 (pv 0)) a8) aK))))) (ab (aj (aY (cT (ag (bC rfl) (a0 (pv 0)) a8) a7)))) ax) (aa (aW (au bf (ag (bC rfl) (a0 (pv 0)) a8) aK) (ab (aj (aY (cT (ag (bC rfl) (a0 (pv 0)) a8) (cT (ag (bC rfl) (a0 (pv 0)) a8) (cT (ag (bC rfl) (a0 (pv 0)) a8) a7)))))) ax) (ab (aj (aY (cT (ag (bC rfl) (a0 (pv 0)) a8) (cT (ag (bC rfl) (a0 (pv 0)) a8) a7))))))))
def lx:av ur eI (ae gr):=⟨rfl,rfl,rfl,by decide +kernel,rfl,by decide +kernel,by decide +kernel⟩
def r9(L:bL K mg "_law_writes" gr eI)(Z:hV mg)  : dv P w K mg base (aF K cls) 1 "_law_writes" eI eU:=b9 (k:=0) L lx λf c A o s H E hr=>(aa (fg (i:=2) lx.nd rfl (aY (jA (ds:=[(.str "put"),(.str "copy"),(.str "grow"),(.str "tick"),(.str "anew")]) rfl))) (aG (i:=2) (ab (aj (ue (mR (yl rfl) (ag (bC rfl) (a0 (pv 0)) a8) (a0 (pv 2)) (by with_unfolding_all rfl)) (ua (mR bf (ag (bC rfl) (a0 (pv 0)) a8) (a0 (pv 1)))))))))
def bO:av uw eJ (ae gv):=⟨rfl,rfl,rfl,by decide +kernel,rfl,by decide +kernel,by decide +kernel⟩
def rh(L:bL K mg "_law_beside" gv eJ)(Z:hV mg)(Q9:dv P w K mg base (aF K cls) 1 "_law_touch" fR fW)(Vb:dv P w K mg base (aF K cls) 1 "_law_writes" eI eU):dv P w K mg base (aF K cls) 2 "_law_beside" eJ gG:=b9 (k:=1) L bO λf c A o s H E hr=>(aa (fg (i:=5) bO.nd rfl (ag (bC rfl) (a0 (pv 0)) a8)) (aa (fg (i:=6) bO.nd rfl (aT Vb (hr.mono (by first|decide|omega)) rfl (cT (ag (bC rfl) (ag (bC rfl) (ag (bC rfl) (ag (bC rfl) (a0 (pv 5)) (a0 (pv 2))) a8) (a0 (pv 3))) a8) (padN (a0 (pv 1)) a7)))) (aa (fg (i:=7) bO.nd rfl (aY a7)) (aa (cE V8 rfl (bH rfl Z.range (b7 (bQ rfl) rfl Z.len QU (aA (PD.look (ag (bC rfl) (ag (bC rfl) (a0 (pv 5)) (a0 (pv 4))) a8)) aU))) (qw bO.nd rfl) (aa (fg (i:=9) bO.nd rfl (ag (bC rfl) (ag (bC rfl) (ag (bC rfl) (ag (bC rfl) (a0 (pv 5)) (a0 (pv 4))) a8) (a0 (pv 8))) a8)) (aa (fg (i:=10) bO.nd rfl (aT Vb (hr.mono (by first|decide|omega)) rfl (padN (a0 (pv 9)) (padN (a0 (pv 1)) a7)))) (ab (aW (nW.pt (gz (au (yl rfl) (a0 (pv 1)) (aT Q9 (hr.mono (by first|decide|omega)) rfl (padN (a0 (pv 9)) a7)) (by with_unfolding_all rfl)) (gN (nW.pt (fm (cP (a0 (pv 6))) (fH (cP (a0 (pv 10))))))))) (aa (fg (i:=11) bO.nd rfl (ag (bC rfl) (aY (cB aK (cB aK a7))) (jT JJ rfl Z.int L3.EN (c0 (ue (a0 (pv 6)) (ua (a0 (pv 10)))) a7)))) (aa (aW (au bf (aB pD (aB A7 (ag (bC rfl) (ag (bC rfl) (ag (bC rfl) (ag (bC rfl) (a0 (pv 5)) (a0 (pv 2))) a8) (a0 (pv 3))) a8) (a0 (pv 4))) a8) a8) (ab (fg (i:=11) bO.nd rfl aK)) ax) (aa (aW (au Dv (ag (bC rfl) (ag (bC rfl) (a0 (pv 5)) (a0 (pv 4))) a8) (ag (bC rfl) (ag (bC rfl) (a0 (pv 5)) (a0 (pv 2))) a8)) (ab (fg (i:=11) bO.nd rfl aK)) ax) (ab (cQ (i:=7) (pv 7) (aN (padN (a0 (pv 1)) (padN (a0 (pv 2)) (padN (a0 (pv 3)) (padN (a0 (pv 4)) (padN (a0 (pv 8)) (padN (a0 (pv 11)) a7)))))))))))) ax))))) (aG (i:=7) (ab (aj (a0 (pv 7)))))))))
def oW:av rA dI (ae fB):=⟨rfl,rfl,rfl,by decide +kernel,rfl,by decide +kernel,by decide +kernel⟩
def pF(L:bL K mg "_law_spanned" fB dI)(Z:hV mg)  : dv P w K mg base (aF K cls) 1 "_law_spanned" dI fL:=b9 (k:=0) L oW λf c A o s H E hr=>(aa (aW (au bf (ag (bC rfl) (a0 (pv 1)) a8) aK) (ab (aj (aY (iE (aN (cT (ag (bC rfl) (a0 (pv 1)) a8) (cB a8 (dG (aB kW (aB fI a8 (b7 (bQ rfl) rfl Z.len QU (aA (PD.look (ag (bC rfl) (ag (bC rfl) (a0 (pv 0)) (ag (bC rfl) (a0 (pv 1)) a8)) a8)) aU))) a8) a7)))) a7)))) ax) (aa (aW (nW.pt (fm (au bf (ag (bC rfl) (a0 (pv 1)) a8) aK) (fm (au bf (ag (bC rfl) (a0 (pv 1)) a8) aK) (fH (au bf (ag (bC rfl) (a0 (pv 1)) a8) aK))))) (ab (aW (au bf (b7 (bQ rfl) rfl Z.len QU (aA (PD.look (ag (bC rfl) (ag (bC rfl) (a0 (pv 0)) (ag (bC rfl) (a0 (pv 1)) a8)) a8)) aU)) a8) (aa (aW (au bf (ag (bC rfl) (a0 (pv 1)) a8) aK) (ab (aj (aY (iE (aN (cT (ag (bC rfl) (a0 (pv 1)) a8) (cB a8 (cB a8 a7)))) a7)))) ax) (aa (aW (au bf (ag (bC rfl) (a0 (pv 1)) a8) aK) (ab (aj (aY (iE (aN (cT (ag (bC rfl) (a0 (pv 1)) a8) (cB a8 (cB a8 a7)))) a7)))) ax) (ab (aj (yi rfl rfl Z.sorted (aY (iE (aN (cT (ag (bC rfl) (a0 (pv 1)) a8) (cB a8 (cB a8 a7)))) (iE (aN (cT (ag (bC rfl) (a0 (pv 1)) a8) (cB a8 (cB a8 a7)))) a7)))))))) ax)) ax) (ab (aj (aY a7)))))
def cN:av wF fS (ae ie):=⟨rfl,rfl,rfl,by decide +kernel,rfl,by decide +kernel,by decide +kernel⟩
def uj(L:bL K mg "_law_pairs" ie fS)(Z:hV mg)(Qy:dv P w K mg base (aF K cls) 2 "_law_beside" eJ gG)(Q8:dv P w K mg base (aF K cls) 1 "_law_spanned" dI fL):dv P w K mg base (aF K cls) 3 "_law_pairs" fS eg:=b9 (k:=2) L cN λf c A o s H E hr=>(aa (fg (i:=1) cN.nd rfl (ag (bC rfl) (a0 (pv 0)) a8)) (aa (fg (i:=2) cN.nd rfl (aY a7)) (aa (cE V8 rfl (bH rfl Z.range (b7 (bQ rfl) rfl Z.len QU (aA (aP (pv 1)) aU))) (qw cN.nd rfl) (ab (cE V8 rfl (bH rfl Z.range (b7 (bQ rfl) rfl Z.len QU (aA (PD.look (ag (bC rfl) (ag (bC rfl) (a0 (pv 1)) (a0 (pv 3))) a8)) aU))) (qw cN.nd rfl) (ab (cE V8 rfl (gC rfl (aT Q8 (hr.mono (by first|decide|omega)) rfl (cT (ag (bC rfl) (a0 (pv 0)) a8) (cT (ag (bC rfl) (ag (bC rfl) (ag (bC rfl) (ag (bC rfl) (a0 (pv 1)) (a0 (pv 3))) a8) (a0 (pv 4))) a8) a7)))) (qw cN.nd rfl) (ab (cE V8 rfl (bH rfl Z.range (b7 (bQ rfl) rfl Z.len QU (aA (aP (pv 1)) aU))) (qw cN.nd rfl) (ab (aW (au jB (a0 (pv 6)) (a0 (pv 3))) (ab (p4 (i:=2) rfl (pv 2) (aT Qy (hr.mono (by first|decide|omega)) rfl (padN (a0 (pv 0)) (cT (ag (bC rfl) (a0 (pv 5)) a8) (padN (a0 (pv 3)) (padN (a0 (pv 4)) (padN (a0 (pv 6)) a7)))))))) ax))))))))) (aG (i:=2) (ab (aj (pd rfl rfl Z.sorted (a0 (pv 2)))))))))
def iC:av uv dz (ae gu):=⟨rfl,rfl,rfl,by decide +kernel,rfl,by decide +kernel,by decide +kernel⟩
def rf(L:bL K mg "_law_number" gu dz)(Z:hV mg)(Q1:dv P w K mg base (aF K cls) 1 "_law_draw" cw aD):dv P w K mg base (aF K cls) 2 "_law_number" dz cG:=b9 (k:=1) L iC λf c A o s H E hr=>(aa (fg (i:=2) iC.nd rfl (aT Q1 (hr.mono (by first|decide|omega)) rfl (padN (a0 (pv 0)) (padN (a0 (pv 1)) (cB a8 a7))))) (aa (fg (i:=3) iC.nd rfl (aY (dG (aB kW (aB gD (a0 (pv 2)) a8) a8) (dG (aB kW (aB A8 a8 a8) (aB gD (a0 (pv 2)) a8)) (dG (aB kW (aB gD (a0 (pv 2)) a8) (aB A8 a8 a8)) (dG (aB fI (a0 (pv 2)) a8) a7)))))) (aG (i:=3) (ab (aj (ag (bC rfl) (a0 (pv 3)) (aT Q1 (hr.mono (by first|decide|omega)) rfl (padN (a0 (pv 0)) (dG (aB (aR rfl) (a0 (pv 1)) a8) (cB a8 a7))))))))))
def eB:av wG fU (ae ig):=⟨rfl,rfl,rfl,by decide +kernel,rfl,by decide +kernel,by decide +kernel⟩
def uk(L:bL K mg "_law_boxes" ig fU)(Z:hV mg)(Q1:dv P w K mg base (aF K cls) 1 "_law_draw" cw aD)(Q2:dv P w K mg base (aF K cls) 2 "_law_number" dz cG):dv P w K mg base (aF K cls) 3 "_law_boxes" fU iv:=b9 (k:=2) L eB λf c A o s H E hr=>(aa (fg (i:=1) eB.nd rfl (aY a7)) (aa (cE V8 rfl (bH rfl Z.range (ag (bC rfl) (aY (jA (ds:=[(.int 1),(.int 2),(.int 3),(.int 3),(.int 4),(.int 4),(.int 5),(.int 8)]) rfl)) (aT Q1 (hr.mono (by first|decide|omega)) rfl (padN (a0 (pv 0)) (cB a8 (cB a8 a7)))))) (qw eB.nd rfl) (aa (fg (i:=3) eB.nd rfl (aY (iQ (aT Q2 (hr.mono (by first|decide|omega)) rfl (padN (a0 (pv 0)) (dG (aB (aR rfl) a8 (aB fI a8 (a0 (pv 2)))) a7))) (iQ (aT Q2 (hr.mono (by first|decide|omega)) rfl (padN (a0 (pv 0)) (dG (aB (aR rfl) a8 (aB fI a8 (a0 (pv 2)))) a7))) a7)))) (aa (fg (i:=4) eB.nd rfl (aB (aR rfl) a8 (aT Q1 (hr.mono (by first|decide|omega)) rfl (padN (a0 (pv 0)) (dG (aB (aR rfl) a8 (aB fI a8 (a0 (pv 2)))) (cB a8 a7)))))) (aG (i:=3) (ab (cQ (i:=1) (pv 1) (aN (dG (aB wj (ag (bC rfl) aK (a0 (pv 2))) (a0 (pv 4))) (iQ (jT (eZ rfl) rfl Z.tuple L3.dS (cT (pf rfl (a0 (pv 3)) p7 (p6 (a0 (pv 4)))) a7)) a7))))))))) (aG (i:=1) (ab (aj (jT (eZ rfl) rfl Z.tuple L3.dS (padN (a0 (pv 1)) a7)))))))
def bY:av yA gR (ae jt):=⟨rfl,rfl,rfl,by decide +kernel,rfl,by decide +kernel,by decide +kernel⟩
def wu(L:bL K mg "_law_deed" jt gR)(Z:hV mg)(Q1:dv P w K mg base (aF K cls) 1 "_law_draw" cw aD)(Q2:dv P w K mg base (aF K cls) 2 "_law_number" dz cG):dv P w K mg base (aF K cls) 3 "_law_deed" gR jL:=b9 (k:=2) L bY λf c A o s H E hr=>(aa (fg (i:=3) bY.nd rfl (aY (jA (ds:=[(.str "put"),(.str "copy"),(.str "grow"),(.str "tick"),(.str "still"),(.str "is"),(.str "most"),(.str "none"),(.str "anew"),(.str "grow"),(.str "put"),(.str "anew")]) rfl))) (aG (i:=3) (aa (fg (i:=4) bY.nd rfl (ag (bC rfl) (a0 (pv 3)) (aT Q1 (hr.mono (by first|decide|omega)) rfl (padN (a0 (pv 1)) (padN (a0 (pv 2)) (cB a8 a7)))))) (aa (fg (i:=5) bY.nd rfl (aT Q1 (hr.mono (by first|decide|omega)) rfl (padN (a0 (pv 1)) (dG (aB (aR rfl) (a0 (pv 2)) a8) (iQ (b7 (bQ rfl) rfl Z.len QU (aA (aP (pv 0)) aU)) a7))))) (aa (fg (i:=6) bY.nd rfl (b7 (bQ rfl) rfl Z.len QU (aA (PD.look (ag (bC rfl) (ag (bC rfl) (a0 (pv 0)) (a0 (pv 5))) a8)) aU))) (aa (lL (i:=7) bY.nd rfl (by first|exact Or.inl rfl|exact Or.inr rfl) (js:=[11]) (vars:=[".0","_law_b"]) (dA 11) (by rfl) (by rfl) rfl (bH rfl Z.range (b7 (bQ rfl) rfl Z.len QU (aA (aP (pv 0)) aU))) (λ_ _ _ _=>(qw bY.nd rfl)) (λ_ _ _ _=>(au bf (b7 (bQ rfl) rfl Z.len QU (aA (PD.look (ag (bC rfl) (ag (bC rfl) (a0 (pv 0)) (a0 (pv 11))) a8)) aU)) (a0 (pv 6)))) (λ_ _ _ _=>(a0 (pv 11)))) (aG (i:=7) (aa (fg (i:=8) bY.nd rfl (ag (bC rfl) (a0 (pv 7)) (aT Q1 (hr.mono (by first|decide|omega)) rfl (padN (a0 (pv 1)) (dG (aB (aR rfl) (a0 (pv 2)) a8) (iQ (b7 (bQ rfl) rfl Z.len QU (aA (aP (pv 7)) aU)) a7)))))) (aa (lL (i:=9) bY.nd rfl (by first|exact Or.inl rfl|exact Or.inr rfl) (js:=[11]) (vars:=[".0","_law_b"]) (dA 11) (by rfl) (by rfl) rfl (bH rfl Z.range (b7 (bQ rfl) rfl Z.len QU (aA (aP (pv 0)) aU))) (λ_ _ _ _=>(qw bY.nd rfl)) (λ_ _ _ _=>(nW.pt (gz (au bf (b7 (bQ rfl) rfl Z.len QU (aA (PD.look (ag (bC rfl) (ag (bC rfl) (a0 (pv 0)) (a0 (pv 11))) a8)) aU)) a8) (gz (au jB (a0 (pv 11)) (a0 (pv 5))) (gN (au jB (a0 (pv 11)) (a0 (pv 8)))))))) (λ_ _ _ _=>(a0 (pv 11)))) (aa (fg (i:=10) bY.nd rfl (aT Q2 (hr.mono (by first|decide|omega)) rfl (padN (a0 (pv 1)) (dG (aB (aR rfl) (a0 (pv 2)) a8) a7)))) (aa (aW (au bf (a0 (pv 4)) aK) (ab (aj (aN (cB aK (padN (a0 (pv 5)) (iQ (jT (eZ rfl) rfl Z.tuple L3.dS (cT (pf rfl (aY (padN (a0 (pv 10)) (M8 (G0 (a0 (pv 10))) a7))) p7 (p6 (a0 (pv 6)))) a7)) a7)))))) ax) (aa (aW (nW.pt (gz (au bf (a0 (pv 4)) aK) (gN (au jB (a0 (pv 5)) (a0 (pv 8)))))) (ab (aj (aN (cB aK (padN (a0 (pv 5)) (padN (a0 (pv 8)) a7)))))) ax) (aa (aW (au bf (a0 (pv 4)) aK) (ab (aj (aN (cB aK (padN (a0 (pv 5)) (padN (a0 (pv 10)) a7)))))) ax) (aa (aW (nW.pt (gz (au bf (a0 (pv 4)) aK) (gN (au bf (a0 (pv 6)) a8)))) (ab (aj (aN (cB aK (padN (a0 (pv 5)) a7))))) ax) (aa (aW (nW.pt (fm (au bf (a0 (pv 4)) aK) (fH (au bf (a0 (pv 4)) aK)))) (ab (aj (aN (padN (a0 (pv 4)) (padN (a0 (pv 5)) (padN (a0 (pv 8)) (padN (a0 (pv 10)) a7))))))) ax) (aa (aW (au bf (a0 (pv 4)) aK) (ab (aj (aN (cB aK (padN (a0 (pv 5)) a7))))) ax) (aa (aW (nW.pt (gz (au bf (a0 (pv 4)) aK) (gz (au jB (a0 (pv 5)) (a0 (pv 8))) (gN (au ym (b7 (bQ rfl) rfl Z.len QU (aA (aP (pv 9)) aU)) a8))))) (aG (i:=9) (ab (aj (aN (cB aK (padN (a0 (pv 5)) (padN (a0 (pv 8)) (cT (ag (bC rfl) (a0 (pv 9)) (aT Q1 (hr.mono (by first|decide|omega)) rfl (padN (a0 (pv 1)) (dG (aB (aR rfl) (a0 (pv 2)) a8) (iQ (b7 (bQ rfl) rfl Z.len QU (aA (aP (pv 9)) aU)) a7))))) a7)))))))) ax) (ab (aj (aN (cB aK (dG (aB (aR rfl) a8 (aT Q1 (hr.mono (by first|decide|omega)) rfl (padN (a0 (pv 1)) (dG (aB (aR rfl) (a0 (pv 2)) a8) (cB a8 a7))))) a7))))))))))))))))))))))
def nC:av yy gQ (ae jq):=⟨rfl,rfl,rfl,by decide +kernel,rfl,by decide +kernel,by decide +kernel⟩
def wq(L:bL K mg "_law_rank" jq gQ)(Z:hV mg)(Q1:dv P w K mg base (aF K cls) 1 "_law_draw" cw aD):dv P w K mg base (aF K cls) 2 "_law_rank" gQ jK:=b9 (k:=1) L nC λf c A o s H E hr=>(aa (fg (i:=2) nC.nd rfl (aT Q1 (hr.mono (by first|decide|omega)) rfl (padN (a0 (pv 0)) (dG (aB (aR rfl) a8 (a0 (pv 1))) (cB a8 a7))))) (ab (aj (ag (bC rfl) (aY (dG (aB (aR rfl) a8 (a0 (pv 2))) (dG (aB (aR rfl) (a0 (pv 1)) (aB pC (a0 (pv 2)) a8)) (dG (aB kW a8 (a0 (pv 1))) (dG (aB (aR rfl) a8 (aB pC (a0 (pv 2)) a8)) a7))))) (aT Q1 (hr.mono (by first|decide|omega)) rfl (padN (a0 (pv 0)) (cB a8 (cB a8 a7))))))))
def k9:av yx gP (ae jo):=⟨rfl,rfl,rfl,by decide +kernel,rfl,by decide +kernel,by decide +kernel⟩
def wo(L:bL K mg "_law_shut" jo gP)(Z:hV mg)(Q1:dv P w K mg base (aF K cls) 1 "_law_draw" cw aD):dv P w K mg base (aF K cls) 2 "_law_shut" gP jJ:=b9 (k:=1) L k9 λf c A o s H E hr=>(aa (fg (i:=3) k9.nd rfl (aT Q1 (hr.mono (by first|decide|omega)) rfl (padN (a0 (pv 0)) (padN (a0 (pv 1)) (dG (aB uf a8 (a0 (pv 2))) a7))))) (aa (fg (i:=4) k9.nd rfl (aT Q1 (hr.mono (by first|decide|omega)) rfl (padN (a0 (pv 0)) (dG (aB (aR rfl) (a0 (pv 1)) a8) (dG (aB uf a8 (a0 (pv 2))) a7))))) (ab (aj (aB uf (ag (bC rfl) (aY (cB a8 (dG (aB pD (a0 (pv 3)) (a0 (pv 4))) (padN (a0 (pv 3)) a7)))) (aT Q1 (hr.mono (by first|decide|omega)) rfl (padN (a0 (pv 0)) (cB a8 (cB a8 a7))))) a8)))))
def bX:av rB dJ (ae fC):=⟨rfl,rfl,rfl,by decide +kernel,rfl,by decide +kernel,by decide +kernel⟩
def pG(L:bL K mg "_law_program" fC dJ)(Z:hV mg)(Qz:dv P w K mg base (aF K cls) 3 "_law_boxes" fU iv)(Q0:dv P w K mg base (aF K cls) 3 "_law_deed" gR jL)(Q1:dv P w K mg base (aF K cls) 1 "_law_draw" cw aD)(Q6:dv P w K mg base (aF K cls) 2 "_law_rank" gQ jK)(Q7:dv P w K mg base (aF K cls) 2 "_law_shut" gP jJ):dv P w K mg base (aF K cls) 4 "_law_program" dJ fM:=b9 (k:=3) L bX λf c A o s H E hr=>(aa (fg (i:=2) bX.nd rfl (aT Qz (hr.mono (by first|decide|omega)) rfl (padN (a0 (pv 0)) a7))) (aa (fg (i:=3) bX.nd rfl (aT Q1 (hr.mono (by first|decide|omega)) rfl (padN (a0 (pv 0)) (cB a8 (cB a8 a7))))) (aa (fg (i:=4) bX.nd rfl (aY a7)) (aa (cE V8 rfl (bH rfl Z.range (aB (aR rfl) (a0 (pv 3)) a8)) (qw bX.nd rfl) (aa (fg (i:=6) bX.nd rfl (aY a7)) (aa (cE V8 rfl (bH rfl Z.range (aB (aR rfl) a8 (aT Q1 (hr.mono (by first|decide|omega)) rfl (padN (a0 (pv 0)) (dG (aB (aR rfl) a8 (a0 (pv 5))) (padN (a0 (pv 1)) a7)))))) (qw bX.nd rfl) (aa (fg (i:=8) bX.nd rfl (aB (aR rfl) (aB (aR rfl) a8 (aB fI a8 (a0 (pv 5)))) (aB fI a8 (a0 (pv 7))))) (ab (cQ (i:=6) (pv 6) (aN (iQ (aT Q0 (hr.mono (by first|decide|omega)) rfl (padN (a0 (pv 2)) (padN (a0 (pv 0)) (padN (a0 (pv 8)) a7)))) (iQ (aT Q7 (hr.mono (by first|decide|omega)) rfl (padN (a0 (pv 0)) (dG (aB (aR rfl) (a0 (pv 8)) a8) (padN (a0 (pv 3)) a7)))) a7))))))) (ab (aW (au bf (a0 (pv 5)) a8) (aG (i:=6) (ab (cQ (i:=4) (pv 4) (aN (cB aK (cB a8 (iQ (jT (eZ rfl) rfl Z.tuple L3.dS (padN (a0 (pv 6)) a7)) a7))))))) (aG (i:=6) (ab (cQ (i:=4) (pv 4) (aN (dG (aB wj (ag (bC rfl) aK (aB kW (a0 (pv 5)) a8)) (aB (aR rfl) a8 (aB gD (a0 (pv 5)) a8))) (iQ (aT Q6 (hr.mono (by first|decide|omega)) rfl (padN (a0 (pv 0)) (padN (a0 (pv 5)) a7))) (iQ (jT (eZ rfl) rfl Z.tuple L3.dS (padN (a0 (pv 6)) a7)) a7)))))))))))) (aG (i:=4) (ab (aj (aN (padN (a0 (pv 2)) (iQ (jT (eZ rfl) rfl Z.tuple L3.dS (padN (a0 (pv 4)) a7)) a7))))))))))
def y9:av Bw iT (ae kN):=⟨rfl,rfl,rfl,by decide +kernel,rfl,by decide +kernel,by decide +kernel⟩
def yq(L:bL K mg "size_of" kN iT)(Z:hV mg)  : dv P w K mg base (aF K cls) 1 "size_of" iT gL:=b9 (k:=0) L y9 λf c A o s H E hr=>(ab (aj (b7 (bQ rfl) rfl Z.len QU (aA (PD.look (ag (bC rfl) (ag (bC rfl) (a0 (pv 0)) (a0 (pv 1))) a8)) aU))))
def kf:av yC fq (ae jv):=⟨rfl,rfl,rfl,by decide +kernel,rfl,by decide +kernel,by decide +kernel⟩
def wy(L:bL K mg "cells_of" jv fq)(Z:hV mg)(Vf:dv P w K mg base (aF K cls) 1 "size_of" iT gL):dv P w K mg base (aF K cls) 2 "cells_of" fq dk:=b9 (k:=1) L kf λf c A o s H E hr=>(aa (fg (i:=2) kf.nd rfl (Ds (JI rfl rfl) rfl Z.sum L3.JL (c0 (kT (js:=[3]) (vars:=[".0","k"]) (dA 3) (by rfl) (by rfl) rfl (bH rfl Z.range (a0 (pv 1))) (λ_ _ _ _=>(qw kf.nd rfl)) (λ_ _ _ _=>(aT Vf (hr.mono (by first|decide|omega)) rfl (padN (a0 (pv 0)) (padN (a0 (pv 3)) a7))))) a7))) (ab (aj (ub rfl rfl Z.list rfl Z.range (a0 (pv 2)) (aB (aR rfl) (a0 (pv 2)) (aT Vf (hr.mono (by first|decide|omega)) rfl (padN (a0 (pv 0)) (padN (a0 (pv 1)) a7))))))))
def B7:av DH dN (ae m6):=⟨rfl,rfl,rfl,by decide +kernel,rfl,by decide +kernel,by decide +kernel⟩
def Bp(L:cV K mg cls "Deed" "Deed" "Deed.__init__" m6 dN)(Z:hV mg)(Qk:∀c∈["Deed","Promise","Comparing","Untouched","Still","Put","Copy","Tick","Handed","Grow","Anew"],k7 K (cls c)/\cH K (cls c) "plan"):cf P w K mg base (aF K cls) 1 "Deed" "Deed" dN eR:=cL (k:=0) L B7 (by decide) λf c A o s H E hr=>(cu (p3 (cs:=["Deed","Promise","Comparing","Untouched","Still","Put","Copy","Tick","Handed","Grow","Anew"]) rfl Qk (pv 0) (a0 (pv 1))) eF)
def ke:av yB fo (ae ju):=⟨rfl,rfl,rfl,by decide +kernel,rfl,by decide +kernel,by decide +kernel⟩
def wx(L:cV K mg cls "Handed" "Handed" "Handed.__init__" ju fo)(Z:hV mg)(Qp:cf P w K mg base (aF K cls) 1 "Deed" "Deed" dN eR):cf P w K mg base (aF K cls) 2 "Handed" "Handed" fo j7:=cL (k:=1) L ke (by decide) λf c A o s H E hr=>(cu (fG Qp (hr.mono (by decide)) rfl (pv 0) (dG (aB (aR rfl) (kT (js:=[3]) (vars:=[".0","cell"]) (dA 3) (by rfl) (by rfl) rfl (gC rfl (a0 (pv 1))) (λ_ _ _ _=>(qw ke.nd rfl)) (λ_ _ _ _=>(aN (iE (aN (padN (a0 (pv 3)) a7)) (iE (aN a7) a7))))) (kT (js:=[3]) (vars:=[".0","cell"]) (dA 3) (by rfl) (by rfl) rfl (gC rfl (a0 (pv 2))) (λ_ _ _ _=>(qw ke.nd rfl)) (λ_ _ _ _=>(aN (iE (aN a7) (iE (aN (padN (a0 (pv 3)) a7)) a7)))))) a7)) eF)
def B8:av DJ kq (ae m9):=⟨rfl,rfl,rfl,by decide +kernel,rfl,by decide +kernel,by decide +kernel⟩
def Br(L:cV K mg cls "Anew" "Anew" "Anew.__init__" m9 kq)(Z:hV mg)(Qh:∀c∈["Anew"],k7 K (cls c)/\cH K (cls c) "check")(Qr:cf P w K mg base (aF K cls) 2 "Handed" "Handed" fo j7):cf P w K mg base (aF K cls) 3 "Anew" "Anew" kq yZ:=cL (k:=2) L B8 (by decide) λf c A o s H E hr=>(cu (fG Qr (hr.mono (by decide)) rfl (pv 0) (dG (aB (aR rfl) (aB (aR rfl) (aY (padN (a0 (pv 3)) a7)) (a0 (pv 2))) (aY (padN (a0 (pv 3)) a7))) (padN (a0 (pv 1)) a7))) (cu (p3 (cs:=["Anew"]) rfl Qh (pv 0) (aB (aR rfl) (b7 (bQ rfl) rfl Z.len QU (aA (aP (pv 2)) aU)) a8)) eF))
def tZ:av wI dZ (ae il):=⟨rfl,rfl,rfl,by decide +kernel,rfl,by decide +kernel,by decide +kernel⟩
def uo(L:cV K mg cls "Promise" "Promise" "Promise.__init__" il dZ)(Z:hV mg)(Qp:cf P w K mg base (aF K cls) 1 "Deed" "Deed" dN eR):cf P w K mg base (aF K cls) 2 "Promise" "Promise" dZ gK:=cL (k:=1) L tZ (by decide) λf c A o s H E hr=>(cu (fG Qp (hr.mono (by decide)) rfl (pv 0) (c0 (aY (iE (aN (iQ (jT (eZ rfl) rfl Z.tuple L3.dS (padN (a0 (pv 1)) a7)) (iE (aN a7) a7))) a7)) a7)) eF)
def oY:av rE dO (ae fE):=⟨rfl,rfl,rfl,by decide +kernel,rfl,by decide +kernel,by decide +kernel⟩
def pI(L:cV K mg cls "Comparing" "Comparing" "Comparing.__init__" fE dO)(Z:hV mg)(Qs:cf P w K mg base (aF K cls) 2 "Promise" "Promise" dZ gK):cf P w K mg base (aF K cls) 3 "Comparing" "Comparing" dO kx:=cL (k:=2) L oY (by decide) λf c A o s H E hr=>(cu (fG Qs (hr.mono (by decide)) rfl (pv 0) (iQ (u9 rfl rfl rfl Z.sorted rfl Z.set (aB (aR rfl) (a0 (pv 1)) (a0 (pv 2)))) a7)) eF)
def rV:av DI ko (ae m7):=⟨rfl,rfl,rfl,by decide +kernel,rfl,by decide +kernel,by decide +kernel⟩
def Bq(L:cV K mg cls "Copy" "Copy" "Copy.__init__" m7 ko)(Z:hV mg)(Qp:cf P w K mg base (aF K cls) 1 "Deed" "Deed" dN eR):cf P w K mg base (aF K cls) 2 "Copy" "Copy" ko yY:=cL (k:=1) L rV (by decide) λf c A o s H E hr=>(cu (fG Qp (hr.mono (by decide)) rfl (pv 0) (c0 (kT (js:=[3]) (vars:=[".0","k"]) (dA 3) (by rfl) (by rfl) rfl (bH rfl Z.range (b7 (bQ rfl) rfl Z.len QU (aA (aP (pv 1)) aU))) (λ_ _ _ _=>(qw rV.nd rfl)) (λ_ _ _ _=>(aN (iE (aN (cT (ag (bC rfl) (a0 (pv 2)) (a0 (pv 3))) a7)) (iE (aN (cT (ag (bC rfl) (a0 (pv 1)) (a0 (pv 3))) a7)) a7))))) a7)) eF)
def B6:av DG kn (ae m5):=⟨rfl,rfl,rfl,by decide +kernel,rfl,by decide +kernel,by decide +kernel⟩
def Bo(L:cV K mg cls "Grow" "Grow" "Grow.__init__" m5 kn)(Z:hV mg)(Qi:∀c∈["Grow"],k7 K (cls c)/\cH K (cls c) "number")(Ql:∀c∈["Grow"],k7 K (cls c)/\cH K (cls c) "size")(Qr:cf P w K mg base (aF K cls) 2 "Handed" "Handed" fo j7):cf P w K mg base (aF K cls) 3 "Grow" "Grow" kn yX:=cL (k:=2) L B6 (by decide) λf c A o s H E hr=>(cu (fG Qr (hr.mono (by decide)) rfl (pv 0) (padN (a0 (pv 1)) (padN (a0 (pv 1)) a7))) (cu (p3 (cs:=["Grow"]) rfl Ql (pv 0) (b7 (bQ rfl) rfl Z.len QU (aA (aP (pv 1)) aU))) (cu (p3 (cs:=["Grow"]) rfl Qi (pv 0) (a0 (pv 2))) eF)))
def vN:av Gi mq (ae og):=⟨rfl,rfl,rfl,by decide +kernel,rfl,by decide +kernel,by decide +kernel⟩
def Dz(L:cV K mg cls "Put" "Put" "Put.__init__" og mq)(Z:hV mg)(Qj:∀c∈["Put"],k7 K (cls c)/\cH K (cls c) "numbers")(Qp:cf P w K mg base (aF K cls) 1 "Deed" "Deed" dN eR):cf P w K mg base (aF K cls) 2 "Put" "Put" mq Ec:=cL (k:=1) L vN (by decide) λf c A o s H E hr=>(cu (fG Qp (hr.mono (by decide)) rfl (pv 0) (c0 (kT (js:=[3]) (vars:=[".0","cell"]) (dA 3) (by rfl) (by rfl) rfl (gC rfl (a0 (pv 1))) (λ_ _ _ _=>(qw vN.nd rfl)) (λ_ _ _ _=>(aN (iE (aN a7) (iE (aN (padN (a0 (pv 3)) a7)) a7))))) a7)) (cu (p3 (cs:=["Put"]) rfl Qj (pv 0) (jT (eZ rfl) rfl Z.tuple L3.dS (padN (a0 (pv 2)) a7))) eF))
def ya:av By iU (ae kO):=⟨rfl,rfl,rfl,by decide +kernel,rfl,by decide +kernel,by decide +kernel⟩
def yr(L:cV K mg cls "Still" "Still" "Still.__init__" kO iU)(Z:hV mg)(Qp:cf P w K mg base (aF K cls) 1 "Deed" "Deed" dN eR):cf P w K mg base (aF K cls) 2 "Still" "Still" iU uP:=cL (k:=1) L ya (by decide) λf c A o s H E hr=>(cu (fG Qp (hr.mono (by decide)) rfl (pv 0) (dG (IK (aY (iE (aN (iE (aN a7) (iE (aN a7) a7))) a7)) (a0 (pv 1))) a7)) eF)
def B5:av DF km (ae lZ):=⟨rfl,rfl,rfl,by decide +kernel,rfl,by decide +kernel,by decide +kernel⟩
def Bn(L:cV K mg cls "Tick" "Tick" "Tick.__init__" lZ km)(Z:hV mg)(Qp:cf P w K mg base (aF K cls) 1 "Deed" "Deed" dN eR):cf P w K mg base (aF K cls) 2 "Tick" "Tick" km yW:=cL (k:=1) L B5 (by decide) λf c A o s H E hr=>(cu (fG Qp (hr.mono (by decide)) rfl (pv 0) (c0 (aY (iE (aN (iE (aN (padN (a0 (pv 1)) a7)) (iE (aN (padN (a0 (pv 1)) a7)) a7))) a7)) a7)) eF)
def oX:av rC dM (ae fD):=⟨rfl,rfl,rfl,by decide +kernel,rfl,by decide +kernel,by decide +kernel⟩
def pH(L:cV K mg cls "Untouched" "Untouched" "Untouched.__init__" fD dM)(Z:hV mg)(Qs:cf P w K mg base (aF K cls) 2 "Promise" "Promise" dZ gK):cf P w K mg base (aF K cls) 3 "Untouched" "Untouched" dM ku:=cL (k:=2) L oX (by decide) λf c A o s H E hr=>(cu (fG Qs (hr.mono (by decide)) rfl (pv 0) (c0 (aY a7) a7)) eF)
def jl:av Bz iV (ae kP):=⟨rfl,rfl,rfl,by decide +kernel,rfl,by decide +kernel,by decide +kernel⟩
def yt(L:bL K mg "deed_of" kP iV)(Z:hV mg)(Qe:dv P w K mg base (aF K cls) 2 "cells_of" fq dk)(Qm:cf P w K mg base (aF K cls) 3 "Anew" "Anew" kq yZ)(Qn:cf P w K mg base (aF K cls) 3 "Comparing" "Comparing" dO kx)(Qo:cf P w K mg base (aF K cls) 2 "Copy" "Copy" ko yY)(Qq:cf P w K mg base (aF K cls) 3 "Grow" "Grow" kn yX)(Qt:cf P w K mg base (aF K cls) 2 "Put" "Put" mq Ec)(Qu:cf P w K mg base (aF K cls) 2 "Still" "Still" iU uP)(Qv:cf P w K mg base (aF K cls) 2 "Tick" "Tick" km yW)(Qw:cf P w K mg base (aF K cls) 3 "Untouched" "Untouched" dM ku):dv P w K mg base (aF K cls) 5 "deed_of" iV kZ:=b9 (k:=4) L jl λf c A o s H E hr=>(aa (fg (i:=2) jl.nd rfl (ag (bC rfl) (a0 (pv 1)) a8)) (aa (aW (au bf (a0 (pv 2)) aK) (ab (aj (jz Qu (hr.mono (by decide)) rfl (cT (ag (bC rfl) (a0 (pv 1)) a8) a7)))) ax) (aa (aW (au bf (a0 (pv 2)) aK) (ab (aj (Dp Qw (hr.mono (by decide)) rfl))) ax) (aa (fg (i:=3) jl.nd rfl (aT Qe (hr.mono (by first|decide|omega)) rfl (padN (a0 (pv 0)) (cT (ag (bC rfl) (a0 (pv 1)) a8) a7)))) (aa (aW (au bf (a0 (pv 2)) aK) (aG (i:=3) (ab (aj (jz Qt (hr.mono (by decide)) rfl (padN (a0 (pv 3)) (cT (ag (bC rfl) (a0 (pv 1)) a8) a7)))))) ax) (aa (aW (au bf (a0 (pv 2)) aK) (aG (i:=3) (ab (aj (jz Qq (hr.mono (by decide)) rfl (padN (a0 (pv 3)) (cT (ag (bC rfl) (a0 (pv 1)) a8) a7)))))) ax) (aa (aW (au bf (a0 (pv 2)) aK) (aG (i:=3) (ab (aj (jz Qv (hr.mono (by decide)) rfl (cT (ag (bC rfl) (a0 (pv 3)) a8) a7))))) ax) (aa (fg (i:=4) jl.nd rfl (aT Qe (hr.mono (by first|decide|omega)) rfl (padN (a0 (pv 0)) (cT (ag (bC rfl) (a0 (pv 1)) a8) a7)))) (aa (aW (au bf (a0 (pv 2)) aK) (aG (i:=4) (aG (i:=3) (ab (aj (jz Qo (hr.mono (by decide)) rfl (padN (a0 (pv 3)) (padN (a0 (pv 4)) a7))))))) ax) (aa (aW (au bf (a0 (pv 2)) aK) (aG (i:=4) (aG (i:=3) (ab (aj (jz Qm (hr.mono (by decide)) rfl (padN (a0 (pv 3)) (padN (a0 (pv 4)) (cT (ag (bC rfl) (aT Qe (hr.mono (by first|decide|omega)) rfl (padN (a0 (pv 0)) (cT (ag (bC rfl) (a0 (pv 1)) a8) a7))) a8) a7)))))))) ax) (aG (i:=4) (aG (i:=3) (ab (aj (jz Qn (hr.mono (by decide)) rfl (padN (a0 (pv 3)) (padN (a0 (pv 4)) a7)))))))))))))))))
def qW:av uy eO (ae gy):=⟨rfl,rfl,rfl,by decide +kernel,rfl,by decide +kernel,by decide +kernel⟩
def rj(L:mJ K cls "reads" "Deed.reads" gy eO ["Deed","Promise","Comparing","Untouched","Still","Put","Copy","Tick","Handed","Grow","Anew"])(Z:hV mg)(Qk:∀c∈["Deed","Promise","Comparing","Untouched","Still","Put","Copy","Tick","Handed","Grow","Anew"],k7 K (cls c)/\cH K (cls c) "plan"):mI P w K mg base (aF K cls) 1 "reads" eO eY ["Deed","Promise","Comparing","Untouched","Still","Put","Copy","Tick","Handed","Grow","Anew"]:=mW (k:=0) L qW λf c A o s H E hr=>(ab (aj (jT (AB rfl) rfl Z.list L3.va (cT (ag (bC rfl) (ag (bC rfl) (yj (cs:=["Deed","Promise","Comparing","Untouched","Still","Put","Copy","Tick","Handed","Grow","Anew"]) rfl Qk (a0 (pv 0))) (a0 (pv 1))) a8) a7))))
def qV:av ux eM (ae gw):=⟨rfl,rfl,rfl,by decide +kernel,rfl,by decide +kernel,by decide +kernel⟩
def ri(L:mJ K cls "turns" "Deed.turns" gw eM ["Deed","Promise","Comparing","Untouched","Still","Put","Copy","Tick","Handed","Grow","Anew"])(Z:hV mg)(Qk:∀c∈["Deed","Promise","Comparing","Untouched","Still","Put","Copy","Tick","Handed","Grow","Anew"],k7 K (cls c)/\cH K (cls c) "plan"):mI P w K mg base (aF K cls) 1 "turns" eM eV ["Deed","Promise","Comparing","Untouched","Still","Put","Copy","Tick","Handed","Grow","Anew"]:=mW (k:=0) L qV λf c A o s H E hr=>(ab (aj (b7 (bQ rfl) rfl Z.len QU (aA (PD.look (yj (cs:=["Deed","Promise","Comparing","Untouched","Still","Put","Copy","Tick","Handed","Grow","Anew"]) rfl Qk (a0 (pv 0)))) aU))))
def oZ:av rF dP (ae fF):=⟨rfl,rfl,rfl,by decide +kernel,rfl,by decide +kernel,by decide +kernel⟩
def pJ(L:mJ K cls "writes" "Deed.writes" fF dP ["Deed","Promise","Comparing","Untouched","Still","Put","Copy","Tick","Handed","Grow","Anew"])(Z:hV mg)(Qk:∀c∈["Deed","Promise","Comparing","Untouched","Still","Put","Copy","Tick","Handed","Grow","Anew"],k7 K (cls c)/\cH K (cls c) "plan"):mI P w K mg base (aF K cls) 1 "writes" dP dQ ["Deed","Promise","Comparing","Untouched","Still","Put","Copy","Tick","Handed","Grow","Anew"]:=mW (k:=0) L oZ λf c A o s H E hr=>(ab (aj (jT (AB rfl) rfl Z.list L3.va (cT (ag (bC rfl) (ag (bC rfl) (yj (cs:=["Deed","Promise","Comparing","Untouched","Still","Put","Copy","Tick","Handed","Grow","Anew"]) rfl Qk (a0 (pv 0))) (a0 (pv 1))) a8) a7))))
def cZ:av yw dX (ae jn):=⟨rfl,rfl,rfl,by decide +kernel,rfl,by decide +kernel,by decide +kernel⟩
def wm(L:bL K mg "turns_at" jn dX)(Z:hV mg)(Qe:dv P w K mg base (aF K cls) 2 "cells_of" fq dk)(Qg:dv P w K mg base (aF K cls) 5 "deed_of" iV kZ)(Qa:mI P w K mg base (aF K cls) 1 "reads" eO eY ["Deed","Promise","Comparing","Untouched","Still","Put","Copy","Tick","Handed","Grow","Anew"])(Qb:mI P w K mg base (aF K cls) 1 "turns" eM eV ["Deed","Promise","Comparing","Untouched","Still","Put","Copy","Tick","Handed","Grow","Anew"])(Qc:mI P w K mg base (aF K cls) 1 "writes" dP dQ ["Deed","Promise","Comparing","Untouched","Still","Put","Copy","Tick","Handed","Grow","Anew"]):dv P w K mg base (aF K cls) 6 "turns_at" dX dh:=b9 (k:=5) L cZ λf c A o s H E hr=>(aa (fg (i:=4) cZ.nd rfl (aT Qg (hr.mono (by first|decide|omega)) rfl (padN (a0 (pv 0)) (padN (a0 (pv 1)) a7)))) (aa (fg (i:=5) cZ.nd rfl (aT Qe (hr.mono (by first|decide|omega)) rfl (padN (a0 (pv 0)) (padN (a0 (pv 2)) a7)))) (aa (fg (i:=6) cZ.nd rfl (aY a7)) (aG (i:=4) (aa (cE V8 rfl (bH rfl Z.range (Do (tb:=lR) (oF Qb (hr.mono (by decide)) sW) (a0 (pv 4)))) (qw cZ.nd rfl) (aG (i:=4) (aa (fg (i:=8) cZ.nd rfl (aB (aR rfl) (A4 (tb:=gH) (oF Qc (hr.mono (by decide)) sW) (a0 (pv 4)) (padN (a0 (pv 7)) a7)) (ml (cP (a0 (pv 3))) (A4 (tb:=iM) (oF Qa (hr.mono (by decide)) sW) (a0 (pv 4)) (padN (a0 (pv 7)) a7)) (aY a7)))) (aG (i:=8) (aG (i:=5) (ab (aW (cP (Ds (JK rfl rfl) rfl Z.any L3.JN (c0 (kT (js:=[9]) (vars:=[".0","cell"]) (dA 9) (by rfl) (by rfl) rfl (gC rfl (a0 (pv 8))) (λ_ _ _ _=>(qw cZ.nd rfl)) (λ_ _ _ _=>(mR (yl rfl) (a0 (pv 9)) (a0 (pv 5)) (by with_unfolding_all rfl)))) a7))) (ab (cQ (i:=6) (pv 6) (a0 (pv 7)))) ax))))))) (aG (i:=6) (ab (aj (a0 (pv 6))))))))))
def lY:av Gg mm (ae o9):=⟨rfl,rfl,rfl,by decide +kernel,rfl,by decide +kernel,by decide +kernel⟩
def Dx(L:bL K mg "spans" o9 mm)(Z:hV mg)(Vi:dv P w K mg base (aF K cls) 6 "turns_at" dX dh):dv P w K mg base (aF K cls) 7 "spans" mm mw:=b9 (k:=6) L lY λf c A o s H E hr=>(aa (fg (i:=2) lY.nd rfl (aY a7)) (aa (cE V8 rfl (bH rfl Z.range (b7 (bQ rfl) rfl Z.len QU (aA (aP (pv 0)) aU))) (qw lY.nd rfl) (aa (fg (i:=4) lY.nd rfl (aT Vi (hr.mono (by first|decide|omega)) rfl (padN (a0 (pv 0)) (padN (a0 (pv 1)) (padN (a0 (pv 3)) (cB nD a7)))))) (ab (aW (nW.pt (gz (au ym (b7 (bQ rfl) rfl Z.len QU (aA (aP (pv 4)) aU)) a8) (gN (nW.pt (fm (au jB (ag (bC rfl) (a0 (pv 1)) a8) aK) (fH (au bf (a0 (pv 3)) (ag (bC rfl) (a0 (pv 1)) a8)))))))) (aG (i:=4) (ab (cQ (i:=2) (pv 2) (aN (padN (a0 (pv 3)) (cT (ag (bC rfl) (a0 (pv 4)) a8) (cT (ag (bC rfl) (a0 (pv 4)) IP) a7))))))) ax)))) (ab (Dg (i:=2) (pv 2)))))
def kh:av yD gS (ae jw):=⟨rfl,rfl,rfl,by decide +kernel,rfl,by decide +kernel,by decide +kernel⟩
def wz(L:bL K mg "begun_at" jw gS)(Z:hV mg)(Vg:dv P w K mg base (aF K cls) 7 "spans" mm mw):dv P w K mg base (aF K cls) 8 "begun_at" gS gX:=b9 (k:=7) L kh λf c A o s H E hr=>(aa (lL (i:=3) kh.nd rfl (by first|exact Or.inl rfl|exact Or.inr rfl) (js:=[4]) (vars:=[".0","span"]) (dA 4) (by rfl) (by rfl) rfl (gC rfl (aT Vg (hr.mono (by first|decide|omega)) rfl (padN (a0 (pv 0)) (padN (a0 (pv 1)) a7)))) (λ_ _ _ _=>(qw kh.nd rfl)) (λ_ _ _ _=>(au bf (ag (bC rfl) (a0 (pv 4)) a8) (a0 (pv 2)))) (λ_ _ _ _=>(ag (bC rfl) (a0 (pv 4)) a8))) (aG (i:=3) (ab (aj (ml (au (mT rfl (z4 hr)) (a0 (pv 3)) (aY a7)) (ag (bC rfl) (a0 (pv 3)) a8) IM)))))
def yb:av BA iW (ae kQ):=⟨rfl,rfl,rfl,by decide +kernel,rfl,by decide +kernel,by decide +kernel⟩
def yu(L:bL K mg "deed_at" kQ iW)(Z:hV mg)  : dv P w K mg base (aF K cls) 1 "deed_at" iW ja:=b9 (k:=0) L yb λf c A o s H E hr=>(ab (aj (ag (bC rfl) (ag (bC rfl) (ag (bC rfl) (ag (bC rfl) (ag (bC rfl) (a0 (pv 0)) a8) (a0 (pv 1))) a8) (a0 (pv 2))) a8)))
def oU:av rn dH (ae fA):=⟨rfl,rfl,rfl,by decide +kernel,rfl,by decide +kernel,by decide +kernel⟩
def pE(L:bL K mg "touches_box" fA dH)(Z:hV mg)(Vi:dv P w K mg base (aF K cls) 6 "turns_at" dX dh):dv P w K mg base (aF K cls) 7 "touches_box" dH fK:=b9 (k:=6) L oU λf c A o s H E hr=>(ab (aj (mR (mT rfl (z4 hr)) (aT Vi (hr.mono (by first|decide|omega)) rfl (padN (a0 (pv 0)) (padN (a0 (pv 1)) (padN (a0 (pv 2)) (cB nD a7))))) (aY a7))))
def qU:av uq eG (ae gn):=⟨rfl,rfl,rfl,by decide +kernel,rfl,by decide +kernel,by decide +kernel⟩
def qZ(L:bL K mg "writes_box" gn eG)(Z:hV mg)(Vi:dv P w K mg base (aF K cls) 6 "turns_at" dX dh):dv P w K mg base (aF K cls) 7 "writes_box" eG gF:=b9 (k:=6) L qU λf c A o s H E hr=>(ab (aj (mR (mT rfl (z4 hr)) (aT Vi (hr.mono (by first|decide|omega)) rfl (padN (a0 (pv 0)) (padN (a0 (pv 1)) (padN (a0 (pv 2)) (cB nD a7))))) (aY a7))))
def fO:av yv gO (ae jm):=⟨rfl,rfl,rfl,by decide +kernel,rfl,by decide +kernel,by decide +kernel⟩
def wk(L:bL K mg "users_of" jm gO)(Z:hV mg)(Vh:dv P w K mg base (aF K cls) 7 "touches_box" dH fK)(Vm:dv P w K mg base (aF K cls) 7 "writes_box" eG gF):dv P w K mg base (aF K cls) 8 "users_of" gO jH:=b9 (k:=7) L fO λf c A o s H E hr=>(aa (fg (i:=2) fO.nd rfl (ag (bC rfl) (a0 (pv 0)) a8)) (aa (fg (i:=3) fO.nd rfl (aY a7)) (aa (cE V8 rfl (wb rfl rfl Z.enumerate (ag (bC rfl) (a0 (pv 0)) a8)) (wd rfl rfl fO.nd rfl rfl (by first|exact Or.inl rfl|exact Or.inr rfl) (by first|exact Or.inl rfl|exact Or.inr rfl)) (ab (cE V8 rfl (wb rfl rfl Z.enumerate (ag (bC rfl) (a0 (pv 5)) a8)) (wd rfl rfl fO.nd rfl rfl (by first|exact Or.inl rfl|exact Or.inr rfl) (by first|exact Or.inl rfl|exact Or.inr rfl)) (ab (aW (cP (aT Vh (hr.mono (by first|decide|omega)) rfl (padN (a0 (pv 2)) (cT (ag (bC rfl) (a0 (pv 7)) a8) (padN (a0 (pv 1)) a7))))) (ab (cQ (i:=3) (pv 3) (aN (padN (a0 (pv 4)) (padN (a0 (pv 6)) (iQ (aT Vm (hr.mono (by first|decide|omega)) rfl (padN (a0 (pv 2)) (cT (ag (bC rfl) (a0 (pv 7)) a8) (padN (a0 (pv 1)) a7)))) a7)))))) ax))))) (aG (i:=3) (ab (aj (a0 (pv 3))))))))
def tV:av wB fP (ae i7):=⟨rfl,rfl,rfl,by decide +kernel,rfl,by decide +kernel,by decide +kernel⟩
def ug(L:bL K mg "places_of" i7 fP)(Z:hV mg)  : dv P w K mg base (aF K cls) 1 "places_of" fP ir:=b9 (k:=0) L tV λf c A o s H E hr=>(ab (aj (ag (bC rfl) (ag (bC rfl) (ag (bC rfl) (a0 (pv 0)) a8) (a0 (pv 1))) a8)))
def oT:av Bv iS (ae kM):=⟨rfl,rfl,rfl,by decide +kernel,rfl,by decide +kernel,by decide +kernel⟩
def yp(L:bL K mg "word_at" kM iS)(Z:hV mg)(Ve:dv P w K mg base (aF K cls) 1 "places_of" fP ir):dv P w K mg base (aF K cls) 2 "word_at" iS j9:=b9 (k:=1) L oT λf c A o s H E hr=>(aa (fg (i:=3) oT.nd rfl (aT Ve (hr.mono (by first|decide|omega)) rfl (padN (a0 (pv 0)) (padN (a0 (pv 1)) a7)))) (ab (aj (ml (au IS (a0 (pv 2)) (b7 (bQ rfl) rfl Z.len QU (aA (aP (pv 3)) aU))) (ag (bC rfl) (ag (bC rfl) (a0 (pv 3)) (a0 (pv 2))) a8) a8))))
def oS:av Bu iR (ae kL):=⟨rfl,rfl,rfl,by decide +kernel,rfl,by decide +kernel,by decide +kernel⟩
def yo(L:bL K mg "word_of" kL iR)(Z:hV mg)(Vk:dv P w K mg base (aF K cls) 2 "word_at" iS j9):dv P w K mg base (aF K cls) 3 "word_of" iR kY:=b9 (k:=2) L oS λf c A o s H E hr=>(aa (fg (i:=5) oS.nd rfl (ag (bC rfl) (a0 (pv 0)) a8)) (aa (aW (au Dv (ag (bC rfl) (ag (bC rfl) (a0 (pv 5)) (a0 (pv 3))) a8) (ag (bC rfl) (ag (bC rfl) (a0 (pv 5)) (a0 (pv 1))) a8)) (ab (aj aK)) ax) (aa (aW (FL rfl (aB pD (aB A7 (aT Vk (hr.mono (by first|decide|omega)) rfl (padN (a0 (pv 0)) (padN (a0 (pv 1)) (padN (a0 (pv 2)) a7)))) (a0 (pv 3))) a8)) (ab (aj aK)) ax) (ab (aj (ml (cP (a0 (pv 4))) aK aK))))))
def cR:av pO de (ae eD):=⟨rfl,rfl,rfl,by decide +kernel,rfl,by decide +kernel,by decide +kernel⟩
def nO(L:bL K mg "pairs_of_box" eD de)(Z:hV mg)(Qd:dv P w K mg base (aF K cls) 8 "begun_at" gS gX)(Qf:dv P w K mg base (aF K cls) 1 "deed_at" iW ja)(Vj:dv P w K mg base (aF K cls) 8 "users_of" gO jH)(Vl:dv P w K mg base (aF K cls) 3 "word_of" iR kY):dv P w K mg base (aF K cls) 9 "pairs_of_box" de eT:=b9 (k:=8) L cR λf c A o s H E hr=>(aa (fg (i:=2) cR.nd rfl (aT Vj (hr.mono (by first|decide|omega)) rfl (padN (a0 (pv 0)) (padN (a0 (pv 1)) a7)))) (aa (fg (i:=3) cR.nd rfl (aY a7)) (aG (i:=2) (aa (cE V8 rfl (gC rfl (a0 (pv 2))) (se rfl rfl cR.nd rfl rfl rfl (by first|exact Or.inl rfl|exact Or.inr rfl) (by first|exact Or.inl rfl|exact Or.inr rfl) (by first|exact Or.inl rfl|exact Or.inr rfl)) (aa (aW (FM (aT Qd (hr.mono (by first|decide|omega)) rfl (cT (ag (bC rfl) (a0 (pv 0)) a8) (iQ (aT Qf (hr.mono (by first|decide|omega)) rfl (padN (a0 (pv 0)) (padN (a0 (pv 4)) (padN (a0 (pv 5)) a7)))) (padN (a0 (pv 1)) a7))))) (ab u7) ax) (aG (i:=2) (ab (cE V8 rfl (gC rfl (a0 (pv 2))) (se rfl rfl cR.nd rfl rfl rfl (by first|exact Or.inl rfl|exact Or.inr rfl) (by first|exact Or.inl rfl|exact Or.inr rfl) (by first|exact Or.inl rfl|exact Or.inr rfl)) (ab (aW (nW.pt (gz (au jB (a0 (pv 7)) (a0 (pv 4))) (gN (nW.pt (fm (cP (a0 (pv 6))) (fH (cP (a0 (pv 9))))))))) (ab (cQ (i:=3) (pv 3) (aN (padN (a0 (pv 1)) (padN (a0 (pv 4)) (padN (a0 (pv 5)) (padN (a0 (pv 7)) (padN (a0 (pv 8)) (iQ (aT Vl (hr.mono (by first|decide|omega)) rfl (padN (a0 (pv 0)) (padN (a0 (pv 4)) (padN (a0 (pv 5)) (padN (a0 (pv 7)) (c0 (ue (a0 (pv 6)) (ua (a0 (pv 9)))) a7)))))) a7))))))))) ax))))))) (aG (i:=3) (ab (aj (a0 (pv 3)))))))))
def oV:av Gh mn (ae oe):=⟨rfl,rfl,rfl,by decide +kernel,rfl,by decide +kernel,by decide +kernel⟩
def Dy(L:bL K mg "pairs" oe mn)(Z:hV mg)(Vd:dv P w K mg base (aF K cls) 9 "pairs_of_box" de eT):dv P w K mg base (aF K cls) 10 "pairs" mn jI:=b9 (k:=9) L oV λf c A o s H E hr=>(aa (fg (i:=1) oV.nd rfl (aY a7)) (aa (cE V8 rfl (bH rfl Z.range (b7 (bQ rfl) rfl Z.len QU (aA (PD.look (ag (bC rfl) (a0 (pv 0)) a8)) aU))) (qw oV.nd rfl) (ab (p4 (i:=1) rfl (pv 1) (aT Vd (hr.mono (by first|decide|omega)) rfl (padN (a0 (pv 0)) (padN (a0 (pv 2)) a7)))))) (aG (i:=1) (ab (aj (pd rfl rfl Z.sorted (a0 (pv 1))))))))
def kb:av KO A6 (ae vO):=⟨rfl,rfl,rfl,by decide +kernel,rfl,by decide +kernel,by decide +kernel⟩
def Jc{f:Vp}{fd:FuncData}(L:Cs K "law" "law" vO f fd)(Z:hV mg)(Qx:dv P w K mg base (aF K cls) 2 "_law_alike" fV c5)(Q1:dv P w K mg base (aF K cls) 1 "_law_draw" cw aD)(Q3:dv P w K mg base (aF K cls) 3 "_law_pairs" fS eg)(Q4:dv P w K mg base (aF K cls) 4 "_law_program" dJ fM)(Vc:dv P w K mg base (aF K cls) 10 "pairs" mn jI):gf P w K mg base qA 11 f fd A6 (Hi (aF K cls) W0 Aq):=Jv (k:=10) L kb λcdv A outer s H E hr=>(aa (fg (i:=1) kb.nd rfl (aT Q4 (hr.mono (by first|decide|omega)) rfl (padN (a0 (pv 0)) (cT (ag (bC rfl) (aY (cB a8 (cB a8 (cB a8 (cB a8 a7))))) (aT Q1 (hr.mono (by first|decide|omega)) rfl (padN (a0 (pv 0)) (cB a8 (cB a8 a7))))) a7)))) (aa (fg (i:=2) kb.nd rfl (ag (bC rfl) (ag (bC rfl) (a0 (pv 1)) a8) a8)) (aa (fg (i:=3) kb.nd rfl (aN (cB aK (cB a8 (iQ (jT (eZ rfl) rfl Z.tuple L3.dS (iQ (wc rfl rfl rfl Z.list rfl Z.reversed (ag (bC rfl) (a0 (pv 2)) a8)) a7)) a7))))) (aa (fg (i:=4) kb.nd rfl (aN (cT (ag (bC rfl) (a0 (pv 1)) a8) (dG (aB (aR rfl) (aN (padN (a0 (pv 3)) a7)) (pf rfl (ag (bC rfl) (a0 (pv 1)) a8) (p6 a8) p7)) a7)))) (aa (fg (i:=5) kb.nd rfl (aT Q3 (hr.mono (by first|decide|omega)) rfl (padN (a0 (pv 1)) a7))) (aa (fg (i:=6) kb.nd rfl (aT Vc (hr.mono (by first|decide|omega)) rfl (padN (a0 (pv 1)) a7))) (aa (aW (nW.pt (fm (jy (cP (uc Qx (hr.mono (by first|decide|omega)) rfl (aA (aP (pv 6)) (aA (aP (pv 5)) aU))))) (fH (jy (cP (uc Qx (hr.mono (by first|decide|omega)) rfl (aA (PD.look (aT Vc (hr.mono (by first|decide|omega)) rfl (padN (a0 (pv 4)) a7))) (aA (PD.look (aT Q3 (hr.mono (by first|decide|omega)) rfl (padN (a0 (pv 4)) a7))) aU)))))))) (ab (aj nD)) ax) (aa (fg (i:=7) kb.nd rfl (aT Vc (hr.mono (by first|decide|omega)) rfl (padN (a0 (pv 1)) a7))) (aa (aW (jy (cP (uc Qx (hr.mono (by first|decide|omega)) rfl (aA (aP (pv 7)) (aA (aP (pv 5)) aU))))) (ab (aj nD)) ax) (aa (Bh (i:=7) (pv 7)) (ab (aj (uc Qx (hr.mono (by first|decide|omega)) rfl (aA (aP (pv 6)) (aA (aP (pv 5)) aU)))))))))))))))
def Jd(T:K2 K mg cls)(Z:hV mg){f:Vp}{fd:FuncData}(L:Cs K "law" "law" vO f fd):gf P w K mg base qA 11 f fd A6 (Hi (aF K cls) W0 Aq):=by
 have h_law_whole:=@uh P w K mg base cls T.L_law_whole Z;have h_law_alike:=@um P w K mg base cls T.L_law_alike Z h_law_whole;have h_law_draw:=@wt P w K mg base cls T.L_law_draw Z;have h_law_touch:=@ui P w K mg base cls T.L_law_touch Z;have h_law_writes:=@r9 P w K mg base cls T.L_law_writes Z;have h_law_beside:=@rh P w K mg base cls T.L_law_beside Z h_law_touch h_law_writes;have h_law_spanned:=@pF P w K mg base cls T.L_law_spanned Z;have h_law_pairs:=@uj P w K mg base cls T.L_law_pairs Z h_law_beside h_law_spanned;have h_law_number:=@rf P w K mg base cls T.L_law_number Z h_law_draw;have h_law_boxes:=@uk P w K mg base cls T.L_law_boxes Z h_law_draw h_law_number;have h_law_deed:=@wu P w K mg base cls T.L_law_deed Z h_law_draw h_law_number;have h_law_rank:=@wq P w K mg base cls T.L_law_rank Z h_law_draw;have h_law_shut:=@wo P w K mg base cls T.L_law_shut Z h_law_draw;have h_law_program:=@pG P w K mg base cls T.L_law_program Z h_law_boxes h_law_deed h_law_draw h_law_rank h_law_shut;have h_size_of:=@yq P w K mg base cls T.L_size_of Z;have h_cells_of:=@wy P w K mg base cls T.L_cells_of Z h_size_of;have h_i_Deed:=@Bp P w K mg base cls T.L_i_Deed Z T.fld_plan;have h_i_Handed:=@wx P w K mg base cls T.L_i_Handed Z h_i_Deed;have h_i_Anew:=@Br P w K mg base cls T.L_i_Anew Z T.fld_check h_i_Handed;have h_i_Promise:=@uo P w K mg base cls T.L_i_Promise Z h_i_Deed;have h_i_Comparing:=@pI P w K mg base cls T.L_i_Comparing Z h_i_Promise;have h_i_Copy:=@Bq P w K mg base cls T.L_i_Copy Z h_i_Deed;have h_i_Grow:=@Bo P w K mg base cls T.L_i_Grow Z T.fld_number T.fld_size h_i_Handed;have h_i_Put:=@Dz P w K mg base cls T.L_i_Put Z T.fld_numbers h_i_Deed;have h_i_Still:=@yr P w K mg base cls T.L_i_Still Z h_i_Deed;have h_i_Tick:=@Bn P w K mg base cls T.L_i_Tick Z h_i_Deed;have h_i_Untouched:=@pH P w K mg base cls T.L_i_Untouched Z h_i_Promise;have h_deed_of:=@yt P w K mg base cls T.L_deed_of Z h_cells_of h_i_Anew h_i_Comparing h_i_Copy h_i_Grow h_i_Put h_i_Still h_i_Tick h_i_Untouched;have h_Deed_reads:=@rj P w K mg base cls T.L_Deed_reads Z T.fld_plan;have h_Deed_turns:=@ri P w K mg base cls T.L_Deed_turns Z T.fld_plan;have h_Deed_writes:=@pJ P w K mg base cls T.L_Deed_writes Z T.fld_plan;have h_turns_at:=@wm P w K mg base cls T.L_turns_at Z h_cells_of h_deed_of h_Deed_reads h_Deed_turns h_Deed_writes;have h_spans:=@Dx P w K mg base cls T.L_spans Z h_turns_at;have h_begun_at:=@wz P w K mg base cls T.L_begun_at Z h_spans;have h_deed_at:=@yu P w K mg base cls T.L_deed_at Z;have h_touches_box:=@pE P w K mg base cls T.L_touches_box Z h_turns_at;have h_writes_box:=@qZ P w K mg base cls T.L_writes_box Z h_turns_at;have h_users_of:=@wk P w K mg base cls T.L_users_of Z h_touches_box h_writes_box;have h_places_of:=@ug P w K mg base cls T.L_places_of Z;have h_word_at:=@yp P w K mg base cls T.L_word_at Z h_places_of;have h_word_of:=@yo P w K mg base cls T.L_word_of Z h_word_at;have h_pairs_of_box:=@nO P w K mg base cls T.L_pairs_of_box Z h_begun_at h_deed_at h_users_of h_word_of;have h_pairs:=@Dy P w K mg base cls T.L_pairs Z h_pairs_of_box;exact Jc L Z h_law_alike h_law_draw h_law_pairs h_law_program h_pairs
end
unseal PySem.wpAny
def walk{l:PySem.W.OpenLaw}{q:Vq}{loose:List Str}{XP:(Str->Option Vn)->Vs->Prop}{YP:Vr->Vs->Prop}{d:DefRec}{K:Params->Frag}(T:∀ns:List Int,ns.length<=63->Aq [.lst (ns.map D.int)]=some (.ok (.sh (.bl true))))(hn:l.most=some 63)(hdf:d.params.defaults=[])(hdn:d.name = "law")
  (hY:∀(w:Vr)(h:Vs),YP w h->(K w.params).In h) (F:∀(w:Vr)(mg:Str->Option Vn)(h:Vs),(K w.params).In h->h.Ns mainGlobals mg->(∃cls,K2 (K w.params) mg cls)/\hV mg):PySem.W.WalkO q loose XP YP l.row.toRowW d [] (λf vs=>PySem.call f vs):=
 DX (k:=11) (x := "_law_script") (by decide) hn hdf hY λw mg fa h KX G hm=>by
  obtain⟨⟨cls,T1⟩,Z⟩:=F w mg h KX G;obtain⟨f,fd,Fl,hm2,_⟩:=T1.L_law.ex;rw[hdn,hm2] at hm;cases hm;obtain⟨oc,od,kV,doc,pm,an,cdv,ct,osl,e,_⟩:=id Fl.ex;exact⟨fd,λs u=>by rw[e];exact .of_eq rfl,λbase=>Ji (Jd (cls:=cls) T1 Z Fl) rfl rfl T⟩
set_option maxHeartbeats 0 in
def ln0{n:Nat}{us:List Vn}(h:us.length=n+1):∃a r,us=a::r/\r.length=n:=by
 cases us with
 |nil=>cases h
 |cons a r=>exact⟨a,r,rfl,Nat.succ.inj h⟩
def ln1{us:List Vn}(h:us.length=1):∃a,us=[a]:=by
 obtain⟨a,r,rfl,h2⟩:=ln0 h;cases Z0 h2;exact⟨a,rfl⟩
def ln2{us:List Vn}(h:us.length=2):∃a b,us=[a,b]:=by
 obtain⟨a,r,rfl,h2⟩:=ln0 h;obtain⟨b,rfl⟩:=ln1 h2;exact⟨a,b,rfl⟩
def ln3{us:List Vn}(h:us.length=3):∃a b c,us=[a,b,c]:=by
 obtain⟨a,r,rfl,h2⟩:=ln0 h;obtain⟨b,c,rfl⟩:=ln2 h2;exact⟨a,b,c,rfl⟩
def ln4{us:List Vn}(h:us.length=4):∃a b c d,us=[a,b,c,d]:=by
 obtain⟨a,r,rfl,h2⟩:=ln0 h;obtain⟨b,c,d,rfl⟩:=ln3 h2;exact⟨a,b,c,d,rfl⟩
def ln5{us:List Vn}(h:us.length=5):∃a b c d e,us=[a,b,c,d,e]:=by
 obtain⟨a,r,rfl,h2⟩:=ln0 h;obtain⟨b,c,d,e,rfl⟩:=ln4 h2;exact⟨a,b,c,d,e,rfl⟩
def ln6{us:List Vn}(h:us.length=6):∃a b c d e f,us=[a,b,c,d,e,f]:=by
 obtain⟨a,r,rfl,h2⟩:=ln0 h;obtain⟨b,c,d,e,f,rfl⟩:=ln5 h2;exact⟨a,b,c,d,e,f,rfl⟩
section
variable{K:Frag}{h:Vs}{mg:Str->Option Vn}{x qual:Str}{st:Vu}{ps:List Str}{f C:Vp}{cls:Vw->Vp}{cn:Vw}{oc:Vn}{od an:Option Vp}{sl:Array (Option Vn)}{kV doc pm cdv ct:Vn}
def LM(K:Frag)(x qual:Str)(st:Vu)(f:Vp):Prop:=∃(oc:Vn)(od an:Option Vp)(sl:Array (Option Vn))(kV doc pm cdv ct:Vn),K.lookup f=some ⟨oc,od,.func (fnOf x qual (cj st) (bE st) (ae st) .none kV doc pm an cdv ct),sl⟩/\codeIn K cdv qual=true/\keepIn K (.ref f)=true/\isFn K (.ref f)=true
def lm(l:K.lookup f=some ⟨oc,od,.func (fnOf x qual (cj st) (bE st) (ae st) .none kV doc pm an cdv ct),sl⟩)(c:codeIn K cdv qual=true)(k:keepIn K (.ref f)=true)(i:isFn K (.ref f)=true):LM K x qual st f:=⟨_,_,_,_,_,_,_,_,_,l,c,k,i⟩
def LM.laid{cs:List Vw}(h:LM K x qual st f)(hc:∀c∈cs,k7 K (cls c)/\findIn K (.ref (cls c)) x=some (some (.ref f)))(hb:∀(kV doc pm:Vn)(an:Option Vp)(cdv ct:Vn)(us:List Vn),us.length=ps.length->bindArgs (fnOf x qual (cj st) (bE st) (ae st) .none kV doc pm an cdv ct) ⟨us,[]⟩=pure (ps.zip us):=by intro _ _ _ _ _ _ us hl;first|(obtain⟨_,rfl⟩:=ln1 hl;rfl)|(obtain⟨_,_,rfl⟩:=ln2 hl;rfl)|(obtain⟨_,_,_,rfl⟩:=ln3 hl;rfl)|(obtain⟨_,_,_,_,rfl⟩:=ln4 hl;rfl)|(obtain⟨_,_,_,_,_,rfl⟩:=ln5 hl;rfl)|(obtain⟨_,_,_,_,_,_,rfl⟩:=ln6 hl;rfl)):mJ K cls x qual st ps cs:=by
 obtain⟨_,_,_,_,_,_,_,_,_,l,c,k,i⟩:=h;exact DZ l c k i hb hc
def LP(K:Frag)(x:Str)(st:Vu):Prop:=∃f,nsIn K mainGlobals x=some (some (.ref f))/\∃(oc:Vn)(od an:Option Vp)(sl:Array (Option Vn))(kV doc pm cdv ct:Vn),K.lookup f=some ⟨oc,od,.func (fnOf x x (cj st) (bE st) (ae st) .none kV doc pm an cdv ct),sl⟩/\codeIn K cdv x=true/\keepIn K (.ref f)=true
def lp(a:nsIn K mainGlobals x=some (some (.ref f)))(l:K.lookup f=some ⟨oc,od,.func (fnOf x x (cj st) (bE st) (ae st) .none kV doc pm an cdv ct),sl⟩)(c:codeIn K cdv x=true)(k:keepIn K (.ref f)=true):LP K x st:=⟨_,a,_,_,_,_,_,_,_,_,_,l,c,k⟩
def LP.laid(h':LP K x st)(X:K.In h)(G:h.Ns mainGlobals mg)(hb:∀(kV doc pm:Vn)(an:Option Vp)(cdv ct:Vn)(us:List Vn),us.length=ps.length->bindArgs (fnOf x x (cj st) (bE st) (ae st) .none kV doc pm an cdv ct) ⟨us,[]⟩=pure (ps.zip us):=by intro _ _ _ _ _ _ us hl;first|(obtain⟨_,rfl⟩:=ln1 hl;rfl)|(obtain⟨_,_,rfl⟩:=ln2 hl;rfl)|(obtain⟨_,_,_,rfl⟩:=ln3 hl;rfl)|(obtain⟨_,_,_,_,rfl⟩:=ln4 hl;rfl)|(obtain⟨_,_,_,_,_,rfl⟩:=ln5 hl;rfl)|(obtain⟨_,_,_,_,_,_,rfl⟩:=ln6 hl;rfl)):bL K mg x st ps:=by
 obtain⟨_,a,_,_,_,_,_,_,_,_,_,l,c,k⟩:=h';exact Gr X G a l c k hb
def LI(K:Frag)(C:Vp)(_x qual:Str)(st:Vu):Prop:=∃f,∃(oc:Vn)(od an:Option Vp)(sl:Array (Option Vn))(kV doc pm cdv ct:Vn),findIn K (.ref C) "__init__" = some (some (.ref f))/\K.lookup f=some ⟨oc,od,.func (fnOf "__init__" qual (cj st) (bE st) (ae st) .none kV doc pm an cdv ct),sl⟩/\codeIn K cdv qual=true/\keepIn K (.ref f)=true/\isFn K (.ref f)=true/\makesIn K C=true/\keepIn K (.ref C)=true/\findCls K (.ref C) (.type "type") "__init__" = some (.val (.ref f))/\specialIn K (.ref C) "__getattribute__" = some (some (.builtin "type.__getattribute__"))/\readsIn K C (.type "type")=true
def li(fi:findIn K (.ref C) "__init__" = some (some (.ref f)))(l:K.lookup f=some ⟨oc,od,.func (fnOf "__init__" qual (cj st) (bE st) (ae st) .none kV doc pm an cdv ct),sl⟩)(c:codeIn K cdv qual=true)(k:keepIn K (.ref f)=true)(i:isFn K (.ref f)=true)(m:makesIn K C=true)(n:keepIn K (.ref C)=true)(o:findCls K (.ref C) (.type "type") "__init__" = some (.val (.ref f)))(q:specialIn K (.ref C) "__getattribute__" = some (some (.builtin "type.__getattribute__")))(r:readsIn K C (.type "type")=true):LI K C x qual st:=⟨_,_,_,_,_,_,_,_,_,_,fi,l,c,k,i,m,n,o,q,r⟩
def LI.laid(h':LI K (cls cn) x qual st)(a:nsIn K mainGlobals x=some (some (.ref (cls cn))))(X:K.In h)(G:h.Ns mainGlobals mg)(hb:∀(kV doc pm:Vn)(an:Option Vp)(cdv ct:Vn)(us:List Vn),us.length=ps.length->bindArgs (fnOf "__init__" qual (cj st) (bE st) (ae st) .none kV doc pm an cdv ct) ⟨us,[]⟩=pure (ps.zip us):=by intro _ _ _ _ _ _ us hl;first|(obtain⟨_,rfl⟩:=ln1 hl;rfl)|(obtain⟨_,_,rfl⟩:=ln2 hl;rfl)|(obtain⟨_,_,_,rfl⟩:=ln3 hl;rfl)|(obtain⟨_,_,_,_,rfl⟩:=ln4 hl;rfl)|(obtain⟨_,_,_,_,_,rfl⟩:=ln5 hl;rfl)|(obtain⟨_,_,_,_,_,_,rfl⟩:=ln6 hl;rfl)):cV K mg cls cn x qual st ps:=by
 obtain⟨_,_,_,_,_,_,_,_,_,_,fi,l,c,k,i,m,n,o,q,r⟩:=h';exact E1 X G rfl a fi l c k i m n o q r hb
end
def defs_mk{K:Frag}{h:Vs}{mg:Str->Option Vn}(X:K.In h)(G:h.Ns mainGlobals mg){C0 C1 C2 C3 C4 C5 C6 C7 C8 C9 C10 g28 g29 g30:Vp}
  (ca0:nsIn K mainGlobals "Deed" = some (some (.ref C0)))
  (d0:k7 K C0)
  (ca1:nsIn K mainGlobals "Promise" = some (some (.ref C1)))
  (d1:k7 K C1)
  (ca2:nsIn K mainGlobals "Comparing" = some (some (.ref C2)))
  (d2:k7 K C2)
  (ca3:nsIn K mainGlobals "Untouched" = some (some (.ref C3)))
  (d3:k7 K C3)
  (ca4:nsIn K mainGlobals "Still" = some (some (.ref C4)))
  (d4:k7 K C4)
  (ca5:nsIn K mainGlobals "Put" = some (some (.ref C5)))
  (d5:k7 K C5)
  (ca6:nsIn K mainGlobals "Copy" = some (some (.ref C6)))
  (d6:k7 K C6)
  (ca7:nsIn K mainGlobals "Tick" = some (some (.ref C7)))
  (d7:k7 K C7)
  (ca8:nsIn K mainGlobals "Handed" = some (some (.ref C8)))
  (d8:k7 K C8)
  (ca9:nsIn K mainGlobals "Grow" = some (some (.ref C9)))
  (d9:k7 K C9)
  (ca10:nsIn K mainGlobals "Anew" = some (some (.ref C10)))
  (d10:k7 K C10)
  (h0:LP K "_law_whole" i8)
  (h1:LP K "_law_alike" ik)
  (h2:LP K "_law_draw" jr)
  (h3:LP K "_law_touch" ic)
  (h4:LP K "_law_writes" gr)
  (h5:LP K "_law_beside" gv)
  (h6:LP K "_law_spanned" fB)
  (h7:LP K "_law_pairs" ie)
  (h8:LP K "_law_number" gu)
  (h9:LP K "_law_boxes" ig)
  (h10:LP K "_law_deed" jt)
  (h11:LP K "_law_rank" jq)
  (h12:LP K "_law_shut" jo)
  (h13:LP K "_law_program" fC)
  (h14:LP K "size_of" kN)
  (h15:LP K "cells_of" jv)
  (h16:LI K C0 "Deed" "Deed.__init__" m6)
  (h17:LI K C8 "Handed" "Handed.__init__" ju)
  (h18:LI K C10 "Anew" "Anew.__init__" m9)
  (h19:LI K C1 "Promise" "Promise.__init__" il)
  (h20:LI K C2 "Comparing" "Comparing.__init__" fE)
  (h21:LI K C6 "Copy" "Copy.__init__" m7)
  (h22:LI K C9 "Grow" "Grow.__init__" m5)
  (h23:LI K C5 "Put" "Put.__init__" og)
  (h24:LI K C4 "Still" "Still.__init__" kO)
  (h25:LI K C7 "Tick" "Tick.__init__" lZ)
  (h26:LI K C3 "Untouched" "Untouched.__init__" fD)
  (h27:LP K "deed_of" kP)
  (f28_0:findIn K (.ref C0) "reads" = some (some (.ref g28)))
  (f28_1:findIn K (.ref C1) "reads" = some (some (.ref g28)))
  (f28_2:findIn K (.ref C2) "reads" = some (some (.ref g28)))
  (f28_3:findIn K (.ref C3) "reads" = some (some (.ref g28)))
  (f28_4:findIn K (.ref C4) "reads" = some (some (.ref g28)))
  (f28_5:findIn K (.ref C5) "reads" = some (some (.ref g28)))
  (f28_6:findIn K (.ref C6) "reads" = some (some (.ref g28)))
  (f28_7:findIn K (.ref C7) "reads" = some (some (.ref g28)))
  (f28_8:findIn K (.ref C8) "reads" = some (some (.ref g28)))
  (f28_9:findIn K (.ref C9) "reads" = some (some (.ref g28)))
  (f28_10:findIn K (.ref C10) "reads" = some (some (.ref g28)))
  (h28:LM K "reads" "Deed.reads" gy g28)
  (f29_0:findIn K (.ref C0) "turns" = some (some (.ref g29)))
  (f29_1:findIn K (.ref C1) "turns" = some (some (.ref g29)))
  (f29_2:findIn K (.ref C2) "turns" = some (some (.ref g29)))
  (f29_3:findIn K (.ref C3) "turns" = some (some (.ref g29)))
  (f29_4:findIn K (.ref C4) "turns" = some (some (.ref g29)))
  (f29_5:findIn K (.ref C5) "turns" = some (some (.ref g29)))
  (f29_6:findIn K (.ref C6) "turns" = some (some (.ref g29)))
  (f29_7:findIn K (.ref C7) "turns" = some (some (.ref g29)))
  (f29_8:findIn K (.ref C8) "turns" = some (some (.ref g29)))
  (f29_9:findIn K (.ref C9) "turns" = some (some (.ref g29)))
  (f29_10:findIn K (.ref C10) "turns" = some (some (.ref g29)))
  (h29:LM K "turns" "Deed.turns" gw g29)
  (f30_0:findIn K (.ref C0) "writes" = some (some (.ref g30)))
  (f30_1:findIn K (.ref C1) "writes" = some (some (.ref g30)))
  (f30_2:findIn K (.ref C2) "writes" = some (some (.ref g30)))
  (f30_3:findIn K (.ref C3) "writes" = some (some (.ref g30)))
  (f30_4:findIn K (.ref C4) "writes" = some (some (.ref g30)))
  (f30_5:findIn K (.ref C5) "writes" = some (some (.ref g30)))
  (f30_6:findIn K (.ref C6) "writes" = some (some (.ref g30)))
  (f30_7:findIn K (.ref C7) "writes" = some (some (.ref g30)))
  (f30_8:findIn K (.ref C8) "writes" = some (some (.ref g30)))
  (f30_9:findIn K (.ref C9) "writes" = some (some (.ref g30)))
  (f30_10:findIn K (.ref C10) "writes" = some (some (.ref g30)))
  (h30:LM K "writes" "Deed.writes" fF g30)
  (h31:LP K "turns_at" jn)
  (h32:LP K "spans" o9)
  (h33:LP K "begun_at" jw)
  (h34:LP K "deed_at" kQ)
  (h35:LP K "touches_box" fA)
  (h36:LP K "writes_box" gn)
  (h37:LP K "users_of" jm)
  (h38:LP K "places_of" i7)
  (h39:LP K "word_at" kM)
  (h40:LP K "word_of" kL)
  (h41:LP K "pairs_of_box" eD)
  (h42:LP K "pairs" oe)
  (h43:LP K "law" vO)
  (na_check_10:findIn K (.ref C10) "check" = some none)
  (na_number_9:findIn K (.ref C9) "number" = some none)
  (na_numbers_5:findIn K (.ref C5) "numbers" = some none)
  (na_plan_0:findIn K (.ref C0) "plan" = some none)
  (na_plan_1:findIn K (.ref C1) "plan" = some none)
  (na_plan_2:findIn K (.ref C2) "plan" = some none)
  (na_plan_3:findIn K (.ref C3) "plan" = some none)
  (na_plan_4:findIn K (.ref C4) "plan" = some none)
  (na_plan_5:findIn K (.ref C5) "plan" = some none)
  (na_plan_6:findIn K (.ref C6) "plan" = some none)
  (na_plan_7:findIn K (.ref C7) "plan" = some none)
  (na_plan_8:findIn K (.ref C8) "plan" = some none)
  (na_plan_9:findIn K (.ref C9) "plan" = some none)
  (na_plan_10:findIn K (.ref C10) "plan" = some none)
  (na_size_9:findIn K (.ref C9) "size" = some none)
  (z_any:nsIn K mainGlobals "any" = some none)
  (z_bool:nsIn K mainGlobals "bool" = some none)
  (z_enumerate:nsIn K mainGlobals "enumerate" = some none)
  (z_int:nsIn K mainGlobals "int" = some none)
  (z_isinstance:nsIn K mainGlobals "isinstance" = some none)
  (z_len:nsIn K mainGlobals "len" = some none)
  (z_list:nsIn K mainGlobals "list" = some none)
  (z_range:nsIn K mainGlobals "range" = some none)
  (z_reversed:nsIn K mainGlobals "reversed" = some none)
  (z_set:nsIn K mainGlobals "set" = some none)
  (z_sorted:nsIn K mainGlobals "sorted" = some none)
  (z_str:nsIn K mainGlobals "str" = some none)
  (z_sum:nsIn K mainGlobals "sum" = some none)
  (z_tuple:nsIn K mainGlobals "tuple" = some none):
  (∃cls,K2 K mg cls)/\hV mg:=by
 obtain⟨cls,rfl,rfl,rfl,rfl,rfl,rfl,rfl,rfl,rfl,rfl,rfl⟩:∃cls:Vw->Vp,cls "Deed" = C0/\cls "Promise" = C1/\cls "Comparing" = C2/\cls "Untouched" = C3/\cls "Still" = C4/\cls "Put" = C5/\cls "Copy" = C6/\cls "Tick" = C7/\cls "Handed" = C8/\cls "Grow" = C9/\cls "Anew" = C10:=⟨clsF [("Deed",C0),("Promise",C1),("Comparing",C2),("Untouched",C3),("Still",C4),("Put",C5),("Copy",C6),("Tick",C7),("Handed",C8),("Grow",C9),("Anew",C10)],by simp[clsF]⟩
 exact⟨⟨cls,⟨h0.laid X G,h1.laid X G,h2.laid X G,h3.laid X G,h4.laid X G,h5.laid X G,h6.laid X G,h7.laid X G,h8.laid X G,h9.laid X G,h10.laid X G,h11.laid X G,h12.laid X G,h13.laid X G,h14.laid X G,h15.laid X G,h16.laid ca0 X G,h17.laid ca8 X G,h18.laid ca10 X G,h19.laid ca1 X G,h20.laid ca2 X G,h21.laid ca6 X G,h22.laid ca9 X G,h23.laid ca5 X G,h24.laid ca4 X G,h25.laid ca7 X G,h26.laid ca3 X G,h27.laid X G,h28.laid (all_cons ⟨d0,f28_0⟩ (all_cons ⟨d1,f28_1⟩ (all_cons ⟨d2,f28_2⟩ (all_cons ⟨d3,f28_3⟩ (all_cons ⟨d4,f28_4⟩ (all_cons ⟨d5,f28_5⟩ (all_cons ⟨d6,f28_6⟩ (all_cons ⟨d7,f28_7⟩ (all_cons ⟨d8,f28_8⟩ (all_cons ⟨d9,f28_9⟩ (all_cons ⟨d10,f28_10⟩ iw))))))))))),h29.laid (all_cons ⟨d0,f29_0⟩ (all_cons ⟨d1,f29_1⟩ (all_cons ⟨d2,f29_2⟩ (all_cons ⟨d3,f29_3⟩ (all_cons ⟨d4,f29_4⟩ (all_cons ⟨d5,f29_5⟩ (all_cons ⟨d6,f29_6⟩ (all_cons ⟨d7,f29_7⟩ (all_cons ⟨d8,f29_8⟩ (all_cons ⟨d9,f29_9⟩ (all_cons ⟨d10,f29_10⟩ iw))))))))))),h30.laid (all_cons ⟨d0,f30_0⟩ (all_cons ⟨d1,f30_1⟩ (all_cons ⟨d2,f30_2⟩ (all_cons ⟨d3,f30_3⟩ (all_cons ⟨d4,f30_4⟩ (all_cons ⟨d5,f30_5⟩ (all_cons ⟨d6,f30_6⟩ (all_cons ⟨d7,f30_7⟩ (all_cons ⟨d8,f30_8⟩ (all_cons ⟨d9,f30_9⟩ (all_cons ⟨d10,f30_10⟩ iw))))))))))),h31.laid X G,h32.laid X G,h33.laid X G,h34.laid X G,h35.laid X G,h36.laid X G,h37.laid X G,h38.laid X G,h39.laid X G,h40.laid X G,h41.laid X G,h42.laid X G,h43.laid X G,(all_cons ⟨d10,na_check_10⟩ iw),(all_cons ⟨d9,na_number_9⟩ iw),(all_cons ⟨d5,na_numbers_5⟩ iw),(all_cons ⟨d0,na_plan_0⟩ (all_cons ⟨d1,na_plan_1⟩ (all_cons ⟨d2,na_plan_2⟩ (all_cons ⟨d3,na_plan_3⟩ (all_cons ⟨d4,na_plan_4⟩ (all_cons ⟨d5,na_plan_5⟩ (all_cons ⟨d6,na_plan_6⟩ (all_cons ⟨d7,na_plan_7⟩ (all_cons ⟨d8,na_plan_8⟩ (all_cons ⟨d9,na_plan_9⟩ (all_cons ⟨d10,na_plan_10⟩ iw))))))))))),(all_cons ⟨d9,na_size_9⟩ iw)⟩⟩,⟨Wr X G z_any,Wr X G z_bool,Wr X G z_enumerate,Wr X G z_int,Wr X G z_isinstance,Wr X G z_len,Wr X G z_list,Wr X G z_range,Wr X G z_reversed,Wr X G z_set,Wr X G z_sorted,Wr X G z_str,Wr X G z_sum,Wr X G z_tuple⟩⟩
end Bell
structure PySem.W.Fast:Prop where
 (tw2956040065933279358 tw17184633241529227164 tw12813000109913514159 tw4114747372592525710 tw17936368112384970895 tw13156443804287734688 tw3812966730276362760 tw6762328151425899566 tw13700443342519690156 tw2583268417337450135 tw6111147050402338008 tw1944823954295863520 tw17885661537517477661 tw10931402988746549360 tw4771377033129896533 tw10227697129887974077 tw6196214695528766143 tw7280150621146568092 tw12992129083528670722 tw6364433837043554386 tw12980652930007658840 tw11676742644881605973 tw7558994997028749178 tw16857659910155046122 tw7445133613982871047 tw3799435039553129822 tw84357743571554189 tw16214983686452528629 tw7654380836324897818 tw535030675690442743 tw9118089014316642609 tw8199000581499044848 tw10436138043843617374 tw4035779049370794383 tw10515619927967444381 tw12695435573710025332 tw10498702231996649401 tw8809496469330106758 tw5374038787906874418 tw1313520070281370157 tw3809359438542279666 tw8383285872013001364 tw15827939427705078990 tw1460730023553175417 tw10376391927088961031 tw11153975730349746861 tw10724075437602773348 tw6102043064854909268 tw3177759941247298665 tw1503794459441479348 tw18115571770131217087 tw5334387394306401850 tw15135275053803340213 tw13354501987016380906 tw1783716952967272152 tw9276033469863671360 tw2876533619134900993 tw11512971297556716242 tw2343334825177801909 tw15376802112338481181 tw9849407931211590177 tw7290765459946564613 tw15695248718926659907 tw6705897977685173452 tw8906122303682844285 tw7137801519933361129 tw13146840544743797919 tw1745469768392788707 tw14965580709811624861 tw10616538810513519299 tw2251091080580726847 tw4604243241953190176 tw17114804991278157758 tw6273777909318525825 tw1131418200485069313 tw10732584167811039709 tw5413219974933663109 tw3584200469407648298 tw1270122904278475813 tw13057102986560144732 tw17630035530223903152 tw17046223804048619322 tw12692328571275196787 tw6073716898728061043 tw13990150000899226058 tw6941466612253363307 tw10957791652328835582 tw18138684832913642213 tw12065102708952849074 tw14554294616688963191 tw13245548999070657579 tw5956521610443302539 tw1569414742346349367 tw10785499647417578757 tw5423143029894654897 tw9494800002970429272 tw9975472573158604303 tw9476166064248531807 tw3549236355650813231 tw5905867241462270082 tw11390329921774251690 tw15329025911958205923 tw17358177024840002428 tw16490676174564905602 tw9845736318530416934 tw15820764386025978870 tw4218809507347608921 tw1707420104778224034 tw14592692875157426892 tw2990196125000298874 tw4447848728283158313 tw13778872696749798707 tw14394999068528433355 tw1548017491858539357 tw18112649485704608649 tw14138119214360064252 tw4420094755236743461 tw16004623838699246509 tw13325356231629296034 tw8138334266824434974 tw4087762847825078511 tw11403336516214193420 tw7282944548363180297 tw748807671700245506 tw6526471803142398499 tw10647970882735753519 tw13616520794405546927 tw5681632624542477075 tw17057910091585700776 tw5518240171291777050 tw4699107249376261252 tw8729709540487700367 tw1895108477900473834 tw14359857539473990917 tw3162527878518197084 tw347070500112847198 tw3009609904454490783 tw12631099992349257956 tw4157341970214535778 tw12855706324378163768 tw3487033409833711779 tw5157853364998977325 tw17946040028461125733 tw16806684298621163806 tw13170645445811923856 tw9306748027931099491 tw17436236720729528778 tw11584692526451188286 tw4977608334271573556 tw741080266156297748 tw5247697538792002474 tw832609960134212883 tw4684270641061654240 tw6798221904670502381 tw120518290358948978 tw9107051418317352804 tw8023723972996668110 tw12609201396061107914 tw7411932757301189449 tw16589217810586058958 tw15358912252091054882 tw1334726641021802409 tw8369786267609211838 tw10815019589137865316 tw674834205726219531 tw3419054226004541797 tw3311019054537682129 tw9348938140129323565 tw14660518338425809949 tw5544088523967609403 tw14173545780102692935 tw13484921430484411166 tw15937207887990875876 tw14005428405279920022 tw16948197456130086883 tw14478764866459789213 tw5450451747363611801 tw4523063846060370954 tw10786005556075652772 tw17035681925032513326 tw15346734224505908253 tw17702040422604981883 tw9297270725310868846 tw17119590713150000329 tw8662987585048261663 tw16063522108536742433 tw1371418721832874460 tw3850561643522313775 tw10879811538674998815 tw9446550023900508734 tw12483686643513968274 tw4751600925155081083 tw11562211054435458610 tw15749377094649074501 tw9782280305895190699 tw1937477621038003193 tw8681206361159308140 tw3355048425753718782 tw1192657580962411916 tw228677277973905122 tw11792268380987900807 tw5184493609017258840 tw18048017222878796919 tw16094036010614499219 tw16769698294194701886 tw10376608025555594206 tw1131661156479542783 tw13471166604057205694 tw11133977756507135295 tw16769473963388491032 tw12599983304592020139 tw15839583982790457757 tw116960949110219039 tw7397851242299564048 tw8619774146528458532 tw17124854584239663257 tw14558805173693531960 tw12454863751820469590 tw9138556440232953898 tw631404424002467416 tw4834926724434296572 tw7337173314863185484 tw6757449435115421610 tw309910952244405071 tw10615057551829372841 tw6654414764894160817 tw13708860252982115513 tw13568261400265411378 tw8800791389472392261 tw12575124860426975992 tw2040351590532215847 tw14419364933656277948 tw14127011624139774249 tw13656891629094759136 tw6712338341135932962 tw6151847488427424674 tw3924715291791574579 tw10721899492631914319 tw5935101664699072873 tw7887206770717611840 tw8283206891562461468 tw10949343454590995543 tw13145962993608788987 tw1085940470000086927 tw8959317451839709242 tw7118882805719922859 tw4634043764356298943 tw4344517847996635323 tw11770046678250052549 tw7461641080628536953 tw2321928722848524561 tw8381213402100127145 tw786129754604314591 tw5577725490134489114 tw15352570993174908825 tw6283959173769224916 tw12112380816993348786 tw5698359265346779800 tw18374305272210835882 tw1647365232560883587 tw14656072208820631028 tw13883604413026722129 tw995214600971625125 tw6404861625839797410 tw3020985501547761031 tw1913870272380397936 tw17441250873263223910 tw16198909248251869299 tw12893176783944440297 tw11389186260584891493 tw16404288338136896038 tw10127014281744573920 tw12841268597584231360 tw1119036055765199268 tw9586621766125214596 tw7108461688136073203 tw5574225032497908205 tw4257602461114968580 tw9729513413911210407 tw16830206798730446168 tw13475291805700498793 tw11138377905551632295 tw3522854810970927882 tw6932520249212012895 tw14849201616486814463 tw17731317432698182129 tw15388265792267752362 tw12236428306575361097 tw7175991931920338223 tw5008101676409006900 tw4363267832094542995 tw16612484172760761716 tw14469850002607594434 tw3782057810888471905 tw3701831389687841048 tw1757399499717236282 tw15351469577842438642 tw13494201173077886063 tw12041976069448484813 tw4788861201320534332 tw2395389231457831313 tw11512294922635758299 tw7983378734215064539 tw4447361617791966791 tw1159373296329280950 tw11817501003783539519 tw10324075979603837076 tw13098136679730818468 tw18298207008957421283 tw10728691220273036101 tw12932412174709905021 tw5624039082157312142 tw15544868950928979628 tw15057107409958121263 tw14673142923982152895 tw11672537937340221127 tw9267881299930397331 tw3028262918875413193 tw16154485476110711489 tw15934385791240095491 tw10859941013582516586 tw474291718526889045 tw17171291128668227447 tw15909793334113060314 tw10836886550193095102 tw8335836697446029781 tw7635579581726560272 tw18037492779377361712 tw12002306812553515252 tw12523505783413988956 tw5665664367969579944 tw1851494478661208443 tw16733071327550234086 tw16071150544710919344 tw15904844481184594464 tw12822841672948643879:True)
open PySem PySem.W PyProof.Rows
set_option maxRecDepth 100000 in
set_option maxHeartbeats 0 in
theorem PySem.Challenge.cw_bellnest_k42_pairs_told_holds : PySem.Challenge.rw_bellnest_k42_pairs_told.Holds := by
 w_on;o_law;k_head;(case hw=>w_witness2)
 k_fill
 refine Bell.walk (l:=PySem.Challenge.rw_bellnest_k42_pairs_told) Bell.law_true rfl rfl rfl (λw h Y=>PySem.W.kIn_of Y) ?F
 case F=>
  intro w mg h KX G;refine' Bell.defs_mk KX G ?_ ⟨?_,?_,?_,?_⟩ ?_ ⟨?_,?_,?_,?_⟩ ?_ ⟨?_,?_,?_,?_⟩ ?_ ⟨?_,?_,?_,?_⟩ ?_ ⟨?_,?_,?_,?_⟩ ?_ ⟨?_,?_,?_,?_⟩ ?_ ⟨?_,?_,?_,?_⟩ ?_ ⟨?_,?_,?_,?_⟩ ?_ ⟨?_,?_,?_,?_⟩ ?_ ⟨?_,?_,?_,?_⟩ ?_ ⟨?_,?_,?_,?_⟩ (Bell.lp ?_ ?_ ?_ ?_) (Bell.lp ?_ ?_ ?_ ?_) (Bell.lp ?_ ?_ ?_ ?_) (Bell.lp ?_ ?_ ?_ ?_) (Bell.lp ?_ ?_ ?_ ?_) (Bell.lp ?_ ?_ ?_ ?_) (Bell.lp ?_ ?_ ?_ ?_) (Bell.lp ?_ ?_ ?_ ?_) (Bell.lp ?_ ?_ ?_ ?_) (Bell.lp ?_ ?_ ?_ ?_) (Bell.lp ?_ ?_ ?_ ?_) (Bell.lp ?_ ?_ ?_ ?_) (Bell.lp ?_ ?_ ?_ ?_) (Bell.lp ?_ ?_ ?_ ?_) (Bell.lp ?_ ?_ ?_ ?_) (Bell.lp ?_ ?_ ?_ ?_) (Bell.li ?_ ?_ ?_ ?_ ?_ ?_ ?_ ?_ ?_ ?_) (Bell.li ?_ ?_ ?_ ?_ ?_ ?_ ?_ ?_ ?_ ?_) (Bell.li ?_ ?_ ?_ ?_ ?_ ?_ ?_ ?_ ?_ ?_) (Bell.li ?_ ?_ ?_ ?_ ?_ ?_ ?_ ?_ ?_ ?_) (Bell.li ?_ ?_ ?_ ?_ ?_ ?_ ?_ ?_ ?_ ?_) (Bell.li ?_ ?_ ?_ ?_ ?_ ?_ ?_ ?_ ?_ ?_) (Bell.li ?_ ?_ ?_ ?_ ?_ ?_ ?_ ?_ ?_ ?_) (Bell.li ?_ ?_ ?_ ?_ ?_ ?_ ?_ ?_ ?_ ?_) (Bell.li ?_ ?_ ?_ ?_ ?_ ?_ ?_ ?_ ?_ ?_) (Bell.li ?_ ?_ ?_ ?_ ?_ ?_ ?_ ?_ ?_ ?_) (Bell.li ?_ ?_ ?_ ?_ ?_ ?_ ?_ ?_ ?_ ?_) (Bell.lp ?_ ?_ ?_ ?_) ?_ ?_ ?_ ?_ ?_ ?_ ?_ ?_ ?_ ?_ ?_ (Bell.lm ?_ ?_ ?_ ?_) ?_ ?_ ?_ ?_ ?_ ?_ ?_ ?_ ?_ ?_ ?_ (Bell.lm ?_ ?_ ?_ ?_) ?_ ?_ ?_ ?_ ?_ ?_ ?_ ?_ ?_ ?_ ?_ (Bell.lm ?_ ?_ ?_ ?_) (Bell.lp ?_ ?_ ?_ ?_) (Bell.lp ?_ ?_ ?_ ?_) (Bell.lp ?_ ?_ ?_ ?_) (Bell.lp ?_ ?_ ?_ ?_) (Bell.lp ?_ ?_ ?_ ?_) (Bell.lp ?_ ?_ ?_ ?_) (Bell.lp ?_ ?_ ?_ ?_) (Bell.lp ?_ ?_ ?_ ?_) (Bell.lp ?_ ?_ ?_ ?_) (Bell.lp ?_ ?_ ?_ ?_) (Bell.lp ?_ ?_ ?_ ?_) (Bell.lp ?_ ?_ ?_ ?_) (Bell.lp ?_ ?_ ?_ ?_) ?_ ?_ ?_ ?_ ?_ ?_ ?_ ?_ ?_ ?_ ?_ ?_ ?_ ?_ ?_ ?_ ?_ ?_ ?_ ?_ ?_ ?_ ?_ ?_ ?_ ?_ ?_ ?_ ?_
  all_goals (try k_is)
