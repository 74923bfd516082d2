import PyProof.Rows.All
import Wide.All
import OpenK.AllK
import Wide.FinOn
import Lean
import PyProof.EqAt
import PyProof.EqKinds
import PyProof.TupleCall
import PySem.SetOps
import PySem.Challenge.RW_bellnest_k41_boxes_spanned
set_option Elab.async false
set_option linter.all false
set_option maxRecDepth 100000
namespace L2
open PySem PySem.Spec PyProof.Rows
abbrev Key := Sum Int Str
def keyIs : Key → Value → Bool
  | .inl k, v => Value.isInt k v
  | .inr x, v => Value.isStrOf x v
def keyH (w : World) : Key → Int
  | .inl k => hashInt k
  | .inr x => hashStr w x
theorem keyIs_shape : ∀ {k : Key} {v : Value}, keyIs k v = true → (∃ i t, k = Sum.inl i ∧ v = Value.int i t) ∨ (∃ x t, k = Sum.inr x ∧ v = Value.str x t)
  | .inl i, v, h => by
    obtain ⟨t, e⟩ := Value.isInt_shape (k := i) (v := v) h
    exact .inl ⟨i, t, rfl, e⟩
  | .inr x, v, h => by
    obtain ⟨t, e⟩ := Value.isStrOf_shape (x := x) (v := v) h
    exact .inr ⟨x, t, rfl, e⟩
theorem key_ll (a b : Int) : decide ((Sum.inl a : Key) = Sum.inl b) = (a == b) := by
  by_cases e : a = b
  · subst e; simp
  · have h : ¬ (Sum.inl a : Key) = Sum.inl b := fun q => e (Sum.inl.inj q)
    rw [decide_eq_false h]
    exact (beq_eq_false_iff_ne.mpr e).symm
theorem key_rr (a b : Str) : decide ((Sum.inr a : Key) = Sum.inr b) = decide (a = b) := by
  by_cases e : a = b
  · subst e; simp
  · have h : ¬ (Sum.inr a : Key) = Sum.inr b := fun q => e (Sum.inr.inj q)
    rw [decide_eq_false h, decide_eq_false e]
theorem key_lr (a : Int) (b : Str) : decide ((Sum.inl a : Key) = Sum.inr b) = false := decide_eq_false (fun q => nomatch q)
theorem key_rl (a : Str) (b : Int) : decide ((Sum.inr a : Key) = Sum.inl b) = false := decide_eq_false (fun q => nomatch q)
def mixKind (prog : Program) (w : World) : PySem.KeyKind prog w Key where
  is := keyIs
  hash := keyH w
  inj := fun v a b ha hb => by
    rcases keyIs_shape ha with ⟨i, t, rfl, rfl⟩ | ⟨x, t, rfl, rfl⟩
    · rcases keyIs_shape hb with ⟨j, u, rfl, e⟩ | ⟨y, u, rfl, e⟩
      · injection e with e1 _; rw [e1]
      · exact nomatch e
    · rcases keyIs_shape hb with ⟨j, u, rfl, e⟩ | ⟨y, u, rfl, e⟩
      · exact nomatch e
      · injection e with e1 _; rw [e1]
  byValue := fun k v h => by
    rcases keyIs_shape h with ⟨i, t, rfl, rfl⟩ | ⟨x, t, rfl, rfl⟩ <;> rfl
  pyHash := fun hv h => by
    rcases keyIs_shape hv with ⟨i, t, rfl, rfl⟩ | ⟨x, t, rfl, rfl⟩
    · exact wpAny_pyHash_int h
    · exact wpAny_pyHash_str h
  eqBool := fun hu hv h => by
    rcases keyIs_shape hu with ⟨i, t, rfl, rfl⟩ | ⟨x, t, rfl, rfl⟩
    · rcases keyIs_shape hv with ⟨j, u, rfl, rfl⟩ | ⟨y, u, rfl, rfl⟩
      · rw [key_ll] at h; exact wpAny_eqBool_int h
      · rw [key_lr] at h; exact SeqAt.EqAt.int_str i t y u _ _ _ _ h
    · rcases keyIs_shape hv with ⟨j, u, rfl, rfl⟩ | ⟨y, u, rfl, rfl⟩
      · rw [key_rl] at h; exact SeqAt.EqAt.str_int x t j u _ _ _ _ h
      · rw [key_rr] at h; exact wpAny_eqBool_str h
  «strs» := fun k x t v h => by
    rcases keyIs_shape h with ⟨i, u, rfl, e⟩ | ⟨y, u, rfl, e⟩
    · exact nomatch e
    · injection e with e1 _
      subst e1
      cases v <;> rfl
end L2
namespace L2
open PySem PySem.Spec PyProof.Rows
inductive V where
  | non | bl (b : Bool) | int (i : Int) | str (x : Str) | byt (b : Array UInt8) | flt (b : UInt64) | ref (a : Addr) | ty (n : String)
  deriving DecidableEq
def RelV : V → Value → Prop
  | .non, u => u = Value.none
  | .bl b, u => u = Value.bool b
  | .int i, u => ∃ t, u = Value.int i t
  | .str x, u => ∃ t, u = Value.str x t
  | .byt b, u => ∃ t, u = Value.bytes b t
  | .flt b, u => ∃ t, u = Value.float b t
  | .ref a, u => u = Value.ref a
  | .ty n, u => u = Value.type n
abbrev Vals : List V → List Value → Prop := Paired RelV
theorem Vals.length {xs : List V} {us : List Value} (r : Vals xs us) : xs.length = us.length := Paired.length r
theorem Vals.get : ∀ {xs : List V} {us : List Value} {i : Nat} {x : V}, Vals xs us → xs[i]? = some x → ∃ u, us[i]? = some u ∧ RelV x u
  | _, _, _, _, .nil, e => by simp at e
  | _, _, 0, _, .cons r _, e => by simp at e; subst e; exact ⟨_, rfl, r⟩
  | _, _, i + 1, x, .cons _ t, e => by
    obtain ⟨u, h1, h2⟩ := Vals.get (i := i) (x := x) t (by simpa using e)
    exact ⟨u, by simpa using h1, h2⟩
theorem Vals.set {x : V} {u : Value} (r : RelV x u) : ∀ {xs : List V} {us : List Value} (i : Nat), Vals xs us → Vals (xs.set i x) (us.set i u)
  | _, _, _, .nil => .nil
  | _, _, 0, .cons _ t => .cons r t
  | _, _, i + 1, .cons q t => .cons q (Vals.set r i t)
theorem Vals.append : ∀ {xs ys : List V} {us ws : List Value}, Vals xs us → Vals ys ws → Vals (xs ++ ys) (us ++ ws)
  | _, _, _, _, .nil, s => s
  | _, _, _, _, .cons r t, s => .cons r (Vals.append t s)
theorem Vals.take : ∀ {xs : List V} {us : List Value} (n : Nat), Vals xs us → Vals (xs.take n) (us.take n)
  | _, _, 0, _ => .nil
  | _, _, _ + 1, .nil => .nil
  | _, _, n + 1, .cons r t => .cons r (Vals.take n t)
theorem Vals.drop : ∀ {xs : List V} {us : List Value} (n : Nat), Vals xs us → Vals (xs.drop n) (us.drop n)
  | _, _, 0, r => r
  | _, _, _ + 1, .nil => .nil
  | _, _, n + 1, .cons _ t => Vals.drop n t
theorem Vals.none_of : ∀ {xs : List V} {us : List Value} {i : Nat}, Vals xs us → xs[i]? = none → us[i]? = none := fun {xs us i} r e => by
  have h1 := r.length
  have h2 : xs.length ≤ i := List.getElem?_eq_none_iff.mp e
  exact List.getElem?_eq_none_iff.mpr (by omega)
def RelO : Option V → Option Value → Prop
  | some v, some u => RelV v u
  | none, none => True
  | _, _ => False
def KV {κ : Type} : List (κ × V) → List (κ × Value) → Prop := Paired fun (p : κ × V) (q : κ × Value) => p.1 = q.1 ∧ RelV p.2 q.2
def kV : Key → V
  | .inl i => .int i
  | .inr x => .str x
inductive HO where
  | lst (xs : List V)
  | tup (xs : List V)
  | dK (kvs : List (Key × V)) | dT (kvs : List (List Key × V))
  | set (S : Int → Bool) (n : Nat)
  | ins (C dx : Addr) (fs : List (Str × V))
  | own (x : Addr)
  | xd (fs : List (Str × V))
  | met (f x : Addr)
  | rng (lo hi : Int)
  | frz (o : Obj) (u : HO)
  | tbl (ps : Array Value)
  | ext (φ : Heap → Prop)
abbrev Hp := Addr → Option HO
def upd (H : Hp) (a : Addr) (o : HO) : Hp := fun b => if b = a then some o else H b
theorem upd_same {H : Hp} {a : Addr} {o : HO} : upd H a o a = some o := by unfold upd; rw [if_pos rfl]
theorem upd_ne {H : Hp} {a b : Addr} {o : HO} (h : b ≠ a) : upd H a o b = H b := by unfold upd; rw [if_neg h]
theorem ne_of_none {H : Hp} {a b : Addr} {o : HO} (h : H a = some o) (h' : H b = none) : a ≠ b := by
  intro e; subst e; rw [h] at h'; cases h'
section
variable (P : Program) (w : World)
def ObjOk (H : Hp) (h : Heap) (a : Addr) : HO → Prop
  | .lst xs => xs.length ≤ sizeLine ∧ ∃ (its : List Value) (n : Nat), Vals xs its ∧ h.get? a = some { cls := .type "list", data := .seq its.toArray n }
  | .tup xs => xs.length ≤ sizeLine ∧ ∃ its : List Value, Vals xs its ∧ IsTup h a its.toArray
  | .dK kvs => kvs.length ≤ sizeLine ∧ (a == sysModules) = false ∧ ∃ vs, KV kvs vs ∧ h.DictOf (mixKind P w) a vs
  | .dT kvs => kvs.length ≤ sizeLine ∧ (a == sysModules) = false ∧ ∃ xs : List (List Key × Addr × Value),
      Paired (fun (p : List Key × V) (q : List Key × Addr × Value) => p.1 = q.1 ∧ H q.2.1 = some (.tup (p.1.map kV)) ∧ RelV p.2 q.2.2) kvs xs ∧
      ∃ o es ep, h.get? a = some o ∧ o.ExactDict ∧ o.data = .dict es ep ∧ es.toList = xs.map (entryOfKey (tupleKind (mixKind P w))) ∧ (xs.map (·.1)).Nodup
  | .set S n => h.SetOf (intKind P w) a S n
  | .ins C dx fs => H dx = some (.own a) ∧ fs.length ≤ 1000 ∧ dx ≠ a ∧ h.get? a = some (PySem.W.instObj C dx) ∧
      ∃ mA, h.Ns1 dx mA ∧ (∀ f, RelO (fs.lookup f) (mA f)) ∧ PySem.Within mA (fs.map (·.1))
  | .own _ => ∃ o, h.get? a = some o
  | .xd fs => ∃ mA, h.Ns1 a mA ∧ ∀ f, RelO (fs.lookup f) (mA f)
  | .rng lo hi => ∃ t u v, h.get? a = some { cls := .type "range", data := .fields #[.int lo t, .int hi u, .int 1 v] }
  | .frz o u => h.get? a = some o ∧ ObjOk H h a u
  | .tbl ps => h.get? a = some { cls := .none, data := .fields ps }
  | .met f x => h.get? a = some (PySem.W.methodObj (.ref f) (.ref x))
  | .ext φ => φ h ∧ (∃ o, h.get? a = some o) ∧ ∀ h1 h2 : Heap, φ h1 → (∀ o, h1.get? a = some o → h2.get? a = some o) → φ h2
def HOk (H : Hp) (h : Heap) : Prop := ∀ a o, H a = some o → ObjOk P w H h a o
end
section
variable {P : Program} {w : World} {H H' : Hp} {h h' : Heap} {a : Addr} {o : HO}
theorem ObjOk.lt (x : ObjOk P w H h a o) : a < h.objs.size := by
  cases o with
  | lst xs => obtain ⟨_, _, _, _, e⟩ := x; exact Heap.lt_size e
  | tup xs => obtain ⟨_, _, _, p⟩ := x; exact p.lt
  | dK kvs => obtain ⟨_, _, _, _, o, _, _, e, _⟩ := x; exact Heap.lt_size e
  | dT kvs => obtain ⟨_, _, _, _, o, _, _, e, _⟩ := x; exact Heap.lt_size e
  | set S n => obtain ⟨o, _, _, _, e, _⟩ := x; exact Heap.lt_size e
  | ins C dx fs => obtain ⟨_, _, _, e, _⟩ := x; exact Heap.lt_size e
  | own y => obtain ⟨_, e⟩ := x; exact Heap.lt_size e
  | xd fs => obtain ⟨_, ⟨_, _, _, e, _⟩, _⟩ := x; exact Heap.lt_size e
  | rng lo hi => obtain ⟨_, _, _, e⟩ := x; exact Heap.lt_size e
  | frz ob u => obtain ⟨e, _⟩ := x; exact Heap.lt_size e
  | tbl ps => exact Heap.lt_size (show h.get? a = some _ from x)
  | met f y => exact Heap.lt_size (show h.get? a = some _ from x)
  | ext φ => obtain ⟨_, ⟨_, e⟩, _⟩ := x; exact Heap.lt_size e
theorem Paired.mapP {α β : Type} {F G : α → β → Prop} : ∀ {l₁ : List α} {l₂ : List β}, Paired F l₁ l₂ → (∀ a b, F a b → G a b) → Paired G l₁ l₂
  | _, _, .nil, _ => .nil
  | _, _, .cons r t, f => .cons (f _ _ r) (Paired.mapP t f)
theorem ObjOk.stay (x : ObjOk P w H h a o) (k : ∀ b u, (b = a ∨ H b = some (.own a)) → h.get? b = some u → h'.get? b = some u)
    (ho : ∀ b, H b = some (.own a) → H' b = some (.own a)) (ht : ∀ b xs, H b = some (.tup xs) → H' b = some (.tup xs)) : ObjOk P w H' h' a o := by
  induction o with
  | lst xs => obtain ⟨z, its, n, r, e⟩ := x; exact ⟨z, its, n, r, k _ _ (.inl rfl) e⟩
  | tup xs => obtain ⟨z, its, r, ob, e, c⟩ := x; exact ⟨z, its, r, ob, k _ _ (.inl rfl) e, c⟩
  | dK kvs => obtain ⟨z, y, vs, r, ob, es, ep, e, c⟩ := x; exact ⟨z, y, vs, r, ob, es, ep, k _ _ (.inl rfl) e, c⟩
  | dT kvs =>
    obtain ⟨z, y, xs, r, ob, es, ep, e, c⟩ := x
    exact ⟨z, y, xs, Paired.mapP r fun p q z => ⟨z.1, ht _ _ z.2.1, z.2.2⟩, ob, es, ep, k _ _ (.inl rfl) e, c⟩
  | set S n => obtain ⟨ob, es, ep, t, e, c⟩ := x; exact ⟨ob, es, ep, t, k _ _ (.inl rfl) e, c⟩
  | ins C dx fs =>
    obtain ⟨d, z, ne, e, mA, ⟨od, es, ep, e2, c⟩, r⟩ := x
    exact ⟨ho _ d, z, ne, k _ _ (.inl rfl) e, mA, ⟨od, es, ep, k _ _ (.inr d) e2, c⟩, r⟩
  | own y => obtain ⟨ob, e⟩ := x; exact ⟨ob, k _ _ (.inl rfl) e⟩
  | xd fs => obtain ⟨mA, ⟨od, es, ep, e, c⟩, r⟩ := x; exact ⟨mA, ⟨od, es, ep, k _ _ (.inl rfl) e, c⟩, r⟩
  | rng lo hi => obtain ⟨t, u, v, e⟩ := x; exact ⟨t, u, v, k _ _ (.inl rfl) e⟩
  | frz ob u ih => obtain ⟨e, q⟩ := x; exact ⟨k _ _ (.inl rfl) e, ih q⟩
  | tbl ps =>
    have e : h.get? a = some { cls := .none, data := .fields ps } := x
    show h'.get? a = some { cls := .none, data := .fields ps }
    exact k a _ (.inl rfl) e
  | met f y =>
    have e : h.get? a = some (PySem.W.methodObj (.ref f) (.ref y)) := x
    show h'.get? a = some (PySem.W.methodObj (.ref f) (.ref y))
    exact k a _ (.inl rfl) e
  | ext φ => obtain ⟨p, ⟨o, e⟩, st⟩ := x; exact ⟨st _ _ p fun o q => k _ _ (.inl rfl) q, ⟨o, k _ _ (.inl rfl) e⟩, st⟩
theorem HOk.lt (x : HOk P w H h) (e : H a = some o) : a < h.objs.size := (x a o e).lt
theorem HOk.fresh (x : HOk P w H h) (e : h.objs.size ≤ a) : H a = none := by
  cases q : H a with
  | none => rfl
  | some u => exact absurd (Nat.lt_of_lt_of_le (x.lt q) e) (Nat.lt_irrefl _)
theorem HOk.kept (x : HOk P w H h) (k : ∀ b u, h.get? b = some u → h'.get? b = some u) : HOk P w H h' := fun a o e =>
  (x a o e).stay (fun b u _ q => k b u q) (fun _ q => q) fun _ _ q => q
theorem HOk.laid (x : HOk P w H h) (k : ∀ b u, h.get? b = some u → h'.get? b = some u) (hp : h.objs.size ≤ a) (new : ObjOk P w (upd H a o) h' a o) : HOk P w (upd H a o) h' := fun b u e => by
  have hn := x.fresh hp
  by_cases hb : b = a
  · subst hb; rw [upd_same] at e; cases e; exact new
  · rw [upd_ne hb] at e
    exact (x b u e).stay (fun c v _ q => k c v q) (fun c q => by rw [upd_ne (ne_of_none q hn)]; exact q) fun c xs q => by rw [upd_ne (ne_of_none q hn)]; exact q
end
def Rd (H : Hp) (a : Addr) (u : HO) : Prop := H a = some u ∨ ∃ o, H a = some (.frz o u)
theorem Rd.of {H : Hp} {a : Addr} {u : HO} (h : H a = some u) : Rd H a u := .inl h
theorem Rd.ok {P : Program} {w : World} {H : Hp} {h : Heap} {a : Addr} {u : HO} (r : Rd H a u) (x : HOk P w H h) : ObjOk P w H h a u := by
  rcases r with r | ⟨o, r⟩
  · exact x a u r
  · obtain ⟨_, q⟩ := x a _ r
    exact q
def Mut : Option HO → Prop
  | some (.lst _) => True
  | some (.dK _) => True
  | some (.dT _) => True
  | some (.set _ _) => True
  | some (.ins _ _ _) => True
  | some (.ext _) => True
  | _ => False
section
variable {P : Program} {w : World} {H : Hp} {h h' : Heap} {x e : Addr} {o' : HO}
theorem HOk.write (ok : HOk P w H h) (mu : Mut (H x)) (he : e = x ∨ H e = some (.own x)) (k : ∀ b u, b ≠ e → h.get? b = some u → h'.get? b = some u) (heo : ∃ u, h'.get? e = some u)
    (new : ObjOk P w (upd H x o') h' x o') : HOk P w (upd H x o') h' := fun b u q => by
  have nown : ∀ c y, H c = some (.own y) → c ≠ x := fun c y r z => by subst z; rw [r] at mu; exact mu
  have ntup : ∀ c xs, H c = some (.tup xs) → c ≠ x := fun c xs r z => by subst z; rw [r] at mu; exact mu
  by_cases hb : b = x
  · subst hb; rw [upd_same] at q; cases q; exact new
  · rw [upd_ne hb] at q
    by_cases hbe : b = e
    · have q' : H b = some (.own x) := by
        rcases he with z | z
        · exact absurd (hbe.trans z) hb
        · rw [hbe]; exact z
      rw [q] at q'; cases q'
      obtain ⟨v, hv⟩ := heo
      exact ⟨v, by rw [hbe]; exact hv⟩
    · refine (ok b u q).stay (fun c v hc r => k c v ?_ r) (fun c r => by rw [upd_ne (nown c b r)]; exact r) fun c xs r => by rw [upd_ne (ntup c xs r)]; exact r
      rcases hc with rfl | hc
      · exact hbe
      · rintro rfl
        rcases he with z | z
        · exact nown c b hc z
        · rw [hc] at z; cases z; exact hb rfl
end
structure Un (fs ex : List Addr) (H H' : Hp) (h h' : Heap) : Prop where
  keep : ∀ b o, h.get? b = some o → H b = none → b ∉ fs → b ∉ ex → h'.get? b = some o
  slot : ∀ b o, h.get? b = some o → H b = none → b ∈ fs → b ∉ ex → ∃ sl, h'.get? b = some { o with slots := sl }
  free : ∀ b o, h.get? b = some o → H b = none → b ∉ ex → H' b = none
  there : ∀ b o, h.get? b = some o → b ∉ ex → ∃ o', h'.get? b = some o'
  tups : ∀ b xs, H b = some (.tup xs) → H' b = some (.tup xs)
  frzs : ∀ b o u, H b = some (.frz o u) → H' b = some (.frz o u)
  tbls : ∀ b ps, H b = some (.tbl ps) → ∃ more, H' b = some (.tbl (ps ++ more))
section
variable {fs fs' ex ex' : List Addr} {H H1 H2 : Hp} {h h1 h2 h' : Heap} {a x e : Addr} {o : HO}
theorem Un.any (u : Un fs ex H H1 h h1) {b : Addr} {ob : Obj} (q : h.get? b = some ob) (n : H b = none) (hx : b ∉ ex) : ∃ sl, h1.get? b = some { ob with slots := sl } := by
  by_cases hb : b ∈ fs
  · exact u.slot b ob q n hb hx
  · exact ⟨ob.slots, u.keep b ob q n hb hx⟩
theorem Un.trans (a : Un fs ex H H1 h h1) (b : Un fs ex H1 H2 h1 h2) : Un fs ex H H2 h h2 where
  keep := fun c ob q n hc hx => b.keep c ob (a.keep c ob q n hc hx) (a.free c ob q n hx) hc hx
  slot := fun c ob q n hc hx => by
    obtain ⟨sl, e1⟩ := a.slot c ob q n hc hx
    obtain ⟨sl', e2⟩ := b.slot c _ e1 (a.free c ob q n hx) hc hx
    exact ⟨sl', e2⟩
  free := fun c ob q n hx => by
    obtain ⟨o', e1⟩ := a.there c ob q hx
    exact b.free c o' e1 (a.free c ob q n hx) hx
  there := fun c ob q hx => by
    obtain ⟨o', e1⟩ := a.there c ob q hx
    exact b.there c o' e1 hx
  tups := fun c xs q => b.tups c xs (a.tups c xs q)
  frzs := fun c ob xs q => b.frzs c ob xs (a.frzs c ob xs q)
  tbls := fun c ps q => by
    obtain ⟨m1, e1⟩ := a.tbls c ps q
    obtain ⟨m2, e2⟩ := b.tbls c _ e1
    exact ⟨m1 ++ m2, by rw [e2, Array.append_assoc]⟩
theorem Un.kept (k : ∀ b u, h.get? b = some u → h'.get? b = some u) : Un fs ex H H h h' :=
  ⟨fun b ob q _ _ _ => k b ob q, fun b ob q _ _ _ => ⟨ob.slots, k b ob q⟩, fun _ _ _ n _ => n, fun b ob q _ => ⟨ob, k b ob q⟩, fun _ _ q => q, fun _ _ _ q => q, fun _ ps q => ⟨#[], by rw [q]; simp⟩⟩
theorem Un.refl : Un fs ex H H h h := Un.kept fun _ _ q => q
theorem Un.laid (k : ∀ b u, h.get? b = some u → h'.get? b = some u) (hp : h.objs.size ≤ a) (hn : H a = none) : Un fs ex H (upd H a o) h h' where
  keep := fun b u q _ _ _ => k b u q
  slot := fun b u q _ _ _ => ⟨u.slots, k b u q⟩
  free := fun b u q n _ => by rw [upd_ne (Nat.ne_of_lt (Nat.lt_of_lt_of_le (Heap.lt_size q) hp))]; exact n
  there := fun b u q _ => ⟨u, k b u q⟩
  tups := fun b xs q => by rw [upd_ne (ne_of_none q hn)]; exact q
  frzs := fun b u xs q => by rw [upd_ne (ne_of_none q hn)]; exact q
  tbls := fun b ps q => ⟨#[], by rw [upd_ne (ne_of_none q hn), q]; simp⟩
theorem Un.write (mu : Mut (H x)) (he : e = x ∨ H e = some (.own x)) (k : ∀ b u, b ≠ e → h.get? b = some u → h'.get? b = some u) (heo : ∃ u, h'.get? e = some u) : Un fs ex H (upd H x o) h h' := by
  have hx : ∀ b, H b = none → b ≠ x := fun b n z => by subst z; rw [n] at mu; exact mu
  have hb : ∀ b, H b = none → b ≠ e := fun b n z => by
    subst z
    rcases he with r | r
    · exact hx b n r
    · rw [n] at r; cases r
  have hm : ∀ b u, H b = some u → ¬ Mut (some u) → b ≠ x := fun b u q nm z => by subst z; rw [q] at mu; exact nm mu
  refine ⟨fun b u q n _ _ => k b u (hb b n) q, fun b u q n _ _ => ⟨u.slots, k b u (hb b n) q⟩, fun b u q n _ => by rw [upd_ne (hx b n)]; exact n, fun b u q _ => ?_,
    fun b xs q => by rw [upd_ne (hm b _ q fun z => z)]; exact q, fun b u xs q => by rw [upd_ne (hm b _ q fun z => z)]; exact q, fun b ps q => ⟨#[], by rw [upd_ne (hm b _ q fun z => z), q]; simp⟩⟩
  by_cases hbe : b = e
  · subst hbe; exact heo
  · exact ⟨u, k b u hbe q⟩
theorem Un.mono (u : Un fs ex H H1 h h1) (hs : ∀ b ∈ fs, b ∈ fs') (hx : ∀ b ∈ ex, b ∈ ex') : Un fs' ex' H H1 h h1 :=
  ⟨fun b ob q n hb he => u.keep b ob q n (fun z => hb (hs b z)) fun z => he (hx b z), fun _ _ q n _ he => u.any q n fun z => he (hx _ z), fun b ob q n he => u.free b ob q n fun z => he (hx b z), fun b ob q he => u.there b ob q fun z => he (hx b z), u.tups, u.frzs, u.tbls⟩
end
def trk (h : Heap) (H : Hp) : List Addr := (List.range h.objs.size).filter fun a => (H a).isSome
def hidT (h : Heap) (H : Hp) : Heap := PySem.W.hideAll h (trk h H)
theorem hidT_size (h : Heap) (H : Hp) : (hidT h H).objs.size = h.objs.size := PySem.W.hideAll_size _ _
theorem hidT_get {h : Heap} {H : Hp} {b : Addr} {o : Obj} (e : h.get? b = some o) (n : H b = none) : (hidT h H).get? b = some o :=
  PySem.W.hideAll_get _ e fun hm => by
    have q : (H b).isSome = true := (List.mem_filter.mp hm).2
    rw [n] at q; simp at q
theorem of_hidT {h : Heap} {H : Hp} {b : Addr} {o : Obj} (e : (hidT h H).get? b = some o) : h.get? b = some o ∧ H b = none := by
  have e' : h.get? b = some o := PySem.W.of_hideAll (trk h H) e
  refine ⟨e', ?_⟩
  cases q : H b with
  | none => rfl
  | some x =>
    have hm : b ∈ trk h H := List.mem_filter.mpr ⟨List.mem_range.mpr (Heap.lt_size e'), by simp [q]⟩
    have z : (hidT h H).get? b = none := PySem.W.hideAll_none (trk h H) hm
    rw [z] at e; cases e
def allNews (g h : Heap) (L : Addr) : List (Addr × Obj) := (List.range h.objs.size).filterMap fun a => if a = L ∨ (g.get? a).isSome = true then none else (h.get? a).map fun o => (a, o)
def rest (g h : Heap) (L d : Addr) : List (Addr × Obj) := (allNews g h L).filter fun p => decide (p.1 ≠ d)
end L2
namespace L2
open PySem PySem.Spec PyProof.Rows
structure Mod (K : PySem.W.Frag) (mg : Str → Option Value) (base : Heap) : Prop where
  kin : K.In base
  glob : base.Ns mainGlobals mg
  blt : ∃ mb, base.Ns builtinsNs mb ∧ ∀ x : Str, x ≠ "__name__" → mb x = bootBuiltins x
  nolimit : base.NoLimit
structure Cx where
  prog : Program
  w : World
  K : PySem.W.Frag
  mg : Str → Option Value
  base : Heap
  A : Around
  N : List Str
  s₀ : Shared
  H₀ : Hp
  env : Env
  outer : List Env
  stack : List Env
  ex : List Addr
  fn : Str → Bool
  calm : Bool
  pn : List (Addr × Obj)
  xe : Value → Shared → Prop
def frs (l : List Env) : List Addr := l.filterMap (·.frame)
abbrev Cx.fs (X : Cx) : List Addr := frs X.outer
def Vis (sc : Scope) (x : Str) : Prop := sc.names.lookup x = some .local ∨ sc.names.lookup x = some .cell ∨ sc.names.lookup x = some .free
def Loc (sc : Scope) (x : Str) : Prop := sc.names.lookup x = some .local ∨ sc.names.lookup x = some .cell
def Look (env : Env) (h : Heap) (m : Str → Option Value) (x : Str) (u : Value) : Prop :=
  (env.kindOf x = some .local ∧ m x = some u) ∨ ((env.kindOf x = some .cell ∨ env.kindOf x = some .free) ∧ ∃ c, env.cells.lookup x = some c ∧ h.IsCell c (some u))
structure Cx.Ok (X : Cx) : Prop where
  mod : Mod X.K X.mg X.base
  kind : X.env.scope.kind = .function
  glob : X.env.globals = mainGlobals
  blt : X.env.builtins = builtinsNs
  above : X.s₀.heap.objs.size ≤ X.env.locals
  inj : ∀ x y c, X.env.cells.lookup x = some c → X.env.cells.lookup y = some c → x = y
  has : ∀ x, (X.env.kindOf x = some .cell ∨ X.env.kindOf x = some .free) → ∃ c, X.env.cells.lookup x = some c
  cab : ∀ x c, X.fn x = true → X.env.cells.lookup x = some c → X.s₀.heap.objs.size ≤ c
  hd : X.calm = true → X.A.handled = none
  frames : X.A.frames = some X.stack
  stk : X.stack = X.outer ∨ (X.stack = X.env :: X.outer ∧ X.env.frame = some X.env.locals)
  exf : ∀ b ∈ X.ex, b ≠ X.env.locals ∧ ∀ x c, X.env.cells.lookup x = some c → c ≠ b
  bs : ∀ b o, X.base.get? b = some o → X.s₀.heap.get? b = some o ∧ X.H₀ b = none
  bsz : X.base.objs.size ≤ X.s₀.heap.objs.size
  noex : ∀ b o, X.base.get? b = some o → b ∉ X.ex
  exfs : ∀ b ∈ X.ex, b ∉ X.fs
  funs : X.s₀.heap.FunFrames X.base X.outer
  frf : ∀ b ∈ X.fs, X.H₀ b = none
structure Inv (X : Cx) (pins : List (Addr × Obj)) (σ : List (Option V)) (H : Hp) (s : Shared) : Prop where
  ok : X.Ok
  os : s.os = X.s₀.os
  bare : AllBare s.gens
  base : Un X.fs X.ex X.H₀ H X.s₀.heap s.heap
  loc : ∃ m, s.heap.Ns X.env.locals m ∧ ∀ (i : Nat) (x : Str) (v : V), X.N[i]? = some x → σ[i]? = some (some v) → Vis X.env.scope x → ∃ u, RelV v u ∧ Look X.env s.heap m x u
  cell : ∀ x c, X.env.cells.lookup x = some c → ∃ v, s.heap.IsCell c v
  free : H X.env.locals = none
  freeC : ∀ x c, X.env.cells.lookup x = some c → H c = none
  pin : ∀ p ∈ X.pn ++ pins, s.heap.get? p.1 = some p.2 ∧ H p.1 = none ∧ p.1 ≠ X.env.locals ∧ p.1 ∉ X.fs ∧ ∀ v, p.2.data ≠ .cell v
  hok : HOk X.prog X.w H s.heap
  len : σ.length = X.N.length
section
variable {X : Cx} {pins : List (Addr × Obj)} {σ : List (Option V)} {H H' : Hp} {s : Shared} {h' : Heap}
theorem Cx.Ok.nofr (ok : X.Ok) {b : Addr} {o : Obj} (e : X.base.get? b = some o) : b ∉ X.fs := fun hb => by
  have := (ok.funs.mem hb).1
  rw [e] at this; cases this
theorem Inv.bs (I : Inv X pins σ H s) : ∀ b o, X.base.get? b = some o → s.heap.get? b = some o ∧ H b = none := fun b o e =>
  ⟨I.base.keep b o (I.ok.bs b o e).1 (I.ok.bs b o e).2 (I.ok.nofr e) (I.ok.noex b o e), I.base.free b o (I.ok.bs b o e).1 (I.ok.bs b o e).2 (I.ok.noex b o e)⟩
theorem Inv.bk (I : Inv X pins σ H s) : ∀ b o, X.base.get? b = some o → s.heap.get? b = some o := fun b o e => (I.bs b o e).1
theorem Inv.mod (I : Inv X pins σ H s) : Mod X.K X.mg X.base := I.ok.mod
theorem Inv.kIn (I : Inv X pins σ H s) : X.K.In s.heap := I.ok.mod.kin.keeps I.bk
theorem Inv.nolimit (I : Inv X pins σ H s) : s.heap.NoLimit := I.ok.mod.nolimit.keeps I.bk
theorem Inv.lt (I : Inv X pins σ H s) : X.env.locals < s.heap.objs.size := let ⟨_, hn, _⟩ := I.loc; hn.lt
theorem Inv.sz (I : Inv X pins σ H s) : X.s₀.heap.objs.size ≤ s.heap.objs.size := Nat.le_trans I.ok.above (Nat.le_of_lt I.lt)
theorem Inv.nofs (I : Inv X pins σ H s) {a : Addr} (h : s.heap.objs.size ≤ a) : a ∉ X.fs := fun hb => by
  obtain ⟨_, o, ho, _⟩ := I.ok.funs.mem hb
  exact absurd (Nat.lt_of_lt_of_le (Heap.lt_size ho) (Nat.le_trans I.sz h)) (Nat.lt_irrefl _)
theorem Inv.cne (I : Inv X pins σ H s) : ∀ x c, X.env.cells.lookup x = some c → c ≠ X.env.locals := fun x c e z => by
  obtain ⟨v, o, ho, hd⟩ := I.cell x c e
  obtain ⟨m, ⟨o', es, ep, ho', hd', _⟩, _⟩ := I.loc
  rw [z, ho'] at ho; cases ho; rw [hd'] at hd; cases hd
theorem Inv.funs (I : Inv X pins σ H s) : s.heap.FunFrames X.base X.outer := by
  have all : ∀ (l : List Env), (∀ b ∈ frs l, b ∈ X.fs) → X.s₀.heap.FunFrames X.base l → s.heap.FunFrames X.base l := by
    intro l
    induction l with
    | nil => intro _ _; trivial
    | cons env r ih =>
      intro hs hl
      obtain ⟨hk, ⟨L, o, hf, hn, ho, hd⟩, hr⟩ := hl
      have hL : L ∈ X.fs := hs L (by unfold frs; rw [List.filterMap_cons, hf]; exact List.mem_cons_self)
      obtain ⟨sl, e⟩ := I.base.slot L o ho (I.ok.frf L hL) hL fun z => I.ok.exfs L z hL
      exact ⟨hk, ⟨L, _, hf, hn, e, hd⟩, ih (fun b hb => hs b (by unfold frs; rw [List.filterMap_cons, hf]; exact List.mem_cons_of_mem _ hb)) hr⟩
  exact all X.outer (fun _ hb => hb) I.ok.funs
theorem Inv.stack (I : Inv X pins σ H s) : s.heap.FunFrames X.base X.stack := by
  rcases I.ok.stk with e | ⟨e, hf⟩
  · rw [e]; exact I.funs
  · rw [e]
    obtain ⟨m, hn, _⟩ := I.loc
    refine .cons (by rw [I.ok.kind]; decide) hf hn ?_ I.funs
    exact Heap.get?_none_of_le (Nat.le_trans I.ok.bsz I.ok.above)
theorem Inv.stkSub (I : Inv X pins σ H s) : ∀ b ∈ frs X.stack, b ∈ X.env.locals :: X.fs := fun b hb => by
  rcases I.ok.stk with e | ⟨e, hf⟩
  · rw [e] at hb; exact List.mem_cons_of_mem _ hb
  · rw [e] at hb
    unfold frs at hb
    rw [List.filterMap_cons, hf] at hb
    exact hb
theorem Inv.stkFree (I : Inv X pins σ H s) : ∀ b ∈ frs X.stack, H b = none := fun b hb => by
  rcases List.mem_cons.mp (I.stkSub b hb) with e | hb
  · rw [e]; exact I.free
  · obtain ⟨_, o, ho, _⟩ := I.ok.funs.mem hb
    exact I.base.free b o ho (I.ok.frf b hb) fun z => I.ok.exfs b z hb
theorem Inv.step {g' : Array GenState} {t' : Nat} {d' : Drawn} {ch : List Addr} (I : Inv X pins σ H s)
    (hch : ∀ b ∈ ch, (b ∈ X.ex ∨ X.s₀.heap.objs.size ≤ b) ∧ b ≠ X.env.locals ∧ (∀ x c, X.env.cells.lookup x = some c → c ≠ b) ∧ ∀ p ∈ X.pn ++ pins, p.1 ≠ b)
    (keep : ∀ b o, b ≠ X.env.locals → b ∉ X.fs → b ∉ ch → s.heap.get? b = some o → H b = none → h'.get? b = some o)
    (slot : ∀ b o, b ≠ X.env.locals → b ∈ X.fs → b ∉ ch → s.heap.get? b = some o → H b = none → ∃ sl, h'.get? b = some { o with slots := sl }) (free : ∀ b o, b ∉ ch → s.heap.get? b = some o → H b = none → H' b = none)
    (there : ∀ b o, b ∉ ch → s.heap.get? b = some o → ∃ o', h'.get? b = some o')
    (tups : ∀ b xs, H b = some (.tup xs) → H' b = some (.tup xs)) (frzs : ∀ b o u, H b = some (.frz o u) → H' b = some (.frz o u)) (tbls : ∀ b ps, H b = some (.tbl ps) → ∃ more, H' b = some (.tbl (ps ++ more)))
    (ns : ∀ m, s.heap.Ns X.env.locals m → h'.Ns X.env.locals m) (hok : HOk X.prog X.w H' h') (hg : AllBare g') :
    Inv X pins σ H' { s with heap := h', gens := g', drawn := d', toks := t' } := by
  have neL : ∀ b o, X.s₀.heap.get? b = some o → b ≠ X.env.locals := fun b o e => Nat.ne_of_lt (Nat.lt_of_lt_of_le (Heap.lt_size e) I.ok.above)
  have neC : ∀ b o, X.s₀.heap.get? b = some o → b ∉ X.ex → b ∉ ch := fun b o e hx hb => by
    rcases (hch b hb).1 with z | z
    · exact hx z
    · exact absurd (Nat.lt_of_lt_of_le (Heap.lt_size e) z) (Nat.lt_irrefl _)
  have cellK : ∀ x c, X.env.cells.lookup x = some c → ∀ v, s.heap.IsCell c v → h'.IsCell c v := fun x c e v ⟨o, ho, hd⟩ => by
    have nch : c ∉ ch := fun z => (hch c z).2.2.1 x c e rfl
    by_cases hc : c ∈ X.fs
    · obtain ⟨sl, q⟩ := slot c o (I.cne x c e) hc nch ho (I.freeC x c e)
      exact ⟨_, q, hd⟩
    · exact ⟨o, keep c o (I.cne x c e) hc nch ho (I.freeC x c e), hd⟩
  refine ⟨I.ok, I.os, hg, ⟨fun b o e n hb hx => ?_, fun b o e n hb hx => ?_, fun b o e n hx => ?_, fun b o e hx => ?_, fun b xs e => tups b xs (I.base.tups b xs e), fun b o xs e => frzs b o xs (I.base.frzs b o xs e), fun b ps e => ?_⟩, ?_, fun x c e => ?_, ?_, fun x c e => ?_, fun p hp => ?_, hok, I.len⟩
  · exact keep b o (neL b o e) hb (neC b o e hx) (I.base.keep b o e n hb hx) (I.base.free b o e n hx)
  · obtain ⟨sl, e1⟩ := I.base.slot b o e n hb hx
    obtain ⟨sl', e2⟩ := slot b _ (neL b o e) hb (neC b o e hx) e1 (I.base.free b o e n hx)
    exact ⟨sl', e2⟩
  · obtain ⟨o', e1⟩ := I.base.there b o e hx
    exact free b o' (neC b o e hx) e1 (I.base.free b o e n hx)
  · obtain ⟨o', e1⟩ := I.base.there b o e hx
    exact there b o' (neC b o e hx) e1
  · obtain ⟨m1, e1⟩ := I.base.tbls b ps e
    obtain ⟨m2, e2⟩ := tbls b _ e1
    exact ⟨m1 ++ m2, by rw [e2, Array.append_assoc]⟩
  · obtain ⟨m, hn, hl⟩ := I.loc
    refine ⟨m, ns m hn, fun i x v e1 e2 e3 => ?_⟩
    obtain ⟨u, r, l⟩ := hl i x v e1 e2 e3
    refine ⟨u, r, ?_⟩
    rcases l with l | ⟨k, c, e, z⟩
    · exact .inl l
    · exact .inr ⟨k, c, e, cellK x c e _ z⟩
  · obtain ⟨v, z⟩ := I.cell x c e
    exact ⟨v, cellK x c e v z⟩
  · obtain ⟨m, ⟨o, _, _, ho, _⟩, _⟩ := I.loc
    exact free _ o (fun z => (hch _ z).2.1 rfl) ho I.free
  · obtain ⟨v, o, ho, hd⟩ := I.cell x c e
    exact free c o (fun z => (hch c z).2.2.1 x c e rfl) ho (I.freeC x c e)
  · obtain ⟨e, n, ne, nf, d⟩ := I.pin p hp
    have nch : p.1 ∉ ch := fun z => (hch p.1 z).2.2.2 p hp rfl
    exact ⟨keep p.1 p.2 ne nf nch e n, free p.1 p.2 nch e n, ne, nf, d⟩
theorem Inv.un {t' : Nat} (I : Inv X pins σ H s) (u : Un X.fs [] H H' s.heap h') (hok : HOk X.prog X.w H' h') : Inv X pins σ H' { s with heap := h', toks := t' } := by
  obtain ⟨m, ⟨o, es, ep, ho, r⟩, _⟩ := id I.loc
  obtain ⟨sl, hL⟩ := u.any ho I.free (by simp)
  exact I.step (g' := s.gens) (d' := s.drawn) (ch := []) (fun _ z => nomatch z) (fun b o _ hb _ e n => u.keep b o e n hb (by simp)) (fun b o _ hb _ e n => u.slot b o e n hb (by simp)) (fun b o _ e n => u.free b o e n (by simp)) (fun b o _ e => u.there b o e (by simp)) u.tups u.frzs u.tbls (fun m' hm => by
    obtain ⟨o', es', ep', ho', r'⟩ := hm
    rw [ho] at ho'; cases ho'
    exact ⟨_, es', ep', hL, r'⟩) hok I.bare
theorem Inv.call {g' : Array GenState} {t' : Nat} {d' : Drawn} {ch : List Addr} (I : Inv X pins σ H s) (u : Un (frs X.stack) ch H H' s.heap h') (hok : HOk X.prog X.w H' h') (hg : AllBare g')
    (hch : ∀ b ∈ ch, (b ∈ X.ex ∨ X.s₀.heap.objs.size ≤ b) ∧ b ≠ X.env.locals ∧ (∀ x c, X.env.cells.lookup x = some c → c ≠ b) ∧ ∀ p ∈ X.pn ++ pins, p.1 ≠ b) :
    Inv X pins σ H' { s with heap := h', gens := g', drawn := d', toks := t' } := by
  obtain ⟨m, ⟨o, es, ep, ho, r⟩, _⟩ := id I.loc
  obtain ⟨sl, hL⟩ := u.any ho I.free fun z => (hch _ z).2.1 rfl
  exact I.step (ch := ch) hch (fun b o hL hb hc e n => u.keep b o e n (fun z => (List.mem_cons.mp (I.stkSub b z)).elim hL hb) hc) (fun b o _ _ hc e n => u.any e n hc) (fun b o hc e n => u.free b o e n hc) (fun b o hc e => u.there b o e hc) u.tups u.frzs u.tbls (fun m' hm => by
    obtain ⟨o', es', ep', ho', r'⟩ := hm
    rw [ho] at ho'; cases ho'
    exact ⟨_, es', ep', hL, r'⟩) hok hg
theorem Inv.turned {t' : Nat} {it : Addr} (I : Inv X pins σ H s) (k : ∀ b o, b ≠ it → s.heap.get? b = some o → h'.get? b = some o) (hn : H it = none) (hL : it ≠ X.env.locals)
    (h1 : it ∈ X.ex ∨ X.s₀.heap.objs.size ≤ it) (h2 : ∀ x c, X.env.cells.lookup x = some c → c ≠ it) (h3 : ∀ p ∈ X.pn ++ pins, p.1 ≠ it) : Inv X pins σ H { s with heap := h', toks := t' } := by
  have nit : ∀ b u, H b = some u → b ≠ it := fun b u e z => by rw [z, hn] at e; cases e
  refine I.step (g' := s.gens) (d' := s.drawn) (ch := [it]) (fun b hb => ?_) (fun b o _ _ hc e _ => k b o (fun z => hc (by simp [z])) e) (fun b o _ _ hc e _ => ⟨o.slots, k b o (fun z => hc (by simp [z])) e⟩) (fun _ _ _ _ n => n)
    (fun b o hc e => ⟨o, k b o (fun z => hc (by simp [z])) e⟩) (fun _ _ e => e) (fun _ _ _ e => e) (fun b ps e => ⟨#[], by rw [e]; simp⟩) (fun m hm => ?_) (fun b u e => ?_) I.bare
  · have e : b = it := by simpa using hb
    subst e
    exact ⟨h1, hL, h2, h3⟩
  · obtain ⟨o, es, ep, ho, r⟩ := hm
    exact ⟨o, es, ep, k _ o (Ne.symm hL) ho, r⟩
  · refine (I.hok b u e).stay (fun c v hc q => k c v ?_ q) (fun _ q => q) fun _ _ q => q
    rcases hc with z | z
    · rw [z]; exact nit b u e
    · exact nit c _ z
theorem Inv.tok (I : Inv X pins σ H s) (t : Nat) : Inv X pins σ H { s with toks := t } := I.un (h' := s.heap) (t' := t) Un.refl I.hok
theorem Inv.kept {t' : Nat} (I : Inv X pins σ H s) (k : ∀ b u, s.heap.get? b = some u → h'.get? b = some u) : Inv X pins σ H { s with heap := h', toks := t' } := I.un (Un.kept k) (I.hok.kept k)
theorem Inv.laid {a : Addr} {o : HO} {t' : Nat} (I : Inv X pins σ H s) (k : ∀ b u, s.heap.get? b = some u → h'.get? b = some u) (hp : s.heap.objs.size ≤ a) (new : ObjOk X.prog X.w (upd H a o) h' a o) :
    Inv X pins σ (upd H a o) { s with heap := h', toks := t' } := I.un (Un.laid k hp (I.hok.fresh hp)) (I.hok.laid k hp new)
theorem Inv.write {x e : Addr} {o : HO} {t' : Nat} (I : Inv X pins σ H s) (mu : Mut (H x)) (he : e = x ∨ H e = some (.own x)) (k : ∀ b u, b ≠ e → s.heap.get? b = some u → h'.get? b = some u) (heo : ∃ u, h'.get? e = some u)
    (new : ObjOk X.prog X.w (upd H x o) h' x o) : Inv X pins σ (upd H x o) { s with heap := h', toks := t' } := I.un (Un.write mu he k heo) (I.hok.write mu he k heo new)
theorem Inv.pins_of {pins' : List (Addr × Obj)} (I : Inv X pins σ H s) (h : ∀ p ∈ pins', s.heap.get? p.1 = some p.2 ∧ H p.1 = none ∧ p.1 ≠ X.env.locals ∧ p.1 ∉ X.fs ∧ ∀ v, p.2.data ≠ .cell v) : Inv X pins' σ H s :=
  ⟨I.ok, I.os, I.bare, I.base, I.loc, I.cell, I.free, I.freeC, fun p hp => (List.mem_append.mp hp).elim (fun z => I.pin p (List.mem_append_left _ z)) (h p), I.hok, I.len⟩
theorem nodup_ix {N : List Str} (hN : N.Nodup) {i j : Nat} {x : Str} (a : N[i]? = some x) (b : N[j]? = some x) : i = j := by
  obtain ⟨h1, e1⟩ := List.getElem?_eq_some_iff.mp a
  obtain ⟨h2, e2⟩ := List.getElem?_eq_some_iff.mp b
  exact (List.getElem_inj hN).mp (e1.trans e2.symm)
theorem store_ok2 {M : Model} {A : Around} {E : Value → Shared → Prop} {i : Nat} {x : Str} {v : V} {u : Value} {Q : Unit → Shared → Prop} (I : Inv X pins σ H s) (hN : X.N.Nodup) (hi : X.N[i]? = some x) (hx : Loc X.env.scope x) (r : RelV v u)
    (h : ∀ s', Inv X pins (σ.set i (some v)) H s' → (∃ a, Heap.SameBut a s.heap s'.heap ∧ (a = X.env.locals ∨ X.env.cells.lookup x = some a)) → Q () s') (hf : X.fn x = true ∨ X.env.scope.names.lookup x = some .local := by first | exact .inl rfl | exact .inr rfl | assumption) : wpAny M A (storeName X.env x u) Q E s := by
  obtain ⟨m, hn, hl⟩ := id I.loc
  have hcls : (X.env.scope.kind == .class || (X.env.scope.kind == .module && X.env.locals != X.env.globals)) = false := by rw [I.ok.kind]; rfl
  have hiσ : i < σ.length := by rw [I.len]; exact (List.getElem?_eq_some_iff.mp hi).1
  have cne := I.cne
  have tracked : ∀ {a : Addr} {h' : Heap}, (∃ o, s.heap.get? a = some o ∧ H a = none) → Heap.SameBut a s.heap h' → HOk X.prog X.w H h' := fun {a h'} ha hs b ob e => by
    obtain ⟨_, _, hfree⟩ := ha
    refine (I.hok b ob e).stay (fun c w' hc q => (hs.2 c ?_).trans q) (fun _ q => q) fun _ _ q => q
    rintro rfl
    rcases hc with rfl | hc
    · rw [hfree] at e; cases e
    · rw [hfree] at hc; cases hc
  rcases hx with hk | hk
  · refine wpAny_storeName_local hk hn (fun h' hn' hs => ?_) hcls
    obtain ⟨oL, _, _, hoL, _⟩ := id hn
    refine h _ ⟨I.ok, I.os, I.bare, ⟨fun b o e n hb hx => ?_, fun b o e n hb hx => ?_, I.base.free, fun b o e hx => ?_, I.base.tups, I.base.frzs, I.base.tbls⟩, ⟨_, hn', fun j y v' e1 e2 e3 => ?_⟩, fun y c e => ?_, I.free, I.freeC, fun p hp => ?_, tracked ⟨oL, hoL, I.free⟩ hs, by simpa using I.len⟩ ⟨_, hs, .inl rfl⟩
    · exact (hs.2 b (Nat.ne_of_lt (Nat.lt_of_lt_of_le (Heap.lt_size e) I.ok.above))).trans (I.base.keep b o e n hb hx)
    · obtain ⟨sl, e1⟩ := I.base.slot b o e n hb hx
      exact ⟨sl, (hs.2 b (Nat.ne_of_lt (Nat.lt_of_lt_of_le (Heap.lt_size e) I.ok.above))).trans e1⟩
    · obtain ⟨o', e1⟩ := I.base.there b o e hx
      exact ⟨o', (hs.2 b (Nat.ne_of_lt (Nat.lt_of_lt_of_le (Heap.lt_size e) I.ok.above))).trans e1⟩
    · by_cases hj : j = i
      · subst hj
        rw [hi] at e1; cases e1
        rw [List.getElem?_set_self hiσ] at e2
        cases e2
        exact ⟨u, r, .inl ⟨hk, by simp⟩⟩
      · rw [List.getElem?_set_ne (Ne.symm hj)] at e2
        obtain ⟨u', r', q⟩ := hl j y v' e1 e2 e3
        refine ⟨u', r', ?_⟩
        rcases q with ⟨k, e⟩ | ⟨k, c, e, z⟩
        · refine .inl ⟨k, ?_⟩
          have : y ≠ x := fun e => hj (nodup_ix hN e1 (e ▸ hi))
          simp [this, e]
        · exact .inr ⟨k, c, e, z.sameBut hs (cne y c e)⟩
    · obtain ⟨w', z⟩ := I.cell y c e
      exact ⟨w', z.sameBut hs (cne y c e)⟩
    · obtain ⟨e, n, ne, nf, d⟩ := I.pin p hp
      exact ⟨(hs.2 p.1 ne).trans e, n, ne, nf, d⟩
  · have hfn : X.fn x = true := by
      rcases hf with z | z
      · exact z
      · rw [z] at hk; cases hk
    obtain ⟨c, hc⟩ := I.ok.has x (.inl hk)
    obtain ⟨w', z⟩ := I.cell x c hc
    refine wpAny_storeName_cell I.ok.kind hk hc z (fun h' hc' hs => ?_)
    obtain ⟨oc, hoc, hocd⟩ := id z
    refine h { s with heap := h' } ⟨I.ok, I.os, I.bare, ⟨fun b o e n hb hx => ?_, fun b o e n hb hx => ?_, I.base.free, fun b o e hx => ?_, I.base.tups, I.base.frzs, I.base.tbls⟩, ⟨m, hn.sameBut hs (Ne.symm (cne x c hc)), fun j y v' e1 e2 e3 => ?_⟩, fun y c' e => ?_, I.free, I.freeC, fun p hp => ?_, tracked ⟨oc, hoc, I.freeC x c hc⟩ hs, by simpa using I.len⟩ ⟨c, hs, .inr hc⟩
    · exact (hs.2 b (Nat.ne_of_lt (Nat.lt_of_lt_of_le (Heap.lt_size e) (I.ok.cab x c hfn hc)))).trans (I.base.keep b o e n hb hx)
    · obtain ⟨sl, e1⟩ := I.base.slot b o e n hb hx
      exact ⟨sl, (hs.2 b (Nat.ne_of_lt (Nat.lt_of_lt_of_le (Heap.lt_size e) (I.ok.cab x c hfn hc)))).trans e1⟩
    · obtain ⟨o', e1⟩ := I.base.there b o e hx
      exact ⟨o', (hs.2 b (Nat.ne_of_lt (Nat.lt_of_lt_of_le (Heap.lt_size e) (I.ok.cab x c hfn hc)))).trans e1⟩
    · by_cases hj : j = i
      · subst hj
        rw [hi] at e1; cases e1
        rw [List.getElem?_set_self hiσ] at e2
        cases e2
        exact ⟨u, r, .inr ⟨.inl hk, c, hc, hc'⟩⟩
      · rw [List.getElem?_set_ne (Ne.symm hj)] at e2
        obtain ⟨u', r', q⟩ := hl j y v' e1 e2 e3
        refine ⟨u', r', ?_⟩
        rcases q with q | ⟨k, c', e, z'⟩
        · exact .inl q
        · refine .inr ⟨k, c', e, z'.sameBut hs ?_⟩
          rintro rfl
          exact hj (nodup_ix hN e1 (I.ok.inj _ _ _ e hc ▸ hi))
    · by_cases hcc : c' = c
      · subst hcc; exact ⟨_, hc'⟩
      · obtain ⟨w2, z2⟩ := I.cell y c' e
        exact ⟨w2, z2.sameBut hs hcc⟩
    · obtain ⟨e, n, ne, nf, d⟩ := I.pin p hp
      refine ⟨(hs.2 p.1 ?_).trans e, n, ne, nf, d⟩
      intro q
      rw [q, hoc] at e
      have q' : oc = p.2 := Option.some.inj e
      exact d w' (by rw [← q']; exact hocd)
theorem store_ok {M : Model} {A : Around} {E : Value → Shared → Prop} {i : Nat} {x : Str} {v : V} {u : Value} {Q : Unit → Shared → Prop} (I : Inv X pins σ H s) (hN : X.N.Nodup) (hi : X.N[i]? = some x) (hx : Loc X.env.scope x) (r : RelV v u)
    (h : ∀ s', Inv X pins (σ.set i (some v)) H s' → Q () s') (hf : X.fn x = true ∨ X.env.scope.names.lookup x = some .local := by first | exact .inl rfl | exact .inr rfl | assumption) : wpAny M A (storeName X.env x u) Q E s :=
  store_ok2 I hN hi hx r (fun s' I' _ => h s' I') hf
theorem Inv.call' {s' : Shared} {ch : List Addr} (I : Inv X pins σ H s) (ho : s'.os = s.os) (u : Un (frs X.stack) ch H H' s.heap s'.heap) (hok : HOk X.prog X.w H' s'.heap) (hg : AllBare s'.gens)
    (hch : ∀ b ∈ ch, (b ∈ X.ex ∨ X.s₀.heap.objs.size ≤ b) ∧ b ≠ X.env.locals ∧ (∀ x c, X.env.cells.lookup x = some c → c ≠ b) ∧ ∀ p ∈ X.pn ++ pins, p.1 ≠ b) : Inv X pins σ H' s' := by
  obtain ⟨h', g', d', t', o'⟩ := s'
  have e : o' = s.os := ho
  subst e
  exact I.call (g' := g') (t' := t') (d' := d') u hok hg hch
end
abbrev XK := Value → Option Addr → Hp → Prop
abbrev St := List (Option V)
abbrev VK := V → Hp → Prop
abbrev TE := St → Hp → VK → Prop
abbrev TT := St → Hp → (Bool → Hp → Prop) → Prop
abbrev TA := St → Hp → (List V → Hp → Prop) → Prop
structure Ends where
  nx : St → Hp → Prop
  rt : VK
  bk : St → Hp → Prop := fun _ _ => False
  ct : St → Hp → Prop := fun _ _ => False
abbrev TS := Ends → St → Hp → Prop
def EP (X : Cx) (pins : List (Addr × Obj)) (σ : St) (Q : VK) (u : Value) (s' : Shared) : Prop := ∃ v H', Inv X pins σ H' s' ∧ RelV v u ∧ Q v H'
def TP (X : Cx) (pins : List (Addr × Obj)) (σ : St) (Q : Bool → Hp → Prop) (b : Bool) (s' : Shared) : Prop := ∃ H', Inv X pins σ H' s' ∧ Q b H'
def AP (X : Cx) (pins : List (Addr × Obj)) (σ : St) (Q : List V → Hp → Prop) (us : List Value) (s' : Shared) : Prop := ∃ vs H', Inv X pins σ H' s' ∧ Vals vs us ∧ Q vs H'
def SP (X : Cx) (pins : List (Addr × Obj)) (D : Ends) (f : Flow) (s' : Shared) : Prop :=
  match f with
  | .next => ∃ σ' H', Inv X pins σ' H' s' ∧ D.nx σ' H'
  | .brk => ∃ σ' H', Inv X pins σ' H' s' ∧ D.bk σ' H'
  | .cont => ∃ σ' H', Inv X pins σ' H' s' ∧ D.ct σ' H'
  | .ret u => ∃ v σ' H', Inv X pins σ' H' s' ∧ RelV v u ∧ D.rt v H'
def PE (X : Cx) (e : Expr) (t : TE) : Prop :=
  ∀ (pins : List (Addr × Obj)) (s : Shared) (σ : St) (H : Hp) (Q : VK), Inv X pins σ H s → t σ H Q → wpAny (model X.prog X.w) X.A (eval e X.env) (EP X pins σ Q) X.xe s
def PT (X : Cx) (e : Expr) (t : TT) : Prop :=
  ∀ (pins : List (Addr × Obj)) (s : Shared) (σ : St) (H : Hp) (Q : Bool → Hp → Prop), Inv X pins σ H s → t σ H Q → wpAny (model X.prog X.w) X.A (isTrue e X.env (eval e X.env)) (TP X pins σ Q) X.xe s
def PW (X : Cx) (e : Expr) (t : TT) : Prop :=
  ∀ (whole : Sem Value) (pins : List (Addr × Obj)) (s : Shared) (σ : St) (H : Hp) (Q : Bool → Hp → Prop), Inv X pins σ H s → t σ H Q → wpAny (model X.prog X.w) X.A (isTrue e X.env whole) (TP X pins σ Q) X.xe s
theorem PW.pt {X : Cx} {e : Expr} {t : TT} (h : PW X e t) : PT X e t := h _
def PA (X : Cx) (es : List Expr) (t : TA) : Prop :=
  ∀ (pos : Pos) (pins : List (Addr × Obj)) (s : Shared) (σ : St) (H : Hp) (Q : List V → Hp → Prop), Inv X pins σ H s → t σ H Q → wpAny (model X.prog X.w) X.A (spliced (backTo pos (starEach es X.env))) (AP X pins σ Q) X.xe s
def PS (X : Cx) (st : Stmt) (t : TS) : Prop :=
  ∀ (pins : List (Addr × Obj)) (s : Shared) (σ : St) (H : Hp) (D : Ends), Inv X pins σ H s → t D σ H → wpAny (model X.prog X.w) X.A (exec st X.env) (SP X pins D) X.xe s
def PSs (X : Cx) (st : List Stmt) (t : TS) : Prop :=
  ∀ (pins : List (Addr × Obj)) (s : Shared) (σ : St) (H : Hp) (D : Ends), Inv X pins σ H s → t D σ H → wpAny (model X.prog X.w) X.A (execs st X.env) (SP X pins D) X.xe s
theorem thn {α : Type} {t : Sem α} {Q Q' : α → Shared → Prop} {M : Model} {A : Around} {E : Value → Shared → Prop} {s : Shared} (h : wpAny M A t Q E s) (hQ : ∀ a s, Q a s → Q' a s) : wpAny M A t Q' E s := wpAny_mono h hQ fun _ _ x => x
end L2
namespace L2
open PySem PySem.Spec PyProof.Rows
section
variable {X : Cx}
def tVar (i : Nat) : TE := fun σ H Q => ∃ v, σ[i]? = some (some v) ∧ Q v H
def tC (v : V) : TE := fun _ H Q => Q v H
theorem pe_var {i : Nat} {x : Str} {pos : Pos} (hN : X.N[i]? = some x) (hv : Vis X.env.scope x) (hd : (x == ("__debug__" : Str)) = false := by decide) (hcd : (x == ("__classdict__" : Str)) = false := by decide) : PE X (.Name x pos) (tVar i) := by
  intro pins s σ H Q I h
  obtain ⟨v, e, h⟩ := h
  obtain ⟨m, hn, hl⟩ := I.loc
  obtain ⟨u, r, l⟩ := hl i x v hN e hv
  have fin : EP X pins σ Q u s := ⟨v, H, I, r, h⟩
  rcases l with ⟨hk, hm⟩ | ⟨hk, c, hc, hcell⟩
  · exact wpAny_Name (wpAny_loadName_local I.ok.kind hk hn hm fin) hd
  · rcases hk with hk | hk
    · exact wpAny_Name (wpAny_loadName_cell I.ok.kind hk hc hcell fin) hd
    · exact wpAny_Name (wpAny_loadName_free I.ok.kind hk hc hcell fin hcd) hd
theorem pe_int {i j pos} : PE X (.Constant (.int i) j pos) (tC (.int i)) := fun _ _ _ H _ I h => wpAny_Constant_int ⟨.int i, H, I.tok _, ⟨_, rfl⟩, h⟩
theorem pe_bl {b j pos} : PE X (.Constant (.bool b) j pos) (tC (.bl b)) := fun _ _ _ H _ I h => Constant_bool ⟨.bl b, H, I, rfl, h⟩
theorem pe_str {x j pos} : PE X (.Constant (.str x) j pos) (tC (.str x)) := fun _ _ _ H _ I h => Calls.Constant_str ⟨.str x, H, I.tok _, ⟨_, rfl⟩, h⟩
def Gl (X : Cx) (x : Str) : Prop := X.env.kindOf x = some .globalImplicit
theorem ld_glob {E : Value → Shared → Prop} {pins : List (Addr × Obj)} {s : Shared} {σ : St} {H : Hp} {x : Str} {u : Value} {pos : Pos} {Q : Value → Shared → Prop} (I : Inv X pins σ H s) (hg : Gl X x) (hm : X.mg x = some u) (h : Q u s)
    (hd : (x == ("__debug__" : Str)) = false := by decide) : wpAny (model X.prog X.w) X.A (eval (.Name x pos) X.env) Q E s :=
  Calls.Name_function_global I.ok.kind hg (Calls.loadGlobal_global (by rw [I.ok.glob]; exact I.mod.glob.keeps I.bk) hm h) hd
theorem ld_blt {E : Value → Shared → Prop} {pins : List (Addr × Obj)} {s : Shared} {σ : St} {H : Hp} {x : Str} {u : Value} {pos : Pos} {Q : Value → Shared → Prop} (I : Inv X pins σ H s) (hg : Gl X x) (hm : X.mg x = none) (hv : bootBuiltins x = some u) (h : Q u s)
    (hn : x ≠ "__name__" := by decide) (hd : (x == ("__debug__" : Str)) = false := by decide) : wpAny (model X.prog X.w) X.A (eval (.Name x pos) X.env) Q E s := by
  obtain ⟨mb, h1, h2⟩ := I.mod.blt
  exact Calls.Name_function_global I.ok.kind hg (Calls.loadGlobal_builtin (by rw [I.ok.glob]; exact I.mod.glob.keeps I.bk) hm (by rw [I.ok.blt]; exact h1.keeps I.bk) ((h2 x hn).trans hv) h) hd
theorem pe_bltn {x : Str} {v : V} {u : Value} {pos : Pos} (hg : Gl X x) (hm : X.mg x = none) (hv : bootBuiltins x = some u) (r : RelV v u) (hn : x ≠ "__name__" := by decide) (hd : (x == ("__debug__" : Str)) = false := by decide) : PE X (.Name x pos) (tC v) :=
  fun _ _ _ H _ I h => ld_blt I hg hm hv ⟨v, H, I, r, h⟩ hn hd
def t2I (ta tb : TE) (k : Int → Int → Hp → Prop) : St → Hp → Prop := fun σ H => ta σ H fun x H1 => tb σ H1 fun y H2 => ∃ i j, x = .int i ∧ y = .int j ∧ k i j H2
def tAdd (ta tb : TE) : TE := fun σ H Q => t2I ta tb (fun i j H2 => Q (.int (i + j)) H2) σ H
def tSub (ta tb : TE) : TE := fun σ H Q => t2I ta tb (fun i j H2 => Q (.int (i - j)) H2) σ H
def tMul (ta tb : TE) : TE := fun σ H Q => t2I ta tb (fun i j H2 => (-(2 ^ 64) < i ∧ i < 2 ^ 64) ∧ Q (.int (i * j)) H2) σ H
variable {a b : Expr} {ta tb : TE} {pos : Pos}
def PC (X : Cx) (op : CmpOp) (a b : Expr) (t : TE) : Prop :=
  ∀ (pins : List (Addr × Obj)) (s : Shared) (σ : St) (H : Hp) (Q : VK), Inv X pins σ H s → t σ H Q →
    wpAny (model X.prog X.w) X.A (eval a X.env) (fun v s₁ => wpAny (model X.prog X.w) X.A (eval b X.env) (fun u s₂ => wpAny (model X.prog X.w) X.A (compareOp op v u) (EP X pins σ Q) X.xe s₂) X.xe s₁) X.xe s
def tCmp (p : Int → Int → Bool) (ta tb : TE) : TE := fun σ H Q => t2I ta tb (fun i j H2 => Q (.bl (p i j)) H2) σ H
abbrev tLt : TE → TE → TE := tCmp fun i j => decide (i < j)
abbrev tLe : TE → TE → TE := tCmp fun i j => decide (i ≤ j)
abbrev tGt : TE → TE → TE := tCmp fun i j => decide (j < i)
abbrev tGe : TE → TE → TE := tCmp fun i j => decide (j ≤ i)
abbrev tEqI : TE → TE → TE := tCmp fun i j => decide (i = j)
abbrev tNeI : TE → TE → TE := tCmp fun i j => !decide (i = j)
def tIsN (ta : TE) : TE := fun σ H Q => ta σ H fun x H1 => Q (.bl (decide (x = .non))) H1
def tNotN (ta : TE) : TE := fun σ H Q => ta σ H fun x H1 => Q (.bl (!decide (x = .non))) H1
def tB (t : TE) : TT := fun σ H Q => t σ H fun x H1 => ∃ c, x = .bl c ∧ Q c H1
theorem pt_val {e : Expr} {t : TE} (h : PE X e t) (he : ∀ whole, isTrue e X.env whole = (do let v ← whole; standAt e.pos; holding [v] (truthy v)) := by intro _; rfl) : PT X e (tB t) := by
  intro pins s σ H Q I hw
  refine isTrue_plain (thn (h pins s σ H _ I hw) fun v s1 ⟨x, H1, I1, r1, q1⟩ => ?_) (he _)
  obtain ⟨d, rfl, q⟩ := q1
  cases r1
  exact wpAny_truthy_bool ⟨H1, I1, q⟩
variable {tA tB' : TT} {rest : List Expr}
def tAnd (t u : TT) : TT := fun σ H Q => t σ H fun c H1 => if c = true then u σ H1 Q else Q false H1
def tOr (t u : TT) : TT := fun σ H Q => t σ H fun c H1 => if c = true then Q true H1 else u σ H1 Q
def tNot (t : TT) : TT := fun σ H Q => t σ H fun c H1 => Q (!c) H1
theorem pw_and1 (ha : PT X a tA) : PW X (.BoolOp .And [a] pos) tA := by
  intro wh pins s σ H Q I h
  refine isTrue_and (thn (ha pins s σ H Q I h) fun c s1 e => ?_)
  cases c with
  | true => exact isTrue_and_nil e
  | false => exact e
theorem pw_or1 (ha : PT X a tA) : PW X (.BoolOp .Or [a] pos) tA := by
  intro wh pins s σ H Q I h
  refine isTrue_or (thn (ha pins s σ H Q I h) fun c s1 e => ?_)
  cases c with
  | false => exact isTrue_or_nil e
  | true => exact e
theorem pw_and (ha : PT X a tA) (hb : PW X (.BoolOp .And (b :: rest) pos) tB') : PW X (.BoolOp .And (a :: b :: rest) pos) (tAnd tA tB') := by
  intro wh pins s σ H Q I h
  refine isTrue_and (thn (ha pins s σ H _ I h) fun c s1 ⟨H1, I1, q1⟩ => ?_)
  cases c with
  | true => exact hb wh pins s1 σ H1 Q I1 q1
  | false => exact ⟨H1, I1, q1⟩
theorem pw_or (ha : PT X a tA) (hb : PW X (.BoolOp .Or (b :: rest) pos) tB') : PW X (.BoolOp .Or (a :: b :: rest) pos) (tOr tA tB') := by
  intro wh pins s σ H Q I h
  refine isTrue_or (thn (ha pins s σ H _ I h) fun c s1 ⟨H1, I1, q1⟩ => ?_)
  cases c with
  | true => exact ⟨H1, I1, q1⟩
  | false => exact hb wh pins s1 σ H1 Q I1 q1
theorem pt_not (ha : PT X a tA) : PT X (.UnaryOp .Not a pos) (tNot tA) := by
  intro pins s σ H Q I h
  exact isTrue_not (ha pins s σ H (fun c H1 => Q (!c) H1) I h)
def tAndV (ta tb : TE) : TE := fun σ H Q => ta σ H fun x H1 => ∃ c, x = .bl c ∧ if c = true then tb σ H1 Q else Q (.bl false) H1
def tOrV (ta tb : TE) : TE := fun σ H Q => ta σ H fun x H1 => ∃ c, x = .bl c ∧ if c = true then Q (.bl true) H1 else tb σ H1 Q
def tNotV (ta : TE) : TE := fun σ H Q => ta σ H fun x H1 => ∃ c, x = .bl c ∧ Q (.bl (!c)) H1
theorem pe_one {op} {t : TE} (h : PE X a t) : PE X (.BoolOp op [a] pos) t := fun pins s σ H Q I hw => BoolOp_one (h pins s σ H Q I hw)
theorem pe_and (ha : PE X a ta) (hb : PE X (.BoolOp .And (b :: rest) pos) tb) : PE X (.BoolOp .And (a :: b :: rest) pos) (tAndV ta tb) := by
  intro pins s σ H Q I h
  refine BoolOp_and (thn (ha pins s σ H _ I h) fun v s1 ⟨x, H1, I1, r1, q1⟩ => ?_)
  obtain ⟨c, rfl, q1⟩ := q1
  cases r1
  refine wpAny_truthy_bool ?_
  cases c with
  | true => exact hb pins s1 σ H1 Q I1 q1
  | false => exact ⟨.bl false, H1, I1, rfl, q1⟩
theorem pe_not (ha : PE X a ta) : PE X (.UnaryOp .Not a pos) (tNotV ta) := by
  intro pins s σ H Q I h
  refine UnaryOp_ (thn (ha pins s σ H _ I h) fun v s1 ⟨x, H1, I1, r1, q1⟩ => ?_)
  obtain ⟨c, rfl, q1⟩ := q1
  cases r1
  exact not_of (wpAny_truthy_bool ⟨.bl (!c), H1, I1, rfl, q1⟩)
def tIf (t : TT) (ta tb : TE) : TE := fun σ H Q => t σ H fun c H1 => if c = true then ta σ H1 Q else tb σ H1 Q
theorem pe_ifExp {c : Expr} (hc : PT X c tA) (ha : PE X a ta) (hb : PE X b tb) : PE X (.IfExp c a b pos) (tIf tA ta tb) := by
  intro pins s σ H Q I h
  refine wpAny_IfExp (thn (hc pins s σ H _ I h) fun d s1 ⟨H1, I1, q1⟩ => ?_)
  cases d with
  | true => exact ha pins s1 σ H1 Q I1 q1
  | false => exact hb pins s1 σ H1 Q I1 q1
end
end L2
namespace L2
open PySem PySem.Spec PyProof.Rows
def SqL (K : PySem.W.Frag) (H : Hp) (a : Addr) (xs : List V) : Prop :=
  Rd H a (.lst xs) ∨
    ∃ (o : Obj) (its : Array Value) (n : Nat), K.lookup a = some o ∧ o.cls = .type "list" ∧ o.dict = none ∧ o.data = .seq its n ∧ its.size ≤ sizeLine ∧ Vals xs its.toList
def SqT (K : PySem.W.Frag) (H : Hp) (a : Addr) (xs : List V) : Prop :=
  Rd H a (.tup xs) ∨
    ∃ (o : Obj) (its : Array Value) (n : Nat), K.lookup a = some o ∧ o.cls = .type "tuple" ∧ o.data = .seq its n ∧ its.size ≤ sizeLine ∧ Vals xs its.toList
def absV : Value → Option V
  | .none => some .non
  | .bool b => some (.bl b)
  | .int i _ => some (.int i)
  | .str x _ => some (.str x)
  | .bytes b _ => some (.byt b)
  | .float b _ => some (.flt b)
  | .ref a => some (.ref a)
  | .type n => some (.ty n)
  | _ => none
theorem RelV.abs {x : V} {u : Value} (r : RelV x u) : absV u = some x := by
  cases x with
  | non => cases r; rfl
  | bl _ => cases r; rfl
  | int _ => obtain ⟨t, rfl⟩ := r; rfl
  | str _ => obtain ⟨t, rfl⟩ := r; rfl
  | byt _ => obtain ⟨t, rfl⟩ := r; rfl
  | flt _ => obtain ⟨t, rfl⟩ := r; rfl
  | ref _ => cases r; rfl
  | ty _ => cases r; rfl
theorem RelV.inj {x y : V} {u : Value} (r : RelV x u) (q : RelV y u) : x = y := Option.some.inj (r.abs.symm.trans q.abs)
theorem Vals.inj : ∀ {xs ys : List V} {us : List Value}, Vals xs us → Vals ys us → xs = ys
  | _, _, _, .nil, .nil => rfl
  | _, _, _, .cons r t, .cons r' t' => by rw [r.inj r', Vals.inj t t']
section
variable {X : Cx} {pins : List (Addr × Obj)} {σ : St} {H : Hp} {s : Shared} {a : Addr} {xs ys : List V}
theorem SqL.of {K : PySem.W.Frag} (h : H a = some (.lst xs)) : SqL K H a xs := .inl (.inl h)
theorem SqT.of {K : PySem.W.Frag} (h : H a = some (.tup xs)) : SqT K H a xs := .inl (.inl h)
theorem Inv.list (I : Inv X pins σ H s) (h : SqL X.K H a xs) : ∃ its : List Value, Vals xs its ∧ PlainL s.heap a its.toArray ∧ xs.length ≤ sizeLine := by
  rcases h with h | ⟨o, its, n, hk, hc, hd, hs, hz, r⟩
  · obtain ⟨z, its, n, r, e⟩ := h.ok I.hok
    exact ⟨its, r, ⟨_, n, e, rfl, rfl, rfl⟩, z⟩
  · refine ⟨its.toList, r, ⟨o, n, I.kIn a o hk, hc, hd, by simpa using hs⟩, ?_⟩
    have e := r.length
    simp only [Array.length_toList] at e
    omega
theorem Inv.tuple (I : Inv X pins σ H s) (h : SqT X.K H a xs) : ∃ its : List Value, Vals xs its ∧ IsTup s.heap a its.toArray ∧ xs.length ≤ sizeLine := by
  rcases h with h | ⟨o, its, n, hk, hc, hs, hz, r⟩
  · obtain ⟨z, its, r, p⟩ := h.ok I.hok
    exact ⟨its, r, p, z⟩
  · refine ⟨its.toList, r, ⟨o, I.kIn a o hk, hc, n, by simpa using hs⟩, ?_⟩
    have e := r.length
    simp only [Array.length_toList] at e
    omega
theorem Inv.list_inj (I : Inv X pins σ H s) (h : SqL X.K H a xs) (h' : SqL X.K H a ys) : xs = ys := by
  obtain ⟨its, r, ⟨o, n, e, _, _, d⟩, _⟩ := I.list h
  obtain ⟨its', r', ⟨o', n', e', _, _, d'⟩, _⟩ := I.list h'
  rw [e] at e'; cases e'
  rw [d] at d'
  injection d' with d1 _
  have : its = its' := by simpa using congrArg Array.toList d1
  subst this
  exact r.inj r'
theorem Inv.tuple_inj (I : Inv X pins σ H s) (h : SqT X.K H a xs) (h' : SqT X.K H a ys) : xs = ys := by
  obtain ⟨its, r, ⟨o, e, _, n, d⟩, _⟩ := I.tuple h
  obtain ⟨its', r', ⟨o', e', _, n', d'⟩, _⟩ := I.tuple h'
  rw [e] at e'; cases e'
  rw [d] at d'
  injection d' with d1 _
  have : its = its' := by simpa using congrArg Array.toList d1
  subst this
  exact r.inj r'
end
abbrev Cx.wish (X : Cx) (E : Value → Shared → Prop) : Cx := { X with xe := E }
abbrev Cx.nox (X : Cx) : Cx := X.wish fun _ _ => False
theorem Cx.Ok.wish {X : Cx} (ok : X.Ok) (E : Value → Shared → Prop) : (X.wish E).Ok :=
  ⟨ok.mod, ok.kind, ok.glob, ok.blt, ok.above, ok.inj, ok.has, ok.cab, ok.hd, ok.frames, ok.stk, ok.exf, ok.bs, ok.bsz, ok.noex, ok.exfs, ok.funs, ok.frf⟩
theorem Cx.Ok.unwish {X : Cx} {E : Value → Shared → Prop} (ok : (X.wish E).Ok) : X.Ok :=
  ⟨ok.mod, ok.kind, ok.glob, ok.blt, ok.above, ok.inj, ok.has, ok.cab, ok.hd, ok.frames, ok.stk, ok.exf, ok.bs, ok.bsz, ok.noex, ok.exfs, ok.funs, ok.frf⟩
section
variable {X : Cx} {pins : List (Addr × Obj)} {σ : St} {H : Hp} {s : Shared} {E : Value → Shared → Prop}
theorem Inv.wish (I : Inv X pins σ H s) (E : Value → Shared → Prop) : Inv (X.wish E) pins σ H s := ⟨I.ok.wish E, I.os, I.bare, I.base, I.loc, I.cell, I.free, I.freeC, I.pin, I.hok, I.len⟩
theorem Inv.unwish (I : Inv (X.wish E) pins σ H s) : Inv X pins σ H s := ⟨I.ok.unwish, I.os, I.bare, I.base, I.loc, I.cell, I.free, I.freeC, I.pin, I.hok, I.len⟩
theorem SP.unwish {D : Ends} {f : Flow} {s' : Shared} (h : SP (X.wish E) pins D f s') : SP X pins D f s' := by
  cases f with
  | next => obtain ⟨σ', H', I, q⟩ := h; exact ⟨σ', H', I.unwish, q⟩
  | brk => obtain ⟨σ', H', I, q⟩ := h; exact ⟨σ', H', I.unwish, q⟩
  | cont => obtain ⟨σ', H', I, q⟩ := h; exact ⟨σ', H', I.unwish, q⟩
  | ret u => obtain ⟨v, σ', H', I, r, q⟩ := h; exact ⟨v, σ', H', I.unwish, r, q⟩
theorem PE.nox {e : Expr} {t : TE} (h : PE X.nox e t) : PE X e t := fun pins s σ H Q I hw =>
  wpAny_mono (h pins s σ H Q (I.wish _) hw) (fun _ _ ⟨v, H', I', r, q⟩ => ⟨v, H', I'.unwish, r, q⟩) fun _ _ z => False.elim z
theorem PT.nox {e : Expr} {t : TT} (h : PT X.nox e t) : PT X e t := fun pins s σ H Q I hw =>
  wpAny_mono (h pins s σ H Q (I.wish _) hw) (fun _ _ ⟨H', I', q⟩ => ⟨H', I'.unwish, q⟩) fun _ _ z => False.elim z
theorem PSs.nox {st : List Stmt} {t : TS} (h : PSs X.nox st t) : PSs X st t := fun pins s σ H D I hw =>
  wpAny_mono (h pins s σ H D (I.wish _) hw) (fun _ _ q => q.unwish) fun _ _ z => False.elim z
end
section
variable {X : Cx} {st : Stmt} {rest : List Stmt} {t u : TS} {e : Expr} {te : TE} {pos : Pos}
def tNext : TS := fun D σ H => D.nx σ H
def tSeq (t u : TS) : TS := fun D σ H => t { D with nx := u D } σ H
theorem pss_nil : PSs X [] tNext := fun _ _ σ H _ I h => wpAny_execs_nil ⟨σ, H, I, h⟩
theorem pss_cons (h1 : PS X st t) (h2 : PSs X rest u) : PSs X (st :: rest) (tSeq t u) := by
  intro pins s σ H D I h
  refine wpAny_execs_cons (thn (h1 pins s σ H { D with nx := u D } I h) fun f s1 q => ?_)
  cases f with
  | next =>
    obtain ⟨σ', H', I', q⟩ := q
    exact h2 pins s1 σ' H' D I' q
  | ret v => exact q
  | brk => exact q
  | cont => exact q
theorem pss_one (h1 : PS X st t) : PSs X [st] t := by
  intro pins s σ H D I h
  refine wpAny_execs_cons (thn (h1 pins s σ H D I h) fun f s1 q => ?_)
  cases f with
  | next => exact wpAny_execs_nil q
  | ret v => exact q
  | brk => exact q
  | cont => exact q
def tBreak : TS := fun D σ H => D.bk σ H
def tCont : TS := fun D σ H => D.ct σ H
theorem Inv.quiet {pins : List (Addr × Obj)} {σ : St} {H : Hp} {s : Shared} (I : Inv X pins σ H s) : interactive X.env = false := by simp [interactive, I.ok.kind]
def tDrop (te : TE) : TS := fun D σ H => te σ H fun _ H1 => D.nx σ H1
theorem ps_expr (he : PE X e te) (hs : swapsWith e none pos.line X.env = pure false := by rfl) : PS X (.Expr e pos) (tDrop te) := by
  intro pins s σ H D I h
  exact wpAny_Expr_any (thn (he pins s σ H _ I h) fun v s1 ⟨x, H1, I1, r1, q1⟩ => ⟨σ, H1, I1, q1⟩) I.quiet hs
def tRet (te : TE) : TS := fun D σ H => te σ H D.rt
theorem ps_ret (he : PE X e te) : PS X (.Return (some e) pos) (tRet te) := by
  intro pins s σ H D I h
  exact wpAny_Return_some (thn (he pins s σ H _ I h) fun v s1 ⟨x, H1, I1, r1, q1⟩ => ⟨x, σ, H1, I1, r1, q1⟩)
def tRetN : TS := fun D _ H => D.rt .non H
def tIfS (c : TT) (t u : TS) : TS := fun D σ H => c σ H fun b H1 => if b = true then t D σ H1 else u D σ H1
theorem ps_if {c : Expr} {a b : List Stmt} {tc : TT} (hc : PT X c tc) (ha : PSs X a t) (hb : PSs X b u) : PS X (.If c a b pos) (tIfS tc t u) := by
  intro pins s σ H D I h
  refine wpAny_If (thn (hc pins s σ H _ I h) fun d s1 ⟨H1, I1, q1⟩ => ?_)
  cases d with
  | true => exact ha pins s1 σ H1 D I1 q1
  | false => exact hb pins s1 σ H1 D I1 q1
def tNever : TS := fun _ _ _ => False
end
abbrev TG := V → St → Hp → (St → Hp → Prop) → Prop
abbrev TGs := List V → St → Hp → (St → Hp → Prop) → Prop
def PG (X : Cx) (target : Expr) (t : TG) : Prop :=
  ∀ (pins : List (Addr × Obj)) (s : Shared) (σ : St) (H : Hp) (v : V) (u : Value) (Q : St → Hp → Prop), Inv X pins σ H s → RelV v u → t v σ H Q →
    wpAny (model X.prog X.w) X.A (assign target X.env u) (fun _ s' => ∃ σ' H', Inv X pins σ' H' s' ∧ Q σ' H') X.xe s
def PGs (X : Cx) (ts : List Expr) (t : TGs) : Prop :=
  ∀ (pins : List (Addr × Obj)) (s : Shared) (σ : St) (H : Hp) (vs : List V) (us : List Value) (Q : St → Hp → Prop), Inv X pins σ H s → Vals vs us → t vs σ H Q →
    wpAny (model X.prog X.w) X.A (assignInOrder ((assignEach ts X.env).map (·.2)) us) (fun _ s' => ∃ σ' H', Inv X pins σ' H' s' ∧ Q σ' H') X.xe s
abbrev TSet := V → V → V → Hp → (Hp → Prop) → Prop
def PSet (X : Cx) (t : TSet) : Prop :=
  ∀ (pins : List (Addr × Obj)) (s : Shared) (σ : St) (H : Hp) (o i v : V) (ov iv u : Value) (Q : Hp → Prop), Inv X pins σ H s → RelV o ov → RelV i iv → RelV v u → t o i v H Q →
    wpAny (model X.prog X.w) X.A (setItem ov iv u) (fun _ s' => ∃ H', Inv X pins σ H' s' ∧ Q H') X.xe s
abbrev TIp := V → V → Hp → VK → Prop
def PIp (X : Cx) (op : Operator) (t : TIp) : Prop :=
  ∀ (pins : List (Addr × Obj)) (s : Shared) (σ : St) (H : Hp) (x y : V) (v u : Value) (Q : VK), Inv X pins σ H s → RelV x v → RelV y u → t x y H Q →
    wpAny (model X.prog X.w) X.A (inplaceOp op v u) (EP X pins σ Q) X.xe s
section
variable {X : Cx} {pos : Pos}
def gName (i : Nat) : TG := fun v σ H Q => Q (σ.set i (some v)) H
theorem pg_name {i : Nat} {x : Str} (hN : X.N.Nodup) (hi : X.N[i]? = some x) (hx : Loc X.env.scope x) (hf : X.fn x = true ∨ X.env.scope.names.lookup x = some .local := by first | exact .inl rfl | exact .inr rfl | assumption) : PG X (.Name x pos) (gName i) := by
  intro pins s σ H v u Q I r h
  exact wpAny_assign_Name (store_ok I hN hi hx r (fun s' I' => ⟨_, H, I', h⟩) hf)
def gNil : TGs := fun vs σ H Q => vs = [] ∧ Q σ H
def gCons (t : TG) (u : TGs) : TGs := fun vs σ H Q => ∃ v r, vs = v :: r ∧ t v σ H fun σ' H' => u r σ' H' Q
def gTup (K : PySem.W.Frag) (n : Nat) (t : TGs) : TG := fun v σ H Q => ∃ a xs, v = .ref a ∧ SqT K H a xs ∧ xs.length = n ∧ t xs σ H Q
def gSub (to ti : TE) (t : TSet) : TG := fun v σ H Q => to σ H fun o H1 => ti σ H1 fun i H2 => t o i v H2 fun H3 => Q σ H3
def tAsg (te : TE) (g : TG) : TS := fun D σ H => te σ H fun x H1 => g x σ H1 D.nx
theorem ps_set {i : Nat} {x : Str} {e : Expr} {te : TE} {pos' : Pos} (hN : X.N.Nodup) (hi : X.N[i]? = some x) (hx : Loc X.env.scope x) (he : PE X e te) (hs : swapsWith e (some (.Name x pos')) pos.line X.env = pure false := by rfl) (hf : X.fn x = true ∨ X.env.scope.names.lookup x = some .local := by first | exact .inl rfl | exact .inr rfl | assumption) :
    PS X (.Assign [.Name x pos'] e pos) (tAsg te (gName i)) := by
  intro pins s σ H D I h
  refine wpAny_Assign_Name (thn (he pins s σ H _ I h) fun v s1 ⟨y, H1, I1, r1, q1⟩ => ?_) hs
  exact store_ok I1 hN hi hx r1 (fun s2 I2 => ⟨_, H1, I2, q1⟩) hf
def tPar (i j : Nat) (ta : TA) : TS := fun D σ H => ta σ H fun vs H1 => ∃ v w, vs = [v, w] ∧ D.nx ((σ.set i (some v)).set j (some w)) H1
def tAug (i : Nat) (te : TE) (ti : TIp) : TS := fun D σ H => ∃ x, σ[i]? = some (some x) ∧ te σ H fun y H1 => ti x y H1 fun z H2 => D.nx (σ.set i (some z)) H2
def tAugS (to ti te : TE) (tget : V → V → Hp → VK → Prop) (tip : TIp) (tset : TSet) : TS := fun D σ H => to σ H fun o H1 => ti σ H1 fun i H2 => tget o i H2 fun x H3 => te σ H3 fun y H4 => tip x y H4 fun z H5 => tset o i z H5 fun H6 => D.nx σ H6
def PGet (X : Cx) (t : V → V → Hp → VK → Prop) : Prop :=
  ∀ (pins : List (Addr × Obj)) (s : Shared) (σ : St) (H : Hp) (o i : V) (ov iv : Value) (Q : VK), Inv X pins σ H s → RelV o ov → RelV i iv → t o i H Q →
    wpAny (model X.prog X.w) X.A (getItem ov iv) (EP X pins σ Q) X.xe s
def ipI (f : Int → Int → Int) : TIp := fun x y H Q => ∃ i j, x = .int i ∧ y = .int j ∧ Q (.int (f i j)) H
end
section
variable {X : Cx} {pos : Pos}
def tWhile (c : TT) (tb : TS) : TS := fun D σ H => ∃ W : Nat → St → Hp → Prop, (∃ m, W m σ H) ∧ ∀ m σ H, W m σ H →
  c σ H fun b H1 => if b = true then ∃ N : St → Hp → Prop, (∀ σ' H', N σ' H' → ∃ m', m' < m ∧ W m' σ' H') ∧ tb { D with nx := N, ct := N, bk := D.nx } σ H1 else D.nx σ H1
end
structure It where
  go : Nat → Hp → Prop
  yld : Nat → Hp → V → Hp → Prop
  stop : Nat → Hp → Prop
def FpOk (X : Cx) (pins : List (Addr × Obj)) (H : Hp) (b : Addr) : Prop :=
  H b = none ∧ b ≠ X.env.locals ∧ b ∉ X.fs ∧ (b ∈ X.ex ∨ X.s₀.heap.objs.size ≤ b) ∧ (∀ x c, X.env.cells.lookup x = some c → c ≠ b) ∧ ∀ p ∈ X.pn ++ pins, p.1 ≠ b
theorem Inv.fpOk {X : Cx} {pins : List (Addr × Obj)} {σ : St} {H H' : Hp} {s : Shared} {b : Addr} (I : Inv X pins σ H s) (hb : s.heap.objs.size ≤ b) (hn : H' b = none) : FpOk X pins H' b := by
  refine ⟨hn, Nat.ne_of_gt (Nat.lt_of_lt_of_le I.lt hb), I.nofs hb, .inr (Nat.le_trans I.sz hb), fun x c e z => ?_, fun p hp z => ?_⟩
  · obtain ⟨v, q⟩ := I.cell x c e
    exact absurd (Nat.lt_of_lt_of_le q.lt (by rw [z]; exact hb)) (Nat.lt_irrefl _)
  · exact absurd (Nat.lt_of_lt_of_le (Heap.lt_size (I.pin p hp).1) (by rw [z]; exact hb)) (Nat.lt_irrefl _)
structure Turn (P : Program) (w : World) (K : PySem.W.Frag) (tg : Expr) (J : It) (fp : List Addr) (it : Addr) (tn : Nat → Heap → Prop) : Prop where
  mem : it ∈ fp
  obj : ∀ i h, tn i h → ∀ b ∈ fp, ∃ o, h.get? b = some o ∧ ∀ v, o.data ≠ .cell v
  keep : ∀ i h h', tn i h → (∀ b ∈ fp, ∀ o, h.get? b = some o → h'.get? b = some o) → tn i h'
  item : ∀ (X : Cx), X.prog = P → X.w = w → X.K = K → X.calm = true → ∀ (i : Nat) (pins : List (Addr × Obj)) (s : Shared) (σ : St) (H : Hp) (E : Value → Shared → Prop), Inv X pins σ H s → (∀ b ∈ fp, FpOk X pins H b) → tn i s.heap → J.go i H →
    wpAny (model P w) X.A (pyNext (.ref it)) (fun r s1 => ∃ u, r = some u ∧
      wpAny (model P w) X.A (letOwnedTupleGo tg (.ref it) u) (fun _ s2 => ∃ x H', Inv X pins σ H' s2 ∧ RelV x u ∧ J.yld i H x H' ∧ tn (i + 1) s2.heap ∧ ∀ b ∈ fp, H' b = none) E s1) E s
  done : ∀ (X : Cx), X.prog = P → X.w = w → X.K = K → X.calm = true → ∀ (i : Nat) (pins : List (Addr × Obj)) (s : Shared) (σ : St) (H : Hp) (E : Value → Shared → Prop), Inv X pins σ H s → (∀ b ∈ fp, FpOk X pins H b) → tn i s.heap → J.stop i H →
    wpAny (model P w) X.A (pyNext (.ref it)) (fun r s1 => r = none ∧ Inv X pins σ H s1) E s
  self : ∀ (A : Around) (i : Nat) (s : Shared) (Q : Value → Shared → Prop) (E : Value → Shared → Prop), tn i s.heap → Q (.ref it) s → wpAny (model P w) A (pyIter (.ref it)) Q E s
abbrev TI := St → Hp → (It → Hp → Prop) → Prop
def PIE (X : Cx) (pins : List (Addr × Obj)) (σ : St) (tg : Expr) (R : It → Hp → Prop) (itv : Value) (s2 : Shared) : Prop :=
  ∃ (it : Addr) (fp : List Addr) (tn : Nat → Heap → Prop) (J : It) (H' : Hp), itv = .ref it ∧ Inv X pins σ H' s2 ∧ Turn X.prog X.w X.K tg J fp it tn ∧ tn 0 s2.heap ∧ (∀ b ∈ fp, FpOk X pins H' b) ∧ R J H'
def PI (X : Cx) (tg iter : Expr) (wi : TI) : Prop :=
  ∀ (pins : List (Addr × Obj)) (s : Shared) (σ : St) (H : Hp) (R : It → Hp → Prop), Inv X pins σ H s → wi σ H R →
    wpAny (model X.prog X.w) X.A (eval iter X.env) (fun v s1 => wpAny (model X.prog X.w) X.A (pyIter v) (PIE X pins σ tg R) X.xe s1) X.xe s
theorem go_of {M : Model} {A : Around} {E : Value → Shared → Prop} {s : Shared} {tg : Expr} {it : Addr} {u : Value} {o : Obj} {n : String} {vs : Array Value} {Q : Unit → Shared → Prop} (ho : s.heap.get? it = some o) (hc : o.cls = .type n) (hd : o.data = .fields vs)
    (hn : ["enumerate", "zip", "dict_itemiterator", "dict_reverseitemiterator", "odict_iterator", "itertools.zip_longest", "itertools.pairwise"].contains n = false) (hQ : Q () s) : wpAny M A (letOwnedTupleGo tg (.ref it) u) Q E s := by
  unfold letOwnedTupleGo
  cases tg <;> first
    | exact wpAny_pure hQ
    | (cases u <;> first
        | exact wpAny_pure hQ
        | (refine wpAny_bind (wpAny_load ho ?_)
           rw [hc, hd]
           show wpAny M A (if (["enumerate", "zip", "dict_itemiterator", "dict_reverseitemiterator", "odict_iterator", "itertools.zip_longest", "itertools.pairwise"].contains n && vs[0]? == some (rawInt _)) = true then _ else _) Q E s
           rw [if_neg (by intro h; rw [hn, Bool.false_and] at h; cases h)]
           exact wpAny_pure hQ))
def Itl (K : PySem.W.Frag) (a : Addr) : It :=
  ⟨fun i H => ∃ xs x, SqL K H a xs ∧ xs[i]? = some x, fun i H x H' => H' = H ∧ ∀ xs, SqL K H a xs → xs[i]? = some x, fun i H => ∃ xs, SqL K H a xs ∧ xs.length ≤ i⟩
def Itt (K : PySem.W.Frag) (a : Addr) : It :=
  ⟨fun i H => ∃ xs x, SqT K H a xs ∧ xs[i]? = some x, fun i H x H' => H' = H ∧ ∀ xs, SqT K H a xs → xs[i]? = some x, fun i H => ∃ xs, SqT K H a xs ∧ xs.length ≤ i⟩
def Itr (lo : Int) (n : Nat) : It := ⟨fun i _ => i < n, fun i H x H' => H' = H ∧ x = .int (lo + i), fun i _ => n ≤ i⟩
theorem turn_list {P : Program} {w : World} {K : PySem.W.Frag} {tg : Expr} (a it : Addr) : Turn P w K tg (Itl K a) [it] it (fun i h => h.IsListIter it a i) where
  mem := by simp
  obj := fun i h st b hb => by
    have e : b = it := by simpa using hb
    subst e
    obtain ⟨o, e, c, d⟩ := st
    exact ⟨o, e, fun v z => by rw [d] at z; cases z⟩
  keep := fun i h h' st k => st.at fun o e => k it (by simp) o e
  item := by
    intro X hP hw hK hc i pins s σ H E I hf st hg
    subst hP hw hK
    obtain ⟨xs, x, hq, hx⟩ := hg
    obtain ⟨its, rv, p, hz⟩ := I.list hq
    obtain ⟨u, hu, ru⟩ := rv.get hx
    obtain ⟨f0, f1, f2, f3, f4, f5⟩ := hf it (by simp)
    refine wpAny_pyNext_list_item st p.isList (x := u) (by simpa using hu) fun h' st' sb => ?_
    have I1 : Inv X pins σ H { s with heap := h' } := I.turned (t' := s.toks) (fun b o hb e => (sb.2 b hb).trans e) f0 f1 f3 f4 f5
    obtain ⟨o, e, c, d⟩ := id st'
    exact ⟨u, rfl, go_of (s := { s with heap := h' }) e c d (by decide) ⟨x, H, I1, ru, ⟨rfl, fun ys hy => by rw [I.list_inj hy hq]; exact hx⟩, st', fun b hb => (hf b hb).1⟩⟩
  done := by
    intro X hP hw hK hc i pins s σ H E I hf st hg
    subst hP hw hK
    obtain ⟨xs, hq, hx⟩ := hg
    obtain ⟨its, rv, p, hz⟩ := I.list hq
    obtain ⟨f0, f1, f2, f3, f4, f5⟩ := hf it (by simp)
    have hl := rv.length
    exact wpAny_pyNext_list_end (I.ok.hd hc) st p.isList (by simp; omega) fun h' eb => ⟨rfl, I.turned (t' := s.toks) (fun b o hb e => eb b o hb e) f0 f1 f3 f4 f5⟩
  self := fun _ _ _ _ _ st h => wpAny_pyIter_listiter st h
theorem turn_tuple {P : Program} {w : World} {K : PySem.W.Frag} {tg : Expr} (a it : Addr) : Turn P w K tg (Itt K a) [it] it (fun i h => h.IsTupleIter it a i) where
  mem := by simp
  obj := fun i h st b hb => by
    have e : b = it := by simpa using hb
    subst e
    obtain ⟨o, e, c, d⟩ := st
    exact ⟨o, e, fun v z => by rw [d] at z; cases z⟩
  keep := fun i h h' st k => st.at fun o e => k it (by simp) o e
  item := by
    intro X hP hw hK hc i pins s σ H E I hf st hg
    subst hP hw hK
    obtain ⟨xs, x, hq, hx⟩ := hg
    obtain ⟨its, rv, p, hz⟩ := I.tuple hq
    obtain ⟨u, hu, ru⟩ := rv.get hx
    obtain ⟨f0, f1, f2, f3, f4, f5⟩ := hf it (by simp)
    refine wpAny_pyNext_tuple_item st (show s.heap.IsTuple a its.toArray from p) (x := u) (by simpa using hu) fun h' st' sb => ?_
    have I1 : Inv X pins σ H { s with heap := h' } := I.turned (t' := s.toks) (fun b o hb e => (sb.2 b hb).trans e) f0 f1 f3 f4 f5
    obtain ⟨o, e, c, d⟩ := id st'
    exact ⟨u, rfl, go_of (s := { s with heap := h' }) e c d (by decide) ⟨x, H, I1, ru, ⟨rfl, fun ys hy => by rw [I.tuple_inj hy hq]; exact hx⟩, st', fun b hb => (hf b hb).1⟩⟩
  done := by
    intro X hP hw hK hc i pins s σ H E I hf st hg
    subst hP hw hK
    obtain ⟨xs, hq, hx⟩ := hg
    obtain ⟨its, rv, p, hz⟩ := I.tuple hq
    obtain ⟨f0, f1, f2, f3, f4, f5⟩ := hf it (by simp)
    have hl := rv.length
    exact wpAny_pyNext_tuple_end (I.ok.hd hc) st (show s.heap.IsTuple a its.toArray from p) (by simp; omega) fun h' eb => ⟨rfl, I.turned (t' := s.toks) (fun b o hb e => eb b o hb e) f0 f1 f3 f4 f5⟩
  self := fun _ _ _ _ _ st h => wpAny_pyIter_tupleiter st h
theorem turn_range {P : Program} {w : World} {K : PySem.W.Frag} {tg : Expr} (it : Addr) (lo : Int) (n : Nat) : Turn P w K tg (Itr lo n) [it] it (fun i h => IsRangeIter h it (lo + (i : Nat) * 1) ((n : Int) - (i : Nat)) 1) where
  mem := by simp
  obj := fun i h st b hb => by
    have e : b = it := by simpa using hb
    subst e
    exact ⟨_, st, fun v z => by
      have z' : Data.fields _ = Data.cell v := z
      cases z'⟩
  keep := fun i h h' st k => k it (by simp) _ st
  item := by
    intro X hP hw hK hc i pins s σ H E I hf st hg
    subst hP hw hK
    obtain ⟨f0, f1, f2, f3, f4, f5⟩ := hf it (by simp)
    have W := Walks.range (prog := X.prog) (w := X.w) (I.ok.hd hc) it lo 1 n
    refine W.item i s _ _ hg st fun v h' tk hv st' kk => ?_
    obtain ⟨t, rfl⟩ := hv
    have I1 : Inv X pins σ H { s with heap := h', toks := tk } := I.turned (fun b o hb e => kk b o (by simpa using hb) e) f0 f1 f3 f4 f5
    refine ⟨_, rfl, go_of (s := { s with heap := h', toks := tk }) (n := "range_iterator") st' rfl rfl (by decide) ⟨.int (lo + i), H, I1, ⟨t, ?_⟩, ⟨rfl, rfl⟩, st', fun b hb => (hf b hb).1⟩⟩
    rw [Int.mul_one]
  done := by
    intro X hP hw hK hc i pins s σ H E I hf st hg
    subst hP hw hK
    obtain ⟨f0, f1, f2, f3, f4, f5⟩ := hf it (by simp)
    exact wpAny_pyNext_range_end (I.ok.hd hc) st (by have : n ≤ i := hg; omega) fun h' eb => ⟨rfl, I.turned (t' := s.toks) (fun b o hb e => eb b o hb e) f0 f1 f3 f4 f5⟩
  self := fun _ _ _ _ _ st h => wpAny_pyIter_rangeiter st h
end L2
namespace L2
open PySem PySem.Spec PyProof.Rows
section
variable {X : Cx} {tg : Expr}
def iList (K : PySem.W.Frag) (tl : TE) : TI := fun σ H R => tl σ H fun x H1 => ∃ a, x = .ref a ∧ (∃ xs, SqL K H1 a xs) ∧ R (Itl K a) H1
def iTup (K : PySem.W.Frag) (tl : TE) : TI := fun σ H R => tl σ H fun x H1 => ∃ a, x = .ref a ∧ (∃ xs, SqT K H1 a xs) ∧ R (Itt K a) H1
theorem range_it {pins : List (Addr × Obj)} {σ : St} {H : Hp} {s : Shared} {R : It → Hp → Prop} {E : Value → Shared → Prop} {lo hi : Int} {t u v : Tok} {tk : Nat} (I : Inv X pins σ H s) (h1 : -(2 ^ 62) ≤ lo) (h2 : lo < 2 ^ 62) (h3 : -(2 ^ 62) ≤ hi) (h4 : hi < 2 ^ 62)
    (q : R (Itr lo (hi - lo).toNat) H) : wpAny (model X.prog X.w) X.A (pyIter (.ref s.heap.objs.size)) (PIE X pins σ tg R) E { s with heap := s.heap.push { cls := .type "range", data := .fields #[.int lo t, .int hi u, .int 1 v] }, toks := tk } := by
  refine wpAny_pyIter_range (IsRange.new ..) (small_one h1 h2 h3 h4) ?_
  have I1 : Inv X pins σ H { s with heap := s.heap.push { cls := .type "range", data := .fields #[.int lo t, .int hi u, .int 1 v] }, toks := tk } := I.kept fun b o e => Heap.get?_push_of_some _ e
  refine ⟨(s.heap.push { cls := .type "range", data := .fields #[.int lo t, .int hi u, .int 1 v] }).objs.size, [(s.heap.push { cls := .type "range", data := .fields #[.int lo t, .int hi u, .int 1 v] }).objs.size], _, _, H, rfl,
    I1.kept (t' := tk) fun b o e => Heap.get?_push_of_some _ e, turn_range _ lo (hi - lo).toNat, ?_, fun b hb => ?_, q⟩
  · have e1 : lo + ((0 : Nat) : Int) * 1 = lo := by simp
    have e2 : (((hi - lo).toNat : Nat) : Int) - ((0 : Nat) : Int) = Builtin.Range.rangeSize lo hi 1 := by rw [rangeSize_one]; split <;> omega
    show IsRangeIter _ _ (lo + ((0 : Nat) : Int) * 1) ((((hi - lo).toNat : Nat) : Int) - ((0 : Nat) : Int)) 1
    rw [e1, e2]
    exact Heap.get?_push_size _ rfl
  · have e : b = (s.heap.push { cls := .type "range", data := .fields #[.int lo t, .int hi u, .int 1 v] }).objs.size := by simpa using hb
    subst e
    exact I1.fpOk (Nat.le_refl _) (I1.hok.fresh (Nat.le_refl _))
def iRng1 (ta : TA) : TI := fun σ H R => ta σ H fun vs H1 => ∃ j : Int, vs = [.int j] ∧ -(2 ^ 62) ≤ j ∧ j < 2 ^ 62 ∧ R (Itr 0 j.toNat) H1
def iRng2 (ta : TA) : TI := fun σ H R => ta σ H fun vs H1 => ∃ i j : Int, vs = [.int i, .int j] ∧ (-(2 ^ 62) ≤ i ∧ i < 2 ^ 62 ∧ -(2 ^ 62) ≤ j ∧ j < 2 ^ 62) ∧ R (Itr i (j - i).toNat) H1
theorem pi_range1 {a : Expr} {ta : TA} {p pos : Pos} (hg : Gl X "range") (hm : X.mg "range" = none) (ha : PA X [a] ta) (hs : starEach [a] X.env = [(false, eval a X.env)] := by rfl) : PI X tg (.Call (.Name "range" p) [a] [] pos) (iRng1 ta) := by
  intro pins s σ H R I h
  refine Call_ (ld_blt I hg hm boot_range (PyProof.Rows.callWith_type1 (thn (ha pos pins s σ H _ I h) fun us s1 ⟨vs, H1, I1, r1, q1⟩ => ?_) hs rfl))
  obtain ⟨j, e, q1, q2, q⟩ := q1
  subst e
  cases r1 with
  | cons r rr =>
    cases rr
    obtain ⟨t, rfl⟩ := r
    exact call_range_1 (range_it I1 (by omega) (by omega) q1 q2 (by simpa using q))
def tFor (wi : TI) (g : TG) (tb : TS) : TS := fun D σ H => wi σ H fun J H1 => ∃ W : Nat → Nat → St → Hp → Prop, (∃ m, W 0 m σ H1) ∧ ∀ i m σ H, W i m σ H →
  (J.stop i H ∧ D.nx σ H) ∨ (J.go i H ∧ ∃ N : St → Hp → Prop, (∀ σ' H', N σ' H' → ∃ m', m' < m ∧ W (i + 1) m' σ' H') ∧ ∀ x H', J.yld i H x H' → g x σ H' fun σ2 H2 => tb { D with nx := N, ct := N, bk := D.nx } σ2 H2)
def pinsAt (fp : List Addr) (h : Heap) : List (Addr × Obj) := fp.filterMap fun b => (h.get? b).map fun o => (b, o)
theorem mem_pinsAt {fp : List Addr} {h : Heap} {b : Addr} {o : Obj} (hb : b ∈ fp) (e : h.get? b = some o) : (b, o) ∈ pinsAt fp h := List.mem_filterMap.mpr ⟨b, hb, by rw [e]; rfl⟩
theorem of_pinsAt {fp : List Addr} {h : Heap} {p : Addr × Obj} (hp : p ∈ pinsAt fp h) : p.1 ∈ fp ∧ h.get? p.1 = some p.2 := by
  obtain ⟨b, hb, e⟩ := List.mem_filterMap.mp hp
  cases q : h.get? b with
  | none => rw [q] at e; cases e
  | some o =>
    rw [q] at e
    have e' : (b, o) = p := Option.some.inj e
    subst e'
    exact ⟨hb, q⟩
theorem Inv.pinned {pins : List (Addr × Obj)} {σ : St} {H : Hp} {s : Shared} {fp : List Addr} (I : Inv X pins σ H s) (hf : ∀ b ∈ fp, FpOk X pins H b) (ho : ∀ b ∈ fp, ∃ o, s.heap.get? b = some o ∧ ∀ v, o.data ≠ .cell v) : Inv X (pins ++ pinsAt fp s.heap) σ H s :=
  I.pins_of fun p hp => (List.mem_append.mp hp).elim (fun z => I.pin p (List.mem_append_right _ z)) fun z => by
    obtain ⟨hb, e⟩ := of_pinsAt z
    obtain ⟨f0, f1, f2, _⟩ := hf p.1 hb
    obtain ⟨o, e', d⟩ := ho p.1 hb
    rw [e] at e'; cases e'
    exact ⟨e, f0, f1, f2, d⟩
theorem Inv.unpinned {pins pl : List (Addr × Obj)} {σ : St} {H : Hp} {s : Shared} (I : Inv X (pins ++ pl) σ H s) : Inv X pins σ H s := I.pins_of fun p hp => I.pin p (List.mem_append_right _ (List.mem_append_left _ hp))
theorem ps_for {iter : Expr} {body : List Stmt} {wi : TI} {g : TG} {tb : TS} {pos : Pos} (hp : PassesOwn (model X.prog X.w) X.A X.env X.xe) (hc : X.calm = true) (hi : PI X tg iter wi) (hg : PG X tg g) (hb : PSs X body tb)
    (hs : ∀ x, foldedSetIterable iter X.env x = pure x := by intro _; rfl) : PS X (.For tg iter body [] pos) (tFor wi g tb) := by
  intro pins s σ H D I h
  refine wpAny_For (thn (hi pins s σ H _ I h) fun v s1 h1 => thn h1 fun itv s2 h2 => ?_) hs
  obtain ⟨it, fp, tn, J, H2, e, I2, T, st2, f2, W, ⟨m0, w0⟩, turn⟩ := h2
  subst e
  have stat : ∀ {H' : Hp}, (∀ b ∈ fp, H' b = none) → ∀ b ∈ fp, FpOk X pins H' b := fun hn b hb => ⟨hn b hb, (f2 b hb).2⟩
  refine codeAny_forLoop_any (fun n s' => ∃ i σ' H', Inv X pins σ' H' s' ∧ tn i s'.heap ∧ (∀ b ∈ fp, H' b = none) ∧ W i n σ' H') ?_ m0 ⟨0, σ, H2, I2, st2, fun b hb => (f2 b hb).1, w0⟩
  rintro n s3 ⟨i, σ3, H3, I3, st3, fr3, w3⟩
  rcases turn i n σ3 H3 w3 with ⟨stop, qn⟩ | ⟨go, N, hN, step⟩
  · refine wpAny_passesOwn hp (thn (T.done X rfl rfl rfl hc i pins s3 σ3 H3 X.xe I3 (stat fr3) st3 stop) fun r s4 ⟨hr, I4⟩ => ?_)
    subst hr
    exact wpAny_execs_nil ⟨σ3, H3, I4, qn⟩
  · refine wpAny_passesOwn hp (thn (T.item X rfl rfl rfl hc i pins s3 σ3 H3 X.xe I3 (stat fr3) st3 go) fun r s4 ⟨u, hr, h4⟩ => ?_)
    subst hr
    refine wpAny_passesOwn hp (thn h4 fun _ s5 ⟨x, H5, I5, r5, y5, st5, fr5⟩ => ?_)
    have I5' := I5.pinned (stat fr5) (T.obj _ _ st5)
    refine wpAny_passesOwn hp (thn (hg _ s5 σ3 H5 x u _ I5' r5 (step x H5 y5)) fun _ s6 ⟨σ6, H6, I6, q6⟩ => ?_)
    refine wpAny_passesOwn hp (thn (hb _ s6 σ6 H6 _ I6 q6) fun f s7 q7 => ?_)
    have again : ∀ {σ7 : St} {H7 : Hp}, Inv X (pins ++ pinsAt fp s5.heap) σ7 H7 s7 → N σ7 H7 → ∃ m, m < n ∧ ∃ i σ' H', Inv X pins σ' H' s7 ∧ tn i s7.heap ∧ (∀ b ∈ fp, H' b = none) ∧ W i m σ' H' := fun {σ7 H7} I7 n7 => by
      obtain ⟨m', hm, w7⟩ := hN σ7 H7 n7
      refine ⟨m', hm, i + 1, σ7, H7, I7.unpinned, T.keep _ _ _ st5 fun b hb o e => (I7.pin (b, o) (List.mem_append_right _ (List.mem_append_right _ (mem_pinsAt hb e)))).1, fun b hb => ?_, w7⟩
      obtain ⟨o, e, d⟩ := T.obj _ _ st5 b hb
      exact (I7.pin (b, o) (List.mem_append_right _ (List.mem_append_right _ (mem_pinsAt hb e)))).2.1
    cases f with
    | next => obtain ⟨σ7, H7, I7, n7⟩ := q7; exact again I7 n7
    | cont => obtain ⟨σ7, H7, I7, n7⟩ := q7; exact again I7 n7
    | brk => obtain ⟨σ7, H7, I7, q7⟩ := q7; exact ⟨σ7, H7, I7.unpinned, q7⟩
    | ret v => obtain ⟨x7, σ7, H7, I7, r7, q7⟩ := q7; exact ⟨x7, σ7, H7, I7.unpinned, r7, q7⟩
end
end L2
namespace L2
open PySem PySem.Spec PyProof.Rows
abbrev R2 := V → V → Hp → VK → Prop
def OpR (X : Cx) (f : Value → Value → Sem Value) (r : R2) : Prop :=
  ∀ (pins : List (Addr × Obj)) (s : Shared) (σ : St) (H : Hp) (x y : V) (v u : Value) (Q : VK), Inv X pins σ H s → RelV x v → RelV y u → r x y H Q →
    wpAny (model X.prog X.w) X.A (f v u) (EP X pins σ Q) X.xe s
def UnR (X : Cx) (f : Value → Sem Value) (r : V → Hp → VK → Prop) : Prop :=
  ∀ (pins : List (Addr × Obj)) (s : Shared) (σ : St) (H : Hp) (x : V) (v : Value) (Q : VK), Inv X pins σ H s → RelV x v → r x H Q →
    wpAny (model X.prog X.w) X.A (f v) (EP X pins σ Q) X.xe s
def CallR (X : Cx) (f : Value) (r : List V → Hp → VK → Prop) : Prop :=
  ∀ (pins : List (Addr × Obj)) (s : Shared) (σ : St) (H : Hp) (xs : List V) (us : List Value) (Q : VK), Inv X pins σ H s → Vals xs us → r xs H Q →
    wpAny (model X.prog X.w) X.A (call f us) (EP X pins σ Q) X.xe s
def TruR (X : Cx) (r : V → Hp → (Bool → Hp → Prop) → Prop) : Prop :=
  ∀ (pins : List (Addr × Obj)) (s : Shared) (σ : St) (H : Hp) (x : V) (v : Value) (Q : Bool → Hp → Prop), Inv X pins σ H s → RelV x v → r x H Q →
    wpAny (model X.prog X.w) X.A (truthy v) (TP X pins σ Q) X.xe s
def tOp (r : R2) (ta tb : TE) : TE := fun σ H Q => ta σ H fun x H1 => tb σ H1 fun y H2 => r x y H2 Q
def tUn (r : V → Hp → VK → Prop) (ta : TE) : TE := fun σ H Q => ta σ H fun x H1 => r x H1 Q
def rI (C : Int → Int → Prop) (g : Int → Int → V) : R2 := fun x y H Q => ∃ i j, x = .int i ∧ y = .int j ∧ C i j ∧ Q (g i j) H
def rI0 (g : Int → Int → V) : R2 := fun x y H Q => ∃ i j, x = .int i ∧ y = .int j ∧ Q (g i j) H
def rU (g : Int → V) : V → Hp → VK → Prop := fun x H Q => ∃ i, x = .int i ∧ Q (g i) H
section
variable {X : Cx} {a b c : Expr} {ta tb tc : TE} {pos : Pos}
theorem binT (ha : PE X a ta) (hb : PE X b tb) {pins : List (Addr × Obj)} {s : Shared} {σ : St} {H : Hp} {R : V → V → Hp → Prop} (I : Inv X pins σ H s)
    (h : ta σ H fun x H1 => tb σ H1 fun y H2 => R x y H2) {Q : Value → Shared → Prop} {f : Value → Value → Sem Value}
    (hf : ∀ v u s2 x y H2, Inv X pins σ H2 s2 → RelV x v → RelV y u → R x y H2 → wpAny (model X.prog X.w) X.A (f v u) Q X.xe s2) :
    wpAny (model X.prog X.w) X.A (eval a X.env) (fun v s₁ => wpAny (model X.prog X.w) X.A (eval b X.env) (fun u s₂ => wpAny (model X.prog X.w) X.A (f v u) Q X.xe s₂) X.xe s₁) X.xe s := by
  refine thn (ha pins s σ H _ I h) fun v s1 ⟨x, H1, I1, r1, q1⟩ => ?_
  refine thn (hb pins s1 σ H1 _ I1 q1) fun u s2 ⟨y, H2, I2, r2, q2⟩ => ?_
  exact hf v u s2 x y H2 I2 r1 r2 q2
theorem pe_op {op : Operator} {r : R2} (ho : OpR X (binaryOp op) r) (ha : PE X a ta) (hb : PE X b tb) : PE X (.BinOp a op b pos) (tOp r ta tb) := by
  intro pins s σ H Q I h
  exact wpAny_BinOp (binT ha hb I h fun v u s2 x y H2 I2 rx ry q => ho pins s2 σ H2 x y v u Q I2 rx ry q)
theorem pe_un {op : UnaryOp} {r : V → Hp → VK → Prop} (ho : UnR X (unaryOp op) r) (ha : PE X a ta) : PE X (.UnaryOp op a pos) (tUn r ta) := by
  intro pins s σ H Q I h
  exact UnaryOp_ (thn (ha pins s σ H _ I h) fun v s1 ⟨x, H1, I1, r1, q1⟩ => ho pins s1 σ H1 x v Q I1 r1 q1)
theorem opI {f : Value → Value → Sem Value} {C : Int → Int → Prop} {g : Int → Int → Int}
    (rule : ∀ (i j : Int) (t u : Tok) (s : Shared) (Q : Value → Shared → Prop) (E : Value → Shared → Prop), C i j → Q (.int (g i j) s.toks) { s with toks := s.toks + 1 } → wpAny (model X.prog X.w) X.A (f (.int i t) (.int j u)) Q E s) :
    OpR X f (rI C fun i j => .int (g i j)) := by
  intro pins s σ H x y v u Q I rx ry h
  obtain ⟨i, j, rfl, rfl, hc, q⟩ := h
  obtain ⟨t, rfl⟩ := rx
  obtain ⟨t', rfl⟩ := ry
  exact rule i j t t' s _ _ hc ⟨.int (g i j), H, I.tok _, ⟨_, rfl⟩, q⟩
theorem opI0 {f : Value → Value → Sem Value} {g : Int → Int → Int}
    (rule : ∀ (i j : Int) (t u : Tok) (s : Shared) (Q : Value → Shared → Prop) (E : Value → Shared → Prop), Q (.int (g i j) s.toks) { s with toks := s.toks + 1 } → wpAny (model X.prog X.w) X.A (f (.int i t) (.int j u)) Q E s) :
    OpR X f (rI0 fun i j => .int (g i j)) := by
  intro pins s σ H x y v u Q I rx ry h
  obtain ⟨i, j, rfl, rfl, q⟩ := h
  obtain ⟨t, rfl⟩ := rx
  obtain ⟨t', rfl⟩ := ry
  exact rule i j t t' s _ _ ⟨.int (g i j), H, I.tok _, ⟨_, rfl⟩, q⟩
theorem opB0 {f : Value → Value → Sem Value} {g : Int → Int → Bool}
    (rule : ∀ (i j : Int) (t u : Tok) (s : Shared) (Q : Value → Shared → Prop) (E : Value → Shared → Prop), Q (.bool (g i j)) s → wpAny (model X.prog X.w) X.A (f (.int i t) (.int j u)) Q E s) :
    OpR X f (rI0 fun i j => .bl (g i j)) := by
  intro pins s σ H x y v u Q I rx ry h
  obtain ⟨i, j, rfl, rfl, q⟩ := h
  obtain ⟨t, rfl⟩ := rx
  obtain ⟨t', rfl⟩ := ry
  exact rule i j t t' s _ _ ⟨.bl (g i j), H, I, rfl, q⟩
def CDiv (i j : Int) : Prop := 0 < j ∧ j < 1073741824
def CDivN (i j : Int) : Prop := j ≠ 0 ∧ j.natAbs < 1073741824
def CPow (i j : Int) : Prop := 0 ≤ j ∧ j ≤ 1000000 ∧ i.natAbs < 2 ^ 64
def CMul (i j : Int) : Prop := (-(2 ^ 64) < i ∧ i < 2 ^ 64) ∨ (-(2 ^ 64) < j ∧ j < 2 ^ 64)
theorem CMul.ok {i j : Int} (h : CMul i j) : IntMulOk i j := by
  rcases h with ⟨h1, h2⟩ | ⟨h1, h2⟩
  · exact .of_left (intBits_le_64 h1 h2)
  · exact .of_right (intBits_le_64 h1 h2)
theorem op_add : OpR X (binaryOp .Add) (rI0 fun i j => .int (i + j)) := opI0 fun _ _ _ _ _ _ _ q => add_int q
theorem op_sub : OpR X (binaryOp .Sub) (rI0 fun i j => .int (i - j)) := opI0 fun _ _ _ _ _ _ _ q => sub_int q
theorem op_mul : OpR X (binaryOp .Mult) (rI CMul fun i j => .int (i * j)) := opI fun _ _ _ _ _ _ _ hc q => mul_int q hc.ok
theorem op_fdiv : OpR X (binaryOp .FloorDiv) (rI CDiv fun i j => .int (i / j)) := opI fun i j _ _ _ _ _ hc q => by
  have h1 : (0 : Int) < j := hc.1
  have h2 : j < 1073741824 := hc.2
  exact floordiv_int (by omega) (by rw [Int.fdiv_eq_ediv_of_nonneg i (by omega)]; exact q) (.inl (PyProof.noPylong_small (by omega)))
theorem op_mod : OpR X (binaryOp .Mod) (rI (fun _ j => 0 < j) fun i j => .int (i % j)) := opI fun i j _ _ _ _ _ hc q => by
  have h1 : (0 : Int) < j := hc
  exact mod_int' (by omega) (by rw [Int.fmod_eq_emod_of_nonneg i (by omega)]; exact q)
theorem op_pow : OpR X (binaryOp .Pow) (rI CPow fun i j => .int (i ^ j.toNat)) := opI fun _ _ _ _ _ _ _ hc q => pow_int_small hc.1 hc.2.1 hc.2.2 q
theorem unI {f : Value → Sem Value} {g : Int → Int}
    (rule : ∀ (i : Int) (t : Tok) (s : Shared) (Q : Value → Shared → Prop) (E : Value → Shared → Prop), Q (.int (g i) s.toks) { s with toks := s.toks + 1 } → wpAny (model X.prog X.w) X.A (f (.int i t)) Q E s) :
    UnR X f (rU fun i => .int (g i)) := by
  intro pins s σ H x v Q I rx h
  obtain ⟨i, rfl, q⟩ := h
  obtain ⟨t, rfl⟩ := rx
  exact rule i t s _ _ ⟨.int (g i), H, I.tok _, ⟨_, rfl⟩, q⟩
theorem un_neg : UnR X (unaryOp .USub) (rU fun i => .int (-i)) := unI fun _ _ _ _ _ q => neg_int q
end
def scal : V → V → Bool
  | .non, .non => true | .non, .int _ => true | .int _, .non => true | .non, .bl _ => true | .bl _, .non => true | .non, .str _ => true | .str _, .non => true
  | .int _, .int _ => true | .bl _, .bl _ => true | .str _, .str _ => true | .byt _, .byt _ => true
  | .int _, .str _ => true | .str _, .int _ => true | .bl _, .str _ => true | .str _, .bl _ => true
  | _, _ => false
def rEq : R2 := fun x y H Q => scal x y = true ∧ Q (.bl (decide (x = y))) H
def rNe : R2 := fun x y H Q => scal x y = true ∧ Q (.bl (!decide (x = y))) H
theorem dec_int {i j : Int} : decide (V.int i = V.int j) = (i == j) := by
  rw [Bool.eq_iff_iff]
  simp
theorem dec_bl {i j : Bool} : decide (V.bl i = V.bl j) = (i == j) := by
  rw [Bool.eq_iff_iff]
  simp
theorem dec_str {i j : Str} : decide (V.str i = V.str j) = (i == j) := by
  rw [Bool.eq_iff_iff]
  simp
theorem dec_byt {i j : Array UInt8} : decide (V.byt i = V.byt j) = (i.toList == j.toList) := by
  rw [Bool.eq_iff_iff]
  cases i
  cases j
  simp
section
variable {X : Cx} {a b c : Expr} {ta tb tc : TE} {pos : Pos}
theorem fin_bl {pins : List (Addr × Obj)} {σ : St} {H : Hp} {s : Shared} {Q : VK} {k k' : Bool} (I : Inv X pins σ H s) (q : Q (.bl k) H) (e : k = k') : EP X pins σ Q (.bool k') s := by
  subst e
  exact ⟨.bl k, H, I, rfl, q⟩
theorem op_eq : OpR X (compareOp .Eq) rEq := by
  intro pins s σ H x y v u Q I rx ry h
  obtain ⟨hs, q⟩ := h
  cases x with
  | non =>
    cases rx
    cases y with
    | non => cases ry; exact PySem.EqNone.eq_none_none (fin_bl I q (by simp))
    | bl j => cases ry; exact PySem.EqNone.eq_none_bool (fin_bl I q (by simp))
    | int j => obtain ⟨t', rfl⟩ := ry; exact PySem.EqNone.eq_none_int (fin_bl I q (by simp))
    | str j => obtain ⟨t', rfl⟩ := ry; exact PySem.EqNone.eq_none_str (fin_bl I q (by simp))
    | _ => exact absurd (show false = true from hs) Bool.false_ne_true
  | bl i =>
    cases rx
    cases y with
    | non => cases ry; exact PySem.EqNone.eq_bool_none (fin_bl I q (by simp))
    | bl j => cases ry; exact eq_bool (fin_bl I q dec_bl)
    | str j => obtain ⟨t', rfl⟩ := ry; exact PySem.EqMixed.eq_bool_str (fin_bl I q (by simp))
    | _ => exact absurd (show false = true from hs) Bool.false_ne_true
  | int i =>
    obtain ⟨t, rfl⟩ := rx
    cases y with
    | non => cases ry; exact PySem.EqNone.eq_int_none (fin_bl I q (by simp))
    | int j => obtain ⟨t', rfl⟩ := ry; exact eq_int (fin_bl I q dec_int)
    | str j => obtain ⟨t', rfl⟩ := ry; exact PySem.EqMixed.eq_int_str (fin_bl I q (by simp))
    | _ => exact absurd (show false = true from hs) Bool.false_ne_true
  | str i =>
    obtain ⟨t, rfl⟩ := rx
    cases y with
    | non => cases ry; exact PySem.EqNone.eq_str_none (fin_bl I q (by simp))
    | bl j => cases ry; exact PySem.EqMixed.eq_str_bool (fin_bl I q (by simp))
    | int j => obtain ⟨t', rfl⟩ := ry; exact PySem.EqMixed.eq_str_int (fin_bl I q (by simp))
    | str j => obtain ⟨t', rfl⟩ := ry; exact eq_str (fin_bl I q dec_str)
    | _ => exact absurd (show false = true from hs) Bool.false_ne_true
  | byt i =>
    obtain ⟨t, rfl⟩ := rx
    cases y with
    | byt j => obtain ⟨t', rfl⟩ := ry; exact PySem.W.eq_bytes (fin_bl I q dec_byt)
    | _ => exact absurd (show false = true from hs) Bool.false_ne_true
  | _ => cases y <;> exact absurd (show false = true from hs) Bool.false_ne_true
theorem op_ne : OpR X (compareOp .NotEq) rNe := by
  intro pins s σ H x y v u Q I rx ry h
  obtain ⟨hs, q⟩ := h
  cases x with
  | non =>
    cases rx
    cases y with
    | non => cases ry; exact PySem.EqNone.ne_none_none (fin_bl I q (by simp))
    | bl j => cases ry; exact PySem.EqNone.ne_none_bool (fin_bl I q (by simp))
    | int j => obtain ⟨t', rfl⟩ := ry; exact PySem.EqNone.ne_none_int (fin_bl I q (by simp))
    | str j => obtain ⟨t', rfl⟩ := ry; exact PySem.EqNone.ne_none_str (fin_bl I q (by simp))
    | _ => exact absurd (show false = true from hs) Bool.false_ne_true
  | bl i =>
    cases rx
    cases y with
    | non => cases ry; exact PySem.EqNone.ne_bool_none (fin_bl I q (by simp))
    | bl j => cases ry; exact ne_bool (fin_bl I q (congrArg not dec_bl))
    | str j => obtain ⟨t', rfl⟩ := ry; exact PySem.EqMixed.ne_bool_str (fin_bl I q (by simp))
    | _ => exact absurd (show false = true from hs) Bool.false_ne_true
  | int i =>
    obtain ⟨t, rfl⟩ := rx
    cases y with
    | non => cases ry; exact PySem.EqNone.ne_int_none (fin_bl I q (by simp))
    | int j => obtain ⟨t', rfl⟩ := ry; exact ne_int (fin_bl I q (congrArg not dec_int))
    | str j => obtain ⟨t', rfl⟩ := ry; exact PySem.EqMixed.ne_int_str (fin_bl I q (by simp))
    | _ => exact absurd (show false = true from hs) Bool.false_ne_true
  | str i =>
    obtain ⟨t, rfl⟩ := rx
    cases y with
    | non => cases ry; exact PySem.EqNone.ne_str_none (fin_bl I q (by simp))
    | bl j => cases ry; exact PySem.EqMixed.ne_str_bool (fin_bl I q (by simp))
    | int j => obtain ⟨t', rfl⟩ := ry; exact PySem.EqMixed.ne_str_int (fin_bl I q (by simp))
    | str j => obtain ⟨t', rfl⟩ := ry; exact ne_str (fin_bl I q (congrArg not dec_str))
    | _ => exact absurd (show false = true from hs) Bool.false_ne_true
  | byt i =>
    obtain ⟨t, rfl⟩ := rx
    cases y with
    | byt j => obtain ⟨t', rfl⟩ := ry; exact PySem.W.ne_bytes (fin_bl I q (congrArg not dec_byt))
    | _ => exact absurd (show false = true from hs) Bool.false_ne_true
  | _ => cases y <;> exact absurd (show false = true from hs) Bool.false_ne_true
theorem op_gt : OpR X (compareOp .Gt) (rI0 fun i j => .bl (decide (j < i))) := opB0 fun _ _ _ _ _ _ _ q => gt_int q
def isObj : HO → Bool
  | .lst _ => true
  | .ins _ _ _ => true
  | _ => false
theorem OpR.or {f : Value → Value → Sem Value} {r r' : R2} (h : OpR X f r) (h' : OpR X f r') : OpR X f (fun x y H Q => r x y H Q ∨ r' x y H Q) := by
  intro pins s σ H x y v u Q I rx ry q
  rcases q with q | q
  · exact h pins s σ H x y v u Q I rx ry q
  · exact h' pins s σ H x y v u Q I rx ry q
theorem nomark (b : Expr) {op : CmpOp} (h : op ≠ .In := by decide) (h2 : op ≠ .NotIn := by decide) : behindInMarks op b = false := by
  have e1 : (op == CmpOp.In) = false := by cases op <;> first | rfl | exact absurd rfl h
  have e2 : (op == CmpOp.NotIn) = false := by cases op <;> first | rfl | exact absurd rfl h2
  cases b <;> simp [behindInMarks, e1, e2]
theorem pe_cmpR {op : CmpOp} {r : R2} (ho : OpR X (compareOp op) r) (ha : PE X a ta) (hb : PE X b tb) (hm : behindInMarks op b = false) : PE X (.Compare a [op] [b] pos) (tOp r ta tb) := by
  intro pins s σ H Q I h
  exact wpAny_Compare1 (binT ha hb I h fun v u s2 x y H2 I2 rx ry q => ho pins s2 σ H2 x y v u Q I2 rx ry q) hm
def tTest (t : TE) : TT := fun σ H Q => t σ H fun x H' => ∃ k, x = .bl k ∧ Q k H'
theorem pt_cmpR {op : CmpOp} {r : R2} (ho : OpR X (compareOp op) r) (ha : PE X a ta) (hb : PE X b tb) (hm : behindInMarks op b = false) : PT X (.Compare a [op] [b] pos) (tTest (tOp r ta tb)) := by
  intro pins s σ H Q I h
  refine wpAny_isTrue_Compare1 (thn (ha pins s σ H _ I h) fun v s1 ⟨x, H1, I1, r1, q1⟩ => thn (hb pins s1 σ H1 _ I1 q1) fun u s2 ⟨y, H2, I2, r2, q2⟩ =>
    thn (ho pins s2 σ H2 x y v u _ I2 r1 r2 q2) fun c s3 ⟨z, H3, I3, r3, k, e, q3⟩ => ?_) hm
  subst e
  cases r3
  exact wpAny_truthy_bool ⟨H3, I3, q3⟩
def tChain (r r' : R2) (ta tb tc : TE) : TE := fun σ H Q => ta σ H fun x H1 => tb σ H1 fun y H2 => r x y H2 fun z H3 => ∃ k, z = .bl k ∧
  (if k = true then tc σ H3 fun w' H4 => r' y w' H4 Q else Q (.bl false) H3)
def TruV (K : PySem.W.Frag) (x : V) (H : Hp) (k : Bool) : Prop :=
  match x with
  | .non => k = false
  | .bl b => k = b
  | .int i => k = (i != 0)
  | .str y => y.length ≤ sizeLine ∧ k = ((y.length : Int) != 0)
  | .byt y => y.size ≤ sizeLine ∧ k = ((y.size : Int) != 0)
  | .ref p => (∃ xs, SqL K H p xs ∧ k = !xs.isEmpty) ∨ (∃ xs, SqT K H p xs ∧ k = !xs.isEmpty) ∨ ∃ kvs, H p = some (.dK kvs) ∧ k = !kvs.isEmpty
  | _ => False
theorem line63 : (sizeLine : Nat) < 2 ^ 63 := by rw [sizeLine_eq]; decide
theorem op_add_str : OpR X (binaryOp .Add) (fun x y H Q => ∃ i j, x = .str i ∧ y = .str j ∧ i.length + j.length ≤ sizeLine ∧ Q (.str (i ++ j)) H) := by
  intro pins s σ H x y v u Q I rx ry h
  obtain ⟨i, j, rfl, rfl, hz, q⟩ := h
  obtain ⟨t, rfl⟩ := rx
  obtain ⟨t', rfl⟩ := ry
  exact add_str (fun t' tk => ⟨.str (i ++ j), H, I.tok _, ⟨_, rfl⟩, q⟩) hz
def PlainIxT (b : Expr) : Prop := ∀ o i, subscripted b false o i = operate [o, i] (getItem o i)
theorem vals1 {x : V} {us : List Value} (r : Vals [x] us) : ∃ u, us = [u] ∧ RelV x u := by
  cases r with
  | cons r1 r2 => cases r2; exact ⟨_, rfl, r1⟩
theorem vals2 {x y : V} {us : List Value} (r : Vals [x, y] us) : ∃ u w', us = [u, w'] ∧ RelV x u ∧ RelV y w' := by
  cases r with
  | cons r1 r2 =>
    cases r2 with
    | cons r3 r4 => cases r4; exact ⟨_, _, rfl, r1, r3⟩
theorem call_min2 (hc : X.calm = true) : CallR X (.builtin "min") (fun xs H Q => ∃ i j, xs = [.int i, .int j] ∧ Q (.int (if j < i then j else i)) H) := by
  intro pins s σ H xs us Q I r h
  obtain ⟨i, j, rfl, q⟩ := h
  obtain ⟨u, w', rfl, ⟨t, rfl⟩, ⟨t', rfl⟩⟩ := vals2 r
  refine min_two_ints (I.ok.hd hc) fun h' tk k => ⟨_, H, I.kept k, ?_, q⟩
  by_cases hj : j < i
  · rw [if_pos hj, if_pos hj]; exact ⟨_, rfl⟩
  · rw [if_neg hj, if_neg hj]; exact ⟨_, rfl⟩
def LenV (K : PySem.W.Frag) (x : V) (H : Hp) (n : Nat) : Prop :=
  match x with
  | .str y => y.length ≤ sizeLine ∧ n = y.length
  | .byt y => y.size ≤ sizeLine ∧ n = y.size
  | .ref p => (∃ xs, SqL K H p xs ∧ n = xs.length) ∨ ∃ xs, SqT K H p xs ∧ n = xs.length
  | _ => False
end
end L2
namespace L2
open PySem PySem.Spec PyProof.Rows
structure ObjM (h : Heap) (x dx C : Addr) (mA : Str → Option Value) : Prop where
  obj : h.get? x = some (PySem.W.instObj C dx)
  ns : h.Ns1 dx mA
  ne : dx ≠ x
theorem lookIn_ns {h : Heap} {dx : Addr} {mA : Str → Option Value} (n : h.Ns1 dx mA) : ∃ od, h.get? dx = some od ∧ ∀ name, PySem.W.lookIn name od = some (mA name) := by
  obtain ⟨o, es, ep, ho, hd, hk, _, hm⟩ := n
  refine ⟨o, ho, fun name => ?_⟩
  have e := hm name
  unfold nsFind findBy at e
  rw [← Array.find?_toList] at e
  unfold PySem.W.lookIn
  rw [hd]
  dsimp only
  split
  · rename_i y q
    rw [q] at e
    exact congrArg some e
  · rename_i q
    rw [q] at e
    have a : es.toList.any (·.refKey) = false := by
      rw [List.any_eq_false]
      intro y hy
      obtain ⟨z, t, hkey⟩ := hk y (Array.mem_toList_iff.mp hy)
      simp [DictEntry.refKey, hkey]
    have a' : ¬ es.toList.any (·.refKey) = true := by rw [a]; exact Bool.false_ne_true
    rw [if_neg a']
    exact congrArg some e
theorem ObjM.look {h : Heap} {x dx C : Addr} {mA : Str → Option Value} (I : ObjM h x dx C mA) : ∃ od, PySem.W.InstAt h x (PySem.W.instObj C dx) C (some od) ∧ ∀ name, PySem.W.lookIn name od = some (mA name) :=
  let ⟨od, ho, hl⟩ := lookIn_ns I.ns
  ⟨od, ⟨I.obj, rfl, rfl, ho⟩, hl⟩
section
variable {prog : Program} {w : World} {A : Around} {E : Value → Shared → Prop} {s : Shared} {K : PySem.W.Frag} {x dx C f : Addr} {mA : Str → Option Value} {name : Str} {v : Value}
theorem get_map {expr : Bool} {Q : Value → Shared → Prop} (X : K.In s.heap) (I : ObjM s.heap x dx C mA) (hg : PySem.W.plainGet K C name = true) (hh : PySem.W.hasDictIn K C = true)
    (ha : PySem.W.findIn K (.ref C) name = some none) (hv : mA name = some v) (hv' : PySem.W.handedIn v = true) (h : Q v { s with toks := s.toks + 1 }) :
    wpAny (model prog w) A (getAttr (.ref x) name expr) Q E s := by
  obtain ⟨od, J, hl⟩ := I.look
  exact PySem.W.get_value X J (PySem.W.plainGet_of hg).1 (PySem.W.findObj_own hh ha rfl (by rw [hl, hv])) hv' h
theorem get_meth {pl : Sem Bool} {Q : Value × List Value → Shared → Prop} (X : K.In s.heap) (I : ObjM s.heap x dx C mA) (hg : PySem.W.plainGet K C name = true)
    (hf : PySem.W.findIn K (.ref C) name = some (some (.ref f))) (ht : PySem.W.isFn K (.ref f) = true) (hv : mA name = none) (h : Q (.ref f, [.ref x]) s) :
    wpAny (model prog w) A (getMethod (.ref x) name pl) Q E s := by
  obtain ⟨od, J, hl⟩ := I.look
  exact PySem.W.method_fn X J (PySem.W.plainGet_of hg).1 (PySem.W.plainGet_of hg).2 hf (beq_iff_eq.mp ht) (by show (PySem.W.lookIn name od).map (·.isSome) = some false; rw [hl, hv]; rfl) h
theorem set_map {ns : List Str} {Q : Unit → Shared → Prop} (X : K.In s.heap) (I : ObjM s.heap x dx C mA)
    (hs : PySem.W.findIn K (.ref C) "__setattr__" = some (some (.builtin "object.__setattr__"))) (hp : PySem.W.plainOver K C = true) (ht : PySem.W.takerIn K C name = some none) (hh : PySem.W.hasDictIn K C = true)
    (hw : PySem.Within mA ns) (hsz : ns.length ≤ sizeLine)
    (h : ∀ h', ObjM h' x dx C (fun y => if y = name then some v else mA y) → Heap.SameBut dx s.heap h' → Q () { s with heap := h', toks := s.toks + 2 }) :
    wpAny (model prog w) A (setAttr (.ref x) name v) Q E s := by
  obtain ⟨od, J, hl⟩ := I.look
  refine PySem.W.set_plain X J hs (PySem.W.osa_open (s := { s with toks := s.toks + 1 }) (r := none) X J hp ht fun b => ?_)
  obtain ⟨cd, hc, hd'⟩ := PySem.W.any_some hh
  have hx : s.heap.get? x = some ⟨.ref C, some dx, .plain, #[]⟩ := I.obj
  refine wpAny_bind (wpAny_pure (wpAny_bind (wpAny_bind (wpAny_loadPart hx (wpAny_bind (PySem.W.Looks.here (s := { s with toks := s.toks + 1 }) (PySem.W.looks_clsIn X hc) ?_))))))
  rw [hd']
  refine wpAny_pure (a := some dx) (wpAny_bind (wpAny_pure (wpAny_bind ?_)))
  refine wpAny_nsSet1 (s := { s with toks := s.toks + 1 }) I.ns fun h' hn2 hs2 => ?_
  obtain ⟨oD, esD, epD, hoD, hdD, hcD⟩ := hn2.count (PySem.Within.cons name v hw)
  refine wpAny_bind (wpAny_lookBehind hoD (by rw [hdD]; exact pastItsLine_dict (Nat.le_trans hcD (by rw [List.length_cons]; omega))) ?_)
  exact wpAny_pure (h _ ⟨(hs2.2 _ (Ne.symm I.ne)).trans I.obj, hn2, I.ne⟩ hs2)
theorem make_map {R : Result → Shared → Prop} {vs : List Value} {kw : List (Str × Value)} (X : K.In s.heap) (hm : PySem.W.makesIn K C = true)
    (hi : PySem.W.findIn K (.ref C) "__init__" = some (some (.ref f))) (hf : PySem.W.typeIn K (.ref f) = some (.type "function"))
    (h : codeAny (model prog w) (A.under (.builtin "type.__call__" ⟨.ref C :: vs, kw⟩)) (.call (.ref f) ⟨.ref (s.heap.objs.size + 1) :: vs, kw⟩) (PySem.W.InitBack (s.heap.objs.size + 1) R)
      { s with heap := (s.heap.push PySem.W.emptyDict).push (PySem.W.instObj C s.heap.objs.size) }) :
    codeAny (model prog w) A (.call (.ref C) ⟨vs, kw⟩) R s := by
  obtain ⟨hh, g, d, t, os⟩ := s
  exact PySem.W.make_core (PySem.W.makes_of X hm) (PySem.W.looks_findIn X hi) (fun self => PySem.W.bind_fn X self hf) (.inl rfl) h
end
def putF (f : Str) (v : V) : List (Str × V) → List (Str × V)
  | [] => [(f, v)]
  | (g, x) :: r => if g = f then (g, v) :: r else (g, x) :: putF f v r
theorem lookup_putF (f g : Str) (v : V) : ∀ fs : List (Str × V), (putF f v fs).lookup g = if g = f then some v else fs.lookup g
  | [] => by
    show List.lookup g [(f, v)] = _
    by_cases h : g = f
    · have hb : (g == f) = true := beq_iff_eq.mpr h
      simp only [List.lookup, hb, if_pos h]
    · have hb : (g == f) = false := beq_eq_false_iff_ne.mpr h
      simp only [List.lookup, hb, if_neg h]
  | (k, x) :: r => by
    have ih := lookup_putF f g v r
    rw [show putF f v ((k, x) :: r) = (if k = f then (k, v) :: r else (k, x) :: putF f v r) from rfl]
    by_cases hk : k = f
    · rw [if_pos hk]
      by_cases h : g = k
      · have hb : (g == k) = true := beq_iff_eq.mpr h
        simp only [List.lookup, hb, if_pos (h.trans hk)]
      · have hb : (g == k) = false := beq_eq_false_iff_ne.mpr h
        simp only [List.lookup, hb, if_neg (fun e : g = f => h (e.trans hk.symm))]
    · rw [if_neg hk]
      by_cases h : g = k
      · have hb : (g == k) = true := beq_iff_eq.mpr h
        simp only [List.lookup, hb, if_neg (fun e : g = f => hk (h.symm.trans e))]
      · have hb : (g == k) = false := beq_eq_false_iff_ne.mpr h
        simp only [List.lookup, hb]
        exact ih
theorem keys_putF (f : Str) (v : V) : ∀ fs : List (Str × V), f ∈ (putF f v fs).map (·.1) ∧ ∀ g, g ∈ fs.map (·.1) → g ∈ (putF f v fs).map (·.1)
  | [] => ⟨by simp [putF], fun g h => by simp at h⟩
  | (k, x) :: r => by
    obtain ⟨i1, i2⟩ := keys_putF f v r
    rw [show putF f v ((k, x) :: r) = (if k = f then (k, v) :: r else (k, x) :: putF f v r) from rfl]
    by_cases hk : k = f
    · rw [if_pos hk]
      subst hk
      exact ⟨by simp, fun g h => by simpa using h⟩
    · rw [if_neg hk]
      refine ⟨?_, fun g h => ?_⟩
      · rw [List.map_cons]
        exact List.mem_cons_of_mem _ i1
      · rw [List.map_cons] at h ⊢
        rcases List.mem_cons.mp h with e | e
        · exact List.mem_cons.mpr (.inl e)
        · exact List.mem_cons_of_mem _ (i2 g e)
theorem length_putF (f : Str) (v : V) : ∀ fs : List (Str × V), (putF f v fs).length ≤ fs.length + 1
  | [] => by simp [putF]
  | (k, x) :: r => by
    have ih := length_putF f v r
    rw [show putF f v ((k, x) :: r) = (if k = f then (k, v) :: r else (k, x) :: putF f v r) from rfl]
    by_cases hk : k = f
    · rw [if_pos hk, List.length_cons, List.length_cons]; omega
    · rw [if_neg hk, List.length_cons, List.length_cons]; omega
theorem RelO.some_of {v : V} {o : Option Value} (r : RelO (some v) o) : ∃ u, o = some u ∧ RelV v u := by
  cases o with
  | none => exact (show False from r).elim
  | some u => exact ⟨u, rfl, r⟩
theorem RelO.none_of {o : Option Value} (r : RelO none o) : o = none := by
  cases o with
  | none => rfl
  | some u => exact (show False from r).elim
theorem handed_of {v : V} {u : Value} (r : RelV v u) : PySem.W.handedIn u = true := by
  cases v with
  | non => cases (show u = Value.none from r); rfl
  | bl b => cases (show u = Value.bool b from r); rfl
  | int i => obtain ⟨t, e⟩ := (show ∃ t, u = Value.int i t from r); cases e; rfl
  | str x => obtain ⟨t, e⟩ := (show ∃ t, u = Value.str x t from r); cases e; rfl
  | byt b => obtain ⟨t, e⟩ := (show ∃ t, u = Value.bytes b t from r); cases e; rfl
  | flt b => obtain ⟨t, e⟩ := (show ∃ t, u = Value.float b t from r); cases e; rfl
  | ref a => cases (show u = Value.ref a from r); rfl
  | ty n => cases (show u = Value.type n from r); rfl
section
variable {P : Program} {w : World} {H H' : Hp} {h h' : Heap} {a C dx : Addr} {fs fs' : List (Str × V)}
theorem ins_get (hok : HOk P w H h) (e : H a = some (.ins C dx fs)) : ∃ mA, ObjM h a dx C mA ∧ (∀ f, RelO (fs.lookup f) (mA f)) ∧ PySem.Within mA (fs.map (·.1)) ∧ fs.length ≤ 1000 ∧ H dx = some (.own a) := by
  obtain ⟨d, z, ne, ob, mA, n, r, q⟩ := (show ObjOk P w H h a (.ins C dx fs) from hok a _ e)
  exact ⟨mA, ⟨ob, n, ne⟩, r, q, z, d⟩
end
structure Cls (K : PySem.W.Frag) (C : Addr) : Prop where
  pg : PySem.W.plainGet K C Str.empty = true
  hd : PySem.W.hasDictIn K C = true
  po : PySem.W.plainOver K C = true
  sa : PySem.W.findIn K (.ref C) "__setattr__" = some (some (.builtin "object.__setattr__"))
theorem Cls.get {K : PySem.W.Frag} {C : Addr} (c : Cls K C) (f : Str) : PySem.W.plainGet K C f = true := c.pg
def NoAttr (K : PySem.W.Frag) (C : Addr) (f : Str) : Prop := PySem.W.findIn K (.ref C) f = some none
theorem NoAttr.taker {K : PySem.W.Frag} {C : Addr} {f : Str} (n : NoAttr K C f) : PySem.W.takerIn K C f = some none := by
  unfold PySem.W.takerIn
  rw [show PySem.W.findIn K (.ref C) f = some none from n]
  rfl
structure Con (K : PySem.W.Frag) (C : Addr) (f : Str) (v : V) (u : Value) : Prop where
  at_ : PySem.W.findIn K (.ref C) f = some (some u)
  rel : RelV v u
  get : PySem.W.specialIn K u "__get__" = some none
  cp : PySem.W.copiedNames.contains f = false
structure Meth (K : PySem.W.Frag) (C : Addr) (m : Str) (f : Addr) : Prop where
  at_ : PySem.W.findIn K (.ref C) m = some (some (.ref f))
  fn : PySem.W.isFn K (.ref f) = true
  kp : PySem.W.keepIn K (.ref f) = true
section
variable {X : Cx} {pins : List (Addr × Obj)} {σ : St} {H : Hp} {s : Shared} {a C dx : Addr} {fs : List (Str × V)} {f : Str} {v : V} {A : Around} {E : Value → Shared → Prop}
theorem getattr_ok {b : Bool} {Q : Value → Shared → Prop} (I : Inv X pins σ H s) (e : H a = some (.ins C dx fs)) (c : Cls X.K C) (n : NoAttr X.K C f) (l : fs.lookup f = some v)
    (h : ∀ u s', Inv X pins σ H s' → RelV v u → Q u s') : wpAny (model X.prog X.w) A (getAttr (.ref a) f b) Q E s := by
  obtain ⟨mA, O, r, _, _, _⟩ := ins_get I.hok e
  obtain ⟨u, hu, ru⟩ := RelO.some_of (v := v) (o := mA f) (by rw [← l]; exact r f)
  exact get_map I.kIn O (c.get f) c.hd n hu (handed_of ru) (h u _ (I.tok _) ru)
theorem getmeth_ok {m : Str} {g : Addr} {pl : Sem Bool} {Q : Value × List Value → Shared → Prop} (I : Inv X pins σ H s) (e : H a = some (.ins C dx fs)) (c : Cls X.K C) (k : Meth X.K C m g) (l : fs.lookup m = none)
    (h : Q (.ref g, [.ref a]) s) : wpAny (model X.prog X.w) A (getMethod (.ref a) m pl) Q E s := by
  obtain ⟨mA, O, r, _, _, _⟩ := ins_get I.hok e
  have hn : mA m = none := RelO.none_of (by rw [← l]; exact r m)
  exact get_meth I.kIn O (c.get m) k.at_ k.fn hn h
theorem setattr_ok {y : V} {u : Value} {Q : Unit → Shared → Prop} (I : Inv X pins σ H s) (e : H a = some (.ins C dx fs)) (c : Cls X.K C) (n : NoAttr X.K C f) (hl : fs.length < 1000) (ry : RelV y u)
    (h : ∀ s', Inv X pins σ (upd H a (.ins C dx (putF f y fs))) s' → Q () s') : wpAny (model X.prog X.w) A (setAttr (.ref a) f u) Q E s := by
  obtain ⟨mA, O, r, wi, _, ho⟩ := ins_get I.hok e
  have hz : (fs.map (·.1)).length ≤ sizeLine := by rw [List.length_map, sizeLine_eq]; omega
  refine set_map I.kIn O c.sa c.po n.taker c.hd wi hz fun h' O' sb => h _ ?_
  have hd : ∃ o, h'.get? dx = some o := let ⟨o, _, _, e', _⟩ := O'.ns; ⟨o, e'⟩
  refine I.write (x := a) (e := dx) (by rw [e]; exact True.intro) (.inr ho) (fun b q hb z => (sb.2 b hb).trans z) hd ?_
  refine ⟨by rw [upd_ne O.ne]; exact ho, ?_, O.ne, O'.obj, _, O'.ns, fun g => ?_, fun g hg => ?_⟩
  · have := length_putF f y fs; omega
  · show RelO ((putF f y fs).lookup g) (if g = f then some u else mA g)
    rw [lookup_putF]
    by_cases q : g = f
    · rw [if_pos q, if_pos q]; exact ry
    · rw [if_neg q, if_neg q]; exact r g
  · by_cases q : g = f
    · rw [q]; exact (keys_putF f y fs).1
    · refine (keys_putF f y fs).2 g (wi g fun z => hg ?_)
      show (if g = f then some u else mA g) = none
      rw [if_neg q]; exact z
theorem Inv.made (I : Inv X pins σ H s) : Inv X pins σ (upd (upd H s.heap.objs.size (.own (s.heap.objs.size + 1))) (s.heap.objs.size + 1) (.ins C s.heap.objs.size []))
    { s with heap := (s.heap.push PySem.W.emptyDict).push (PySem.W.instObj C s.heap.objs.size) } := by
  have e1 : (s.heap.push PySem.W.emptyDict).get? s.heap.objs.size = some PySem.W.emptyDict := Heap.get?_push_size s.heap rfl
  have e2 : ((s.heap.push PySem.W.emptyDict).push (PySem.W.instObj C s.heap.objs.size)).get? (s.heap.objs.size + 1) = some (PySem.W.instObj C s.heap.objs.size) := by
    have := Heap.get?_push_size (s.heap.push PySem.W.emptyDict) (o := PySem.W.instObj C s.heap.objs.size) rfl
    rwa [Heap.size_push] at this
  have e3 : (s.heap.push PySem.W.emptyDict).Ns s.heap.objs.size (fun _ => none) := ⟨PySem.W.emptyDict, #[], _, e1, rfl, (fun e he => absurd he (by simp)), fun _ => rfl⟩
  have I1 := I.laid (a := s.heap.objs.size) (o := .own (s.heap.objs.size + 1)) (h' := s.heap.push PySem.W.emptyDict) (t' := s.toks) (fun b u q => Heap.get?_push_of_some _ q) (Nat.le_refl _) ⟨_, e1⟩
  refine I1.laid (a := s.heap.objs.size + 1) (o := .ins C s.heap.objs.size []) (t' := s.toks) (fun b u q => Heap.get?_push_of_some _ q) (Nat.le_of_eq (Heap.size_push _ _)) ?_
  have ne : s.heap.objs.size ≠ s.heap.objs.size + 1 := Nat.ne_of_lt (Nat.lt_succ_self _)
  refine ⟨by rw [upd_ne ne, upd_same], Nat.zero_le _, ne, e2, fun _ => none, (Heap.Ns1.of_empty e3).at fun o q => Heap.get?_push_of_some _ q, fun _ => True.intro, fun y hy => absurd rfl hy⟩
theorem attr_of {prog : Program} {w : World} {env : Env} {e : Expr} {f : Str} {pos : Pos} {s : Shared} {Q : Value → Shared → Prop} (hb : attributeBase e f env (eval e env) = eval e env)
    (h : wpAny (model prog w) A (eval e env) (fun o s₁ => wpAny (model prog w) A (getAttr o f true) Q E s₁) E s) : wpAny (model prog w) A (eval (.Attribute e f pos) env) Q E s :=
  Attribute_any_ h (by rw [arm_eval_Attribute, hb])
end
def tFld (K : PySem.W.Frag) (ta : TE) (f : Str) : TE := fun σ H Q => ta σ H fun x H1 => ∃ a C dx fs v, x = .ref a ∧ H1 a = some (.ins C dx fs) ∧ Cls K C ∧ NoAttr K C f ∧ fs.lookup f = some v ∧ Q v H1
def tCon (K : PySem.W.Frag) (ta : TE) (f : Str) : TE := fun σ H Q => ta σ H fun x H1 => ∃ a C dx fs v u, x = .ref a ∧ H1 a = some (.ins C dx fs) ∧ Cls K C ∧ Con K C f v u ∧ fs.lookup f = none ∧ Q v H1
def sFld (K : PySem.W.Frag) (ta tv : TE) (f : Str) : TS := fun D σ H => tv σ H fun y H1 => ta σ H1 fun x H2 => ∃ a C dx fs, x = .ref a ∧ H2 a = some (.ins C dx fs) ∧ Cls K C ∧ NoAttr K C f ∧ fs.length < 1000 ∧
  D.nx σ (upd H2 a (.ins C dx (putF f y fs)))
def InOp (X : Cx) (op : Operator) (rd : V → V → Hp → VK → Prop) : Prop :=
  ∀ (pins : List (Addr × Obj)) (s : Shared) (σ : St) (H : Hp) (x y : V) (u v : Value) (Q : VK), Inv X pins σ H s → RelV x u → RelV y v → rd x y H Q → wpAny (model X.prog X.w) X.A (inplaceOp op u v) (EP X pins σ Q) X.xe s
def sFldAug (K : PySem.W.Frag) (ta tv : TE) (rd : V → V → Hp → VK → Prop) (f : Str) : TS := fun D σ H => ta σ H fun x H1 => ∃ a C dx fs v, x = .ref a ∧ H1 a = some (.ins C dx fs) ∧ Cls K C ∧ NoAttr K C f ∧ fs.lookup f = some v ∧
  tv σ H1 fun y H2 => rd v y H2 fun z H3 => ∃ dx' fs', H3 a = some (.ins C dx' fs') ∧ fs'.length < 1000 ∧ D.nx σ (upd H3 a (.ins C dx' (putF f z fs')))
section
variable {X : Cx} {o e value : Expr} {f : Str} {pos pos' tpos : Pos} {ta tv : TE}
theorem pe_fld (he : PE X e ta) (hb : attributeBase e f X.env (eval e X.env) = eval e X.env) : PE X (.Attribute e f pos) (tFld X.K ta f) := by
  intro pins s σ H Q I h
  refine attr_of hb (thn (he pins s σ H _ I h) fun u s1 ⟨x, H1, I1, rx, a, C, dx, fs, v, ex, ea, c, n, l, q⟩ => ?_)
  subst ex
  obtain rfl : u = Value.ref a := rx
  exact getattr_ok I1 ea c n l fun u' s2 I2 ru => ⟨v, H1, I2, ru, q⟩
theorem ps_fld (ha : PE X o ta) (hv : PE X value tv) (hs : swapsWith value (some (.Attribute o f pos')) pos.line X.env = pure false) : PS X (.Assign [.Attribute o f pos'] value pos) (sFld X.K ta tv f) := by
  intro pins s σ H D I h
  refine plainObj_wpAny_Assign_Attribute (thn (hv pins s σ H _ I h) fun u s1 ⟨y, H1, I1, ry, q⟩ => thn (ha pins s1 σ H1 _ I1 q) fun ov s2 ⟨x, H2, I2, rx, a, C, dx, fs, ex, ea, c, n, l, q2⟩ => ?_) hs
  subst ex
  obtain rfl : ov = Value.ref a := rx
  exact setattr_ok I2 ea c n l ry fun s3 I3 => ⟨σ, _, I3, q2⟩
def rAdd : V → V → Hp → VK → Prop := fun x y H Q => ∃ i j, x = .int i ∧ y = .int j ∧ Q (.int (i + j)) H
def rSub : V → V → Hp → VK → Prop := fun x y H Q => ∃ i j, x = .int i ∧ y = .int j ∧ Q (.int (i - j)) H
end
section
variable {X : Cx} {pins : List (Addr × Obj)} {σ : St} {H : Hp} {s : Shared} {A : Around} {E : Value → Shared → Prop} {Q : Value → Shared → Prop} {c : Value} {b : Bool}
inductive TyOf (K : PySem.W.Frag) (H : Hp) : V → Value → Prop where
  | non : TyOf K H .non (.type "NoneType")
  | bl (x : Bool) : TyOf K H (.bl x) (.type "bool")
  | int (i : Int) : TyOf K H (.int i) (.type "int")
  | str (x : Str) : TyOf K H (.str x) (.type "str")
  | flt (x : UInt64) : TyOf K H (.flt x) (.type "float")
  | lst {a : Addr} {xs : List V} (e : H a = some (.lst xs)) : TyOf K H (.ref a) (.type "list")
  | frz {a : Addr} {o : Obj} {xs : List V} (e : H a = some (.frz o (.lst xs))) : TyOf K H (.ref a) (.type "list")
  | tup {a : Addr} {xs : List V} (e : H a = some (.tup xs)) : TyOf K H (.ref a) (.type "tuple")
  | dK {a : Addr} {kvs : List (Key × V)} (e : H a = some (.dK kvs)) : TyOf K H (.ref a) (.type "dict")
  | dT {a : Addr} {kvs : List (List Key × V)} (e : H a = some (.dT kvs)) : TyOf K H (.ref a) (.type "dict")
  | ins {a C dx : Addr} {fs : List (Str × V)} (e : H a = some (.ins C dx fs)) (cl : Cls K C) (ha : PySem.W.findIn K (.ref C) "__class__" = some (some (.builtin "object.__class__")))
      (hn : PySem.W.specialIn K (.builtin "object.__class__") "__get__" = some (some (.builtin "getset_descriptor.__get__"))) (htk : PySem.W.takesIn K (.builtin "object.__class__") = some true)
      (hm : PySem.W.mroIn K C (.type "object") = some true) : TyOf K H (.ref a) (.ref C)
theorem isinst_ok {x : V} {u t : Value} (I : Inv X pins σ H s) (rx : RelV x u) (ty : TyOf X.K H x t) (e : PySem.W.kitOne X.K t c = some b) (h : ∀ tk, Q (.bool b) { s with toks := tk }) :
    wpAny (model X.prog X.w) A (call (.builtin "isinstance") [u, c]) Q E s := by
  cases ty with
  | non => cases (show u = Value.none from rx); exact PySem.W.kia_one PySem.W.kitx_none I.kIn True.intro e (fun z => nomatch z) h
  | bl y => cases (show u = Value.bool y from rx); exact PySem.W.kia_one PySem.W.kitx_bool I.kIn True.intro e (fun z => nomatch z) h
  | int i => obtain ⟨t, q⟩ := (show ∃ t, u = Value.int i t from rx); cases q; exact PySem.W.kia_one PySem.W.kitx_int I.kIn True.intro e (fun z => nomatch z) h
  | str y => obtain ⟨t, q⟩ := (show ∃ t, u = Value.str y t from rx); cases q; exact PySem.W.kia_one PySem.W.kitx_str I.kIn True.intro e (fun z => nomatch z) h
  | flt y => obtain ⟨t, q⟩ := (show ∃ t, u = Value.float y t from rx); cases q; exact PySem.W.kia_one PySem.W.kitx_float I.kIn True.intro e (fun z => nomatch z) h
  | @lst a xs ea =>
    cases (show u = Value.ref a from rx)
    obtain ⟨_, _, n, _, h1⟩ := (show ObjOk X.prog X.w H s.heap a (.lst xs) from I.hok a _ ea)
    exact PySem.W.kia_one PySem.W.kitx_list I.kIn ⟨_, h1, rfl⟩ e (fun z => nomatch z) h
  | @frz a ob xs ea =>
    cases (show u = Value.ref a from rx)
    obtain ⟨_, _, _, n, _, h1⟩ := (show ObjOk X.prog X.w H s.heap a (.frz ob (.lst xs)) from I.hok a _ ea)
    exact PySem.W.kia_one PySem.W.kitx_list I.kIn ⟨_, h1, rfl⟩ e (fun z => nomatch z) h
  | @tup a xs ea =>
    cases (show u = Value.ref a from rx)
    obtain ⟨_, _, _, p⟩ := (show ObjOk X.prog X.w H s.heap a (.tup xs) from I.hok a _ ea)
    obtain ⟨o, h1, h2, _⟩ := p
    exact PySem.W.kia_one PySem.W.kitx_tuple I.kIn ⟨o, h1, h2⟩ e (fun z => nomatch z) h
  | @dK a kvs ea =>
    cases (show u = Value.ref a from rx)
    obtain ⟨_, _, vs, _, p⟩ := (show ObjOk X.prog X.w H s.heap a (.dK kvs) from I.hok a _ ea)
    obtain ⟨o, es, ep, h1, h2, _⟩ := p
    exact PySem.W.kia_one PySem.W.kitx_dict I.kIn ⟨o, h1, h2.1⟩ e (fun z => nomatch z) h
  | @dT a kvs ea =>
    cases (show u = Value.ref a from rx)
    obtain ⟨_, _, xs, _, o, es, ep, h1, h2, _⟩ := (show ObjOk X.prog X.w H s.heap a (.dT kvs) from I.hok a _ ea)
    exact PySem.W.kia_one PySem.W.kitx_dict I.kIn ⟨o, h1, h2.1⟩ e (fun z => nomatch z) h
  | @ins a C dx fs ea cl ha hn htk hm =>
    cases (show u = Value.ref a from rx)
    obtain ⟨mA, O, _⟩ := ins_get I.hok ea
    obtain ⟨od, J, _⟩ := O.look
    exact PySem.W.kia_one (PySem.W.kitx_own (cl.get _) cl.hd ha hn htk hm) I.kIn J e (fun z => nomatch z) h
end
end L2
namespace L2
open PySem PySem.Spec PyProof.Rows
structure Room (k : Nat) (A : Around) : Prop where
  hd : A.handled = none
  dp : A.depth + 3 * k + 5 < recursionLimit
  un : A.units + 16 * k + 200 < cLine
theorem Room.mono {j k : Nat} {A : Around} (r : Room k A) (h : j ≤ k) : Room j A := ⟨r.hd, by have := r.dp; omega, by have := r.un; omega⟩
theorem Room.deeper {k : Nat} {A : Around} (r : Room (k + 1) A) (env : Env) : Room k (A.deeper env) :=
  ⟨r.hd, by have := r.dp; show A.depth + 1 + 3 * k + 5 < _; omega, by have := r.un; show A.units + 3 + 16 * k + 200 < _; omega⟩
theorem Room.in1 {k : Nat} {A : Around} (r : Room (k + 1) A) : Room k A.in1 :=
  ⟨r.hd, by have := r.dp; show A.depth + 3 * k + 5 < _; omega, by have := r.un; show A.units + 1 + 16 * k + 200 < _; omega⟩
theorem make_depth {A : Around} {C : Addr} {us : List Value} {kw : List (Str × Value)} : (A.under (.builtin "type.__call__" ⟨.ref C :: us, kw⟩)).depth = A.depth + 1 := by
  first | rfl | simp [Around.under, Code.weight, Code.isCreation, Code.isGuard, Code.isCaller, Code.frames, Code.isFrame, guardIds]
theorem make_units {A : Around} {C : Addr} {us : List Value} {kw : List (Str × Value)} : (A.under (.builtin "type.__call__" ⟨.ref C :: us, kw⟩)).units = A.units + 1 := by
  first | rfl | simp [Around.under, Code.cUnits, Code.frames, Code.isFrame]
theorem Room.make {k : Nat} {A : Around} (r : Room (k + 1) A) (C : Addr) (us : List Value) (kw : List (Str × Value)) : Room k (A.under (.builtin "type.__call__" ⟨.ref C :: us, kw⟩)) :=
  ⟨r.hd, by have := r.dp; rw [make_depth]; omega, by have := r.un; rw [make_units]; omega⟩
theorem Room.depth {k : Nat} {A : Around} (r : Room k A) : A.depth < recursionLimit := by have := r.dp; omega
theorem Room.units {k : Nat} {A : Around} (r : Room k A) : A.units + 64 < cLine := by have := r.un; omega
def tNil : TA := fun _ H Q => Q [] H
def tCons (ta : TE) (tr : TA) : TA := fun σ H Q => ta σ H fun x H1 => tr σ H1 fun xs H2 => Q (x :: xs) H2
section
variable {X : Cx} {e : Expr} {es : List Expr} {te : TE} {t : TA} {pos : Pos}
theorem pa_nil : PA X [] tNil := fun _ _ _ _ H Q I h => Calls.spliced_nil ⟨[], H, I, .nil, h⟩
theorem pa_cons (ha : PE X e te) (hr : PA X es t) (hs : starEach (e :: es) X.env = (false, eval e X.env) :: starEach es X.env := by rfl) : PA X (e :: es) (tCons te t) := by
  intro pos pins s σ H Q I h
  rw [hs]
  show wpAny _ _ (spliced ((false, eval e X.env) :: backTo pos (starEach es X.env))) _ _ s
  refine Calls.spliced_cons (thn (ha pins s σ H _ I h) fun u s1 ⟨x, H1, I1, r1, q1⟩ => ?_)
  exact thn (hr pos pins s1 σ H1 _ I1 q1) fun us s2 ⟨xs, H2, I2, r2, q2⟩ => ⟨x :: xs, H2, I2, .cons r1 r2, q2⟩
def tTup (t : TA) : TE := fun σ H Q => t σ H fun xs H1 => xs.length ≤ sizeLine ∧ ∀ p, H1 p = none → Q (.ref p) (upd H1 p (.tup xs))
def tLst (t : TA) : TE := fun σ H Q => t σ H fun xs H1 => xs.length ≤ sizeLine ∧ ∀ p, H1 p = none → Q (.ref p) (upd H1 p (.lst xs))
theorem pe_tup {x1} (h : PA X es t) : PE X (.Tuple es x1 pos) (tTup t) := by
  intro pins s σ H Q I hq
  refine wpAny_Tuple_spliced (thn (h pos pins s σ H _ I hq) fun us s1 ⟨xs, H1, I1, r, z, q⟩ => ⟨by rw [← r.length]; exact z, ?_⟩)
  have hf : H1 s1.heap.objs.size = none := I1.hok.fresh (Nat.le_refl _)
  refine ⟨.ref s1.heap.objs.size, upd H1 s1.heap.objs.size (.tup xs), I1.laid (t' := s1.toks) (fun b u e => Heap.get?_push_of_some _ e) (Nat.le_refl _) ?_, rfl, q _ hf⟩
  exact ⟨z, us, r, ⟨_, Heap.get?_push_size _ rfl, rfl, _, rfl⟩⟩
theorem pe_lst (h : PA X es t) : PE X (.List es pos) (tLst t) := by
  intro pins s σ H Q I hq
  refine wpAny_List_spliced (thn (h pos pins s σ H _ I hq) fun us s1 ⟨xs, H1, I1, r, z, q⟩ => ⟨by rw [← r.length]; exact z, ?_⟩)
  have hf : H1 s1.heap.objs.size = none := I1.hok.fresh (Nat.le_refl _)
  refine ⟨.ref s1.heap.objs.size, upd H1 s1.heap.objs.size (.lst xs), I1.laid (t' := s1.toks) (fun b u e => Heap.get?_push_of_some _ e) (Nat.le_refl _) ?_, rfl, q _ hf⟩
  exact ⟨z, us, 0, r, Heap.get?_push_size _ rfl⟩
end
abbrev Sp := List V → Hp → VK → XK → Prop
abbrev CXT := List Env → Hp → Shared → XK → Value → Shared → Prop
structure Env0 (P : Program) (w : World) (K : PySem.W.Frag) (mg : Str → Option Value) (base : Heap) (A : Around) (outer : List Env) (s : Shared) (H : Hp) : Prop where
  frames : A.frames = some outer
  mod : Mod K mg base
  bs : ∀ b o, base.get? b = some o → s.heap.get? b = some o ∧ H b = none
  bsz : base.objs.size ≤ s.heap.objs.size
  funs : s.heap.FunFrames base outer
  frf : ∀ b ∈ frs outer, H b = none
  hok : HOk P w H s.heap
  bare : AllBare s.gens
def CE (outer : List Env) (P : Program) (w : World) (H : Hp) (s : Shared) (Q : VK) (u : Value) (s' : Shared) : Prop :=
  ∃ v H', s'.os = s.os ∧ AllBare s'.gens ∧ Un (frs outer) [] H H' s.heap s'.heap ∧ HOk P w H' s'.heap ∧ RelV v u ∧ Q v H'
def CR (CX : CXT) (outer : List Env) (P : Program) (w : World) (H : Hp) (s : Shared) (Q : VK) (E : XK) (r : Result) (s' : Shared) : Prop :=
  match r with
  | .ok (.ret u) => CE outer P w H s Q u s'
  | .ok _ => False
  | .error e => CX outer H s E e s'
structure FnOk (P : Program) (w : World) (K : PySem.W.Frag) (mg : Str → Option Value) (base : Heap) (CX : CXT) (k : Nat) (f : Addr) (fd : FuncData) (ps : List Str) (sp : Sp) : Prop where
  len : ∀ vs H Q E, sp vs H Q E → vs.length = ps.length
  run : ∀ (A : Around) (outer : List Env) (s : Shared) (H : Hp) (args : Args) (us : List Value) (vs : List V) (Q : VK) (E : XK), Room k A → Env0 P w K mg base A outer s H → BindsTo s fd args (ps.zip us) → Vals vs us → sp vs H Q E →
    codeAny (model P w) A (.call (.ref f) args) (CR CX outer P w H s Q E) s
theorem FnOk.mono {P : Program} {w : World} {K : PySem.W.Frag} {mg : Str → Option Value} {base : Heap} {CX : CXT} {j k : Nat} {f : Addr} {fd : FuncData} {ps : List Str} {sp : Sp} (F : FnOk P w K mg base CX j f fd ps sp) (h : j ≤ k) :
    FnOk P w K mg base CX k f fd ps sp := ⟨F.len, fun A outer s H args us vs Q E hr => F.run A outer s H args us vs Q E (hr.mono h)⟩
theorem FnOk.imp {P : Program} {w : World} {K : PySem.W.Frag} {mg : Str → Option Value} {base : Heap} {CX : CXT} {k : Nat} {f : Addr} {fd : FuncData} {ps : List Str} {sp sp' : Sp} (F : FnOk P w K mg base CX k f fd ps sp)
    (h : ∀ vs H Q E, sp' vs H Q E → sp vs H Q E) : FnOk P w K mg base CX k f fd ps sp' :=
  ⟨fun vs H Q E q => F.len vs H Q E (h _ _ _ _ q), fun A outer s H args us vs Q E hr he hb hv hs => F.run A outer s H args us vs Q E hr he hb hv (h _ _ _ _ hs)⟩
theorem Env0.make {P : Program} {w : World} {K : PySem.W.Frag} {mg : Str → Option Value} {base : Heap} {A : Around} {outer : List Env} {s : Shared} {H : Hp} (e : Env0 P w K mg base A outer s H) (C : Addr) (us : List Value) (kw : List (Str × Value)) :
    Env0 P w K mg base (A.under (.builtin "type.__call__" ⟨.ref C :: us, kw⟩)) outer s H := ⟨by first | exact e.frames | (simpa [Around.under, Code.envs, Code.isFrame, pushEnvs] using e.frames), e.mod, e.bs, e.bsz, e.funs, e.frf, e.hok, e.bare⟩
theorem Env0.in1 {P : Program} {w : World} {K : PySem.W.Frag} {mg : Str → Option Value} {base : Heap} {A : Around} {outer : List Env} {s : Shared} {H : Hp} (e : Env0 P w K mg base A outer s H) :
    Env0 P w K mg base A.in1 outer s H := ⟨e.frames, e.mod, e.bs, e.bsz, e.funs, e.frf, e.hok, e.bare⟩
section
variable {X : Cx} {pins : List (Addr × Obj)} {σ : St} {H : Hp} {s s' : Shared}
theorem Inv.env0 (I : Inv X pins σ H s) : Env0 X.prog X.w X.K X.mg X.base X.A X.stack s H :=
  ⟨I.ok.frames, I.ok.mod, I.bs, Nat.le_trans I.ok.bsz I.sz, I.stack, I.stkFree, I.hok, I.bare⟩
theorem Inv.after {Q : VK} {u : Value} (I : Inv X pins σ H s) (h : CE X.stack X.prog X.w H s Q u s') : EP X pins σ Q u s' := by
  obtain ⟨v, H', os, bare, un, hok, r, q⟩ := h
  obtain ⟨hh, g, d, t, os'⟩ := s'
  obtain rfl : os' = s.os := os
  exact ⟨v, H', I.call (h' := hh) (g' := g) (d' := d) (t' := t) (ch := []) un hok bare (fun b z => absurd z (by simp)), r, q⟩
end
def tCall (sp : Sp) (dvs : List V) (E : XK) (t : TA) : TE := fun σ H Q => t σ H fun vs H1 => sp (vs ++ dvs) H1 Q E
def tMeth (C : Addr) (m : Str) (sp : Sp) (dvs : List V) (E : XK) (ta : TE) (t : TA) : TE := fun σ H Q => ta σ H fun x H1 => ∃ a dx fs, x = .ref a ∧ H1 a = some (.ins C dx fs) ∧ fs.lookup m = none ∧
  t σ H1 fun vs H2 => sp (x :: (vs ++ dvs)) H2 Q E
def tMake (C : Addr) (sp : Sp) (dvs : List V) (E : XK) (t : TA) : TE := fun σ H Q => t σ H fun vs H1 => ∀ x dx, H1 x = none → H1 dx = none → dx ≠ x →
  sp (.ref x :: (vs ++ dvs)) (upd (upd H1 dx (.own x)) x (.ins C dx [])) (fun v H2 => v = .non ∧ Q (.ref x) H2) E
def Binds (K : PySem.W.Frag) (fd : FuncData) (ps : List Str) (ds : List Value) : Prop :=
  ∀ (s : Shared) (us : List Value), K.In s.heap → (us ++ ds).length = ps.length → BindsTo s fd ⟨us, []⟩ (ps.zip (us ++ ds))
theorem Binds.all {K : PySem.W.Frag} {fd : FuncData} {ps : List Str} (h : ∀ us : List Value, us.length = ps.length → bindArgs fd ⟨us, []⟩ = pure (ps.zip us)) : Binds K fd ps [] := fun s us _ hl => by
  rw [List.append_nil] at hl ⊢
  exact .of_eq (h us hl)
def Passes (CX : CXT) (X : Cx) (E : XK) : Prop := ∀ (pins : List (Addr × Obj)) (σ : St) (H : Hp) (s : Shared) (e : Value) (s' : Shared), Inv X pins σ H s → CX X.stack H s E e s' → X.xe e s'
section
variable {X : Cx} {CX : CXT} {k : Nat} {f C : Addr} {fd : FuncData} {ps : List Str} {sp : Sp} {dvs : List V} {ds : List Value} {E : XK} {x m : Str} {p pos apos : Pos} {e o : Expr} {es : List Expr} {ta : TE} {t : TA}
theorem run_fn {pins : List (Addr × Obj)} {σ : St} {H : Hp} {s : Shared} {Q : VK} {us : List Value} {vs : List V} (F : FnOk X.prog X.w X.K X.mg X.base CX k f fd ps sp) (hr : Room k X.A) (hb : Binds X.K fd ps ds) (hd : Vals dvs ds) (hx : Passes CX X E)
    (I : Inv X pins σ H s) (r : Vals vs us) (h : sp (vs ++ dvs) H Q E) : wpAny (model X.prog X.w) X.A (call (.ref f) us) (EP X pins σ Q) X.xe s := by
  have r2 : Vals (vs ++ dvs) (us ++ ds) := r.append hd
  have hl : (us ++ ds).length = ps.length := by rw [← r2.length]; exact F.len _ _ _ _ h
  refine wpAny_call (codeAny_mono (F.run X.A X.stack s H ⟨us, []⟩ (us ++ ds) (vs ++ dvs) Q E hr I.env0 (hb s us I.kIn hl) r2 h) fun r s' hq => ?_)
  cases r with
  | error e => exact hx pins σ H s e s' I hq
  | ok fl =>
    cases fl with
    | ret u => exact I.after hq
    | next => exact False.elim hq
    | brk => exact False.elim hq
    | cont => exact False.elim hq
theorem pe_call (F : FnOk X.prog X.w X.K X.mg X.base CX k f fd ps sp) (hr : Room k X.A) (hg : Gl X x) (hm : X.mg x = some (.ref f)) (hk : PySem.W.keepIn X.K (.ref f) = true) (hb : Binds X.K fd ps ds) (hd : Vals dvs ds) (hx : Passes CX X E)
    (ha : PA X (e :: es) t) (hdb : (x == ("__debug__" : Str)) = false := by decide) (he : starEach (e :: es) X.env = (false, eval e X.env) :: starEach es X.env := by rfl) (hpl : (backTo pos (starEach es X.env)).any (·.1) = false := by rfl) :
    PE X (.Call (.Name x p) (e :: es) [] pos) (tCall sp dvs E t) := by
  intro pins s σ H Q I h
  refine wpAny_Call_Name_kw (ld_glob I hg hm ?_ hdb)
  refine PySem.W.callWith_K (h₀ := X.base) I.ok.mod.kin hk (thn (ha pos pins s σ H _ I h) fun us s1 ⟨vs, H1, I1, r, q⟩ => ⟨I1.kIn, ?_⟩) he hpl
  exact run_fn F hr hb hd hx I1 r q
structure Mk (K : PySem.W.Frag) (C f : Addr) : Prop where
  makes : PySem.W.makesIn K C = true
  init : PySem.W.findIn K (.ref C) "__init__" = some (some (.ref f))
  fn : PySem.W.isFn K (.ref f) = true
  kp : PySem.W.keepIn K (.ref C) = true
theorem run_make {pins : List (Addr × Obj)} {σ : St} {H : Hp} {s : Shared} {Q : VK} {us : List Value} {vs : List V} (M : Mk X.K C f) (F : FnOk X.prog X.w X.K X.mg X.base CX k f fd ps sp) (hr : Room (k + 1) X.A) (hb : Binds X.K fd ps ds) (hd : Vals dvs ds)
    (hx : Passes CX X E) (I : Inv X pins σ H s) (r : Vals vs us)
    (h : ∀ x dx, H x = none → H dx = none → dx ≠ x → sp (.ref x :: (vs ++ dvs)) (upd (upd H dx (.own x)) x (.ins C dx [])) (fun v H2 => v = .non ∧ Q (.ref x) H2) E) :
    wpAny (model X.prog X.w) X.A (call (.ref C) us) (EP X pins σ Q) X.xe s := by
  have hq := h (s.heap.objs.size + 1) s.heap.objs.size (I.hok.fresh (Nat.le_succ _)) (I.hok.fresh (Nat.le_refl _)) (Nat.ne_of_lt (Nat.lt_succ_self _))
  have I2 := Inv.made (C := C) I
  have r2 : Vals (V.ref (s.heap.objs.size + 1) :: (vs ++ dvs)) (Value.ref (s.heap.objs.size + 1) :: (us ++ ds)) := .cons rfl (r.append hd)
  have hl : (Value.ref (s.heap.objs.size + 1) :: us ++ ds).length = ps.length := by
    have e := r2.length
    rw [F.len _ _ _ _ hq] at e
    exact e.symm
  refine wpAny_call (make_map (f := f) I.kIn M.makes M.init (beq_iff_eq.mp M.fn) (codeAny_mono (F.run _ X.stack _ _ ⟨Value.ref (s.heap.objs.size + 1) :: us, []⟩ (Value.ref (s.heap.objs.size + 1) :: (us ++ ds)) _ _ E (hr.make C us [])
    (I2.env0.make C us []) (hb _ (Value.ref (s.heap.objs.size + 1) :: us) I2.kIn hl) r2 hq) fun r s' hq' => ?_))
  cases r with
  | error e => exact hx pins σ _ _ e s' I2 hq'
  | ok fl =>
    cases fl with
    | ret u =>
      obtain ⟨v, H', I3, rv, ev, q3⟩ := I2.after hq'
      subst ev
      exact ⟨rv, ⟨V.ref (s.heap.objs.size + 1), H', I3, rfl, q3⟩⟩
    | next => exact False.elim hq'
    | brk => exact False.elim hq'
    | cont => exact False.elim hq'
theorem pe_make (M : Mk X.K C f) (F : FnOk X.prog X.w X.K X.mg X.base CX k f fd ps sp) (hr : Room (k + 1) X.A) (hg : Gl X x) (hm : X.mg x = some (.ref C)) (hb : Binds X.K fd ps ds) (hd : Vals dvs ds) (hx : Passes CX X E)
    (ha : PA X (e :: es) t) (hdb : (x == ("__debug__" : Str)) = false := by decide) (he : starEach (e :: es) X.env = (false, eval e X.env) :: starEach es X.env := by rfl) (hpl : (backTo pos (starEach es X.env)).any (·.1) = false := by rfl) :
    PE X (.Call (.Name x p) (e :: es) [] pos) (tMake C sp dvs E t) := by
  intro pins s σ H Q I h
  refine wpAny_Call_Name_kw (ld_glob I hg hm ?_ hdb)
  refine PySem.W.callWith_K (h₀ := X.base) I.ok.mod.kin M.kp (thn (ha pos pins s σ H _ I h) fun us s1 ⟨vs, H1, I1, r, q⟩ => ⟨I1.kIn, ?_⟩) he hpl
  exact run_make M F hr hb hd hx I1 r q
theorem pe_make0 (M : Mk X.K C f) (F : FnOk X.prog X.w X.K X.mg X.base CX k f fd ps sp) (hr : Room (k + 1) X.A) (hg : Gl X x) (hm : X.mg x = some (.ref C)) (hb : Binds X.K fd ps ds) (hd : Vals dvs ds) (hx : Passes CX X E)
    (hdb : (x == ("__debug__" : Str)) = false := by decide) : PE X (.Call (.Name x p) [] [] pos) (tMake C sp dvs E tNil) := by
  intro pins s σ H Q I h
  refine wpAny_Call_Name_kw (ld_glob I hg hm ?_ hdb)
  exact PySem.W.callWith_K0 I.kIn M.kp (run_make (us := []) M F hr hb hd hx I .nil h)
end
def PK (X : Cx) (kws : List Keyword) (t : TA) : Prop :=
  ∀ (pos : Pos) (pins : List (Addr × Obj)) (s : Shared) (σ : St) (H : Hp) (Q : List V → Hp → Prop), Inv X pins σ H s → t σ H Q → wpAny (model X.prog X.w) X.A (evalAll ((backToKw pos (keywordEach kws X.env)).map (·.2))) (AP X pins σ Q) X.xe s
section
variable {X : Cx} {CX : CXT} {k : Nat} {f C : Addr} {fd : FuncData} {ps ks : List Str} {sp : Sp} {E : XK} {x m : Str} {p pos apos kpos : Pos} {e o : Expr} {es : List Expr} {kws : List Keyword} {te ta : TE} {t tk : TA} {nm : Option Str}
structure KBinds (K : PySem.W.Frag) (fd : FuncData) (ps ks : List Str) (g : List Value → List Value → List Value) (gV : List V → List V → List V) : Prop where
  to : ∀ (s : Shared) (us ws : List Value), K.In s.heap → (g us ws).length = ps.length → BindsTo s fd ⟨us, ks.zip ws⟩ (ps.zip (g us ws))
  rel : ∀ {vs : List V} {us : List Value} {zs : List V} {ws : List Value}, Vals vs us → Vals zs ws → Vals (gV vs zs) (g us ws)
def tCallK (sp : Sp) (gV : List V → List V → List V) (E : XK) (t tk : TA) : TE := fun σ H Q => t σ H fun vs H1 => tk σ H1 fun zs H2 => sp (gV vs zs) H2 Q E
variable {g : List Value → List Value → List Value} {gV : List V → List V → List V}
end
structure FnScope (N P : List Str) (sc : Scope) : Prop where
  kind : sc.kind = .function
  co : sc.isCoroutine = false
  gen : sc.isGenerator = false
  nd : N.Nodup
  pre : N.take P.length = P
  par : ∀ x ∈ P, sc.names.lookup x = some .local ∨ sc.names.lookup x = some .cell
  nofree : ∀ y ∈ sc.names, y.2 ≠ .free
theorem bindL_out {kindOf : Str → Option NameKind} {x : Str} : ∀ {binds : List (Str × Value)} {m : Str → Option Value}, (∀ v, (x, v) ∉ binds) → bindL kindOf binds m x = m x
  | [], _, _ => rfl
  | (n, v) :: r, m, h => by
    unfold bindL
    rw [bindL_out fun w hw => h w (List.mem_cons_of_mem _ hw)]
    split
    · have : x ≠ n := by rintro rfl; exact h v List.mem_cons_self
      simp [this]
    · rfl
theorem bindC_out {kindOf : Str → Option NameKind} {x : Str} : ∀ {binds : List (Str × Value)} {m : Str → Option Value}, (∀ v, (x, v) ∉ binds) → bindC kindOf binds m x = m x
  | [], _, _ => rfl
  | (n, v) :: r, m, h => by
    unfold bindC
    rw [bindC_out fun w hw => h w (List.mem_cons_of_mem _ hw)]
    split
    · rfl
    · have : x ≠ n := by rintro rfl; exact h v List.mem_cons_self
      simp [this]
theorem bindL_get {kindOf : Str → Option NameKind} {x : Str} {v : Value} : ∀ {P : List Str} {vs : List Value} {i : Nat} {m : Str → Option Value}, P.Nodup → P[i]? = some x → vs[i]? = some v → kindOf x = some .local →
    bindL kindOf (P.zip vs) m x = some v
  | [], _, _, _, _, h, _, _ => by simp at h
  | _ :: _, [], _, _, _, _, h, _ => by simp at h
  | p :: P, w :: vs, 0, m, nd, h1, h2, hk => by
    simp at h1 h2; subst h1; subst h2
    show bindL kindOf ((p, w) :: P.zip vs) m p = _
    unfold bindL
    rw [bindL_out fun v hv => (List.nodup_cons.mp nd).1 (List.of_mem_zip hv).1, if_pos hk]
    simp
  | p :: P, w :: vs, i + 1, m, nd, h1, h2, hk => by
    show bindL kindOf ((p, w) :: P.zip vs) m x = _
    unfold bindL
    exact bindL_get (i := i) (List.nodup_cons.mp nd).2 (by simpa using h1) (by simpa using h2) hk
theorem bindC_get {kindOf : Str → Option NameKind} {x : Str} {v : Value} : ∀ {P : List Str} {vs : List Value} {i : Nat} {m : Str → Option Value}, P.Nodup → P[i]? = some x → vs[i]? = some v → kindOf x ≠ some .local →
    bindC kindOf (P.zip vs) m x = some v
  | [], _, _, _, _, h, _, _ => by simp at h
  | _ :: _, [], _, _, _, _, h, _ => by simp at h
  | p :: P, w :: vs, 0, m, nd, h1, h2, hk => by
    simp at h1 h2; subst h1; subst h2
    show bindC kindOf ((p, w) :: P.zip vs) m p = _
    unfold bindC
    rw [bindC_out fun v hv => (List.nodup_cons.mp nd).1 (List.of_mem_zip hv).1, if_neg hk]
    simp
  | p :: P, w :: vs, i + 1, m, nd, h1, h2, hk => by
    show bindC kindOf ((p, w) :: P.zip vs) m x = _
    unfold bindC
    exact bindC_get (i := i) (List.nodup_cons.mp nd).2 (by simpa using h1) (by simpa using h2) hk
def start (N : List Str) (vs : List V) : St := vs.map some ++ List.replicate (N.length - vs.length) none
def cxOf (CX : CXT) (P : Program) (w : World) (K : PySem.W.Frag) (mg : Str → Option Value) (base : Heap) (N : List Str) (qual : Str) (scope : Scope) (f : Addr) (cd : Value) (A : Around) (outer : List Env) (s : Shared) (H : Hp) (E : XK) : Cx where
  prog := P
  w := w
  K := K
  mg := mg
  base := base
  A := A.deeper (envOfC qual scope s.heap.objs.size f cd)
  N := N
  s₀ := s
  H₀ := H
  env := envOfC qual scope s.heap.objs.size f cd
  outer := outer
  stack := envOfC qual scope s.heap.objs.size f cd :: outer
  ex := []
  calm := true
  fn := fun _ => true
  pn := []
  xe := fun e s' => wpAny (model P w) (A.deeper (envOfC qual scope s.heap.objs.size f cd)) (leaving (envOfC qual scope s.heap.objs.size f cd) e) (fun _ s'' => CX outer H s E e s'') (fun e' s'' => CX outer H s E e' s'') s'
theorem cell_has {sc : Scope} {n : Nat} {x : Str} (h : sc.names.lookup x = some .cell) : ∃ c, (cellsFrom n sc.names []).lookup x = some c := by
  have q := PySem.W.cellsFrom_some sc.names n [] (.inl h)
  exact Option.isSome_iff_exists.mp q
theorem inv_start {CX : CXT} {P : Program} {w : World} {K : PySem.W.Frag} {mg : Str → Option Value} {base : Heap} {N ps : List Str} {qual : Str} {scope : Scope} {f : Addr} {cd : Value} {A : Around} {outer : List Env} {s s1 : Shared} {H : Hp} {E : XK} {us : List Value} {vs : List V}
    (S : FnScope N ps scope) (hd : A.handled = none) (e0 : Env0 P w K mg base A outer s H) (hl : vs.length = ps.length) (r : Vals vs us)
    (x : InCallC s s.heap.objs.size (bindL (envOfC qual scope s.heap.objs.size f cd).kindOf (ps.zip us) fun _ => none) (cellsFrom (s.heap.objs.size + 1) scope.names []) (bindC (envOfC qual scope s.heap.objs.size f cd).kindOf (ps.zip us) fun _ => none) s1) :
    Inv (cxOf CX P w K mg base N qual scope f cd A outer s H E) [] (start N vs) H s1 := by
  have hpl : ps.length ≤ N.length := by have := congrArg List.length S.pre; rw [List.length_take] at this; omega
  obtain ⟨h1, tk, rfl, hk⟩ := x.done
  have noA : ∀ b : Addr, b ∉ (cxOf CX P w K mg base N qual scope f cd A outer s H E).ex := fun b z => absurd (show b ∈ ([] : List Addr) from z) (by simp)
  refine ⟨⟨e0.mod, S.kind, rfl, rfl, Nat.le_refl _, fun y z c h1 h2 => ?_, fun y hy => ?_, fun y c _ h => ?_, fun _ => hd, Around.frames_deeper e0.frames, .inr ⟨rfl, rfl⟩, fun b z => absurd z (noA b), e0.bs, e0.bsz, fun b _ _ => noA b, fun b z => absurd z (noA b), e0.funs, e0.frf⟩,
    rfl, e0.bare, Un.kept hk, ⟨_, x.toInCall.ns, fun i y v h1 h2 h3 => ?_⟩, fun y c h => ⟨_, x.cell y c h⟩, e0.hok.fresh (Nat.le_refl _), fun y c h => ?_, fun p hp => absurd (show p ∈ ([] : List (Addr × Obj)) from hp) (by simp), e0.hok.kept hk, ?_⟩
  · exact name_of_addr x.apart (PySem.mem_of_lookup h1) (PySem.mem_of_lookup h2)
  · have hy : scope.names.lookup y = some .cell ∨ scope.names.lookup y = some .free := hy
    rcases hy with hy | hy
    · exact cell_has hy
    · exact absurd rfl (S.nofree _ (PySem.mem_of_lookup hy))
  · exact Nat.le_of_lt (x.above y c (PySem.mem_of_lookup h))
  · have hi : i < vs.length := by
      unfold start at h2
      by_cases hi : i < vs.length
      · exact hi
      · rw [List.getElem?_append_right (by simpa using hi)] at h2
        rw [List.getElem?_replicate] at h2
        split at h2 <;> cases h2
    have ha : vs[i]? = some v := by
      unfold start at h2
      rw [List.getElem?_append_left (by simpa using hi), List.getElem?_map] at h2
      cases e : vs[i]? with
      | none => rw [e] at h2; cases h2
      | some a => rw [e] at h2; cases h2; rfl
    obtain ⟨u, hu, rv⟩ := r.get ha
    have hp : ps[i]? = some y := by
      rw [← S.pre, List.getElem?_take_of_lt (by omega)]; exact h1
    have ndP : ps.Nodup := by rw [← S.pre]; exact S.nd.sublist (List.take_sublist _ _)
    refine ⟨u, rv, ?_⟩
    rcases S.par y (List.mem_of_getElem? hp) with k | k
    · exact .inl ⟨k, bindL_get ndP hp hu k⟩
    · obtain ⟨c, e⟩ := cell_has (n := s.heap.objs.size + 1) k
      refine .inr ⟨.inl k, c, e, ?_⟩
      have q := x.cell y c e
      rw [bindC_get ndP hp hu (by show scope.names.lookup y ≠ _; rw [k]; decide)] at q
      exact q
  · exact e0.hok.fresh (Nat.le_of_lt (x.above y c (PySem.mem_of_lookup h)))
  · unfold start
    show _ = N.length
    rw [List.length_append, List.length_map, List.length_replicate]
    omega
theorem fn_of {CX : CXT} {P : Program} {w : World} {K : PySem.W.Frag} {mg : Str → Option Value} {base : Heap} {k : Nat} {f : Addr} {name qual : Str} {params : Arguments} {body : List Stmt} {scope : Scope} {dV kV doc pm cdv ct oc : Value} {an od : Option Addr}
    {osl : Array (Option Value)} {N ps : List Str} {sp : Sp} (lk : K.lookup f = some ⟨oc, od, .func (PySem.W.fnOf name qual params body scope dV kV doc pm an cdv ct), osl⟩) (hcd : PySem.W.codeIn K cdv qual = true) (S : FnScope N ps scope)
    (len : ∀ vs H Q E, sp vs H Q E → vs.length = ps.length)
    (hbody : ∀ (A : Around) (outer : List Env) (s : Shared) (H : Hp) (vs : List V) (Q : VK) (E : XK), Room k (A.deeper (envOfC qual scope s.heap.objs.size f cdv)) → sp vs H Q E →
      ∃ t, PSs (cxOf CX P w K mg base N qual scope f cdv A outer s H E) body t ∧ t { nx := fun _ H' => Q .non H', rt := Q } (start N vs) H) :
    FnOk P w K mg base CX (k + 1) f (PySem.W.fnOf name qual params body scope dV kV doc pm an cdv ct) ps sp := by
  refine ⟨len, fun A outer s H args us vs Q E hr e0 hb r hsp => ?_⟩
  have hl := len _ _ _ _ hsp
  have KX : K.In s.heap := e0.mod.kin.keeps fun b o e => (e0.bs b o e).1
  have lim : s.heap.NoLimit := e0.mod.nolimit.keeps fun b o e => (e0.bs b o e).1
  have hkind : ∀ y ∈ ps.zip us, scope.names.lookup y.1 = some .local ∨ (scope.names.lookup y.1 = some .cell ∧ ((cellsFrom (s.heap.objs.size + 1) scope.names []).lookup y.1).isSome = true) := fun ⟨n, v⟩ hy => by
    rcases S.par n (List.of_mem_zip hy).1 with q | q
    · exact .inl q
    · exact .inr ⟨q, PySem.W.cellsFrom_some _ _ _ (.inl q)⟩
  refine codeAny_call_function hr.depth (KX _ _ lk) rfl S.co S.gen rfl (PySem.W.codeRec_of KX hcd) (hb _ _ _ _ ?_)
  refine wpAny_newFunctionEnv_cells S.kind hkind fun env he s1 x => ?_
  subst he
  refine ⟨lim.keeps x.toInCall.keep, codeAny_func ?_⟩
  obtain ⟨t, ht, hq⟩ := hbody A outer s H vs Q E (hr.deeper _) hsp
  have I : Inv (cxOf CX P w K mg base N qual scope f cdv A outer s H E) [] (start N vs) H s1 := inv_start S hr.hd e0 hl r x
  refine wpAny_mono (ht [] s1 (start N vs) H _ I hq) (fun fl s' hs => ?_) fun e s' hs => hs
  have fin : ∀ {σ' : St} {H' : Hp} {v : V} {u : Value}, Inv (cxOf CX P w K mg base N qual scope f cdv A outer s H E) [] σ' H' s' → RelV v u → Q v H' → CE outer P w H s Q u s' :=
    fun {σ' H' v u} J rv q => ⟨v, H', J.os, J.bare, J.base, J.hok, rv, q⟩
  cases fl with
  | ret u =>
    obtain ⟨v, σ', H', J, rv, q⟩ := hs
    exact fin J rv q
  | next =>
    obtain ⟨σ', H', J, q⟩ := hs
    exact fin (v := V.non) (u := Value.none) J rfl q
  | brk =>
    obtain ⟨_, _, _, q⟩ := hs
    exact False.elim q
  | cont =>
    obtain ⟨_, _, _, q⟩ := hs
    exact False.elim q
end L2
namespace L2
open PySem PySem.Spec PyProof.Rows
section
variable {X : Cx} {x : Str} {p pos : Pos} {e : Expr} {es : List Expr} {t : TA} {id T : String} {r : List V → Hp → VK → Prop}
def tCB (r : List V → Hp → VK → Prop) (t : TA) : TE := fun σ H Q => t σ H fun vs H1 => r vs H1 Q
theorem pe_callB (hc : CallR X (.builtin id) r) (hg : Gl X x) (hm : X.mg x = none) (hv : bootBuiltins x = some (.builtin id)) (ha : PA X (e :: es) t) (hn : x ≠ "__name__" := by decide) (hdb : (x == ("__debug__" : Str)) = false := by decide)
    (he : starEach (e :: es) X.env = (false, eval e X.env) :: starEach es X.env := by rfl) (hpl : (backTo pos (starEach es X.env)).any (·.1) = false := by rfl) : PE X (.Call (.Name x p) (e :: es) [] pos) (tCB r t) := by
  intro pins s σ H Q I h
  refine wpAny_Call_Name_kw (ld_blt I hg hm hv ?_ hn hdb)
  exact PyProof.Rows.callWith_builtin1 (thn (ha pos pins s σ H _ I h) fun us s1 ⟨vs, H1, I1, r1, q1⟩ => hc pins s1 σ H1 vs us Q I1 r1 q1) he hpl
theorem pe_callTy (hc : CallR X (.type T) r) (hg : Gl X x) (hm : X.mg x = none) (hv : bootBuiltins x = some (.type T)) (ha : PA X (e :: es) t) (hn : x ≠ "__name__" := by decide) (hdb : (x == ("__debug__" : Str)) = false := by decide)
    (he : starEach (e :: es) X.env = (false, eval e X.env) :: starEach es X.env := by rfl) (hpl : (backTo pos (starEach es X.env)).any (·.1) = false := by rfl) : PE X (.Call (.Name x p) (e :: es) [] pos) (tCB r t) := by
  intro pins s σ H Q I h
  refine wpAny_Call_Name_kw (ld_blt I hg hm hv ?_ hn hdb)
  exact PyProof.Rows.callWith_type1 (thn (ha pos pins s σ H _ I h) fun us s1 ⟨vs, H1, I1, r1, q1⟩ => hc pins s1 σ H1 vs us Q I1 r1 q1) he hpl
end
end L2
namespace HT
open PySem PyProof.Rows
def lexLt : List Int → List Int → Bool
  | [], [] => false
  | [], _ :: _ => true
  | _ :: _, [] => false
  | x :: xs, y :: ys => if x = y then lexLt xs ys else decide (x < y)
section
open PySem.SeqAt
open PySem.AutoSeq1 (wpAny_loadPart')
open PySem.MeetsSeq PySem.MeetsSeq2 PySem.MeetsSeq3
end
section
variable {prog : Program} {w : World} {A : Around} {E : Value → Shared → Prop} {s : Shared}
theorem cat_tup {t b : Addr} {vs ws : List Value} {Q : Value → Shared → Prop} (ht : IsTup s.heap t vs.toArray) (hb : IsTup s.heap b ws.toArray) (hv : vs ≠ [])
    (h1 : ws = [] → Q (.ref t) s) (h2 : ws ≠ [] → Q (.ref s.heap.objs.size) { s with heap := s.heap.push { cls := .type "tuple", data := .seq (vs ++ ws).toArray } })
    (hsz : vs.length + ws.length ≤ sizeLine) : wpAny (model prog w) A (binaryOp .Add (.ref t) (.ref b)) Q E s := by
  obtain ⟨⟨cls, dd, data, sl⟩, ho, hc, n, hd⟩ := id ht
  obtain ⟨⟨cls2, dd2, data2, sl2⟩, ho2, hc2, n2, hd2⟩ := id hb
  simp only at hc hd hc2 hd2
  subst hc hd hc2 hd2
  have e : vs.toArray ++ ws.toArray = (vs ++ ws).toArray := by simp
  by_cases hw : ws = []
  · exact concat_meets ⟨_, ho, rfl⟩ ⟨_, ho2, rfl⟩ noFill_tuple_add seq_tuple_add PySem.F.slot_tuple_add PySem.F.entry_tuple_add (PySem.F.args_tuple_add_2 _ _)
      (tuple_addW1 t b vs.toArray ws.toArray n n2 dd dd2 sl sl2 (by simpa using hv) (by simp [hw])) ⟨ho, ho2, h1 hw⟩
  · refine concat_meets ⟨_, ho, rfl⟩ ⟨_, ho2, rfl⟩ noFill_tuple_add seq_tuple_add PySem.F.slot_tuple_add PySem.F.entry_tuple_add (PySem.F.args_tuple_add_2 _ _)
      (tuple_addW2 t b vs.toArray ws.toArray n n2 dd dd2 sl sl2 (by simpa using hv) (by simpa using hw) (by rw [List.size_toArray, List.size_toArray]; exact hsz)) ⟨ho, ho2, ?_⟩
    rw [e]
    exact h2 hw
def sIx (n d : Nat) : Option Int → Nat
  | none => d
  | some v => if v < 0 then (v + (n : Int)).toNat else min v.toNat n
theorem sIx_le (n d : Nat) (hd : d ≤ n) (o : Option Int) : sIx n d o ≤ n := by
  cases o with
  | none => exact hd
  | some v =>
    show (if v < 0 then (v + (n : Int)).toNat else min v.toNat n) ≤ n
    by_cases hv : v < 0
    · rw [if_pos hv]; omega
    · rw [if_neg hv]; exact Nat.min_le_right _ _
theorem clip_eq (v : Int) (n d : Nat) : (if v < 0 then max (v + (n : Int)) 0 else min v (n : Int)) = ((sIx n d (some v) : Nat) : Int) := by
  show (if v < 0 then max (v + (n : Int)) 0 else min v (n : Int)) = (((if v < 0 then (v + (n : Int)).toNat else min v.toNat n) : Nat) : Int)
  by_cases hv : v < 0
  · simp only [if_pos hv]; omega
  · simp only [if_neg hv]; omega
theorem adjust_gen (lo hi : Option Int) (n : Nat) : Builtin.Slice.sliceAdjust lo hi 1 (n : Int) = (((sIx n 0 lo : Nat) : Int), ((sIx n n hi : Nat) : Int)) := by
  have h1 : ¬ ((1 : Int) < 0) := by omega
  unfold Builtin.Slice.sliceAdjust
  simp only [h1, if_false]
  refine Prod.ext ?_ ?_
  · cases lo with
    | none => rfl
    | some v => exact clip_eq v n 0
  · cases hi with
    | none => rfl
    | some v => exact clip_eq v n n
theorem places_gen (i j : Nat) : Builtin.Slice.slicePlaces (i : Int) (j : Int) 1 = j - i := by
  unfold Builtin.Slice.slicePlaces
  have h1 : (1 : Int) > 0 := by omega
  simp only [h1, if_true, Int.ediv_one]
  split <;> omega
theorem slicePart_ {v : Value} {o : Option Int} {Q : Option Int → Shared → Prop} (p : IsPart v o) (h : Q o s) : wpAny (model prog w) A (Builtin.Slice.slicePartIndex v) Q E s := by
  cases p with
  | none => exact slicePart_none h
  | int i t => exact slicePart_int h
theorem sliceApplied_gen {sl : Addr} {vl vu : Value} {lo hi : Option Int} {n : Nat} {Q : Int × Int × Nat → Shared → Prop} (hs : s.heap.IsSliceOf sl vl vu .none) (pl : IsPart vl lo) (pu : IsPart vu hi)
    (h : Q (((sIx n 0 lo : Nat) : Int), 1, sIx n n hi - sIx n 0 lo) s) : wpAny (model prog w) A (Builtin.Slice.sliceApplied (.ref sl) (pure (n : Int))) Q E s := by
  obtain ⟨os, hos, hcs, hds⟩ := id hs
  unfold Builtin.Slice.sliceApplied Builtin.Slice.sliceFields
  refine wpAny_bind (wpAny_bind (wpAny_field hos hds (x := vl) rfl (wpAny_bind (wpAny_field hos hds (x := vu) rfl (wpAny_bind (wpAny_field hos hds (x := .none) rfl (wpAny_pure ?_)))))))
  refine wpAny_bind (slicePart_none ?_)
  show wpAny _ _ (if ((1 : Int) == 0) = true then _ else _) _ _ s
  rw [if_neg (by decide)]
  refine wpAny_bind (slicePart_ pl (wpAny_bind (slicePart_ pu (wpAny_bind (wpAny_pure ?_)))))
  show wpAny _ _ (match Builtin.Slice.sliceAdjust lo hi 1 (n : Int) with | (lo, hi) => pure (lo, (1 : Int), Builtin.Slice.slicePlaces lo hi 1)) _ _ s
  rw [adjust_gen lo hi n]
  show wpAny _ _ (pure (((sIx n 0 lo : Nat) : Int), (1 : Int), Builtin.Slice.slicePlaces ((sIx n 0 lo : Nat) : Int) ((sIx n n hi : Nat) : Int) 1)) _ _ s
  rw [places_gen]
  exact wpAny_pure h
theorem pick_gen (xs : Array Value) (i k : Nat) : ((List.range k).filterMap fun (m : Nat) => xs[((i : Int) + (m : Int) * 1).toNat]?).toArray = ((xs.toList.drop i).take k).toArray := by
  have e : (fun (m : Nat) => xs[((i : Int) + (m : Int) * 1).toNat]?) = fun m => xs[i + m]? := by
    funext m
    have : ((i : Int) + (m : Int) * 1).toNat = i + m := by omega
    rw [this]
  rw [e]
  have := pick_run xs i k
  rw [List.filterMap_map] at this
  have e2 : ((fun x => xs[x]?) ∘ fun x => i + x) = fun m => xs[i + m]? := rfl
  rw [e2] at this
  rw [this]
theorem getItem_tuple_cut {t sl : Addr} {items : Array Value} {vl vu : Value} {lo hi : Option Int} {Q : Value → Shared → Prop} (ht : IsTup s.heap t items) (hs : s.heap.IsSliceOf sl vl vu .none) (pl : IsPart vl lo) (pu : IsPart vu hi)
    (hw : ¬ (sIx items.size 0 lo = 0 ∧ sIx items.size items.size hi = items.size))
    (h : Q (.ref s.heap.objs.size) { s with heap := s.heap.push { cls := .type "tuple", data := .seq ((items.toList.drop (sIx items.size 0 lo)).take (sIx items.size items.size hi - sIx items.size 0 lo)).toArray } })
    (hsz : items.size ≤ sizeLine) : wpAny (model prog w) A (getItem (.ref t) (.ref sl)) Q E s := by
  have htake : sizeOk (.seq ((items.toList.drop (sIx items.size 0 lo)).take (sIx items.size items.size hi - sIx items.size 0 lo)).toArray) := by
    show ((items.toList.drop (sIx items.size 0 lo)).take (sIx items.size items.size hi - sIx items.size 0 lo)).toArray.size ≤ sizeLine
    rw [List.size_toArray, List.length_take, List.length_drop, Array.length_toList]
    omega
  have hj : sIx items.size items.size hi ≤ items.size := sIx_le _ _ (Nat.le_refl _) hi
  obtain ⟨os, hos, hcs, hds⟩ := id hs
  have hTs : s.TypeIs (.ref sl) "slice" := ⟨os, hos, hcs⟩
  unfold getItem
  try with_reducible refine wpAny_holding ?_
  first | refine wpAny_bind (wpAny_pure ?_) | skip
  refine wpAny_bind (wpAny_sequenceKey ht.typeIs (by decide) ?_)
  refine wpAny_bind (wpAny_callSpecial?_slot (name := Str.ofString "__getitem__") ht.typeIs PyProof.Rows.slot_tuple_getitem
    (wpAny_call_entry PyProof.Rows.slot_tuple_getitem ht.typeIs entry_tuple_getitem ?_ (args_tuple_getitem _ _)))
  show wpAny _ _ (Builtin.Tuple.tupleItemsOf (.ref t) >>= _) _ _ s
  refine wpAny_bind (tupleItemsOf_ ht ?_)
  refine wpAny_bind (wpAny_typeOf hTs ?_)
  rw [if_pos (by decide)]
  refine wpAny_bind (sliceApplied_gen hs pl pu ?_)
  have hno : ¬ ((((sIx items.size 0 lo : Nat) : Int) == 0 && (1 : Int) == 1 && (sIx items.size items.size hi - sIx items.size 0 lo) == items.size) = true) := by
    intro q
    rw [Bool.and_eq_true, Bool.and_eq_true] at q
    have q1 : ((sIx items.size 0 lo : Nat) : Int) = 0 := eq_of_beq q.1.1
    have q2 : sIx items.size items.size hi - sIx items.size 0 lo = items.size := eq_of_beq q.2
    exact hw ⟨by omega, by omega⟩
  show wpAny _ _ (if (((sIx items.size 0 lo : Nat) : Int) == 0 && (1 : Int) == 1 && (sIx items.size items.size hi - sIx items.size 0 lo) == items.size) = true then _ else _) _ _ s
  rw [if_neg hno, pick_gen]
  first
    | exact wpAny_bind (m := Builtin.Tuple.tupleExact _) (wpAny_newObj_type (wpAny_pure ⟨_, rfl, wpAny_pure h⟩) htake)
    | exact wpAny_bind (m := Builtin.Tuple.tupleExact _) (wpAny_newObj_type (wpAny_bind (wpAny_pure (wpAny_pure ⟨_, rfl, wpAny_pure h⟩))) htake)
    | exact wpAny_bind (wpAny_bind (m := Builtin.Tuple.tupleExact _) (wpAny_newObj_type (wpAny_pure (wpAny_pure ⟨_, rfl, wpAny_pure h⟩)) htake))
    | exact wpAny_bind (wpAny_bind (m := Builtin.Tuple.tupleExact _) (wpAny_newObj_type (wpAny_pure ⟨_, rfl, wpAny_pure h⟩) htake))
end
end HT
namespace L2
open PySem PySem.Spec PyProof.Rows
abbrev TO := St → Hp → (Option Int → Hp → Prop) → Prop
def PO (X : Cx) (e : Option Expr) (t : TO) : Prop :=
  ∀ (pins : List (Addr × Obj)) (s : Shared) (σ : St) (H : Hp) (Q : Option Int → Hp → Prop), Inv X pins σ H s → t σ H Q →
    wpAny (model X.prog X.w) X.A (evalPart e X.env) (fun u s' => ∃ o H', Inv X pins σ H' s' ∧ IsPart u o ∧ Q o H') X.xe s
def tNoPart : TO := fun _ H Q => Q none H
def tPart (t : TE) : TO := fun σ H Q => t σ H fun x H1 => ∃ i, x = .int i ∧ Q (some i) H1
theorem intsAre_of {ns : List Int} : ∀ {us : List Value}, Vals (ns.map V.int) us → IntsAre us ns := by
  induction ns with
  | nil => intro us r; rw [List.map_nil] at r; cases r; exact .nil
  | cons n ns ih =>
    intro us r
    rw [List.map_cons] at r
    cases r with
    | cons r1 r2 =>
      obtain ⟨t, e⟩ := r1
      subst e
      exact .cons n t (ih r2)
section
variable {X : Cx} {e : Expr} {te : TE} {lo hi : Option Expr} {tl th : TO} {pos p2 : Pos}
theorem po_none : PO X none tNoPart := by
  intro pins s σ H Q I h
  rw [evalPart_none]
  exact wpAny_pure ⟨none, H, I, .none, h⟩
theorem po_some (h : PE X e te) : PO X (some e) (tPart te) := by
  intro pins s σ H Q I hw
  rw [evalPart_some]
  refine thn (h pins s σ H _ I hw) fun u s1 ⟨x, H1, I1, r1, q1⟩ => ?_
  obtain ⟨i, rfl, q⟩ := q1
  obtain ⟨t, rfl⟩ := r1
  exact ⟨some i, H1, I1, .int i t, q⟩
def SlR (X : Cx) (r : V → Option Int → Option Int → Hp → VK → Prop) : Prop :=
  ∀ (pins : List (Addr × Obj)) (s : Shared) (σ : St) (H : Hp) (x : V) (v vl vu : Value) (lo hi : Option Int) (sl : Addr) (Q : VK), Inv X pins σ H s → RelV x v → s.heap.IsSliceOf sl vl vu .none → IsPart vl lo → IsPart vu hi → r x lo hi H Q →
    ∃ T id, typeLookup (.type T) "__getitem__" = pure (some (.builtin id)) ∧ s.TypeIs v T ∧ wpAny (model X.prog X.w) X.A (getItem v (.ref sl)) (EP X pins σ Q) X.xe s
theorem SlR.or {r r' : V → Option Int → Option Int → Hp → VK → Prop} (h : SlR X r) (h' : SlR X r') : SlR X (fun x lo hi H Q => r x lo hi H Q ∨ r' x lo hi H Q) := by
  intro pins s σ H x v vl vu lo hi sl Q I rx hs pl pu q
  rcases q with q | q
  · exact h pins s σ H x v vl vu lo hi sl Q I rx hs pl pu q
  · exact h' pins s σ H x v vl vu lo hi sl Q I rx hs pl pu q
def tSl (r : V → Option Int → Option Int → Hp → VK → Prop) (te : TE) (tl th : TO) : TE := fun σ H Q => te σ H fun x H1 => tl σ H1 fun l H2 => th σ H2 fun u H3 => r x l u H3 Q
theorem pe_slice {r : V → Option Int → Option Int → Hp → VK → Prop} (hr : SlR X r) (he : PE X e te) (hl : PO X lo tl) (hu : PO X hi th) : PE X (.Subscript e (.Slice lo hi none p2) pos) (tSl r te tl th) := by
  intro pins s σ H Q I h
  refine Subscript_ (thn (he pins s σ H _ I h) fun v s1 ⟨x, H1, I1, r1, q1⟩ => ?_)
  refine wpAny_Slice (thn (hl pins s1 σ H1 _ I1 q1) fun vl s2 ⟨l, H2, I2, pl, q2⟩ => thn (hu pins s2 σ H2 _ I2 q2) fun vu s3 ⟨u, H3, I3, pu, q3⟩ => ?_)
  rw [evalPart_none]
  refine wpAny_pure ?_
  have I4 : Inv X pins σ H3 { s3 with heap := s3.heap.push { cls := .type "slice", data := .fields #[vl, vu, .none] } } := I3.kept (t' := s3.toks) fun b ob q => Heap.get?_push_of_some _ q
  obtain ⟨T, id, hT, ht, hg⟩ := hr pins { s3 with heap := s3.heap.push { cls := .type "slice", data := .fields #[vl, vu, .none] } } σ H3 x v vl vu l u s3.heap.objs.size Q I4 r1 (Heap.IsSliceOf.new ..) pl pu q3
  show wpAny (model X.prog X.w) X.A (subscriptTail e (.Slice lo hi none p2) v (.ref s3.heap.objs.size)) (EP X pins σ Q) X.xe { s3 with heap := s3.heap.push { cls := .type "slice", data := .fields #[vl, vu, .none] } }
  exact tail_any (ops := [.ref s3.heap.objs.size, v]) ht hT hg (by with_unfolding_all rfl)
def cutV (xs : List V) (lo hi : Option Int) : List V := (xs.drop (HT.sIx xs.length 0 lo)).take (HT.sIx xs.length xs.length hi - HT.sIx xs.length 0 lo)
theorem cutV_length (xs : List V) (lo hi : Option Int) : (cutV xs lo hi).length ≤ xs.length := by
  unfold cutV
  rw [List.length_take, List.length_drop]
  omega
def rSlT (K : PySem.W.Frag) : V → Option Int → Option Int → Hp → VK → Prop := fun x lo hi H Q => ∃ a xs, x = .ref a ∧ SqT K H a xs ∧
  ¬ (HT.sIx xs.length 0 lo = 0 ∧ HT.sIx xs.length xs.length hi = xs.length) ∧ ∀ p, H p = none → Q (.ref p) (upd H p (.tup (cutV xs lo hi)))
theorem sl_tup : SlR X (rSlT X.K) := by
  intro pins s σ H x v vl vu lo hi sl Q I rx hs pl pu h
  obtain ⟨a, xs, rfl, hx, hw, q⟩ := h
  cases rx
  obtain ⟨its, r, ht, hz⟩ := I.tuple hx
  have hlen : its.toArray.size = xs.length := by rw [List.size_toArray]; exact r.length.symm
  refine ⟨"tuple", _, PyProof.Rows.slot_tuple_getitem.lookup, ht.typeIs, ?_⟩
  refine HT.getItem_tuple_cut ht hs pl pu (by rw [hlen]; exact hw) ?_ (by rw [hlen]; exact hz)
  rw [hlen]
  refine ⟨.ref s.heap.objs.size, _, I.laid (t' := s.toks) (o := .tup (cutV xs lo hi)) (fun b ob q => Heap.get?_push_of_some _ q) (Nat.le_refl _) ?_, rfl, q _ (I.hok.fresh (Nat.le_refl _))⟩
  exact ⟨Nat.le_trans (cutV_length xs lo hi) hz, _, (r.drop (HT.sIx xs.length 0 lo)).take (HT.sIx xs.length xs.length hi - HT.sIx xs.length 0 lo), IsTup.new _ _⟩
def rLtT (K : PySem.W.Frag) : R2 := fun x y H Q => ∃ a b ns ms, x = .ref a ∧ y = .ref b ∧ SqT K H a (ns.map V.int) ∧ SqT K H b (ms.map V.int) ∧ Q (.bl (HT.lexLt ns ms)) H
def rCatT (K : PySem.W.Frag) : R2 := fun x y H Q => ∃ a b xs ys, x = .ref a ∧ y = .ref b ∧ SqT K H a xs ∧ SqT K H b ys ∧ xs ≠ [] ∧ xs.length + ys.length ≤ sizeLine ∧
  (ys = [] → Q (.ref a) H) ∧ (ys ≠ [] → ∀ p, H p = none → Q (.ref p) (upd H p (.tup (xs ++ ys))))
theorem Vals.nil_iff {xs : List V} {us : List Value} (r : Vals xs us) : us = [] ↔ xs = [] := by
  cases r with
  | nil => simp
  | cons _ _ => simp
theorem op_catT : OpR X (binaryOp .Add) (rCatT X.K) := by
  intro pins s σ H x y v u Q I rx ry h
  obtain ⟨a, b, xs, ys, rfl, rfl, ha, hb, hx, hz, q1, q2⟩ := h
  cases rx
  cases ry
  obtain ⟨its, r1, p1, _⟩ := I.tuple ha
  obtain ⟨its2, r2, p2, _⟩ := I.tuple hb
  refine HT.cat_tup p1 p2 (fun z => hx (r1.nil_iff.mp z)) (fun z => ⟨.ref a, H, I, rfl, q1 (r2.nil_iff.mp z)⟩) (fun z => ?_) (by rw [← r1.length, ← r2.length]; exact hz)
  refine ⟨.ref s.heap.objs.size, _, I.laid (t' := s.toks) (o := .tup (xs ++ ys)) (fun b ob q => Heap.get?_push_of_some _ q) (Nat.le_refl _) ?_, rfl, q2 (fun w => z (r2.nil_iff.mpr w)) _ (I.hok.fresh (Nat.le_refl _))⟩
  exact ⟨by rw [List.length_append]; exact hz, _, r1.append r2, IsTup.new _ _⟩
end
end L2
namespace L2
open PySem PySem.Spec PyProof.Rows
def ixN (n : Nat) (i : Int) : Option Nat := if 0 ≤ i then (if i < n then some i.toNat else none) else if -(n : Int) ≤ i then some (i + n).toNat else none
def atI {α : Type} (xs : List α) (i : Int) : Option α := (ixN xs.length i).bind fun j => xs[j]?
theorem ixN_seq {n : Nat} {i : Int} {j : Nat} (h : ixN n i = some j) : seqIndex? i n = some j ∧ j < n ∧ -(n : Int) ≤ i ∧ i < n := by
  unfold ixN at h
  by_cases h0 : 0 ≤ i
  · rw [if_pos h0] at h
    by_cases h1 : i < n
    · rw [if_pos h1] at h
      have e : i.toNat = j := Option.some.inj h
      exact ⟨by rw [seqIndex_of h0 h1, e], by omega, by omega, h1⟩
    · rw [if_neg h1] at h; cases h
  · rw [if_neg h0] at h
    by_cases h1 : -(n : Int) ≤ i
    · rw [if_pos h1] at h
      have e : (i + n).toNat = j := Option.some.inj h
      exact ⟨by rw [seqIndex_neg (by omega) h1, e], by omega, h1, by omega⟩
    · rw [if_neg h1] at h; cases h
theorem atI_get {α : Type} {xs : List α} {i : Int} {v : α} (h : atI xs i = some v) : ∃ j, seqIndex? i xs.length = some j ∧ xs[j]? = some v ∧ j < xs.length ∧ -(xs.length : Int) ≤ i ∧ i < xs.length := by
  unfold atI at h
  cases e : ixN xs.length i with
  | none => rw [e] at h; cases h
  | some j =>
    rw [e] at h
    obtain ⟨h1, h2, h3, h4⟩ := ixN_seq e
    exact ⟨j, h1, h, h2, h3, h4⟩
def PlainIx (b : Expr) : Prop := ∀ o i, subscripted b false o i = operate [o, i] (getItem o i)
def IxR (X : Cx) (r : R2) : Prop :=
  ∀ (value slice : Expr) (pins : List (Addr × Obj)) (s : Shared) (σ : St) (H : Hp) (x y : V) (v u : Value) (Q : VK), Inv X pins σ H s → RelV x v → RelV y u → r x y H Q →
    subscripted slice false v u = operate [v, u] (getItem v u) → wpAny (model X.prog X.w) X.A (subscriptTail value slice v u) (EP X pins σ Q) X.xe s
def MtR (X : Cx) (id : String) (r : V → List V → Hp → VK → Prop) : Prop :=
  ∀ (pins : List (Addr × Obj)) (s : Shared) (σ : St) (H : Hp) (x : V) (xs : List V) (v : Value) (us : List Value) (Q : VK), Inv X pins σ H s → RelV x v → Vals xs us → r x xs H Q →
    wpAny (model X.prog X.w) X.A (call (.builtin id) (v :: us)) (EP X pins σ Q) X.xe s
section
variable {X : Cx} {a b : Expr} {ta tb : TE} {pos : Pos}
theorem IxR.or {r r' : R2} (h : IxR X r) (h' : IxR X r') : IxR X (fun x y H Q => r x y H Q ∨ r' x y H Q) := by
  intro value slice pins s σ H x y v u Q I rx ry q hs
  rcases q with q | q
  · exact h value slice pins s σ H x y v u Q I rx ry q hs
  · exact h' value slice pins s σ H x y v u Q I rx ry q hs
theorem MtR.or {id : String} {r r' : V → List V → Hp → VK → Prop} (h : MtR X id r) (h' : MtR X id r') : MtR X id (fun x xs H Q => r x xs H Q ∨ r' x xs H Q) := by
  intro pins s σ H x xs v us Q I rx rs q
  rcases q with q | q
  · exact h pins s σ H x xs v us Q I rx rs q
  · exact h' pins s σ H x xs v us Q I rx rs q
theorem pe_ix {r : R2} (hr : IxR X r) (ha : PE X a ta) (hb : PE X b tb) (hs : PlainIx b) : PE X (.Subscript a b pos) (tOp r ta tb) := by
  intro pins s σ H Q I h
  exact Subscript_ (binT ha hb I h fun v u s2 x y H2 I2 rx ry q => hr a b pins s2 σ H2 x y v u Q I2 rx ry q (hs _ _))
def rIxL (K : PySem.W.Frag) : R2 := fun x y H Q => ∃ p xs i v, x = .ref p ∧ y = .int i ∧ SqL K H p xs ∧ atI xs i = some v ∧ Q v H
def rIxT (K : PySem.W.Frag) : R2 := fun x y H Q => ∃ p xs i v, x = .ref p ∧ y = .int i ∧ SqT K H p xs ∧ atI xs i = some v ∧ Q v H
def rIxS : R2 := fun x y H Q => ∃ z i c, x = .str z ∧ y = .int i ∧ z.length ≤ sizeLine ∧ atI z.cps.toList i = some c ∧ Q (.str ⟨#[c]⟩) H
theorem ix_list : IxR X (rIxL X.K) := by
  intro value slice pins s σ H x y v u Q I rx ry h hs
  obtain ⟨p, xs, i, z, rfl, rfl, hq, he, q⟩ := h
  cases rx
  obtain ⟨t, rfl⟩ := ry
  obtain ⟨its, r, pl, hz⟩ := I.list hq
  obtain ⟨j, h1, h2, h3, h4, h5⟩ := atI_get he
  obtain ⟨w, ew, rw'⟩ := r.get h2
  have hl := r.length
  have hn := line63
  have fin : EP X pins σ Q w s := ⟨z, H, I, rw', q⟩
  by_cases h0 : 0 ≤ i
  · have hj : i.toNat = j := by
      rw [seqIndex_of h0 h5] at h1
      exact Option.some.inj h1
    exact item_listR pl.isList h0 (by omega) (by rw [hj]; simpa using ew) fin hs
  · have hj : (i + (its.toArray.size : Int)).toNat = j := by
      rw [seqIndex_neg (by omega) h4] at h1
      rw [List.size_toArray, ← hl]
      exact Option.some.inj h1
    exact subscriptTail_builtinR (x := w) pl.isList.typeIs slot_list_getitem.lookup
      (wpAny_getItem_list_neg (Q := fun r s' => r = w ∧ EP X pins σ Q r s') pl.isList (by omega) (by rw [List.size_toArray] <;> omega) (by omega) (by rw [hj]; simpa using ew) ⟨rfl, fin⟩) hs
theorem ix_tup : IxR X (rIxT X.K) := by
  intro value slice pins s σ H x y v u Q I rx ry h hs
  obtain ⟨p, xs, i, z, rfl, rfl, hq, he, q⟩ := h
  cases rx
  obtain ⟨t, rfl⟩ := ry
  obtain ⟨its, r, pl, hz⟩ := I.tuple hq
  obtain ⟨j, h1, h2, h3, h4, h5⟩ := atI_get he
  obtain ⟨w, ew, rw'⟩ := r.get h2
  have hl := r.length
  have hn := line63
  have fin : EP X pins σ Q w s := ⟨z, H, I, rw', q⟩
  exact subscriptTail_builtinR (x := w) pl.typeIs slot_tuple_getitem.lookup
    (getItem_tuple (j := j) (Q := fun r s' => r = w ∧ EP X pins σ Q r s') pl (by omega) (by omega) (by rw [List.size_toArray, ← hl]; exact h1) (by simpa using ew) ⟨rfl, fin⟩) hs
theorem ix_str : IxR X rIxS := by
  intro value slice pins s σ H x y v u Q I rx ry h hs
  obtain ⟨z, i, c, rfl, rfl, hz, he, q⟩ := h
  obtain ⟨t, rfl⟩ := rx
  obtain ⟨t', rfl⟩ := ry
  obtain ⟨j, h1, h2, h3, h4, h5⟩ := atI_get he
  have hl : z.cps.toList.length = z.length := by simp [Str.length]
  rw [hl] at h1 h4 h5
  have hn := line63
  exact tail_any (typeIs_str s z t) slot_str_getitem.lookup (getItem_str (c := c) (by
    have e1 : decide (i < -(2 ^ 63 : Int)) = false := decide_eq_false (by omega)
    have e2 : decide (i ≥ 2 ^ 63) = false := decide_eq_false (by omega)
    rw [e1, e2, Bool.or_false]) (by rw [h1]; simpa using h2) ⟨.str ⟨#[c]⟩, H, I.tok _, ⟨_, rfl⟩, q⟩) hs
def rIx (K : PySem.W.Frag) : R2 := fun x y H Q => rIxL K x y H Q ∨ rIxT K x y H Q ∨ rIxS x y H Q
theorem Inv.lst {pins : List (Addr × Obj)} {σ : St} {H : Hp} {s : Shared} {p : Addr} {xs : List V} (I : Inv X pins σ H s) (h : H p = some (.lst xs)) :
    ∃ (its : List Value) (n : Nat), Vals xs its ∧ s.heap.get? p = some { cls := .type "list", data := .seq its.toArray n } ∧ xs.length ≤ sizeLine := by
  obtain ⟨z, its, n, r, e⟩ := I.hok p _ h
  exact ⟨its, n, r, e, z⟩
def rSetL : V → V → V → Hp → (Hp → Prop) → Prop := fun o i v H Q => ∃ p xs k j, o = .ref p ∧ i = .int k ∧ H p = some (.lst xs) ∧ ixN xs.length k = some j ∧ Q (upd H p (.lst (xs.set j v)))
theorem slice_bounds (lo hi : Option Int) (n : Nat) : (sliceBounds lo hi none n).1 = ((HT.sIx n 0 lo : Nat) : Int) ∧ (sliceBounds lo hi none n).2.1 = ((HT.sIx n n hi : Nat) : Int) ∧ (sliceBounds lo hi none n).2.2 = 1 := by
  refine ⟨?_, ?_, rfl⟩
  · cases lo with
    | none => simp [sliceBounds, HT.sIx]
    | some i =>
      simp only [sliceBounds, HT.sIx, Option.getD_none, show (1 : Int) > 0 by decide, if_true]
      by_cases h : i < 0
      · simp only [h, if_true] <;> omega
      · simp only [h, if_false] <;> omega
  · cases hi with
    | none => simp [sliceBounds, HT.sIx]
    | some i =>
      simp only [sliceBounds, HT.sIx, Option.getD_none, show (1 : Int) > 0 by decide, if_true]
      by_cases h : i < 0
      · simp only [h, if_true] <;> omega
      · simp only [h, if_false] <;> omega
theorem slicePick_cut (its : List Value) (lo hi : Option Int) : slicePick its.toArray lo hi none = ((its.drop (HT.sIx its.length 0 lo)).take (HT.sIx its.length its.length hi - HT.sIx its.length 0 lo)).toArray := by
  obtain ⟨h1, h2, h3⟩ := slice_bounds lo hi its.toArray.size
  unfold slicePick
  rw [h1, h2, h3]
  simp only [sliceRange_one, pick_run, List.size_toArray] <;> rfl
def rSlL (K : PySem.W.Frag) : V → Option Int → Option Int → Hp → VK → Prop := fun x lo hi H Q => ∃ a xs, x = .ref a ∧ SqL K H a xs ∧ ∀ p, H p = none → Q (.ref p) (upd H p (.lst (cutV xs lo hi)))
theorem sl_list : SlR X (rSlL X.K) := by
  intro pins s σ H x v vl vu lo hi sl Q I rx hs pl pu h
  obtain ⟨a, xs, rfl, hx, q⟩ := h
  cases rx
  obtain ⟨its, r, ht, hz⟩ := I.list hx
  have hlen := r.length
  refine ⟨"list", _, slot_list_getitem.lookup, ht.isList.typeIs, ?_⟩
  refine wpAny_getItem_list_slice ht.isList hs pl pu .none (by simp) ?_ (by rw [List.size_toArray] <;> omega)
  rw [slicePick_cut, ← hlen]
  refine ⟨.ref s.heap.objs.size, _, I.laid (t' := s.toks) (o := .lst (cutV xs lo hi)) (fun b ob q => Heap.get?_push_of_some _ q) (Nat.le_refl _) ?_, rfl, q _ (I.hok.fresh (Nat.le_refl _))⟩
  exact ⟨Nat.le_trans (cutV_length xs lo hi) hz, _, 0, (r.drop (HT.sIx xs.length 0 lo)).take (HT.sIx xs.length xs.length hi - HT.sIx xs.length 0 lo), Heap.get?_push_size _ rfl⟩
def flatV : V → Bool
  | .non => true
  | .bl _ => true
  | .int _ => true
  | .str _ => true
  | _ => false
def eqV : V → V → Bool
  | .non, .non => true
  | .bl a, .bl b => a == b
  | .bl a, .int b => (if a then 1 else 0) == b
  | .int a, .bl b => a == (if b then 1 else 0)
  | .int a, .int b => a == b
  | .str a, .str b => a == b
  | _, _ => false
theorem eqAt_V {A : Around} {s : Shared} {y x : V} {u v : Value} (ry : RelV y u) (rx : RelV x v) (fy : flatV y = true) (fx : flatV x = true) : SeqAt.EqAt A s u v (eqV y x) := by
  cases y with
  | non =>
    cases ry
    cases x with
    | non => cases rx; exact SeqAt.EqAt.same _
    | bl b => cases rx; exact SeqAt.EqAt.none_bool b
    | int b => obtain ⟨t, rfl⟩ := rx; exact SeqAt.EqAt.none_int b t
    | str b => obtain ⟨t, rfl⟩ := rx; exact SeqAt.EqAt.none_str b t
    | _ => exact absurd (show false = true from fx) Bool.false_ne_true
  | bl a =>
    cases ry
    cases x with
    | non => cases rx; exact SeqAt.EqAt.bool_none a
    | bl b => cases rx; exact SeqAt.EqAt.bool_bool a b
    | int b => obtain ⟨t, rfl⟩ := rx; exact SeqAt.EqAt.bool_int a b t
    | str b => obtain ⟨t, rfl⟩ := rx; exact SeqAt.EqAt.bool_str a b t
    | _ => exact absurd (show false = true from fx) Bool.false_ne_true
  | int a =>
    obtain ⟨t', rfl⟩ := ry
    cases x with
    | non => cases rx; exact SeqAt.EqAt.int_none a t'
    | bl b => cases rx; exact SeqAt.EqAt.int_bool a t' b
    | int b => obtain ⟨t, rfl⟩ := rx; exact SeqAt.EqAt.int_int a t' b t
    | str b => obtain ⟨t, rfl⟩ := rx; exact SeqAt.EqAt.int_str a t' b t
    | _ => exact absurd (show false = true from fx) Bool.false_ne_true
  | str a =>
    obtain ⟨t', rfl⟩ := ry
    cases x with
    | non => cases rx; exact SeqAt.EqAt.str_none a t'
    | bl b => cases rx; exact SeqAt.EqAt.str_bool a t' b
    | int b => obtain ⟨t, rfl⟩ := rx; exact SeqAt.EqAt.str_int a t' b t
    | str b => obtain ⟨t, rfl⟩ := rx; exact SeqAt.EqAt.str_str a t' b t
    | _ => exact absurd (show false = true from fx) Bool.false_ne_true
  | _ => exact absurd (show false = true from fy) Bool.false_ne_true
def eqU (x : V) (u : Value) : Bool := match u with
  | .none => eqV .non x
  | .bool b => eqV (.bl b) x
  | .int i _ => eqV (.int i) x
  | .str z _ => eqV (.str z) x
  | _ => false
theorem eqU_of {x y : V} {u : Value} (r : RelV y u) (f : flatV y = true) : eqU x u = eqV y x := by
  cases y with
  | non => cases r; rfl
  | bl b => cases r; rfl
  | int i => obtain ⟨t, rfl⟩ := r; rfl
  | str z => obtain ⟨t, rfl⟩ := r; rfl
  | _ => exact absurd (show false = true from f) Bool.false_ne_true
theorem any_eqU {x : V} : ∀ {xs : List V} {us : List Value}, Vals xs us → xs.all flatV = true → us.any (eqU x) = xs.any fun y => eqV y x
  | _, _, .nil, _ => rfl
  | y :: xs, u :: us, .cons r t, f => by
    rw [List.all_cons, Bool.and_eq_true] at f
    rw [List.any_cons, List.any_cons, eqU_of r f.1, any_eqU t f.2]
theorem mem_eqAt {A : Around} {s : Shared} {x : V} {v : Value} (rx : RelV x v) (fx : flatV x = true) : ∀ {xs : List V} {us : List Value}, Vals xs us → xs.all flatV = true → ∀ u ∈ us, SeqAt.EqAt A s u v (eqU x u)
  | _, _, .nil, _ => fun u hu => by cases hu
  | y :: xs, u :: us, .cons r t, f => fun u' hu => by
    rw [List.all_cons, Bool.and_eq_true] at f
    rcases List.mem_cons.mp hu with rfl | hu
    · rw [eqU_of r f.1]; exact eqAt_V r rx f.1 fx
    · exact mem_eqAt rx fx t f.2 u' hu
def inV (x : V) (xs : List V) : Bool := xs.any fun y => eqV y x
def rIn (K : PySem.W.Frag) (neg : Bool) : R2 := fun x y H Q => ∃ p xs, y = .ref p ∧ (SqL K H p xs ∨ SqT K H p xs) ∧ flatV x = true ∧ xs.all flatV = true ∧ Q (.bl (if neg then !inV x xs else inV x xs)) H
theorem op_in_seq : OpR X (compareOp .In) (rIn X.K false) := by
  intro pins s σ H x y v u Q I rx ry h
  obtain ⟨p, xs, rfl, hq, fx, fs, q⟩ := h
  cases ry
  rcases hq with hq | hq
  · obtain ⟨its, r, pl, hz⟩ := I.list hq
    refine SeqAt.in_listAt (eqU x) pl.isList (fun w hw => mem_eqAt rx fx r fs w (by simpa using hw)) ⟨.bl _, H, I, rfl, ?_⟩
    rw [show its.toArray.any (eqU x) = its.any (eqU x) by simp, any_eqU r fs]
    exact q
  · obtain ⟨its, r, pl, hz⟩ := I.tuple hq
    refine SeqAt.in_tupleAt (eqU x) pl (fun w hw => mem_eqAt rx fx r fs w (by simpa using hw)) ⟨.bl _, H, I, rfl, ?_⟩
    rw [show its.toArray.any (eqU x) = its.any (eqU x) by simp, any_eqU r fs]
    exact q
theorem call_len_seq : CallR X (.builtin "len") (fun xs H Q => ∃ p ys, xs = [.ref p] ∧ (SqL X.K H p ys ∨ SqT X.K H p ys) ∧ Q (.int ys.length) H) := by
  intro pins s σ H xs us Q I r h
  obtain ⟨p, ys, rfl, hq, q⟩ := h
  obtain ⟨u, rfl, rx⟩ := vals1 r
  cases rx
  have hn := line63
  rcases hq with hq | hq
  · obtain ⟨its, r', pl, hz⟩ := I.list hq
    have hlen := r'.length
    exact Calls.call_len_list pl.isList (by simp only [List.size_toArray] <;> omega) ⟨.int ys.length, H, I.tok _, ⟨s.toks + 1, by rw [List.size_toArray, hlen]⟩, q⟩
  · obtain ⟨its, r', pl, hz⟩ := I.tuple hq
    have hlen := r'.length
    exact len_tuple pl (by simp only [List.size_toArray] <;> omega) ⟨.int ys.length, H, I.tok _, ⟨s.toks + 1, by rw [List.size_toArray, hlen]⟩, q⟩
theorem call_len_str : CallR X (.builtin "len") (fun xs H Q => ∃ z, xs = [.str z] ∧ z.length ≤ sizeLine ∧ Q (.int z.length) H) := by
  intro pins s σ H xs us Q I r h
  obtain ⟨z, rfl, hz, q⟩ := h
  obtain ⟨u, rfl, t, rfl⟩ := vals1 r
  have hn := line63
  exact len_str (by omega) ⟨.int z.length, H, I.tok _, ⟨_, rfl⟩, q⟩
theorem CallR.or {f : Value} {r r' : List V → Hp → VK → Prop} (h : CallR X f r) (h' : CallR X f r') : CallR X f (fun xs H Q => r xs H Q ∨ r' xs H Q) := by
  intro pins s σ H xs us Q I rs q
  rcases q with q | q
  · exact h pins s σ H xs us Q I rs q
  · exact h' pins s σ H xs us Q I rs q
theorem call_list_of : CallR X (.type "list") (fun xs H Q => ∃ p ys, xs = [.ref p] ∧ (SqL X.K H p ys ∨ SqT X.K H p ys) ∧ ∀ l, H l = none → Q (.ref l) (upd H l (.lst ys))) := by
  intro pins s σ H xs us Q I r h
  obtain ⟨p, ys, rfl, hq, q⟩ := h
  obtain ⟨u, rfl, rx⟩ := vals1 r
  cases rx
  have fin : ∀ (its : List Value), Vals ys its → ys.length ≤ sizeLine → ∀ (h' : Heap) (c' : Nat), (∀ b o', s.heap.get? b = some o' → h'.get? b = some o') →
      h'.get? s.heap.objs.size = some { cls := .type "list", dict := none, data := .seq its.toArray c', slots := #[] } → EP X pins σ Q (.ref s.heap.objs.size) { s with heap := h' } := fun its r' hz h' c' kp e =>
    ⟨.ref s.heap.objs.size, _, I.laid (t' := s.toks) kp (Nat.le_refl _) (show ObjOk X.prog X.w _ h' _ (.lst ys) from ⟨hz, its, c', r', e⟩), rfl, q _ (I.hok.fresh (Nat.le_refl _))⟩
  rcases hq with hq | hq
  · obtain ⟨its, r', pl, hz⟩ := I.list hq
    have hlen := r'.length
    obtain ⟨o, ho, hc, n, hd⟩ := pl.isList
    exact call_list_seq p (.inl rfl) ho hc hd (fun h' c' kp e => fin its r' hz h' c' kp e) (by simp only [List.size_toArray] <;> omega)
  · obtain ⟨its, r', pl, hz⟩ := I.tuple hq
    have hlen := r'.length
    obtain ⟨o, ho, hc, n, hd⟩ := pl
    exact call_list_seq p (.inr rfl) ho hc hd (fun h' c' kp e => fin its r' hz h' c' kp e) (by simp only [List.size_toArray] <;> omega)
theorem call_tuple_of : CallR X (.type "tuple") (fun xs H Q => ∃ p ys, xs = [.ref p] ∧ ((SqL X.K H p ys ∧ ∀ l, H l = none → Q (.ref l) (upd H l (.tup ys))) ∨ (SqT X.K H p ys ∧ Q (.ref p) H))) := by
  intro pins s σ H xs us Q I r h
  obtain ⟨p, ys, rfl, h⟩ := h
  obtain ⟨u, rfl, rx⟩ := vals1 r
  cases rx
  rcases h with ⟨hq, q⟩ | ⟨hq, q⟩
  · obtain ⟨its, r', pl, hz⟩ := I.list hq
    have hlen := r'.length
    refine call_tuple_list pl.isList (fun h' kp => ?_) (by simp only [List.size_toArray] <;> omega)
    have I1 : Inv X pins σ H { s with heap := h' } := I.kept (t' := s.toks) kp
    have I2 : Inv X pins σ (upd H h'.objs.size (.tup ys)) { s with heap := h'.push { cls := .type "tuple", data := .seq its.toArray } } :=
      I1.laid (t' := s.toks) (fun b o e => Heap.get?_push_of_some _ e) (Nat.le_refl _) (show ObjOk X.prog X.w _ _ _ (.tup ys) from ⟨hz, its, r', IsTup.new _ _⟩)
    exact ⟨.ref h'.objs.size, _, I2, rfl, q _ (I1.hok.fresh (Nat.le_refl _))⟩
  · obtain ⟨its, r', pl, hz⟩ := I.tuple hq
    exact call_tuple_same pl ⟨.ref p, H, I, rfl, q⟩
def tyV (K : PySem.W.Frag) (T : String) (x : V) (H : Hp) : Prop := match x with
  | .str _ => T = "str"
  | .int _ => T = "int"
  | .ref p => (T = "list" ∧ ∃ xs, SqL K H p xs) ∨ (T = "tuple" ∧ ∃ o, K.lookup p = some o ∧ o.cls = .type "tuple" ∧ o.dict = none) ∨
      (T = "dict" ∧ ((∃ kvs, H p = some (.dK kvs)) ∨ ∃ kvs, H p = some (.dT kvs))) ∨ (T = "set" ∧ ∃ S n, H p = some (.set S n))
  | _ => False
theorem tyV_is {pins : List (Addr × Obj)} {σ : St} {H : Hp} {s : Shared} {T : String} {x : V} {v : Value} (I : Inv X pins σ H s) (r : RelV x v) (ty : tyV X.K T x H) :
    s.TypeIs v T ∧ ∀ a, v = .ref a → ∃ ob, s.heap.get? a = some ob ∧ ob.dict = none := by
  cases x with
  | str z =>
    obtain ⟨t, rfl⟩ := r
    cases (show T = "str" from ty)
    exact ⟨typeIs_str s z t, fun _ e => nomatch e⟩
  | int i =>
    obtain ⟨t, rfl⟩ := r
    cases (show T = "int" from ty)
    exact ⟨typeIs_int s i t, fun _ e => nomatch e⟩
  | ref p =>
    cases r
    rcases ty with ⟨rfl, xs, hq⟩ | ⟨rfl, o, hk, hc, hd⟩ | ⟨rfl, hk⟩ | ⟨rfl, S, n, hk⟩
    · obtain ⟨its, _, pl, _⟩ := I.list hq
      refine ⟨pl.isList.typeIs, fun a e => ?_⟩
      cases e
      obtain ⟨o, n, e, c, hd, _⟩ := pl
      exact ⟨o, e, hd⟩
    · refine ⟨⟨o, I.kIn p o hk, hc⟩, fun a e => ?_⟩
      cases e
      exact ⟨o, I.kIn _ o hk, hd⟩
    · have z : ∃ o, s.heap.get? p = some o ∧ o.ExactDict := by
        rcases hk with ⟨kvs, hk⟩ | ⟨kvs, hk⟩
        · obtain ⟨_, _, _, _, o, _, _, e, ex, _⟩ := I.hok p _ hk
          exact ⟨o, e, ex⟩
        · obtain ⟨_, _, _, _, o, _, _, e, ex, _⟩ := I.hok p _ hk
          exact ⟨o, e, ex⟩
      obtain ⟨o, e, ex⟩ := z
      refine ⟨⟨o, e, ex.1⟩, fun a e2 => ?_⟩
      cases e2
      exact ⟨o, e, ex.2.1⟩
    · obtain ⟨o, _, _, _, e, ex, _⟩ := I.hok p _ hk
      refine ⟨⟨o, e, ex.1⟩, fun a e2 => ?_⟩
      cases e2
      exact ⟨o, e, ex.2.1⟩
  | _ => exact False.elim ty
def tBM0 (K : PySem.W.Frag) (T : String) (r : V → List V → Hp → VK → Prop) (to : TE) : TE := fun σ H Q => to σ H fun x H1 => tyV K T x H1 ∧ r x [] H1 Q
def tBM (K : PySem.W.Frag) (T : String) (r : V → List V → Hp → VK → Prop) (to : TE) (t : TA) : TE := fun σ H Q => to σ H fun x H1 => tyV K T x H1 ∧ t σ H1 fun xs H2 => r x xs H2 Q
variable {o e : Expr} {es : List Expr} {to : TE} {t : TA} {name : Str} {apos cpos : Pos} {T id : String} {r : V → List V → Hp → VK → Prop}
theorem pe_bm0 (pa : PlainAttrs T) (slot : Slot T name id) (hty : typeOf (.builtin id) = pure (.type "method_descriptor")) (hm : MtR X id r) (ho : PE X o to)
    (hbase : attributeBase o name X.env (eval o X.env) = eval o X.env := by rfl) (hline : (apos.endLine == cpos.line) = true := by rfl) : PE X (.Call (.Attribute o name apos) [] [] cpos) (tBM0 X.K T r to) := by
  intro pins s σ H Q I h
  refine wpAny_Call_method0_late hbase hline (thn (ho pins s σ H _ I h) fun v s1 ⟨x, H1, I1, r1, ty, q1⟩ => ?_)
  obtain ⟨h1, h2⟩ := tyV_is I1 r1 ty
  exact ⟨T, id, pa, slot, hty, h1, h2, Calls.callWith_builtin rfl (PySem.evalArgs_none (hm pins s1 σ H1 x [] v [] Q I1 r1 .nil q1))⟩
theorem pe_bm (pa : PlainAttrs T) (slot : Slot T name id) (hty : typeOf (.builtin id) = pure (.type "method_descriptor")) (hm : MtR X id r) (ho : PE X o to) (ha : PA X (e :: es) t)
    (hbase : attributeBase o name X.env (eval o X.env) = eval o X.env := by rfl)
    (hfew : ((backTo cpos (starEach (e :: es) X.env)).all (fun x => !x.1) && (backToKw cpos (keywordEach [] X.env)).all (fun x => x.1.isSome)
      && decide ((e :: es).length + ([] : List Keyword).length + (if ([] : List Keyword).isEmpty then 0 else 1) < 30)) = true := by rfl)
    (hline : (apos.endLine == cpos.line) = true := by rfl) (hs : starEach (e :: es) X.env = (false, eval e X.env) :: starEach es X.env := by rfl) (hplain : (backTo cpos (starEach es X.env)).any (·.1) = false := by rfl) :
    PE X (.Call (.Attribute o name apos) (e :: es) [] cpos) (tBM X.K T r to t) := by
  intro pins s σ H Q I h
  refine wpAny_Call_method_late hbase hfew hline rfl (thn (ho pins s σ H _ I h) fun v s1 ⟨x, H1, I1, r1, ty, q1⟩ => ?_)
  obtain ⟨h1, h2⟩ := tyV_is I1 r1 ty
  refine ⟨T, id, pa, slot, hty, h1, h2, ?_⟩
  have hA := ha cpos pins s1 σ H1 _ I1 q1
  rw [hs] at hA ⊢
  refine Calls.callWith_builtin (by show (false || (backTo cpos (starEach es X.env)).any (·.1)) = false; rw [hplain] <;> rfl) (Calls.evalArgs_plain ?_)
  exact thn hA fun us s2 ⟨vs, H2, I2, r2, q2⟩ => hm pins s2 σ H2 x vs v us Q I2 r1 r2 q2
end
end L2
namespace L2
open PySem PySem.Spec PyProof.Rows
def MtM (X : Cx) (id : String) (r : V → List V → Hp → VK → Prop) : Prop :=
  ∀ (pins : List (Addr × Obj)) (s : Shared) (σ : St) (H : Hp) (x : V) (xs : List V) (v : Value) (us : List Value) (Q : VK), Inv X pins σ H s → RelV x v → Vals xs us → r x xs H Q →
    wpAny (model X.prog X.w) X.A (call (.builtin id) (v :: us)) (EP X pins σ Q) X.xe s
theorem Vals.one : ∀ {x : V} {us : List Value}, Vals [x] us → ∃ u, us = [u] ∧ RelV x u
  | _, _, .cons r .nil => ⟨_, rfl, r⟩
theorem Vals.two : ∀ {x y : V} {us : List Value}, Vals [x, y] us → ∃ u v, us = [u, v] ∧ RelV x u ∧ RelV y v
  | _, _, _, .cons r (.cons q .nil) => ⟨_, _, rfl, r, q⟩
theorem Vals.zero : ∀ {us : List Value}, Vals [] us → us = []
  | _, .nil => rfl
theorem Vals.dropLast {xs : List V} {us : List Value} (h : Vals xs us) : Vals xs.dropLast us.dropLast := by
  induction h with
  | nil => exact .nil
  | cons r t ih =>
    cases t with
    | nil => exact .nil
    | cons q t' => exact .cons r ih
theorem Vals.eraseIdx : ∀ {xs : List V} {us : List Value} (i : Nat), Vals xs us → Vals (xs.eraseIdx i) (us.eraseIdx i)
  | _, _, _, .nil => .nil
  | _, _, 0, .cons _ t => t
  | _, _, i + 1, .cons r t => .cons r (Vals.eraseIdx i t)
theorem Vals.reverse {xs : List V} {us : List Value} (h : Vals xs us) : Vals xs.reverse us.reverse := by
  induction h with
  | nil => exact .nil
  | cons r t ih => rw [List.reverse_cons, List.reverse_cons]; exact Vals.append ih (.cons r .nil)
theorem Vals.rep {xs : List V} {us : List Value} (h : Vals xs us) : ∀ k : Nat, Vals (List.replicate k xs).flatten (List.replicate k us).flatten
  | 0 => .nil
  | k + 1 => by
    rw [List.replicate_succ, List.replicate_succ, List.flatten_cons, List.flatten_cons]
    exact Vals.append h (Vals.rep h k)
theorem foldl_rep (its : List Value) : ∀ (k : Nat) (acc : List Value),
    List.foldl (fun x1 x2 => x1 ++ x2) acc.toArray (List.replicate k its.toArray) = (acc ++ (List.replicate k its).flatten).toArray
  | 0, acc => by simp
  | k + 1, acc => by
    have e : acc.toArray ++ its.toArray = (acc ++ its).toArray := by simp
    have e2 : (acc ++ its) ++ (List.replicate k its).flatten = acc ++ (List.replicate (k + 1) its).flatten := by
      rw [List.replicate_succ, List.flatten_cons, List.append_assoc]
    rw [← e2, ← foldl_rep its k (acc ++ its), ← e, List.replicate_succ, List.foldl_cons]
section
variable {X : Cx} {pins : List (Addr × Obj)} {σ : St} {H : Hp} {s : Shared} {l b : Addr} {xs ys zs : List V}
theorem Inv.lset {its its' : List Value} {n : Nat} {f : Array Value → Array Value} {t' : Nat} (I : Inv X pins σ H s) (hH : H l = some (.lst xs))
    (e : s.heap.get? l = some { cls := .type "list", data := .seq its.toArray n }) (hf : f its.toArray = its'.toArray) (hv : Vals ys its') (hz : ys.length ≤ sizeLine) :
    Inv X pins σ (upd H l (.lst ys)) { s with heap := s.heap.update l (Obj.mapSeq f), toks := t' } := by
  have q := PySem.IsL.update e f
  rw [hf] at q
  refine I.write (x := l) (e := l) (by rw [hH]; exact trivial) (.inl rfl) (fun b' u hb hu => (Heap.get?_update_other s.heap (Obj.mapSeq f) (Ne.symm hb)).trans hu) ⟨_, q⟩ ?_
  exact ⟨hz, its', _, hv, q⟩
theorem Inv.lnew {its : List Value} {t' : Nat} (I : Inv X pins σ H s) (hv : Vals ys its) (hz : ys.length ≤ sizeLine) :
    Inv X pins σ (upd H s.heap.objs.size (.lst ys)) { s with heap := s.heap.push { cls := .type "list", data := .seq its.toArray }, toks := t' } :=
  I.laid (fun _ _ q => Heap.get?_push_of_some _ q) (Nat.le_refl _) ⟨hz, its, 0, hv, Heap.get?_push_size _ rfl⟩
theorem Inv.fresh (I : Inv X pins σ H s) : H s.heap.objs.size = none := I.hok.fresh (Nat.le_refl _)
theorem Inv.lstM (I : Inv X pins σ H s) (hH : H l = some (.lst xs)) : xs.length ≤ sizeLine ∧ ∃ (its : List Value) (n : Nat), Vals xs its ∧ xs.length = its.length ∧ s.heap.get? l = some { cls := .type "list", data := .seq its.toArray n } := by
  obtain ⟨z, its, n, r, e⟩ := I.hok l _ hH
  exact ⟨z, its, n, r, r.length, e⟩
theorem notLongL {n : Nat} (h : n ≤ sizeLine) : Builtin.List.listTooLong n = false := by
  unfold Builtin.List.listTooLong
  exact decide_eq_false (by omega)
end
section
variable {X : Cx}
def rAppend : V → List V → Hp → VK → Prop := fun x vs H Q => ∃ l xs y, x = .ref l ∧ vs = [y] ∧ H l = some (.lst xs) ∧ xs.length < sizeLine ∧ Q .non (upd H l (.lst (xs ++ [y])))
theorem mt_append : MtM X "list.append" rAppend := by
  intro pins s σ H x vs v us Q I rx rv h
  obtain ⟨l, xs, y, rfl, rfl, hH, hz, q⟩ := h
  cases rx
  obtain ⟨u, rfl, ru⟩ := rv.one
  obtain ⟨z, its, n, r, hl, e⟩ := I.lstM hH
  refine call_meets F.slot_list_append ⟨_, e, rfl⟩ F.entry_list_append (F.args_list_append_2 _ _) (PySem.list_append l its.toArray n u (by rw [List.size_toArray]; omega)) ⟨e, ?_⟩
  refine ⟨.non, _, I.lset (its' := its ++ [u]) hH e (by simp) (r.append (.cons ru .nil)) ?_, rfl, q⟩
  rw [List.length_append, List.length_singleton]
  omega
def rExtend : V → List V → Hp → VK → Prop := fun x vs H Q => ∃ l b xs zs, x = .ref l ∧ vs = [.ref b] ∧ H l = some (.lst xs) ∧ H b = some (.lst zs) ∧ xs.length + zs.length ≤ sizeLine ∧ Q .non (upd H l (.lst (xs ++ zs)))
def rPop : V → List V → Hp → VK → Prop := fun x vs H Q => ∃ l xs y, x = .ref l ∧ vs = [] ∧ H l = some (.lst xs) ∧ xs[xs.length - 1]? = some y ∧ Q y (upd H l (.lst xs.dropLast))
def rPopAt : V → List V → Hp → VK → Prop := fun x vs H Q => ∃ l xs i k y, x = .ref l ∧ vs = [.int i] ∧ H l = some (.lst xs) ∧ -(2 ^ 63) ≤ i ∧ i < 2 ^ 63 ∧ seqIndex? i xs.length = some k ∧ xs[k]? = some y ∧ Q y (upd H l (.lst (xs.eraseIdx k)))
def rReverse : V → List V → Hp → VK → Prop := fun x vs H Q => ∃ l xs, x = .ref l ∧ vs = [] ∧ H l = some (.lst xs) ∧ Q .non (upd H l (.lst xs.reverse))
def rClear : V → List V → Hp → VK → Prop := fun x vs H Q => ∃ l xs, x = .ref l ∧ vs = [] ∧ H l = some (.lst xs) ∧ Q .non (upd H l (.lst []))
theorem mt_clear : MtM X "list.clear" rClear := by
  intro pins s σ H x vs v us Q I rx rv h
  obtain ⟨l, xs, rfl, rfl, hH, q⟩ := h
  cases rx
  have hus := rv.zero
  subst hus
  obtain ⟨z, its, n, r, hl, e⟩ := I.lstM hH
  refine call_meets F.slot_list_clear ⟨_, e, rfl⟩ F.entry_list_clear (F.args_list_clear_1 _) (AutoSeq1.list_clear_list_0 l its.toArray n (by rw [List.size_toArray]; omega)) ⟨e, ?_⟩
  exact ⟨.non, _, I.lset (its' := []) (ys := []) hH e rfl .nil (Nat.zero_le _), rfl, q⟩
def rCat : R2 := fun x y H Q => ∃ l b xs zs, x = .ref l ∧ y = .ref b ∧ H l = some (.lst xs) ∧ H b = some (.lst zs) ∧ xs.length + zs.length ≤ sizeLine ∧ ∀ p, H p = none → Q (.ref p) (upd H p (.lst (xs ++ zs)))
def rRep : R2 := fun x y H Q => ∃ l k xs, x = .ref l ∧ y = .int k ∧ H l = some (.lst xs) ∧ -(2 ^ 63) ≤ k ∧ k < 2 ^ 63 ∧ xs.length * k.toNat ≤ sizeLine ∧
  ∀ p, H p = none → Q (.ref p) (upd H p (.lst (List.replicate k.toNat xs).flatten))
theorem len_rep {α : Type} (xs : List α) (k : Nat) : (List.replicate k xs).flatten.length = k * xs.length := by
  induction k with
  | zero => simp
  | succ k ih => rw [List.replicate_succ, List.flatten_cons, List.length_append, ih, Nat.succ_mul, Nat.add_comm]
theorem op_rep : OpR X (binaryOp .Mult) rRep := by
  intro pins s σ H x y v u Q I rx ry h
  obtain ⟨l, k, xs, rfl, rfl, hH, h1, h2, hz, q⟩ := h
  cases rx
  obtain ⟨t, rfl⟩ := ry
  obtain ⟨z, its, n, r, hl, e⟩ := I.lstM hH
  have hlen : its.toArray.size * k.toNat ≤ sizeLine := by rw [List.size_toArray, ← hl]; exact hz
  have hcap : ¬ its.toArray.size * k.toNat > (2 ^ 63 - 1) / 8 := by
    have : (sizeLine : Nat) ≤ (2 ^ 63 - 1) / 8 := by decide
    omega
  have hfit : ¬ (!Builtin.List.listFitsIndex k) = true := by
    rw [fitsIndex_both h1 h2]
    exact Bool.false_ne_true
  have hlong : ¬ Builtin.List.listTooLong (its.toArray.size * k.toNat) = true := by
    rw [notLongL hlen]
    exact Bool.false_ne_true
  have hnew : List.foldl (fun x1 x2 => x1 ++ x2) #[] (List.replicate (if its.toArray.isEmpty = true then 0 else k.toNat) its.toArray) = (List.replicate k.toNat its).flatten.toArray := by
    have f0 : ∀ m : Nat, List.foldl (fun x1 x2 => x1 ++ x2) #[] (List.replicate m its.toArray) = (List.replicate m its).flatten.toArray := fun m => by
      have := foldl_rep its m []
      rw [List.nil_append] at this
      exact this
    rw [f0]
    cases its with
    | nil => simp
    | cons a r' => rw [if_neg (by simp)]
  refine wpAny_binaryOp_repeat_ref (T := "list") (U := "int") (by decide) ⟨_, e, rfl⟩ (fun s' => typeIs_int s' k t) noFill_list_mul F.fills_int_mul F.slot_int_rmul repeat_list F.slot_int_index.lookup
    (call_meets F.slot_int_rmul (typeIs_int s k t) F.entry_int_rmul (F.args_int_rmul_2 _ _) (int___rmul___int_list k t l its.toArray n)
      ⟨e, rfl, ⟨_, e, rfl⟩, call_meets F.slot_list_mul ⟨_, e, rfl⟩ F.entry_list_mul (F.args_list_mul_2 _ _) (AutoListH.list___mul___list_int_3 l its.toArray n k t hfit hcap hlong) ⟨e, ?_⟩⟩)
  rw [hnew]
  exact ⟨.ref _, _, I.lnew (t' := s.toks) (r.rep k.toNat) (by rw [len_rep, Nat.mul_comm]; exact hz), rfl, q _ I.fresh⟩
end
section
variable {prog : Program} {w : World} {A : Around} {E : Value → Shared → Prop} {s : Shared}
set_option maxRecDepth 100000 in
end
section
variable {X : Cx}
end
end L2
namespace Att
open PySem PySem.W PySem.Calls PyProof.Rows
theorem ints_of_wellAll {P : Params} {h : Heap} : ∀ (ns : List Int) (vs : List Value), WellAll P h vs (ns.map WData.int) → IntsAre vs ns := by
  intro ns
  induction ns with
  | nil =>
    intro vs w
    rw [List.map_nil] at w
    cases w
    exact .nil
  | cons n ns ih =>
    intro vs w
    rw [List.map_cons] at w
    cases w with
    | cons a b =>
      cases a
      exact .cons _ _ (ih _ b)
theorem script_of {l : OpenLaw} {n : Nat} (hn : l.most = some n) {P : Params} {h : Heap} {args : List WData} {vals : List Value}
    (hpre : l.row.toRowW.claim.pre args = true) (hwl : WellAll P h vals args) :
    ∃ a vs ns, vals = [Value.ref a] ∧ args = [WData.list (ns.map WData.int)] ∧ h.get? a = some { cls := .type "list", data := .seq vs.toArray } ∧ IntsAre vs ns ∧ ns.length ≤ n := by
  have hsh : WShape.hasAll [] args [.list .int] = true := (pre_splitW hpre).1
  have hc : l.pre.holds [] { args := args } = true := (pre_splitW hpre).2
  obtain ⟨d, r, rfl, h1, h2⟩ := hasAllW_cons hsh
  obtain rfl := hasAllW_nil h2
  obtain ⟨xs, rfl, h3⟩ := hasW_list h1
  obtain ⟨ns, rfl⟩ := items_int h3
  have hlen : ns.length ≤ n := by
    unfold OpenLaw.pre at hc
    have h4 : (WTm.not (.lt (.lit (.int (n : Int))) (.len (.arg 0)))).holds [] { args := [.list (ns.map .int)] } = true := by
      have h4 := (holds_andW hc).1
      rw [hn] at h4
      exact h4
    have h5 := condW_of h4 (w_not (w_lt w_lit (w_len_list (w_arg rfl))))
    rw [List.length_map] at h5
    refine Nat.le_of_not_lt fun q => ?_
    have q' : (n : Int) < ((ns.length : Nat) : Int) := by omega
    first
      | (rw [decide_eq_true q'] at h5; exact absurd h5 (by decide))
      | (simp at h5; omega)
  cases hwl with
  | cons w1 w2 =>
    cases w2
    cases w1 with
    | list ho hall => exact ⟨_, _, ns, rfl, rfl, ho, ints_of_wellAll ns _ hall, hlen⟩
theorem post_true (l : OpenLaw) (args : List WData) : l.row.toRowW.claim.post args (.bool true) args = true :=
  postW_of (r := l.row.toRowW) (X := (true == true))
    (show WShape.has [] (.bool true) .bool = true by first | rfl | decide | simp [WShape.has, WShape.arms, WShape.armsAll])
    (show (WTm.eq .res (.lit (.bool true))).value [] { args := args, res := some (.bool true), after := args } = some (.bool (true == true)) from w_eq_bool (w_res rfl) w_lit) rfl
theorem attach_call {l : OpenLaw} {n : Nat} {q : Program} {loose : List Str} {XP : (Str → Option Value) → Heap → Prop} {YP : World → Heap → Prop} {d : DefRec}
    (hn : l.most = some n) (hdf : d.params.defaults = [])
    (call : ∀ (w : World) (s₀ s₁ : Shared) (mg mb : Str → Option Value) (fa : Addr) (o : Obj) (pm cd doc : Value) (a : Addr) (vs : List Value) (ns : List Int),
      Ground q loose [] XP w s₀ mg mb s₁.heap → YP w s₁.heap →
      s₁.heap.get? fa = some o → o.data = .func (docDef d.name d.params d.body d.scope pm cd doc) → s₁.heap.CodeRec cd d.name → mg d.name = some (.ref fa) →
      s₁.heap.get? a = some { cls := .type "list", data := .seq vs.toArray } → IntsAre vs ns → ns.length ≤ n → s₁.gens = #[] →
      codeAny (model l.prog w) callerA (.call (.ref fa) ⟨[.ref a], []⟩) (fun r s' => r = .ok (.ret (.bool true)) ∧ OldK s₁.heap s'.heap ∧ s'.os = s₁.os ∧ AllBare s'.gens) s₁) :
    WalkO q loose XP YP l.row.toRowW d [] (fun f vs => PySem.call f vs) := by
  intro w s₀ s₁ mg mb G Y fa o pm cd doc dV kV ho hd hcd hD hmg hg args vals as hpre hlay hrd hwl hlo
  obtain rfl : dV = .none := Dflts.none hD hdf
  obtain rfl : kV = .none := Dflts.noKw hD
  obtain ⟨a, vs, ns, rfl, rfl, hobj, hints, hlen⟩ := script_of hn hpre hwl
  refine enter_call (codeAny_mono (call w s₀ s₁ mg mb fa o pm cd doc a vs ns G Y ho (fd_plain hd) hcd hmg hobj hints hlen hg) fun r s' hq => ?_)
  obtain ⟨rfl, h2, h3, h4⟩ := hq
  exact ⟨.inl ⟨.bool true, .bool true, [], rfl, fun _ => rfl, .bool true, post_true l _, fun _ => ⟨List.Pairwise.nil, fun _ hm => (nomatch hm)⟩⟩, h2, h3, h4⟩
section
variable {prog : Program} {w : World} {A : Around} {E : Value → Shared → Prop} {s : Shared} {K : Frag}
def noObjs (h : Heap) : Heap := { h with objs := #[] }
def ledger (h : Heap) (L d : Addr) : List (Addr × Obj) := (List.range h.objs.size).filterMap fun a => if a = L ∨ a = d then none else (h.get? a).map fun o => (a, o)
end
end Att
namespace L2
open PySem PySem.Spec PyProof.Rows
theorem vals_ints : ∀ {vs : List Value} {ns : List Int}, IntsAre vs ns → Vals (ns.map V.int) vs
  | _, _, .nil => .nil
  | _, _, .cons n t h => .cons ⟨t, rfl⟩ (vals_ints h)
def Only (H : Hp) : Prop := ∀ b, H b = none ∨ ∃ o xs, H b = some (.frz o (.lst xs))
theorem law_call {P : Program} {w : World} {K : PySem.W.Frag} {mg mb : Str → Option Value} {CX : CXT} {k : Nat} {fa a : Addr} {fd : FuncData} {x : Str} {sp : Sp} {s₁ : Shared} {vs : List Value} {ns : List Int}
    (KX : K.In s₁.heap) (hns : s₁.heap.Ns mainGlobals mg) (hb : s₁.heap.Ns builtinsNs mb) (hbb : ∀ x : Str, x ≠ "__name__" → mb x = bootBuiltins x) (hlim : s₁.heap.NoLimit) (hg : s₁.gens = #[])
    (ha : s₁.heap.get? a = some { cls := .type "list", data := .seq vs.toArray }) (hi : IntsAre vs ns) (hl : ns.length ≤ sizeLine) (hr : Room k callerA)
    (F : ∀ base : Heap, K.In base → base.Ns mainGlobals mg → FnOk P w K mg base CX k fa fd [x] sp) (hbind : ∀ (s : Shared) (u : Value), BindsTo s fd ⟨[u], []⟩ [(x, u)])
    (hsp : ∀ H : Hp, Only H → SqL K H a (ns.map V.int) → sp [.ref a] H (fun v _ => v = .bl true) fun _ _ _ => False)
    (hCX : ∀ H e s', CX [] H s₁ (fun _ _ _ => False) e s' → False) :
    codeAny (model P w) callerA (.call (.ref fa) ⟨[.ref a], []⟩) (fun r s' => r = .ok (.ret (.bool true)) ∧ OldK s₁.heap s'.heap ∧ s'.os = s₁.os ∧ AllBare s'.gens) s₁ := by
  have rv := vals_ints hi
  have lenV := hi.length
  have core : ∀ H : Hp, Only H → SqL K H a (ns.map V.int) → HOk P w H s₁.heap → (∀ b, H b ≠ none → b = a) → (H a ≠ none → K.lookup a = none) →
      codeAny (model P w) callerA (.call (.ref fa) ⟨[.ref a], []⟩) (fun r s' => r = .ok (.ret (.bool true)) ∧ OldK s₁.heap s'.heap ∧ s'.os = s₁.os ∧ AllBare s'.gens) s₁ := by
    intro H hO hS hok hA hK
    have base_of : ∀ {b : Addr} {o : Obj}, s₁.heap.get? b = some o → H b = none → (hidT s₁.heap H).get? b = some o := fun e n => hidT_get e n
    have noA : ∀ {b : Addr} {o : Obj} {es : Array DictEntry} {ep : Nat}, s₁.heap.get? b = some o → o.data = .dict es ep → H b = none := fun {b o es ep} e d => by
      cases q : H b with
      | none => rfl
      | some u =>
        have e' : b = a := hA b (by rw [q]; simp)
        subst e'
        rw [ha] at e; cases e
        have d' : Data.seq vs.toArray _ = Data.dict es ep := d
        cases d'
    have nsK : ∀ {b : Addr} {m : Str → Option Value}, s₁.heap.Ns b m → (hidT s₁.heap H).Ns b m := fun {b m} ⟨o, es, ep, e, d, r⟩ => ⟨o, es, ep, base_of e (noA e d), d, r⟩
    have hKb : K.In (hidT s₁.heap H) := fun b o e => base_of (KX b o e) (by
      cases q : H b with
      | none => rfl
      | some u =>
        have e' : b = a := hA b (by rw [q]; simp)
        subst e'
        rw [hK (by rw [q]; simp)] at e; cases e)
    have hM : Mod K mg (hidT s₁.heap H) := ⟨hKb, nsK hns, ⟨mb, nsK hb, hbb⟩, let ⟨mc, h1, h2⟩ := hlim; ⟨mc, nsK h1, h2⟩⟩
    have e0 : Env0 P w K mg (hidT s₁.heap H) callerA [] s₁ H := ⟨rfl, hM, fun b o e => of_hidT e, Nat.le_of_eq (hidT_size _ _), trivial, fun b hb => absurd (show b ∈ ([] : List Addr) from hb) (by simp), hok, .of_eq hg⟩
    refine codeAny_mono ((F _ hKb (nsK hns)).run callerA [] s₁ H ⟨[.ref a], []⟩ [.ref a] [.ref a] _ _ hr e0 (hbind s₁ (.ref a)) (.cons rfl .nil) (hsp H hO hS)) fun r s' h => ?_
    cases r with
    | error e => exact (hCX H e s' h).elim
    | ok fl =>
      cases fl with
      | next => exact False.elim h
      | brk => exact False.elim h
      | cont => exact False.elim h
      | ret u =>
        obtain ⟨v, H', os, bare, un, hok', r', q⟩ := h
        have q' : v = .bl true := q
        subst q'
        obtain rfl : u = Value.bool true := r'
        refine ⟨rfl, OldK.of_keep fun b o e => ?_, os, bare⟩
        cases q : H b with
        | none => exact un.keep b o e q (by intro z; exact absurd (show b ∈ ([] : List Addr) from z) (by simp)) (by simp)
        | some u =>
          rcases hO b with z | ⟨ob, xs, z⟩
          · rw [q] at z; cases z
          · have z2 := un.frzs b ob _ z
            obtain ⟨e1, _⟩ := hok b _ z
            obtain ⟨e2, _⟩ := hok' b _ z2
            rw [e] at e1; cases e1
            exact e2
  cases hk : K.lookup a with
  | some o =>
    have e := KX a o hk
    rw [ha] at e
    cases e
    refine core (fun _ => none) (fun _ => .inl rfl) (.inr ⟨_, vs.toArray, _, hk, rfl, rfl, rfl, by rw [List.size_toArray, lenV]; exact hl, by simpa using rv⟩) (fun b u z => by have z' : (none : Option HO) = some u := z; cases z') (fun b z => absurd rfl z) fun z => absurd rfl z
  | none =>
    refine core (fun b => if b = a then some (.frz { cls := .type "list", data := .seq vs.toArray } (.lst (ns.map V.int))) else none) (fun b => ?_) (.inl (.inr ⟨{ cls := .type "list", data := .seq vs.toArray }, if_pos rfl⟩)) (fun b u z => ?_) (fun b z => ?_) fun _ => hk
    · by_cases hb : b = a
      · exact .inr ⟨_, _, if_pos hb⟩
      · exact .inl (if_neg hb)
    · by_cases hb : b = a
      · have z' := (if_pos hb).symm.trans z
        cases z'
        subst hb
        exact ⟨ha, by rw [List.length_map]; exact hl, vs, _, rv, ha⟩
      · have z' := (if_neg hb).symm.trans z
        cases z'
    · by_cases hb : b = a
      · exact hb
      · exact absurd (if_neg hb) z
end L2
namespace L2
open PySem PySem.Spec PyProof.Rows
abbrev KOf {K : PySem.W.Frag} {h : Heap} (_ : K.In h) : PySem.W.Frag := K
theorem walk_of {l : PySem.W.OpenLaw} {n k : Nat} {q : Program} {loose : List Str} {XP : (Str → Option Value) → Heap → Prop} {YP : World → Heap → Prop} {d : DefRec} {K : Params → PySem.W.Frag} {CX : World → CXT} {sp : World → Sp} {x : Str}
    (hn : l.most = some n) (hn2 : n ≤ sizeLine) (hdf : d.params.defaults = []) (hr : Room k callerA)
    (hY : ∀ (w : World) (h : Heap), YP w h → (K w.params).In h)
    (F : ∀ (w : World) (mg : Str → Option Value) (fa : Addr) (h : Heap), (K w.params).In h → h.Ns mainGlobals mg → mg d.name = some (.ref fa) →
      ∃ fd : FuncData, (∀ (s : Shared) (u : Value), BindsTo s fd ⟨[u], []⟩ [(x, u)]) ∧
        ∀ base : Heap, (K w.params).In base → base.Ns mainGlobals mg → FnOk l.prog w (K w.params) mg base (CX w) k fa fd [x] (sp w))
    (hsp : ∀ (w : World) (H : Hp) (a : Addr) (ns : List Int), ns.length ≤ n → Only H → SqL (K w.params) H a (ns.map V.int) → sp w [.ref a] H (fun v _ => v = .bl true) fun _ _ _ => False)
    (hCX : ∀ (w : World) (H : Hp) (s : Shared) (e : Value) (s' : Shared), CX w [] H s (fun _ _ _ => False) e s' → False) :
    PySem.W.WalkO q loose XP YP l.row.toRowW d [] (fun f vs => PySem.call f vs) := by
  refine Att.attach_call hn hdf fun w s₀ s₁ mg mb fa o pm cd doc a vs ns G Y ho hd hcd hmg hobj hints hlen hg => ?_
  have KX := hY w _ Y
  obtain ⟨fd, hb, hF⟩ := F w mg fa _ KX G.T.g hmg
  exact law_call KX G.T.g G.T.b G.T.builtins G.T.nolimit hg hobj hints (Nat.le_trans hlen hn2) hr hF hb (fun H hO hS => hsp w H a ns hlen hO hS) fun H e s' => hCX w H s₁ e s'
end L2
namespace L2
open PySem PySem.Spec PyProof.Rows
def inClass (s : Stmt) (j : Nat) : Stmt := match s with
  | .ClassDef _ _ _ body _ _ _ _ _ _ _ => body.getD j (.Pass ⟨0, 0, 0, 0⟩)
  | _ => .Pass ⟨0, 0, 0, 0⟩
def defArgs (s : Stmt) : Arguments := match s with
  | .FunctionDef _ a _ _ _ _ _ _ _ _ => a
  | _ => { posonlyargs := [], args := [], vararg := none, kwonlyargs := [], kw_defaults := [], kwarg := none, defaults := [] }
def defBody (s : Stmt) : List Stmt := match s with
  | .FunctionDef _ _ b _ _ _ _ _ _ _ => b
  | _ => []
def defScope (s : Stmt) : Scope := match s with
  | .FunctionDef _ _ _ _ _ _ sc _ _ _ => sc
  | _ => { kind := .function, names := [], isGenerator := false, isCoroutine := false }
abbrev CX0 : CXT := fun _ _ _ _ _ _ => False
abbrev E0 : XK := fun _ _ _ => False
theorem pass0 {X : Cx} : Passes CX0 X E0 := fun _ _ _ _ _ _ _ h => h.elim
structure Fun (K : PySem.W.Frag) (x qual : Str) (st : Stmt) (f : Addr) (fd : FuncData) : Prop where
  ex : ∃ (oc : Value) (od : Option Addr) (kV doc pm : Value) (an : Option Addr) (cdv ct : Value) (osl : Array (Option Value)),
    fd = PySem.W.fnOf x qual (defArgs st) (defBody st) (defScope st) .none kV doc pm an cdv ct ∧ K.lookup f = some ⟨oc, od, .func fd, osl⟩ ∧ PySem.W.codeIn K cdv qual = true
  kp : PySem.W.keepIn K (.ref f) = true
section
variable {P : Program} {w : World} {K : PySem.W.Frag} {mg : Str → Option Value} {base : Heap}
theorem Fun.ok {x qual : Str} {st : Stmt} {f : Addr} {fd : FuncData} {N ps : List Str} {k : Nat} {sp : Sp} (F : Fun K x qual st f fd) (S : FnScope N ps (defScope st)) (len : ∀ vs H Q E, sp vs H Q E → vs.length = ps.length)
    (hbody : ∀ (cdv : Value) (A : Around) (outer : List Env) (s : Shared) (H : Hp) (vs : List V) (Q : VK) (E : XK), Room k (A.deeper (envOfC qual (defScope st) s.heap.objs.size f cdv)) → sp vs H Q E →
      ∃ t, PSs (cxOf CX0 P w K mg base N qual (defScope st) f cdv A outer s H E).nox (defBody st) t ∧ t { nx := fun _ H' => Q .non H', rt := Q } (start N vs) H) : FnOk P w K mg base CX0 (k + 1) f fd ps sp := by
  obtain ⟨oc, od, kV, doc, pm, an, cdv, ct, osl, rfl, lk, hcd⟩ := F.ex
  refine fn_of lk hcd S len fun A outer s H vs Q E hr hsp => ?_
  obtain ⟨t, h, q⟩ := hbody cdv A outer s H vs Q E hr hsp
  exact ⟨t, h.nox, q⟩
theorem Fun.binds {x qual : Str} {st : Stmt} {f : Addr} {fd : FuncData} {ps : List Str} (F : Fun K x qual st f fd)
    (h : ∀ (kV doc pm : Value) (an : Option Addr) (cdv ct : Value) (us : List Value), us.length = ps.length → bindArgs (PySem.W.fnOf x qual (defArgs st) (defBody st) (defScope st) .none kV doc pm an cdv ct) ⟨us, []⟩ = pure (ps.zip us)) : Binds K fd ps [] := by
  obtain ⟨oc, od, kV, doc, pm, an, cdv, ct, osl, rfl, lk, hcd⟩ := F.ex
  exact .all (h kV doc pm an cdv ct)
theorem fun_mk {x qual : Str} {st : Stmt} {f : Addr} {oc : Value} {od an : Option Addr} {osl : Array (Option Value)} {kV doc pm cdv ct : Value} (l : K.lookup f = some ⟨oc, od, .func (PySem.W.fnOf x qual (defArgs st) (defBody st) (defScope st) .none kV doc pm an cdv ct), osl⟩)
    (c : PySem.W.codeIn K cdv qual = true) (k : PySem.W.keepIn K (.ref f) = true) : Fun K x qual st f (PySem.W.fnOf x qual (defArgs st) (defBody st) (defScope st) .none kV doc pm an cdv ct) := ⟨⟨oc, od, kV, doc, pm, an, cdv, ct, osl, rfl, l, c⟩, k⟩
end
section
variable {X : Cx}
theorem pv (i : Nat) {x : Str} {pos : Pos} (hN : X.N[i]? = some x := by rfl) (hv : Vis X.env.scope x := by first | exact Or.inl rfl | exact Or.inr (Or.inl rfl) | exact Or.inr (Or.inr rfl)) (hd : (x == ("__debug__" : Str)) = false := by decide)
    (hcd : (x == ("__classdict__" : Str)) = false := by decide) : PE X (.Name x pos) (tVar i) := pe_var hN hv hd hcd
end
theorem iteF {A B : Prop} (h : B) : if false = true then A else B := by
  rw [if_neg Bool.false_ne_true]
  exact h
theorem iteT {A B : Prop} (h : A) : if true = true then A else B := by
  rw [if_pos rfl]
  exact h
def Same (H H' : Hp) : Prop := ∀ b o, H b = some o → H' b = some o
theorem Same.refl (H : Hp) : Same H H := fun _ _ h => h
theorem Same.trans {H H1 H2 : Hp} (a : Same H H1) (b : Same H1 H2) : Same H H2 := fun c o h => b c o (a c o h)
theorem Same.free {H H' : Hp} (e : Same H H') {l : Addr} (h : H' l = Option.none) : H l = Option.none := by
  cases q : H l with
  | none => rfl
  | some o =>
    rw [e l o q] at h
    cases h
theorem Same.seq {K : PySem.W.Frag} {H H' : Hp} {a : Addr} {xs : List V} (e : Same H H') (h : SqL K H a xs) : SqL K H' a xs := by
  rcases h with (h | ⟨o, h⟩) | h
  · exact .inl (.inl (e _ _ h))
  · exact .inl (.inr ⟨o, e _ _ h⟩)
  · exact .inr h
end L2
namespace L3
open PySem
inductive D where
  | non | bl (b : Bool) | int (i : Int) | str (x : Str) | tup (ds : List D) | lst (ds : List D) | obj (c : String) (ns : List Str) (ds : List D)
inductive O where
  | lst (ds : List D) | obj (c : String) (ns : List Str) (ds : List D)
def O.val : O → D
  | .lst ds => .lst ds
  | .obj c ns ds => .obj c ns ds
inductive S where
  | sh (d : D) | own (o : O)
def S.val : S → D
  | .sh d => d
  | .own o => o.val
inductive R where
  | ok (s : S) | exc (x : D)
abbrev MEnv := List (Option S)
inductive Out where
  | next (ρ : MEnv) | brk (ρ : MEnv) | cont (ρ : MEnv) | ret (s : S) | exc (x : D)
abbrev ME := MEnv → Option R
abbrev MC := MEnv → Option Out
inductive RI where
  | ok (ds : List D) | exc (x : D)
abbrev MI := MEnv → Option RI
abbrev MB := D → MEnv → Option MEnv
@[reducible] def okD (d : D) : Option R := some (.ok (.sh d))
@[reducible] def okI (i : Int) : Option R := okD (.int i)
@[reducible] def okB (b : Bool) : Option R := okD (.bl b)
@[reducible] def okL (ds : List D) : Option R := some (.ok (.own (.lst ds)))
def a0R (r : Option R) (k : D → Option R) : Option R := match r with
  | some (.ok s) => k s.val
  | some (.exc x) => some (.exc x)
  | none => none
def a3r (r : Option R) (k : S → Option Out) : Option Out := match r with
  | some (.ok s) => k s
  | some (.exc x) => some (.exc x)
  | none => none
@[simp] theorem bindV_ok (s : S) (k : D → Option R) : a0R (some (.ok s)) k = k s.val := rfl
@[simp] theorem bindV_exc (x : D) (k : D → Option R) : a0R (some (.exc x)) k = some (.exc x) := rfl
@[simp] theorem bindV_none (k : D → Option R) : a0R none k = none := rfl
@[simp] theorem bindO_ok (s : S) (k : S → Option Out) : a3r (some (.ok s)) k = k s := rfl
@[simp] theorem bindO_exc (x : D) (k : S → Option Out) : a3r (some (.exc x)) k = some (.exc x) := rfl
@[simp] theorem bindO_none (k : S → Option Out) : a3r none k = none := rfl
@[simp] theorem S.val_sh (d : D) : (S.sh d).val = d := rfl
@[simp] theorem S.val_own (o : O) : (S.own o).val = o.val := rfl
@[simp] theorem O.val_lst (ds : List D) : (O.lst ds).val = .lst ds := rfl
@[simp] theorem O.val_obj (c : String) (ns : List Str) (ds : List D) : (O.obj c ns ds).val = .obj c ns ds := rfl
def eVar (i : Nat) : ME := fun ρ => match ρ[i]? with
  | some (some (.sh d)) => okD d
  | _ => none
def eAny (i : Nat) : ME := fun ρ => match ρ[i]? with
  | some (some s) => okD s.val
  | _ => none
def eC (d : D) : ME := fun _ => okD d
def eUn (f : D → Option R) (a : ME) : ME := fun ρ => a0R (a ρ) f
def eBin (f : D → D → Option R) (a b : ME) : ME := fun ρ => a0R (a ρ) fun x => a0R (b ρ) fun y => f x y
def a1b : List ME → MEnv → (List D → Option R) → Option R
  | [], _, k => k []
  | e :: es, ρ, k => a0R (e ρ) fun d => a1b es ρ fun ds => k (d :: ds)
def a0o (f : List D → Option R) (as : List ME) : ME := fun ρ => a1b as ρ f
def flat : D → Bool
  | .non => true | .bl _ => true | .int _ => true | .str _ => true | _ => false
def a6x : Option R → Option R
  | some (.ok s) => if flat s.val then okD s.val else none
  | _ => none
def a0p (f : List D → Option R) (as : List ME) : ME := fun ρ => a6x (a1b as ρ f)
def lim : Nat := 1000000
def eTup (as : List ME) : ME := a0o (fun ds => if ds.length ≤ lim then okD (.tup ds) else none) as
def eLst (as : List ME) : ME := a0o (fun ds => if ds.length ≤ lim then okL ds else none) as
def asB : D → (Bool → Option R) → Option R
  | .bl b, k => k b
  | _, _ => none
def eAnd (a b : ME) : ME := fun ρ => a0R (a ρ) fun x => asB x fun c => if c = true then b ρ else okB false
def eOr (a b : ME) : ME := fun ρ => a0R (a ρ) fun x => asB x fun c => if c = true then okB true else b ρ
def dNot (x : D) : Option R := asB x fun c => okB (!c)
def eNot (a : ME) : ME := eUn dNot a
def eIf (c a b : ME) : ME := fun ρ => a0R (c ρ) fun x => asB x fun t => if t = true then a ρ else b ρ
def sSeq (a b : MC) : MC := fun ρ => match a ρ with
  | some (.next ρ') => b ρ'
  | o => o
def a0Q : MC := fun ρ => some (.next ρ)
def sBrk : MC := fun ρ => some (.brk ρ)
def sCont : MC := fun ρ => some (.cont ρ)
def sSet (i : Nat) (e : ME) : MC := fun ρ => a3r (e ρ) fun s => some (.next (ρ.set i (some s)))
def sExpr (e : ME) : MC := fun ρ => a3r (e ρ) fun _ => some (.next ρ)
def sRet (e : ME) : MC := fun ρ => a3r (e ρ) fun s => some (.ret s)
def asBO : D → (Bool → Option Out) → Option Out
  | .bl b, k => k b
  | _, _ => none
def sIf (c : ME) (a b : MC) : MC := fun ρ => a3r (c ρ) fun s => asBO s.val fun t => if t = true then a ρ else b ρ
def dem (i : Nat) (ρ : MEnv) : MEnv := match ρ[i]? with
  | some (some (.own o)) => ρ.set i (some (.sh o.val))
  | _ => ρ
def sDem (i : Nat) (c : MC) : MC := fun ρ => c (dem i ρ)
def ownL (i : Nat) (ρ : MEnv) (k : List D → Option Out) : Option Out := match ρ[i]? with
  | some (some (.own (.lst ds))) => k ds
  | _ => none
def a2g (i : Nat) (e : ME) : MC := fun ρ => ownL i ρ fun ds => a3r (e ρ) fun s => if ds.length < lim then some (.next (ρ.set i (some (.own (.lst (ds ++ [s.val])))))) else none
def a5e : D → Option (List D)
  | .lst ds => some ds
  | .tup ds => some ds
  | _ => none
def sExtend (i : Nat) (e : ME) : MC := fun ρ => ownL i ρ fun ds => a3r (e ρ) fun s => match a5e s.val with
  | some es => if ds.length + es.length ≤ lim then some (.next (ρ.set i (some (.own (.lst (ds ++ es)))))) else none
  | none => none
def ixD (n : Nat) (i : Int) : Option Nat := if 0 ≤ i then (if i < n then some i.toNat else none) else if -(n : Int) ≤ i then some (i + n).toNat else none
def sSetItem (i : Nat) (k e : ME) : MC := fun ρ => a3r (e ρ) fun s => ownL i ρ fun ds => a3r (k ρ) fun z => match z.val with
  | .int j => (match ixD ds.length j with
    | some n => some (.next (ρ.set i (some (.own (.lst (ds.set n s.val))))))
    | none => none)
  | _ => none
def a1k (j : Nat) : MB := fun d ρ => some (ρ.set j (some (.sh d)))
def setAll : List Nat → List D → MEnv → MEnv
  | j :: js, d :: ds, ρ => setAll js ds (ρ.set j (some (.sh d)))
  | _, _, ρ => ρ
def bTup (js : List Nat) : MB := fun d ρ => match d with
  | .tup ds => if ds.length = js.length then some (setAll js ds ρ) else none
  | _ => none
def forD (bd : MB) (body : MC) : List D → MEnv → Option Out
  | [], ρ => some (.next ρ)
  | d :: ds, ρ => match bd d ρ with
    | none => none
    | some ρ1 => match body ρ1 with
      | some (.next ρ2) => forD bd body ds ρ2
      | some (.cont ρ2) => forD bd body ds ρ2
      | some (.brk ρ2) => some (.next ρ2)
      | o => o
def sFor (it : MI) (bd : MB) (body : MC) : MC := fun ρ => match it ρ with
  | some (.ok ds) => forD bd body ds ρ
  | some (.exc x) => some (.exc x)
  | none => none
def iSeq (e : ME) : MI := fun ρ => match e ρ with
  | some (.ok s) => (a5e s.val).map .ok
  | some (.exc x) => some (.exc x)
  | none => none
def rng (lo hi : Int) : List D := (List.range (hi - lo).toNat).map fun (k : Nat) => D.int (lo + k)
def a3E (i : Int) : Bool := decide (-(2 ^ 62) ≤ i) && decide (i < 2 ^ 62)
def iArg (e : ME) (ρ : MEnv) (k : D → Option RI) : Option RI := match e ρ with
  | some (.ok s) => k s.val
  | some (.exc x) => some (.exc x)
  | none => none
def a1j (e : ME) : MI := fun ρ => iArg e ρ fun x => match x with
  | .int hi => if a3E hi = true then some (.ok (rng 0 hi)) else none
  | _ => none
def iRange2 (a b : ME) : MI := fun ρ => iArg a ρ fun x => iArg b ρ fun y => match x, y with
  | .int lo, .int hi => if a3E lo = true ∧ a3E hi = true then some (.ok (rng lo hi)) else none
  | _, _ => none
def zipD : D → D → Option RI
  | .lst xs, .lst ys => some (.ok (List.zipWith (fun u v => D.tup [u, v]) xs ys))
  | .tup xs, .tup ys => some (.ok (List.zipWith (fun u v => D.tup [u, v]) xs ys))
  | _, _ => none
def iZip (a b : ME) : MI := fun ρ => iArg a ρ fun x => iArg b ρ fun y => zipD x y
def a3K (bd : MB) (cond elt : ME) (ρ : MEnv) : List D → List D → Option R
  | [], acc => if acc.length ≤ lim then okL acc else none
  | d :: ds, acc => match bd d ρ with
    | none => none
    | some ρ1 => a0R (cond ρ1) fun c => asB c fun t => if t = true then a0R (elt ρ1) fun x => a3K bd cond elt ρ ds (acc ++ [x]) else a3K bd cond elt ρ ds acc
def a1d (js : List Nat) (ρ : MEnv) : MEnv := js.foldl (fun ρ j => ρ.set j none) ρ
def a1U (js : List Nat) (it : MI) (bd : MB) (cond elt : ME) : ME := fun ρ => match it ρ with
  | some (.ok ds) => if ds.length ≤ lim then a3K bd cond elt (a1d js ρ) ds [] else none
  | some (.exc x) => some (.exc x)
  | none => none
def a7Q (c : ME) (body : MC) : Nat → MEnv → Option Out
  | 0, _ => none
  | n + 1, ρ => a3r (c ρ) fun s => asBO s.val fun t => if t = true then (match body ρ with
      | some (.next ρ2) => a7Q c body n ρ2
      | some (.cont ρ2) => a7Q c body n ρ2
      | some (.brk ρ2) => some (.next ρ2)
      | o => o) else some (.next ρ)
def sWhile (fuel : MEnv → Nat) (c : ME) (body : MC) : MC := fun ρ => a7Q c body (fuel ρ) ρ
def a14 (n : Nat) (ds : List D) : MEnv := ds.map (fun d => some (.sh d)) ++ List.replicate (n - ds.length) none
def outR : Option Out → Option R
  | some (.ret s) => some (.ok s)
  | some (.next _) => okD .non
  | some (.exc x) => some (.exc x)
  | _ => none
def fnD (np n : Nat) (g : MC) : List D → Option R := fun ds => if ds.length = np then outR (g (a14 n ds)) else none
def dAdd : D → D → Option R
  | .int i, .int j => okI (i + j)
  | .str x, .str y => if x.length + y.length ≤ lim then okD (.str (x ++ y)) else none
  | .tup xs, .tup ys => if xs.length + ys.length ≤ lim then okD (.tup (xs ++ ys)) else none
  | .lst xs, .lst ys => if xs.length + ys.length ≤ lim then okL (xs ++ ys) else none
  | _, _ => none
def dSub : D → D → Option R
  | .int i, .int j => okI (i - j)
  | _, _ => none
def a3c (i : Int) : Bool := decide (-(2 ^ 64) < i) && decide (i < 2 ^ 64)
def dMul : D → D → Option R
  | .int i, .int j => if (a3c i || a3c j) = true then okI (i * j) else none
  | _, _ => none
def dRep (ds : List D) : D → Option R
  | .int k => if -(2 ^ 60) ≤ k ∧ k < 2 ^ 60 ∧ ds.length * k.toNat ≤ lim then okL (List.replicate k.toNat ds).flatten else none
  | _ => none
def eRep (a b : ME) : ME := fun ρ => match a ρ with
  | some (.ok (.own (.lst ds))) => a0R (b ρ) (dRep ds)
  | some (.exc x) => some (.exc x)
  | _ => none
def dMod : D → D → Option R
  | .int i, .int j => if 0 < j then okI (i % j) else none
  | _, _ => none
def a8O : D → D → Option R
  | .int i, .int j => if 0 < j ∧ j < 1073741824 then okI (i / j) else none
  | _, _ => none
def dCmp (p : Int → Int → Bool) : D → D → Option R
  | .int i, .int j => okB (p i j)
  | _, _ => none
def dLt := dCmp fun i j => decide (i < j)
def dLe := dCmp fun i j => decide (i ≤ j)
def dGt := dCmp fun i j => decide (j < i)
def dGe := dCmp fun i j => decide (j ≤ i)
def eqF : D → D → Option Bool
  | .int i, .int j => some (decide (i = j))
  | .str x, .str y => some (decide (x = y))
  | .bl x, .bl y => some (decide (x = y))
  | .non, .non => some true
  | .non, .int _ => some false | .int _, .non => some false | .non, .str _ => some false | .str _, .non => some false | .non, .bl _ => some false | .bl _, .non => some false
  | .int _, .str _ => some false | .str _, .int _ => some false | .bl _, .str _ => some false | .str _, .bl _ => some false
  | _, _ => none
def dEq (x y : D) : Option R := match eqF x y with
  | some b => okB b
  | none => none
def dNe (x y : D) : Option R := match eqF x y with
  | some b => okB (!b)
  | none => none
def dIsN : D → Option R
  | .non => okB true
  | _ => okB false
def dNotN : D → Option R
  | .non => okB false
  | _ => okB true
def atD {α : Type} (xs : List α) (i : Int) : Option α := (ixD xs.length i).bind fun j => xs[j]?
def dIx : D → D → Option R
  | .tup ds, .int i => (atD ds i).bind okD
  | .lst ds, .int i => (atD ds i).bind okD
  | .str x, .int i => if x.length ≤ lim then (atD x.cps.toList i).bind fun c => okD (.str ⟨#[c]⟩) else none
  | _, _ => none
def dLen : D → Option R
  | .tup ds => okI ds.length
  | .lst ds => okI ds.length
  | .str x => if x.length ≤ lim then okI x.length else none
  | _ => none
def intsOf : List D → Option (List Int)
  | [] => some []
  | .int i :: r => (intsOf r).map (i :: ·)
  | _ :: _ => none
def blsOf : List D → Option (List Bool)
  | [] => some []
  | .bl i :: r => (blsOf r).map (i :: ·)
  | _ :: _ => none
def dSum : D → Option R
  | .lst ds => (intsOf ds).bind fun ns => okI ns.sum
  | _ => none
def dAll : D → Option R
  | .lst ds => (blsOf ds).bind fun bs => okB (bs.all id)
  | _ => none
def dAny : D → Option R
  | .lst ds => (blsOf ds).bind fun bs => okB (bs.any id)
  | _ => none
def a30 : D → Option R
  | .lst ds => okD (.tup ds)
  | .tup ds => okD (.tup ds)
  | _ => none
def dList : D → Option R
  | .lst ds => okL ds
  | .tup ds => okL ds
  | _ => none
def a3I : D → D → Option R
  | .int lo, .int hi => if a3E lo = true ∧ a3E hi = true ∧ (hi - lo).toNat ≤ lim then okL (rng lo hi) else none
  | _, _ => none
def kindD : D → String
  | .non => "NoneType" | .bl _ => "bool" | .int _ => "int" | .str _ => "str" | .tup _ => "tuple" | .lst _ => "list" | .obj c _ _ => c
def dIsT (T : String) : D → Option R
  | .obj _ _ _ => none
  | d => okB (kindD d == T || (kindD d == "bool" && T == "int"))
def f1 (F : D → Option R) : List D → Option R
  | [d] => F d
  | _ => none
def f2 (F : D → D → Option R) : List D → Option R
  | [d, e] => F d e
  | _ => none
def a2P : ME := eC (.bl true)
end L3
namespace L3
open PySem
def dShl : D → D → Option R
  | .int i, .int j => if 0 ≤ j ∧ j ≤ 1000000 ∧ i.natAbs < 2 ^ 64 then okI (i * 2 ^ j.toNat) else none
  | _, _ => none
def dShr : D → D → Option R
  | .int i, .int j => if 0 ≤ j then okI (i / 2 ^ j.toNat) else none
  | _, _ => none
def dBand : D → D → Option R
  | .int i, .int j => if 0 ≤ i ∧ 0 ≤ j then okI ((i.toNat &&& j.toNat : Nat) : Int) else none
  | _, _ => none
def dBor : D → D → Option R
  | .int i, .int j => if 0 ≤ i ∧ 0 ≤ j then okI ((i.toNat ||| j.toNat : Nat) : Int) else none
  | _, _ => none
def dPow : D → D → Option R
  | .int i, .int j => if 0 ≤ j ∧ j ≤ 1000000 ∧ i.natAbs < 2 ^ 64 then okI (i ^ j.toNat) else none
  | _, _ => none
def dNeg : D → Option R
  | .int i => okI (-i)
  | _ => none
def dAbs : D → Option R
  | .int i => okI (if i < 0 then -i else i)
  | _ => none
def dMax2 : D → D → Option R
  | .int i, .int j => okI (if j > i then j else i)
  | _, _ => none
def dMin2 : D → D → Option R
  | .int i, .int j => okI (if j < i then j else i)
  | _, _ => none
def dInt : D → Option R
  | .int i => okI i
  | .bl b => okI (if b then 1 else 0)
  | _ => none
def bitLen (i : Int) : Nat := if i == 0 then 0 else i.natAbs.log2 + 1
def dBitLen : D → Option R
  | .int i => okI (bitLen i : Int)
  | _ => none
def truD : D → Option Bool
  | .non => some false
  | .bl b => some b
  | .int i => some (i != 0)
  | .str y => if y.length ≤ lim then some ((y.length : Int) != 0) else none
  | .tup ds => some (!ds.isEmpty)
  | .lst ds => some (!ds.isEmpty)
  | _ => none
def dTru (d : D) : Option R := (truD d).bind fun b => okB b
def eTru (a : ME) : ME := eUn dTru a
def eChain (f g : D → D → Option R) (a b c : ME) : ME := fun ρ => a0R (a ρ) fun x => a0R (b ρ) fun y => a0R (f x y) fun z => asB z fun t => if t = true then a0R (c ρ) fun w => g y w else okB false
end L3
namespace L3
open PySem
def enumD : D → Option RI
  | .lst xs => some (.ok ((List.range xs.length).zipWith (fun (i : Nat) d => D.tup [.int i, d]) xs))
  | .tup xs => some (.ok ((List.range xs.length).zipWith (fun (i : Nat) d => D.tup [.int i, d]) xs))
  | _ => none
def iEnum (a : ME) : MI := fun ρ => iArg a ρ enumD
def eqD : D → D → Bool
  | .non, .non => true
  | .bl a, .bl b => a == b
  | .bl a, .int b => (if a then 1 else 0) == b
  | .int a, .bl b => a == (if b then 1 else 0)
  | .int a, .int b => a == b
  | .str a, .str b => a == b
  | _, _ => false
def inD (x : D) (ds : List D) : Bool := ds.any fun y => eqD y x
def dIn (neg : Bool) (x y : D) : Option R := match a5e y with
  | some ds => if flat x = true ∧ ds.all flat = true then okB (if neg then !inD x ds else inD x ds) else none
  | none => none
def sIxD (n d : Nat) : Option Int → Nat
  | none => d
  | some v => if v < 0 then (v + (n : Int)).toNat else min v.toNat n
def cutD (ds : List D) (lo hi : Option Int) : List D := (ds.drop (sIxD ds.length 0 lo)).take (sIxD ds.length ds.length hi - sIxD ds.length 0 lo)
def dSlice (x : D) (lo hi : Option Int) : Option R := match x with
  | .tup ds => if sIxD ds.length 0 lo = 0 ∧ sIxD ds.length ds.length hi = ds.length then none else okD (.tup (cutD ds lo hi))
  | .lst ds => okL (cutD ds lo hi)
  | _ => none
def partD (o : Option ME) (ρ : MEnv) (k : Option Int → Option R) : Option R := match o with
  | none => k none
  | some e => a0R (e ρ) fun d => match d with
    | .int i => k (some i)
    | _ => none
def a4n (e : ME) (lo hi : Option ME) : ME := fun ρ => a0R (e ρ) fun x => partD lo ρ fun l => partD hi ρ fun h => dSlice x l h
end L3
namespace L3
open PySem
def insD (k : Int) : List Int → List Int
  | [] => [k]
  | x :: r => if k < x then k :: x :: r else if k = x then x :: r else x :: insD k r
def a3t (ns : List Int) : List Int := ns.foldr insD []
def fewD (ns : List Int) : Bool := decide (ns.length ≤ 4) && ns.all fun n => decide (0 ≤ n) && decide (n < 32)
def a5l : D → Option R
  | .lst ds => (intsOf ds).bind fun ns => if fewD ns = true then okL ((a3t ns).map D.int) else none
  | _ => none
def fldD (f : Str) : List Str → List D → Option D
  | n :: ns, d :: ds => if f == n then some d else fldD f ns ds
  | _, _ => none
def dFld (cs : List String) (f : Str) : D → Option R
  | .obj c ns ds => if cs.contains c = true then (fldD f ns ds).bind okD else none
  | _ => none
def a3q (m : Str) (tb : String → Option (List D → Option R)) (o : ME) (as : List ME) : ME := fun ρ => a0R (o ρ) fun x => match x with
  | .obj c ns ds => if ns.contains m = true then none else (match tb c with
    | some F => a1b as ρ fun vs => F (.obj c ns ds :: vs)
    | none => none)
  | _ => none
def dIsC (tb : String → Option Bool) : D → Option R
  | .obj c _ _ => (tb c).bind fun b => okB b
  | _ => none
abbrev a2F := O → List D → Option O
abbrev MG := MEnv → O → Option O
def a3H : List ME → MEnv → Option (List D)
  | [], _ => some []
  | e :: es, ρ => match e ρ with
    | some (.ok s) => (a3H es ρ).map (s.val :: ·)
    | _ => none
def putN (f : Str) : List Str → List Str
  | [] => [f]
  | n :: r => if n = f then n :: r else n :: putN f r
def putD (f : Str) (d : D) : List Str → List D → List D
  | [], _ => [d]
  | n :: ns, x :: ds => if n = f then d :: ds else x :: putD f d ns ds
  | _ :: _, [] => []
def a33 : MG := fun _ o => some o
def a2z (g h : MG) : MG := fun ρ o => (g ρ o).bind (h ρ)
def a4E (cs : List String) (f : Str) (e : ME) : MG := fun ρ o => match e ρ, o with
  | some (.ok s), .obj c ns ds => if cs.contains c = true ∧ ns.length = ds.length ∧ ns.length < 900 then some (.obj c (putN f ns) (putD f s.val ns ds)) else none
  | _, _ => none
def a3b (F : a2F) (as : List ME) : MG := fun ρ o => (a3H as ρ).bind (F o)
def fnI (np n : Nat) (g : MG) : a2F := fun o ds => if ds.length + 1 = np then g (none :: a14 (n - 1) ds) o else none
def a2I (c : String) (F : a2F) (as : List ME) : ME := fun ρ => a1b as ρ fun ds => match F (.obj c [] []) ds with
  | some o => some (.ok (.own o))
  | none => none
end L3
namespace L3
open PySem
def dMulS : D → D → Option R
  | .str x, .int n => if x.length = 1 ∧ (n = 1 ∨ n = 2) then okD (.str (if n = 1 then x else ⟨x.cps ++ x.cps⟩)) else none
  | _, _ => none
def dNeNil : D → D → Option R
  | .lst ds, .lst [] => okB (!ds.isEmpty)
  | _, _ => none
end L3
namespace L3
open PySem
def eqXs (f : D → D → Option Bool) : List D → List D → Option Bool
  | [], [] => some true
  | x :: xs, y :: ys => (f x y).bind fun b => (eqXs f xs ys).bind fun c => some (b && c)
  | _, _ => some false
def eqX : Nat → D → D → Option Bool
  | 0, _, _ => none
  | _ + 1, .int i, .int j => some (i == j)
  | _ + 1, .str x, .str y => some (x == y)
  | n + 1, .tup xs, .tup ys => eqXs (eqX n) xs ys
  | n + 1, .lst xs, .lst ys => if xs.length = ys.length then eqXs (eqX n) xs ys else some false
  | _ + 1, _, _ => none
def dEqX (n : Nat) (x y : D) : Option R := (eqX n x y).bind fun b => okB b
def dNeX (n : Nat) (x y : D) : Option R := (eqX n x y).bind fun b => okB (!b)
def inX (n : Nat) (x : D) : List D → Option Bool
  | [] => some false
  | y :: ys => (eqX n y x).bind fun b => (inX n x ys).bind fun c => some (b || c)
def dInX (neg : Bool) (n : Nat) (x : D) : D → Option R
  | .lst ds => (inX n x ds).bind fun b => okB (if neg then !b else b)
  | _ => none
theorem a3G (f : D → D → Option Bool) : ∀ (xs ys : List D) (b : Bool), eqXs f xs ys = some b → b = ((List.range (min xs.length ys.length)).all (fun j => ((xs[j]?).bind fun x => (ys[j]?).bind fun y => f x y) == some true) && (xs.length == ys.length))
  | [], [], b, h => by cases h; rfl
  | [], _ :: _, b, h => by cases h; rfl
  | _ :: _, [], b, h => by cases h; rfl
  | x :: xs, y :: ys, b, h => by
    have h : (f x y).bind (fun b => (eqXs f xs ys).bind fun c => some (b && c)) = some b := h
    cases h1 : f x y with
    | none => rw [h1] at h; cases h
    | some b1 =>
      rw [h1] at h
      cases h2 : eqXs f xs ys with
      | none => rw [h2] at h; cases h
      | some b2 =>
        rw [h2] at h
        cases h
        rw [a3G f xs ys b2 h2, List.length_cons, List.length_cons, Nat.succ_min_succ, List.range_succ_eq_map, List.all_cons, List.all_map]
        have e0 : (((x :: xs)[0]?).bind fun x => ((y :: ys)[0]?).bind fun y => f x y) = some b1 := h1
        rw [e0]
        have e1 : ((xs.length + 1 == ys.length + 1) : Bool) = (xs.length == ys.length) := by rw [Bool.eq_iff_iff, beq_iff_eq, beq_iff_eq]; omega
        rw [e1]
        cases b1 with
        | true => rfl
        | false => rfl
theorem a8M (f : D → D → Option Bool) : ∀ (xs ys : List D) (b : Bool), eqXs f xs ys = some b → ∀ (j : Nat) (x y : D), xs[j]? = some x → ys[j]? = some y → ∃ c, f x y = some c
  | [], ys, b, h, j, x, y, hx, hy => by cases hx
  | _ :: _, [], b, h, j, x, y, hx, hy => by cases hy
  | x :: xs, y :: ys, b, h, j, x', y', hx, hy => by
    have h : (f x y).bind (fun b => (eqXs f xs ys).bind fun c => some (b && c)) = some b := h
    cases h1 : f x y with
    | none => rw [h1] at h; cases h
    | some b1 =>
      rw [h1] at h
      cases h2 : eqXs f xs ys with
      | none => rw [h2] at h; cases h
      | some b2 =>
        cases j with
        | zero => cases hx; cases hy; exact ⟨b1, h1⟩
        | succ j => exact a8M f xs ys b2 h2 j x' y' hx hy
end L3
namespace L3
def a5C (i : Nat) : MC := fun ρ => ownL i ρ fun _ => some (.next (ρ.set i (some (.own (.lst [])))))
theorem clear_s {i : Nat} {ρ : MEnv} {ds : List D} (h : ρ[i]? = some (some (.own (.lst ds)))) : a5C i ρ = some (.next (ρ.set i (some (.own (.lst []))))) := by unfold a5C ownL; rw [h]
def a79 (i : Nat) : MC := fun ρ => match ρ[i]? with
  | some (some s) => some (.ret s)
  | _ => none
theorem retV_s {i : Nat} {ρ : MEnv} {s : S} (h : ρ[i]? = some (some s)) : a79 i ρ = some (.ret s) := by unfold a79; rw [h]
end L3
namespace L3
open PySem
def sCompApp (i : Nat) (js : List Nat) (it : MI) (bd : MB) (elt : ME) (z : D) : MC := fun ρ => match it ρ with
  | some (.ok (d :: ds)) => if ds.length < lim then (match bd d (a1d js ρ) with
    | some ρ1 => (match elt ρ1 with
      | some (.ok (.own (.lst es))) => (match a3K bd a2P elt (a1d js ρ) ds [] with
        | some (.ok (.own (.lst r))) => if es.length < lim then some (.next (ρ.set i (some (.own (.lst (.lst (es ++ [z]) :: r)))))) else none
        | _ => none)
      | _ => none)
    | none => none) else none
  | _ => none
end L3
namespace L3
open PySem
def a68 : D → Option R
  | .lst [.tup (.int m :: xs), .tup (.int n :: ys)] => if m < n then okL [.tup (.int m :: xs), .tup (.int n :: ys)] else if n < m then okL [.tup (.int n :: ys), .tup (.int m :: xs)] else none
  | _ => none
theorem a7K {d : D} {r : R} (h : a68 d = some r) : ∃ m n xs ys, d = .lst [.tup (.int m :: xs), .tup (.int n :: ys)] ∧ m ≠ n ∧ r = .ok (.own (.lst (if m < n then [.tup (.int m :: xs), .tup (.int n :: ys)] else [.tup (.int n :: ys), .tup (.int m :: xs)]))) := by
  unfold a68 at h
  split at h
  · rename_i m xs n ys
    refine ⟨m, n, xs, ys, rfl, ?_⟩
    by_cases c : m < n
    · rw [if_pos c] at h ⊢; cases h; exact ⟨by omega, rfl⟩
    · rw [if_neg c] at h ⊢
      by_cases c2 : n < m
      · rw [if_pos c2] at h; cases h; exact ⟨by omega, rfl⟩
      · rw [if_neg c2] at h; cases h
  · cases h
end L3
namespace L2
open PySem PySem.Spec PyProof.Rows
section
variable {X : Cx} {tg : Expr}
def iSq (K : PySem.W.Frag) (tl : TE) : TI := fun σ H R => tl σ H fun x H1 => ∃ a, x = .ref a ∧ (((∃ xs, SqL K H1 a xs) ∧ R (Itl K a) H1) ∨ ((∃ xs, SqT K H1 a xs) ∧ R (Itt K a) H1))
theorem pi_seq {l : Expr} {tl : TE} (hl : PE X l tl) : PI X tg l (iSq X.K tl) := by
  intro pins s σ H R I h
  refine thn (hl pins s σ H _ I h) fun v s1 ⟨x, H1, I1, r1, a, e, q1⟩ => ?_
  subst e
  cases r1
  have f1 : ∀ b ∈ [s1.heap.objs.size], FpOk X pins H1 b := fun b hb => by
    rw [List.mem_singleton.mp hb]
    exact I1.fpOk (Nat.le_refl _) (I1.hok.fresh (Nat.le_refl _))
  rcases q1 with ⟨⟨xs, hq⟩, q⟩ | ⟨⟨xs, hq⟩, q⟩
  · obtain ⟨its, rv, p, hz⟩ := I1.list hq
    exact wpAny_pyIter_list p.isList ⟨s1.heap.objs.size, [s1.heap.objs.size], _, _, H1, rfl, I1.kept (t' := s1.toks) (fun b o e => Heap.get?_push_of_some _ e), turn_list a _, ⟨_, Heap.get?_push_size _ rfl, rfl, rfl⟩, f1, q⟩
  · obtain ⟨its, rv, p, hz⟩ := I1.tuple hq
    exact wpAny_pyIter_tuple (show s1.heap.IsTuple a its.toArray from p) ⟨s1.heap.objs.size, [s1.heap.objs.size], _, _, H1, rfl, I1.kept (t' := s1.toks) (fun b o e => Heap.get?_push_of_some _ e), turn_tuple a _, ⟨_, Heap.get?_push_size _ rfl, rfl, rfl⟩, f1, q⟩
end
def clOf (scope : Scope) (env : PySem.Env) : List (Str × Addr) := scope.names.foldl (fun cs x => if x.2 == .free then (x.1, (env.cells.lookup x.1).getD 0) :: cs else cs) []
def a1z (sc psc : Scope) (vars : List Str) : Bool :=
  (sc.kind == .function) && sc.names.all fun y => (sc.names.lookup y.1 == some y.2) && (match y.2 with
    | .local => vars.contains y.1
    | .cell => false
    | .free => psc.names.lookup y.1 == some .cell || psc.names.lookup y.1 == some .free
    | _ => true)
def a3O (N vars : List Str) (js : List Nat) : Bool := (List.range N.length).all fun i => js.contains i || !(vars.contains (N.getD i (Str.ofString "")))
def a2i (js : List Nat) (σ : St) : St := js.foldl (fun σ j => σ.set j none) σ
theorem a3e (js : List Nat) : ∀ σ : St, (a2i js σ).length = σ.length := by
  induction js with
  | nil => intro σ; rfl
  | cons j js ih => intro σ; show (a2i js (σ.set j none)).length = _; rw [ih, List.length_set]
theorem a6w (js : List Nat) : ∀ (σ : St) (i : Nat) (v : V), (a2i js σ)[i]? = some (some v) → i ∉ js ∧ σ[i]? = some (some v) := by
  induction js with
  | nil => intro σ i v h; exact ⟨by simp, h⟩
  | cons j js ih =>
    intro σ i v h
    obtain ⟨h1, h2⟩ := ih (σ.set j none) i v h
    by_cases hj : j = i
    · subst hj
      by_cases hl : j < σ.length
      · rw [List.getElem?_set_self hl] at h2; cases h2
      · rw [List.getElem?_eq_none (by rw [List.length_set]; omega)] at h2; cases h2
    · rw [List.getElem?_set_ne hj] at h2
      exact ⟨by simp [h1, Ne.symm hj], h2⟩
section
variable {sc psc : Scope} {vars : List Str}
theorem a39 (h : a1z sc psc vars = true) : sc.kind = .function := by
  unfold a1z at h
  exact eq_of_beq (Bool.and_eq_true_iff.mp h).1
theorem a4p (h : a1z sc psc vars = true) : ∀ y ∈ sc.names, sc.names.lookup y.1 = some y.2 ∧ (y.2 = .local → y.1 ∈ vars) ∧ y.2 ≠ .cell ∧ (y.2 = .free → psc.names.lookup y.1 = some .cell ∨ psc.names.lookup y.1 = some .free) := by
  intro y hy
  unfold a1z at h
  have h2 := List.all_eq_true.mp (Bool.and_eq_true_iff.mp h).2 y hy
  obtain ⟨h3, h4⟩ := Bool.and_eq_true_iff.mp h2
  refine ⟨eq_of_beq h3, fun e => ?_, fun e => ?_, fun e => ?_⟩
  · rw [e] at h4; exact List.contains_iff_mem.mp h4
  · rw [e] at h4; cases h4
  · rw [e] at h4
    rcases Bool.or_eq_true_iff.mp h4 with z | z
    · exact .inl (eq_of_beq z)
    · exact .inr (eq_of_beq z)
theorem a1J {α β : Type} [BEq α] [LawfulBEq α] : ∀ {l : List (α × β)} {x : α} {v : β}, l.lookup x = some v → (x, v) ∈ l
  | [], _, _, h => by cases h
  | (y, w) :: l, x, v, h => by
    rw [List.lookup_cons] at h
    cases hb : x == y with
    | true =>
      rw [hb] at h
      cases h
      rw [eq_of_beq hb]
      exact List.mem_cons_self
    | false =>
      rw [hb] at h
      exact List.mem_cons_of_mem _ (a1J h)
end
theorem clOf_in (scope : Scope) (env : PySem.Env) : ∀ (l : List (Str × NameKind)) (acc : List (Str × Addr)), (∀ p ∈ acc, env.cells.lookup p.1 = some p.2) → (∀ y ∈ l, y.2 = .free → ∃ c, env.cells.lookup y.1 = some c) →
    ∀ p ∈ l.foldl (fun cs x => if x.2 == .free then (x.1, (env.cells.lookup x.1).getD 0) :: cs else cs) acc, env.cells.lookup p.1 = some p.2 := by
  intro l
  induction l with
  | nil => intro acc h _; exact h
  | cons y l ih =>
    intro acc h hf
    rw [List.foldl_cons]
    refine ih _ ?_ fun z hz => hf z (List.mem_cons_of_mem _ hz)
    split
    · rename_i hb
      intro p hp
      rcases List.mem_cons.mp hp with e | hp
      · obtain ⟨c, hc⟩ := hf y List.mem_cons_self (eq_of_beq hb)
        rw [e, hc]
        rfl
      · exact h p hp
    · exact h
theorem clOf_has (scope : Scope) (env : PySem.Env) : ∀ (l : List (Str × NameKind)) (acc : List (Str × Addr)) (x : Str), ((x, NameKind.free) ∈ l ∨ ∃ c, (x, c) ∈ acc) →
    ∃ c, (x, c) ∈ l.foldl (fun cs x => if x.2 == .free then (x.1, (env.cells.lookup x.1).getD 0) :: cs else cs) acc := by
  intro l
  induction l with
  | nil =>
    intro acc x h
    rcases h with h | h
    · cases h
    · exact h
  | cons y l ih =>
    intro acc x h
    rw [List.foldl_cons]
    refine ih _ x ?_
    rcases h with h | ⟨c, h⟩
    · rcases List.mem_cons.mp h with e | h
      · subst e
        exact .inr ⟨_, by rw [if_pos (by rfl)]; exact List.mem_cons_self⟩
      · exact .inl h
    · refine .inr ⟨c, ?_⟩
      split
      · exact List.mem_cons_of_mem _ h
      · exact h
theorem a3L {scope : Scope} {env : PySem.Env} (hf : ∀ y ∈ scope.names, y.2 = .free → ∃ c, env.cells.lookup y.1 = some c) : closureFor scope env = pure (clOf scope env) := by
  have go : ∀ (l : List (Str × NameKind)) (acc : List (Str × Addr)), (∀ y ∈ l, y.2 = .free → ∃ c, env.cells.lookup y.1 = some c) →
      (forIn l acc fun x cs => do
        if x.2 == .free then pure (ForInStep.yield ((x.1, ← cellOf env x.1) :: cs)) else pure (ForInStep.yield cs) : Sem (List (Str × Addr))) =
      pure (l.foldl (fun cs x => if x.2 == .free then (x.1, (env.cells.lookup x.1).getD 0) :: cs else cs) acc) := by
    intro l
    induction l with
    | nil => intro acc _; rfl
    | cons y l ih =>
      intro acc h
      rw [List.forIn_cons, List.foldl_cons]
      cases hb : y.2 == NameKind.free with
      | true =>
        obtain ⟨c, hc⟩ := h y List.mem_cons_self (eq_of_beq hb)
        have e1 : cellOf env y.1 = pure c := by unfold cellOf; rw [hc]
        simp only [if_true, e1, pure_bind, hc, Option.getD_some]
        exact ih _ fun z hz => h z (List.mem_cons_of_mem _ hz)
      | false =>
        simp only [Bool.false_eq_true, if_false, pure_bind]
        exact ih _ fun z hz => h z (List.mem_cons_of_mem _ hz)
  have := go scope.names [] hf
  unfold closureFor
  simpa [clOf] using this
end L2
namespace L2
open PySem PySem.Spec PyProof.Rows
def a1R (X : Cx) (scope : Scope) (fp : List Addr) (s : Shared) (H : Hp) (C : Addr) : Cx :=
  { X with s₀ := s, H₀ := H, env := compEnvC scope (clOf scope X.env) C X.env, outer := X.stack, ex := fp, fn := fun _ => false, pn := [], xe := fun _ _ => False }
theorem a4i (f : Str → NameKind → NameKind) : ∀ (l : List (Str × NameKind)) (x : Str), (l.map fun y => (y.1, f y.1 y.2)).lookup x = (l.lookup x).map (f x)
  | [], _ => rfl
  | (n, k) :: l, x => by
    rw [List.map_cons, List.lookup_cons, List.lookup_cons]
    cases hb : x == n with
    | true => rw [eq_of_beq hb]; rfl
    | false => exact a4i f l x
theorem a3d (scope : Scope) (env : PySem.Env) (x : Str) : (relabel scope env).names.lookup x = (scope.names.lookup x).map fun k => if (k == NameKind.free && env.scope.kind == .function && env.kindOf x == some .cell) = true then NameKind.cell else k := by
  rw [← a4i (fun n k => if (k == NameKind.free && env.scope.kind == .function && env.kindOf n == some .cell) = true then NameKind.cell else k)]
  unfold relabel
  dsimp only
  congr 1
  refine List.map_congr_left fun y _ => ?_
  obtain ⟨n, k⟩ := y
  dsimp only
  split <;> rfl
theorem a2J {scope psc : Scope} {env : PySem.Env} {vars : List Str} {x : Str} (hc : a1z scope psc vars = true) (h : (relabel scope env).names.lookup x = some .cell ∨ (relabel scope env).names.lookup x = some .free) : scope.names.lookup x = some .free := by
  rw [a3d] at h
  cases hl : scope.names.lookup x with
  | none => rw [hl] at h; simp at h
  | some k =>
    obtain ⟨_, h2, h3, _⟩ := a4p hc _ (a1J hl)
    rw [hl] at h
    cases k with
    | free => rfl
    | cell => exact absurd rfl h3
    | _ => simp at h
theorem a6b {scope psc : Scope} {env : PySem.Env} {vars : List Str} {x : Str} (hc : a1z scope psc vars = true) (h : Vis (relabel scope env) x) :
    (x ∈ vars) ∨ (scope.names.lookup x = some .free ∧ ((relabel scope env).names.lookup x = some .cell ∨ (relabel scope env).names.lookup x = some .free)) := by
  rcases h with h | h | h
  · rw [a3d] at h
    cases hl : scope.names.lookup x with
    | none => rw [hl] at h; simp at h
    | some k =>
      obtain ⟨_, h2, h3, _⟩ := a4p hc _ (a1J hl)
      rw [hl] at h
      cases k with
      | «local» => exact .inl (h2 rfl)
      | cell => exact absurd rfl h3
      | free =>
        simp only [Option.map_some] at h
        split at h <;> simp at h
      | _ => simp at h
  · exact .inr ⟨a2J hc (.inl h), .inl h⟩
  · exact .inr ⟨a2J hc (.inr h), .inr h⟩
theorem a6A {scope psc : Scope} {env : PySem.Env} {vars : List Str} (hc : a1z scope psc vars = true) (hf : ∀ y ∈ scope.names, y.2 = .free → ∃ c, env.cells.lookup y.1 = some c) :
    (∀ x c, (clOf scope env).lookup x = some c → env.cells.lookup x = some c) ∧ ∀ x, scope.names.lookup x = some .free → ∃ c, (clOf scope env).lookup x = some c ∧ env.cells.lookup x = some c := by
  have h1 : ∀ x c, (clOf scope env).lookup x = some c → env.cells.lookup x = some c := fun x c e => clOf_in scope env scope.names [] (fun _ z => nomatch z) hf (x, c) (a1J e)
  refine ⟨h1, fun x e => ?_⟩
  obtain ⟨c, hm⟩ := clOf_has scope env scope.names [] x (.inl (a1J e))
  cases q : (clOf scope env).lookup x with
  | some d => exact ⟨d, rfl, h1 x d q⟩
  | none =>
    have := List.lookup_eq_none_iff.mp q _ hm
    simp at this
section
variable {X : Cx} {pins : List (Addr × Obj)} {σ : St} {H : Hp} {s : Shared} {scope : Scope} {vars : List Str} {js : List Nat} {fp : List Addr} {C : Addr} {h₁ : Heap} {tk : Nat}
theorem a4o (I : Inv X pins σ H s) (hc : a1z scope X.env.scope vars = true) : ∀ y ∈ scope.names, y.2 = .free → ∃ c, X.env.cells.lookup y.1 = some c := fun y hy e => by
  obtain ⟨_, _, _, h⟩ := a4p hc y hy
  exact I.ok.has y.1 (h e)
theorem inv_comp (I : Inv X pins σ H s) (hc : a1z scope X.env.scope vars = true) (hj : a3O X.N vars js = true) (hC : C = s.heap.objs.size) (hfp : ∀ b ∈ fp, FpOk X pins H b) (hfo : ∀ b ∈ fp, b < s.heap.objs.size)
    {m : Str → Option Value} (hns : h₁.Ns C m) (keep : ∀ b o, s.heap.get? b = some o → h₁.get? b = some o) :
    Inv (a1R X scope fp s H C) [] (a2i js σ) H { s with heap := h₁, toks := tk } := by
  have hf := a4o I hc
  obtain ⟨cl1, cl2⟩ := a6A hc hf
  have ok : (a1R X scope fp s H C).Ok := by
    refine ⟨I.ok.mod, ?_, I.ok.glob, I.ok.blt, Nat.le_of_eq hC.symm, fun x y c h1 h2 => I.ok.inj x y c (cl1 x c h1) (cl1 y c h2), fun x hx => ?_, (fun x c z => nomatch z), I.ok.hd, I.ok.frames, Or.inl rfl, fun b hb => ?_, I.bs, Nat.le_trans I.ok.bsz I.sz, fun b o e hb => ?_, fun b hb z => ?_, I.stack, I.stkFree⟩
    · show scope.kind = .function
      exact a39 hc
    · obtain ⟨c, z, _⟩ := cl2 x (a2J hc hx)
      exact ⟨c, z⟩
    · obtain ⟨_, _, _, _, f4, _⟩ := hfp b hb
      refine ⟨fun z => ?_, fun x c e => f4 x c (cl1 x c e)⟩
      have h1 := hfo b hb
      have h2 : b = C := z
      rw [h2, hC] at h1
      exact Nat.lt_irrefl _ h1
    · obtain ⟨_, _, _, f3, _⟩ := hfp b hb
      rcases f3 with z | z
      · exact I.ok.noex b o e z
      · exact absurd (Nat.lt_of_lt_of_le (Heap.lt_size (I.ok.bs b o e).1) z) (Nat.lt_irrefl _)
    · obtain ⟨_, f1, f2, _⟩ := hfp b hb
      rcases List.mem_cons.mp (I.stkSub b z) with e | e
      · exact f1 e
      · exact f2 e
  refine ⟨ok, rfl, I.bare, Un.kept keep, ⟨m, hns, fun i x v e1 e2 e3 => ?_⟩, fun x c e => ?_, ?_, fun x c e => I.freeC x c (cl1 x c e), (fun p hp => nomatch hp), I.hok.kept keep, ?_⟩
  · obtain ⟨nj, e2⟩ := a6w js σ i v e2
    rcases a6b hc e3 with hm | ⟨ef, hk⟩
    · exfalso
      have hi : i < X.N.length := (List.getElem?_eq_some_iff.mp e1).1
      have hq := List.all_eq_true.mp hj i (List.mem_range.mpr hi)
      rcases Bool.or_eq_true_iff.mp hq with z | z
      · exact nj (List.contains_iff_mem.mp z)
      · rw [List.getD_eq_getElem?_getD, show X.N[i]? = some x from e1] at z
        have hm' : vars.contains x = true := List.contains_iff_mem.mpr hm
        rw [Option.getD_some, hm'] at z
        cases z
    · obtain ⟨c, z1, z2⟩ := cl2 x ef
      obtain ⟨m0, _, hl⟩ := I.loc
      obtain ⟨_, _, _, hp⟩ := a4p hc _ (a1J ef)
      have hv : Vis X.env.scope x := (hp rfl).elim (fun z => .inr (.inl z)) fun z => .inr (.inr z)
      obtain ⟨u, r, l⟩ := hl i x v e1 e2 hv
      refine ⟨u, r, .inr ⟨hk, c, z1, ?_⟩⟩
      rcases l with ⟨k, _⟩ | ⟨_, c', e, q⟩
      · have k' : X.env.scope.names.lookup x = some .local := k
        rcases hp rfl with z | z
        · have z' : X.env.scope.names.lookup x = some .cell := z
          rw [k'] at z'; cases z'
        · have z' : X.env.scope.names.lookup x = some .free := z
          rw [k'] at z'; cases z'
      · rw [z2] at e
        cases e
        obtain ⟨o, ho, hd⟩ := q
        exact ⟨o, keep _ o ho, hd⟩
  · obtain ⟨v, o, ho, hd⟩ := I.cell x c (cl1 x c e)
    exact ⟨v, o, keep _ o ho, hd⟩
  · exact I.hok.fresh (Nat.le_of_eq hC.symm)
  · rw [a3e]
    exact I.len
end
abbrev Fl : Value → Shared → Prop := fun _ _ => False
theorem fl {α : Type} {M : Model} {A : Around} {t : Sem α} {Q Q' : α → Shared → Prop} {E : Value → Shared → Prop} {s : Shared} (h : wpAny M A t Q Fl s) (k : ∀ a s, Q a s → Q' a s) : wpAny M A t Q' E s := wpAny_mono h k fun _ _ z => z.elim
def a8Q (ifs : List Expr) (env : PySem.Env) : Sem Bool := forIn ifs true fun c r => if r = true then do let ok ← isTrue c env (eval c env); pure (ForInStep.yield ok) else pure (ForInStep.yield r)
theorem a8P {prog : Program} {w : World} {A : Around} {R : Result → Shared → Prop} {s : Shared} {elt target iter : Expr} {ifs : List Expr} {scope : Scope} {pos : Pos} {it acc : Value} {env : PySem.Env} (Iv : Nat → Shared → Prop)
    (turn : ∀ n s, Iv n s → wpAny (model prog w) A (pyNext it) (fun r s₁ => match r with
      | none => R (.ok .next) s₁
      | some v => wpAny (model prog w) A (letOwnedTupleGo target it v) (fun _ s₂ => wpAny (model prog w) A (assign target env v) (fun _ s₃ => wpAny (model prog w) A (a8Q ifs env) (fun ok s₄ =>
          if ok = true then wpAny (model prog w) A (eval elt env) (fun x s₅ => wpAny (model prog w) A (call (.builtin "list.append") [acc, x]) (fun _ s₆ => ∃ m, m < n ∧ Iv m s₆) Fl s₅) Fl s₄
          else ∃ m, m < n ∧ Iv m s₄) Fl s₃) Fl s₂) Fl s₁) Fl s)
    (n : Nat) (h : Iv n s) : codeAny (model prog w) A (.compLoop (.ListComp elt [⟨target, iter, ifs, 0⟩] scope pos) 0 it acc env) R s := by
  refine codeAny_loop rfl Iv (fun n s hI => ?_) n h
  show wpAny _ A ((compTurn (.ListComp elt [⟨target, iter, ifs, 0⟩] scope pos) 0 it acc env).onRaise _) _ _ s
  refine wpAny_noted ?_
  rw [compTurn_list]
  refine wpAny_bind (wpAny_standAt (wpAny_bind (fl (turn n s hI) fun r s₁ h₁ => ?_)))
  cases r with
  | none => exact wpAny_pure h₁
  | some v =>
    refine wpAny_bind (fl h₁ fun _ s₂ h₂ => wpAny_bind (fl h₂ fun _ s₃ h₃ => wpAny_bind (fl h₃ fun ok s₄ h₄ => ?_)))
    cases ok with
    | false => exact wpAny_pure ⟨rfl, h₄⟩
    | true => exact wpAny_bind (wpAny_bind (fl h₄ fun x s₅ h₅ => wpAny_bind (fl h₅ fun _ s₆ h₆ => wpAny_pure (wpAny_pure ⟨rfl, h₆⟩))))
def PIf (X : Cx) (ifs : List Expr) (t : TT) : Prop := ∀ (pins : List (Addr × Obj)) (s : Shared) (σ : St) (H : Hp) (Q : Bool → Hp → Prop), Inv X pins σ H s → t σ H Q → wpAny (model X.prog X.w) X.A (a8Q ifs X.env) (TP X pins σ Q) X.xe s
def tTrue : TT := fun _ H Q => Q true H
theorem pif_nil {X : Cx} : PIf X [] tTrue := fun pins s σ H Q I h => wpAny_tests_nil ⟨H, I, h⟩
theorem pif_one {X : Cx} {c : Expr} {t : TT} (h : PT X c t) : PIf X [c] t := fun pins s σ H Q I q => wpAny_tests_one (h pins s σ H Q I q)
def CompW (J : It) (g : TG) (tt : TT) (te : TE) (a : Addr) (Q : VK) (W : Nat → Nat → St → List V → Hp → Prop) : Prop := ∀ i m σ ys H, W i m σ ys H → H a = some (.lst ys) ∧
  ((J.stop i H ∧ Q (.ref a) H) ∨ (J.go i H ∧ ∀ x H1, J.yld i H x H1 → g x σ H1 fun σ2 H2 => tt σ2 H2 fun b H3 =>
    if b = true then te σ2 H3 fun y H4 => H4 a = some (.lst ys) ∧ ys.length < sizeLine ∧ ∃ m', m' < m ∧ W (i + 1) m' σ2 (ys ++ [y]) (upd H4 a (.lst (ys ++ [y]))) else ∃ m', m' < m ∧ W (i + 1) m' σ2 ys H3))
def tComp (js : List Nat) (wi : TI) (g : TG) (tt : TT) (te : TE) : TE := fun σ H Q => wi σ H fun J H1 => ∀ a, H1 a = none → ∃ W, (∃ m, W 0 m (a2i js σ) [] (upd H1 a (.lst []))) ∧ CompW J g tt te a Q W
section
variable {X : Cx} {scope : Scope} {vars : List Str} {js : List Nat} {elt tg iter : Expr} {ifs : List Expr} {pos : Pos} {wi : TI} {g : TG} {tt : TT} {te : TE}
theorem a5Z {pins : List (Addr × Obj)} {s : Shared} {σ : St} {H : Hp} {it : Addr} {fp : List Addr} {tn : Nat → Heap → Prop} {J : It} {Q : VK} {E : Value → Shared → Prop} {RR : Value → Addr → Result → Shared → Prop} (hc : a1z scope X.env.scope vars = true) (hj : a3O X.N vars js = true) (hcalm : X.calm = true)
    (hg : ∀ fp s H C, PG (a1R X scope fp s H C) tg g) (ht : ∀ fp s H C, PIf (a1R X scope fp s H C) ifs tt) (he : ∀ fp s H C, PE (a1R X scope fp s H C) elt te)
    (I : Inv X pins σ H s) (T : Turn X.prog X.w X.K tg J fp it tn) (st : tn 0 s.heap) (hfp : ∀ b ∈ fp, FpOk X pins H b) (q : ∀ a, H a = none → ∃ W, (∃ m, W 0 m (a2i js σ) [] (upd H a (.lst []))) ∧ CompW J g tt te a Q W)
    (fin : ∀ a C H' s' m, Inv X pins σ H' s' → s'.heap.Ns C m → H' C = none → C ≠ X.env.locals → X.s₀.heap.objs.size ≤ C → (∀ x c, X.env.cells.lookup x = some c → c ≠ C) → (∀ p ∈ X.pn ++ pins, p.1 ≠ C) → Q (.ref a) H' → RR (.ref a) C (.ok .next) s') :
    wpAny (model X.prog X.w) X.A (newList []) (fun acc s₃ => wpAny (model X.prog X.w) X.A (newFunctionEnv scope X.env.globals (clOf scope X.env) [] X.env.qual none .none (some X.env)) (fun cenv s₄ =>
      codeAny (model X.prog X.w) X.A (.compStart (.ListComp elt [⟨tg, iter, ifs, 0⟩] scope pos) 0 (.ref it) acc { cenv with scope := relabel scope X.env }) (RR acc cenv.locals) s₄) E s₃) E s := by
  have nocell : ∀ y ∈ scope.names, y.2 ≠ .cell := fun y hy => (a4p hc y hy).2.2.1
  refine wpAny_newObj_type (wpAny_newFunctionEnv nocell (by intro y hy; simp at hy) (fun h₁ hns hsb => ?_) (a39 hc))
  dsimp only at hns hsb ⊢
  generalize hA : s.heap.objs.size = a at *
  have fa : H a = none := by rw [← hA]; exact I.fresh
  obtain ⟨W, ⟨m0, w0⟩, hW⟩ := q a fa
  have I3 : Inv X pins σ (upd H a (.lst [])) { s with heap := s.heap.push { cls := .type "list", data := .seq ([] : List Value).toArray } } := by
    rw [← hA]
    exact I.lnew (t' := s.toks) (ys := []) (its := []) .nil (Nat.zero_le _)
  generalize hB : s.heap.push { cls := .type "list", dict := none, data := .seq ([] : List Value).toArray } = hp at *
  have szp : hp.objs.size = a + 1 := by rw [← hB, Heap.size_push, hA]
  have keep : ∀ b o, hp.get? b = some o → h₁.get? b = some o := fun b o e => (hsb.2 b (Nat.ne_of_lt (Heap.lt_size e))).trans (Heap.get?_push_of_some _ e)
  have up : ∀ b o, s.heap.get? b = some o → hp.get? b = some o := fun b o e => by rw [← hB]; exact Heap.get?_push_of_some _ e
  have lo : ∀ b ∈ fp, b < a := fun b hb => by
    obtain ⟨o, e, _⟩ := T.obj 0 _ st b hb
    rw [← hA]
    exact Heap.lt_size e
  have hfp3 : ∀ b ∈ fp, FpOk X pins (upd H a (.lst [])) b := fun b hb => ⟨by rw [upd_ne (Nat.ne_of_lt (lo b hb))]; exact (hfp b hb).1, (hfp b hb).2⟩
  have I4 := inv_comp (tk := s.toks + ([] : List (Str × Value)).length) I3 hc hj rfl hfp3 (fun b hb => by show b < hp.objs.size; rw [szp]; exact Nat.lt_succ_of_lt (lo b hb)) hns keep
  generalize hX : a1R X scope fp { s with heap := hp } (upd H a (.lst [])) hp.objs.size = X' at I4
  have eP : X'.prog = X.prog := by rw [← hX]; rfl
  have eW : X'.w = X.w := by rw [← hX]; rfl
  have eK : X'.K = X.K := by rw [← hX]; rfl
  have eA : X'.A = X.A := by rw [← hX]; rfl
  have eC : X'.calm = true := by rw [← hX]; exact hcalm
  have eL : X'.env.locals = hp.objs.size := by rw [← hX]; rfl
  have eE : X'.env = compEnvC scope (clOf scope X.env) hp.objs.size X.env := by rw [← hX]; rfl
  have eX : X'.ex = fp := by rw [← hX]; rfl
  have exe : X'.xe = Fl := by rw [← hX]; rfl
  have epn : X'.pn = [] := by rw [← hX]; rfl
  have hg' : PG X' tg g := by rw [← hX]; exact hg _ _ _ _
  have ht' : PIf X' ifs tt := by rw [← hX]; exact ht _ _ _ _
  have he' : PE X' elt te := by rw [← hX]; exact he _ _ _ _
  have stat : ∀ {H' : Hp}, (∀ b ∈ fp, H' b = none) → ∀ b ∈ fp, FpOk X' [] H' b := fun hn b hb => by
    have hb' : b ∈ X'.ex := by rw [eX]; exact hb
    exact ⟨hn b hb, (I4.ok.exf b hb').1, I4.ok.exfs b hb', .inl hb', (I4.ok.exf b hb').2, fun p hp => by rw [epn] at hp; cases hp⟩
  have back : ∀ {σ' : St} {H' : Hp} {s' : Shared}, Inv X' [] σ' H' s' → Q (.ref a) H' → RR (.ref a) hp.objs.size (.ok .next) s' := fun {σ' H' s'} J qf => by
    obtain ⟨m, hn, _⟩ := J.loc
    rw [eL] at hn
    have hfree := J.free
    rw [eL] at hfree
    have jos := J.os
    have jbase := J.base
    have jhok := J.hok
    rw [← hX] at jos jbase jhok
    refine fin a _ H' s' m (I3.call' (ch := fp) jos jbase jhok J.bare fun b hb => ⟨(hfp b hb).2.2.2.1, (hfp b hb).2.1, (hfp b hb).2.2.2.2.1, (hfp b hb).2.2.2.2.2⟩) hn hfree (Nat.ne_of_gt I3.lt) I3.sz (fun x c e z => ?_) (fun p hp' z => ?_) qf
    · obtain ⟨v, o, ho, _⟩ := I3.cell x c e
      have := Heap.lt_size ho
      rw [z] at this
      exact Nat.lt_irrefl _ this
    · have := Heap.lt_size (I3.pin p hp').1
      rw [z] at this
      exact Nat.lt_irrefl _ this
  have st1 : tn 0 h₁ := T.keep 0 _ _ st fun b hb o e => keep b o (up b o e)
  have loop : codeAny (model X.prog X.w) X.A (.compLoop (.ListComp elt [⟨tg, iter, ifs, 0⟩] scope pos) 0 (.ref it) (.ref a) X'.env) (RR (.ref a) hp.objs.size) { s with heap := h₁, toks := s.toks + ([] : List (Str × Value)).length } := by
    refine a8P (fun n s' => ∃ i σ' ys H', Inv X' [] σ' H' s' ∧ tn i s'.heap ∧ (∀ b ∈ fp, H' b = none) ∧ W i n σ' ys H') ?_ m0 ⟨0, _, [], _, I4, st1, fun b hb => (hfp3 b hb).1, w0⟩
    rintro n s3 ⟨i, σ3, ys, H3, J3, st3, fr3, w3⟩
    obtain ⟨ha, hw⟩ := hW i n σ3 ys H3 w3
    rcases hw with ⟨stop, qn⟩ | ⟨go, step⟩
    · have z := T.done X' eP eW eK eC i [] s3 σ3 H3 Fl J3 (stat fr3) st3 stop
      rw [eA] at z
      refine thn z fun r s4 ⟨hr, J4⟩ => ?_
      subst hr
      exact back J4 qn
    · have z := T.item X' eP eW eK eC i [] s3 σ3 H3 Fl J3 (stat fr3) st3 go
      rw [eA] at z
      refine thn z fun r s4 ⟨u, hr, h4⟩ => ?_
      subst hr
      refine thn h4 fun _ s5 ⟨x, H5, J5, r5, y5, st5, fr5⟩ => ?_
      have J5' := J5.pinned (stat fr5) (T.obj _ _ st5)
      have z5 := hg' _ s5 σ3 H5 x u _ J5' r5 (step x H5 y5)
      rw [eP, eW, eA, exe] at z5
      refine thn z5 fun _ s6 ⟨σ6, H6, J6, q6⟩ => ?_
      have z6 := ht' _ s6 σ6 H6 _ J6 q6
      rw [eP, eW, eA, exe] at z6
      refine thn z6 fun ok s7 ⟨H7, J7, q7⟩ => ?_
      have again : ∀ {σ8 : St} {H8 : Hp} {s8 : Shared} {ys8 : List V} {m' : Nat}, Inv X' ([] ++ pinsAt fp s5.heap) σ8 H8 s8 → m' < n → W (i + 1) m' σ8 ys8 H8 → ∃ m, m < n ∧ ∃ i σ' ys H', Inv X' [] σ' H' s8 ∧ tn i s8.heap ∧ (∀ b ∈ fp, H' b = none) ∧ W i m σ' ys H' := fun {σ8 H8 s8 ys8 m'} J8 hm w8 => by
        refine ⟨m', hm, i + 1, σ8, ys8, H8, J8.unpinned, T.keep _ _ _ st5 fun b hb o e => (J8.pin (b, o) (List.mem_append_right _ (List.mem_append_right _ (mem_pinsAt hb e)))).1, fun b hb => ?_, w8⟩
        obtain ⟨o, e, d⟩ := T.obj _ _ st5 b hb
        exact (J8.pin (b, o) (List.mem_append_right _ (List.mem_append_right _ (mem_pinsAt hb e)))).2.1
      cases ok with
      | false =>
        rw [if_neg Bool.false_ne_true] at q7 ⊢
        obtain ⟨m', hm, w7⟩ := q7
        exact again J7 hm w7
      | true =>
        rw [if_pos rfl] at q7 ⊢
        have z7 := he' _ s7 σ6 H7 _ J7 q7
        rw [eP, eW, eA, exe] at z7
        refine thn z7 fun v s8 ⟨y, H8, J8, r8, h8, hl8, m', hm, w8⟩ => ?_
        have z8 := mt_append _ s8 σ6 H8 (.ref a) [y] (.ref a) [v] (fun _ H9 => H9 = upd H8 a (.lst (ys ++ [y]))) J8 rfl (.cons r8 .nil) ⟨a, ys, y, rfl, rfl, h8, hl8, rfl⟩
        rw [eP, eW, eA, exe] at z8
        refine thn z8 fun _ s9 ⟨_, H9, J9, _, q9⟩ => ?_
        subst q9
        exact again J9 hm w8
  rw [eE] at loop
  exact codeAny_compStart_list loop (T.self _ 0 _ _ _ st1 loop)
theorem pe_comp (hc : a1z scope X.env.scope vars = true) (hj : a3O X.N vars js = true) (hcalm : X.calm = true) (hi : PI X tg iter wi)
    (hg : ∀ fp s H C, PG (a1R X scope fp s H C) tg g) (ht : ∀ fp s H C, PIf (a1R X scope fp s H C) ifs tt) (he : ∀ fp s H C, PE (a1R X scope fp s H C) elt te) (hs : ∀ x, foldedSetIterable iter X.env x = pure x := by intro _; rfl) :
    PE X (.ListComp elt [⟨tg, iter, ifs, 0⟩] scope pos) (tComp js wi g tt te) := by
  intro pins s σ H Q I h
  rw [eval_ListComp]
  refine wpAny_comprehension_free (use := none) rfl hs (a3L (a4o I hc)) (a39 hc) (fun y hy e => by rw [(a4p hc y hy).1, e]) (thn (hi pins s σ H _ I h) fun v s1 h1 => thn h1 fun itv s2 h2 => ?_)
  obtain ⟨it, fp, tn, J, H2, e, I2, T, st2, f2, q⟩ := h2
  subst e
  refine a5Z (RR := fun acc C => compPost (model X.prog X.w) X.A X.xe none (EP X pins σ Q) acc C) hc hj hcalm hg ht he I2 T st2 f2 q ?_
  intro a C H' s' m J' hn hC hL hS hcell hpin q'
  exact ⟨m, hn, fun h' sb => ⟨.ref a, H', J'.turned (t' := s'.toks) (fun b o hb e => (sb.2 b hb).trans e) hC hL (.inr hS) hcell hpin, rfl, q'⟩⟩
theorem a7n {i : Nat} {x : Str} {pos' spos : Pos} (hN : X.N.Nodup) (hi' : X.N[i]? = some x) (hx : Loc X.env.scope x) (hc : a1z scope X.env.scope vars = true) (hj : a3O X.N vars js = true) (hcalm : X.calm = true) (hi : PI X tg iter wi)
    (hg : ∀ fp s H C, PG (a1R X scope fp s H C) tg g) (ht : ∀ fp s H C, PIf (a1R X scope fp s H C) ifs tt) (he : ∀ fp s H C, PE (a1R X scope fp s H C) elt te)
    (hsw : swapsWith (.ListComp elt [⟨tg, iter, ifs, 0⟩] scope pos) (some (.Name x pos')) spos.line X.env = pure true := by rfl) (hs : ∀ x, foldedSetIterable iter X.env x = pure x := by intro _; rfl)
    (hf : X.fn x = true ∨ X.env.scope.names.lookup x = some .local := by first | exact .inl rfl | exact .inr rfl | assumption) :
    PS X (.Assign [.Name x pos'] (.ListComp elt [⟨tg, iter, ifs, 0⟩] scope pos) spos) (tAsg (tComp js wi g tt te) (gName i)) := by
  intro pins s σ H D I h
  rw [exec_Assign_Name_used _ _ _ _ hsw]
  refine wpAny_bind (wpAny_standAt (wpAny_bind ?_))
  show wpAny _ X.A (do let _ ← comprehension (.ListComp elt [⟨tg, iter, ifs, 0⟩] scope pos) scope X.env _ (newList []) false (eval iter X.env) (some (assign (.Name x pos') X.env))) _ _ s
  refine wpAny_bind (wpAny_mono (wpAny_comprehension_free (use := some (assign (.Name x pos') X.env)) (Q := fun _ s' => SP X pins D .next s') rfl hs (a3L (a4o I hc)) (a39 hc) (fun y hy e => by rw [(a4p hc y hy).1, e])
    (thn (hi pins s σ H _ I h) fun v s1 h1 => thn h1 fun itv s2 h2 => ?_)) (fun _ s' hq => wpAny_pure (wpAny_pure hq)) fun _ _ e => e)
  obtain ⟨it, fp, tn, J, H2, e, I2, T, st2, f2, q⟩ := h2
  subst e
  refine a5Z (RR := fun acc C => compPost (model X.prog X.w) X.A X.xe (some (assign (.Name x pos') X.env)) (fun _ s' => SP X pins D .next s') acc C) hc hj hcalm hg ht he I2 T st2 f2 q ?_
  intro a C H' s' m J' hn hC hL hS hcell hpin q'
  refine wpAny_assign_Name (store_ok2 J' hN hi' hx (v := .ref a) rfl (fun s'' J2 ⟨b, sb, hb⟩ => ?_) hf)
  have hCb : C ≠ b := by
    rcases hb with z | z
    · rw [z]; exact hL
    · exact (hcell x b z).symm
  exact ⟨m, hn.sameBut sb hCb, fun h' sb' => ⟨_, H', J2.turned (t' := s''.toks) (fun b o hb e => (sb'.2 b hb).trans e) hC hL (.inr hS) hcell hpin, q'⟩⟩
end
end L2
namespace L2
open PySem PySem.Spec PyProof.Rows
section
variable {X : Cx} {pins : List (Addr × Obj)} {σ : St} {H : Hp} {s : Shared} {l : Addr} {xs : List V}
def rCatR (K : PySem.W.Frag) : R2 := fun x y H Q => ∃ l b xs zs, x = .ref l ∧ y = .ref b ∧ SqL K H l xs ∧ SqL K H b zs ∧ xs.length + zs.length ≤ sizeLine ∧ ∀ p, H p = none → Q (.ref p) (upd H p (.lst (xs ++ zs)))
theorem op_catR : OpR X (binaryOp .Add) (rCatR X.K) := fun pins s σ H x y v u Q I rx ry ⟨l, b, xs, zs, ex, ey, hH, hB, hz, q⟩ => by
  subst ex ey
  cases rx
  cases ry
  obtain ⟨i1, r1, p1, _⟩ := I.list hH
  obtain ⟨i2, r2, p2, _⟩ := I.list hB
  obtain ⟨⟨c1, d1, t1, s1⟩, o1, k1, n1, g1⟩ := p1.isList
  obtain ⟨⟨c2, d2, t2, s2⟩, o2, k2, n2, g2⟩ := p2.isList
  simp only at k1 g1 k2 g2
  subst k1 g1 k2 g2
  have l1 := r1.length
  have l2 := r2.length
  have ea : i1.toArray ++ i2.toArray = (i1 ++ i2).toArray := by simp
  refine concat_meets ⟨_, o1, rfl⟩ ⟨_, o2, rfl⟩ noFill_list_add seq_list_add PySem.F.slot_list_add PySem.F.entry_list_add (PySem.F.args_list_add_2 _ _) (list_addW l b _ _ n1 n2 d1 d2 s1 s2 (by rw [List.size_toArray, List.size_toArray, ← l1, ← l2]; exact hz)) ⟨o1, o2, ?_⟩
  rw [ea]
  exact ⟨.ref _, _, I.lnew (t' := s.toks) (r1.append r2) (by rw [List.length_append]; exact hz), rfl, q _ I.fresh⟩
theorem op_catT0 : OpR X (binaryOp .Add) (fun x y H Q => ∃ a b ys, x = .ref a ∧ y = .ref b ∧ SqT X.K H a [] ∧ SqT X.K H b ys ∧ Q (.ref b) H) := fun pins s σ H x y v u Q I rx ry ⟨a, b, ys, ex, ey, ha, hb, q⟩ => by
  subst ex ey
  cases rx
  cases ry
  obtain ⟨i1, r1, ⟨⟨c1, d1, t1, s1⟩, o1, k1, n1, g1⟩, _⟩ := I.tuple ha
  obtain ⟨i2, r2, ⟨⟨c2, d2, t2, s2⟩, o2, k2, n2, g2⟩, _⟩ := I.tuple hb
  cases r1
  simp only at k1 g1 k2 g2
  subst k1 g1 k2 g2
  exact concat_meets ⟨_, o1, rfl⟩ ⟨_, o2, rfl⟩ noFill_tuple_add seq_tuple_add PySem.F.slot_tuple_add PySem.F.entry_tuple_add (PySem.F.args_tuple_add_2 _ _)
    (tuple_addW0 a b _ _ n1 n2 d1 d2 s1 s2 (by rfl)) ⟨o1, o2, ⟨.ref b, H, I, rfl, q⟩⟩
theorem a4J (ns : List Int) : ∀ k, k ≤ ns.length → preSum (fun i => (ns[i]?).getD 0) k = (ns.take k).sum
  | 0, _ => by simp [preSum]
  | k + 1, h => by
    have hk : k < ns.length := h
    rw [List.take_add_one, List.getElem?_eq_getElem hk, List.sum_append, ← a4J ns k (Nat.le_of_lt hk)]
    simp [preSum, List.getElem?_eq_getElem hk]
theorem a8S (hc : X.calm = true) : CallR X (.builtin "sum") (fun xs H Q => ∃ (p : Addr) (ns : List Int), xs = [.ref p] ∧ SqL X.K H p (ns.map V.int) ∧ Q (.int ns.sum) H) := fun pins s σ H xs us Q I r ⟨p, ns, ex, hq, q⟩ => by
  subst ex
  obtain ⟨u, rfl, rx⟩ := vals1 r
  cases rx
  obtain ⟨its, rv, pl, hz⟩ := I.list hq
  have hlt : p < s.heap.objs.size := by obtain ⟨_, e, _⟩ := pl.isList; exact Heap.lt_size e
  have hlen : its.length = ns.length := by rw [← rv.length, List.length_map]
  have up : ∀ b o, s.heap.get? b = some o → (s.heap.push { cls := .type "list_iterator", data := .fields #[.ref p, .int 0 0] }).get? b = some o := fun b o e => Heap.get?_push_of_some _ e
  refine call_sum_walkG (wpAny_pyIter_list pl.isList ⟨_, _, _, _, _, _, fun i => (ns[i]?).getD 0, rfl, Walks.list (A := X.A.in1) (I.ok.hd hc) s.heap.objs.size p (Nat.ne_of_lt hlt) its.toArray, ⟨⟨_, Heap.get?_push_size _ rfl, rfl, rfl⟩, pl.isList.push _⟩, fun b hb => ?_, fun i v hv => ?_, fun h' tk t' hk => ?_⟩)
  · rw [show ({ s with heap := s.heap.push { cls := .type "list_iterator", data := .fields #[.ref p, .int 0 0] } } : Shared).heap.objs.size = s.heap.objs.size + 1 from Heap.size_push ..]
    rcases List.mem_cons.mp hb with e | e
    · rw [e]; exact Nat.lt_succ_self _
    · rw [List.mem_singleton.mp e]; exact Nat.lt_succ_of_lt hlt
  · have hv' : its[i]? = some v := by simpa using hv
    have hi : i < ns.length := by rw [← hlen]; exact (List.getElem?_eq_some_iff.mp hv').1
    obtain ⟨u, e, ru⟩ := rv.get (i := i) (x := .int ns[i]) (by rw [List.getElem?_map, List.getElem?_eq_getElem hi]; rfl)
    rw [hv'] at e
    cases e
    obtain ⟨t, e⟩ := ru
    exact ⟨t, by show v = Value.int ((ns[i]?).getD 0) t; rw [e, List.getElem?_eq_getElem hi]; rfl⟩
  · have es : preSum (fun i => (ns[i]?).getD 0) its.toArray.size = ns.sum := by rw [List.size_toArray, hlen, a4J ns _ (Nat.le_refl _), List.take_length]
    refine ⟨.int ns.sum, H, I.kept (t' := tk) fun b o e => hk b o (by simpa using Nat.ne_of_lt (Heap.lt_size e)) (up b o e), ⟨t', by rw [es]⟩, q⟩
theorem a81 (bs : List Bool) : (List.range bs.length).any (fun i => (bs[i]?).getD false) = bs.any id := by
  rw [Bool.eq_iff_iff, List.any_eq_true, List.any_eq_true]
  constructor
  · rintro ⟨i, hi, h⟩
    have hi' := List.mem_range.mp hi
    rw [List.getElem?_eq_getElem hi'] at h
    exact ⟨_, List.getElem_mem hi', h⟩
  · rintro ⟨b, hb, h⟩
    obtain ⟨i, hi, rfl⟩ := List.mem_iff_getElem.mp hb
    exact ⟨i, List.mem_range.mpr hi, by rw [List.getElem?_eq_getElem hi]; exact h⟩
theorem a7L (I : Inv X pins σ H s) (hc : X.calm = true) {p : Addr} {bs : List Bool} (hq : SqL X.K H p (bs.map V.bl)) {E : Value → Shared → Prop} {Q : Value → Shared → Prop} {cmb : List Nat → (Nat → Bool) → Bool}
    (k : ∀ (h' : Heap) (tk : Nat), (∀ b o, s.heap.get? b = some o → h'.get? b = some o) → Q (.bool (cmb (List.range bs.length) fun i => (bs[i]?).getD false)) { s with heap := h', toks := tk }) :
    wpAny (model X.prog X.w) X.A.in1 (pyIter (.ref p)) (fun it s₂ => ∃ I fp wr n P St tr, it = .ref I ∧ Walks X.prog X.w X.A.in1 I fp wr n P St ∧ St 0 s₂.heap ∧ TruthOf X.prog X.w X.A.in1 P tr ∧
      ∀ h' tk, (∀ b o, b ∉ wr → s₂.heap.get? b = some o → h'.get? b = some o) → Q (.bool (cmb (List.range n) tr)) { s₂ with heap := h', toks := tk }) E s := by
  obtain ⟨its, rv, pl, hz⟩ := I.list hq
  have hlt : p < s.heap.objs.size := by obtain ⟨_, e, _⟩ := pl.isList; exact Heap.lt_size e
  have hlen : its.length = bs.length := by rw [← rv.length, List.length_map]
  refine wpAny_pyIter_list pl.isList ⟨_, _, _, _, _, _, fun i => (bs[i]?).getD false, rfl, Walks.list (A := X.A.in1) (I.ok.hd hc) s.heap.objs.size p (Nat.ne_of_lt hlt) its.toArray, ⟨⟨_, Heap.get?_push_size _ rfl, rfl, rfl⟩, pl.isList.push _⟩, fun i v s' Q' E' hv hQ => ?_, fun h' tk hk => ?_⟩
  · have hv' : its[i]? = some v := by simpa using hv
    have hi : i < bs.length := by rw [← hlen]; exact (List.getElem?_eq_some_iff.mp hv').1
    obtain ⟨u, e, ru⟩ := rv.get (i := i) (x := .bl bs[i]) (by rw [List.getElem?_map, List.getElem?_eq_getElem hi]; rfl)
    rw [hv'] at e
    cases e
    cases (show v = Value.bool bs[i] from ru)
    have hQ2 : Q' ((bs[i]?).getD false) s' := hQ
    rw [List.getElem?_eq_getElem hi] at hQ2
    exact wpAny_pure hQ2
  · rw [List.size_toArray, hlen]
    exact k h' tk fun b o e => hk b o (by simpa using Nat.ne_of_lt (Heap.lt_size e)) (Heap.get?_push_of_some _ e)
theorem a8V (hc : X.calm = true) : CallR X (.builtin "any") (fun xs H Q => ∃ (p : Addr) (bs : List Bool), xs = [.ref p] ∧ SqL X.K H p (bs.map V.bl) ∧ Q (.bl (bs.any id)) H) := fun pins s σ H xs us Q I r ⟨p, bs, ex, hq, q⟩ => by
  subst ex
  obtain ⟨u, rfl, rx⟩ := vals1 r
  cases rx
  refine call_any_walk (a7L (cmb := fun l f => l.any f) I hc hq fun h' tk hk => ?_)
  exact ⟨.bl (bs.any id), H, I.kept (t' := tk) hk, by rw [a81]; rfl, q⟩
theorem a7S : ∀ {xs : List V} {us : List Value}, xs.length = us.length → (∀ (i : Nat) x u, xs[i]? = some x → us[i]? = some u → RelV x u) → Vals xs us
  | [], [], _, _ => .nil
  | x :: xs, u :: us, hl, h => .cons (h 0 x u rfl rfl) (a7S (by simpa using hl) fun i x' u' e1 e2 => h (i + 1) x' u' (by simpa using e1) (by simpa using e2))
  | [], _ :: _, hl, _ => by simp at hl
  | _ :: _, [], hl, _ => by simp at hl
theorem vals_rng {lo : Int} {acc : Array Value} {n : Nat} (h : ItemsOf (fun i v => ∃ t, v = .int (lo + i * 1) t) acc n) : Vals ((List.range n).map fun k : Nat => V.int (lo + k)) acc.toList := by
  refine a7S (by rw [List.length_map, List.length_range, ← h.1, Array.length_toList]) fun i x u e1 e2 => ?_
  obtain ⟨t, rfl⟩ := h.2 i u (by rw [← Array.getElem?_toList]; exact e2)
  rw [List.getElem?_map] at e1
  cases q : (List.range n)[i]? with
  | none => rw [q] at e1; cases e1
  | some k =>
    rw [q] at e1
    cases e1
    have hk : i < n := by
      have := (List.getElem?_eq_some_iff.mp q).1
      rwa [List.length_range] at this
    rw [List.getElem?_range hk] at q
    cases q
    exact ⟨t, by rw [Int.mul_one]⟩
theorem a6C : CallR X (.type "range") (fun xs H Q => ∃ lo hi, xs = [.int lo, .int hi] ∧ ∀ p, H p = none → Q (.ref p) (upd H p (.rng lo hi))) := fun pins s σ H xs us Q I r ⟨lo, hi, ex, q⟩ => by
  subst ex
  obtain ⟨u, w, rfl, ⟨t, rfl⟩, ⟨t', rfl⟩⟩ := vals2 r
  refine call_range_2 ⟨.ref s.heap.objs.size, _, I.laid (t' := s.toks + 1) (o := .rng lo hi) (fun b o e => Heap.get?_push_of_some _ e) (Nat.le_refl _) ⟨_, _, _, Heap.get?_push_size _ rfl⟩, rfl, q _ I.fresh⟩
theorem a53 (hc : X.calm = true) : CallR X (.type "list") (fun xs H Q => ∃ p lo hi, xs = [.ref p] ∧ H p = some (.rng lo hi) ∧ (-(2 ^ 62) ≤ lo ∧ lo < 2 ^ 62 ∧ -(2 ^ 62) ≤ hi ∧ hi < 2 ^ 62) ∧ (hi - lo).toNat ≤ sizeLine ∧
    ∀ l, H l = none → Q (.ref l) (upd H l (.lst ((List.range (hi - lo).toNat).map fun k : Nat => V.int (lo + k))))) := fun pins s σ H xs us Q I r ⟨p, lo, hi, ex, hp, ⟨b1, b2, b3, b4⟩, hz, q⟩ => by
  subst ex
  obtain ⟨u, rfl, ru⟩ := vals1 r
  cases ru
  obtain ⟨t, u, v, e⟩ := I.hok p _ hp
  refine call_list_range (n := (hi - lo).toNat) (I.ok.hd hc) (show IsRange s.heap p lo hi 1 t u v from e) (small_one b1 b2 b3 b4) (by rw [rangeSize_one]; split <;> omega) hz fun h' tk acc c kp e' it => ?_
  exact ⟨.ref s.heap.objs.size, _, I.laid (t' := tk) (o := .lst ((List.range (hi - lo).toNat).map fun k : Nat => V.int (lo + k))) kp (Nat.le_refl _) ⟨by rw [List.length_map, List.length_range]; exact hz, acc.toList, c, vals_rng it, by simpa using e'⟩, rfl, q _ I.fresh⟩
theorem a7E {x : V} {u : Value} {t : String} {T : String} {b : Bool} (I : Inv X pins σ H s) (rx : RelV x u) (ty : TyOf X.K H x (.type t) ∨ (t = "tuple" ∧ ∃ a xs, x = .ref a ∧ SqT X.K H a xs) ∨ (t = "list" ∧ ∃ a xs, x = .ref a ∧ SqL X.K H a xs)) (e : PySem.W.kitOne X.K (.type t) (.type T) = some b) {Q : Value → Shared → Prop} {E : Value → Shared → Prop} {A : Around}
    (h : ∀ tk, Q (.bool b) { s with toks := tk }) : wpAny (model X.prog X.w) A (call (.builtin "isinstance") [u, .type T]) Q E s := by
  rcases ty with ty | ⟨rfl, a, xs, rfl, hq⟩ | ⟨rfl, a, xs, rfl, hq⟩
  · exact isinst_ok I rx ty e h
  · cases (show u = Value.ref a from rx)
    obtain ⟨its, _, ⟨o, h1, h2, _⟩, _⟩ := I.tuple hq
    exact PySem.W.kia_one PySem.W.kitx_tuple I.kIn ⟨o, h1, h2⟩ e (fun z => nomatch z) h
  · cases (show u = Value.ref a from rx)
    obtain ⟨its, _, pl, _⟩ := I.list hq
    obtain ⟨o, h1, h2, _⟩ := pl.isList
    exact PySem.W.kia_one PySem.W.kitx_list I.kIn ⟨o, h1, h2⟩ e (fun z => nomatch z) h
theorem a6D : CallR X (.builtin "isinstance") (fun xs H Q => ∃ x t T b, xs = [x, .ty T] ∧ (TyOf X.K H x (.type t) ∨ (t = "tuple" ∧ ∃ a xs, x = .ref a ∧ SqT X.K H a xs) ∨ (t = "list" ∧ ∃ a xs, x = .ref a ∧ SqL X.K H a xs)) ∧ PySem.W.kitOne X.K (.type t) (.type T) = some b ∧ Q (.bl b) H) := fun pins s σ H xs us Q I r ⟨x, t, T, b, ex, ty, e, q⟩ => by
  subst ex
  obtain ⟨u, w, rfl, ru, rw'⟩ := vals2 r
  cases (show w = Value.type T from rw')
  exact a7E I ru ty e fun tk => ⟨.bl b, H, I.tok tk, rfl, q⟩
end
end L2
namespace L2
open PySem PySem.Spec PyProof.Rows
section
variable {prog : Program} {w : World} {A : Around} {E : Value → Shared → Prop} {s : Shared}
end
structure Nx (prog : Program) (w : World) (A : Around) (it l : Addr) (st : Nat → Heap → Prop) (val : Nat → Option Value) : Prop where
  item : ∀ (s : Shared) (k : Nat) (x : Value) (Q : Value → Shared → Prop) (E : Value → Shared → Prop), st k s.heap → val k = some x → (∀ h', st (k + 1) h' → Heap.SameBut it s.heap h' → Q x { s with heap := h' }) → wpAny (model prog w) A (Builtin.SmallTypes.nextOf (.ref it)) Q E s
  stop : ∀ (s : Shared) (k : Nat) (Q : Value → Shared → Prop) (E : Value → Shared → Prop), st k s.heap → val k = none →
    (∀ h' e, Heap.ExtBut it s.heap h' → (∃ o, h'.get? e = some o ∧ o.cls = .type "StopIteration") → E (.ref e) { s with heap := h' }) → wpAny (model prog w) A (Builtin.SmallTypes.nextOf (.ref it)) Q E s
  ext : ∀ (k : Nat) (h h' : Heap), st k h → (∀ b, b = it ∨ b = l → ∀ o, h.get? b = some o → h'.get? b = some o) → st k h'
  there : ∀ (k : Nat) (h : Heap), st k h → (∃ o, h.get? it = some o ∧ ∀ v, o.data ≠ .cell v) ∧ ∃ o, h.get? l = some o
section
variable {prog : Program} {w : World} {A : Around} {E : Value → Shared → Prop} {s : Shared} {z TI TO i1 i2 l1 l2 : Addr} {k : Nat} {st1 st2 : Nat → Heap → Prop} {v1 v2 : Nat → Option Value} {a b : Value}
end
end L2
namespace L2
open PySem PySem.Spec PyProof.Rows
section
variable {X : Cx} {pins : List (Addr × Obj)} {σ : St} {H : Hp} {s : Shared} {h' : Heap}
end
def SqX (K : PySem.W.Frag) (H : Hp) : Bool → Addr → List V → Prop
  | true, a, xs => SqL K H a xs
  | false, a, xs => SqT K H a xs
def itX (h : Heap) : Bool → Addr → Addr → Nat → Prop
  | true, it, l, k => h.IsListIter it l k
  | false, it, l, k => h.IsTupleIter it l k
def isX (h : Heap) : Bool → Addr → Array Value → Prop
  | true, l, its => h.IsList l its
  | false, l, its => h.IsTuple l its
theorem Inv.seqX_inj {X : Cx} {pins : List (Addr × Obj)} {σ : St} {H : Hp} {s : Shared} {b : Bool} {a : Addr} {xs ys : List V} (I : Inv X pins σ H s) (h : SqX X.K H b a xs) (h' : SqX X.K H b a ys) : xs = ys := by
  cases b with
  | true => exact I.list_inj h h'
  | false => exact I.tuple_inj h h'
def Itz (K : PySem.W.Frag) (b1 : Bool) (l1 : Addr) (b2 : Bool) (l2 : Addr) : It :=
  ⟨fun i H => ∃ xs ys x y, SqX K H b1 l1 xs ∧ SqX K H b2 l2 ys ∧ xs[i]? = some x ∧ ys[i]? = some y,
   fun i H x H' => ∃ p u v, x = .ref p ∧ H p = none ∧ H' = upd H p (.tup [u, v]) ∧ (∀ xs, SqX K H b1 l1 xs → xs[i]? = some u) ∧ ∀ ys, SqX K H b2 l2 ys → ys[i]? = some v,
   fun i H => ∃ xs ys, SqX K H b1 l1 xs ∧ SqX K H b2 l2 ys ∧ (xs.length ≤ i ∨ ys.length ≤ i)⟩
abbrev zt1 (h : Heap) (l1 : Addr) : Heap := h.push { cls := .type "tuple_iterator", data := .fields #[.ref l1, .int 0 0] }
abbrev zt2 (h : Heap) (l1 l2 : Addr) : Heap := (zt1 h l1).push { cls := .type "tuple_iterator", data := .fields #[.ref l2, .int 0 0] }
abbrev zt3 (h : Heap) (l1 l2 : Addr) : Heap := (zt2 h l1 l2).push { cls := .type "tuple", data := .seq #[.ref h.objs.size, .ref (zt1 h l1).objs.size] }
abbrev zt4 (h : Heap) (l1 l2 : Addr) : Heap := (zt3 h l1 l2).push { cls := .type "tuple", data := .seq #[.none, .none] }
abbrev zt5 (h : Heap) (l1 l2 : Addr) : Heap := (zt4 h l1 l2).push { cls := .type "zip", data := .fields #[.none, .bool false, .bool false, .ref (zt2 h l1 l2).objs.size, .ref (zt3 h l1 l2).objs.size] }
section
variable {prog : Program} {w : World} {A : Around} {E : Value → Shared → Prop} {s : Shared}
end
section
variable {X : Cx}
def iZipX (K : PySem.W.Frag) (ta : TA) : TI := fun σ H R => ta σ H fun vs H1 => ∃ b l1 l2, vs = [.ref l1, .ref l2] ∧ (∃ xs, SqX K H1 b l1 xs) ∧ (∃ ys, SqX K H1 b l2 ys) ∧ R (Itz K b l1 b l2) H1
end
end L2
namespace L2
open PySem PySem.Spec PyProof.Rows
def Ite (K : PySem.W.Frag) (b : Bool) (l : Addr) : It :=
  ⟨fun i H => ∃ xs x, SqX K H b l xs ∧ xs[i]? = some x,
   fun i H x H' => ∃ p u, x = .ref p ∧ H p = none ∧ H' = upd H p (.tup [.int i, u]) ∧ ∀ xs, SqX K H b l xs → xs[i]? = some u,
   fun i H => ∃ xs, SqX K H b l xs ∧ xs.length ≤ i⟩
abbrev et1 (h : Heap) (l : Addr) : Heap := h.push { cls := .type "tuple_iterator", data := .fields #[.ref l, .int 0 0] }
abbrev et2 (h : Heap) (l : Addr) : Heap := (et1 h l).push { cls := .type "enumerate", data := .fields #[.none, .bool false, .ref h.objs.size, rawInt 0, .none, .none] }
section
variable {prog : Program} {w : World} {A : Around} {E : Value → Shared → Prop} {s : Shared}
end
section
variable {X : Cx}
def iEnumX (K : PySem.W.Frag) (ta : TA) : TI := fun σ H R => ta σ H fun vs H1 => ∃ b l, vs = [.ref l] ∧ (∃ xs, SqX K H1 b l xs) ∧ R (Ite K b l) H1
end
end L2
namespace L2
open PySem
abbrev Rise (xs : Array Nat) : Prop := xs.toList.Pairwise (· < ·)
theorem a4Z {xs : Array Nat} (h : Rise xs) {i k : Nat} (hik : i < k) (hk : k < xs.size) : xs[i]'(by omega) < xs[k] := by
  have := List.pairwise_iff_getElem.mp h i k (by simpa using (by omega : i < xs.size)) (by simpa using hk) hik
  simpa using this
theorem a5n {xs : Array Nat} (h : Rise xs) (j : Nat) : ∀ (fuel lo hi : Nat), lo ≤ hi → hi ≤ xs.size → hi - lo ≤ fuel → (∀ i (hi' : i < xs.size), i < lo → xs[i] < j) → (∀ i (hi' : i < xs.size), hi ≤ i → j ≤ xs[i]) →
    SetTable.below.go xs j fuel lo hi ≤ xs.size ∧ (∀ i (hi' : i < xs.size), i < SetTable.below.go xs j fuel lo hi → xs[i] < j) ∧ ∀ i (hi' : i < xs.size), SetTable.below.go xs j fuel lo hi ≤ i → j ≤ xs[i]
  | 0, lo, hi, h1, h2, h3, h4, h5 => by
    have e : lo = hi := by omega
    subst e
    exact ⟨h2, h4, h5⟩
  | fuel + 1, lo, hi, h1, h2, h3, h4, h5 => by
    unfold SetTable.below.go
    by_cases hl : lo < hi
    · rw [if_pos hl]
      have hm : (lo + hi) / 2 < xs.size := by omega
      have hg : xs.getD ((lo + hi) / 2) j = xs[(lo + hi) / 2] := by simp [hm]
      dsimp only
      rw [hg]
      by_cases hc : xs[(lo + hi) / 2] < j
      · rw [if_pos hc]
        refine a5n h j fuel _ _ (by omega) h2 (by omega) (fun i hi' hlt => ?_) h5
        by_cases e : i = (lo + hi) / 2
        · subst e; exact hc
        · exact Nat.lt_trans (a4Z h (by omega) hm) hc
      · rw [if_neg hc]
        refine a5n h j fuel _ _ (by omega) (by omega) (by omega) h4 (fun i hi' hle => ?_)
        by_cases e : i = (lo + hi) / 2
        · subst e; omega
        · have := a4Z h (show (lo + hi) / 2 < i by omega) hi'; omega
    · rw [if_neg hl]
      have e : lo = hi := by omega
      subst e
      exact ⟨h2, h4, h5⟩
theorem a28 {xs : Array Nat} (h : Rise xs) (j : Nat) : SetTable.below xs j ≤ xs.size ∧ (∀ i (hi' : i < xs.size), i < SetTable.below xs j → xs[i] < j) ∧ ∀ i (hi' : i < xs.size), SetTable.below xs j ≤ i → j ≤ xs[i] := by
  unfold SetTable.below
  exact a5n h j xs.size 0 xs.size (Nat.zero_le _) (Nat.le_refl _) (by omega) (fun _ _ z => absurd z (Nat.not_lt_zero _)) (fun i hi' z => absurd hi' (by omega))
theorem a7N {xs : Array Nat} (h : Rise xs) : SetTable.below xs 0 = 0 := by
  obtain ⟨h1, h2, _⟩ := a28 h 0
  by_cases e : SetTable.below xs 0 = 0
  · exact e
  · have := h2 0 (by omega) (by omega)
    omega
theorem a7O {xs : Array Nat} (h : Rise xs) {i : Nat} (hi : i < xs.size) : SetTable.below xs (xs[i] + 1) = i + 1 := by
  obtain ⟨h1, h2, h3⟩ := a28 h (xs[i] + 1)
  by_cases l : SetTable.below xs (xs[i] + 1) ≤ i
  · have := h3 i hi l; omega
  · by_cases e : SetTable.below xs (xs[i] + 1) = i + 1
    · exact e
    · have hi1 : i + 1 < xs.size := by omega
      have a := h2 (i + 1) hi1 (by omega)
      have b := a4Z h (i := i) (k := i + 1) (by omega) hi1
      omega
theorem a3C {α : Type} (xs : Array α) (p : Nat) (x : α) (hp : p ≤ xs.size) : (SetTable.insertAt xs p x).toList = xs.toList.take p ++ x :: xs.toList.drop p := by
  unfold SetTable.insertAt
  simp [Array.toList_extract]
  rw [List.take_of_length_le (by simp)]
theorem a2y {α : Type} (xs : Array α) (p : Nat) (x : α) (hp : p ≤ xs.size) : (SetTable.insertAt xs p x).toList.Perm (x :: xs.toList) := by
  rw [a3C xs p x hp]
  refine List.perm_middle.trans ?_
  rw [List.take_append_drop]
theorem a3B {α : Type} (xs : Array α) (p : Nat) (x : α) (hp : p ≤ xs.size) : (SetTable.insertAt xs p x).size = xs.size + 1 := by
  rw [← Array.length_toList, (a2y xs p x hp).length_eq]; simp
structure Tb (t : SetTable) (m : Nat) : Prop where
  mask : t.mask = 7
  dum : t.dummies = #[]
  plain : t.plain = true
  size : t.place.size = m
  rise : Rise t.place
  le : ∀ j ∈ t.place.toList, j ≤ 7
theorem Tb.fits {t : SetTable} {m : Nat} (T : Tb t m) (hm : m ≤ 7) : t.fits m = true := by
  unfold SetTable.fits SetTable.fill
  rw [T.size, T.dum, T.mask]
  simp
  omega
theorem Tb.notFull {t : SetTable} {m : Nat} (T : Tb t m) (hm : m ≤ 4) : t.tooFull = false := by
  unfold SetTable.tooFull SetTable.fill
  rw [T.size, T.dum, T.mask]
  simp
  omega
theorem Tb.slot {t : SetTable} {m : Nat} (T : Tb t m) (j : Nat) : (t.slot j = .empty ∧ j ∉ t.place.toList) ∨ (∃ i, t.slot j = .live i) ∧ j ∈ t.place.toList := by
  unfold SetTable.slot
  dsimp only
  by_cases h : (t.place[SetTable.below t.place j]? == some j) = true
  · rw [if_pos h]
    have e : t.place[SetTable.below t.place j]? = some j := eq_of_beq h
    rw [← Array.getElem?_toList] at e
    exact .inr ⟨⟨_, rfl⟩, List.mem_of_getElem? e⟩
  · rw [if_neg h]
    have hd : SetTable.has t.dummies j = false := by rw [T.dum]; rfl
    rw [if_neg (by rw [hd]; exact Bool.false_ne_true)]
    refine .inl ⟨rfl, fun hm => h ?_⟩
    obtain ⟨i, hi, e⟩ := List.getElem_of_mem hm
    have hi' : i < t.place.size := by simpa using hi
    have e' : t.place[i] = j := by simpa using e
    obtain ⟨h1, h2, h3⟩ := a28 T.rise j
    have hb : SetTable.below t.place j = i := by
      by_cases l : SetTable.below t.place j ≤ i
      · by_cases l2 : SetTable.below t.place j = i
        · exact l2
        · have hlt : SetTable.below t.place j < t.place.size := by omega
          have a := h3 _ hlt (Nat.le_refl _)
          have b := a4Z T.rise (show SetTable.below t.place j < i by omega) hi'
          omega
      · have := h2 i hi' (by omega); omega
    rw [hb, Array.getElem?_eq_getElem hi', e']
    exact beq_self_eq_true _
theorem a7M {h : Int} (h0 : 0 ≤ h) (h1 : h < 32) : SetTable.bits h = h.toNat := by
  unfold SetTable.bits
  rw [Int.emod_eq_of_lt h0 (by omega)]
theorem four_in {l : List Nat} {a b c d : Nat} (hl : l.length ≤ 3) (h1 : a ∈ l) (h2 : b ∈ l) (h3 : c ∈ l) (h4 : d ∈ l) (n : [a, b, c, d].Nodup) : False := by
  have hs : [a, b, c, d] ⊆ l := by
    intro x hx
    simp at hx
    rcases hx with rfl | rfl | rfl | rfl <;> assumption
  have := List.Nodup.length_le_of_subset n hs
  simp at this
  omega
theorem Tb.free {t : SetTable} {m : Nat} (T : Tb t m) (hm : m ≤ 3) {h : Int} (h0 : 0 ≤ h) (h1 : h < 32) : ∃ j, t.freeSlot h = some (j, false) ∧ j ≤ 7 ∧ j ∉ t.place.toList := by
  obtain ⟨n, rfl⟩ : ∃ n : Nat, h = n := ⟨h.toNat, by omega⟩
  have hb : SetTable.bits (n : Int) = n := by rw [a7M h0 h1]; rfl
  have hn : n < 32 := by omega
  have hl : t.place.toList.length ≤ 3 := by rw [Array.length_toList, T.size]; exact hm
  have run : ∀ (i : Nat), SetTable.runEnd t.mask i = i ∨ 7 < i := fun i => by
    unfold SetTable.runEnd
    rw [T.mask]
    by_cases q : i + 9 ≤ 7
    · omega
    · rw [if_neg q]; exact .inl rfl
  have hrun : ∀ i, SetTable.runEnd t.mask i - i = 0 := fun i => by
    unfold SetTable.runEnd
    rw [T.mask, if_neg (by omega)]
    omega
  have adv : ∀ (i p : Nat), p / 32 = 0 → t.advance ⟨i, 0, i, p, none⟩ = ⟨(i * 5 + 1) % 8, 0, (i * 5 + 1) % 8, 0, none⟩ := fun i p hp => by
    unfold SetTable.advance SetTable.leap
    rw [if_neg (Nat.lt_irrefl 0)]
    dsimp only
    rw [hp, hrun, T.mask]
  have step : ∀ (fuel i p : Nat), p / 32 = 0 → (∃ r, SetTable.probe.go t (fun _ => (n : Int) + 1) n (fuel + 1) ⟨i, 0, i, p, none⟩ = some r ∧ r = .empty i none ∧ i ∉ t.place.toList) ∨ (i ∈ t.place.toList ∧ SetTable.probe.go t (fun _ => (n : Int) + 1) n (fuel + 1) ⟨i, 0, i, p, none⟩ = SetTable.probe.go t (fun _ => (n : Int) + 1) n fuel ⟨(i * 5 + 1) % 8, 0, (i * 5 + 1) % 8, 0, none⟩) := fun fuel i p hp => by
    rcases T.slot i with ⟨e, ni⟩ | ⟨⟨k, e⟩, hi⟩
    · refine .inl ⟨.empty i none, ?_, rfl, ni⟩
      unfold SetTable.probe.go
      dsimp only
      rw [e]
    · refine .inr ⟨hi, ?_⟩
      conv => lhs; unfold SetTable.probe.go
      dsimp only
      rw [e]
      dsimp only
      rw [if_neg (by simp; omega), adv i p hp]
  have hps : t.probeStart (n : Int) = ⟨n % 8, 0, n % 8, n, none⟩ := by
    unfold SetTable.probeStart
    dsimp only
    rw [hb, hrun, T.mask]
  have fin : ∀ {j : Nat} {r : SetTable.Met}, j < 8 → SetTable.probe.go t (fun _ => (n : Int) + 1) n (10 * SetTable.turns t.mask) ⟨n % 8, 0, n % 8, n, none⟩ = some r → r = .empty j none → j ∉ t.place.toList → ∃ j, t.freeSlot (n : Int) = some (j, false) ∧ j ≤ 7 ∧ j ∉ t.place.toList := fun {j r} hj e er nj => by
    refine ⟨j, ?_, by omega, nj⟩
    unfold SetTable.freeSlot SetTable.probe
    rw [hps, e, er]
    rfl
  have hf : 10 * SetTable.turns t.mask = 216 + 1 + 1 + 1 + 1 := by unfold SetTable.turns; rw [T.mask]
  rw [hf] at fin
  have h8 : n % 8 < 8 := Nat.mod_lt _ (by decide)
  rcases step (216 + 1 + 1 + 1) (n % 8) n (by omega) with ⟨r, e, er, nj⟩ | ⟨i1, e1⟩
  · exact fin h8 e er nj
  rcases step (216 + 1 + 1) ((n % 8 * 5 + 1) % 8) 0 rfl with ⟨r, e, er, nj⟩ | ⟨i2, e2⟩
  · exact fin (by omega) (e1.trans e) er nj
  rcases step (216 + 1) (((n % 8 * 5 + 1) % 8 * 5 + 1) % 8) 0 rfl with ⟨r, e, er, nj⟩ | ⟨i3, e3⟩
  · exact fin (by omega) ((e1.trans e2).trans e) er nj
  rcases step 216 ((((n % 8 * 5 + 1) % 8 * 5 + 1) % 8 * 5 + 1) % 8) 0 rfl with ⟨r, e, er, nj⟩ | ⟨i4, e4⟩
  · exact fin (by omega) (((e1.trans e2).trans e3).trans e) er nj
  exact (four_in hl i1 i2 i3 i4 (by
    have : n % 8 = 0 ∨ n % 8 = 1 ∨ n % 8 = 2 ∨ n % 8 = 3 ∨ n % 8 = 4 ∨ n % 8 = 5 ∨ n % 8 = 6 ∨ n % 8 = 7 := by omega
    rcases this with h | h | h | h | h | h | h | h <;> rw [h] <;> decide)).elim
theorem Tb.put {t : SetTable} {m : Nat} (T : Tb t m) {j : Nat} (hj : j ≤ 7) (nj : j ∉ t.place.toList) : Tb (t.put j).1 (m + 1) ∧ (t.put j).2 ≤ m ∧ (t.put j).1.led = t.led := by
  obtain ⟨h1, h2, h3⟩ := a28 T.rise j
  have hd : SetTable.has t.dummies j = false := by rw [T.dum]; rfl
  have hz : SetTable.below t.place j ≤ m := by rw [← T.size]; exact h1
  unfold SetTable.put
  dsimp only
  rw [if_neg (by rw [hd]; exact Bool.false_ne_true)]
  refine ⟨⟨T.mask, T.dum, T.plain, ?_, ?_, fun k hk => ?_⟩, hz, rfl⟩
  · show (SetTable.insertAt t.place (SetTable.below t.place j) j).size = _
    rw [a3B _ _ _ h1, T.size]
  · show (SetTable.insertAt t.place (SetTable.below t.place j) j).toList.Pairwise (· < ·)
    rw [a3C _ _ _ h1]
    refine List.pairwise_append.mpr ⟨List.Pairwise.sublist (List.take_sublist _ _) T.rise, List.pairwise_cons.mpr ⟨fun k hk => ?_, List.Pairwise.sublist (List.drop_sublist _ _) T.rise⟩, fun a ha b hb => ?_⟩
    · obtain ⟨i, hi, e⟩ := List.getElem_of_mem hk
      rw [List.getElem_drop] at e
      rw [List.length_drop, Array.length_toList] at hi
      have a := h3 (SetTable.below t.place j + i) (by omega) (by omega)
      have e' : t.place[SetTable.below t.place j + i]'(by omega) = k := by simpa using e
      have : k ≠ j := fun z => nj (by rw [← z]; exact List.mem_of_mem_drop hk)
      omega
    · obtain ⟨i, hi, e⟩ := List.getElem_of_mem ha
      rw [List.getElem_take] at e
      rw [List.length_take, Array.length_toList] at hi
      have a1 := h2 i (by omega) (by omega)
      have e' : t.place[i]'(by omega) = a := by simpa using e
      rcases List.mem_cons.mp hb with rfl | hb
      · omega
      · obtain ⟨i2, hi2, e2⟩ := List.getElem_of_mem hb
        rw [List.getElem_drop] at e2
        rw [List.length_drop, Array.length_toList] at hi2
        have a2 := h3 (SetTable.below t.place j + i2) (by omega) (by omega)
        have e3 : t.place[SetTable.below t.place j + i2]'(by omega) = b := by simpa using e2
        omega
  · have hk' : k ∈ (SetTable.insertAt t.place (SetTable.below t.place j) j).toList := hk
    have := (a2y _ _ j h1).mem_iff.mp hk'
    rcases List.mem_cons.mp this with rfl | z
    · exact hj
    · exact T.le k z
theorem Tb.lay {t : SetTable} {m : Nat} (T : Tb t m) (hm : m ≤ 3) {h : Int} (h0 : 0 ≤ h) (h1 : h < 32) (es : Array (Int × Value)) (he : es.size = m) (x : Value) : ∃ es' t', layNew t es h x = (es', t', false, false) ∧ Tb t' (m + 1) ∧ t'.led = t.led ∧ es'.toList.Perm ((h, x) :: es.toList) ∧ es'.size = m + 1 := by
  obtain ⟨j, ej, hj, nj⟩ := T.free hm h0 h1
  obtain ⟨T', hp, hled⟩ := T.put hj nj
  have hsz : (SetTable.insertAt es (t.put j).2 (h, x)).size = m + 1 := by rw [a3B _ _ _ (by omega), he]
  have hfit := T'.fits (by omega)
  refine ⟨SetTable.insertAt es (t.put j).2 (h, x), (t.put j).1, ?_, T', hled, a2y _ _ _ (by omega), hsz⟩
  unfold layNew
  rw [ej]
  dsimp only
  rw [hsz, hfit]
  unfold SetTable.orStandIn
  rw [hfit]
  rfl
theorem a5E {α : Type} (next : Nat → Nat) : ∀ (fuel k : Nat) (left : List α) (out : Array α), left.length = fuel → (pickOrder.go next fuel k left out).toList.Perm (out.toList ++ left)
  | 0, k, left, out, h => by
    have : left = [] := List.length_eq_zero_iff.mp h
    subst this
    unfold pickOrder.go
    simp
  | fuel + 1, k, left, out, h => by
    unfold pickOrder.go
    have hlt : next k % left.length < left.length := Nat.mod_lt _ (by omega)
    rw [List.getElem?_eq_getElem hlt]
    dsimp only
    refine (a5E next fuel (k + 1) _ _ (by rw [List.length_eraseIdx_of_lt hlt]; omega)).trans ?_
    rw [Array.toList_push, List.append_assoc]
    refine List.Perm.append_left _ ?_
    have e : left = left.take (next k % left.length) ++ left[next k % left.length] :: left.drop (next k % left.length + 1) := by
      rw [← List.drop_eq_getElem_cons hlt, List.take_append_drop]
    rw [List.eraseIdx_eq_take_drop_succ]
    conv => rhs; rw [e]
    rw [List.singleton_append]
    exact List.perm_middle.symm
theorem a4z {α : Type} (next : Nat → Nat) (xs : Array α) : (pickOrder next xs).toList.Perm xs.toList := by
  have := a5E next xs.size 0 xs.toList #[] (by simp)
  simpa [pickOrder] using this
end L2
namespace L2
open PySem PySem.Spec PyProof.Rows
inductive EsK : List (Int × Value) → List Int → Prop
  | nil : EsK [] []
  | cons (k : Int) (tk : Tok) {es ks} : EsK es ks → EsK ((hashInt k, .int k tk) :: es) (k :: ks)
theorem EsK.length {es : List (Int × Value)} {ks : List Int} (h : EsK es ks) : es.length = ks.length := by
  induction h with
  | nil => rfl
  | cons k tk _ ih => rw [List.length_cons, List.length_cons, ih]
theorem EsK.perm {es es' : List (Int × Value)} (p : es'.Perm es) : ∀ {ks : List Int}, EsK es ks → ∃ ks', EsK es' ks' ∧ ks'.Perm ks := by
  have q := p.symm
  clear p
  induction q with
  | nil => intro ks h; cases h; exact ⟨[], .nil, .refl _⟩
  | cons x _ ih =>
    intro ks h
    cases h with
    | cons k tk t => obtain ⟨ks', e, p⟩ := ih t; exact ⟨k :: ks', .cons k tk e, p.cons k⟩
  | swap x y l =>
    intro ks h
    cases h with
    | cons k tk t => cases t with
      | cons k2 tk2 t2 => exact ⟨k2 :: k :: _, .cons k2 tk2 (.cons k tk t2), List.Perm.swap _ _ _⟩
  | trans _ _ ih1 ih2 =>
    intro ks h
    obtain ⟨k1, e1, p1⟩ := ih1 h
    obtain ⟨k2, e2, p2⟩ := ih2 e1
    exact ⟨k2, e2, p2.trans p1⟩
theorem EsK.elems {prog : Program} {w : World} {es : List (Int × Value)} {ks : List Int} (h : EsK es ks) : ElemsOf (intKind prog w) es := by
  induction h with
  | nil => intro e he; cases he
  | cons k tk _ ih =>
    intro e he
    rcases List.mem_cons.mp he with rfl | he
    · exact ⟨⟨k, by simp [intKind, Value.isInt], rfl⟩, rfl⟩
    · exact ih e he
theorem EsK.find {es : List (Int × Value)} {ks : List Int} (h : EsK es ks) (k : Int) : (es.findIdx? fun e => Value.isInt k e.2).isSome = decide (k ∈ ks) := by
  induction h with
  | nil => rfl
  | cons k' tk _ ih =>
    rw [List.findIdx?_cons]
    by_cases e : k = k'
    · subst e; simp [Value.isInt]
    · have : Value.isInt k (Value.int k' tk) = false := by simp [Value.isInt, Ne.symm e, e]
      simp only [this]
      rw [if_neg Bool.false_ne_true, Option.isSome_map, ih]
      simp [e]
theorem EsK.ints {es : List (Int × Value)} {ks : List Int} (h : EsK es ks) : IntsAre (es.map (·.2)) ks := by
  induction h with
  | nil => exact .nil
  | cons k tk _ ih => exact .cons k tk ih
def SetX (w : World) (h : Heap) (a : Addr) (ks : List Int) : Prop := ∃ o es ep t ks', h.get? a = some o ∧ o.ExactSet ∧ o.data = .set es ep t ∧ EsK es.toList ks' ∧ ks'.Perm ks ∧ Tb t es.size ∧ t.led = !w.params.followText "set-order"
theorem SetX.at {w : World} {h h' : Heap} {a : Addr} {ks : List Int} (S : SetX w h a ks) (k : ∀ o, h.get? a = some o → h'.get? a = some o) : SetX w h' a ks := by
  obtain ⟨o, es, ep, t, ks', ho, r⟩ := S
  exact ⟨o, es, ep, t, ks', k o ho, r⟩
theorem hash_fin : ∀ n : Fin 32, hashInt ((n.val : Nat) : Int) = ((n.val : Nat) : Int) := by decide +kernel
theorem a4O {k : Int} (h0 : 0 ≤ k) (h1 : k < 32) : hashInt k = k := by
  have h := hash_fin ⟨k.toNat, by omega⟩
  rwa [show (((⟨k.toNat, by omega⟩ : Fin 32).val : Nat) : Int) = k from Int.toNat_of_nonneg h0] at h
section
variable {prog : Program} {w : World} {A : Around} {E : Value → Shared → Prop} {s : Shared}
theorem setx_add {a : Addr} {ks : List Int} {k : Int} {tk : Tok} {Q : Bool → Shared → Prop} (S : SetX w s.heap a ks) (h0 : 0 ≤ k) (h1 : k < 32) (hl : ks.length ≤ 4) (hl2 : k ∉ ks → ks.length ≤ 3)
    (h : ∀ h' b, Heap.SameBut a s.heap h' → SetX w h' a (if k ∈ ks then ks else k :: ks) → Q b { s with heap := h', toks := s.toks + 1 }) : wpAny (model prog w) A (setAdd a (.int k tk)) Q E s := by
  obtain ⟨o, es, ep, t, ks', ho, hex, hd, hes, hp, T, hled⟩ := S
  have hsz : es.size = ks.length := by rw [← Array.length_toList, hes.length, hp.length_eq]
  have hf := T.fits (by omega)
  have hel : ElemsOf (intKind prog w) es.toList := hes.elems
  have hkey : (intKind prog w).is k (.int k tk) = true := by simp [intKind, Value.isInt]
  unfold setAdd
  refine wpAny_holding (wpAny_bind ((intKind prog w).pyHash hkey ?_))
  unfold setAddHashed setAddHashedIn
  refine wpAny_holding (wpAny_bind (wpAny_setState_of ho hd hf ?_))
  dsimp only
  rw [byScan_of (knd := intKind prog w) rfl (by unfold scanBound; omega) hel, if_pos rfl]
  unfold setAddByScan
  refine wpAny_bind (wpAny_bind (wpAny_rule (wpAny_bind (wpAny_setScan_of (s := { s with toks := s.toks + 1 }) hkey ho hd hf hel ?_))))
  have hfi := hes.find k
  have hfi' : ∀ r, es.toList.findIdx? (fun e => (intKind prog w).is k e.2) = r → r.isSome = decide (k ∈ ks') := fun r e => by rw [← e]; exact hfi
  have hmem : k ∈ ks' ↔ k ∈ ks := hp.mem_iff
  cases hr : es.toList.findIdx? (fun e => (intKind prog w).is k e.2) with
  | some j =>
    have hk : k ∈ ks := hmem.mp (by have := hfi' _ hr; simpa using this.symm)
    dsimp only
    refine wpAny_pure (wpAny_pure (h s.heap false (Heap.SameBut.refl a s.heap) ?_))
    rw [if_pos hk]
    exact ⟨o, es, ep, t, ks', ho, hex, hd, hes, hp, T, hled⟩
  | none =>
    have hk : k ∉ ks := fun z => by have := hfi' _ hr; rw [decide_eq_true (hmem.mpr z)] at this; cases this
    have h3 := hl2 hk
    obtain ⟨es', t', el, T', hl', hpm, hsz'⟩ := T.lay (by omega) (h := hashInt k) (by rw [a4O h0 h1]; exact h0) (by rw [a4O h0 h1]; exact h1) es rfl (.int k tk)
    have el' : layNew t es ((intKind prog w).hash k) (.int k tk) = (es', t', false, false) := el
    dsimp only
    rw [el']
    dsimp only
    refine wpAny_bind ?_
    show wpAny _ _ (pure ()) _ _ _
    refine wpAny_pure ?_
    rw [T'.plain, if_pos rfl, hashByValue_scannable 8 rfl]
    refine wpAny_bind (wpAny_pure ?_)
    rw [if_pos (show plainKind (Value.int k tk) = true from rfl)]
    refine wpAny_bind (wpAny_storeSet_of (s := { s with toks := s.toks + 1 }) ho hd ?_ (by rw [hsz', sizeLine_eq]; omega))
    rw [T'.notFull (by omega)]
    simp only [Bool.not_false, Bool.and_false, Bool.false_eq_true, if_false]
    refine wpAny_pure (wpAny_pure (h _ true (Heap.SameBut.update s.heap a (Obj.putSet es' t')) ?_))
    rw [if_neg hk]
    obtain ⟨ks2, e2, p2⟩ := EsK.perm hpm (.cons k tk hes)
    have hg : (s.heap.update a (Obj.putSet es' t')).get? a = some { o with data := .set es' (ep + 1) t' } := by
      have z := Heap.get?_update_self (Obj.putSet es' t') ho (by rw [putSet_of es' t' hd]; rfl)
      rw [putSet_of es' t' hd] at z; exact z
    exact ⟨_, es', ep + 1, t', ks2, hg, hex, rfl, e2, p2.trans (hp.cons k), by rw [hsz']; exact T', by rw [hl']; exact hled⟩
end
end L2
namespace L2
open PySem PySem.Spec PyProof.Rows
section
variable {prog : Program} {w : World} {A : Around} {E : Value → Shared → Prop} {s : Shared}
theorem a71 {R : Result → Shared → Prop} {S I l : Addr} {items : Array Value} {ns : List Int} (hh : A.in1.handled = none) (hli : l ≠ I) (hSI : S ≠ I) (hSl : S ≠ l) (hi : IntsAre items.toList ns) (hr : ∀ n ∈ ns, 0 ≤ n ∧ n < 32) (h4 : ns.length ≤ 4) :
    ∀ (k i : Nat) (s : Shared) (ks : List Int), items.size - i = k → i ≤ items.size → s.heap.IsListIter I l i → s.heap.IsList l items → SetX w s.heap S ks → ks.length ≤ i → (∀ n, n ∈ ks ↔ n ∈ ns.take i) → ks.Nodup →
      (∀ h' tk ks', (∀ b o, b ≠ S → b ≠ I → s.heap.get? b = some o → h'.get? b = some o) → SetX w h' S ks' → (∀ n, n ∈ ks' ↔ n ∈ ns) → ks'.Nodup → R (.ok (.ret .none)) { s with heap := h', toks := tk }) →
      codeAny (model prog w) A (.builtin "set.update.loop" ⟨[.ref S, .ref I], []⟩) R s := by
  have hlen : items.size = ns.length := by rw [← Array.length_toList]; exact hi.length
  have W := Walks.list (prog := prog) (w := w) hh I l hli items
  intro k
  induction k with
  | zero =>
    intro i s ks hk hile st hl S1 hkl hm nd hR
    obtain rfl : i = items.size := by omega
    refine codeAny_builtin PyProof.Rows.F.entry_set_update_loop ?_
    rw [Around.under_plainId PyProof.Rows.F.plain_set_update_loop _]
    refine wpAny_bind (m := pyNext (.ref I)) (W.done s _ _ ⟨st, hl⟩ fun h' tk kp => ?_)
    refine wpAny_pure (hR h' tk ks (fun b o _ hb e => kp b o (by simpa using hb) e) (S1.at fun o e => kp S o (by simpa using hSI) e) (fun n => ?_) nd)
    rw [hm n, hlen, List.take_length]
  | succ k ih =>
    intro i s ks hk hile st hl S1 hkl hm nd hR
    have hlt : i < items.size := by omega
    refine codeAny_builtin PyProof.Rows.F.entry_set_update_loop ?_
    rw [Around.under_plainId PyProof.Rows.F.plain_set_update_loop _]
    refine wpAny_bind (m := pyNext (.ref I)) (W.item i s _ _ hlt ⟨st, hl⟩ fun v h' tk hv st' kp => ?_)
    obtain ⟨t, rfl⟩ := PyProof.Rows.IntsAre.int_at hi i v (by rw [Array.getElem?_toList]; exact hv)
    have hmem : ns.getD i 0 ∈ ns := by rw [List.getD_eq_getElem?_getD, List.getElem?_eq_getElem (by omega)]; exact List.getElem_mem _
    have S2 : SetX w h' S ks := S1.at fun o e => kp S o (by simpa using hSI) e
    obtain ⟨r0, r1⟩ := hr _ hmem
    refine wpAny_bind (m := holding _ _) (wpAny_holding (setx_add (s := { s with heap := h', toks := tk }) S2 r0 r1 (by omega) (fun _ => by omega) fun h2 b sb S3 => ?_))
    refine wpAny_pure ⟨plainId_quiet PyProof.Rows.F.plain_set_update_loop _, ih (i + 1) _ _ (by omega) hlt ?_ ?_ S3 ?_ ?_ ?_ fun h3 tk3 ks3 kp3 S4 m4 n4 => ?_⟩
    · exact st'.1.extBut sb.extBut (Ne.symm hSI)
    · exact st'.2.extBut sb.extBut (Ne.symm hSl)
    · split
      · omega
      · rw [List.length_cons]; omega
    · intro n
      have htake : ns.take (i + 1) = ns.take i ++ [ns.getD i 0] := by
        rw [List.take_add_one, List.getElem?_eq_getElem (by omega), List.getD_eq_getElem?_getD, List.getElem?_eq_getElem (by omega)]
        rfl
      rw [htake, List.mem_append, List.mem_singleton, ← hm n]
      split
      · rename_i hin
        constructor
        · exact .inl
        · rintro (z | rfl)
          · exact z
          · exact hin
      · rw [List.mem_cons, or_comm]
    · split
      · exact nd
      · rename_i hin; exact List.nodup_cons.mpr ⟨hin, nd⟩
    · refine hR h3 tk3 ks3 (fun b o hb1 hb2 e => kp3 b o hb1 hb2 (sb.extBut b o hb1 (kp b o (by simpa using hb2) e))) S4 m4 n4
theorem setx_new (a : Value) {Q₁ : Value → Shared → Prop} (h : Q₁ (.ref s.heap.objs.size) { s with heap := s.heap.push { cls := .type "set", dict := none, data := .set #[] 0 (.fresh 0 0 (!w.params.followText "set-order")) } }) :
    codeAny (model prog w) A (.call (.builtin "set.__new__") ⟨[.type "set", a], []⟩) (wants Q₁ E) s := by
  refine codeAny_of_tree (wpAny_bind (m := checkBuiltinCall "set.__new__" ⟨[.type "set", a], []⟩) (wpAny_of_eq (PySem.F.newCall_set_1 a) (wpAny_pure ⟨plainId_quiet PySem.F.plain_set_new _, codeAny_builtin PySem.F.entry_set_new ?_⟩)))
  rw [Around.under_plainId PySem.F.plain_set_new _]; unfold Builtin.«set.__new__» Builtin.Frozenset.newClass; have hsub := sub_set_self
  obtain ⟨hp, g, d, tk, os⟩ := s; dsimp only; wp_walk
  refine wpAny_askSetting (wpAny_pure ?_); dsimp only; simp only [newObj]
  exact wpAny_bind (wpAny_alloc (wpAny_pure (wpAny_pure h)))
theorem a7i {h : Heap} {a : Addr} (e : h.get? a = some { cls := .type "set", dict := none, data := .set #[] 0 (.fresh 0 0 (!w.params.followText "set-order")) }) : SetX w h a [] :=
  ⟨_, #[], 0, _, [], e, ⟨rfl, rfl, rfl⟩, rfl, .nil, .refl _, ⟨rfl, rfl, rfl, rfl, .nil, fun j hj => by cases hj⟩, rfl⟩
set_option maxHeartbeats 4000000 in
theorem a8T {l : Addr} {items : Array Value} {ns : List Int} {Q : Value → Shared → Prop} (hh : A.handled = none) (hl : s.heap.IsList l items) (hi : IntsAre items.toList ns) (hr : ∀ n ∈ ns, 0 ≤ n ∧ n < 32) (h4 : ns.length ≤ 4)
    (h : ∀ (h' : Heap) (tk : Nat) (ks : List Int), SetX w h' s.heap.objs.size ks → (∀ n, n ∈ ks ↔ n ∈ ns) → ks.Nodup → (∀ b o, s.heap.get? b = some o → h'.get? b = some o) → Q (.ref s.heap.objs.size) { s with heap := h', toks := tk }) :
    wpAny (model prog w) A (call (.type "set") [.ref l]) Q E s := by
  obtain ⟨c, tl, hmro⟩ := PySem.F.called_set.mro; have hmade := PySem.F.called_set.made; have hsub := PySem.F.called_set.sub
  refine wpAny_call (codeAny_of_tree ?_); show wpAny _ _ (callAny (.type "set") _) _ _ _
  refine wpAny_pure ⟨Code.quiet_builtin _ (by decide +kernel), codeAny_builtin PySem.F.entry_type_call ?_⟩
  rw [Around.under_plain (weight_type_call_type "set" [.ref l] []) rfl]
  have h1 := PySem.F.called_set.notType; have h2 := PySem.F.called_set.canCreate; have hct := PySem.F.typeCall_set_1 (.ref l)
  repeat (any_goals (first | assumption | wp_step))
  generalize hO : ({ cls := .type "set", dict := none, data := .set #[] 0 (.fresh 0 0 (!w.params.followText "set-order")) } : Obj) = O0
  refine codeAny_mono (setx_new (.ref l) (E := E) (Q₁ := fun obj s₁ => obj = .ref s.heap.objs.size ∧ s₁ = { s with heap := s.heap.push O0 }) (by rw [hO]; exact ⟨rfl, rfl⟩)) fun r s₁ hr1 => ?_
  cases r with
  | error e => exact hr1
  | ok fl => cases fl with
    | ret obj =>
      obtain ⟨rfl, rfl⟩ := hr1
      have hS : (s.heap.push O0).get? s.heap.objs.size = some O0 := Heap.get?_push_size _ (by rw [← hO]; rfl)
      have hT : Shared.TypeIs { s with heap := s.heap.push O0 } (.ref s.heap.objs.size) "set" := ⟨_, hS, by rw [← hO]⟩
      have hli := PySem.F.called_set.init.lookup; have hbi := PySem.F.called_set.init.bind (.ref s.heap.objs.size)
      repeat (any_goals (first | assumption | wp_step))
      refine codeAny_mono (codeAny_call_builtin (R := wants (fun r s₂ => r = .none ∧ ∃ h' tk ks, s₂ = { s with heap := h', toks := tk } ∧ SetX w h' s.heap.objs.size ks ∧ (∀ n, n ∈ ks ↔ n ∈ ns) ∧ ks.Nodup ∧ ∀ b o, s.heap.get? b = some o → h'.get? b = some o) E) PySem.F.called_set.init.plain PySem.F.entry_set_init (check_set_init_1 hT ?_)) fun r₂ s₂ hr₂ => ?_
      · obtain ⟨⟨oc, od, odt, osl⟩, hol, hcl, nl, hdl⟩ := hl
        replace hcl : oc = .type "list" := hcl
        replace hdl : odt = .seq items nl := hdl
        subst hcl hdl
        have hol' : (s.heap.push O0).get? l = some _ := Heap.get?_push_of_some _ hol
        have hsls := PySem.F.sub_list_set; have hslf := PySem.F.sub_list_frozenset; have hne : (Value.type "list" == Value.type "dict") = false := by decide
        have hl1 : (s.heap.push O0).IsList l items := ⟨_, hol', rfl, nl, rfl⟩
        have hlS : l < s.heap.objs.size := Heap.lt_size hol
        have hS0 : (s.heap.push O0).get? s.heap.objs.size = some { cls := .type "set", dict := none, data := .set #[] 0 (.fresh 0 0 (!w.params.followText "set-order")) } := by rw [hO]; exact hS
        unfold Builtin.«set.__init__» noKeywords Builtin.Frozenset.updateFrom; generalize hPI : pyIter = PI; subst hO; wp_walk; subst hPI
        refine wpAny_pyIter_list hl1 (wpAny_bind (wpAny_runValue ?_))
        have n1 : (s.heap.push { cls := .type "set", dict := none, data := .set #[] 0 (.fresh 0 0 (!w.params.followText "set-order")) }).objs.size = s.heap.objs.size + 1 := Heap.size_push ..
        have hit : ((s.heap.push { cls := .type "set", dict := none, data := .set #[] 0 (.fresh 0 0 (!w.params.followText "set-order")) }).push { cls := .type "list_iterator", data := .fields #[.ref l, .int 0 0] }).get? (s.heap.objs.size + 1) = some { cls := .type "list_iterator", data := .fields #[.ref l, .int 0 0] } := by rw [← n1]; exact Heap.get?_push_size _ rfl
        rw [n1]
        refine a71 (I := s.heap.objs.size + 1) (by simp [hh]) (Nat.ne_of_lt (Nat.lt_succ_of_lt hlS)) (Nat.ne_of_lt (Nat.lt_succ_self _)) (Nat.ne_of_gt hlS) hi hr h4 (items.size - 0) 0 _ [] rfl (Nat.zero_le _) ⟨_, hit, rfl, rfl⟩ (hl1.push _) (a7i (Heap.get?_push_of_some _ hS0)) (Nat.le_refl _) (fun n => by simp) .nil fun h' tk ks kp S1 m1 nd => ?_
        refine wpAny_pure (wpAny_pure ⟨rfl, h', tk, ks, rfl, S1, m1, nd, fun b o e => ?_⟩)
        have hb := Heap.lt_size e
        exact kp b o (Nat.ne_of_lt hb) (Nat.ne_of_lt (Nat.lt_succ_of_lt hb)) (Heap.get?_push_of_some _ (Heap.get?_push_of_some _ e))
      · cases r₂ with
        | error e => exact hr₂
        | ok fl₂ => cases fl₂ with
          | ret r =>
            obtain ⟨rfl, h', tk, ks, rfl, S1, m1, nd, kp⟩ := hr₂
            repeat (any_goals (first | assumption | wp_step))
            exact h _ _ ks S1 m1 nd kp
          | _ => exact hr₂.elim
    | _ => exact hr1.elim
end
end L2
namespace L2
open PySem PySem.Spec PyProof.Rows
theorem a2R : Slot "set_iterator" "__next__" "set_iterator.__next__" := .of (owner := "set_iterator") (n := "__next__") (by rw [typeLookup_type, builtinLookup_eq_fast]; kernel_rfl) (by decide +kernel) (by decide +kernel) (by decide +kernel) (by first | exact .inl (by decide +kernel) | exact .inr (by decide +kernel)) (by rw [isSubtype_type]; kernel_rfl)
theorem a67 : entryFor table "set_iterator.__next__" = some Builtin.«set_iterator.__next__» := entryFor_of_tree (by kernel_rfl)
theorem a7H : entryFor table "set.__iter__" = some Builtin.«frozenset.__iter__» := entryFor_alias (id' := "frozenset.__iter__") (by kernel_rfl) rfl (by decide +kernel) (by kernel_rfl)
theorem a7c (a : Value) : argsOk "set_iterator.__next__" ⟨[a], []⟩ := by unfold argsOk; kernel_rfl
def SetE (h : Heap) (a : Addr) (es : Array (Int × Value)) (ep : Nat) (t : SetTable) : Prop := ∃ o, h.get? a = some o ∧ o.ExactSet ∧ o.data = .set es ep t
def a3l (w : World) (a : Addr) (es : Array (Int × Value)) (ep : Nat) : Array (Int × Value) := if w.params.followText "set-order" = true then pickOrder (w.params.setOrder a ep) es else es
theorem a4K (w : World) (a : Addr) (es : Array (Int × Value)) (ep : Nat) : (a3l w a es ep).toList.Perm es.toList := by
  unfold a3l
  split
  · exact a4z _ _
  · exact .refl _
def markOf (w : World) (t : SetTable) (i : Nat) : Nat := if w.params.followText "set-order" = true then 0 else if i = 0 then 0 else t.place.getD (i - 1) 0 + 1
abbrev a7D (a : Addr) (slot i n ep : Nat) : Obj := { cls := .type "set_iterator", dict := none, data := .fields #[rawInt slot, rawInt i, .ref a, rawInt n, rawInt ep], slots := #[] }
section
variable {prog : Program} {w : World} {A : Around} {E : Value → Shared → Prop} {s : Shared} {a it : Addr} {es : Array (Int × Value)} {ep : Nat} {t : SetTable}
theorem SetE.state (S : SetE s.heap a es ep t) (hf : t.fits es.size = true) {Q : (Array (Int × Value) × Nat × SetTable) → Shared → Prop} (h : Q (es, ep, t) s) : wpAny (model prog w) A (setState a) Q E s := by
  obtain ⟨o, ho, _, hd⟩ := S
  exact wpAny_setState_of ho hd hf h
theorem a72 {Q : Value → Shared → Prop} (S : SetE s.heap a es ep t) (T : Tb t es.size) (hm : es.size ≤ 4) (h : Q (.ref s.heap.objs.size) { s with heap := s.heap.push (a7D a 0 0 es.size ep) }) : wpAny (model prog w) A (pyIter (.ref a)) Q E s := by
  have hf := T.fits (by omega)
  obtain ⟨o, ho, hex, hd⟩ := id S
  have hT : s.TypeIs (.ref a) "set" := ⟨o, ho, hex.1⟩
  refine wpAny_pyIter_slot hT PySem.F.slot_set_iter (wpAny_call_entry PySem.F.slot_set_iter hT a7H ?_ (PySem.F.args_set_iter_1 _))
  unfold Builtin.«frozenset.__iter__»
  rw [show Builtin.Frozenset.slot0 "__iter__" ⟨[.ref a], []⟩ = pure a from rfl]
  refine wpAny_bind (wpAny_pure (wpAny_bind (m := Builtin.Frozenset.sizeOf a) ?_))
  unfold Builtin.Frozenset.sizeOf setEntries
  refine wpAny_bind (wpAny_bind (S.state hf (wpAny_pure (wpAny_pure (wpAny_bind (m := setDrawn a) ?_)))))
  unfold setDrawn setsByText
  refine wpAny_bind (S.state hf ?_)
  dsimp only
  refine wpAny_bind (wpAny_bind (wpAny_askSetting (wpAny_pure (wpAny_pure ?_))))
  show wpAny _ _ (if (!w.params.followText "set-order" && (!t.plain && decide (es.size > 1))) = true then _ else _) _ _ _
  rw [T.plain, if_neg (by simp)]
  refine wpAny_bind (wpAny_pure (wpAny_bind (m := setEpoch a) ?_))
  unfold setEpoch
  refine wpAny_bind (S.state hf (wpAny_pure (wpAny_bind (m := newFields _ _) ?_)))
  unfold newFields
  refine wpAny_newObj_type (wpAny_pure ⟨_, rfl, "set_iterator", _, ⟨_, Heap.get?_push_size _ rfl, rfl⟩, a2R.lookup, h⟩) (by size_fits)
theorem a7y (T : Tb t es.size) (hw : w.params.followText "set-order" = false) {i : Nat} (hi : i ≤ es.size) : SetTable.below t.place (markOf w t i) = i := by
  unfold markOf
  rw [if_neg (by rw [hw]; exact Bool.false_ne_true)]
  by_cases h0 : i = 0
  · subst h0; rw [if_pos rfl]; exact a7N T.rise
  · rw [if_neg h0]
    have hlt : i - 1 < t.place.size := by rw [T.size]; omega
    have := a7O T.rise hlt
    rw [Array.getD_eq_getD_getElem?, Array.getElem?_eq_getElem hlt, Option.getD_some, this]
    omega
theorem a7Z {Q : Option (Value × Nat) → Shared → Prop} {i : Nat} (S : SetE s.heap a es ep t) (T : Tb t es.size) (hm : es.size ≤ 4) (hled : t.led = !w.params.followText "set-order") (hi : i ≤ es.size)
    (h : Q ((a3l w a es ep)[i]?.map fun e => (e.2, markOf w t (i + 1))) s) : wpAny (model prog w) A (setNext a (markOf w t i) i ep) Q E s := by
  have hf := T.fits (by omega)
  unfold setNext setsByText
  refine wpAny_bind (S.state hf ?_)
  dsimp only
  refine wpAny_bind (wpAny_bind (wpAny_askSetting (wpAny_pure ?_)))
  cases hw : w.params.followText "set-order" with
  | true =>
    show wpAny _ _ (if w.params.followText "set-order" = true then _ else _) _ _ _
    rw [if_pos hw]
    simp only [bne_self_eq_false, Bool.false_eq_true, if_false]
    unfold setWalk setsByText
    refine wpAny_bind (wpAny_bind (S.state hf ?_))
    dsimp only
    refine wpAny_bind (wpAny_bind (wpAny_askSetting (wpAny_pure ?_)))
    show wpAny _ _ (if w.params.followText "set-order" = true then _ else _) _ _ _
    rw [if_pos hw]
    refine wpAny_bind (wpAny_askSetting (wpAny_pure (wpAny_pure ?_)))
    have e1 : a3l w a es ep = pickOrder (w.params.setOrder a ep) es := by unfold a3l; rw [if_pos hw]
    have e2 : ∀ j, markOf w t j = 0 := fun j => by unfold markOf; rw [if_pos hw]
    rw [e1, e2] at h
    rw [e2]
    exact h
  | false =>
    show wpAny _ _ (if w.params.followText "set-order" = true then _ else _) _ _ _
    rw [if_neg (by rw [hw]; exact Bool.false_ne_true)]
    show wpAny _ _ (if (!t.plain && decide (es.size > 1)) = true then _ else _) _ _ _
    rw [T.plain, if_neg (by simp)]
    refine wpAny_bind ?_
    show wpAny _ _ (if (!t.led && !es.isEmpty) = true then _ else _) _ _ _
    rw [hled, hw, if_neg (by simp)]
    refine wpAny_pure (wpAny_pure ?_)
    rw [a7y T hw hi]
    have e1 : a3l w a es ep = es := by unfold a3l; rw [if_neg (by rw [hw]; exact Bool.false_ne_true)]
    rw [e1] at h
    by_cases hlt : i < es.size
    · have hp : i < t.place.size := by rw [T.size]; exact hlt
      rw [Array.getElem?_eq_getElem hlt] at h ⊢
      rw [Array.getElem?_eq_getElem hp]
      have e2 : markOf w t (i + 1) = t.place[i] + 1 := by
        unfold markOf
        rw [if_neg (by rw [hw]; exact Bool.false_ne_true), if_neg (by omega), Nat.add_sub_cancel, Array.getD_eq_getD_getElem?, Array.getElem?_eq_getElem hp, Option.getD_some]
      rw [e2] at h
      exact h
    · rw [Array.getElem?_eq_none (by omega)] at h ⊢
      exact h
theorem a41 : (a3l w a es ep).size = es.size := by rw [← Array.length_toList, (a4K w a es ep).length_eq, Array.length_toList]
theorem a70 {Q : Option Value → Shared → Prop} {i : Nat} {v : Value} (S : SetE s.heap a es ep t) (T : Tb t es.size) (hm : es.size ≤ 4) (hled : t.led = !w.params.followText "set-order") (hit : s.heap.get? it = some (a7D a (markOf w t i) i es.size ep)) (hi : i < es.size) (hv : ((a3l w a es ep)[i]?.map (·.2)) = some v)
    (h : ∀ h', h'.get? it = some (a7D a (markOf w t (i + 1)) (i + 1) es.size ep) → Heap.SameBut it s.heap h' → Q (some v) { s with heap := h' }) : wpAny (model prog w) A (pyNext (.ref it)) Q E s := by
  have hf := T.fits (by omega)
  have hT : s.TypeIs (.ref it) "set_iterator" := ⟨_, hit, rfl⟩
  unfold pyNext
  refine wpAny_bind (wpAny_attempt (wpAny_callSpecial?_slot (name := Str.ofString "__next__") hT a2R (wpAny_call_entry a2R hT a67 ?_ (a7c _))))
  unfold Builtin.«set_iterator.__next__»
  rw [show slotArgs "__next__" 0 ⟨[.ref it], []⟩ = pure (.ref it, []) from rfl]
  refine wpAny_bind (wpAny_pure (wpAny_bind (wpAny_fieldsOf hit rfl ?_)))
  show wpAny _ _ (setEntries a >>= _) _ _ _
  unfold setEntries
  refine wpAny_bind (wpAny_bind (S.state hf (wpAny_pure ?_)))
  show wpAny _ _ (if (((es.size : Nat) : Int) != ((es.size : Nat) : Int)) = true then _ else _) _ _ _
  rw [if_neg (by simp)]
  show wpAny _ _ (setNext a ((markOf w t i : Nat) : Int).toNat ((i : Nat) : Int).toNat ((ep : Nat) : Int).toNat >>= _) _ _ _
  rw [Int.toNat_natCast, Int.toNat_natCast, Int.toNat_natCast]
  refine wpAny_bind (a7Z S T hm hled (by omega) ?_)
  cases ho : (a3l w a es ep)[i]? with
  | none => rw [ho] at hv; cases hv
  | some e =>
    rw [ho] at hv
    cases hv
    show wpAny _ _ (setField (.ref it) 0 (rawInt ((markOf w t (i + 1) : Nat) : Int)) >>= _) _ _ _
    refine wpAny_bind (wpAny_setField_rec hit (by simp) fun h1 i1 s1 => ?_)
    refine wpAny_bind (wpAny_setField_rec (s := { s with heap := h1 }) i1 (by simp) fun h2 i2 s2 => ?_)
    exact wpAny_pure ⟨_, rfl, wpAny_pure (h h2 i2 (s1.trans s2))⟩
theorem a73 {Q : Option Value → Shared → Prop} (hh : A.handled = none) (S : SetE s.heap a es ep t) (T : Tb t es.size) (hm : es.size ≤ 4) (hled : t.led = !w.params.followText "set-order") (hit : s.heap.get? it = some (a7D a (markOf w t es.size) es.size es.size ep))
    (h : ∀ h', Heap.ExtBut it s.heap h' → Q none { s with heap := h' }) : wpAny (model prog w) A (pyNext (.ref it)) Q E s := by
  have hf := T.fits (by omega)
  have hT : s.TypeIs (.ref it) "set_iterator" := ⟨_, hit, rfl⟩
  unfold pyNext
  refine wpAny_bind (wpAny_attempt (wpAny_callSpecial?_slot (name := Str.ofString "__next__") hT a2R (wpAny_call_entry a2R hT a67 ?_ (a7c _))))
  unfold Builtin.«set_iterator.__next__»
  rw [show slotArgs "__next__" 0 ⟨[.ref it], []⟩ = pure (.ref it, []) from rfl]
  refine wpAny_bind (wpAny_pure (wpAny_bind (wpAny_fieldsOf hit rfl ?_)))
  show wpAny _ _ (setEntries a >>= _) _ _ _
  unfold setEntries
  refine wpAny_bind (wpAny_bind (S.state hf (wpAny_pure ?_)))
  show wpAny _ _ (if (((es.size : Nat) : Int) != ((es.size : Nat) : Int)) = true then _ else _) _ _ _
  rw [if_neg (by simp)]
  show wpAny _ _ (setNext a ((markOf w t es.size : Nat) : Int).toNat ((es.size : Nat) : Int).toNat ((ep : Nat) : Int).toNat >>= _) _ _ _
  rw [Int.toNat_natCast, Int.toNat_natCast, Int.toNat_natCast]
  refine wpAny_bind (a7Z S T hm hled (Nat.le_refl _) ?_)
  rw [Array.getElem?_eq_none (by rw [a41]; exact Nat.le_refl _)]
  show wpAny _ _ (setField (.ref it) 2 Value.none >>= _) _ _ _
  refine wpAny_bind (wpAny_setField_rec hit (by simp) fun h1 i1 s1 => ?_)
  refine wpAny_bind ?_; simp only [newExc, newTuple]; refine wpAny_bind (wpAny_newObj_type ?_ (by size_fits))
  refine wpAny_bind (m := firstArgMember _ _) (wpAny_of_eq (a := Value.none) (by first | rfl | (simp only [firstArgMember]; rfl)) ?_); refine wpAny_newObj_type ?_ (by size_fits); simp only [raiseNew]
  refine wpAny_bind (wpAny_handled ?_); first | rw [show A.in1.handled = none from hh] | rw [hh]
  refine wpAny_bind (wpAny_pure (wpAny_throw ?_))
  refine wpAny_bind (wpAny_isInstance (T := "StopIteration") (b := true) ⟨_, Heap.get?_push_size _ rfl, rfl⟩ isSubtype_stop ?_)
  exact wpAny_pure (h _ ((s1.extBut.push _).push _))
end
end L2
namespace L2
open PySem PySem.Spec PyProof.Rows
theorem a5w : Slot "set_iterator" "__iter__" "set_iterator.__iter__" := .of (owner := "set_iterator") (n := "__iter__") (by rw [typeLookup_type, builtinLookup_eq_fast]; kernel_rfl) (by decide +kernel) (by decide +kernel) (by decide +kernel) (by first | exact .inl (by decide +kernel) | exact .inr (by decide +kernel)) (by rw [isSubtype_type]; kernel_rfl)
theorem a8N : entryFor table "set_iterator.__iter__" = some Builtin.«dict_keyiterator.__iter__» := entryFor_alias (id' := "dict_keyiterator.__iter__") (by kernel_rfl) rfl (by decide +kernel) (by kernel_rfl)
theorem a80 (a : Value) : argsOk "set_iterator.__iter__" ⟨[a], []⟩ := by unfold argsOk; kernel_rfl
section
variable {prog : Program} {w : World} {A : Around} {E : Value → Shared → Prop} {s : Shared} {a : Addr} {es : Array (Int × Value)} {ep : Nat} {t : SetTable}
theorem SetE.at {h h' : Heap} (S : SetE h a es ep t) (k : ∀ o, h.get? a = some o → h'.get? a = some o) : SetE h' a es ep t := by
  obtain ⟨o, ho, r⟩ := S
  exact ⟨o, k o ho, r⟩
theorem a7d (hh : A.handled = none) (T : Tb t es.size) (hm : es.size ≤ 4) (hled : t.led = !w.params.followText "set-order") (it : Addr) (ne : a ≠ it) :
    Walks prog w A it [it, a] [it] es.size (fun i v => ((a3l w a es ep)[i]?.map (·.2)) = some v) (fun i h => h.get? it = some (a7D a (markOf w t i) i es.size ep) ∧ SetE h a es ep t) where
  sub := fun b hb => by rw [List.mem_singleton.mp hb]; simp
  frame := fun i h h' st k => ⟨k it (by simp) _ st.1, st.2.at fun o e => k a (by simp) o e⟩
  item := fun i s Q E hi st hQ => by
    have hlt : i < (a3l w a es ep).size := by rw [a41]; exact hi
    refine a70 (v := (a3l w a es ep)[i].2) st.2 T hm hled st.1 hi (by rw [Array.getElem?_eq_getElem hlt]; rfl) fun h' i1 sb => ?_
    exact hQ _ h' s.toks (by rw [Array.getElem?_eq_getElem hlt]; rfl) ⟨i1, st.2.at fun o e => sb.extBut _ _ ne e⟩ fun b o hb e => sb.extBut b o (by simpa using hb) e
  done := fun s Q E st hQ => a73 hh st.2 T hm hled st.1 fun h' kp => hQ h' s.toks fun b o hb e => kp b o (by simpa using hb) e
  self := fun i s Q E st h => by
    have hT : s.TypeIs (.ref it) "set_iterator" := ⟨_, st.1, rfl⟩
    refine wpAny_pyIter_slot hT a5w (wpAny_call_entry a5w hT a8N (wpAny_pure ⟨_, rfl, "set_iterator", _, hT, a2R.lookup, h⟩) (a80 _))
theorem hint_set (hT : s.TypeIs (.ref a) "set") {Q : Bool → Shared → Prop} (h : Q false s) : wpAny (model prog w) A (Builtin.List.listLengthHint (.ref a)) Q E s := by
  unfold Builtin.List.listLengthHint
  refine wpAny_bind (wpAny_specialOf hT PySem.F.slot_set_len.lookup ?_); generalize hid : ("set.__len__" : String) = id0; wp_delta
  rw [show splitId id0 = some ("set", "__len__") from by subst hid; decide +kernel]; subst hid
  refine wpAny_bind (wpAny_isInstance (T := "set") (b := true) hT (by rw [isSubtype_type]; kernel_rfl) (wpAny_ite_split (fun hab => absurd hab (by decide)) (fun _ => wpAny_ite_split (fun _ => ?_) (fun hab => absurd (by decide +kernel) hab))))
  exact wpAny_bind (wpAny_typeOf hT (wpAny_pure h))
theorem kdl_setx (T : Tb t es.size) (hm : es.size ≤ 4) (hled : t.led = !w.params.followText "set-order") : PySem.W.KdlSrc prog w "set" a a es.size (fun i v => ((a3l w a es ep)[i]?.map (·.2)) = some v) (fun h => SetE h a es ep t) where
  type := fun s S => by obtain ⟨o, ho, hex, _⟩ := S; exact ⟨o, ho, hex.1⟩
  there := fun h S => by obtain ⟨o, ho, _⟩ := S; exact ⟨Heap.lt_size ho, Heap.lt_size ho⟩
  keep := fun h h' S k => S.at fun o e => k a (.inl rfl) o e
  notList := by decide
  notTuple := by decide
  hint := fun A E s Q S hq => by obtain ⟨o, ho, hex, _⟩ := S; exact hint_set ⟨o, ho, hex.1⟩ hq
  iter := fun A s hh S => by
    have hlt : a < s.heap.objs.size := by obtain ⟨o, ho, _⟩ := S; exact Heap.lt_size ho
    refine ⟨a7D a 0 0 es.size ep, _, fun E Q hq => a72 S T hm hq, a7d hh T hm hled _ (Nat.ne_of_lt hlt), ?_, S.at fun o e => Heap.get?_push_of_some _ e⟩
    have : markOf w t 0 = 0 := by unfold markOf; split <;> rfl
    rw [this]
    exact Heap.get?_push_size _ rfl
theorem a5W {es es' : List Value} (p : es'.Perm es) : ∀ {ks : List Int}, IntsAre es ks → ∃ ks', IntsAre es' ks' ∧ ks'.Perm ks := by
  have q := p.symm
  clear p
  induction q with
  | nil => intro ks h; cases h; exact ⟨[], .nil, .refl _⟩
  | cons x _ ih =>
    intro ks h
    cases h with
    | cons k tk t => obtain ⟨ks', e, p⟩ := ih t; exact ⟨k :: ks', .cons k tk e, p.cons k⟩
  | swap x y l =>
    intro ks h
    cases h with
    | cons k tk t => cases t with
      | cons k2 tk2 t2 => exact ⟨k2 :: k :: _, .cons k2 tk2 (.cons k tk t2), List.Perm.swap _ _ _⟩
  | trans _ _ ih1 ih2 =>
    intro ks h
    obtain ⟨k1, e1, p1⟩ := ih1 h
    obtain ⟨k2, e2, p2⟩ := ih2 e1
    exact ⟨k2, e2, p2.trans p1⟩
theorem collectX {T : String} {r d : Addr} {n : Nat} {P : Nat → Value → Prop} {OK : Heap → Prop} {R : List Value → Shared → Prop} (K : PySem.W.KdlSrc prog w T r d n P OK) (hh : A.handled = none) (hok : OK s.heap) (hn : n ≤ sizeLine)
    (h : ∀ (h' : Heap) (tk : Nat) (acc : Array Value), (∀ b o, s.heap.get? b = some o → h'.get? b = some o) → s.heap.objs.size < h'.objs.size → ItemsOf P acc n → R acc.toList { s with heap := h', toks := tk }) : wpAny (model prog w) A (collect (.ref r)) R E s := by
  obtain ⟨hr, hd⟩ := K.there _ hok
  unfold collect
  refine wpAny_bind (wpAny_runValue (codeAny_builtin entry_proto_collect' ?_)); rw [Around.under_plainId PySem.F.plain_proto_collect _]
  refine wpAny_bind (m := newList []) (wpAny_newObj_type (wpAny_pure ⟨plainId_quiet PySem.F.plain_list_iadd _, codeAny_builtin entry_list_iadd' ?_⟩)); rw [Around.under_plainId PySem.F.plain_list_iadd _]
  have e0 : (s.heap.push { cls := .type "list", data := .seq ([] : List Value).toArray }).get? s.heap.objs.size = some { cls := .type "list", data := .seq #[] } := Heap.get?_push_size _ rfl
  have fin : ∀ (q : Result) (s' : Shared), (∃ (h' : Heap) (tk : Nat) (acc : Array Value) (c : Nat), q = .ok (.ret (.ref s.heap.objs.size)) ∧ s' = { s with heap := h', toks := tk } ∧ (∀ b o, s.heap.get? b = some o → h'.get? b = some o) ∧ h'.get? s.heap.objs.size = some { cls := .type "list", dict := none, data := .seq acc c, slots := #[] } ∧ ItemsOf P acc n) → ∃ v, q = .ok (.ret v) ∧ wpAny (model prog w) A (match v with | .ref a => (do match (← load a).data with | .seq xs _ => pure xs.toList | _ => unsupported "internal:collect") | _ => unsupported "internal:collect") R E s' := by
    rintro q s' ⟨h', tk, acc, c, rfl, rfl, kp, e, it⟩
    exact ⟨_, rfl, wpAny_bind (wpAny_load e (wpAny_pure (h h' tk acc kp (Heap.lt_size e) it)))⟩
  have key := PySem.W.kdl_extend (A := A) (s := { s with heap := s.heap.push { cls := .type "list", data := .seq ([] : List Value).toArray } }) (R := fun q s' => ∃ (h' : Heap) (tk : Nat) (acc : Array Value) (c : Nat), q = .ok (.ret (.ref s.heap.objs.size)) ∧ s' = { s with heap := h', toks := tk } ∧ (∀ b o, s.heap.get? b = some o → h'.get? b = some o) ∧ h'.get? s.heap.objs.size = some { cls := .type "list", dict := none, data := .seq acc c, slots := #[] } ∧ ItemsOf P acc n)
    K hh (K.keep _ _ hok fun b _ o e => Heap.get?_push_of_some _ e) s.heap.objs.size (Nat.ne_of_gt hr) (Nat.ne_of_gt hd) (.ref s.heap.objs.size) 0 e0 (fun h' tk acc c kp e it => ⟨h', tk, acc, c, rfl, rfl, fun b o q => kp b o (Nat.ne_of_lt (Heap.lt_size q)) (Heap.get?_push_of_some _ q), e, it⟩) hn
  refine wpAny_mono key (fun fn s' x => ?_) (fun e s' x => by obtain ⟨_, _, _, _, z, _⟩ := x; cases z)
  cases fn with
  | done f => obtain ⟨v, e, z⟩ := fin _ _ x; cases e; exact z
  | again c => exact ⟨x.1, codeAny_mono x.2 fun q s2 y => by obtain ⟨v, e, z⟩ := fin _ _ y; subst e; exact z⟩
theorem a50 {ks : List Int} {Q : Value → Shared → Prop} (hh : A.handled = none) (S : SetX w s.heap a ks) (hk : ks.length ≤ 4)
    (h : ∀ (h' : Heap) (tk : Nat) (out : List Value) (ns : List Int) (D : Addr) (n : Nat), IntsAre out ns → ns.Perm ks → ns.Pairwise (· ≤ ·) → (∀ b o, s.heap.get? b = some o → h'.get? b = some o) → s.heap.objs.size ≤ D → h'.get? D = some { cls := .type "list", data := .seq out.toArray n } → Q (.ref D) { s with heap := h', toks := tk }) :
    wpAny (model prog w) A (call (.builtin "sorted") [.ref a]) Q E s := by
  obtain ⟨o, es, ep, t, ks', ho, hex, hd, hes, hp, T, hled⟩ := S
  have hsz : es.size = ks.length := by rw [← Array.length_toList, hes.length, hp.length_eq]
  have S1 : SetE s.heap a es ep t := ⟨o, ho, hex, hd⟩
  refine Calls.call_function_entry kind_sorted plain_sorted entry_sorted (args_sorted1 _) ?_
  unfold Builtin.«sorted»
  refine wpAny_bind (m := checkCount "sorted" 1 1 _) (wpAny_pure (wpAny_bind (collectX (A := A.in1) (kdl_setx T (by omega) hled) hh S1 (by rw [sizeLine_eq]; omega) fun h1 tk acc kp hlt0 hacc => ?_)))
  have hperm : (acc.toList).Perm (es.toList.map (·.2)) := by
    have e : acc.toList = (a3l w a es ep).toList.map (·.2) := by
      refine List.ext_getElem? fun i => ?_
      rw [List.getElem?_map, Array.getElem?_toList, Array.getElem?_toList]
      by_cases hi : i < acc.size
      · have := hacc.2 i acc[i] (Array.getElem?_eq_getElem hi)
        rw [Array.getElem?_eq_getElem hi, this]
      · rw [Array.getElem?_eq_none (by omega), Array.getElem?_eq_none (by rw [a41, ← hacc.1]; omega)]
        rfl
    rw [e]
    exact (a4K w a es ep).map _
  obtain ⟨k1, hints, pk⟩ : ∃ k1, IntsAre acc.toList k1 ∧ k1.Perm ks := by
    obtain ⟨k1, e1, p1⟩ := a5W hperm hes.ints
    exact ⟨k1, e1, p1.trans hp⟩
  have hal : acc.toList.length ≤ 4 := by rw [hints.length, pk.length_eq]; exact hk
  refine wpAny_bind (wpAny_newList ?_ (by rw [sizeLine_eq]; omega))
  have hoL : (h1.push { cls := .type "list", data := .seq acc.toList.toArray }).get? h1.objs.size = some (seqObj "list" acc.toList.toArray 0) := Heap.get?_push_size _ rfl
  refine wpAny_bind (wpAny_holding (wpAny_call_entry (s := { s with heap := h1.push { cls := .type "list", data := .seq acc.toList.toArray }, toks := tk }) slot_list_sort ⟨_, hoL, rfl⟩ entry_list_sort (list_sort_tree hoL hints (by omega) fun out ns' i1 p2 so => ⟨_, rfl, ?_⟩) (args_list_sort _)))
  obtain ⟨e, he⟩ := sortedHeap_at (out := out) hoL
  have hle : s.heap.objs.size ≤ h1.objs.size := Nat.le_of_lt hlt0
  refine wpAny_pure ⟨_, rfl, h _ _ out.toList ns' h1.objs.size e i1 (p2.trans pk) so (fun b o hb => ?_) hle (by simpa [seqObj] using he)⟩
  have hb1 := kp b o hb
  have hlt := Heap.lt_size hb1
  rw [sortedHeap_old (Nat.ne_of_lt hlt) (by rw [Heap.size_push]; exact Nat.lt_succ_of_lt hlt)]
  exact Heap.get?_push_of_some _ hb1
end
end L2
namespace L2
open PySem PySem.Spec PyProof.Rows
section
variable {X : Cx}
def few (ns : List Int) : Prop := ns.length ≤ 4 ∧ ∀ n ∈ ns, 0 ≤ n ∧ n < 32
def setO (w : World) (a : Addr) (ks : List Int) : HO := .ext fun h => SetX w h a ks
theorem setO_ok {P : Program} {w : World} {H : Hp} {h : Heap} {a : Addr} {ks : List Int} (S : SetX w h a ks) : ObjOk P w H h a (setO w a ks) := by
  refine ⟨S, ?_, fun h1 h2 S1 k => S1.at k⟩
  obtain ⟨o, _, _, _, _, e, _⟩ := S
  exact ⟨o, e⟩
theorem a8U (hc : X.calm = true) : CallR X (.type "set") (fun xs H Q => ∃ (p : Addr) (ns : List Int), xs = [.ref p] ∧ SqL X.K H p (ns.map V.int) ∧ few ns ∧ ∀ (a : Addr) (ks : List Int), H a = none → (∀ n, n ∈ ks ↔ n ∈ ns) → ks.Nodup → Q (.ref a) (upd H a (setO X.w a ks))) := fun pins s σ H xs us Q I rs ⟨p, ns, ex, sq, fw, q⟩ => by
  subst ex
  obtain ⟨u, rfl, r2⟩ := vals1 rs
  obtain rfl : u = Value.ref p := r2
  obtain ⟨its, rv, pl, hz⟩ := I.list sq
  refine a8T (I.ok.hd hc) pl.isList (by simpa using intsAre_of rv) fw.2 fw.1 fun h' tk ks S m nd kp => ?_
  exact ⟨.ref s.heap.objs.size, _, I.laid (o := setO X.w s.heap.objs.size ks) (t' := tk) kp (Nat.le_refl _) (setO_ok S), rfl, q _ ks (I.hok.fresh (Nat.le_refl _)) m nd⟩
theorem a4F : ∀ {us : List Value} {ns : List Int}, IntsAre us ns → Vals (ns.map V.int) us
  | _, _, .nil => .nil
  | _, _, .cons n t r => .cons ⟨t, rfl⟩ (a4F r)
theorem a51 (hc : X.calm = true) : CallR X (.builtin "sorted") (fun xs H Q => ∃ (a : Addr) (ks : List Int), xs = [.ref a] ∧ H a = some (setO X.w a ks) ∧ ks.length ≤ 4 ∧ ∀ (l : Addr) (ns : List Int), H l = none → ns.Perm ks → ns.Pairwise (· ≤ ·) → Q (.ref l) (upd H l (.lst (ns.map V.int)))) := fun pins s σ H xs us Q I rs ⟨a, ks, ex, ea, hk, q⟩ => by
  subst ex
  obtain ⟨u, rfl, r2⟩ := vals1 rs
  obtain rfl : u = Value.ref a := r2
  obtain ⟨S, _, _⟩ : SetX X.w s.heap a ks ∧ _ := I.hok a _ ea
  refine a50 (I.ok.hd hc) S hk fun h' tk out ns D n it pm so kp hD e => ?_
  refine ⟨.ref D, _, I.laid (o := .lst (ns.map V.int)) (t' := tk) kp hD ⟨?_, out, n, a4F it, e⟩, rfl, q D ns (I.hok.fresh hD) pm so⟩
  rw [List.length_map, pm.length_eq, sizeLine_eq]
  omega
theorem a8X : bootBuiltins "set" = some (.type "set") := by decide +kernel
theorem a31 : bootBuiltins "sorted" = some (.builtin "sorted") := by decide +kernel
end
end L2
namespace L2
open PySem PySem.Spec PyProof.Rows PySem.W
section
variable {prog : Program} {w : World} {A : Around} {E : Value → Shared → Prop} {s : Shared} {p q : Addr} {xp xq : List Value} {m n : Int} {t u : Tok}
theorem sz2 : 2 ≤ sizeLine := by rw [sizeLine_eq]; decide
theorem tw_lt (hp : IsTup s.heap p (Value.int m t :: xp).toArray) (hq : IsTup s.heap q (Value.int n u :: xq).toArray) (ne : m ≠ n) {Q : Bool → Shared → Prop} (hQ : Q (decide (m < n)) s) :
    wpAny (model prog w) A (keyLt' (tuples' true) (.ref p) (.ref q)) Q E s := by
  obtain ⟨o1, e1, c1, n1, d1⟩ := hp
  obtain ⟨o2, e2, c2, n2, d2⟩ := hq
  refine kat_lt e1 d1 e2 d2 (kat_cons (wpAny_eqBool_int ?_))
  rw [beq_eq_false_iff_ne.mpr ne]
  exact kat_no (oneLt_int hQ)
theorem tw_kind (hp : IsTup s.heap p (Value.int m t :: xp).toArray) (hq : IsTup s.heap q (Value.int n u :: xq).toArray) {Q : SortKind → Shared → Prop} (hQ : Q (tuples' true) s) :
    wpAny (model prog w) A (keyKind' [Value.ref p, Value.ref q].toArray) Q E s := by
  obtain ⟨o1, e1, c1, n1, d1⟩ := hp
  obtain ⟨o2, e2, c2, n2, d2⟩ := hq
  refine kat_kind (fs := [.int m t, .int n u]) (T := .type "int") (.cons e1 c1 d1 rfl (.cons e2 c2 d2 rfl .nil)) (Nat.succ_pos _) (fun v hv => ?_) (by decide) hQ
  rcases List.mem_cons.mp hv with rfl | hv
  · exact .now
  · rcases List.mem_cons.mp hv with rfl | hv
    · exact .now
    · cases hv
theorem tw_list {a : Addr} {e : Nat} {P : PySem.Fin → Shared → Prop} (ho : s.heap.get? a = some (seqObj "list" [Value.ref p, Value.ref q].toArray e)) (hap : p ≠ a) (haq : q ≠ a)
    (hp : IsTup s.heap p (Value.int m t :: xp).toArray) (hq : IsTup s.heap q (Value.int n u :: xq).toArray) (ne : m ≠ n)
    (h : P (.done (.ret .none)) { s with heap := sortedHeap s.heap a [.ref p, .ref q] (if m < n then #[.ref p, .ref q] else #[.ref q, .ref p]) }) :
    wpAny (model prog w) A (Builtin.«list.sort» ⟨[.ref a], []⟩) P E s := by
  have la := Heap.lt_size ho
  rw [list_sort_plain]
  refine wpAny_bind (listItems_at ho rfl (wpAny_bind (listUpdate_at ho rfl ?_ (show 2 ≤ sizeLine from sz2) (Nat.zero_le _))))
  obtain ⟨e1, h1⟩ : ∃ k, (s.heap.update a (Obj.mapSeq fun _ => (#[] : Array Value))).get? a = some (seqObj "list" #[] k) := ⟨_, get?_update_seq ho _⟩
  refine wpAny_bind (seqEpoch_at h1 rfl (wpAny_bind (wpAny_newTuple ?_ (show 2 ≤ sizeLine from sz2))))
  refine wpAny_bind (wpAny_newList ?_ (Nat.zero_le _))
  refine wpAny_holding ?_
  generalize hg : ((s.heap.update a (Obj.mapSeq fun _ => (#[] : Array Value))).push (seqObj "tuple" [Value.ref p, Value.ref q].toArray 0)).push (seqObj "list" #[] 0) = g
  have kp : ∀ b o, b ≠ a → s.heap.get? b = some o → g.get? b = some o := fun b o hb eb => by
    subst hg
    refine Heap.get?_push_of_some _ (Heap.get?_push_of_some _ ?_)
    rw [Heap.get?_update_ne _ _ _ _ hb]; exact eb
  have ha : g.get? a = some (seqObj "list" #[] e1) := by subst hg; exact Heap.get?_push_of_some _ (Heap.get?_push_of_some _ h1)
  have gp : IsTup g p (Value.int m t :: xp).toArray := by obtain ⟨o, eo, r⟩ := hp; exact ⟨o, kp _ _ hap eo, r⟩
  have gq : IsTup g q (Value.int n u :: xq).toArray := by obtain ⟨o, eo, r⟩ := hq; exact ⟨o, kp _ _ haq eo, r⟩
  have fin : ∀ out : Array Value, out = (if m < n then #[.ref p, .ref q] else #[.ref q, .ref p]) → sortedHeap s.heap a [.ref p, .ref q] (if m < n then #[.ref p, .ref q] else #[.ref q, .ref p]) = g.update a (Obj.mapSeq fun _ => out) := fun out eo => by
    subst eo; subst hg; rfl
  show wpAny (model prog w) A _ P E { s with heap := g }
  clear hg
  dsimp only
  rw [if_neg (show ¬ ([Value.ref p, Value.ref q].toArray.size < 2) from Nat.lt_irrefl 2), if_neg (show ¬ ([Value.ref p, Value.ref q].toArray.size < 2) from Nat.lt_irrefl 2)]
  refine wpAny_bind (tw_kind (s := { s with heap := g }) gp gq ?_)
  refine wpAny_bind (wpAny_mono (kat_run (vs := [.ref p, .ref q]) (ks := [.ref p, .ref q]) (Q := fun st s' => s' = { s with heap := g } ∧ failedOf st = none ∧ (arrOf st).map (·.2) = (if m < n then #[.ref p, .ref q] else #[.ref q, .ref p]))
    (G := fun r s' => s' = { s with heap := g } ∧ r = if m < n then #[0, 1] else #[1, 0]) rfl (Nat.le_refl 2) (show 2 < 64 by decide) (fun r st s' z ea ef ⟨es, er⟩ => ⟨es, ef, ?_⟩) ?_) ?_ fun _ _ x => x)
  · rw [kat_snds (vs := [.ref p, .ref q]) (ks := [.ref p, .ref q]) rfl ea, er]
    split <;> rfl
  · show wpAny (model prog w) A (keyLt' (tuples' true) (.ref q) (.ref p)) _ _ _
    refine tw_lt (s := { s with heap := g }) gq gp (fun z => ne z.symm) ?_
    by_cases c : m < n
    · rw [decide_eq_false (show ¬ n < m by omega)]
      refine ⟨rfl, ?_⟩
      rw [if_pos c]; rfl
    · rw [decide_eq_true (show n < m by omega)]
      refine ⟨rfl, ?_⟩
      rw [if_neg c]; dsimp only [List.length]; decide +kernel
  · rintro ⟨⟨⟩, st⟩ s' ⟨rfl, ef, eo⟩
    dsimp only at ef eo ⊢
    rw [eo]
    refine wpAny_bind (seqEpoch_at (s := { s with heap := g }) ha rfl (wpAny_bind (listUpdate_at ha rfl ?_ (by decide) (by split <;> exact Nat.le_succ_of_le sz2))))
    rw [ef]
    simp only [bne_self_eq_false, Bool.false_eq_true, if_false]
    rw [fin _ rfl] at h
    exact wpAny_pure h
end
section
variable {X : Cx}
theorem a52 : CallR X (.builtin "sorted") (fun xs H Q => ∃ (l p q : Addr) (m n : Int) (vp vq : List V), xs = [.ref l] ∧ SqL X.K H l [.ref p, .ref q] ∧ SqT X.K H p (.int m :: vp) ∧ SqT X.K H q (.int n :: vq) ∧ m ≠ n ∧ ∀ r, H r = none → Q (.ref r) (upd H r (.lst (if m < n then [.ref p, .ref q] else [.ref q, .ref p])))) := fun pins s σ H xs us Q I rs ⟨l, p, q, m, n, vp, vq, ex, hl, hp, hq, ne, k⟩ => by
  subst ex
  obtain ⟨v, rfl, r2⟩ := vals1 rs
  obtain rfl : v = Value.ref l := r2
  obtain ⟨its, rv, pl, hz⟩ := I.list hl
  obtain ⟨v1, v2, rfl, rfl, rfl⟩ : ∃ v1 v2, its = [v1, v2] ∧ v1 = .ref p ∧ v2 = .ref q := by
    obtain ⟨v1, v2, e, r1, r2⟩ := vals2 rv
    exact ⟨v1, v2, e, r1, r2⟩
  obtain ⟨ip, rp, tp, _⟩ := I.tuple hp
  obtain ⟨iq, rq, tq, _⟩ := I.tuple hq
  cases rp with
  | @cons _ _ _ zp hv1 rp =>
    cases rq with
    | @cons _ _ _ zq hv2 rq =>
      obtain ⟨t1, rfl⟩ := hv1
      obtain ⟨t2, rfl⟩ := hv2
      refine Calls.call_function_entry kind_sorted plain_sorted entry_sorted (args_sorted1 _) ?_
      unfold Builtin.«sorted»
      refine wpAny_bind (m := checkCount "sorted" 1 1 _) (wpAny_pure (wpAny_bind (collect_list pl.isList ?_ (show 2 ≤ sizeLine from sz2))))
      refine wpAny_bind (wpAny_newList ?_ (show 2 ≤ sizeLine from sz2))
      generalize hg : (s.heap.push (seqObj "list" #[] 0)).update s.heap.objs.size (Obj.mapSeq (· ++ [Value.ref p, Value.ref q].toArray)) = g
      have sz : g.objs.size = s.heap.objs.size + 1 := by subst hg; rw [Heap.size_update, size_push']
      have kp : ∀ b o, s.heap.get? b = some o → g.get? b = some o := fun b o eb => by
        subst hg
        rw [Heap.get?_update_ne _ _ _ _ (Nat.ne_of_lt (Heap.lt_size eb))]
        exact Heap.get?_push_of_some _ eb
      show wpAny _ _ _ _ _ { s with heap := g.push (seqObj "list" [Value.ref p, Value.ref q].toArray 0) }
      have hD : (g.push (seqObj "list" [Value.ref p, Value.ref q].toArray 0)).get? g.objs.size = some (seqObj "list" [Value.ref p, Value.ref q].toArray 0) := Heap.get?_push_size _ rfl
      have kp2 : ∀ b o, s.heap.get? b = some o → (g.push (seqObj "list" [Value.ref p, Value.ref q].toArray 0)).get? b = some o := fun b o eb => Heap.get?_push_of_some _ (kp b o eb)
      have lt : ∀ b o, s.heap.get? b = some o → b ≠ g.objs.size := fun b o eb => Nat.ne_of_lt (Heap.lt_size (kp b o eb))
      have tp2 : IsTup (g.push (seqObj "list" [Value.ref p, Value.ref q].toArray 0)) p (Value.int m t1 :: zp).toArray := by obtain ⟨o, eo, r⟩ := tp; exact ⟨o, kp2 _ _ eo, r⟩
      have tq2 : IsTup (g.push (seqObj "list" [Value.ref p, Value.ref q].toArray 0)) q (Value.int n t2 :: zq).toArray := by obtain ⟨o, eo, r⟩ := tq; exact ⟨o, kp2 _ _ eo, r⟩
      have np : p ≠ g.objs.size := by obtain ⟨o, eo, _⟩ := tp; exact lt _ _ eo
      have nq : q ≠ g.objs.size := by obtain ⟨o, eo, _⟩ := tq; exact lt _ _ eo
      refine wpAny_bind (wpAny_holding (wpAny_call_entry slot_list_sort ⟨_, hD, rfl⟩ entry_list_sort (tw_list (s := { s with heap := g.push (seqObj "list" [Value.ref p, Value.ref q].toArray 0) }) hD np nq tp2 tq2 ne ⟨_, rfl, ?_⟩) (args_list_sort _)))
      obtain ⟨e, he⟩ := sortedHeap_at (out := if m < n then #[.ref p, .ref q] else #[.ref q, .ref p]) hD
      refine wpAny_pure ⟨_, rfl, .ref g.objs.size, _, I.laid (o := .lst (if m < n then [.ref p, .ref q] else [.ref q, .ref p])) (t' := s.toks) (fun b o eb => ?_) (by omega) ⟨?_, (if m < n then [.ref p, .ref q] else [.ref q, .ref p]), e, ?_, ?_⟩, rfl, k _ (I.hok.fresh (by omega))⟩
      · rw [sortedHeap_old (lt b o eb) (by rw [Heap.size_push]; exact Nat.lt_succ_of_lt (Heap.lt_size (kp b o eb)))]
        exact kp2 b o eb
      · split <;> exact sz2
      · split
        · exact .cons rfl (.cons rfl .nil)
        · exact .cons rfl (.cons rfl .nil)
      · rw [he]; split <;> rfl
end
end L2
namespace L3
open PySem PySem.Spec PyProof.Rows L2
structure Ct where
  K : PySem.W.Frag
  cls : String → Addr
mutual
def Rep (Γ : Ct) (H : Hp) : D → V → Prop
  | .non, v => v = .non
  | .bl b, v => v = .bl b
  | .int i, v => v = .int i
  | .str x, v => v = .str x
  | .tup ds, v => ∃ a xs, v = .ref a ∧ SqT Γ.K H a xs ∧ RepL Γ H ds xs
  | .lst ds, v => ∃ a xs, v = .ref a ∧ SqL Γ.K H a xs ∧ RepL Γ H ds xs
  | .obj c ns ds, v => ∃ a dx xs, v = .ref a ∧ H a = some (.ins (Γ.cls c) dx (ns.zip xs)) ∧ RepL Γ H ds xs
def RepL (Γ : Ct) (H : Hp) : List D → List V → Prop
  | [], xs => xs = []
  | d :: ds, xs => ∃ x r, xs = x :: r ∧ Rep Γ H d x ∧ RepL Γ H ds r
end
theorem a0S {K : PySem.W.Frag} {H H' : Hp} {a : Addr} {xs : List V} (e : Same H H') (h : SqT K H a xs) : SqT K H' a xs := by
  rcases h with (h | ⟨o, h⟩) | h
  · exact .inl (.inl (e _ _ h))
  · exact .inl (.inr ⟨o, e _ _ h⟩)
  · exact .inr h
mutual
theorem Rep.mono {Γ : Ct} {H H' : Hp} (e : Same H H') : ∀ {d : D} {v : V}, Rep Γ H d v → Rep Γ H' d v
  | .non, _, r => by unfold Rep at r ⊢; exact r
  | .bl _, _, r => by unfold Rep at r ⊢; exact r
  | .int _, _, r => by unfold Rep at r ⊢; exact r
  | .str _, _, r => by unfold Rep at r ⊢; exact r
  | .tup ds, _, r => by
    unfold Rep at r ⊢
    obtain ⟨a, xs, e1, q, r⟩ := r
    exact ⟨a, xs, e1, a0S e q, RepL.mono e r⟩
  | .lst ds, _, r => by
    unfold Rep at r ⊢
    obtain ⟨a, xs, e1, q, r⟩ := r
    exact ⟨a, xs, e1, Same.seq e q, RepL.mono e r⟩
  | .obj c ns ds, _, r => by
    unfold Rep at r ⊢
    obtain ⟨a, dx, xs, e1, q, r⟩ := r
    exact ⟨a, dx, xs, e1, e _ _ q, RepL.mono e r⟩
theorem RepL.mono {Γ : Ct} {H H' : Hp} (e : Same H H') : ∀ {ds : List D} {xs : List V}, RepL Γ H ds xs → RepL Γ H' ds xs
  | [], _, r => by unfold RepL at r ⊢; exact r
  | d :: ds, _, r => by
    unfold RepL at r ⊢
    obtain ⟨x, r', e1, q, r2⟩ := r
    exact ⟨x, r', e1, Rep.mono e q, RepL.mono e r2⟩
end
section
variable {Γ : Ct} {H H' : Hp}
theorem a1i {v : V} : Rep Γ H .non v ↔ v = .non := by unfold Rep; exact Iff.rfl
theorem a0P {b : Bool} {v : V} : Rep Γ H (.bl b) v ↔ v = .bl b := by unfold Rep; exact Iff.rfl
theorem a0g {i : Int} {v : V} : Rep Γ H (.int i) v ↔ v = .int i := by unfold Rep; exact Iff.rfl
theorem a0u {x : Str} {v : V} : Rep Γ H (.str x) v ↔ v = .str x := by unfold Rep; exact Iff.rfl
theorem a0K {ds : List D} {v : V} : Rep Γ H (.tup ds) v ↔ ∃ a xs, v = .ref a ∧ SqT Γ.K H a xs ∧ RepL Γ H ds xs := by
  constructor
  · intro h; unfold Rep at h; exact h
  · intro h; unfold Rep; exact h
theorem a0L {ds : List D} {v : V} : Rep Γ H (.lst ds) v ↔ ∃ a xs, v = .ref a ∧ SqL Γ.K H a xs ∧ RepL Γ H ds xs := by
  constructor
  · intro h; unfold Rep at h; exact h
  · intro h; unfold Rep; exact h
theorem a40 {c : String} {ns : List Str} {ds : List D} {v : V} : Rep Γ H (.obj c ns ds) v ↔ ∃ a dx xs, v = .ref a ∧ H a = some (.ins (Γ.cls c) dx (ns.zip xs)) ∧ RepL Γ H ds xs := by
  constructor
  · intro h; unfold Rep at h; exact h
  · intro h; unfold Rep; exact h
theorem a1a {xs : List V} : RepL Γ H [] xs ↔ xs = [] := by unfold RepL; exact Iff.rfl
theorem a0m {d : D} {ds : List D} {xs : List V} : RepL Γ H (d :: ds) xs ↔ ∃ x r, xs = x :: r ∧ Rep Γ H d x ∧ RepL Γ H ds r := by
  constructor
  · intro h; unfold RepL at h; exact h
  · intro h; unfold RepL; exact h
theorem RepL.nil : RepL Γ H [] [] := a1a.mpr rfl
theorem RepL.cons {d : D} {ds : List D} {x : V} {xs : List V} (h : Rep Γ H d x) (t : RepL Γ H ds xs) : RepL Γ H (d :: ds) (x :: xs) := a0m.mpr ⟨x, xs, rfl, h, t⟩
theorem RepL.length : ∀ {ds : List D} {xs : List V}, RepL Γ H ds xs → ds.length = xs.length
  | [], xs, h => by rw [a1a.mp h]; rfl
  | d :: ds, xs, h => by
    obtain ⟨x, r, e, _, t⟩ := a0m.mp h
    rw [e, List.length_cons, List.length_cons, RepL.length t]
theorem RepL.append : ∀ {ds es : List D} {xs ys : List V}, RepL Γ H ds xs → RepL Γ H es ys → RepL Γ H (ds ++ es) (xs ++ ys)
  | [], es, xs, ys, h, h' => by rw [a1a.mp h]; exact h'
  | d :: ds, es, xs, ys, h, h' => by
    obtain ⟨x, r, e, q, t⟩ := a0m.mp h
    rw [e]
    exact .cons q (RepL.append t h')
theorem RepL.get : ∀ {ds : List D} {xs : List V} {i : Nat} {d : D}, RepL Γ H ds xs → ds[i]? = some d → ∃ x, xs[i]? = some x ∧ Rep Γ H d x
  | [], xs, i, d, h, e => by simp at e
  | d :: ds, xs, 0, d', h, e => by
    obtain ⟨x, r, e1, q, t⟩ := a0m.mp h
    simp at e
    subst e e1
    exact ⟨x, rfl, q⟩
  | d :: ds, xs, i + 1, d', h, e => by
    obtain ⟨x, r, e1, q, t⟩ := a0m.mp h
    obtain ⟨y, e2, q2⟩ := RepL.get (i := i) t (by simpa using e)
    subst e1
    exact ⟨y, by simpa using e2, q2⟩
theorem RepL.take : ∀ {ds : List D} {xs : List V} (n : Nat), RepL Γ H ds xs → RepL Γ H (ds.take n) (xs.take n)
  | _, _, 0, _ => .nil
  | [], xs, n + 1, h => by rw [a1a.mp h]; exact .nil
  | d :: ds, xs, n + 1, h => by
    obtain ⟨x, r, e, q, t⟩ := a0m.mp h
    subst e
    exact .cons q (RepL.take n t)
theorem RepL.drop : ∀ {ds : List D} {xs : List V} (n : Nat), RepL Γ H ds xs → RepL Γ H (ds.drop n) (xs.drop n)
  | _, _, 0, h => h
  | [], xs, n + 1, h => by rw [a1a.mp h]; exact .nil
  | d :: ds, xs, n + 1, h => by
    obtain ⟨x, r, e, q, t⟩ := a0m.mp h
    subst e
    exact RepL.drop n t
theorem RepL.rep {ds : List D} {xs : List V} (h : RepL Γ H ds xs) : ∀ k : Nat, RepL Γ H (List.replicate k ds).flatten (List.replicate k xs).flatten
  | 0 => .nil
  | k + 1 => by
    rw [List.replicate_succ, List.replicate_succ, List.flatten_cons, List.flatten_cons]
    exact h.append (RepL.rep h k)
theorem RepL.set {d : D} {x : V} (q : Rep Γ H d x) : ∀ {ds : List D} {xs : List V} (i : Nat), RepL Γ H ds xs → RepL Γ H (ds.set i d) (xs.set i x)
  | [], xs, i, h => by rw [a1a.mp h]; exact .nil
  | e :: ds, xs, 0, h => by
    obtain ⟨y, r, e1, _, t⟩ := a0m.mp h
    subst e1
    exact .cons q t
  | e :: ds, xs, i + 1, h => by
    obtain ⟨y, r, e1, q1, t⟩ := a0m.mp h
    subst e1
    exact .cons q1 (RepL.set q i t)
theorem RepL.ints : ∀ (ns : List Int), RepL Γ H (ns.map D.int) (ns.map V.int)
  | [] => .nil
  | n :: ns => .cons (a0g.mpr rfl) (RepL.ints ns)
theorem RepL.intsOf : ∀ {ds : List D} {xs : List V} {ns : List Int}, RepL Γ H ds xs → intsOf ds = some ns → xs = ns.map V.int
  | [], xs, ns, h, e => by
    cases e
    exact a1a.mp h
  | .int i :: ds, xs, ns, h, e => by
    obtain ⟨x, r, e1, q, t⟩ := a0m.mp h
    unfold L3.intsOf at e
    cases e2 : L3.intsOf ds with
    | none => rw [e2] at e; cases e
    | some ms =>
      rw [e2] at e
      cases e
      rw [e1, a0g.mp q, RepL.intsOf t e2, List.map_cons]
  | .non :: ds, xs, ns, h, e => by cases e
  | .bl _ :: ds, xs, ns, h, e => by cases e
  | .str _ :: ds, xs, ns, h, e => by cases e
  | .tup _ :: ds, xs, ns, h, e => by cases e
  | .lst _ :: ds, xs, ns, h, e => by cases e
  | .obj _ _ _ :: ds, xs, ns, h, e => by cases e
theorem RepL.blsOf : ∀ {ds : List D} {xs : List V} {ns : List Bool}, RepL Γ H ds xs → blsOf ds = some ns → xs = ns.map V.bl
  | [], xs, ns, h, e => by
    cases e
    exact a1a.mp h
  | .bl i :: ds, xs, ns, h, e => by
    obtain ⟨x, r, e1, q, t⟩ := a0m.mp h
    unfold L3.blsOf at e
    cases e2 : L3.blsOf ds with
    | none => rw [e2] at e; cases e
    | some ms =>
      rw [e2] at e
      cases e
      rw [e1, a0P.mp q, RepL.blsOf t e2, List.map_cons]
  | .non :: ds, xs, ns, h, e => by cases e
  | .int _ :: ds, xs, ns, h, e => by cases e
  | .str _ :: ds, xs, ns, h, e => by cases e
  | .tup _ :: ds, xs, ns, h, e => by cases e
  | .lst _ :: ds, xs, ns, h, e => by cases e
  | .obj _ _ _ :: ds, xs, ns, h, e => by cases e
theorem rep_flat {d : D} {v : V} (h : Rep Γ H d v) (f : flat d = true) : Rep Γ H' d v := by
  cases d with
  | non => exact a1i.mpr (a1i.mp h)
  | bl _ => exact a0P.mpr (a0P.mp h)
  | int _ => exact a0g.mpr (a0g.mp h)
  | str _ => exact a0u.mpr (a0u.mp h)
  | tup _ => cases f
  | lst _ => cases f
  | obj _ _ _ => cases f
end
def RepO (Γ : Ct) (Hs : Hp) : O → HO → Prop
  | .lst ds, ho => ∃ xs, ho = .lst xs ∧ RepL Γ Hs ds xs
  | .obj c ns ds, ho => ∃ dx xs, ho = .ins (Γ.cls c) dx (ns.zip xs) ∧ RepL Γ Hs ds xs
theorem RepO.mono {Γ : Ct} {H H' : Hp} (e : Same H H') {o : O} {ho : HO} (h : RepO Γ H o ho) : RepO Γ H' o ho := by
  cases o with
  | lst ds => obtain ⟨xs, e1, r⟩ := h; exact ⟨xs, e1, r.mono e⟩
  | obj c ns ds => obtain ⟨dx, xs, e1, r⟩ := h; exact ⟨dx, xs, e1, r.mono e⟩
theorem RepO.val {Γ : Ct} {H : Hp} {o : O} {ho : HO} {a : Addr} (h : RepO Γ H o ho) (e : H a = some ho) : Rep Γ H o.val (.ref a) := by
  cases o with
  | lst ds => obtain ⟨xs, e1, r⟩ := h; subst e1; exact a0L.mpr ⟨a, xs, rfl, .of e, r⟩
  | obj c ns ds => obtain ⟨dx, xs, e1, r⟩ := h; subst e1; exact a40.mpr ⟨a, dx, xs, rfl, e, r⟩
structure Grow (Hs H Hs' H' : Hp) : Prop where
  s : Same Hs Hs'
  h : Same H H'
  i : Same Hs' H'
  n : ∀ b o, Hs' b = some o → Hs b = some o ∨ H b = none
theorem Grow.refl {Hs H : Hp} (e : Same Hs H) : Grow Hs H Hs H := ⟨.refl _, .refl _, e, fun _ _ q => .inl q⟩
theorem Grow.trans {Hs H Hs1 H1 Hs2 H2 : Hp} (a : Grow Hs H Hs1 H1) (b : Grow Hs1 H1 Hs2 H2) : Grow Hs H Hs2 H2 :=
  ⟨a.s.trans b.s, a.h.trans b.h, b.i, fun c o q => (b.n c o q).elim (fun z => a.n c o z) fun z => .inr (a.h.free z)⟩
theorem Grow.only {Hs H H' : Hp} (e : Same Hs H) (k : Same H H') : Grow Hs H Hs H' := ⟨.refl _, k, e.trans k, fun _ _ q => .inl q⟩
theorem a0W {H : Hp} {p : Addr} {o : HO} (h : H p = none) : Same H (upd H p o) := fun b u e => by rw [upd_ne (ne_of_none e h)]; exact e
theorem Grow.new {Hs H : Hp} {p : Addr} {o : HO} (e : Same Hs H) (h : H p = none) : Grow Hs H (upd Hs p o) (upd H p o) :=
  ⟨a0W (e.free h), a0W h, fun b u q => by
    by_cases hb : b = p
    · subst hb; rw [upd_same] at q ⊢; exact q
    · rw [upd_ne hb] at q ⊢; exact e _ _ q, fun b u q => by
    by_cases hb : b = p
    · subst hb; exact .inr h
    · rw [upd_ne hb] at q; exact .inl q⟩
theorem Grow.newOwn {Hs H : Hp} {p : Addr} {o : HO} (e : Same Hs H) (h : H p = none) : Grow Hs H Hs (upd H p o) := .only e (a0W h)
theorem Grow.share {Hs H Hs' H' : Hp} {a : Addr} {ho : HO} (g : Grow Hs H Hs' H') (h0 : H a = none) (h1 : Hs' a = none) (h2 : H' a = some ho) : Grow Hs H (upd Hs' a ho) H' ∧ Same Hs' (upd Hs' a ho) :=
  ⟨⟨g.s.trans (a0W h1), g.h, fun b u q => by
    by_cases hb : b = a
    · subst hb; rw [upd_same] at q; cases q; exact h2
    · rw [upd_ne hb] at q; exact g.i _ _ q, fun b u q => by
    by_cases hb : b = a
    · subst hb; exact .inr h0
    · rw [upd_ne hb] at q; exact g.n _ _ q⟩, a0W h1⟩
inductive RepN (Γ : Ct) (H Hs' H' : Hp) (o : O) (v : V) : Prop
  | mk (a : Addr) (ho : HO) (ev : v = .ref a) (h0 : H a = none) (h1 : Hs' a = none) (h2 : H' a = some ho) (q : RepO Γ Hs' o ho)
def RepS (Γ : Ct) (H Hs' H' : Hp) : S → V → Prop
  | .sh d, v => Rep Γ Hs' d v
  | .own o, v => RepN Γ H Hs' H' o v
theorem RepS.of {Γ : Ct} {H Hs' H' : Hp} {d : D} {v : V} (h : Rep Γ Hs' d v) : RepS Γ H Hs' H' (.sh d) v := h
theorem RepS.share {Γ : Ct} {Hs H Hs' H' : Hp} {s : S} {v : V} (g : Grow Hs H Hs' H') (r : RepS Γ H Hs' H' s v) : ∃ Hs'', Grow Hs H Hs'' H' ∧ Same Hs' Hs'' ∧ Rep Γ Hs'' s.val v := by
  cases s with
  | sh d => exact ⟨Hs', g, .refl _, r⟩
  | own o =>
    obtain ⟨a, ho, rfl, h0, h1, h2, q⟩ := r
    obtain ⟨g', e⟩ := g.share h0 h1 h2
    exact ⟨_, g', e, (q.mono e).val upd_same⟩
theorem RepS.look {Γ : Ct} {Hs H Hs' H' : Hp} {s : S} {v : V} (g : Grow Hs H Hs' H') (r : RepS Γ H Hs' H' s v) : Rep Γ H' s.val v := by
  cases s with
  | sh d => exact Rep.mono g.i r
  | own o =>
    obtain ⟨a, ho, rfl, h0, h1, h2, q⟩ := r
    exact (q.mono g.i).val h2
theorem RepS.back {Γ : Ct} {H H1 Hs' H' : Hp} {s : S} {v : V} (k : Same H H1) (r : RepS Γ H1 Hs' H' s v) : RepS Γ H Hs' H' s v := by
  cases s with
  | sh d => exact r
  | own o =>
    obtain ⟨a, ho, e, h0, h1, h2, q⟩ := r
    exact ⟨a, ho, e, k.free h0, h1, h2, q⟩
inductive OwnAt (Γ : Ct) (B1 Hs H : Hp) (x : Option (Option V)) (o : O) : Prop
  | mk (a : Addr) (ho : HO) (e1 : x = some (some (.ref a))) (e2 : B1 a = none) (e3 : Hs a = none) (e4 : H a = some ho) (q : RepO Γ Hs o ho)
structure RE (Γ : Ct) (B0 B1 Hs H : Hp) (σ : L2.St) (ρ : MEnv) : Prop where
  b : Grow B0 B1 Hs H
  sh : ∀ (i : Nat) (d : D), ρ[i]? = some (some (.sh d)) → ∃ v, σ[i]? = some (some v) ∧ Rep Γ Hs d v
  own : ∀ (i : Nat) (o : O), ρ[i]? = some (some (.own o)) → OwnAt Γ B1 Hs H σ[i]? o
  apart : ∀ (i j : Nat) (o u : O) (a : Addr), i ≠ j → ρ[i]? = some (some (.own o)) → ρ[j]? = some (some (.own u)) → σ[i]? = some (some (.ref a)) → σ[j]? ≠ some (some (.ref a))
  len : ρ.length = σ.length
section
variable {Γ : Ct} {B0 B1 Hs H Hs' H' : Hp} {σ : L2.St} {ρ : MEnv}
theorem RE.grow (r : RE Γ B0 B1 Hs H σ ρ) (g : Grow Hs H Hs' H') : RE Γ B0 B1 Hs' H' σ ρ where
  b := r.b.trans g
  sh := fun i d e => let ⟨v, e1, q⟩ := r.sh i d e; ⟨v, e1, q.mono g.s⟩
  own := fun i o e => by
    obtain ⟨a, ho, e1, e2, e3, e4, q⟩ := r.own i o e
    refine ⟨a, ho, e1, e2, ?_, g.h _ _ e4, q.mono g.s⟩
    cases z : Hs' a with
    | none => rfl
    | some u =>
      rcases g.n a u z with z' | z'
      · rw [e3] at z'; cases z'
      · rw [e4] at z'; cases z'
  apart := r.apart
  len := r.len
theorem RE.setSh (r : RE Γ B0 B1 Hs H σ ρ) {i : Nat} {d : D} {v : V} (hi : i < σ.length) (q : Rep Γ Hs d v) : RE Γ B0 B1 Hs H (σ.set i (some v)) (ρ.set i (some (.sh d))) where
  b := r.b
  sh := fun j e hj => by
    by_cases h : i = j
    · subst h
      rw [List.getElem?_set_self (by rw [r.len]; exact hi)] at hj
      cases hj
      exact ⟨v, List.getElem?_set_self hi, q⟩
    · rw [List.getElem?_set_ne h] at hj ⊢
      exact r.sh j e hj
  own := fun j o hj => by
    by_cases h : i = j
    · subst h
      rw [List.getElem?_set_self (by rw [r.len]; exact hi)] at hj
      cases hj
    · rw [List.getElem?_set_ne h] at hj ⊢
      exact r.own j o hj
  apart := fun j k o u a hjk hj hk ha => by
    have n1 : i ≠ j := fun z => by subst z; rw [List.getElem?_set_self (by rw [r.len]; exact hi)] at hj; cases hj
    have n2 : i ≠ k := fun z => by subst z; rw [List.getElem?_set_self (by rw [r.len]; exact hi)] at hk; cases hk
    rw [List.getElem?_set_ne n1] at hj ha
    rw [List.getElem?_set_ne n2] at hk ⊢
    exact r.apart j k o u a hjk hj hk ha
  len := by rw [List.length_set, List.length_set, r.len]
theorem RE.setOwn (r : RE Γ B0 B1 Hs H σ ρ) {i : Nat} {o : O} {a : Addr} {ho : HO} (hi : i < σ.length) (b1 : B1 a = none) (h1 : Hs a = none) (h2 : H a = some ho) (q : RepO Γ Hs o ho)
    (new : ∀ (j : Nat) (u : O), j ≠ i → ρ[j]? = some (some (.own u)) → σ[j]? ≠ some (some (.ref a))) : RE Γ B0 B1 Hs H (σ.set i (some (.ref a))) (ρ.set i (some (.own o))) where
  b := r.b
  sh := fun j e hj => by
    by_cases h : i = j
    · subst h
      rw [List.getElem?_set_self (by rw [r.len]; exact hi)] at hj
      cases hj
    · rw [List.getElem?_set_ne h] at hj ⊢
      exact r.sh j e hj
  own := fun j u hj => by
    by_cases h : i = j
    · subst h
      rw [List.getElem?_set_self (by rw [r.len]; exact hi)] at hj
      cases hj
      exact ⟨a, ho, List.getElem?_set_self hi, b1, h1, h2, q⟩
    · rw [List.getElem?_set_ne h] at hj ⊢
      exact r.own j u hj
  apart := fun j k u u' c hjk hj hk ha => by
    by_cases hij : i = j
    · subst hij
      rw [List.getElem?_set_self hi] at ha
      cases ha
      rw [List.getElem?_set_ne hjk] at hk ⊢
      exact new k u' (Ne.symm hjk) hk
    · rw [List.getElem?_set_ne hij] at hj ha
      by_cases hik : i = k
      · subst hik
        rw [List.getElem?_set_self hi]
        intro z
        cases z
        exact new j u (Ne.symm hij) hj ha
      · rw [List.getElem?_set_ne hik] at hk ⊢
        exact r.apart j k u u' c hjk hj hk ha
  len := by rw [List.length_set, List.length_set, r.len]
theorem RE.setS (r : RE Γ B0 B1 Hs H σ ρ) (g : Grow Hs H Hs' H') {i : Nat} {s : S} {v : V} (hi : i < σ.length) (q : RepS Γ H Hs' H' s v) : RE Γ B0 B1 Hs' H' (σ.set i (some v)) (ρ.set i (some s)) := by
  cases s with
  | sh d => exact (r.grow g).setSh hi q
  | own o =>
    obtain ⟨a, ho, rfl, h0, h1, h2, q⟩ := q
    refine (r.grow g).setOwn hi (r.b.h.free h0) h1 h2 q fun j u _ hj z => ?_
    obtain ⟨c, hc, e1, _, _, e4, _⟩ := r.own j u hj
    rw [z] at e1
    cases e1
    rw [h0] at e4
    cases e4
theorem RE.write (r : RE Γ B0 B1 Hs H σ ρ) {i : Nat} {o o' : O} {a : Addr} {ho' : HO} (e : ρ[i]? = some (some (.own o))) (ea : σ[i]? = some (some (.ref a))) (q : RepO Γ Hs o' ho') : RE Γ B0 B1 Hs (upd H a ho') σ (ρ.set i (some (.own o'))) := by
  obtain ⟨c, ho, e1, e2, e3, e4, _⟩ := r.own i o e
  rw [ea] at e1
  cases e1
  have hi : i < ρ.length := (List.getElem?_eq_some_iff.mp e).1
  refine ⟨⟨r.b.s, fun b u z => ?_, fun b u z => ?_, r.b.n⟩, fun j d hj => ?_, fun j u hj => ?_, fun j k u u' c hjk hj hk ha => ?_, by rw [List.length_set, r.len]⟩
  · rw [upd_ne (ne_of_none z e2)]; exact r.b.h _ _ z
  · rw [upd_ne (ne_of_none z e3)]; exact r.b.i _ _ z
  · by_cases h : i = j
    · subst h
      rw [List.getElem?_set_self hi] at hj
      cases hj
    · rw [List.getElem?_set_ne h] at hj
      exact r.sh j d hj
  · by_cases h : i = j
    · subst h
      rw [List.getElem?_set_self hi] at hj
      cases hj
      exact ⟨a, ho', ea, e2, e3, upd_same, q⟩
    · rw [List.getElem?_set_ne h] at hj
      obtain ⟨c, hc, f1, f2, f3, f4, f5⟩ := r.own j u hj
      refine ⟨c, hc, f1, f2, f3, ?_, f5⟩
      rw [upd_ne]
      · exact f4
      · intro z
        subst z
        exact r.apart i j o u c h e hj ea f1
  · have old : ∀ (m : Nat) (u : O), (ρ.set i (some (.own o')))[m]? = some (some (.own u)) → ∃ u', ρ[m]? = some (some (.own u')) := fun m u hm => by
      by_cases h : i = m
      · subst h; exact ⟨o, e⟩
      · rw [List.getElem?_set_ne h] at hm; exact ⟨u, hm⟩
    obtain ⟨x, hx⟩ := old j u hj
    obtain ⟨y, hy⟩ := old k u' hk
    exact r.apart j k x y c hjk hx hy ha
theorem RE.dem (r : RE Γ B0 B1 Hs H σ ρ) (i : Nat) : ∃ Hs', Same Hs Hs' ∧ RE Γ B0 B1 Hs' H σ (dem i ρ) := by
  unfold L3.dem
  split
  · rename_i o e
    obtain ⟨a, ho, e1, e2, e3, e4, q⟩ := r.own i o e
    have hi : i < ρ.length := (List.getElem?_eq_some_iff.mp e).1
    have sm : Same Hs (upd Hs a ho) := a0W e3
    have sh' : Same (upd Hs a ho) H := fun b u z => by
      by_cases hb : b = a
      · subst hb; rw [upd_same] at z; cases z; exact e4
      · rw [upd_ne hb] at z; exact r.b.i _ _ z
    refine ⟨upd Hs a ho, sm, ⟨⟨r.b.s.trans sm, r.b.h, sh', fun b u z => ?_⟩, fun j d hj => ?_, fun j u hj => ?_, fun j k u u' c hjk hj hk ha => ?_, by rw [List.length_set, r.len]⟩⟩
    · by_cases hb : b = a
      · subst hb; exact .inr e2
      · rw [upd_ne hb] at z; exact r.b.n _ _ z
    · by_cases h : i = j
      · subst h
        rw [List.getElem?_set_self hi] at hj
        cases hj
        exact ⟨.ref a, e1, (q.mono sm).val upd_same⟩
      · rw [List.getElem?_set_ne h] at hj
        obtain ⟨v, f1, f2⟩ := r.sh j d hj
        exact ⟨v, f1, f2.mono sm⟩
    · by_cases h : i = j
      · subst h
        rw [List.getElem?_set_self hi] at hj
        cases hj
      · rw [List.getElem?_set_ne h] at hj
        obtain ⟨c, hc, f1, f2, f3, f4, f5⟩ := r.own j u hj
        refine ⟨c, hc, f1, f2, ?_, f4, f5.mono sm⟩
        rw [upd_ne]
        · exact f3
        · intro z
          subst z
          exact r.apart i j o u c h e hj e1 f1
    · have n1 : i ≠ j := fun z => by subst z; rw [List.getElem?_set_self hi] at hj; cases hj
      have n2 : i ≠ k := fun z => by subst z; rw [List.getElem?_set_self hi] at hk; cases hk
      rw [List.getElem?_set_ne n1] at hj
      rw [List.getElem?_set_ne n2] at hk
      exact r.apart j k u u' c hjk hj hk ha
  · exact ⟨Hs, .refl _, r⟩
end
end L3
namespace L3
open PySem PySem.Spec PyProof.Rows L2
abbrev XW := D → Hp → Hp → Prop
def RQ (Γ : Ct) (W : XW) (Hs H : Hp) (r : R) (Q : VK) : Prop := match r with
  | .ok s => ∀ v Hs' H', Grow Hs H Hs' H' → RepS Γ H Hs' H' s v → Q v H'
  | .exc x => ∀ Hs' H', Grow Hs H Hs' H' → W x Hs' H'
def RL (Γ : Ct) (W : XW) (Hs H : Hp) (r : R) (Q : VK) : Prop := match r with
  | .ok s => ∀ v Hs' H', Grow Hs H Hs' H' → Rep Γ H' s.val v → Q v H'
  | .exc x => ∀ Hs' H', Grow Hs H Hs' H' → W x Hs' H'
def RB (W : XW) (Hs H : Hp) (r : R) (Q : Bool → Hp → Prop) : Prop := match r with
  | .ok s => ∃ b, s.val = .bl b ∧ ∀ Hs' H', Grow Hs H Hs' H' → Q b H'
  | .exc x => ∀ Hs' H', Grow Hs H Hs' H' → W x Hs' H'
section
variable {Γ : Ct} {W : XW} {Hs H Hs1 H1 : Hp} {r : R} {Q Q' : VK}
theorem RQ.grow (q : RQ Γ W Hs H r Q) (g : Grow Hs H Hs1 H1) : RQ Γ W Hs1 H1 r Q := by
  cases r with
  | ok s => exact fun v Hs' H' g' rs => q v Hs' H' (g.trans g') (rs.back g.h)
  | exc x => exact fun Hs' H' g' => q Hs' H' (g.trans g')
theorem RQ.mono (q : RQ Γ W Hs H r Q) (h : ∀ v H, Q v H → Q' v H) : RQ Γ W Hs H r Q' := by
  cases r with
  | ok s => exact fun v Hs' H' g' rs => h _ _ (q v Hs' H' g' rs)
  | exc x => exact q
theorem RL.mono (q : RL Γ W Hs H r Q) (h : ∀ v H, Q v H → Q' v H) : RL Γ W Hs H r Q' := by
  cases r with
  | ok s => exact fun v Hs' H' g' rs => h _ _ (q v Hs' H' g' rs)
  | exc x => exact q
theorem RL.grow (q : RL Γ W Hs H r Q) (g : Grow Hs H Hs1 H1) : RL Γ W Hs1 H1 r Q := by
  cases r with
  | ok s => exact fun v Hs' H' g' rs => q v Hs' H' (g.trans g') rs
  | exc x => exact fun Hs' H' g' => q Hs' H' (g.trans g')
end
inductive tD (Γ : Ct) (W : XW) (g : ME) (σ : L2.St) (H : Hp) (Q : VK) : Prop
  | mk (B0 B1 Hs : Hp) (ρ : MEnv) (r : R) (re : RE Γ B0 B1 Hs H σ ρ) (e : g ρ = some r) (q : RQ Γ W Hs H r Q)
inductive tL (Γ : Ct) (W : XW) (g : ME) (σ : L2.St) (H : Hp) (Q : VK) : Prop
  | mk (B0 B1 Hs : Hp) (ρ : MEnv) (r : R) (re : RE Γ B0 B1 Hs H σ ρ) (e : g ρ = some r) (q : RL Γ W Hs H r Q)
inductive tT (Γ : Ct) (W : XW) (g : ME) (σ : L2.St) (H : Hp) (Q : Bool → Hp → Prop) : Prop
  | mk (B0 B1 Hs : Hp) (ρ : MEnv) (r : R) (re : RE Γ B0 B1 Hs H σ ρ) (e : g ρ = some r) (q : RB W Hs H r Q)
def a6G (Γ : Ct) (W : XW) : List ME → TA
  | [] => tNil
  | g :: gs => tCons (tD Γ W g) (a6G Γ W gs)
def a7P (Γ : Ct) (W : XW) : List ME → TA
  | [] => tNil
  | g :: gs => tCons (tL Γ W g) (a7P Γ W gs)
section
variable {Γ : Ct} {W : XW} {B0 B1 Hs H : Hp} {σ : L2.St} {ρ : MEnv} {r : R} {Q Q' : VK} {g ga : ME} {k : D → Option R}
theorem tD.mono (t : tD Γ W g σ H Q) (h : ∀ v H, Q v H → Q' v H) : tD Γ W g σ H Q' := by
  obtain ⟨B0, B1, Hs, ρ, r, re, e, q⟩ := t
  exact ⟨B0, B1, Hs, ρ, r, re, e, q.mono h⟩
theorem tL.mono (t : tL Γ W g σ H Q) (h : ∀ v H, Q v H → Q' v H) : tL Γ W g σ H Q' := by
  obtain ⟨B0, B1, Hs, ρ, r, re, e, q⟩ := t
  exact ⟨B0, B1, Hs, ρ, r, re, e, q.mono h⟩
theorem tL.toD (t : tL Γ W g σ H Q) : tD Γ W g σ H Q := by
  obtain ⟨B0, B1, Hs, ρ, r, re, e, q⟩ := t
  refine ⟨B0, B1, Hs, ρ, r, re, e, ?_⟩
  cases r with
  | ok s => exact fun v Hs' H' g' rs => q v Hs' H' g' (rs.look g')
  | exc x => exact q
theorem a01 (re : RE Γ B0 B1 Hs H σ ρ) (e : a0R (ga ρ) k = some r) (q : RQ Γ W Hs H r Q) :
    tD Γ W ga σ H (fun v H1 => ∃ Hs1 d, Grow Hs H Hs1 H1 ∧ RE Γ B0 B1 Hs1 H1 σ ρ ∧ Rep Γ Hs1 d v ∧ k d = some r ∧ RQ Γ W Hs1 H1 r Q) := by
  cases h : ga ρ with
  | none => rw [h] at e; cases e
  | some x =>
    rw [h] at e
    refine ⟨B0, B1, Hs, ρ, x, re, h, ?_⟩
    cases x with
    | exc y => cases e; exact q
    | ok s =>
      intro v Hs' H' g' rs
      obtain ⟨Hs'', g2, _, rp⟩ := rs.share g'
      exact ⟨Hs'', s.val, g2, re.grow g2, rp, e, q.grow g2⟩
theorem a1A : ∀ (gs : List ME) {σ : L2.St} {H : Hp} {Q Q' : List V → Hp → Prop}, (∀ v H, Q v H → Q' v H) → a6G Γ W gs σ H Q → a6G Γ W gs σ H Q'
  | [], _, _, _, _, h, t => h _ _ t
  | g :: gs, _, _, _, _, h, t => tD.mono t fun v H1 t' => a1A gs (fun vs H2 z => h _ _ z) t'
theorem a29 : ∀ (gs : List ME) {σ : L2.St} {H : Hp} {Q Q' : List V → Hp → Prop}, (∀ v H, Q v H → Q' v H) → a7P Γ W gs σ H Q → a7P Γ W gs σ H Q'
  | [], _, _, _, _, h, t => h _ _ t
  | g :: gs, _, _, _, _, h, t => tL.mono t fun v H1 t' => a29 gs (fun vs H2 z => h _ _ z) t'
theorem a3N : ∀ (gs : List ME) {Hs H : Hp} {k : List D → Option R}, RE Γ B0 B1 Hs H σ ρ → a1b gs ρ k = some r → RQ Γ W Hs H r Q →
    a6G Γ W gs σ H (fun vs H1 => ∃ Hs1 ds, Grow Hs H Hs1 H1 ∧ RE Γ B0 B1 Hs1 H1 σ ρ ∧ RepL Γ Hs1 ds vs ∧ k ds = some r ∧ RQ Γ W Hs1 H1 r Q)
  | [], Hs, H, k, re, e, q => ⟨Hs, [], .refl re.b.i, re, .nil, e, q⟩
  | g :: gs, Hs, H, k, re, e, q => by
    refine (a01 re e q).mono fun v H1 ⟨Hs1, d, g1, re1, rp, e1, q1⟩ => ?_
    refine a1A gs (fun vs H2 ⟨Hs2, ds, g2, re2, rps, e2, q2⟩ => ?_) (a3N gs re1 e1 q1)
    exact ⟨Hs2, d :: ds, g1.trans g2, re2, .cons (rp.mono g2.s) rps, e2, q2⟩
theorem a4S : ∀ (gs : List ME) {Hs H : Hp} {k : List D → Option R} {d : D}, RE Γ B0 B1 Hs H σ ρ → a6x (a1b gs ρ k) = some (.ok (.sh d)) → RQ Γ W Hs H (.ok (.sh d)) Q →
    a7P Γ W gs σ H (fun vs H1 => ∃ Hs1 ds, Grow Hs H Hs1 H1 ∧ RE Γ B0 B1 Hs1 H1 σ ρ ∧ RepL Γ H1 ds vs ∧ a6x (k ds) = some (.ok (.sh d)) ∧ RQ Γ W Hs1 H1 (.ok (.sh d)) Q)
  | [], Hs, H, k, d, re, e, q => ⟨Hs, [], .refl re.b.i, re, .nil, e, q⟩
  | g :: gs, Hs, H, k, d, re, e, q => by
    have e' : a6x (a0R (g ρ) fun x => a1b gs ρ fun ds => k (x :: ds)) = some (.ok (.sh d)) := e
    cases h : g ρ with
    | none => rw [h] at e'; cases e'
    | some x =>
      rw [h] at e'
      cases x with
      | exc y => cases e'
      | ok s =>
        refine ⟨B0, B1, Hs, ρ, .ok s, re, h, fun v Hs1 H1 g1 rp => ?_⟩
        refine a29 gs (fun vs H2 ⟨Hs2, ds, g2, re2, rps, e2, q2⟩ => ?_) (a4S gs (k := fun ds => k (s.val :: ds)) (re.grow g1) e' (q.grow g1))
        exact ⟨Hs2, s.val :: ds, g1.trans g2, re2, .cons (rp.mono g2.h) rps, e2, q2⟩
end
theorem PE.imp {X : Cx} {e : Expr} {t t' : TE} (h : PE X e t) (i : ∀ pins s σ H Q, Inv X pins σ H s → t' σ H Q → t σ H Q) : PE X e t' := fun pins s σ H Q I q => h pins s σ H Q I (i pins s σ H Q I q)
theorem PT.imp {X : Cx} {e : Expr} {t t' : TT} (h : PT X e t) (i : ∀ pins s σ H Q, Inv X pins σ H s → t' σ H Q → t σ H Q) : PT X e t' := fun pins s σ H Q I q => h pins s σ H Q I (i pins s σ H Q I q)
theorem PW.imp {X : Cx} {e : Expr} {t t' : TT} (h : PW X e t) (i : ∀ σ H Q, t' σ H Q → t σ H Q) : PW X e t' := fun w pins s σ H Q I q => h w pins s σ H Q I (i σ H Q q)
theorem PS.imp {X : Cx} {e : Stmt} {t t' : TS} (h : PS X e t) (i : ∀ pins s σ H D, Inv X pins σ H s → t' D σ H → t D σ H) : PS X e t' := fun pins s σ H D I q => h pins s σ H D I (i pins s σ H D I q)
theorem PSs.imp {X : Cx} {e : List Stmt} {t t' : TS} (h : PSs X e t) (i : ∀ D σ H, t' D σ H → t D σ H) : PSs X e t' := fun pins s σ H D I q => h pins s σ H D I (i D σ H q)
abbrev PD (X : Cx) (Γ : Ct) (W : XW) (e : Expr) (g : ME) : Prop := PE X e (tD Γ W g)
abbrev PL (X : Cx) (Γ : Ct) (W : XW) (e : Expr) (g : ME) : Prop := PE X e (tL Γ W g)
abbrev PTD (X : Cx) (Γ : Ct) (W : XW) (e : Expr) (g : ME) : Prop := PT X e (tT Γ W g)
abbrev PWD (X : Cx) (Γ : Ct) (W : XW) (e : Expr) (g : ME) : Prop := PW X e (tT Γ W g)
abbrev PAD (X : Cx) (Γ : Ct) (W : XW) (es : List Expr) (gs : List ME) : Prop := PA X es (a6G Γ W gs)
abbrev PAL (X : Cx) (Γ : Ct) (W : XW) (es : List Expr) (gs : List ME) : Prop := PA X es (a7P Γ W gs)
section
variable {X : Cx} {Γ : Ct} {W : XW} {e a b : Expr} {g ga gb : ME} {pos : Pos}
theorem PD.look (h : PD X Γ W e g) : PL X Γ W e g := PE.imp h fun _ _ _ _ _ _ t => t.toD
theorem a0a {i : Nat} (h : PE X e (tVar i)) : PD X Γ W e (eVar i) := PE.imp h fun _ _ σ H Q _ ⟨B0, B1, Hs, ρ, r, re, e1, q⟩ => by
  unfold eVar at e1
  split at e1
  · rename_i d hd
    cases e1
    obtain ⟨v, e2, rp⟩ := re.sh i d hd
    exact ⟨v, e2, q v Hs H (.refl re.b.i) rp⟩
  · cases e1
theorem a0t {i : Nat} (h : PE X e (tVar i)) : PL X Γ W e (eAny i) := PE.imp h fun _ _ σ H Q _ ⟨B0, B1, Hs, ρ, r, re, e1, q⟩ => by
  unfold eAny at e1
  split at e1
  · rename_i s hd
    cases e1
    cases s with
    | sh d =>
      obtain ⟨v, e2, rp⟩ := re.sh i d hd
      exact ⟨v, e2, q v Hs H (.refl re.b.i) (Rep.mono re.b.i rp)⟩
    | own o =>
      obtain ⟨c, ho, e2, _, _, e4, rp⟩ := re.own i o hd
      exact ⟨.ref c, e2, q (.ref c) Hs H (.refl re.b.i) ((rp.mono re.b.i).val e4)⟩
  · cases e1
theorem a6e {v : V} {d : D} (h : PE X e (tC v)) (rp : ∀ H, Rep Γ H d v) : PD X Γ W e (eC d) := PE.imp h fun _ _ σ H Q _ ⟨B0, B1, Hs, ρ, r, re, e1, q⟩ => by
  cases e1
  exact q v Hs H (.refl re.b.i) (rp Hs)
theorem a0f {i j} : PD X Γ W (.Constant (.int i) j pos) (eC (.int i)) := a6e pe_int fun _ => a0g.mpr rfl
theorem a6f {i j} : PD X Γ W (.Constant (.bool i) j pos) (eC (.bl i)) := a6e pe_bl fun _ => a0P.mpr rfl
theorem a0H {i j} : PD X Γ W (.Constant (.str i) j pos) (eC (.str i)) := a6e pe_str fun _ => a0u.mpr rfl
theorem pd_neg {i j pos'} : PD X Γ W (.UnaryOp .USub (.Constant (.int i) j pos') pos) (eC (.int (-i))) := PE.imp (pe_un un_neg pe_int) fun _ _ σ H Q _ ⟨B0, B1, Hs, ρ, r, re, e1, q⟩ => by
  cases e1
  exact ⟨i, rfl, q _ Hs H (.refl re.b.i) (RepS.of (a0g.mpr rfl))⟩
inductive rD (Γ : Ct) (W : XW) (f : D → D → Option R) (x y : V) (H : Hp) (Q : VK) : Prop
  | mk (Hs : Hp) (d1 d2 : D) (r : R) (sm : Same Hs H) (r1 : Rep Γ Hs d1 x) (r2 : Rep Γ Hs d2 y) (e : f d1 d2 = some r) (q : RQ Γ W Hs H r Q)
theorem a6K {f : D → D → Option R} {σ : L2.St} {H : Hp} {Q : VK} (t : tD Γ W (eBin f ga gb) σ H Q) : tOp (rD Γ W f) (tD Γ W ga) (tD Γ W gb) σ H Q := by
  obtain ⟨B0, B1, Hs, ρ, r, re, e, q⟩ := t
  refine (a01 re e q).mono fun v H1 ⟨Hs1, d, g1, re1, rp, e1, q1⟩ => ?_
  refine (a01 re1 e1 q1).mono fun u H2 ⟨Hs2, d2, g2, re2, rp2, e2, q2⟩ => ?_
  exact ⟨Hs2, d, d2, r, re2.b.i, rp.mono g2.s, rp2, e2, q2⟩
theorem a0E {op : Operator} {f : D → D → Option R} (ho : OpR X (binaryOp op) (rD Γ W f)) (ha : PD X Γ W a ga) (hb : PD X Γ W b gb) : PD X Γ W (.BinOp a op b pos) (eBin f ga gb) :=
  PE.imp (pe_op ho ha hb) fun _ _ _ _ _ _ t => a6K t
theorem pd_cmp {op : CmpOp} {f : D → D → Option R} (ho : OpR X (compareOp op) (rD Γ W f)) (ha : PD X Γ W a ga) (hb : PD X Γ W b gb) (hm : behindInMarks op b = false := by first | exact nomark _ | rfl) : PD X Γ W (.Compare a [op] [b] pos) (eBin f ga gb) :=
  PE.imp (pe_cmpR ho ha hb hm) fun _ _ _ _ _ _ t => a6K t
theorem tT_of {σ : L2.St} {H : Hp} {Q : Bool → Hp → Prop} (t : tT Γ W g σ H Q) : tD Γ W g σ H (fun x H' => ∃ k, x = .bl k ∧ Q k H') := by
  obtain ⟨B0, B1, Hs, ρ, r, re, e, q⟩ := t
  refine ⟨B0, B1, Hs, ρ, r, re, e, ?_⟩
  cases r with
  | exc x => exact q
  | ok s =>
    obtain ⟨c, ec, q⟩ := q
    intro v Hs' H' g' rs
    obtain ⟨_, g2, _, rp⟩ := rs.share g'
    rw [ec] at rp
    exact ⟨c, a0P.mp rp, q _ _ g'⟩
theorem a0n {op : CmpOp} {f : D → D → Option R} (ho : OpR X (compareOp op) (rD Γ W f)) (ha : PD X Γ W a ga) (hb : PD X Γ W b gb) (hm : behindInMarks op b = false := by first | exact nomark _ | rfl) : PTD X Γ W (.Compare a [op] [b] pos) (eBin f ga gb) :=
  PT.imp (pt_cmpR ho ha hb hm) fun _ _ _ _ _ _ t => a6K (tT_of t)
theorem a2u (h : PD X Γ W e g) (he : ∀ whole, isTrue e X.env whole = (do let v ← whole; standAt e.pos; holding [v] (truthy v)) := by intro _; rfl) : PTD X Γ W e g :=
  PT.imp (pt_val h he) fun _ _ _ _ _ _ t => tT_of t
section
variable {t u : ME} {rest : List Expr}
theorem tT.mono {σ : L2.St} {H : Hp} {Q Q' : Bool → Hp → Prop} (h : tT Γ W g σ H Q) (k : ∀ b H, Q b H → Q' b H) : tT Γ W g σ H Q' := by
  obtain ⟨B0, B1, Hs, ρ, r, re, e, q⟩ := h
  refine ⟨B0, B1, Hs, ρ, r, re, e, ?_⟩
  cases r with
  | exc x => exact q
  | ok s => obtain ⟨c, ec, q⟩ := q; exact ⟨c, ec, fun Hs' H' g' => k _ _ (q Hs' H' g')⟩
theorem RB.grow {Hs H Hs1 H1 : Hp} {r : R} {Q : Bool → Hp → Prop} (q : RB W Hs H r Q) (g : Grow Hs H Hs1 H1) : RB W Hs1 H1 r Q := by
  cases r with
  | exc x => exact fun Hs' H' g' => q Hs' H' (g.trans g')
  | ok s => obtain ⟨c, ec, q⟩ := q; exact ⟨c, ec, fun Hs' H' g' => q Hs' H' (g.trans g')⟩
theorem a2D {x : D} {k : Bool → Option R} {r : R} (h : asB x k = some r) : ∃ c, x = .bl c ∧ k c = some r := by
  cases x with
  | bl c => exact ⟨c, rfl, h⟩
  | non => cases h
  | int _ => cases h
  | str _ => cases h
  | tup _ => cases h
  | lst _ => cases h
  | obj _ _ _ => cases h
theorem a3j (ha : PTD X Γ W a g) : PTD X Γ W (.UnaryOp .Not a pos) (eNot g) := PT.imp (pt_not ha) fun _ _ σ H Q _ t => by
  obtain ⟨B0, B1, Hs, ρ, r, re, e, q⟩ := t
  have e' : a0R (g ρ) dNot = some r := e
  cases h : g ρ with
  | none => rw [h] at e'; cases e'
  | some x =>
    rw [h] at e'
    refine ⟨B0, B1, Hs, ρ, x, re, h, ?_⟩
    cases x with
    | exc y => cases e'; exact q
    | ok s =>
      obtain ⟨c, ec, e2⟩ := a2D (show asB s.val (fun c => okB (!c)) = some r from e')
      cases e2
      obtain ⟨c', ec', q⟩ := q
      cases ec'
      exact ⟨c, ec, q⟩
theorem a3v (ha : PTD X Γ W a g) : PWD X Γ W (.BoolOp .And [a] pos) g := pw_and1 ha
theorem a3R (ha : PTD X Γ W a g) : PWD X Γ W (.BoolOp .Or [a] pos) g := pw_or1 ha
theorem a3i (ha : PTD X Γ W a t) (hb : PWD X Γ W (.BoolOp .And (b :: rest) pos) u) : PWD X Γ W (.BoolOp .And (a :: b :: rest) pos) (eAnd t u) := PW.imp (pw_and ha hb) fun σ H Q h => by
  obtain ⟨B0, B1, Hs, ρ, r, re, e, q⟩ := h
  have e' : a0R (t ρ) (fun x => asB x fun c => if c = true then u ρ else okB false) = some r := e
  cases h : t ρ with
  | none => rw [h] at e'; cases e'
  | some x =>
    rw [h] at e'
    refine ⟨B0, B1, Hs, ρ, x, re, h, ?_⟩
    cases x with
    | exc y => cases e'; exact q
    | ok s =>
      obtain ⟨c, ec, e2⟩ := a2D (show asB s.val _ = some r from e')
      refine ⟨c, ec, fun Hs' H' g' => ?_⟩
      cases c with
      | true => exact ⟨B0, B1, Hs', ρ, r, re.grow g', e2, q.grow g'⟩
      | false =>
        cases e2
        obtain ⟨c', ec', q⟩ := q
        cases ec'
        exact q _ _ g'
theorem a3Z (ha : PTD X Γ W a t) (hb : PWD X Γ W (.BoolOp .Or (b :: rest) pos) u) : PWD X Γ W (.BoolOp .Or (a :: b :: rest) pos) (eOr t u) := PW.imp (pw_or ha hb) fun σ H Q h => by
  obtain ⟨B0, B1, Hs, ρ, r, re, e, q⟩ := h
  have e' : a0R (t ρ) (fun x => asB x fun c => if c = true then okB true else u ρ) = some r := e
  cases h : t ρ with
  | none => rw [h] at e'; cases e'
  | some x =>
    rw [h] at e'
    refine ⟨B0, B1, Hs, ρ, x, re, h, ?_⟩
    cases x with
    | exc y => cases e'; exact q
    | ok s =>
      obtain ⟨c, ec, e2⟩ := a2D (show asB s.val _ = some r from e')
      refine ⟨c, ec, fun Hs' H' g' => ?_⟩
      cases c with
      | false => exact ⟨B0, B1, Hs', ρ, r, re.grow g', e2, q.grow g'⟩
      | true =>
        cases e2
        obtain ⟨c', ec', q⟩ := q
        cases ec'
        exact q _ _ g'
theorem PWD.pt (h : PWD X Γ W e g) : PTD X Γ W e g := PW.pt h
theorem pd_one {op} (h : PD X Γ W a g) : PD X Γ W (.BoolOp op [a] pos) g := pe_one h
theorem pd_and (ha : PD X Γ W a t) (hb : PD X Γ W (.BoolOp .And (b :: rest) pos) u) : PD X Γ W (.BoolOp .And (a :: b :: rest) pos) (eAnd t u) := PE.imp (pe_and ha hb) fun _ _ σ H Q _ h => by
  obtain ⟨B0, B1, Hs, ρ, r, re, e, q⟩ := h
  refine (a01 (k := fun x => asB x fun c => if c = true then u ρ else okB false) re e q).mono fun v H1 ⟨Hs1, d, g1, re1, rp, e1, q1⟩ => ?_
  obtain ⟨c, rfl, e2⟩ := a2D e1
  refine ⟨c, a0P.mp rp, ?_⟩
  cases c with
  | true => exact ⟨B0, B1, Hs1, ρ, r, re1, e2, q1⟩
  | false => cases e2; exact q1 _ Hs1 H1 (.refl re1.b.i) (RepS.of (a0P.mpr rfl))
theorem pd_not (ha : PD X Γ W a g) : PD X Γ W (.UnaryOp .Not a pos) (eNot g) := PE.imp (pe_not ha) fun _ _ σ H Q _ h => by
  obtain ⟨B0, B1, Hs, ρ, r, re, e, q⟩ := h
  refine (a01 (k := dNot) re e q).mono fun v H1 ⟨Hs1, d, g1, re1, rp, e1, q1⟩ => ?_
  obtain ⟨c, rfl, e2⟩ := a2D e1
  cases e2
  exact ⟨c, a0P.mp rp, q1 _ Hs1 H1 (.refl re1.b.i) (RepS.of (a0P.mpr rfl))⟩
theorem pd_ifExp {c : Expr} (hc : PTD X Γ W c g) (ha : PD X Γ W a ga) (hb : PD X Γ W b gb) : PD X Γ W (.IfExp c a b pos) (eIf g ga gb) := PE.imp (pe_ifExp hc ha hb) fun _ _ σ H Q _ h => by
  obtain ⟨B0, B1, Hs, ρ, r, re, e, q⟩ := h
  have e' : a0R (g ρ) (fun x => asB x fun c => if c = true then ga ρ else gb ρ) = some r := e
  cases h : g ρ with
  | none => rw [h] at e'; cases e'
  | some x =>
    rw [h] at e'
    refine ⟨B0, B1, Hs, ρ, x, re, h, ?_⟩
    cases x with
    | exc y => cases e'; exact q
    | ok s =>
      obtain ⟨c, ec, e2⟩ := a2D (show asB s.val _ = some r from e')
      refine ⟨c, ec, fun Hs' H' g' => ?_⟩
      cases c with
      | true => exact ⟨B0, B1, Hs', ρ, r, re.grow g', e2, q.grow g'⟩
      | false => exact ⟨B0, B1, Hs', ρ, r, re.grow g', e2, q.grow g'⟩
end
theorem a0c : PAD X Γ W [] [] := pa_nil
theorem a0Y {es : List Expr} {gs : List ME} (h : PD X Γ W e g) (t : PAD X Γ W es gs) (hs : starEach (e :: es) X.env = (false, eval e X.env) :: starEach es X.env := by rfl) : PAD X Γ W (e :: es) (g :: gs) := pa_cons h t hs
theorem a0z : PAL X Γ W [] [] := pa_nil
theorem a0q {es : List Expr} {gs : List ME} (h : PL X Γ W e g) (t : PAL X Γ W es gs) (hs : starEach (e :: es) X.env = (false, eval e X.env) :: starEach es X.env := by rfl) : PAL X Γ W (e :: es) (g :: gs) := pa_cons h t hs
inductive spR (Γ : Ct) (W : XW) (F : List D → Option R) (vs : List V) (H : Hp) (Q : VK) : Prop
  | mk (Hs : Hp) (ds : List D) (r : R) (sm : Same Hs H) (rl : RepL Γ Hs ds vs) (e : F ds = some r) (q : RQ Γ W Hs H r Q)
theorem a4a {F : List D → Option R} {gs : List ME} {σ : L2.St} {H : Hp} {Q : VK} (t : tD Γ W (a0o F gs) σ H Q) : a6G Γ W gs σ H fun vs H1 => spR Γ W F vs H1 Q := by
  obtain ⟨B0, B1, Hs, ρ, r, re, e, q⟩ := t
  exact a1A gs (fun vs H1 ⟨Hs1, ds, _, re1, rp, e1, q1⟩ => ⟨Hs1, ds, r, re1.b.i, rp, e1, q1⟩) (a3N gs re e q)
theorem a6J {F : List D → Option R} {gs : List ME} {σ : L2.St} {H : Hp} {Q : VK} (t : tD Γ W (a0p F gs) σ H Q) : a7P Γ W gs σ H fun vs H1 => spR Γ W F vs H1 Q := by
  obtain ⟨B0, B1, Hs, ρ, r, re, e, q⟩ := t
  have e' : a6x (a1b gs ρ F) = some r := e
  obtain ⟨d, rfl⟩ : ∃ d, r = .ok (.sh d) := by
    unfold a6x at e'
    split at e'
    · split at e'
      · cases e'; exact ⟨_, rfl⟩
      · cases e'
    · cases e'
  refine a29 gs (fun vs H1 ⟨Hs1, ds, g1, re1, rp, e1, q1⟩ => ?_) (a4S gs re e' q)
  unfold a6x at e1
  split at e1
  · rename_i s hs
    split at e1
    · rename_i hf
      cases e1
      refine ⟨H1, ds, _, .refl _, rp, hs, fun v Hs' H' g' rs => q1 v Hs1 H' (.only re1.b.i g'.h) ?_⟩
      exact rep_flat (rs.look g') hf
    · cases e1
  · cases e1
section
variable {CX : CXT} {k : Nat} {f : Addr} {fd : FuncData} {ps : List Str} {x : Str} {p : Pos} {es : List Expr} {gs : List ME} {F : List D → Option R}
def spD (Γ : Ct) (W : XW) (F : List D → Option R) : Sp := fun vs H Q _ => spR Γ W F vs H Q
theorem pd_call (G : FnOk X.prog X.w X.K X.mg X.base CX0 k f fd ps (spD Γ W F)) (hr : Room k X.A) (hg : Gl X x) (hm : X.mg x = some (.ref f)) (hk : PySem.W.keepIn X.K (.ref f) = true) (hb : Binds X.K fd ps [])
    (ha : PAD X Γ W (e :: es) gs) (hdb : (x == ("__debug__" : Str)) = false := by decide) (he : starEach (e :: es) X.env = (false, eval e X.env) :: starEach es X.env := by rfl) (hpl : (backTo pos (starEach es X.env)).any (·.1) = false := by rfl) :
    PD X Γ W (.Call (.Name x p) (e :: es) [] pos) (a0o F gs) :=
  PE.imp (pe_call (E := E0) (dvs := []) (ds := []) G hr hg hm hk hb .nil pass0 ha hdb he hpl) fun _ _ _ _ _ _ t => a1A gs (fun vs H1 z => by show spR Γ W F (vs ++ []) H1 _; rw [List.append_nil]; exact z) (a4a t)
theorem pd_callB (G : FnOk X.prog X.w X.K X.mg X.base CX0 k f fd ps (spD Γ W F)) (hr : Room k X.A) (hg : Gl X x) (hm : X.mg x = some (.ref f)) (hk : PySem.W.keepIn X.K (.ref f) = true) (hb : Binds X.K fd ps [])
    (ha : PAL X Γ W (e :: es) gs) (hdb : (x == ("__debug__" : Str)) = false := by decide) (he : starEach (e :: es) X.env = (false, eval e X.env) :: starEach es X.env := by rfl) (hpl : (backTo pos (starEach es X.env)).any (·.1) = false := by rfl) :
    PD X Γ W (.Call (.Name x p) (e :: es) [] pos) (a0p F gs) :=
  PE.imp (pe_call (E := E0) (dvs := []) (ds := []) G hr hg hm hk hb .nil pass0 ha hdb he hpl) fun _ _ _ _ _ _ t => a29 gs (fun vs H1 z => by show spR Γ W F (vs ++ []) H1 _; rw [List.append_nil]; exact z) (a6J t)
end
section
variable {x : Str} {p : Pos} {es : List Expr} {gs : List ME} {F : List D → Option R} {id T : String}
theorem a8f (hc : CallR X (.builtin id) (spR Γ W F)) (hg : Gl X x) (hm : X.mg x = none) (hv : bootBuiltins x = some (.builtin id)) (ha : PAD X Γ W (e :: es) gs) (hn : x ≠ "__name__" := by decide) (hdb : (x == ("__debug__" : Str)) = false := by decide)
    (he : starEach (e :: es) X.env = (false, eval e X.env) :: starEach es X.env := by rfl) (hpl : (backTo pos (starEach es X.env)).any (·.1) = false := by rfl) : PD X Γ W (.Call (.Name x p) (e :: es) [] pos) (a0o F gs) :=
  PE.imp (pe_callB hc hg hm hv ha hn hdb he hpl) fun _ _ _ _ _ _ t => a4a t
theorem a0C (hc : CallR X (.builtin id) (spR Γ W F)) (hg : Gl X x) (hm : X.mg x = none) (hv : bootBuiltins x = some (.builtin id)) (ha : PAL X Γ W (e :: es) gs) (hn : x ≠ "__name__" := by decide) (hdb : (x == ("__debug__" : Str)) = false := by decide)
    (he : starEach (e :: es) X.env = (false, eval e X.env) :: starEach es X.env := by rfl) (hpl : (backTo pos (starEach es X.env)).any (·.1) = false := by rfl) : PD X Γ W (.Call (.Name x p) (e :: es) [] pos) (a0p F gs) :=
  PE.imp (pe_callB hc hg hm hv ha hn hdb he hpl) fun _ _ _ _ _ _ t => a6J t
theorem a6d (hc : CallR X (.type T) (spR Γ W F)) (hg : Gl X x) (hm : X.mg x = none) (hv : bootBuiltins x = some (.type T)) (ha : PAD X Γ W (e :: es) gs) (hn : x ≠ "__name__" := by decide) (hdb : (x == ("__debug__" : Str)) = false := by decide)
    (he : starEach (e :: es) X.env = (false, eval e X.env) :: starEach es X.env := by rfl) (hpl : (backTo pos (starEach es X.env)).any (·.1) = false := by rfl) : PD X Γ W (.Call (.Name x p) (e :: es) [] pos) (a0o F gs) :=
  PE.imp (pe_callTy hc hg hm hv ha hn hdb he hpl) fun _ _ _ _ _ _ t => a4a t
end
theorem a0y {es : List Expr} {gs : List ME} {x1} (ha : PAD X Γ W es gs) : PD X Γ W (.Tuple es x1 pos) (eTup gs) := PE.imp (pe_tup ha) fun _ _ σ H Q _ t => by
  refine a1A gs (fun vs H1 ⟨Hs1, ds, r, sm, rp, e1, q1⟩ => ?_) (a4a t)
  try dsimp only at e1
  split at e1
  · rename_i hl
    cases e1
    refine ⟨by rw [← rp.length]; exact Nat.le_trans hl (by decide), fun p hp => q1 _ (upd Hs1 p (.tup vs)) _ (.new sm hp) ?_⟩
    exact a0K.mpr ⟨p, vs, rfl, .of upd_same, rp.mono (a0W (sm.free hp))⟩
  · cases e1
theorem a1p {es : List Expr} {gs : List ME} (ha : PAD X Γ W es gs) : PD X Γ W (.List es pos) (eLst gs) := PE.imp (pe_lst ha) fun _ _ σ H Q _ t => by
  refine a1A gs (fun vs H1 ⟨Hs1, ds, r, sm, rp, e1, q1⟩ => ?_) (a4a t)
  try dsimp only at e1
  split at e1
  · rename_i hl
    cases e1
    refine ⟨by rw [← rp.length]; exact Nat.le_trans hl (by decide), fun p hp => q1 _ Hs1 _ (.newOwn sm hp) ?_⟩
    exact ⟨p, _, rfl, hp, sm.free hp, upd_same, vs, rfl, rp⟩
  · cases e1
theorem a0x {f : D → D → Option R} (ho : IxR X (rD Γ W f)) (ha : PD X Γ W a ga) (hb : PD X Γ W b gb) (hs : PlainIx b := by exact fun _ _ => rfl) : PD X Γ W (.Subscript a b pos) (eBin f ga gb) :=
  PE.imp (pe_ix ho ha hb hs) fun _ _ _ _ _ _ t => a6K t
end
end L3
namespace L3
open PySem PySem.Spec PyProof.Rows L2
def EQ (Γ : Ct) (W : XW) (B0 B1 Hs : Hp) (D : Ends) : Out → Prop
  | .next ρ' => ∀ σ' Hs' H', Same Hs Hs' → RE Γ B0 B1 Hs' H' σ' ρ' → D.nx σ' H'
  | .brk ρ' => ∀ σ' Hs' H', Same Hs Hs' → RE Γ B0 B1 Hs' H' σ' ρ' → D.bk σ' H'
  | .cont ρ' => ∀ σ' Hs' H', Same Hs Hs' → RE Γ B0 B1 Hs' H' σ' ρ' → D.ct σ' H'
  | .ret s => ∀ v Hs' H', Same Hs Hs' → Grow B0 B1 Hs' H' → RepS Γ B1 Hs' H' s v → D.rt v H'
  | .exc x => ∀ Hs' H', Same Hs Hs' → Grow B0 B1 Hs' H' → W x Hs' H'
theorem EQ.from {Γ : Ct} {W : XW} {B0 B1 Hs Hs1 : Hp} {D : Ends} {o : Out} (q : EQ Γ W B0 B1 Hs D o) (k : Same Hs Hs1) : EQ Γ W B0 B1 Hs1 D o := by
  cases o with
  | next ρ => exact fun σ' Hs' H' h => q σ' Hs' H' (k.trans h)
  | brk ρ => exact fun σ' Hs' H' h => q σ' Hs' H' (k.trans h)
  | cont ρ => exact fun σ' Hs' H' h => q σ' Hs' H' (k.trans h)
  | ret s => exact fun v Hs' H' h => q v Hs' H' (k.trans h)
  | exc x => exact fun Hs' H' h => q Hs' H' (k.trans h)
inductive tS (Γ : Ct) (W : XW) (g : MC) (D : Ends) (σ : L2.St) (H : Hp) : Prop
  | mk (B0 B1 Hs : Hp) (ρ : MEnv) (o : Out) (re : RE Γ B0 B1 Hs H σ ρ) (e : g ρ = some o) (q : EQ Γ W B0 B1 Hs D o)
abbrev PSD (X : Cx) (Γ : Ct) (W : XW) (st : Stmt) (g : MC) : Prop := PS X st (tS Γ W g)
abbrev PSsD (X : Cx) (Γ : Ct) (W : XW) (st : List Stmt) (g : MC) : Prop := PSs X st (tS Γ W g)
section
variable {X : Cx} {Γ : Ct} {W : XW} {st : Stmt} {rest a b : List Stmt} {g g1 g2 : MC} {ge gc : ME} {e c : Expr} {pos : Pos}
theorem a0r : PSsD X Γ W [] a0Q := PSs.imp pss_nil fun D σ H ⟨B0, B1, Hs, ρ, o, re, e, q⟩ => by
  cases e
  exact q σ Hs H (.refl _) re
theorem a0e (h1 : PSD X Γ W st g1) (h2 : PSsD X Γ W rest g2) : PSsD X Γ W (st :: rest) (sSeq g1 g2) := PSs.imp (pss_cons h1 h2) fun D σ H ⟨B0, B1, Hs, ρ, o, re, e, q⟩ => by
  unfold sSeq at e
  cases h : g1 ρ with
  | none => rw [h] at e; cases e
  | some u =>
    rw [h] at e
    refine ⟨B0, B1, Hs, ρ, u, re, h, ?_⟩
    cases u with
    | next ρ' => exact fun σ' Hs' H' sm re' => ⟨B0, B1, Hs', ρ', o, re', e, q.from sm⟩
    | brk ρ' => cases e; exact q
    | cont ρ' => cases e; exact q
    | ret s => cases e; exact q
    | exc x => cases e; exact q
theorem a0h (h : PSD X Γ W st g) : PSsD X Γ W [st] g := pss_one h
theorem a0w {i : Nat} (h : PSsD X Γ W rest g) : PSsD X Γ W rest (sDem i g) := PSs.imp h fun D σ H ⟨B0, B1, Hs, ρ, o, re, e, q⟩ => by
  obtain ⟨Hs', sm, re'⟩ := re.dem i
  exact ⟨B0, B1, Hs', dem i ρ, o, re', e, q.from sm⟩
theorem tD_O {B0 B1 Hs H : Hp} {σ : L2.St} {ρ : MEnv} {o : Out} {D : Ends} {k : S → Option Out} (re : RE Γ B0 B1 Hs H σ ρ) (e : a3r (ge ρ) k = some o) (q : EQ Γ W B0 B1 Hs D o) :
    tD Γ W ge σ H (fun v H1 => ∃ Hs1 s, Grow Hs H Hs1 H1 ∧ RepS Γ H Hs1 H1 s v ∧ k s = some o) := by
  cases h : ge ρ with
  | none => rw [h] at e; cases e
  | some x =>
    rw [h] at e
    refine ⟨B0, B1, Hs, ρ, x, re, h, ?_⟩
    cases x with
    | exc y => cases e; exact fun Hs' H' g' => q Hs' H' g'.s (re.b.trans g')
    | ok s => exact fun v Hs' H' g' rs => ⟨Hs', s, g', rs, e⟩
theorem a7m {i : Nat} {t : TE} (h : PS X st (tAsg (tD Γ W ge) (gName i))) (hi : i < X.N.length) : PSD X Γ W st (sSet i ge) := PS.imp h fun pins s σ H D I ⟨B0, B1, Hs, ρ, o, re, e, q⟩ => by
  refine (tD_O re e q).mono fun v H1 ⟨Hs1, s, g1, rs, e1⟩ => ?_
  cases e1
  exact q _ Hs1 H1 g1.s (re.setS g1 (by rw [I.len]; exact hi) rs)
theorem psd_set {i : Nat} {x : Str} {pos' : Pos} (hN : X.N.Nodup) (hi : X.N[i]? = some x) (hx : Loc X.env.scope x) (he : PD X Γ W e ge) (hs : swapsWith e (some (.Name x pos')) pos.line X.env = pure false := by rfl)
    (hf : X.fn x = true ∨ X.env.scope.names.lookup x = some .local := by first | exact .inl rfl | exact .inr rfl | assumption) : PSD X Γ W (.Assign [.Name x pos'] e pos) (sSet i ge) :=
  a7m (t := tD Γ W ge) (ps_set hN hi hx he hs hf) (List.getElem?_eq_some_iff.mp hi).1
theorem a0k (he : PD X Γ W e ge) : PSD X Γ W (.Return (some e) pos) (sRet ge) := PS.imp (ps_ret he) fun pins s σ H D I ⟨B0, B1, Hs, ρ, o, re, e, q⟩ => by
  refine (tD_O re e q).mono fun v H1 ⟨Hs1, s, g1, rs, e1⟩ => ?_
  cases e1
  exact q v Hs1 H1 g1.s (re.b.trans g1) (rs.back re.b.h)
theorem a8Z {x : D} {k : Bool → Option Out} {o : Out} (h : asBO x k = some o) : ∃ c, x = .bl c ∧ k c = some o := by
  cases x with
  | bl c => exact ⟨c, rfl, h⟩
  | non => cases h
  | int _ => cases h
  | str _ => cases h
  | tup _ => cases h
  | lst _ => cases h
  | obj _ _ _ => cases h
theorem a0T (hc : PTD X Γ W c gc) (ha : PSsD X Γ W a g1) (hb : PSsD X Γ W b g2) : PSD X Γ W (.If c a b pos) (sIf gc g1 g2) := PS.imp (ps_if hc ha hb) fun pins s σ H D I ⟨B0, B1, Hs, ρ, o, re, e, q⟩ => by
  have e' : a3r (gc ρ) (fun s => asBO s.val fun t => if t = true then g1 ρ else g2 ρ) = some o := e
  cases h : gc ρ with
  | none => rw [h] at e'; cases e'
  | some x =>
    rw [h] at e'
    refine ⟨B0, B1, Hs, ρ, x, re, h, ?_⟩
    cases x with
    | exc y => cases e'; exact fun Hs' H' g' => q Hs' H' g'.s (re.b.trans g')
    | ok s =>
      obtain ⟨t, et, e2⟩ := a8Z (show asBO s.val _ = some o from e')
      refine ⟨t, et, fun Hs' H' g' => ?_⟩
      cases t with
      | true => exact ⟨B0, B1, Hs', ρ, o, re.grow g', e2, q.from g'.s⟩
      | false => exact ⟨B0, B1, Hs', ρ, o, re.grow g', e2, q.from g'.s⟩
structure Walk (Γ : Ct) (Hs0 : Hp) (J : It) (ds : List D) : Prop where
  go : ∀ i Hs H, i < ds.length → Same Hs0 Hs → Same Hs H → J.go i H
  stop : ∀ Hs H, Same Hs0 Hs → Same Hs H → J.stop ds.length H
  yld : ∀ i Hs H x H', i < ds.length → Same Hs0 Hs → Same Hs H → J.yld i H x H' → ∃ d Hs', ds[i]? = some d ∧ Grow Hs H Hs' H' ∧ Rep Γ Hs' d x
def IQ (Γ : Ct) (W : XW) (Hs H : Hp) (r : RI) (Q : It → Hp → Prop) : Prop := match r with
  | .ok ds => ∀ J Hs' H', Grow Hs H Hs' H' → Walk Γ Hs' J ds → Q J H'
  | .exc x => ∀ Hs' H', Grow Hs H Hs' H' → W x Hs' H'
inductive tI (Γ : Ct) (W : XW) (gi : MI) (σ : L2.St) (H : Hp) (Q : It → Hp → Prop) : Prop
  | mk (B0 B1 Hs : Hp) (ρ : MEnv) (r : RI) (re : RE Γ B0 B1 Hs H σ ρ) (e : gi ρ = some r) (q : IQ Γ W Hs H r Q)
abbrev PID (X : Cx) (Γ : Ct) (W : XW) (tg iter : Expr) (gi : MI) : Prop := PI X tg iter (tI Γ W gi)
theorem PI.imp {X : Cx} {tg e : Expr} {t t' : TI} (h : PI X tg e t) (i : ∀ pins s σ H Q, Inv X pins σ H s → t' σ H Q → t σ H Q) : PI X tg e t' := fun pins s σ H Q I q => h pins s σ H Q I (i pins s σ H Q I q)
inductive tB3 (Γ : Ct) (js : List Nat) (bd : MB) (v : V) (σ : L2.St) (H : Hp) (Q : L2.St → Hp → Prop) : Prop
  | mk (B0 B1 Hs : Hp) (ρ : MEnv) (d : D) (ρ' : MEnv) (re : RE Γ B0 B1 Hs H σ ρ) (rp : Rep Γ Hs d v) (e : bd d ρ = some ρ') (q : ∀ σ' : L2.St, RE Γ B0 B1 Hs H σ' ρ' → (∀ j : Nat, j ∉ js → σ'[j]? = σ[j]?) → Q σ' H)
abbrev PBD (X : Cx) (Γ : Ct) (tg : Expr) (js : List Nat) (bd : MB) : Prop := PG X tg (tB3 Γ js bd)
theorem PG.imp {X : Cx} {tg : Expr} {t t' : TG} (h : PG X tg t) (i : ∀ pins s v σ H Q, Inv X pins σ H s → t' v σ H Q → t v σ H Q) : PG X tg t' := fun pins s σ H v u Q I r q => h pins s σ H v u Q I r (i pins s v σ H Q I q)
theorem pbd_name {j : Nat} {x : Str} (hN : X.N.Nodup) (hi : X.N[j]? = some x) (hx : Loc X.env.scope x) (hf : X.fn x = true ∨ X.env.scope.names.lookup x = some .local := by first | exact .inl rfl | exact .inr rfl | assumption) : PBD X Γ (.Name x pos) [j] (a1k j) :=
  PG.imp (pg_name hN hi hx hf) fun pins s v σ H Q I ⟨B0, B1, Hs, ρ, d, ρ', re, rp, e, q⟩ => by
    cases e
    exact q _ (re.setSh (by rw [I.len]; exact (List.getElem?_eq_some_iff.mp hi).1) rp) fun i hi => List.getElem?_set_ne fun z => hi (by simp [z])
theorem for_walk {js : List Nat} {bd : MB} {body : MC} {ds : List D} {J : It} {D : Ends} {B0 B1 Hs0 : Hp} {o : Out} (w : Walk Γ Hs0 J ds) (q : EQ Γ W B0 B1 Hs0 D o) {σ : L2.St} {H : Hp} {ρ : MEnv} (re : RE Γ B0 B1 Hs0 H σ ρ) (e : forD bd body ds ρ = some o) :
    ∃ Wv : Nat → Nat → L2.St → Hp → Prop, (∃ m, Wv 0 m σ H) ∧ ∀ i m σ H, Wv i m σ H →
      (J.stop i H ∧ D.nx σ H) ∨ (J.go i H ∧ ∃ N : L2.St → Hp → Prop, (∀ σ' H', N σ' H' → ∃ m', m' < m ∧ Wv (i + 1) m' σ' H') ∧ ∀ x H', J.yld i H x H' → tB3 Γ js bd x σ H' fun σ2 H2 => tS Γ W body { D with nx := N, ct := N, bk := D.nx } σ2 H2) := by
  refine ⟨fun i m σ H => m = ds.length - i ∧ i ≤ ds.length ∧ ∃ Hs ρ, Same Hs0 Hs ∧ RE Γ B0 B1 Hs H σ ρ ∧ forD bd body (ds.drop i) ρ = some o, ⟨_, rfl, Nat.zero_le _, Hs0, ρ, .refl _, re, e⟩, ?_⟩
  rintro i m σ H ⟨rfl, hi, Hs, ρ, sm, re, e⟩
  by_cases hlt : i < ds.length
  · refine .inr ⟨w.go i Hs H hlt sm re.b.i, fun σ' H' => ∃ Hs' ρ', Same Hs0 Hs' ∧ RE Γ B0 B1 Hs' H' σ' ρ' ∧ forD bd body (ds.drop (i + 1)) ρ' = some o, fun σ' H' ⟨Hs', ρ', s', r', e'⟩ => ⟨_, by omega, rfl, hlt, Hs', ρ', s', r', e'⟩, fun x H' y => ?_⟩
    obtain ⟨d, Hs', ed, g', rp⟩ := w.yld i Hs H x H' hlt sm re.b.i y
    have hd : ds.drop i = d :: ds.drop (i + 1) := by
      rw [List.drop_eq_getElem_cons hlt]
      congr 1
      rw [List.getElem?_eq_getElem hlt] at ed
      exact Option.some.inj ed
    rw [hd] at e
    unfold forD at e
    cases h : bd d ρ with
    | none => rw [h] at e; cases e
    | some ρ1 =>
      rw [h] at e
      dsimp only at e
      refine ⟨B0, B1, Hs', ρ, d, ρ1, re.grow g', rp, h, fun σ2 re2 _ => ?_⟩
      cases hb : body ρ1 with
      | none => rw [hb] at e; cases e
      | some u =>
        rw [hb] at e
        refine ⟨B0, B1, Hs', ρ1, u, re2, hb, ?_⟩
        have s1 : Same Hs0 Hs' := sm.trans g'.s
        cases u with
        | next ρ2 => exact fun σ' Hs2 H2 s2 re3 => ⟨Hs2, ρ2, s1.trans s2, re3, e⟩
        | cont ρ2 => exact fun σ' Hs2 H2 s2 re3 => ⟨Hs2, ρ2, s1.trans s2, re3, e⟩
        | brk ρ2 => cases e; exact fun σ' Hs2 H2 s2 re3 => q σ' Hs2 H2 (s1.trans s2) re3
        | ret s => cases e; exact fun v Hs2 H2 s2 => q v Hs2 H2 (s1.trans s2)
        | exc x => cases e; exact fun Hs2 H2 s2 => q Hs2 H2 (s1.trans s2)
  · have ei : i = ds.length := by omega
    subst ei
    rw [List.drop_length] at e
    cases e
    exact .inl ⟨w.stop Hs H sm re.b.i, q σ Hs H sm re⟩
theorem a4c {tg iter : Expr} {gi : MI} {js : List Nat} {bd : MB} {body : List Stmt} (hp : PassesOwn (model X.prog X.w) X.A X.env X.xe) (hc : X.calm = true) (hi : PID X Γ W tg iter gi) (hg : PBD X Γ tg js bd) (hb : PSsD X Γ W body g)
    (hs : ∀ x, foldedSetIterable iter X.env x = pure x := by intro _; rfl) : PSD X Γ W (.For tg iter body [] pos) (sFor gi bd g) := PS.imp (ps_for hp hc hi hg hb hs) fun pins s σ H D I ⟨B0, B1, Hs, ρ, o, re, e, q⟩ => by
  unfold sFor at e
  cases h : gi ρ with
  | none => rw [h] at e; cases e
  | some r =>
    rw [h] at e
    refine ⟨B0, B1, Hs, ρ, r, re, h, ?_⟩
    cases r with
    | exc x => cases e; exact fun Hs' H' g' => q Hs' H' g'.s (re.b.trans g')
    | ok ds => exact fun J Hs' H' g' w => for_walk w (q.from g'.s) (re.grow g') e
theorem a7R {Hs0 : Hp} {a : Addr} {xs : List V} {ds : List D} {K : PySem.W.Frag} (h : SqL K Hs0 a xs) (r : RepL Γ Hs0 ds xs) : Walk Γ Hs0 (Itl K a) ds where
  go := fun i Hs H hi s1 s2 => ⟨xs, xs[i]'(by rw [← r.length]; exact hi), Same.seq (s1.trans s2) h, by rw [List.getElem?_eq_getElem]⟩
  stop := fun Hs H s1 s2 => ⟨xs, Same.seq (s1.trans s2) h, Nat.le_of_eq r.length.symm⟩
  yld := fun i Hs H x H' hi s1 s2 ⟨e, y⟩ => by
    subst e
    obtain ⟨z, e1, q⟩ := r.get (List.getElem?_eq_getElem hi)
    have e2 := y xs (Same.seq (s1.trans s2) h)
    rw [e1] at e2
    cases e2
    exact ⟨_, Hs, List.getElem?_eq_getElem hi, .refl s2, q.mono s1⟩
theorem walk_tup {Hs0 : Hp} {a : Addr} {xs : List V} {ds : List D} {K : PySem.W.Frag} (h : SqT K Hs0 a xs) (r : RepL Γ Hs0 ds xs) : Walk Γ Hs0 (Itt K a) ds where
  go := fun i Hs H hi s1 s2 => ⟨xs, xs[i]'(by rw [← r.length]; exact hi), a0S (s1.trans s2) h, by rw [List.getElem?_eq_getElem]⟩
  stop := fun Hs H s1 s2 => ⟨xs, a0S (s1.trans s2) h, Nat.le_of_eq r.length.symm⟩
  yld := fun i Hs H x H' hi s1 s2 ⟨e, y⟩ => by
    subst e
    obtain ⟨z, e1, q⟩ := r.get (List.getElem?_eq_getElem hi)
    have e2 := y xs (a0S (s1.trans s2) h)
    rw [e1] at e2
    cases e2
    exact ⟨_, Hs, List.getElem?_eq_getElem hi, .refl s2, q.mono s1⟩
theorem walk_rng {Hs0 : Hp} (lo hi : Int) : Walk Γ Hs0 (Itr lo (hi - lo).toNat) (rng lo hi) where
  go := fun i Hs H h s1 s2 => by
    unfold rng at h
    rw [List.length_map, List.length_range] at h
    exact h
  stop := fun Hs H s1 s2 => by
    unfold rng
    rw [List.length_map, List.length_range]
    exact Nat.le_refl _
  yld := fun i Hs H x H' h s1 s2 ⟨e, y⟩ => by
    subst e y
    unfold rng at h ⊢
    rw [List.length_map, List.length_range] at h
    exact ⟨.int (lo + i), Hs, by rw [List.getElem?_map, List.getElem?_range h]; rfl, .refl s2, a0g.mpr rfl⟩
end
end L3
namespace L3
open PySem PySem.Spec PyProof.Rows L2
theorem a5i (js : List Nat) : ∀ ρ : MEnv, (a1d js ρ).length = ρ.length := by
  induction js with
  | nil => intro ρ; rfl
  | cons j js ih => intro ρ; show (a1d js (ρ.set j none)).length = _; rw [ih, List.length_set]
theorem a3X (js : List Nat) : ∀ (ρ : MEnv) (i : Nat) (v : S), (a1d js ρ)[i]? = some (some v) → i ∉ js ∧ ρ[i]? = some (some v) := by
  induction js with
  | nil => intro ρ i v h; exact ⟨by simp, h⟩
  | cons j js ih =>
    intro ρ i v h
    obtain ⟨h1, h2⟩ := ih (ρ.set j none) i v h
    by_cases hj : j = i
    · subst hj
      by_cases hl : j < ρ.length
      · rw [List.getElem?_set_self hl] at h2; cases h2
      · rw [List.getElem?_eq_none (by rw [List.length_set]; omega)] at h2; cases h2
    · rw [List.getElem?_set_ne hj] at h2
      exact ⟨by simp [h1, Ne.symm hj], h2⟩
theorem a6v (js : List Nat) : ∀ (σ : L2.St) (i : Nat), i ∉ js → (a2i js σ)[i]? = σ[i]? := by
  induction js with
  | nil => intro σ i _; rfl
  | cons j js ih =>
    intro σ i h
    have h' : i ≠ j ∧ i ∉ js := by simpa using h
    show (a2i js (σ.set j none))[i]? = _
    rw [ih _ _ h'.2, List.getElem?_set_ne (Ne.symm h'.1)]
section
variable {Γ : Ct} {B0 B1 Hs H : Hp} {σ σ' : L2.St} {ρ ρ' : MEnv}
theorem RE.sub (r : RE Γ B0 B1 Hs H σ ρ) (hl : ρ'.length = σ'.length) (h : ∀ (i : Nat) (s : S), ρ'[i]? = some (some s) → ρ[i]? = some (some s) ∧ σ'[i]? = σ[i]?) : RE Γ B0 B1 Hs H σ' ρ' where
  b := r.b
  sh := fun i d e => by
    obtain ⟨e1, e2⟩ := h i _ e
    obtain ⟨v, e3, q⟩ := r.sh i d e1
    exact ⟨v, e2.trans e3, q⟩
  own := fun i o e => by
    obtain ⟨e1, e2⟩ := h i _ e
    obtain ⟨a, ho, e3, f1, f2, f3, q⟩ := r.own i o e1
    exact ⟨a, ho, e2.trans e3, f1, f2, f3, q⟩
  apart := fun i j o u a hij hi hj ha => by
    obtain ⟨e1, e2⟩ := h i _ hi
    obtain ⟨e3, e4⟩ := h j _ hj
    rw [e4]
    exact r.apart i j o u a hij e1 e3 (e2.symm.trans ha)
  len := hl
theorem RE.other (r : RE Γ B0 B1 Hs H σ ρ) {a : Addr} {ho : HO} (h1 : Hs a = none) (h2 : B1 a = none) (h3 : ∀ (i : Nat) (o : O), ρ[i]? = some (some (.own o)) → σ[i]? ≠ some (some (.ref a))) : RE Γ B0 B1 Hs (upd H a ho) σ ρ where
  b := ⟨r.b.s, fun b u z => by rw [upd_ne (ne_of_none z h2)]; exact r.b.h _ _ z, fun b u z => by rw [upd_ne (ne_of_none z h1)]; exact r.b.i _ _ z, r.b.n⟩
  sh := r.sh
  own := fun i o e => by
    obtain ⟨c, hc, f1, f2, f3, f4, f5⟩ := r.own i o e
    refine ⟨c, hc, f1, f2, f3, ?_, f5⟩
    rw [upd_ne]
    · exact f4
    · intro z
      subst z
      exact h3 i o e f1
  apart := r.apart
  len := r.len
end
theorem Grow.other {Hs H Hs' H' : Hp} {a : Addr} {ho : HO} (g : Grow Hs H Hs' H') (h0 : H a = none) (h1 : Hs' a = none) : Grow Hs H Hs' (upd H' a ho) :=
  ⟨g.s, fun b u z => by rw [upd_ne (ne_of_none z h0)]; exact g.h _ _ z, fun b u z => by rw [upd_ne (ne_of_none z h1)]; exact g.i _ _ z, g.n⟩
theorem Grow.none {Hs H Hs' H' : Hp} {a : Addr} {ho : HO} (g : Grow Hs H Hs' H') (h : Hs a = Option.none) (h' : H a = some ho) : Hs' a = Option.none := by
  cases z : Hs' a with
  | none => rfl
  | some u =>
    rcases g.n a u z with w | w
    · rw [h] at w; cases w
    · rw [h'] at w; cases w
def BdIn (js : List Nat) (bd : MB) : Prop := ∀ d ρ ρ', bd d ρ = some ρ' → ρ'.length = ρ.length ∧ ∀ i : Nat, i ∉ js → ρ'[i]? = ρ[i]?
theorem a1S (j : Nat) : BdIn [j] (a1k j) := fun d ρ ρ' e => by
  cases e
  exact ⟨by rw [List.length_set], fun i hi => List.getElem?_set_ne fun z => hi (by simp [z])⟩
section
variable {Γ : Ct} {W : XW} {js : List Nat} {gi : MI} {bd : MB} {cond elt : ME}
theorem a7T {tt : TT} (ht : ∀ σ H Q, tT Γ W cond σ H Q → tt σ H Q) (hb : BdIn js bd) {σ : L2.St} {H : Hp} {Q : VK} (t : tD Γ W (a1U js gi bd cond elt) σ H Q) :
    tComp js (tI Γ W gi) (tB3 Γ js bd) tt (tD Γ W elt) σ H Q := by
  obtain ⟨B0, B1, Hs, ρ, r, re, e, q⟩ := t
  unfold a1U at e
  cases h : gi ρ with
  | none => rw [h] at e; cases e
  | some x =>
    rw [h] at e
    refine ⟨B0, B1, Hs, ρ, x, re, h, ?_⟩
    cases x with
    | exc y => cases e; exact q
    | ok ds =>
      intro J Hs1 H1 g1 w a ha
      dsimp only at e
      have hlim : ds.length ≤ lim := by
        by_cases z : ds.length ≤ lim
        · exact z
        · rw [if_neg z] at e; cases e
      rw [if_pos hlim] at e
      have hs1 : Hs1 a = none := g1.i.free ha
      have h0 : H a = none := g1.h.free ha
      have hb1 : B1 a = none := re.b.h.free h0
      have re1 : RE Γ B0 B1 Hs1 H1 (a2i js σ) (a1d js ρ) := (re.grow g1).sub (by rw [a5i, a3e, re.len]) fun i s z => by
        obtain ⟨z1, z2⟩ := a3X js ρ i s z
        exact ⟨z2, a6v js σ i z1⟩
      have ap1 : ∀ (i : Nat) (o : O), (a1d js ρ)[i]? = some (some (.own o)) → (a2i js σ)[i]? ≠ some (some (.ref a)) := fun i o z z' => by
        obtain ⟨c, hc, f1, _, _, f4, _⟩ := re1.own i o z
        rw [z'] at f1
        cases f1
        rw [ha] at f4
        cases f4
      refine ⟨fun i m σ2 ys H2 => m = ds.length - i ∧ i ≤ ds.length ∧ ∃ Hs2 acc, Same Hs1 Hs2 ∧ Grow Hs H Hs2 H2 ∧ RE Γ B0 B1 Hs2 H2 σ2 (a1d js ρ) ∧ Hs2 a = none ∧
        (∀ (i : Nat) (o : O), (a1d js ρ)[i]? = some (some (.own o)) → σ2[i]? ≠ some (some (.ref a))) ∧ H2 a = some (.lst ys) ∧ RepL Γ Hs2 acc ys ∧ a3K bd cond elt (a1d js ρ) (ds.drop i) acc = some r ∧ acc.length ≤ i, ⟨_, rfl, Nat.zero_le _, Hs1, [], .refl _, g1.other h0 hs1, re1.other hs1 hb1 ap1, hs1, ap1, upd_same, .nil, e, Nat.zero_le _⟩, ?_⟩
      rintro i m σ2 ys H2 ⟨rfl, hi, Hs2, acc, sm, g2, re2, ha2, ap, hy, rl, ec, hacc⟩
      refine ⟨hy, ?_⟩
      by_cases hlt : i < ds.length
      · refine .inr ⟨w.go i Hs2 H2 hlt sm re2.b.i, fun x H3 y => ?_⟩
        obtain ⟨d, Hs3, ed, g3, rp⟩ := w.yld i Hs2 H2 x H3 hlt sm re2.b.i y
        have hd : ds.drop i = d :: ds.drop (i + 1) := by
          rw [List.drop_eq_getElem_cons hlt]
          congr 1
          rw [List.getElem?_eq_getElem hlt] at ed
          exact Option.some.inj ed
        rw [hd] at ec
        unfold a3K at ec
        cases hbd : bd d (a1d js ρ) with
        | none => rw [hbd] at ec; cases ec
        | some ρ1 =>
          rw [hbd] at ec
          dsimp only at ec
          obtain ⟨bl, bo⟩ := hb d _ ρ1 hbd
          refine ⟨B0, B1, Hs3, a1d js ρ, d, ρ1, re2.grow g3, rp, hbd, fun σ4 re4 hσ => ?_⟩
          have low : ∀ {Hs5 H5 : Hp}, RE Γ B0 B1 Hs5 H5 σ4 ρ1 → RE Γ B0 B1 Hs5 H5 σ4 (a1d js ρ) := fun r5 => r5.sub (by rw [← bl, r5.len]) fun k s z => by
            obtain ⟨z1, _⟩ := a3X js ρ k s z
            exact ⟨(bo k z1).trans z, rfl⟩
          have ap4 : ∀ (k : Nat) (o : O), (a1d js ρ)[k]? = some (some (.own o)) → σ4[k]? ≠ some (some (.ref a)) := fun k o z => by
            obtain ⟨z1, _⟩ := a3X js ρ k _ z
            rw [hσ k z1]
            exact ap k o z
          have ha3 := g3.none ha2 hy
          have hy3 := g3.h _ _ hy
          refine ht _ _ _ ?_
          cases hcv : cond ρ1 with
          | none => rw [hcv] at ec; cases ec
          | some c =>
            rw [hcv] at ec
            refine ⟨B0, B1, Hs3, ρ1, c, re4, hcv, ?_⟩
            cases c with
            | exc x =>
              cases ec
              exact fun Hs' H' g' => q Hs' H' ((g2.trans g3).trans g')
            | ok s =>
              obtain ⟨b, eb, ec2⟩ := a2D (show asB s.val _ = some r from ec)
              refine ⟨b, eb, fun Hs5 H5 g5 => ?_⟩
              have ha5 := g5.none ha3 hy3
              have hy5 := g5.h _ _ hy3
              have re5 := re4.grow g5
              cases b with
              | false =>
                rw [if_neg Bool.false_ne_true] at ec2
                refine iteF ?_
                exact ⟨_, by omega, rfl, hlt, Hs5, acc, (sm.trans g3.s).trans g5.s, (g2.trans g3).trans g5, low re5, ha5, ap4, hy5, rl.mono (g3.s.trans g5.s), ec2, by omega⟩
              | true =>
                rw [if_pos rfl] at ec2
                refine iteT ?_
                refine (a01 (k := fun x => a3K bd cond elt (a1d js ρ) (ds.drop (i + 1)) (acc ++ [x])) re5 ec2 ((q.grow (g2.trans g3)).grow g5)).mono fun v H6 ⟨Hs6, z, g6, re6, rp6, ec6, q6⟩ => ?_
                have ha6 := g6.none ha5 hy5
                have hy6 := g6.h _ _ hy5
                have hlen : acc.length = ys.length := rl.length
                have hbig : ys.length < sizeLine := Nat.lt_of_lt_of_le (by omega : ys.length < lim) (by decide)
                refine ⟨hy6, hbig, _, by omega, rfl, hlt, Hs6, acc ++ [z], ((sm.trans g3.s).trans g5.s).trans g6.s, (((g2.trans g3).trans g5).trans g6).other h0 ha6, (low re6).other ha6 hb1 ap4, ha6, ap4, upd_same, (rl.mono ((g3.s.trans g5.s).trans g6.s)).append (.cons rp6 .nil), ec6, by rw [List.length_append, List.length_singleton]; omega⟩
      · have ei : i = ds.length := by omega
        subst ei
        rw [List.drop_length] at ec
        unfold a3K at ec
        split at ec
        · cases ec
          exact .inl ⟨w.stop Hs2 H2 sm re2.b.i, q _ Hs2 H2 g2 ⟨a, _, rfl, h0, ha2, hy, ys, rfl, rl⟩⟩
        · cases ec
end
section
variable {X : Cx} {Γ : Ct} {W : XW} {scope : Scope} {vars : List Str} {js : List Nat} {elt tg iter c : Expr} {pos : Pos} {gi : MI} {bd : MB} {cond ge : ME}
theorem tT_true {σ : L2.St} {H : Hp} {Q : Bool → Hp → Prop} (t : tT Γ W a2P σ H Q) : tTrue σ H Q := by
  obtain ⟨B0, B1, Hs, ρ, r, re, e, q⟩ := t
  cases e
  obtain ⟨b, eb, q⟩ := q
  cases eb
  exact q Hs H (.refl re.b.i)
theorem a3T (hb : BdIn js bd) (hc : a1z scope X.env.scope vars = true) (hj : a3O X.N vars js = true) (hcalm : X.calm = true) (hi : PID X Γ W tg iter gi)
    (hg : ∀ fp s H a, PBD (a1R X scope fp s H a) Γ tg js bd) (he : ∀ fp s H a, PD (a1R X scope fp s H a) Γ W elt ge) (hs : ∀ x, foldedSetIterable iter X.env x = pure x := by intro _; rfl) :
    PD X Γ W (.ListComp elt [⟨tg, iter, [], 0⟩] scope pos) (a1U js gi bd a2P ge) :=
  PE.imp (pe_comp hc hj hcalm hi hg (fun _ _ _ _ => pif_nil) he hs) fun _ _ _ _ _ _ t => a7T (fun _ _ _ z => tT_true z) hb t
variable {i : Nat} {x : Str} {pos' spos : Pos}
theorem a6c {st : Stmt} {t : TE} {ge : ME} (h : PS X st (tAsg t (gName i))) (ht : ∀ σ H Q, tD Γ W ge σ H Q → t σ H Q) (hi : i < X.N.length) : PSD X Γ W st (sSet i ge) := PS.imp h fun pins s σ H D I ⟨B0, B1, Hs, ρ, o, re, e, q⟩ => by
  refine ht _ _ _ ((tD_O re e q).mono fun v H1 ⟨Hs1, s, g1, rs, e1⟩ => ?_)
  cases e1
  exact q _ Hs1 H1 g1.s (re.setS g1 (by rw [I.len]; exact hi) rs)
theorem a4I (hN : X.N.Nodup) (hi' : X.N[i]? = some x) (hx : Loc X.env.scope x) (hb : BdIn js bd) (hc : a1z scope X.env.scope vars = true) (hj : a3O X.N vars js = true) (hcalm : X.calm = true) (hi : PID X Γ W tg iter gi)
    (hg : ∀ fp s H a, PBD (a1R X scope fp s H a) Γ tg js bd) (ht : ∀ fp s H a, PTD (a1R X scope fp s H a) Γ W c cond) (he : ∀ fp s H a, PD (a1R X scope fp s H a) Γ W elt ge)
    (hsw : swapsWith (.ListComp elt [⟨tg, iter, [c], 0⟩] scope pos) (some (.Name x pos')) spos.line X.env = pure true := by rfl) (hs : ∀ x, foldedSetIterable iter X.env x = pure x := by intro _; rfl)
    (hf : X.fn x = true ∨ X.env.scope.names.lookup x = some .local := by first | exact .inl rfl | exact .inr rfl | assumption) :
    PSD X Γ W (.Assign [.Name x pos'] (.ListComp elt [⟨tg, iter, [c], 0⟩] scope pos) spos) (sSet i (a1U js gi bd cond ge)) :=
  a6c (a7n hN hi' hx hc hj hcalm hi hg (fun fp s H a => pif_one (ht fp s H a)) he hsw hs hf) (fun _ _ _ t => a7T (fun _ _ _ z => z) hb t) (List.getElem?_eq_some_iff.mp hi').1
theorem a4d {l : Expr} {g : ME} (hK : X.K = Γ.K) (h : PD X Γ W l g) : PID X Γ W tg l (iSeq g) := PI.imp (pi_seq h) fun _ _ σ H Q _ ⟨B0, B1, Hs, ρ, r, re, e, q⟩ => by
  unfold iSeq at e
  cases hg : g ρ with
  | none => rw [hg] at e; cases e
  | some y =>
    rw [hg] at e
    cases y with
    | exc z =>
      cases e
      exact ⟨B0, B1, Hs, ρ, _, re, hg, q⟩
    | ok s =>
      refine ⟨B0, B1, Hs, ρ, .ok s, re, hg, fun v Hs' H' g' rs => ?_⟩
      obtain ⟨Hs2, g2, _, rp⟩ := rs.share g'
      dsimp only at e
      cases hv : s.val with
      | lst ds =>
        rw [hv] at e rp
        cases e
        obtain ⟨a, xs, rfl, rd, rl⟩ := a0L.mp rp
        rw [← hK] at rd
        exact ⟨a, rfl, .inl ⟨⟨xs, Same.seq g2.i rd⟩, q _ Hs2 H' g2 (a7R rd rl)⟩⟩
      | tup ds =>
        rw [hv] at e rp
        cases e
        obtain ⟨a, xs, rfl, sq, rl⟩ := a0K.mp rp
        rw [← hK] at sq
        exact ⟨a, rfl, .inr ⟨⟨xs, a0S g2.i sq⟩, q _ Hs2 H' g2 (walk_tup sq rl)⟩⟩
      | non => rw [hv] at e; cases e
      | bl _ => rw [hv] at e; cases e
      | int _ => rw [hv] at e; cases e
      | str _ => rw [hv] at e; cases e
      | obj _ _ _ => rw [hv] at e; cases e
theorem tD_I {B0 B1 Hs H : Hp} {σ : L2.St} {ρ : MEnv} {g : ME} {k : D → Option RI} {r : RI} {Q : It → Hp → Prop} (re : RE Γ B0 B1 Hs H σ ρ) (e : iArg g ρ k = some r) (q : IQ Γ W Hs H r Q) :
    tD Γ W g σ H (fun v H1 => ∃ Hs1 d, Grow Hs H Hs1 H1 ∧ RE Γ B0 B1 Hs1 H1 σ ρ ∧ Rep Γ Hs1 d v ∧ k d = some r ∧ IQ Γ W Hs1 H1 r Q) := by
  unfold iArg at e
  cases h : g ρ with
  | none => rw [h] at e; cases e
  | some x =>
    rw [h] at e
    refine ⟨B0, B1, Hs, ρ, x, re, h, ?_⟩
    cases x with
    | exc y => cases e; exact q
    | ok s =>
      intro v Hs' H' g' rs
      obtain ⟨Hs'', g2, _, rp⟩ := rs.share g'
      refine ⟨Hs'', s.val, g2, re.grow g2, rp, e, ?_⟩
      cases r with
      | ok ds => exact fun J Hs3 H3 g3 w => q J Hs3 H3 (g2.trans g3) w
      | exc y => exact fun Hs3 H3 g3 => q Hs3 H3 (g2.trans g3)
theorem a3D {i : Int} (h : a3E i = true) : -(2 ^ 62) ≤ i ∧ i < 2 ^ 62 := by
  unfold a3E at h
  simpa using h
theorem a1o {a : Expr} {g : ME} {p p' : Pos} (hg : Gl X "range") (hm : X.mg "range" = none) (h : PD X Γ W a g) (hst : starEach (a :: []) X.env = (false, eval a X.env) :: starEach [] X.env := by rfl) (hs : starEach [a] X.env = [(false, eval a X.env)] := by rfl) :
    PID X Γ W tg (.Call (.Name "range" p) [a] [] p') (a1j g) := PI.imp (pi_range1 hg hm (pa_cons h pa_nil hst) hs) fun _ _ σ H Q _ ⟨B0, B1, Hs, ρ, r, re, e, q⟩ => by
  refine (tD_I re e q).mono fun v H1 ⟨Hs1, d, g1, re1, rp, e1, q1⟩ => ?_
  cases d with
  | int hi =>
    dsimp only at e1
    split at e1
    · rename_i hr
      cases e1
      obtain ⟨h1, h2⟩ := a3D hr
      refine ⟨hi, by rw [a0g.mp rp], h1, h2, q1 _ Hs1 H1 (.refl re1.b.i) ?_⟩
      have w := walk_rng (Γ := Γ) (Hs0 := Hs1) 0 hi
      rw [Int.sub_zero] at w
      exact w
    · cases e1
  | non => cases e1
  | bl _ => cases e1
  | str _ => cases e1
  | tup _ => cases e1
  | lst _ => cases e1
  | obj _ _ _ => cases e1
end
end L3
namespace L3
open PySem PySem.Spec PyProof.Rows L2
section
variable {X : Cx} {Γ : Ct} {W : XW}
theorem retS {Hs H : Hp} {Q : VK} {d : D} (sm : Same Hs H) (q : RQ Γ W Hs H (.ok (.sh d)) Q) {v : V} (rp : Rep Γ Hs d v) : Q v H := q v Hs H (.refl sm) rp
theorem a6a {Hs H : Hp} {Q : VK} {ds : List D} {xs : List V} (sm : Same Hs H) (q : RQ Γ W Hs H (.ok (.sh (.tup ds))) Q) (rl : RepL Γ Hs ds xs) {p : Addr} (hp : H p = none) : Q (.ref p) (upd H p (.tup xs)) :=
  q _ (upd Hs p (.tup xs)) _ (.new sm hp) (RepS.of (a0K.mpr ⟨p, xs, rfl, .of upd_same, rl.mono (a0W (sm.free hp))⟩))
theorem a4b {Hs H : Hp} {Q : VK} {ds : List D} {xs : List V} (sm : Same Hs H) (q : RQ Γ W Hs H (.ok (.own (.lst ds))) Q) (rl : RepL Γ Hs ds xs) {p : Addr} (hp : H p = none) : Q (.ref p) (upd H p (.lst xs)) :=
  q _ Hs _ (.newOwn sm hp) ⟨p, _, rfl, hp, sm.free hp, upd_same, xs, rfl, rl⟩
theorem a4j {n : Nat} (h : n ≤ lim) : n ≤ sizeLine := Nat.le_trans h (by decide)
theorem a02 {α : Type} {c : Prop} [Decidable c] {a r : α} (h : (if c then some a else none) = some r) : c ∧ a = r := by
  by_cases z : c
  · rw [if_pos z] at h; exact ⟨z, Option.some.inj h⟩
  · rw [if_neg z] at h; cases h
theorem a0I (hK : X.K = Γ.K) : OpR X (binaryOp .Add) (rD Γ W dAdd) := fun pins s σ H x y v u Q I rx ry ⟨Hs, d1, d2, r, sm, r1, r2, e, q⟩ => by
  cases d1 with
  | int i =>
    cases d2 with
    | int j => cases e; exact op_add pins s σ H x y v u Q I rx ry ⟨i, j, a0g.mp r1, a0g.mp r2, retS sm q (a0g.mpr rfl)⟩
    | non => cases e
    | bl _ => cases e
    | str _ => cases e
    | tup _ => cases e
    | lst _ => cases e
    | obj _ _ _ => cases e
  | str i =>
    cases d2 with
    | str j =>
      obtain ⟨hl, rfl⟩ := a02 (c := i.length + j.length ≤ lim) e
      exact op_add_str pins s σ H x y v u Q I rx ry ⟨i, j, a0u.mp r1, a0u.mp r2, a4j hl, retS sm q (a0u.mpr rfl)⟩
    | non => cases e
    | bl _ => cases e
    | int _ => cases e
    | tup _ => cases e
    | lst _ => cases e
    | obj _ _ _ => cases e
  | tup ds =>
    cases d2 with
    | tup es =>
      obtain ⟨hl, rfl⟩ := a02 (c := ds.length + es.length ≤ lim) e
      obtain ⟨a, xs, rfl, qa, la⟩ := a0K.mp r1
      obtain ⟨b, ys, rfl, qb, lb⟩ := a0K.mp r2
      have qa' : SqT X.K H a xs := by rw [hK]; exact a0S sm qa
      have qb' : SqT X.K H b ys := by rw [hK]; exact a0S sm qb
      by_cases h0 : xs = []
      · subst h0
        have e0 : ds = [] := List.length_eq_zero_iff.mp la.length
        subst e0
        exact op_catT0 pins s σ H _ _ v u Q I rx ry ⟨a, b, ys, rfl, rfl, qa', qb', retS sm q (a0K.mpr ⟨b, ys, rfl, qb, lb⟩)⟩
      · refine op_catT pins s σ H _ _ v u Q I rx ry ⟨a, b, xs, ys, rfl, rfl, qa', qb', h0, by rw [← la.length, ← lb.length]; exact a4j hl, fun z => ?_, fun z p hp => a6a sm q (la.append lb) hp⟩
        subst z
        have e0 : es = [] := List.length_eq_zero_iff.mp lb.length
        subst e0
        rw [List.append_nil] at q
        exact retS sm q (a0K.mpr ⟨a, xs, rfl, qa, la⟩)
    | non => cases e
    | bl _ => cases e
    | int _ => cases e
    | str _ => cases e
    | lst _ => cases e
    | obj _ _ _ => cases e
  | lst ds =>
    cases d2 with
    | lst es =>
      obtain ⟨hl, rfl⟩ := a02 (c := ds.length + es.length ≤ lim) e
      obtain ⟨a, xs, rfl, qa, la⟩ := a0L.mp r1
      obtain ⟨b, ys, rfl, qb, lb⟩ := a0L.mp r2
      exact op_catR pins s σ H _ _ v u Q I rx ry ⟨a, b, xs, ys, rfl, rfl, by rw [hK]; exact Same.seq sm qa, by rw [hK]; exact Same.seq sm qb, by rw [← la.length, ← lb.length]; exact a4j hl, fun p hp => a4b sm q (la.append lb) hp⟩
    | non => cases e
    | bl _ => cases e
    | int _ => cases e
    | str _ => cases e
    | tup _ => cases e
    | obj _ _ _ => cases e
  | non => cases e
  | bl _ => cases e
  | obj _ _ _ => cases e
theorem a2x {f : Int → Int → Option R} {g : D → D → Option R} (hg : ∀ d1 d2, g d1 d2 = match d1, d2 with | .int i, .int j => f i j | _, _ => none) {d1 d2 : D} {r : R} (e : g d1 d2 = some r) : ∃ i j, d1 = .int i ∧ d2 = .int j ∧ f i j = some r := by
  rw [hg] at e
  cases d1 with
  | int i =>
    cases d2 with
    | int j => exact ⟨i, j, rfl, rfl, e⟩
    | non => cases e
    | bl _ => cases e
    | str _ => cases e
    | tup _ => cases e
    | lst _ => cases e
    | obj _ _ _ => cases e
  | non => cases e
  | bl _ => cases e
  | str _ => cases e
  | tup _ => cases e
  | lst _ => cases e
  | obj _ _ _ => cases e
theorem a42 : OpR X (binaryOp .Sub) (rD Γ W dSub) := fun pins s σ H x y v u Q I rx ry ⟨Hs, d1, d2, r, sm, r1, r2, e, q⟩ => by
  obtain ⟨i, j, rfl, rfl, e⟩ := a2x (f := fun i j => okI (i - j)) (fun _ _ => rfl) e
  cases e
  exact op_sub pins s σ H x y v u Q I rx ry ⟨i, j, a0g.mp r1, a0g.mp r2, retS sm q (a0g.mpr rfl)⟩
theorem a5v {i : Int} (h : a3c i = true) : -(2 ^ 64) < i ∧ i < 2 ^ 64 := by
  unfold a3c at h
  simpa using h
theorem a2N : OpR X (binaryOp .Mod) (rD Γ W dMod) := fun pins s σ H x y v u Q I rx ry ⟨Hs, d1, d2, r, sm, r1, r2, e, q⟩ => by
  obtain ⟨i, j, rfl, rfl, e⟩ := a2x (f := fun i j => if 0 < j then okI (i % j) else none) (fun _ _ => rfl) e
  obtain ⟨h, rfl⟩ := a02 e
  exact op_mod pins s σ H x y v u Q I rx ry ⟨i, j, a0g.mp r1, a0g.mp r2, h, retS sm q (a0g.mpr rfl)⟩
theorem opd_fdiv : OpR X (binaryOp .FloorDiv) (rD Γ W a8O) := fun pins s σ H x y v u Q I rx ry ⟨Hs, d1, d2, r, sm, r1, r2, e, q⟩ => by
  obtain ⟨i, j, rfl, rfl, e⟩ := a2x (f := fun i j => if 0 < j ∧ j < 1073741824 then okI (i / j) else none) (fun _ _ => rfl) e
  obtain ⟨h, rfl⟩ := a02 e
  exact op_fdiv pins s σ H x y v u Q I rx ry ⟨i, j, a0g.mp r1, a0g.mp r2, h, retS sm q (a0g.mpr rfl)⟩
theorem a8h : OpR X (compareOp .Gt) (rD Γ W dGt) := fun pins s σ H x y v u Q I rx ry ⟨Hs, d1, d2, r, sm, r1, r2, e, q⟩ => by
  obtain ⟨i, j, rfl, rfl, e⟩ := a2x (f := fun i j => okB (decide (j < i))) (fun _ _ => rfl) e
  cases e
  exact op_gt pins s σ H x y v u Q I rx ry ⟨i, j, a0g.mp r1, a0g.mp r2, retS sm q (a0P.mpr rfl)⟩
theorem a2v : OpR X (binaryOp .Mult) (rD Γ W dMul) := fun pins s σ H x y v u Q I rx ry ⟨Hs, d1, d2, r, sm, r1, r2, e, q⟩ => by
  cases d1 with
  | int i =>
    cases d2 with
    | int j =>
      obtain ⟨hl, rfl⟩ := a02 (c := (a3c i || a3c j) = true) e
      refine op_mul pins s σ H x y v u Q I rx ry ⟨i, j, a0g.mp r1, a0g.mp r2, ?_, retS sm q (a0g.mpr rfl)⟩
      rcases Bool.or_eq_true_iff.mp hl with h | h
      · exact .inl (a5v h)
      · exact .inr (a5v h)
    | non => cases e
    | bl _ => cases e
    | str _ => cases e
    | tup _ => cases e
    | lst _ => cases e
    | obj _ _ _ => cases e
  | lst _ => cases e
  | non => cases e
  | bl _ => cases e
  | str _ => cases e
  | tup _ => cases e
  | obj _ _ _ => cases e
theorem a65 {d1 d2 : D} {b : Bool} {x y : V} {H : Hp} (e : eqF d1 d2 = some b) (r1 : Rep Γ H d1 x) (r2 : Rep Γ H d2 y) : scal x y = true ∧ decide (x = y) = b := by
  cases d1 with
  | non =>
    rw [a1i.mp r1]
    cases d2 with
    | non => rw [a1i.mp r2]; cases e; exact ⟨rfl, rfl⟩
    | bl _ => rw [a0P.mp r2]; cases e; exact ⟨rfl, rfl⟩
    | int _ => rw [a0g.mp r2]; cases e; exact ⟨rfl, rfl⟩
    | str _ => rw [a0u.mp r2]; cases e; exact ⟨rfl, rfl⟩
    | tup _ => cases e
    | lst _ => cases e
    | obj _ _ _ => cases e
  | bl c =>
    rw [a0P.mp r1]
    cases d2 with
    | non => rw [a1i.mp r2]; cases e; exact ⟨rfl, rfl⟩
    | bl c' => rw [a0P.mp r2]; cases e; exact ⟨rfl, by rw [Bool.eq_iff_iff]; simp⟩
    | int _ => cases e
    | str _ => rw [a0u.mp r2]; cases e; exact ⟨rfl, rfl⟩
    | tup _ => cases e
    | lst _ => cases e
    | obj _ _ _ => cases e
  | int c =>
    rw [a0g.mp r1]
    cases d2 with
    | non => rw [a1i.mp r2]; cases e; exact ⟨rfl, rfl⟩
    | bl _ => cases e
    | int c' => rw [a0g.mp r2]; cases e; exact ⟨rfl, by rw [Bool.eq_iff_iff]; simp⟩
    | str _ => rw [a0u.mp r2]; cases e; exact ⟨rfl, rfl⟩
    | tup _ => cases e
    | lst _ => cases e
    | obj _ _ _ => cases e
  | str c =>
    rw [a0u.mp r1]
    cases d2 with
    | non => rw [a1i.mp r2]; cases e; exact ⟨rfl, rfl⟩
    | bl _ => rw [a0P.mp r2]; cases e; exact ⟨rfl, rfl⟩
    | int _ => rw [a0g.mp r2]; cases e; exact ⟨rfl, rfl⟩
    | str c' => rw [a0u.mp r2]; cases e; exact ⟨rfl, by rw [Bool.eq_iff_iff]; simp⟩
    | tup _ => cases e
    | lst _ => cases e
    | obj _ _ _ => cases e
  | tup _ => cases e
  | lst _ => cases e
  | obj _ _ _ => cases e
theorem a0V : OpR X (compareOp .Eq) (rD Γ W dEq) := fun pins s σ H x y v u Q I rx ry ⟨Hs, d1, d2, r, sm, r1, r2, e, q⟩ => by
  unfold dEq at e
  cases h : eqF d1 d2 with
  | none => rw [h] at e; cases e
  | some b =>
    rw [h] at e
    cases e
    obtain ⟨h1, h2⟩ := a65 h r1 r2
    exact op_eq pins s σ H x y v u Q I rx ry ⟨h1, by rw [h2]; exact retS sm q (a0P.mpr rfl)⟩
theorem a4g : OpR X (compareOp .NotEq) (rD Γ W dNe) := fun pins s σ H x y v u Q I rx ry ⟨Hs, d1, d2, r, sm, r1, r2, e, q⟩ => by
  unfold dNe at e
  cases h : eqF d1 d2 with
  | none => rw [h] at e; cases e
  | some b =>
    rw [h] at e
    cases e
    obtain ⟨h1, h2⟩ := a65 h r1 r2
    exact op_ne pins s σ H x y v u Q I rx ry ⟨h1, by rw [h2]; exact retS sm q (a0P.mpr rfl)⟩
theorem pd_rep {a b : Expr} {ga gb : ME} {pos : Pos} (ha : PD X Γ W a ga) (hb : PD X Γ W b gb) : PD X Γ W (.BinOp a .Mult b pos) (eRep ga gb) := PE.imp (pe_op op_rep ha hb) fun _ _ σ H Q _ ⟨B0, B1, Hs, ρ, r, re, e, q⟩ => by
  unfold eRep at e
  cases h : ga ρ with
  | none => rw [h] at e; cases e
  | some x =>
    rw [h] at e
    refine ⟨B0, B1, Hs, ρ, x, re, h, ?_⟩
    cases x with
    | exc y => cases e; exact q
    | ok s =>
      cases s with
      | sh d => cases e
      | own o =>
        cases o with
        | obj _ _ _ => cases e
        | lst ds =>
          intro v Hs1 H1 g1 rs
          obtain ⟨p, ho, rfl, h0, h1, h2, xs, rfl, rl⟩ := rs
          refine (a01 (k := dRep ds) (re.grow g1) e (q.grow g1)).mono fun u H2 ⟨Hs2, d2, g2, re2, rp2, e2, q2⟩ => ?_
          cases d2 with
          | int k =>
            obtain ⟨hl, rfl⟩ := a02 (c := -(2 ^ 60) ≤ k ∧ k < 2 ^ 60 ∧ ds.length * k.toNat ≤ lim) e2
            exact ⟨p, k, xs, rfl, a0g.mp rp2, g2.h _ _ h2, by omega, by omega, by rw [← rl.length]; exact a4j hl.2.2, fun p hp => a4b re2.b.i q2 ((rl.mono g2.s).rep _) hp⟩
          | non => cases e2
          | bl _ => cases e2
          | str _ => cases e2
          | tup _ => cases e2
          | lst _ => cases e2
          | obj _ _ _ => cases e2
theorem repL_map {α : Type} {H : Hp} {f : α → D} {g : α → V} (l : List α) (h : ∀ k, Rep Γ H (f k) (g k)) : RepL Γ H (l.map f) (l.map g) := by
  induction l with
  | nil => exact .nil
  | cons a l ih => exact .cons (h a) ih
theorem a8Y {H : Hp} {ds : List D} {xs : List V} {i : Int} {d : D} (rl : RepL Γ H ds xs) (e : atD ds i = some d) : ∃ x, atI xs i = some x ∧ Rep Γ H d x := by
  unfold atD at e
  unfold atI
  have hl := rl.length
  have e0 : ixN xs.length i = ixD ds.length i := by rw [hl]; rfl
  rw [e0]
  cases h : ixD ds.length i with
  | none => rw [h] at e; cases e
  | some j =>
    rw [h] at e
    exact rl.get e
theorem ixd (hK : X.K = Γ.K) : IxR X (rD Γ W dIx) := fun value slice pins s σ H x y v u Q I rx ry ⟨Hs, d1, d2, r, sm, r1, r2, e, q⟩ hs => by
  cases d2 with
  | int i =>
    have ey := a0g.mp r2
    cases d1 with
    | tup ds =>
      have e : (atD ds i).bind okD = some r := e
      cases h : atD ds i with
      | none => rw [h] at e; cases e
      | some d =>
        rw [h] at e
        cases e
        obtain ⟨a, xs, rfl, qa, la⟩ := a0K.mp r1
        obtain ⟨z, ez, rz⟩ := a8Y la h
        exact ix_tup value slice pins s σ H _ _ v u Q I rx ry ⟨a, xs, i, z, rfl, ey, by rw [hK]; exact a0S sm qa, ez, retS sm q rz⟩ hs
    | lst ds =>
      have e : (atD ds i).bind okD = some r := e
      cases h : atD ds i with
      | none => rw [h] at e; cases e
      | some d =>
        rw [h] at e
        cases e
        obtain ⟨a, xs, rfl, qa, la⟩ := a0L.mp r1
        obtain ⟨z, ez, rz⟩ := a8Y la h
        exact ix_list value slice pins s σ H _ _ v u Q I rx ry ⟨a, xs, i, z, rfl, ey, by rw [hK]; exact Same.seq sm qa, ez, retS sm q rz⟩ hs
    | str z =>
      have e' : (if z.length ≤ lim then (atD z.cps.toList i).bind (fun c => okD (.str ⟨#[c]⟩)) else none) = some r := e
      by_cases hl : z.length ≤ lim
      · rw [if_pos hl] at e'
        cases h : atD z.cps.toList i with
        | none => rw [h] at e'; cases e'
        | some c =>
          rw [h] at e'
          cases e'
          exact ix_str value slice pins s σ H _ _ v u Q I rx ry ⟨z, i, c, a0u.mp r1, ey, a4j hl, h, retS sm q (a0u.mpr rfl)⟩ hs
      · rw [if_neg hl] at e'; cases e'
    | non => cases e
    | bl _ => cases e
    | int _ => cases e
    | obj _ _ _ => cases e
  | non => cases d1 <;> cases e
  | bl _ => cases d1 <;> cases e
  | str _ => cases d1 <;> cases e
  | tup _ => cases d1 <;> cases e
  | lst _ => cases d1 <;> cases e
  | obj _ _ _ => cases d1 <;> cases e
theorem a4l {F : D → Option R} {ds : List D} {r : R} (h : f1 F ds = some r) : ∃ d, ds = [d] ∧ F d = some r := by
  match ds, h with
  | [d], h => exact ⟨d, rfl, h⟩
theorem f2_some {F : D → D → Option R} {ds : List D} {r : R} (h : f2 F ds = some r) : ∃ d e, ds = [d, e] ∧ F d e = some r := by
  match ds, h with
  | [d, e], h => exact ⟨d, e, rfl, h⟩
theorem a7l {H : Hp} {d : D} {xs : List V} (h : RepL Γ H [d] xs) : ∃ x, xs = [x] ∧ Rep Γ H d x := by
  obtain ⟨x, r, e, q, t⟩ := a0m.mp h
  rw [a1a.mp t] at e
  exact ⟨x, e, q⟩
theorem a03 (hK : X.K = Γ.K) : CallR X (.builtin "len") (spR Γ W (f1 dLen)) := fun pins s σ H xs us Q I rs ⟨Hs, ds, r, sm, rl, e, q⟩ => by
  obtain ⟨d, rfl, e⟩ := a4l e
  obtain ⟨x, rfl, rp⟩ := a7l rl
  cases d with
  | tup ds =>
    cases e
    obtain ⟨a, ys, rfl, qa, la⟩ := a0K.mp rp
    exact call_len_seq pins s σ H _ us Q I rs ⟨a, ys, rfl, .inr (by rw [hK]; exact a0S sm qa), by rw [← la.length]; exact retS sm q (a0g.mpr rfl)⟩
  | lst ds =>
    cases e
    obtain ⟨a, ys, rfl, qa, la⟩ := a0L.mp rp
    exact call_len_seq pins s σ H _ us Q I rs ⟨a, ys, rfl, .inl (by rw [hK]; exact Same.seq sm qa), by rw [← la.length]; exact retS sm q (a0g.mpr rfl)⟩
  | str z =>
    obtain ⟨hl, rfl⟩ := a02 (c := z.length ≤ lim) e
    rw [a0u.mp rp] at rs
    exact call_len_str pins s σ H _ us Q I rs ⟨z, rfl, a4j hl, retS sm q (a0g.mpr rfl)⟩
  | non => cases e
  | bl _ => cases e
  | int _ => cases e
  | obj _ _ _ => cases e
theorem cd_sum (hK : X.K = Γ.K) (hc : X.calm = true) : CallR X (.builtin "sum") (spR Γ W (f1 dSum)) := fun pins s σ H xs us Q I rs ⟨Hs, ds, r, sm, rl, e, q⟩ => by
  obtain ⟨d, rfl, e⟩ := a4l e
  obtain ⟨x, rfl, rp⟩ := a7l rl
  cases d with
  | lst ds =>
    have e : (intsOf ds).bind (fun ns => okI ns.sum) = some r := e
    cases h : intsOf ds with
    | none => rw [h] at e; cases e
    | some ns =>
      rw [h] at e
      cases e
      obtain ⟨a, ys, rfl, qa, la⟩ := a0L.mp rp
      have ey := la.intsOf h
      subst ey
      exact a8S hc pins s σ H _ us Q I rs ⟨a, ns, rfl, by rw [hK]; exact Same.seq sm qa, retS sm q (a0g.mpr rfl)⟩
  | tup _ => cases e
  | str _ => cases e
  | non => cases e
  | bl _ => cases e
  | int _ => cases e
  | obj _ _ _ => cases e
theorem cd_any (hK : X.K = Γ.K) (hc : X.calm = true) : CallR X (.builtin "any") (spR Γ W (f1 dAny)) := fun pins s σ H xs us Q I rs ⟨Hs, ds, r, sm, rl, e, q⟩ => by
  obtain ⟨d, rfl, e⟩ := a4l e
  obtain ⟨x, rfl, rp⟩ := a7l rl
  cases d with
  | lst ds =>
    have e : (blsOf ds).bind (fun bs => okB (bs.any id)) = some r := e
    cases h : blsOf ds with
    | none => rw [h] at e; cases e
    | some ns =>
      rw [h] at e
      cases e
      obtain ⟨a, ys, rfl, qa, la⟩ := a0L.mp rp
      have ey := la.blsOf h
      subst ey
      exact a8V hc pins s σ H _ us Q I rs ⟨a, ns, rfl, by rw [hK]; exact Same.seq sm qa, retS sm q (a0P.mpr rfl)⟩
  | tup _ => cases e
  | str _ => cases e
  | non => cases e
  | bl _ => cases e
  | int _ => cases e
  | obj _ _ _ => cases e
theorem a3M (hK : X.K = Γ.K) : CallR X (.type "tuple") (spR Γ W (f1 a30)) := fun pins s σ H xs us Q I rs ⟨Hs, ds, r, sm, rl, e, q⟩ => by
  obtain ⟨d, rfl, e⟩ := a4l e
  obtain ⟨x, rfl, rp⟩ := a7l rl
  cases d with
  | tup ds =>
    cases e
    obtain ⟨a, ys, rfl, qa, la⟩ := a0K.mp rp
    exact call_tuple_of pins s σ H _ us Q I rs ⟨a, ys, rfl, .inr ⟨by rw [hK]; exact a0S sm qa, retS sm q rp⟩⟩
  | lst ds =>
    cases e
    obtain ⟨a, ys, rfl, qa, la⟩ := a0L.mp rp
    exact call_tuple_of pins s σ H _ us Q I rs ⟨a, ys, rfl, .inl ⟨by rw [hK]; exact Same.seq sm qa, fun p hp => a6a sm q la hp⟩⟩
  | str _ => cases e
  | non => cases e
  | bl _ => cases e
  | int _ => cases e
  | obj _ _ _ => cases e
theorem a8R (hK : X.K = Γ.K) : CallR X (.type "list") (spR Γ W (f1 dList)) := fun pins s σ H xs us Q I rs ⟨Hs, ds, r, sm, rl, e, q⟩ => by
  obtain ⟨d, rfl, e⟩ := a4l e
  obtain ⟨x, rfl, rp⟩ := a7l rl
  cases d with
  | tup ds =>
    cases e
    obtain ⟨a, ys, rfl, qa, la⟩ := a0K.mp rp
    exact call_list_of pins s σ H _ us Q I rs ⟨a, ys, rfl, .inr (by rw [hK]; exact a0S sm qa), fun p hp => a4b sm q la hp⟩
  | lst ds =>
    cases e
    obtain ⟨a, ys, rfl, qa, la⟩ := a0L.mp rp
    exact call_list_of pins s σ H _ us Q I rs ⟨a, ys, rfl, .inl (by rw [hK]; exact Same.seq sm qa), fun p hp => a4b sm q la hp⟩
  | str _ => cases e
  | non => cases e
  | bl _ => cases e
  | int _ => cases e
  | obj _ _ _ => cases e
def a4t (K : PySem.W.Frag) (T : String) : Prop := ∀ t ∈ ["NoneType", "bool", "int", "str", "tuple", "list"], PySem.W.kitOne K (.type t) (.type T) = some (t == T || (t == "bool" && T == "int"))
theorem tD_isT {T : String} {g : ME} (hK : X.K = Γ.K) (h : a4t X.K T) {σ : L2.St} {H : Hp} {Q : VK} (t : tD Γ W (eUn (dIsT T) g) σ H Q) :
    tD Γ W g σ H fun x H1 => ∃ y t U b, [x, V.ty T] = [y, V.ty U] ∧ (TyOf X.K H1 y (.type t) ∨ (t = "tuple" ∧ ∃ a xs, y = .ref a ∧ SqT X.K H1 a xs) ∨ (t = "list" ∧ ∃ a xs, y = .ref a ∧ SqL X.K H1 a xs)) ∧ PySem.W.kitOne X.K (.type t) (.type U) = some b ∧ Q (.bl b) H1 := by
  obtain ⟨B0, B1, Hs, ρ, r, re, e, q⟩ := t
  refine (a01 re e q).mono fun v H1 ⟨Hs1, d, g1, re1, rp, e1, q1⟩ => ?_
  have fin : ∀ t : String, dIsT T d = okB (t == T || (t == "bool" && T == "int")) → Q (.bl (t == T || (t == "bool" && T == "int"))) H1 := fun t z => by
    rw [z] at e1
    cases e1
    exact q1 _ Hs1 H1 (.refl re1.b.i) (RepS.of (a0P.mpr rfl))
  cases d with
  | non => rw [a1i.mp rp]; exact ⟨_, "NoneType", T, _, rfl, .inl .non, h _ (by simp), fin _ rfl⟩
  | bl _ => rw [a0P.mp rp]; exact ⟨_, "bool", T, _, rfl, .inl (.bl _), h _ (by simp), fin _ rfl⟩
  | int _ => rw [a0g.mp rp]; exact ⟨_, "int", T, _, rfl, .inl (.int _), h _ (by simp), fin _ rfl⟩
  | str _ => rw [a0u.mp rp]; exact ⟨_, "str", T, _, rfl, .inl (.str _), h _ (by simp), fin _ rfl⟩
  | tup _ => obtain ⟨a, xs, rfl, qa, _⟩ := a0K.mp rp; exact ⟨_, "tuple", T, _, rfl, .inr (.inl ⟨rfl, a, xs, rfl, by rw [hK]; exact a0S re1.b.i qa⟩), h _ (by simp), fin _ rfl⟩
  | lst _ =>
    obtain ⟨a, xs, rfl, qa, _⟩ := a0L.mp rp
    exact ⟨_, "list", T, _, rfl, .inr (.inr ⟨rfl, a, xs, rfl, by rw [hK]; exact Same.seq re1.b.i qa⟩), h _ (by simp), fin _ rfl⟩
  | obj _ _ _ => cases e1
theorem a6V {a : Expr} {g : ME} {T : String} {tn : Str} {p p' pos : Pos} (hK : X.K = Γ.K) (hk : a4t X.K T) (hg : Gl X "isinstance") (hm : X.mg "isinstance" = none) (hg2 : Gl X tn) (hm2 : X.mg tn = none) (hb : bootBuiltins tn = some (.type T)) (h : PD X Γ W a g)
    (hn : tn ≠ "__name__" := by decide) (hdb : (tn == ("__debug__" : Str)) = false := by decide) (hs1 : starEach [a, .Name tn p'] X.env = (false, eval a X.env) :: starEach [.Name tn p'] X.env := by rfl) (hs2 : starEach [.Name tn p'] X.env = (false, eval (.Name tn p') X.env) :: starEach [] X.env := by rfl)
    (hpl : (backTo pos (starEach [.Name tn p'] X.env)).any (·.1) = false := by rfl) : PD X Γ W (.Call (.Name "isinstance" p) [a, .Name tn p'] [] pos) (eUn (dIsT T) g) :=
  PE.imp (pe_callB a6D hg hm boot_isinstance (pa_cons h (pa_cons (pe_bltn (v := .ty T) hg2 hm2 hb rfl hn hdb) pa_nil hs2) hs1) (by decide) (by decide) hs1 hpl) fun _ _ _ _ _ _ t => tD_isT hK hk t
theorem a5G {a b : Expr} {ga gb : ME} {p p' pos' pos : Pos} (hc : X.calm = true) (hg : Gl X "list") (hm : X.mg "list" = none) (hg2 : Gl X "range") (hm2 : X.mg "range" = none) (ha : PD X Γ W a ga) (hb : PD X Γ W b gb)
    (hs1 : starEach [a, b] X.env = (false, eval a X.env) :: starEach [b] X.env := by rfl) (hs2 : starEach [b] X.env = (false, eval b X.env) :: starEach [] X.env := by rfl) (hpl : (backTo pos' (starEach [b] X.env)).any (·.1) = false := by rfl)
    (hs3 : starEach [.Call (.Name "range" p') [a, b] [] pos'] X.env = (false, eval (.Call (.Name "range" p') [a, b] [] pos') X.env) :: starEach [] X.env := by rfl) (hpl2 : (backTo pos (starEach [] X.env)).any (·.1) = false := by rfl) :
    PD X Γ W (.Call (.Name "list" p) [.Call (.Name "range" p') [a, b] [] pos'] [] pos) (eBin a3I ga gb) :=
  PE.imp (pe_callTy (a53 hc) hg hm boot_list (pa_cons (pe_callTy a6C hg2 hm2 boot_range (pa_cons ha (pa_cons hb pa_nil hs2) hs1) (by decide) (by decide) hs1 hpl) pa_nil hs3) (by decide) (by decide) hs3 hpl2) fun _ _ σ H Q _ ⟨B0, B1, Hs, ρ, r, re, e, q⟩ => by
    refine (a01 re e q).mono fun v H1 ⟨Hs1, d, g1, re1, rp, e1, q1⟩ => ?_
    refine (a01 re1 e1 q1).mono fun u H2 ⟨Hs2, d2, g2, re2, rp2, e2, q2⟩ => ?_
    obtain ⟨lo, hi, rfl, rfl, e2⟩ := a2x (f := fun lo hi => if a3E lo = true ∧ a3E hi = true ∧ (hi - lo).toNat ≤ lim then okL (rng lo hi) else none) (fun _ _ => rfl) e2
    obtain ⟨⟨h1, h2, h3⟩, rfl⟩ := a02 e2
    refine ⟨lo, hi, by rw [a0g.mp rp, a0g.mp rp2], fun p hp => ?_⟩
    have sm := re2.b.i
    refine ⟨p, lo, hi, rfl, upd_same, ⟨(a3D h1).1, (a3D h1).2, (a3D h2).1, (a3D h2).2⟩, a4j h3, fun l hl => ?_⟩
    have hp2 := sm.free hp
    have g3 : Grow Hs2 H2 Hs2 (upd (upd H2 p (.rng lo hi)) l (.lst ((List.range (hi - lo).toNat).map fun k : Nat => V.int (lo + k)))) := .only sm ((a0W hp).trans (a0W hl))
    have hl2 : H2 l = none := (a0W hp).free hl
    refine q2 _ Hs2 _ g3 ⟨l, _, rfl, hl2, sm.free hl2, upd_same, _, rfl, ?_⟩
    unfold rng
    exact repL_map _ fun k => a0g.mpr rfl
end
end L3
namespace L3
open PySem PySem.Spec PyProof.Rows L2
section
variable {X : Cx} {Γ : Ct} {W : XW} {i : Nat} {x : Str} {e ex : Expr} {ge gx : ME} {px apos cpos pos : Pos}
theorem a5I {i : Nat} {ρ : MEnv} {k : List D → Option Out} {o : Out} (h : ownL i ρ k = some o) : ∃ ds, ρ[i]? = some (some (.own (.lst ds))) ∧ k ds = some o := by
  unfold ownL at h
  split at h
  · rename_i ds hd; exact ⟨ds, hd, h⟩
  · cases h
theorem a3S (hv : PE X (.Name x px) (tVar i)) (he : PD X Γ W e ge) (hs : starEach [e] X.env = (false, eval e X.env) :: starEach [] X.env := by rfl)
    (hbase : attributeBase (.Name x px) "append" X.env (eval (.Name x px) X.env) = eval (.Name x px) X.env := by rfl)
    (hfew : ((backTo cpos (starEach [e] X.env)).all (fun x => !x.1) && (backToKw cpos (keywordEach [] X.env)).all (fun x => x.1.isSome) && decide ([e].length + ([] : List Keyword).length + (if ([] : List Keyword).isEmpty then 0 else 1) < 30)) = true := by rfl)
    (hline : (apos.endLine == cpos.line) = true := by rfl) (hplain : (backTo cpos (starEach [] X.env)).any (·.1) = false := by rfl) (hsw : swapsWith (.Call (.Attribute (.Name x px) "append" apos) [e] [] cpos) none pos.line X.env = pure false := by rfl) :
    PSD X Γ W (.Expr (.Call (.Attribute (.Name x px) "append" apos) [e] [] cpos) pos) (a2g i ge) :=
  PS.imp (ps_expr (pe_bm PySem.F.plainAttrs_list PySem.F.slot_list_append PySem.F.type_list_append mt_append hv (pa_cons he pa_nil hs) hbase hfew hline hs hplain) hsw) fun pins s σ H En I ⟨B0, B1, Hs, ρ, o, re, eo, q⟩ => by
    obtain ⟨ds, hd, eo⟩ := a5I eo
    obtain ⟨a, ho, e1, e2, e3, e4, xs, rfl, rl⟩ := re.own i _ hd
    refine ⟨.ref a, e1, .inl ⟨rfl, xs, .of e4⟩, (tD_O re eo q).mono fun y H1 ⟨Hs1, s, g1, rs, e5⟩ => ?_⟩
    obtain ⟨hl, rfl⟩ := a02 e5
    obtain ⟨Hs2, g2, _, rp⟩ := rs.share g1
    refine ⟨a, xs, y, rfl, rfl, g2.h _ _ e4, by rw [← rl.length]; exact Nat.lt_of_lt_of_le hl (by decide), q σ Hs2 _ g2.s ((re.grow g2).write hd e1 ⟨_, rfl, (rl.mono g2.s).append (.cons rp .nil)⟩)⟩
end
def W0 : XW := fun _ _ _ => False
theorem a6P {Γ : Ct} {Hs H : Hp} (sm : Same Hs H) {N : List Str} {ds : List D} {vs : List V} (rl : RepL Γ Hs ds vs) : RE Γ Hs H Hs H (L2.start N vs) (a14 N.length ds) := by
  have hl := rl.length
  have at' : ∀ (i : Nat) (s : S), (a14 N.length ds)[i]? = some (some s) → ∃ d, s = .sh d ∧ ds[i]? = some d := fun i s e => by
    unfold a14 at e
    by_cases hi : i < ds.length
    · rw [List.getElem?_append_left (by simpa using hi), List.getElem?_map, List.getElem?_eq_getElem hi] at e
      cases e
      exact ⟨ds[i], rfl, List.getElem?_eq_getElem hi⟩
    · rw [List.getElem?_append_right (by simpa using hi), List.getElem?_replicate] at e
      split at e <;> cases e
  refine ⟨.refl sm, fun i d e => ?_, fun i o e => ?_, fun i j o u a _ e => ?_, ?_⟩
  · obtain ⟨d', e1, e2⟩ := at' i _ e
    cases e1
    obtain ⟨v, e3, q⟩ := rl.get e2
    refine ⟨v, ?_, q⟩
    have hi : i < vs.length := (List.getElem?_eq_some_iff.mp e3).1
    unfold L2.start
    rw [List.getElem?_append_left (by simpa using hi), List.getElem?_map, e3]
    rfl
  · obtain ⟨_, e1, _⟩ := at' i _ e; cases e1
  · obtain ⟨_, e1, _⟩ := at' i _ e; cases e1
  · unfold a14 L2.start
    rw [List.length_append, List.length_append, List.length_map, List.length_map, List.length_replicate, List.length_replicate, hl]
section
variable {P : Program} {w : World} {K : PySem.W.Frag} {mg : Str → Option Value} {base : Heap} {Γ : Ct}
theorem a63 {np n : Nat} {g : MC} {ds : List D} {r : R} (h : fnD np n g ds = some r) : ds.length = np ∧ outR (g (a14 n ds)) = some r := by
  unfold fnD at h
  by_cases z : ds.length = np
  · rw [if_pos z] at h; exact ⟨z, h⟩
  · rw [if_neg z] at h; cases h
theorem fn_D {x qual : Str} {st : Stmt} {f : Addr} {fd : FuncData} {N ps : List Str} {k : Nat} {g : MC} (F : Fun K x qual st f fd) (S : FnScope N ps (defScope st))
    (body : ∀ (cdv : Value) (A : Around) (outer : List PySem.Env) (s : Shared) (H : Hp) (E : XK), Room k (A.deeper (envOfC qual (defScope st) s.heap.objs.size f cdv)) → PSsD (cxOf CX0 P w K mg base N qual (defScope st) f cdv A outer s H E).nox Γ W0 (defBody st) g) :
    FnOk P w K mg base CX0 (k + 1) f fd ps (spD Γ W0 (fnD ps.length N.length g)) := by
  refine F.ok S (fun vs H Q E ⟨Hs, ds, r, sm, rl, e, q⟩ => ?_) (fun cdv A outer s H vs Q E hr ⟨Hs, ds, r, sm, rl, e, q⟩ => ?_)
  · rw [← rl.length]; exact (a63 e).1
  · obtain ⟨_, e⟩ := a63 e
    refine ⟨tS Γ W0 g, body cdv A outer s H E hr, ?_⟩
    cases h : g (a14 N.length ds) with
    | none => rw [h] at e; cases e
    | some o =>
      rw [h] at e
      refine ⟨Hs, H, Hs, a14 N.length ds, o, a6P sm rl, h, ?_⟩
      cases o with
      | next ρ' => cases e; exact fun σ' Hs' H' _ re => q .non Hs' H' re.b (RepS.of (a1i.mpr rfl))
      | brk ρ' => cases e
      | cont ρ' => cases e
      | ret s => cases e; exact fun v Hs' H' _ g' rs => q v Hs' H' g' rs
      | exc x => cases e; exact fun Hs' H' _ g' => q Hs' H' g'
theorem FnOk.le {f : Addr} {fd : FuncData} {ps : List Str} {k : Nat} {F G : List D → Option R} (h : FnOk P w K mg base CX0 k f fd ps (spD Γ W0 F)) (l : ∀ ds r, G ds = some r → F ds = some r) : FnOk P w K mg base CX0 k f fd ps (spD Γ W0 G) :=
  h.imp fun vs H Q E ⟨Hs, ds, r, sm, rl, e, q⟩ => ⟨Hs, ds, r, sm, rl, l _ _ e, q⟩
end
theorem a6X (K : PySem.W.Frag) : a4t K "tuple" ∧ a4t K "list" ∧ a4t K "bool" ∧ a4t K "int" ∧ a4t K "str" := by
  refine ⟨?_, ?_, ?_, ?_, ?_⟩ <;>
  · intro t ht
    have : t = "NoneType" ∨ t = "bool" ∨ t = "int" ∨ t = "str" ∨ t = "tuple" ∨ t = "list" := by simpa using ht
    rcases this with rfl | rfl | rfl | rfl | rfl | rfl <;> rfl
end L3
namespace L3
open PySem PySem.Spec PyProof.Rows L2
def FnN (P : Program) (w : World) (K : PySem.W.Frag) (mg : Str → Option Value) (base : Heap) (Γ : Ct) (k : Nat) (x : Str) (ps : List Str) (F : List D → Option R) : Prop :=
  ∃ f fd, FnOk P w K mg base CX0 k f fd ps (spD Γ W0 F) ∧ mg x = some (.ref f) ∧ PySem.W.keepIn K (.ref f) = true ∧ Binds K fd ps []
section
variable {X : Cx} {Γ : Ct} {k : Nat} {ps : List Str} {x : Str} {p pos : Pos} {e : Expr} {es : List Expr} {gs : List ME} {F : List D → Option R}
theorem a1B (h : FnN X.prog X.w X.K X.mg X.base Γ k x ps F) (hr : Room k X.A) (hg : Gl X x) (ha : PAD X Γ W0 (e :: es) gs) (hdb : (x == ("__debug__" : Str)) = false := by decide) (he : starEach (e :: es) X.env = (false, eval e X.env) :: starEach es X.env := by rfl) (hpl : (backTo pos (starEach es X.env)).any (·.1) = false := by rfl) :
    PD X Γ W0 (.Call (.Name x p) (e :: es) [] pos) (a0o F gs) := by
  obtain ⟨f, fd, G, hm, hk, hb⟩ := h
  exact pd_call G hr hg hm hk hb ha hdb he hpl
theorem pd_fnB (h : FnN X.prog X.w X.K X.mg X.base Γ k x ps F) (hr : Room k X.A) (hg : Gl X x) (ha : PAL X Γ W0 (e :: es) gs) (hdb : (x == ("__debug__" : Str)) = false := by decide) (he : starEach (e :: es) X.env = (false, eval e X.env) :: starEach es X.env := by rfl) (hpl : (backTo pos (starEach es X.env)).any (·.1) = false := by rfl) :
    PD X Γ W0 (.Call (.Name x p) (e :: es) [] pos) (a0p F gs) := by
  obtain ⟨f, fd, G, hm, hk, hb⟩ := h
  exact pd_callB G hr hg hm hk hb ha hdb he hpl
end
structure Laid (K : PySem.W.Frag) (mg : Str → Option Value) (x : Str) (st : Stmt) (ps : List Str) : Prop where
  ex : ∃ f fd, Fun K x x st f fd ∧ mg x = some (.ref f) ∧ Binds K fd ps []
section
variable {P : Program} {w : World} {K : PySem.W.Frag} {mg : Str → Option Value} {base : Heap} {Γ : Ct}
theorem a1T {x : Str} {st : Stmt} {N ps : List Str} {k : Nat} {g : MC} (L : Laid K mg x st ps) (S : FnScope N ps (defScope st))
    (body : ∀ (f : Addr) (cdv : Value) (A : Around) (outer : List PySem.Env) (s : Shared) (H : Hp) (E : XK), Room k (A.deeper (envOfC x (defScope st) s.heap.objs.size f cdv)) → PSsD (cxOf CX0 P w K mg base N x (defScope st) f cdv A outer s H E).nox Γ W0 (defBody st) g) :
    FnN P w K mg base Γ (k + 1) x ps (fnD ps.length N.length g) := by
  obtain ⟨f, fd, F, hm, hb⟩ := L.ex
  exact ⟨f, fd, fn_D F S (body f), hm, F.kp, hb⟩
theorem FnN.mono {j k : Nat} {x : Str} {ps : List Str} {F : List D → Option R} (h : FnN P w K mg base Γ j x ps F) (l : j ≤ k) : FnN P w K mg base Γ k x ps F := by
  obtain ⟨f, fd, G, r⟩ := h
  exact ⟨f, fd, G.mono l, r⟩
theorem FnN.le {k : Nat} {x : Str} {ps : List Str} {F G : List D → Option R} (h : FnN P w K mg base Γ k x ps F) (l : ∀ ds r, G ds = some r → F ds = some r) : FnN P w K mg base Γ k x ps G := by
  obtain ⟨f, fd, o, r⟩ := h
  exact ⟨f, fd, FnOk.le o l, r⟩
theorem a1K {h : Heap} (X : K.In h) (G : h.Ns mainGlobals mg) {x : Str} {st : Stmt} {ps : List Str} {f : Addr} {oc : Value} {od an : Option Addr} {osl : Array (Option Value)} {kV doc pm cdv ct : Value} (a : PySem.W.nsIn K mainGlobals x = some (some (.ref f)))
    (l : K.lookup f = some ⟨oc, od, .func (PySem.W.fnOf x x (defArgs st) (defBody st) (defScope st) .none kV doc pm an cdv ct), osl⟩) (c : PySem.W.codeIn K cdv x = true) (k : PySem.W.keepIn K (.ref f) = true)
    (hb : ∀ (kV doc pm : Value) (an : Option Addr) (cdv ct : Value) (us : List Value), us.length = ps.length → bindArgs (PySem.W.fnOf x x (defArgs st) (defBody st) (defScope st) .none kV doc pm an cdv ct) ⟨us, []⟩ = pure (ps.zip us)) : Laid K mg x st ps :=
  ⟨f, _, fun_mk l c k, PySem.W.mg_of X G a, (fun_mk l c k).binds hb⟩
end
theorem a8z (K : PySem.W.Frag) : a4t K "tuple" := (a6X K).1
theorem kit_list (K : PySem.W.Frag) : a4t K "list" := (a6X K).2.1
theorem kit_bool (K : PySem.W.Frag) : a4t K "bool" := (a6X K).2.2.1
theorem kit_int (K : PySem.W.Frag) : a4t K "int" := (a6X K).2.2.2.1
theorem a27 : bootBuiltins "tuple" = some (.type "tuple") := by decide +kernel
theorem a6F : bootBuiltins "list" = some (.type "list") := by decide +kernel
theorem bt_bool : bootBuiltins "bool" = some (.type "bool") := by decide +kernel
theorem bt_int : bootBuiltins "int" = some (.type "int") := by decide +kernel
theorem bt_sum : bootBuiltins "sum" = some (.builtin "sum") := by decide +kernel
theorem bt_any : bootBuiltins "any" = some (.builtin "any") := by decide +kernel
def spLaw (K : PySem.W.Frag) : Sp := fun vs H Q _ => ∃ (a : Addr) (ns : List Int), vs = [.ref a] ∧ SqL K H a (ns.map V.int) ∧ ns.length ≤ 63 ∧ ∀ H', Q (.bl true) H'
theorem law_sp {P : Program} {w : World} {K : PySem.W.Frag} {mg : Str → Option Value} {base : Heap} {cls : String → Addr} {k : Nat} {f : Addr} {fd : FuncData} {x : Str} {F : List D → Option R} (h : FnOk P w K mg base CX0 k f fd [x] (spD ⟨K, cls⟩ W0 F))
    (T : ∀ ns : List Int, ns.length ≤ 63 → F [.lst (ns.map D.int)] = some (.ok (.sh (.bl true)))) : FnOk P w K mg base CX0 k f fd [x] (spLaw K) :=
  h.imp fun vs H Q E ⟨a, ns, ev, hS, hl, q⟩ => by
    subst ev
    refine ⟨H, [.lst (ns.map D.int)], _, .refl _, .cons (a0L.mpr ⟨a, _, rfl, hS, RepL.ints ns⟩) .nil, T ns hl, fun v Hs' H' g rs => ?_⟩
    have rs' : Rep ⟨K, cls⟩ Hs' (.bl true) v := rs
    rw [a0P.mp rs']
    exact q H'
theorem law_walk {l : PySem.W.OpenLaw} {q : Program} {loose : List Str} {XP : (Str → Option Value) → Heap → Prop} {YP : World → Heap → Prop} {d : DefRec} {K : Params → PySem.W.Frag} {k : Nat} {x : Str} (hk : k ≤ 60) (hn : l.most = some 63) (hdf : d.params.defaults = [])
    (hY : ∀ (w : World) (h : Heap), YP w h → (K w.params).In h)
    (F : ∀ (w : World) (mg : Str → Option Value) (fa : Addr) (h : Heap), (K w.params).In h → h.Ns mainGlobals mg → mg d.name = some (.ref fa) →
      ∃ fd : FuncData, (∀ (s : Shared) (u : Value), BindsTo s fd ⟨[u], []⟩ [(x, u)]) ∧ ∀ base : Heap, FnOk l.prog w (K w.params) mg base CX0 k fa fd [x] (spLaw (K w.params))) :
    PySem.W.WalkO q loose XP YP l.row.toRowW d [] (fun f vs => PySem.call f vs) :=
  L2.walk_of (n := 63) (k := k) (x := x) (CX := fun _ => CX0) (sp := fun w => spLaw (K w.params)) hn (by decide) hdf (Room.mono (k := 60) ⟨rfl, by decide, by decide⟩ hk) hY (fun w mg fa h KX G hm => by
    obtain ⟨fd, hb, ok⟩ := F w mg fa h KX G hm
    exact ⟨fd, hb, fun base _ _ => ok base⟩) (fun _ _ a ns hl _ hS => ⟨a, ns, rfl, hS, hl, fun _ => rfl⟩) fun _ _ _ _ _ z => z
end L3
namespace L3
open PySem PySem.Spec PyProof.Rows L2
section
variable {X : Cx} {Γ : Ct} {W : XW}
theorem a8g : OpR X (binaryOp .Pow) (rD Γ W dPow) := fun pins s σ H x y v u Q I rx ry ⟨Hs, d1, d2, r, sm, r1, r2, e, q⟩ => by
  obtain ⟨i, j, rfl, rfl, e⟩ := a2x (f := fun i j => if 0 ≤ j ∧ j ≤ 1000000 ∧ i.natAbs < 2 ^ 64 then okI (i ^ j.toNat) else none) (fun _ _ => rfl) e
  obtain ⟨h, rfl⟩ := a02 e
  exact op_pow pins s σ H x y v u Q I rx ry ⟨i, j, a0g.mp r1, a0g.mp r2, h, retS sm q (a0g.mpr rfl)⟩
section
variable {a b c : Expr} {ga gb gc : ME} {pos : Pos}
theorem pd_un {op : UnaryOp} {f : D → Option R} {rr : V → Hp → VK → Prop} (ho : UnR X (unaryOp op) rr) (hf : ∀ d v Hs H r Q, Same Hs H → Rep Γ Hs d v → f d = some r → RQ Γ W Hs H r Q → rr v H Q) (ha : PD X Γ W a ga) : PD X Γ W (.UnaryOp op a pos) (eUn f ga) :=
  PE.imp (pe_un ho ha) fun _ _ σ H Q _ t => by
    obtain ⟨B0, B1, Hs, ρ, r, re, e, q⟩ := t
    exact (a01 re e q).mono fun v H1 ⟨Hs1, d, g1, re1, rp, e1, q1⟩ => hf d v Hs1 H1 r Q re1.b.i rp e1 q1
theorem pd_usub (ha : PD X Γ W a ga) : PD X Γ W (.UnaryOp .USub a pos) (eUn dNeg ga) := pd_un un_neg (fun d v Hs H r Q sm rp e q => by
  cases d with
  | int i => cases e; exact ⟨i, a0g.mp rp, retS sm q (a0g.mpr rfl)⟩
  | non => cases e
  | bl _ => cases e
  | str _ => cases e
  | tup _ => cases e
  | lst _ => cases e
  | obj _ _ _ => cases e) ha
end
theorem repL2 {H : Hp} {d e : D} {xs : List V} (h : RepL Γ H [d, e] xs) : ∃ x y, xs = [x, y] ∧ Rep Γ H d x ∧ Rep Γ H e y := by
  obtain ⟨x, r, e1, q, t⟩ := a0m.mp h
  obtain ⟨y, rfl, q2⟩ := a7l t
  exact ⟨x, y, e1, q, q2⟩
theorem cd_min2 (hc : X.calm = true) : CallR X (.builtin "min") (spR Γ W (f2 dMin2)) := fun pins s σ H xs us Q I rs ⟨Hs, ds, r, sm, rl, e, q⟩ => by
  obtain ⟨d1, d2, rfl, e⟩ := f2_some e
  obtain ⟨x, y, rfl, r1, r2⟩ := repL2 rl
  obtain ⟨i, j, rfl, rfl, e⟩ := a2x (f := fun i j => okI (if j < i then j else i)) (fun _ _ => rfl) e
  cases e
  exact call_min2 hc pins s σ H _ us Q I rs ⟨i, j, by rw [a0g.mp r1, a0g.mp r2], retS sm q (a0g.mpr rfl)⟩
theorem bt_min : bootBuiltins "min" = some (.builtin "min") := by decide +kernel
end
end L3
namespace L3
open PySem PySem.Spec PyProof.Rows L2
section
variable {X : Cx} {Γ : Ct} {W : XW}
theorem flat_V {d : D} {v : V} {H : Hp} (r : Rep Γ H d v) (f : flat d = true) : flatV v = true := by
  cases d with
  | non => rw [a1i.mp r]; rfl
  | bl _ => rw [a0P.mp r]; rfl
  | int _ => rw [a0g.mp r]; rfl
  | str _ => rw [a0u.mp r]; rfl
  | tup _ => cases f
  | lst _ => cases f
  | obj _ _ _ => cases f
theorem eqD_V {d e : D} {v u : V} {H : Hp} (r1 : Rep Γ H d v) (r2 : Rep Γ H e u) (f1 : flat d = true) (f2 : flat e = true) : eqV v u = eqD d e := by
  cases d with
  | non => rw [a1i.mp r1]; cases e with
    | non => rw [a1i.mp r2]; rfl
    | bl _ => rw [a0P.mp r2]; rfl
    | int _ => rw [a0g.mp r2]; rfl
    | str _ => rw [a0u.mp r2]; rfl
    | tup _ => cases f2
    | lst _ => cases f2
    | obj _ _ _ => cases f2
  | bl _ => rw [a0P.mp r1]; cases e with
    | non => rw [a1i.mp r2]; rfl
    | bl _ => rw [a0P.mp r2]; rfl
    | int _ => rw [a0g.mp r2]; rfl
    | str _ => rw [a0u.mp r2]; rfl
    | tup _ => cases f2
    | lst _ => cases f2
    | obj _ _ _ => cases f2
  | int _ => rw [a0g.mp r1]; cases e with
    | non => rw [a1i.mp r2]; rfl
    | bl _ => rw [a0P.mp r2]; rfl
    | int _ => rw [a0g.mp r2]; rfl
    | str _ => rw [a0u.mp r2]; rfl
    | tup _ => cases f2
    | lst _ => cases f2
    | obj _ _ _ => cases f2
  | str _ => rw [a0u.mp r1]; cases e with
    | non => rw [a1i.mp r2]; rfl
    | bl _ => rw [a0P.mp r2]; rfl
    | int _ => rw [a0g.mp r2]; rfl
    | str _ => rw [a0u.mp r2]; rfl
    | tup _ => cases f2
    | lst _ => cases f2
    | obj _ _ _ => cases f2
  | tup _ => cases f1
  | lst _ => cases f1
  | obj _ _ _ => cases f1
theorem inD_V {x : D} {v : V} {H : Hp} (rx : Rep Γ H x v) (fx : flat x = true) : ∀ {ds : List D} {xs : List V}, RepL Γ H ds xs → ds.all flat = true → xs.all flatV = true ∧ inV v xs = inD x ds
  | [], xs, h, _ => by rw [a1a.mp h]; exact ⟨rfl, rfl⟩
  | d :: ds, xs, h, f => by
    obtain ⟨y, r, rfl, q, t⟩ := a0m.mp h
    rw [List.all_cons, Bool.and_eq_true] at f
    obtain ⟨i1, i2⟩ := inD_V rx fx t f.2
    refine ⟨by rw [List.all_cons, flat_V q f.1, i1]; rfl, ?_⟩
    show (eqV y v || inV v r) = (eqD d x || inD x ds)
    rw [eqD_V q rx f.1 fx, i2]
theorem dIn_some {neg : Bool} {d1 d2 : D} {r : R} {Hs H : Hp} {x y : V} {Q : VK} (hK : X.K = Γ.K) (sm : Same Hs H) (r1 : Rep Γ Hs d1 x) (r2 : Rep Γ Hs d2 y) (e : dIn neg d1 d2 = some r) (q : RQ Γ W Hs H r Q) : rIn X.K neg x y H Q := by
  have fin : ∀ (ds : List D) (p : Addr) (xs : List V), y = .ref p → (SqL X.K H p xs ∨ SqT X.K H p xs) → RepL Γ Hs ds xs → (if flat d1 = true ∧ ds.all flat = true then okB (if neg then !inD d1 ds else inD d1 ds) else none) = some r → rIn X.K neg x y H Q := fun ds p xs ey hq rl e => by
    obtain ⟨⟨h1, h2⟩, rfl⟩ := a02 e
    obtain ⟨i1, i2⟩ := inD_V r1 h1 rl h2
    refine ⟨p, xs, ey, hq, flat_V r1 h1, i1, ?_⟩
    rw [i2]
    exact retS sm q (a0P.mpr rfl)
  cases d2 with
  | tup ds => obtain ⟨p, xs, ey, sq, rl⟩ := a0K.mp r2; exact fin ds p xs ey (.inr (by rw [hK]; exact a0S sm sq)) rl e
  | lst ds => obtain ⟨p, xs, ey, sq, rl⟩ := a0L.mp r2; exact fin ds p xs ey (.inl (by rw [hK]; exact Same.seq sm sq)) rl e
  | non => cases e
  | bl _ => cases e
  | int _ => cases e
  | str _ => cases e
  | obj _ _ _ => cases e
theorem opd_in (hK : X.K = Γ.K) : OpR X (compareOp .In) (rD Γ W (dIn false)) := fun pins s σ H x y v u Q I rx ry ⟨Hs, d1, d2, r, sm, r1, r2, e, q⟩ => op_in_seq pins s σ H x y v u Q I rx ry (dIn_some hK sm r1 r2 e q)
theorem a4Y (n d : Nat) (o : Option Int) : HT.sIx n d o = sIxD n d o := by cases o <;> rfl
theorem a69 {H : Hp} {ds : List D} {xs : List V} (rl : RepL Γ H ds xs) (lo hi : Option Int) : RepL Γ H (cutD ds lo hi) (cutV xs lo hi) := by
  unfold cutD cutV
  rw [a4Y, a4Y, ← rl.length]
  exact (rl.drop _).take _
def rSlice (Γ : Ct) (W : XW) : V → Option Int → Option Int → Hp → VK → Prop := fun v lo hi H Q => ∃ Hs d r, Same Hs H ∧ Rep Γ Hs d v ∧ dSlice d lo hi = some r ∧ RQ Γ W Hs H r Q
theorem sld (hK : X.K = Γ.K) : SlR X (rSlice Γ W) := fun pins s σ H x v vl vu lo hi sl Q I rx hs pl pu ⟨Hs, d, r, sm, rp, e, q⟩ => by
  cases d with
  | tup ds =>
    obtain ⟨a, xs, rfl, sq, rl⟩ := a0K.mp rp
    have e' : (if sIxD ds.length 0 lo = 0 ∧ sIxD ds.length ds.length hi = ds.length then none else okD (.tup (cutD ds lo hi))) = some r := e
    by_cases hw : sIxD ds.length 0 lo = 0 ∧ sIxD ds.length ds.length hi = ds.length
    · rw [if_pos hw] at e'; cases e'
    · rw [if_neg hw] at e'
      cases e'
      exact sl_tup pins s σ H _ v vl vu lo hi sl Q I rx hs pl pu ⟨a, xs, rfl, by rw [hK]; exact a0S sm sq, by rw [a4Y, a4Y, ← rl.length]; exact hw, fun p hp => a6a sm q (a69 rl lo hi) hp⟩
  | lst ds =>
    obtain ⟨a, xs, rfl, sq, rl⟩ := a0L.mp rp
    cases e
    exact sl_list pins s σ H _ v vl vu lo hi sl Q I rx hs pl pu ⟨a, xs, rfl, by rw [hK]; exact Same.seq sm sq, fun p hp => a4b sm q (a69 rl lo hi) hp⟩
  | non => cases e
  | bl _ => cases e
  | int _ => cases e
  | str _ => cases e
  | obj _ _ _ => cases e
def tP (Γ : Ct) (W : XW) (o : Option ME) : TO := match o with
  | none => tNoPart
  | some g => tPart (tD Γ W g)
abbrev POD (X : Cx) (Γ : Ct) (W : XW) (e : Option Expr) (o : Option ME) : Prop := PO X e (tP Γ W o)
theorem a6S : POD X Γ W none none := po_none
theorem a6R {e : Expr} {g : ME} (h : PD X Γ W e g) : POD X Γ W (some e) (some g) := po_some h
theorem a5H {o : Option ME} {B0 B1 Hs H : Hp} {σ : L2.St} {ρ : MEnv} {k : Option Int → Option R} {r : R} {Q : VK} (re : RE Γ B0 B1 Hs H σ ρ) (e : partD o ρ k = some r) (q : RQ Γ W Hs H r Q) {Q' : Option Int → Hp → Prop}
    (h : ∀ i H1 Hs1, Grow Hs H Hs1 H1 → RE Γ B0 B1 Hs1 H1 σ ρ → k i = some r → RQ Γ W Hs1 H1 r Q → Q' i H1) : tP Γ W o σ H Q' := by
  cases o with
  | none => exact h none H Hs (.refl re.b.i) re e q
  | some g =>
    have e' : a0R (g ρ) (fun d => match d with | .int i => k (some i) | _ => none) = some r := e
    refine (a01 re e' q).mono fun v H1 ⟨Hs1, d, g1, re1, rp, e1, q1⟩ => ?_
    cases d with
    | int i => exact ⟨i, a0g.mp rp, h (some i) H1 Hs1 g1 re1 e1 q1⟩
    | non => cases e1
    | bl _ => cases e1
    | str _ => cases e1
    | tup _ => cases e1
    | lst _ => cases e1
    | obj _ _ _ => cases e1
theorem a6U {e : Expr} {g : ME} {lo hi : Option Expr} {gl gh : Option ME} {pos p2 : Pos} (hK : X.K = Γ.K) (he : PD X Γ W e g) (hl : POD X Γ W lo gl) (hh : POD X Γ W hi gh) : PD X Γ W (.Subscript e (.Slice lo hi none p2) pos) (a4n g gl gh) :=
  PE.imp (pe_slice (sld hK) he hl hh) fun _ _ σ H Q _ ⟨B0, B1, Hs, ρ, r, re, e, q⟩ => by
    refine (a01 re e q).mono fun v H1 ⟨Hs1, d, g1, re1, rp, e1, q1⟩ => ?_
    refine a5H re1 e1 q1 fun l H2 Hs2 g2 re2 e2 q2 => ?_
    refine a5H re2 e2 q2 fun u H3 Hs3 g3 re3 e3 q3 => ?_
    exact ⟨Hs3, d, r, re3.b.i, (rp.mono g2.s).mono g3.s, e3, q3⟩
end
end L3
namespace L3
open PySem PySem.Spec PyProof.Rows L2
theorem insD_mem (k x : Int) : ∀ l : List Int, x ∈ insD k l ↔ x = k ∨ x ∈ l
  | [] => by simp [insD]
  | y :: r => by
    unfold insD
    split
    · simp
    · split
      · rename_i h; subst h; simp
      · rw [List.mem_cons, insD_mem k x r, List.mem_cons]; constructor
        · rintro (h | h | h) <;> simp [h]
        · rintro (h | h | h) <;> simp [h]
theorem a8A (k : Int) : ∀ l : List Int, l.Pairwise (· < ·) → (insD k l).Pairwise (· < ·)
  | [], _ => by simp [insD]
  | y :: r, h => by
    obtain ⟨h1, h2⟩ := List.pairwise_cons.mp h
    unfold insD
    split
    · rename_i hk
      refine List.pairwise_cons.mpr ⟨fun z hz => ?_, h⟩
      rcases List.mem_cons.mp hz with rfl | hz
      · exact hk
      · have := h1 z hz; omega
    · split
      · exact h
      · refine List.pairwise_cons.mpr ⟨fun z hz => ?_, a8A k r h2⟩
        rcases (insD_mem k z r).mp hz with rfl | hz
        · omega
        · exact h1 z hz
theorem sortD_mem (x : Int) : ∀ l : List Int, x ∈ a3t l ↔ x ∈ l
  | [] => by simp [a3t]
  | y :: r => by
    show x ∈ insD y (a3t r) ↔ _
    rw [insD_mem, sortD_mem x r, List.mem_cons]
theorem a6L : ∀ l : List Int, (a3t l).Pairwise (· < ·)
  | [] => by simp [a3t]
  | y :: r => a8A y _ (a6L r)
theorem a5T : ∀ {l m : List Int}, l.Pairwise (· < ·) → m.Pairwise (· < ·) → (∀ x, x ∈ l ↔ x ∈ m) → l = m
  | [], [], _, _, _ => rfl
  | [], y :: m, _, _, h => by have := (h y).mpr (List.mem_cons_self); cases this
  | x :: l, [], _, _, h => by have := (h x).mp (List.mem_cons_self); cases this
  | x :: l, y :: m, h1, h2, h => by
    obtain ⟨a1, a2⟩ := List.pairwise_cons.mp h1
    obtain ⟨b1, b2⟩ := List.pairwise_cons.mp h2
    have e : x = y := by
      have p := (h x).mp List.mem_cons_self
      have q := (h y).mpr List.mem_cons_self
      rcases List.mem_cons.mp p with e | p
      · exact e
      · rcases List.mem_cons.mp q with e | q
        · exact e.symm
        · have := b1 x p; have := a1 y q; omega
    subst e
    congr 1
    refine a5T a2 b2 fun z => ⟨fun hz => ?_, fun hz => ?_⟩
    · rcases List.mem_cons.mp ((h z).mp (List.mem_cons_of_mem _ hz)) with rfl | q
      · have := a1 z hz; omega
      · exact q
    · rcases List.mem_cons.mp ((h z).mpr (List.mem_cons_of_mem _ hz)) with rfl | q
      · have := b1 z hz; omega
      · exact q
theorem a7X {ns ks l : List Int} (hm : ∀ n, n ∈ ks ↔ n ∈ ns) (nd : ks.Nodup) (pm : l.Perm ks) (so : l.Pairwise (· ≤ ·)) : l = a3t ns := by
  refine a5T ?_ (a6L ns) fun x => by rw [sortD_mem, ← hm, pm.mem_iff]
  have nd' : l.Nodup := pm.nodup_iff.mpr nd
  have h := List.Pairwise.and so nd'
  exact h.imp fun {a b} ⟨h1, h2⟩ => by omega
section
variable {X : Cx} {Γ : Ct} {W : XW}
theorem fewD_of {ns : List Int} (h : fewD ns = true) : few ns := by
  unfold fewD at h
  simp only [Bool.and_eq_true, decide_eq_true_eq, List.all_eq_true] at h
  exact ⟨h.1, fun n hn => by simpa using h.2 n hn⟩
theorem a5F {a : Expr} {g : ME} {p p' pos' pos : Pos} (hK : X.K = Γ.K) (hc : X.calm = true) (hg : Gl X "sorted") (hm : X.mg "sorted" = none) (hg2 : Gl X "set") (hm2 : X.mg "set" = none) (ha : PD X Γ W a g)
    (hs1 : starEach [a] X.env = (false, eval a X.env) :: starEach [] X.env := by rfl) (hpl : (backTo pos' (starEach [] X.env)).any (·.1) = false := by rfl)
    (hs3 : starEach [.Call (.Name "set" p') [a] [] pos'] X.env = (false, eval (.Call (.Name "set" p') [a] [] pos') X.env) :: starEach [] X.env := by rfl) (hpl2 : (backTo pos (starEach [] X.env)).any (·.1) = false := by rfl) :
    PD X Γ W (.Call (.Name "sorted" p) [.Call (.Name "set" p') [a] [] pos'] [] pos) (eUn a5l g) :=
  PE.imp (pe_callB (a51 hc) hg hm a31 (pa_cons (pe_callTy (a8U hc) hg2 hm2 a8X (pa_cons ha pa_nil hs1) (by decide) (by decide) hs1 hpl) pa_nil hs3) (by decide) (by decide) hs3 hpl2) fun _ _ σ H Q _ ⟨B0, B1, Hs, ρ, r, re, e, q⟩ => by
    refine (a01 re e q).mono fun v H1 ⟨Hs1, d, g1, re1, rp, e1, q1⟩ => ?_
    cases d with
    | lst ds =>
      have e1 : (intsOf ds).bind (fun ns => if fewD ns = true then okL ((a3t ns).map D.int) else none) = some r := e1
      cases hi : intsOf ds with
      | none => rw [hi] at e1; cases e1
      | some ns =>
        rw [hi] at e1
        obtain ⟨hf, rfl⟩ := a02 (c := fewD ns = true) e1
        obtain ⟨b, xs, rfl, sq, rl⟩ := a0L.mp rp
        have ex := rl.intsOf hi
        subst ex
        have fw := fewD_of hf
        have sm := re1.b.i
        refine ⟨b, ns, rfl, by rw [hK]; exact Same.seq sm sq, fw, fun a ks ha hm nd => ?_⟩
        refine ⟨a, ks, rfl, upd_same, ?_, fun l ms hl pm so => ?_⟩
        · have : ks.length ≤ ns.length := List.Nodup.length_le_of_subset nd fun x hx => (hm x).mp hx
          have := fw.1; omega
        · have hl1 : H1 l = none := (a0W ha).free hl
          have ems := a7X hm nd pm so
          subst ems
          exact q1 _ Hs1 _ (.only sm ((a0W ha).trans (a0W hl))) ⟨l, _, rfl, hl1, sm.free hl1, upd_same, _, rfl, RepL.ints _⟩
    | non => cases e1
    | bl _ => cases e1
    | int _ => cases e1
    | str _ => cases e1
    | tup _ => cases e1
    | obj _ _ _ => cases e1
end
end L3
namespace L3
open PySem PySem.Spec PyProof.Rows L2
theorem a64 {Γ : Ct} {H : Hp} {f : Str} : ∀ {ns : List Str} {ds : List D} {xs : List V} {d : D}, RepL Γ H ds xs → fldD f ns ds = some d → ∃ v, (ns.zip xs).lookup f = some v ∧ Rep Γ H d v
  | [], ds, xs, d, _, e => by cases ds <;> cases e
  | n :: ns, [], xs, d, _, e => by cases e
  | n :: ns, d0 :: ds, xs, d, r, e => by
    obtain ⟨x, r', rfl, q, t⟩ := a0m.mp r
    unfold fldD at e
    rw [List.zip_cons_cons, List.lookup_cons]
    cases h : (f == n) with
    | true => rw [h] at e; rw [if_pos rfl] at e; cases e; exact ⟨x, rfl, q⟩
    | false => rw [h] at e; rw [if_neg Bool.false_ne_true] at e; exact a64 t e
theorem a19 {m : Str} : ∀ {ns : List Str} {xs : List V}, ns.contains m = false → (ns.zip xs).lookup m = none
  | [], xs, _ => by cases xs <;> rfl
  | n :: ns, [], _ => rfl
  | n :: ns, x :: xs, h => by
    rw [List.contains_cons, Bool.or_eq_false_iff] at h
    rw [List.zip_cons_cons, List.lookup_cons, h.1]
    exact a19 h.2
section
variable {X : Cx} {Γ : Ct} {W : XW} {e o : Expr} {es : List Expr} {g go : ME} {gs : List ME} {f m x : Str} {p pos apos : Pos}
theorem a8e {cs : List String} (hK : X.K = Γ.K) (hC : ∀ c ∈ cs, Cls Γ.K (Γ.cls c) ∧ NoAttr Γ.K (Γ.cls c) f) (he : PD X Γ W e g) (hb : attributeBase e f X.env (eval e X.env) = eval e X.env := by rfl) : PD X Γ W (.Attribute e f pos) (eUn (dFld cs f) g) :=
  PE.imp (pe_fld he hb) fun _ _ σ H Q _ ⟨B0, B1, Hs, ρ, r, re, e, q⟩ => by
    refine (a01 (k := dFld cs f) re e q).mono fun v H1 ⟨Hs1, d, g1, re1, rp, e1, q1⟩ => ?_
    cases d with
    | obj c ns ds =>
      unfold dFld at e1
      by_cases hc : cs.contains c = true
      · simp only [if_pos hc] at e1
        cases hf : fldD f ns ds with
        | none => rw [hf] at e1; cases e1
        | some d' =>
          rw [hf] at e1
          cases e1
          obtain ⟨a, dx, xs, rfl, ea, rl⟩ := a40.mp rp
          obtain ⟨v', hl, rv⟩ := a64 rl hf
          obtain ⟨c1, c2⟩ := hC c (by simpa using hc)
          exact ⟨a, _, dx, _, v', rfl, re1.b.i _ _ ea, hK ▸ c1, hK ▸ c2, hl, q1 v' Hs1 H1 (.refl re1.b.i) (RepS.of rv)⟩
      · simp only [if_neg hc] at e1; cases e1
    | non => cases e1
    | bl _ => cases e1
    | int _ => cases e1
    | str _ => cases e1
    | tup _ => cases e1
    | lst _ => cases e1
end
def a5s (P : Program) (w : World) (K : PySem.W.Frag) (mg : Str → Option Value) (base : Heap) (Γ : Ct) (k : Nat) (m : Str) (ps : List Str) (F : List D → Option R) (cs : List String) : Prop :=
  ∃ f fd, FnOk P w K mg base CX0 k f fd ps (spD Γ W0 F) ∧ Binds K fd ps [] ∧ ∀ c ∈ cs, Cls K (Γ.cls c) ∧ Meth K (Γ.cls c) m f
def a82 (X : Cx) (Γ : Ct) (m : Str) (tb : String → Option (List D → Option R)) : Prop :=
  ∀ c F, tb c = some F → ∃ k ps cs, c ∈ cs ∧ a5s X.prog X.w X.K X.mg X.base Γ k m ps F cs ∧ Room k X.A
def tbNil : String → Option (List D → Option R) := fun _ => none
def tbG (cs : List String) (F : List D → Option R) (t : String → Option (List D → Option R)) : String → Option (List D → Option R) := fun c => if cs.contains c = true then some F else t c
section
variable {X : Cx} {Γ : Ct} {e o : Expr} {es : List Expr} {g go : ME} {gs : List ME} {f m x : Str} {p pos apos : Pos} {tb : String → Option (List D → Option R)}
theorem a58 : a82 X Γ m tbNil := fun _ _ h => nomatch h
theorem a4U {k : Nat} {ps : List Str} {F : List D → Option R} {cs : List String} (h : a5s X.prog X.w X.K X.mg X.base Γ k m ps F cs) (r : Room k X.A) (t : a82 X Γ m tb) : a82 X Γ m (tbG cs F tb) := fun c G e => by
  unfold tbG at e
  by_cases hc : cs.contains c = true
  · rw [if_pos hc] at e; cases e; exact ⟨k, ps, cs, by simpa using hc, h, r⟩
  · rw [if_neg hc] at e; exact t c G e
theorem a4P {d : D} {ρ : MEnv} {r : R} (h : (match d with
  | .obj c ns ds => if ns.contains m = true then none else (match tb c with
    | some F => a1b gs ρ fun vs => F (.obj c ns ds :: vs)
    | none => none)
  | _ => none) = some r) : ∃ c ns ds F, d = .obj c ns ds ∧ ns.contains m = false ∧ tb c = some F ∧ a1b gs ρ (fun vs => F (.obj c ns ds :: vs)) = some r := by
  cases d with
  | obj c ns ds =>
    dsimp only at h
    cases hn : ns.contains m with
    | true => rw [hn, if_pos rfl] at h; cases h
    | false =>
      rw [hn, if_neg Bool.false_ne_true] at h
      cases ht : tb c with
      | none => rw [ht] at h; cases h
      | some F => rw [ht] at h; exact ⟨c, ns, ds, F, rfl, hn, ht, h⟩
  | non => cases h
  | bl _ => cases h
  | int _ => cases h
  | str _ => cases h
  | tup _ => cases h
  | lst _ => cases h
theorem a8d {pl : Sem Bool} (T : a82 X Γ m tb) (he : PD X Γ W0 o go) (ha : PAD X Γ W0 (e :: es) gs)
    (hst : starEach (e :: es) X.env = (false, eval e X.env) :: starEach es X.env := by rfl) (hpl : (backTo pos (starEach es X.env)).any (·.1) = false := by rfl)
    (ht : eval (.Call (.Attribute o m apos) (e :: es) [] pos) X.env = (do
      let ov ← eval o X.env
      standAt apos.atName
      let (f, first) ← holding [ov] (getMethod ov m pl)
      callWith pos f first (backTo pos (starEach (e :: es) X.env)) (backToKw pos (keywordEach [] X.env))) := by rfl) :
    PD X Γ W0 (.Call (.Attribute o m apos) (e :: es) [] pos) (a3q m tb go gs) := by
  intro pins s σ H Q I ⟨B0, B1, Hs, ρ, r, re, e0, q⟩
  refine PySem.W.methodCall_KW (pl := pl) (thn (he pins s σ H _ I (a01 re e0 q)) fun u s1 ⟨x, H1, I1, rx, Hs1, d, g1, re1, rp, e1, q1⟩ => ?_) ht
  obtain ⟨c, ns, ds, F, rfl, hn, htb, e2⟩ := a4P e1
  obtain ⟨a, dx, xs, rfl, ea, rl⟩ := a40.mp rp
  obtain rfl : u = Value.ref a := rx
  obtain ⟨k, ps, cs, hc, ⟨f, fd, G, hb, hcs⟩, hr⟩ := T c F htb
  obtain ⟨c1, c2⟩ := hcs c hc
  refine getmeth_ok I1 (re1.b.i _ _ ea) c1 c2 (a19 hn) ?_
  refine PySem.W.callWith_K (first := [.ref a]) (h₀ := X.base) I.ok.mod.kin c2.kp (thn (ha pos pins s1 σ H1 _ I1 (a3N gs re1 e2 q1)) fun us s2 ⟨vs, H2, I2, rr, Hs2, ds2, g2, re2, rps, e3, q2⟩ => ⟨I2.kIn, ?_⟩) hst hpl
  exact run_fn (E := E0) (dvs := []) (us := .ref a :: us) (vs := .ref a :: vs) G hr hb .nil pass0 I2 (.cons rfl rr) ⟨Hs2, .obj c ns ds :: ds2, r, re2.b.i, by rw [List.append_nil]; exact .cons (rp.mono g2.s) rps, e3, q2⟩
theorem pd_meth0 {pl : Sem Bool} (T : a82 X Γ m tb) (he : PD X Γ W0 o go)
    (ht : eval (.Call (.Attribute o m apos) [] [] pos) X.env = (do
      let ov ← eval o X.env
      standAt apos.atName
      let (f, first) ← holding [ov] (getMethod ov m pl)
      callWith pos f first (backTo pos (starEach [] X.env)) (backToKw pos (keywordEach [] X.env))) := by rfl) :
    PD X Γ W0 (.Call (.Attribute o m apos) [] [] pos) (a3q m tb go []) := by
  intro pins s σ H Q I ⟨B0, B1, Hs, ρ, r, re, e0, q⟩
  refine PySem.W.methodCall_KW (pl := pl) (thn (he pins s σ H _ I (a01 re e0 q)) fun u s1 ⟨x, H1, I1, rx, Hs1, d, g1, re1, rp, e1, q1⟩ => ?_) ht
  obtain ⟨c, ns, ds, F, rfl, hn, htb, e2⟩ := a4P e1
  obtain ⟨a, dx, xs, rfl, ea, rl⟩ := a40.mp rp
  obtain rfl : u = Value.ref a := rx
  obtain ⟨k, ps, cs, hc, ⟨f, fd, G, hb, hcs⟩, hr⟩ := T c F htb
  obtain ⟨c1, c2⟩ := hcs c hc
  refine getmeth_ok I1 (re1.b.i _ _ ea) c1 c2 (a19 hn) ?_
  exact PySem.W.callWith_K0 (first := [.ref a]) I1.kIn c2.kp (run_fn (E := E0) (dvs := []) (us := [.ref a]) (vs := [.ref a]) G hr hb .nil pass0 I1 (.cons rfl .nil) ⟨Hs1, [.obj c ns ds], r, re1.b.i, .cons rp .nil, e2, q1⟩)
end
structure a4u (a : Addr) (Hs H Hs' H' : Hp) : Prop where
  s : Same Hs Hs'
  h : ∀ b o, b ≠ a → H b = some o → H' b = some o
  i : Same Hs' H'
  n : ∀ b o, Hs' b = some o → Hs b = some o ∨ H b = none
theorem Grow.x {a : Addr} {Hs H Hs' H' : Hp} (g : Grow Hs H Hs' H') : a4u a Hs H Hs' H' := ⟨g.s, fun b o _ e => g.h b o e, g.i, g.n⟩
theorem a4u.trans {a : Addr} {Hs H Hs1 H1 Hs2 H2 : Hp} (x : a4u a Hs H Hs1 H1) (y : a4u a Hs1 H1 Hs2 H2) (ha : Hs1 a = none) (hb : ∃ o, H1 a = some o) : a4u a Hs H Hs2 H2 :=
  ⟨x.s.trans y.s, fun b o hb e => y.h b o hb (x.h b o hb e), y.i, fun b o e => by
    rcases y.n b o e with z | z
    · exact x.n b o z
    · by_cases hba : b = a
      · subst hba
        obtain ⟨o', ho'⟩ := hb
        rw [ho'] at z; cases z
      · right
        cases q : H b with
        | none => rfl
        | some u => rw [x.h b u hba q] at z; cases z⟩
theorem a4u.none {a : Addr} {Hs H Hs' H' : Hp} (g : a4u a Hs H Hs' H') {ho : HO} (h : Hs a = Option.none) (h' : H a = some ho) : Hs' a = Option.none := by
  cases q : Hs' a with
  | none => rfl
  | some u =>
    rcases g.n a u q with z | z
    · rw [h] at z; cases z
    · rw [h'] at z; cases z
inductive spI (Γ : Ct) (F : a2F) (vs : List V) (H : Hp) (Q : VK) (E : XK) : Prop
  | mk (a : Addr) (xs : List V) (Hs : Hp) (o : O) (ho : HO) (ds : List D) (o' : O) (ev : vs = .ref a :: xs) (sm : Same Hs H) (hs : Hs a = none) (hh : H a = some ho) (ro : RepO Γ Hs o ho) (rl : RepL Γ Hs ds xs) (e : F o ds = some o')
    (q : ∀ Hs' H' ho', a4u a Hs H Hs' H' → H' a = some ho' → RepO Γ Hs' o' ho' → Q .non H')
structure a1e (P : Program) (w : World) (K : PySem.W.Frag) (mg : Str → Option Value) (base : Heap) (Γ : Ct) (k : Nat) (c : String) (x : Str) (ps : List Str) (F : a2F) : Prop where
  ex : ∃ f fd, FnOk P w K mg base CX0 k f fd ps (spI Γ F) ∧ Binds K fd ps [] ∧ PySem.W.keepIn K (.ref f) = true ∧ Mk K (Γ.cls c) f ∧ PySem.W.findCls K (.ref (Γ.cls c)) (.type "type") "__init__" = some (.val (.ref f))
  at_ : mg x = some (.ref (Γ.cls c))
  sp : PySem.W.specialIn K (.ref (Γ.cls c)) "__getattribute__" = some (some (.builtin "type.__getattribute__"))
  rd : PySem.W.readsIn K (Γ.cls c) (.type "type") = true
section
variable {X : Cx} {Γ : Ct} {e o : Expr} {es : List Expr} {g go : ME} {gs : List ME} {f m x : Str} {p pos apos : Pos} {k : Nat} {c : String} {ps : List Str} {F : a2F}
theorem a7I {ds : List D} {r : R} (h : (match F (.obj c [] []) ds with
  | some o => some (R.ok (.own o))
  | none => none) = some r) : ∃ o, F (.obj c [] []) ds = some o ∧ r = .ok (.own o) := by
  cases q : F (.obj c [] []) ds with
  | none => rw [q] at h; cases h
  | some o => rw [q] at h; cases h; exact ⟨o, rfl, rfl⟩
theorem a8s {Hs H : Hp} {ds : List D} {vs : List V} {r : R} {Q : VK} (sm : Same Hs H) (rl : RepL Γ Hs ds vs) (e : (match F (.obj c [] []) ds with
  | some o => some (R.ok (.own o))
  | none => none) = some r) (q : RQ Γ W0 Hs H r Q) : ∀ x dx, H x = none → H dx = none → dx ≠ x →
    spI Γ F (.ref x :: (vs ++ [])) (upd (upd H dx (.own x)) x (.ins (Γ.cls c) dx [])) (fun v H2 => v = .non ∧ Q (.ref x) H2) E0 := by
  intro x dx hx hd ne
  obtain ⟨o, eo, rfl⟩ := a7I e
  have hxs : Hs x = none := sm.free hx
  have hds : Hs dx = none := sm.free hd
  refine ⟨x, vs, Hs, .obj c [] [], _, ds, o, by rw [List.append_nil], fun b u z => ?_, hxs, upd_same, ⟨dx, [], rfl, .nil⟩, rl, eo, fun Hs' H' ho' gx e' ro => ⟨rfl, ?_⟩⟩
  · rw [upd_ne (ne_of_none z hxs), upd_ne (ne_of_none z hds)]; exact sm _ _ z
  · have g : Grow Hs H Hs' H' := ⟨gx.s, fun b u z => gx.h b u (ne_of_none z hx) (by rw [upd_ne (ne_of_none z hx), upd_ne (ne_of_none z hd)]; exact z), gx.i, fun b u z => by
      rcases gx.n b u z with y | y
      · exact .inl y
      · right
        by_cases hb : b = x
        · subst hb; exact hx
        · rw [upd_ne hb] at y
          by_cases hb' : b = dx
          · subst hb'; exact hd
          · rw [upd_ne hb'] at y; exact y⟩
    exact q (.ref x) Hs' H' g ⟨x, ho', rfl, hx, gx.none hxs upd_same, e', ro⟩
theorem a3k (h : a1e X.prog X.w X.K X.mg X.base Γ k c x ps F) (hr : Room (k + 1) X.A) (hg : Gl X x) (ha : PAD X Γ W0 (e :: es) gs) (hdb : (x == ("__debug__" : Str)) = false := by decide) (he : starEach (e :: es) X.env = (false, eval e X.env) :: starEach es X.env := by rfl)
    (hpl : (backTo pos (starEach es X.env)).any (·.1) = false := by rfl) : PD X Γ W0 (.Call (.Name x p) (e :: es) [] pos) (a2I c F gs) := by
  obtain ⟨f, fd, G, hb, _, M, _⟩ := h.ex
  exact PE.imp (pe_make (E := E0) (dvs := []) (ds := []) M G hr hg h.at_ hb .nil pass0 ha hdb he hpl) fun _ _ σ H Q _ ⟨B0, B1, Hs, ρ, r, re, e, q⟩ => by
    exact a1A gs (fun vs H1 ⟨Hs1, ds, _, re1, rp, e1, q1⟩ => a8s re1.b.i rp e1 q1) (a3N gs re e q)
theorem pd_make0 (h : a1e X.prog X.w X.K X.mg X.base Γ k c x ps F) (hr : Room (k + 1) X.A) (hg : Gl X x) (hdb : (x == ("__debug__" : Str)) = false := by decide) : PD X Γ W0 (.Call (.Name x p) [] [] pos) (a2I c F []) := by
  obtain ⟨f, fd, G, hb, _, M, _⟩ := h.ex
  exact PE.imp (pe_make0 (E := E0) (dvs := []) (ds := []) M G hr hg h.at_ hb .nil pass0 hdb) fun _ _ σ H Q _ ⟨B0, B1, Hs, ρ, r, re, e, q⟩ => by
    exact a8s re.b.i .nil e q
end
inductive tX (Γ : Ct) (g : MG) (D : Ends) (σ : L2.St) (H : Hp) : Prop
  | mk (a : Addr) (B0 B1 Hs : Hp) (ρ : MEnv) (o : O) (ho : HO) (o' : O) (re : RE Γ B0 B1 Hs H σ ρ) (hb : B1 a = none) (no : ∀ (i : Nat) (u : O), ρ[i]? ≠ some (some (.own u))) (h0 : σ[0]? = some (some (.ref a))) (hs : Hs a = none) (hh : H a = some ho) (ro : RepO Γ Hs o ho) (e : g ρ o = some o')
    (q : ∀ Hs' H' ho', a4u a Hs H Hs' H' → H' a = some ho' → RepO Γ Hs' o' ho' → D.nx σ H')
abbrev PXD (X : Cx) (Γ : Ct) (st : Stmt) (g : MG) : Prop := PS X st (tX Γ g)
abbrev PXsD (X : Cx) (Γ : Ct) (st : List Stmt) (g : MG) : Prop := PSs X st (tX Γ g)
theorem RE.growX {Γ : Ct} {B0 B1 Hs H Hs' H' : Hp} {σ : L2.St} {ρ : MEnv} {a : Addr} (r : RE Γ B0 B1 Hs H σ ρ) (g : a4u a Hs H Hs' H') (hb : B1 a = none) (no : ∀ (i : Nat) (u : O), ρ[i]? ≠ some (some (.own u))) (hs : Hs a = none) : RE Γ B0 B1 Hs' H' σ ρ where
  b := ⟨r.b.s.trans g.s, fun b o e => g.h b o (ne_of_none e hb) (r.b.h b o e), g.i, fun b o e => by
    rcases g.n b o e with z | z
    · exact r.b.n b o z
    · exact .inr (r.b.h.free z)⟩
  sh := fun i d e => let ⟨v, e1, q⟩ := r.sh i d e; ⟨v, e1, q.mono g.s⟩
  own := fun i o e => absurd e (no i o)
  apart := r.apart
  len := r.len
section
variable {X : Cx} {Γ : Ct} {st : Stmt} {rest : List Stmt} {g h : MG} {e o : Expr} {es : List Expr} {ge : ME} {gs : List ME} {f m x y : Str} {p px pos pos' apos cpos : Pos} {k : Nat} {c : String} {ps : List Str} {F : a2F}
theorem a15 : PXsD X Γ [] a33 := PSs.imp pss_nil fun D σ H ⟨a, B0, B1, Hs, ρ, o, ho, o', re, hb, no, h0, hs, hh, ro, e, q⟩ => by
  cases e
  exact q Hs H ho (Grow.x (.refl re.b.i)) hh ro
theorem a0X (h1 : PXD X Γ st g) (h2 : PXsD X Γ rest h) : PXsD X Γ (st :: rest) (a2z g h) := PSs.imp (pss_cons h1 h2) fun D σ H ⟨a, B0, B1, Hs, ρ, o, ho, o', re, hb, no, h0, hs, hh, ro, e, q⟩ => by
  unfold a2z at e
  cases z : g ρ o with
  | none => rw [z] at e; cases e
  | some o1 =>
    rw [z] at e
    refine ⟨a, B0, B1, Hs, ρ, o, ho, o1, re, hb, no, h0, hs, hh, ro, z, fun Hs' H' ho' gx hh' ro' => ?_⟩
    exact ⟨a, B0, B1, Hs', ρ, o1, ho', o', re.growX gx hb no hs, hb, no, h0, gx.none hs hh, hh', ro', e, fun Hs2 H2 ho2 gx2 hh2 ro2 => q Hs2 H2 ho2 (gx.trans gx2 (gx.none hs hh) ⟨_, hh'⟩) hh2 ro2⟩
theorem a6Q {H : Hp} {y : V} {d : D} (q : Rep Γ H d y) : ∀ {ns : List Str} {ds : List D} {xs : List V}, ns.length = ds.length → RepL Γ H ds xs → ∃ xs', putF f y (ns.zip xs) = (putN f ns).zip xs' ∧ RepL Γ H (putD f d ns ds) xs'
  | [], ds, xs, hl, r => by
    refine ⟨[y], ?_, .cons q .nil⟩
    cases xs <;> rfl
  | n :: ns, [], xs, hl, r => by cases hl
  | n :: ns, d0 :: ds, xs, hl, r => by
    obtain ⟨x, r', rfl, qx, t⟩ := a0m.mp r
    unfold putN putD
    rw [List.zip_cons_cons]
    by_cases hn : n = f
    · rw [if_pos hn, if_pos hn]
      refine ⟨y :: r', ?_, .cons q t⟩
      show (if n = f then _ else _) = _
      rw [if_pos hn]; rfl
    · rw [if_neg hn, if_neg hn]
      obtain ⟨xs', e1, e2⟩ := a6Q q (Nat.succ.inj hl) t
      refine ⟨x :: xs', ?_, .cons qx e2⟩
      show (if n = f then _ else _) = _
      rw [if_neg hn, e1]; rfl
theorem a7F {cs : List String} {ρ : MEnv} {o o' : O} (h : a4E cs f ge ρ o = some o') : ∃ s c ns ds, ge ρ = some (.ok s) ∧ o = .obj c ns ds ∧ c ∈ cs ∧ ns.length = ds.length ∧ ns.length < 900 ∧ o' = .obj c (putN f ns) (putD f s.val ns ds) := by
  unfold a4E at h
  split at h
  · rename_i s c ns ds e1
    obtain ⟨⟨h1, h2, h3⟩, h4⟩ := a02 h
    exact ⟨s, c, ns, ds, e1, rfl, by simpa using h1, h2, h3, h4.symm⟩
  · cases h
theorem a5D {cs : List String} (hK : X.K = Γ.K) (hC : ∀ c ∈ cs, Cls Γ.K (Γ.cls c) ∧ NoAttr Γ.K (Γ.cls c) f) (hv : PE X (.Name x px) (tVar 0)) (he : PD X Γ W0 e ge) (hs : swapsWith e (some (.Attribute (.Name x px) f pos')) pos.line X.env = pure false := by rfl) : PXD X Γ (.Assign [.Attribute (.Name x px) f pos'] e pos) (a4E cs f ge) :=
  PS.imp (ps_fld hv he hs) fun _ _ σ H En _ ⟨a, B0, B1, Hs, ρ, o, ho, o', re, hb, no, h0, hs0, hh, ro, e, q⟩ => by
    obtain ⟨s, c, ns, ds, e1, rfl, hc, hl, h9, rfl⟩ := a7F e
    refine ⟨B0, B1, Hs, ρ, _, re, e1, fun v Hs' H' g' rs => ?_⟩
    obtain ⟨Hs2, g2, _, rp⟩ := rs.share g'
    obtain ⟨dx, xs, rfl, rl⟩ := ro
    obtain ⟨c1, c2⟩ := hC c hc
    obtain ⟨xs', e2, r2⟩ := a6Q (f := f) rp hl (rl.mono g2.s)
    have hs2 : Hs2 a = none := g2.none hs0 hh
    refine ⟨.ref a, h0, a, _, dx, _, rfl, g2.h _ _ hh, hK ▸ c1, hK ▸ c2, ?_, ?_⟩
    · rw [List.length_zip]; exact Nat.lt_of_le_of_lt (Nat.min_le_left _ _) (Nat.lt_trans h9 (by decide))
    · refine q Hs2 _ _ ⟨g2.s, fun b u hb e => ?_, fun b u e => ?_, g2.n⟩ upd_same ⟨dx, xs', by rw [e2], r2⟩
      · rw [upd_ne hb]; exact g2.h _ _ e
      · rw [upd_ne (ne_of_none e hs2)]; exact g2.i _ _ e
theorem a4R : ∀ (gs : List ME) {B0 B1 Hs H : Hp} {σ : L2.St} {ρ : MEnv} {ds : List D}, RE Γ B0 B1 Hs H σ ρ → a3H gs ρ = some ds → a6G Γ W0 gs σ H (fun vs H1 => ∃ Hs1, Grow Hs H Hs1 H1 ∧ RepL Γ Hs1 ds vs)
  | [], B0, B1, Hs, H, σ, ρ, ds, re, e => by
    cases e
    exact ⟨Hs, .refl re.b.i, .nil⟩
  | g :: gs, B0, B1, Hs, H, σ, ρ, ds, re, e => by
    unfold a3H at e
    split at e
    · rename_i s hs
      cases z : a3H gs ρ with
      | none => rw [z] at e; cases e
      | some ds' =>
        rw [z] at e
        cases e
        refine ⟨B0, B1, Hs, ρ, _, re, hs, fun v Hs' H' g' rs => ?_⟩
        obtain ⟨Hs2, g2, _, rp⟩ := rs.share g'
        refine a1A gs (fun vs H2 ⟨Hs3, g3, rl⟩ => ?_) (a4R gs (re.grow g2) z)
        exact ⟨Hs3, g2.trans g3, .cons (rp.mono g3.s) rl⟩
    · cases e
theorem pe_base {t : TA} {pl : Sem Bool} {fa : Addr} {fd : FuncData} {sp : Sp} {C : Addr} (G : FnOk X.prog X.w X.K X.mg X.base CX0 k fa fd ps sp) (hb : Binds X.K fd ps []) (hk : PySem.W.keepIn X.K (.ref fa) = true) (hf : PySem.W.findCls X.K (.ref C) (.type "type") m = some (.val (.ref fa)))
    (hm : X.mg x = some (.ref C)) (hsp : PySem.W.specialIn X.K (.ref C) "__getattribute__" = some (some (.builtin "type.__getattribute__"))) (hrd : PySem.W.readsIn X.K C (.type "type") = true) (hr : Room k X.A) (hg : Gl X x) (ha : PA X (e :: es) t)
    (hdb : (x == ("__debug__" : Str)) = false := by decide) (hst : starEach (e :: es) X.env = (false, eval e X.env) :: starEach es X.env := by rfl) (hpl : (backTo pos (starEach es X.env)).any (·.1) = false := by rfl)
    (ht : eval (.Call (.Attribute (.Name x p) m apos) (e :: es) [] pos) X.env = (do
      let ov ← eval (.Name x p) X.env
      standAt apos.atName
      let (f, first) ← holding [ov] (getMethod ov m pl)
      callWith pos f first (backTo pos (starEach (e :: es) X.env)) (backToKw pos (keywordEach [] X.env))) := by rfl) :
    PE X (.Call (.Attribute (.Name x p) m apos) (e :: es) [] pos) (tCall sp [] E0 t) := by
  intro pins s σ H Q I h
  refine PySem.W.methodCall_KW (pl := pl) (ld_glob I hg hm ?_ hdb) ht
  refine PySem.W.method_cls I.kIn hsp (PySem.W.cls_value I.kIn hrd hf (by rfl) ?_)
  have I1 := I.tok (s.toks + 1)
  refine PySem.W.callWith_K (first := []) (h₀ := X.base) I.ok.mod.kin hk (thn (ha pos pins _ σ H _ I1 h) fun us s2 ⟨vs, H2, I2, rr, q2⟩ => ⟨I2.kIn, ?_⟩) hst hpl
  exact run_fn (E := E0) (ds := []) (dvs := []) G hr hb .nil pass0 I2 rr q2
theorem a2h {pl : Sem Bool} (h : a1e X.prog X.w X.K X.mg X.base Γ k c x ps F) (hr : Room k X.A) (hg : Gl X x) (hv : PE X (.Name y px) (tVar 0)) (ha : PAD X Γ W0 es gs)
    (hsw : swapsWith (.Call (.Attribute (.Name x p) "__init__" apos) (.Name y px :: es) [] cpos) none pos.line X.env = pure false := by rfl)
    (hdb : (x == ("__debug__" : Str)) = false := by decide) (hst : starEach (.Name y px :: es) X.env = (false, eval (.Name y px) X.env) :: starEach es X.env := by rfl) (hpl : (backTo cpos (starEach es X.env)).any (·.1) = false := by rfl)
    (ht : eval (.Call (.Attribute (.Name x p) "__init__" apos) (.Name y px :: es) [] cpos) X.env = (do
      let ov ← eval (.Name x p) X.env
      standAt apos.atName
      let (f, first) ← holding [ov] (getMethod ov "__init__" pl)
      callWith cpos f first (backTo cpos (starEach (.Name y px :: es) X.env)) (backToKw cpos (keywordEach [] X.env))) := by rfl) :
    PXD X Γ (.Expr (.Call (.Attribute (.Name x p) "__init__" apos) (.Name y px :: es) [] cpos) pos) (a3b F gs) := by
  obtain ⟨fa, fd, G, hb, hk, M, hf⟩ := h.ex
  exact PS.imp (ps_expr (pe_base (pl := pl) G hb hk hf h.at_ h.sp h.rd hr hg (pa_cons hv ha hst) hdb hst hpl ht) hsw) fun _ _ σ H En _ ⟨a, B0, B1, Hs, ρ, o, ho, o', re, hb, no, h0, hs0, hh, ro, e, q⟩ => by
    unfold a3b at e
    cases z : a3H gs ρ with
    | none => rw [z] at e; cases e
    | some ds =>
      rw [z] at e
      refine ⟨.ref a, h0, a1A gs (fun vs H1 ⟨Hs1, g1, rl⟩ => ?_) (a4R gs re z)⟩
      refine ⟨a, vs, Hs1, o, ho, ds, o', by rw [List.append_nil], g1.i, g1.none hs0 hh, g1.h _ _ hh, ro.mono g1.s, rl, e, fun Hs' H' ho' gx hh' ro' => ?_⟩
      exact q Hs' H' ho' (a4u.trans (Grow.x g1) gx (g1.none hs0 hh) ⟨_, g1.h _ _ hh⟩) hh' ro'
end
theorem a8a {Γ : Ct} {Hs H : Hp} (sm : Same Hs H) {N : List Str} {ds : List D} {vs : List V} {v0 : V} (hN : 0 < N.length) (rl : RepL Γ Hs ds vs) : RE Γ Hs Hs Hs H (L2.start N (v0 :: vs)) (none :: a14 (N.length - 1) ds) := by
  have q := a6P (Γ := Γ) sm (N := N.tail) rl
  have e1 : L2.start N (v0 :: vs) = some v0 :: L2.start N.tail vs := by
    unfold L2.start
    rw [List.map_cons, List.length_cons, List.length_tail, List.cons_append]
    congr 3
    omega
  have e2 : N.tail.length = N.length - 1 := List.length_tail
  rw [e2] at q
  rw [e1]
  refine ⟨⟨.refl _, sm, sm, fun _ _ z => .inl z⟩, fun i d e => ?_, fun i o e => ?_, fun i j o u a ij e f => ?_, by rw [List.length_cons, List.length_cons, q.len]⟩
  · cases i with
    | zero => cases e
    | succ i => exact q.sh i d e
  · cases i with
    | zero => cases e
    | succ i =>
      obtain ⟨a, ho, f1, f2, f3, f4, f5⟩ := q.own i o e
      exact ⟨a, ho, f1, sm.free f2, f3, f4, f5⟩
  · cases i with
    | zero => cases e
    | succ i =>
      cases j with
      | zero => cases f
      | succ j => exact q.apart i j o u a (fun z => ij (by rw [z])) e f
theorem a7V (n : Nat) (ds : List D) (i : Nat) (u : O) : (none :: a14 n ds)[i]? ≠ some (some (.own u)) := by
  cases i with
  | zero => intro e; cases e
  | succ i =>
    intro e
    have e : (a14 n ds)[i]? = some (some (.own u)) := e
    unfold a14 at e
    by_cases hi : i < ds.length
    · rw [List.getElem?_append_left (by simpa using hi), List.getElem?_map, List.getElem?_eq_getElem hi] at e
      cases e
    · rw [List.getElem?_append_right (by simpa using hi), List.getElem?_replicate] at e
      split at e <;> cases e
theorem fn_I {P : Program} {w : World} {K : PySem.W.Frag} {mg : Str → Option Value} {base : Heap} {Γ : Ct} {x qual : Str} {st : Stmt} {f : Addr} {fd : FuncData} {N ps : List Str} {k : Nat} {g : MG} (F : Fun K x qual st f fd) (S : FnScope N ps (defScope st)) (hN : 0 < N.length)
    (body : ∀ (cdv : Value) (A : Around) (outer : List PySem.Env) (s : Shared) (H : Hp) (E : XK), Room k (A.deeper (envOfC qual (defScope st) s.heap.objs.size f cdv)) → PXsD (cxOf CX0 P w K mg base N qual (defScope st) f cdv A outer s H E).nox Γ (defBody st) g) :
    FnOk P w K mg base CX0 (k + 1) f fd ps (spI Γ (fnI ps.length N.length g)) := by
  refine F.ok S (fun vs H Q E ⟨a, xs, Hs, o, ho, ds, o', ev, sm, hs, hh, ro, rl, e, q⟩ => ?_) (fun cdv A outer s H vs Q E hr ⟨a, xs, Hs, o, ho, ds, o', ev, sm, hs, hh, ro, rl, e, q⟩ => ?_)
  · subst ev
    unfold fnI at e
    obtain ⟨h1, _⟩ : ds.length + 1 = ps.length ∧ True := by
      by_cases z : ds.length + 1 = ps.length
      · exact ⟨z, trivial⟩
      · rw [if_neg z] at e; cases e
    rw [List.length_cons, ← rl.length, h1]
  · subst ev
    unfold fnI at e
    by_cases z : ds.length + 1 = ps.length
    · rw [if_pos z] at e
      refine ⟨tX Γ g, body cdv A outer s H E hr, a, Hs, Hs, Hs, _, o, ho, o', a8a sm hN rl, hs, a7V _ _, ?_, hs, hh, ro, e, q⟩
      rfl
    · rw [if_neg z] at e; cases e
end L3
namespace L3
open PySem PySem.Spec PyProof.Rows L2
section
variable {X : Cx} {Γ : Ct} {W : XW} {i : Nat} {x : Str} {e ek : Expr} {ge gk : ME} {px tpos pos : Pos}
end
end L3
namespace L3
open PySem PySem.Spec PyProof.Rows L2
structure a55 (K : PySem.W.Frag) (cls : String → Addr) (m qual : Str) (st : Stmt) (ps : List Str) (cs : List String) : Prop where
  ex : ∃ f fd, Fun K m qual st f fd ∧ Binds K fd ps [] ∧ ∀ c ∈ cs, Cls K (cls c) ∧ Meth K (cls c) m f
structure a1V (K : PySem.W.Frag) (mg : Str → Option Value) (cls : String → Addr) (c : String) (x qual : Str) (st : Stmt) (ps : List Str) : Prop where
  ex : ∃ f fd, Fun K "__init__" qual st f fd ∧ Binds K fd ps [] ∧ Mk K (cls c) f ∧ PySem.W.findCls K (.ref (cls c)) (.type "type") "__init__" = some (.val (.ref f))
  at_ : mg x = some (.ref (cls c))
  sp : PySem.W.specialIn K (.ref (cls c)) "__getattribute__" = some (some (.builtin "type.__getattribute__"))
  rd : PySem.W.readsIn K (cls c) (.type "type") = true
section
variable {P : Program} {w : World} {K : PySem.W.Frag} {mg : Str → Option Value} {base : Heap} {Γ : Ct}
theorem a4h {x qual : Str} {st : Stmt} {N ps : List Str} {k : Nat} {g : MC} {cs : List String} (L : a55 K Γ.cls x qual st ps cs) (S : FnScope N ps (defScope st))
    (body : ∀ (f : Addr) (cdv : Value) (A : Around) (outer : List PySem.Env) (s : Shared) (H : Hp) (E : XK), Room k (A.deeper (envOfC qual (defScope st) s.heap.objs.size f cdv)) → PSsD (cxOf CX0 P w K mg base N qual (defScope st) f cdv A outer s H E).nox Γ W0 (defBody st) g) :
    a5s P w K mg base Γ (k + 1) x ps (fnD ps.length N.length g) cs := by
  obtain ⟨f, fd, F, hb, hc⟩ := L.ex
  exact ⟨f, fd, fn_D F S (body f), hb, hc⟩
theorem a05 {x qual : Str} {c : String} {st : Stmt} {N ps : List Str} {k : Nat} {g : MG} (L : a1V K mg Γ.cls c x qual st ps) (S : FnScope N ps (defScope st)) (hN : 0 < N.length)
    (body : ∀ (f : Addr) (cdv : Value) (A : Around) (outer : List PySem.Env) (s : Shared) (H : Hp) (E : XK), Room k (A.deeper (envOfC qual (defScope st) s.heap.objs.size f cdv)) → PXsD (cxOf CX0 P w K mg base N qual (defScope st) f cdv A outer s H E).nox Γ (defBody st) g) :
    a1e P w K mg base Γ (k + 1) c x ps (fnI ps.length N.length g) := by
  obtain ⟨f, fd, F, hb, hm, hf⟩ := L.ex
  exact ⟨⟨f, fd, fn_I F S hN (body f), hb, F.kp, hm, hf⟩, L.at_, L.sp, L.rd⟩
theorem a5d {cls : String → Addr} {x qual : Str} {st : Stmt} {ps : List Str} {f : Addr} {oc : Value} {od an : Option Addr} {osl : Array (Option Value)} {kV doc pm cdv ct : Value} {cs : List String}
    (l : K.lookup f = some ⟨oc, od, .func (PySem.W.fnOf x qual (defArgs st) (defBody st) (defScope st) .none kV doc pm an cdv ct), osl⟩) (c : PySem.W.codeIn K cdv qual = true) (k : PySem.W.keepIn K (.ref f) = true) (i : PySem.W.isFn K (.ref f) = true)
    (hb : ∀ (kV doc pm : Value) (an : Option Addr) (cdv ct : Value) (us : List Value), us.length = ps.length → bindArgs (PySem.W.fnOf x qual (defArgs st) (defBody st) (defScope st) .none kV doc pm an cdv ct) ⟨us, []⟩ = pure (ps.zip us))
    (hc : ∀ c ∈ cs, Cls K (cls c) ∧ PySem.W.findIn K (.ref (cls c)) x = some (some (.ref f))) : a55 K cls x qual st ps cs :=
  ⟨f, _, fun_mk l c k, (fun_mk l c k).binds hb, fun c h => ⟨(hc c h).1, (hc c h).2, i, k⟩⟩
theorem a1w {h : Heap} (X : K.In h) (G : h.Ns mainGlobals mg) {cls : String → Addr} {cn : String} {C : Addr} (ec : cls cn = C) {x qual : Str} {st : Stmt} {ps : List Str} {f : Addr} {oc : Value} {od an : Option Addr} {osl : Array (Option Value)} {kV doc pm cdv ct : Value}
    (a : PySem.W.nsIn K mainGlobals x = some (some (.ref C))) (fi : PySem.W.findIn K (.ref C) "__init__" = some (some (.ref f)))
    (l : K.lookup f = some ⟨oc, od, .func (PySem.W.fnOf "__init__" qual (defArgs st) (defBody st) (defScope st) .none kV doc pm an cdv ct), osl⟩) (c : PySem.W.codeIn K cdv qual = true) (k : PySem.W.keepIn K (.ref f) = true) (i : PySem.W.isFn K (.ref f) = true)
    (mk : PySem.W.makesIn K C = true) (kc : PySem.W.keepIn K (.ref C) = true) (fc : PySem.W.findCls K (.ref C) (.type "type") "__init__" = some (.val (.ref f)))
    (sp : PySem.W.specialIn K (.ref C) "__getattribute__" = some (some (.builtin "type.__getattribute__"))) (rd : PySem.W.readsIn K C (.type "type") = true)
    (hb : ∀ (kV doc pm : Value) (an : Option Addr) (cdv ct : Value) (us : List Value), us.length = ps.length → bindArgs (PySem.W.fnOf "__init__" qual (defArgs st) (defBody st) (defScope st) .none kV doc pm an cdv ct) ⟨us, []⟩ = pure (ps.zip us)) : a1V K mg cls cn x qual st ps := by
  subst ec
  exact ⟨⟨f, _, fun_mk l c k, (fun_mk l c k).binds hb, ⟨mk, fi, i, kc⟩, fc⟩, PySem.W.mg_of X G a, sp, rd⟩
end
theorem a2Q {α : Type} {p : α → Prop} : ∀ c ∈ ([] : List α), p c := fun _ h => nomatch h
theorem all_cons {α : Type} {p : α → Prop} {a : α} {l : List α} (h : p a) (t : ∀ c ∈ l, p c) : ∀ c ∈ a :: l, p c := fun c hc => by
  rcases List.mem_cons.mp hc with rfl | h'
  · exact h
  · exact t c h'
def clsF : List (String × Addr) → String → Addr
  | [], _ => 0
  | (c, a) :: r, s => if s = c then a else clsF r s
theorem a2b {c : String} {a : Addr} {r : List (String × Addr)} : clsF ((c, a) :: r) c = a := by unfold clsF; rw [if_pos rfl]
theorem a0i {c s : String} {a b : Addr} {r : List (String × Addr)} (h : s ≠ c) (t : clsF r s = b) : clsF ((c, a) :: r) s = b := by unfold clsF; rw [if_neg h]; exact t
end L3
namespace L3
open PySem PySem.Spec PyProof.Rows L2
structure IsTab (K : PySem.W.Frag) (cls : String → Addr) (C : Addr) (mg : Str → Option Value) (x : Str) (tb : String → Option Bool) : Prop where
  ok : ∀ c b, tb c = some b → Cls K (cls c) ∧ (PySem.W.findIn K (.ref (cls c)) "__class__" = some (some (.builtin "object.__class__")) ∧ PySem.W.specialIn K (.builtin "object.__class__") "__get__" = some (some (.builtin "getset_descriptor.__get__")) ∧ PySem.W.takesIn K (.builtin "object.__class__") = some true ∧ PySem.W.mroIn K (cls c) (.type "object") = some true) ∧ PySem.W.kitOne K (.ref (cls c)) (.ref C) = some b
  at_ : mg x = some (.ref C)
section
variable {X : Cx} {Γ : Ct} {W : XW}
end
end L3
namespace L3
open PySem PySem.Spec PyProof.Rows L2
section
variable {X : Cx} {Γ : Ct} {W : XW}
theorem opd_mulS : OpR X (binaryOp .Mult) (rD Γ W dMulS) := fun pins s σ H x y v u Q I rx ry ⟨Hs, d1, d2, r, sm, r1, r2, e, q⟩ => by
  cases d1 with
  | str z =>
    cases d2 with
    | int n =>
      have e' : (if z.length = 1 ∧ (n = 1 ∨ n = 2) then okD (.str (if n = 1 then z else ⟨z.cps ++ z.cps⟩)) else none) = some r := e
      by_cases hc : z.length = 1 ∧ (n = 1 ∨ n = 2)
      · rw [if_pos hc] at e'
        cases e'
        obtain rfl := a0u.mp r1
        obtain rfl := a0g.mp r2
        obtain ⟨t, rfl⟩ := rx
        obtain ⟨t', rfl⟩ := ry
        have fin : ∀ (z' : Str) (s' : Shared) (tk : Tok), z' = (if n = 1 then z else ⟨z.cps ++ z.cps⟩) → Inv X pins σ H s' → EP X pins σ Q (.str z' tk) s' := fun z' s' tk hz I' => by subst hz; exact ⟨.str _, H, I', ⟨tk, rfl⟩, retS sm q (a0u.mpr rfl)⟩
        rcases hc.2 with rfl | rfl
        · exact P.mul_str (by decide) (fun _ h => absurd h (by simp)) (fun _ h => absurd h (by simp)) (by
            rw [if_neg (by decide), if_pos (by simp)]
            exact fin z s t rfl I)
        · refine P.mul_str (by decide) (fun _ _ => by rw [hc.1]; decide) (fun _ _ => by rw [hc.1]; decide) ?_
          rw [if_neg (by decide), if_neg (by rw [hc.1]; decide)]
          refine ⟨?_, fin _ _ _ ?_ (I.tok _)⟩
          · have h1 : z.cps.size = 1 := hc.1
            have h2 : (List.foldl (fun x1 x2 : Array Nat => x1 ++ x2) #[] [z.cps, z.cps]).size = 2 := by simp [h1]
            exact Nat.le_trans (Nat.le_of_eq h2) (by decide)
          · show (⟨List.foldl (· ++ ·) #[] [z.cps, z.cps]⟩ : Str) = _
            simp
      · rw [if_neg hc] at e'; cases e'
    | non => cases e
    | bl _ => cases e
    | str _ => cases e
    | tup _ => cases e
    | lst _ => cases e
    | obj _ _ _ => cases e
  | non => cases e
  | bl _ => cases e
  | int _ => cases e
  | tup _ => cases e
  | lst _ => cases e
  | obj _ _ _ => cases e
end
end L3
namespace L3
open PySem PySem.Spec PyProof.Rows L2
end L3
namespace L3
open PySem PySem.Spec PyProof.Rows L2
section
variable {X : Cx} {Γ : Ct} {W : XW} {es : List Expr} {gs : List ME} {g : ME} {pos : Pos}
theorem padC {c j} (h : PD X Γ W (.Constant c j pos) g) (t : PAD X Γ W es gs) : PAD X Γ W (.Constant c j pos :: es) (g :: gs) := a0Y h t rfl
theorem padN {x} (h : PD X Γ W (.Name x pos) g) (t : PAD X Γ W es gs) : PAD X Γ W (.Name x pos :: es) (g :: gs) := a0Y h t rfl
theorem padB {a op b} (h : PD X Γ W (.BinOp a op b pos) g) (t : PAD X Γ W es gs) : PAD X Γ W (.BinOp a op b pos :: es) (g :: gs) := a0Y h t rfl
theorem padS {a b} (h : PD X Γ W (.Subscript a b pos) g) (t : PAD X Γ W es gs) : PAD X Γ W (.Subscript a b pos :: es) (g :: gs) := a0Y h t rfl
theorem padK {f as ks} (h : PD X Γ W (.Call f as ks pos) g) (t : PAD X Γ W es gs) : PAD X Γ W (.Call f as ks pos :: es) (g :: gs) := a0Y h t rfl
theorem padT {xs c} (h : PD X Γ W (.Tuple xs c pos) g) (t : PAD X Γ W es gs) : PAD X Γ W (.Tuple xs c pos :: es) (g :: gs) := a0Y h t rfl
theorem padU {op a} (h : PD X Γ W (.UnaryOp op a pos) g) (t : PAD X Γ W es gs) : PAD X Γ W (.UnaryOp op a pos :: es) (g :: gs) := a0Y h t rfl
end
end L3
namespace L3
open PySem PySem.Spec PyProof.Rows L2
def a7a : PySem.Expr → Option D
  | .Constant (.str s) _ _ => some (.str s)
  | .Constant (.int i) _ _ => some (.int i)
  | _ => none
def dsOf : List PySem.Expr → Option (List D)
  | [] => some []
  | e :: es => match a7a e, dsOf es with
    | some d, some ds => some (d :: ds)
    | _, _ => none
theorem pd_const {X : Cx} {Γ : Ct} {W : XW} {e : PySem.Expr} {d : D} (h : a7a e = some d) : PD X Γ W e (eC d) ∧ ∀ es : List PySem.Expr, starEach (e :: es) X.env = (false, eval e X.env) :: starEach es X.env := by
  unfold a7a at h
  split at h
  · cases h; exact ⟨a0H, fun _ => rfl⟩
  · cases h; exact ⟨a0f, fun _ => rfl⟩
  · cases h
theorem a3U {X : Cx} {Γ : Ct} {W : XW} : ∀ {es : List PySem.Expr} {ds : List D}, dsOf es = some ds → PAD X Γ W es (ds.map eC)
  | [], ds, h => by cases h; exact a0c
  | e :: es, ds, h => by
    unfold dsOf at h
    cases h1 : a7a e with
    | none => rw [h1] at h; cases h
    | some d =>
      cases h2 : dsOf es with
      | none => rw [h1, h2] at h; cases h
      | some ds' =>
        rw [h1, h2] at h
        cases h
        obtain ⟨p, st⟩ := pd_const (X := X) (Γ := Γ) (W := W) h1
        exact a0Y p (a3U h2) (st es)
end L3
namespace L3
open PySem PySem.Spec PyProof.Rows L2
section
variable {X : Cx} {Γ : Ct} {W : XW} {a b : Expr} {ga gb : ME} {pos : Pos}
end
end L3
namespace L3
open PySem PySem.Spec PyProof.Rows L2
section
variable {X : Cx} {Γ : Ct} {W : XW}
theorem psS {i : Nat} {x : Str} {pos' pos : Pos} {e : Expr} {ge : ME} (hN : X.N.Nodup) (hi : X.N[i]? = some x) (he : PD X Γ W e ge) (hx : Loc X.env.scope x := by first | exact Or.inl rfl | exact Or.inr rfl) (hs : swapsWith e (some (.Name x pos')) pos.line X.env = pure false := by rfl)
    (hf : X.fn x = true ∨ X.env.scope.names.lookup x = some .local := by first | exact .inl rfl | exact .inr rfl | assumption) : PSD X Γ W (.Assign [.Name x pos'] e pos) (sSet i ge) := psd_set hN hi hx he hs hf
theorem pbN {j : Nat} {x : Str} {pos : Pos} (hN : X.N.Nodup) (hi : X.N[j]? = some x) (hx : Loc X.env.scope x := by first | exact Or.inl rfl | exact Or.inr rfl) (hf : X.fn x = true ∨ X.env.scope.names.lookup x = some .local := by first | exact .inl rfl | exact .inr rfl | assumption) : PBD X Γ (.Name x pos) [j] (a1k j) := pbd_name hN hi hx hf
end
end L3
namespace L3
open PySem PySem.Spec PyProof.Rows L2 PySem.SeqAt
section
variable {X : Cx} {Γ : Ct} {W : XW} {pins : List (Addr × Obj)} {σ : L2.St} {H : Hp} {s : Shared}
theorem a4m (n : Nat) (ih : ∀ (d1 d2 : D) (b : Bool) (v : V), eqX n d1 d2 = some b → Rep Γ H d1 v → Rep Γ H d2 v → b = true) : ∀ (xs ys : List D) (vs : List V) (b : Bool), eqXs (eqX n) xs ys = some b → RepL Γ H xs vs → RepL Γ H ys vs → b = true
  | [], [], vs, b, h, _, _ => by cases h; rfl
  | [], y :: ys, vs, b, h, r1, r2 => by
    obtain ⟨z, r, e, _, _⟩ := a0m.mp r2
    rw [a1a.mp r1] at e; cases e
  | x :: xs, [], vs, b, h, r1, r2 => by
    obtain ⟨z, r, e, _, _⟩ := a0m.mp r1
    rw [a1a.mp r2] at e; cases e
  | x :: xs, y :: ys, vs, b, h, r1, r2 => by
    obtain ⟨z, r, e, p1, t1⟩ := a0m.mp r1
    obtain ⟨z', r', e', p2, t2⟩ := a0m.mp r2
    rw [e] at e'
    cases e'
    have h : (eqX n x y).bind (fun b => (eqXs (eqX n) xs ys).bind fun c => some (b && c)) = some b := h
    cases h1 : eqX n x y with
    | none => rw [h1] at h; cases h
    | some b1 =>
      rw [h1] at h
      cases h2 : eqXs (eqX n) xs ys with
      | none => rw [h2] at h; cases h
      | some b2 =>
        rw [h2] at h
        cases h
        rw [ih x y b1 z h1 p1 p2, a4m n ih xs ys r b2 h2 t1 t2]
        rfl
theorem a5j (hK : X.K = Γ.K) (I : Inv X pins σ H s) : ∀ (n : Nat) (d1 d2 : D) (b : Bool) (v : V), eqX n d1 d2 = some b → Rep Γ H d1 v → Rep Γ H d2 v → b = true
  | 0, _, _, _, _, h, _, _ => by cases h
  | n + 1, d1, d2, b, v, h, r1, r2 => by
    have ih := a5j hK I n
    cases d1 with
    | int i =>
      cases d2 with
      | int j =>
        cases h
        have := (a0g.mp r1).symm.trans (a0g.mp r2)
        cases this
        exact beq_self_eq_true _
      | _ => cases h
    | str x =>
      cases d2 with
      | str y =>
        cases h
        have := (a0u.mp r1).symm.trans (a0u.mp r2)
        cases this
        exact beq_self_eq_true _
      | _ => cases h
    | tup xs =>
      cases d2 with
      | tup ys =>
        obtain ⟨a, vs, rfl, q1, l1⟩ := a0K.mp r1
        obtain ⟨a', ws, e, q2, l2⟩ := a0K.mp r2
        cases e
        have e := I.seqX_inj (b := false) (show SqX X.K H false a vs by rw [hK]; exact q1) (show SqX X.K H false a ws by rw [hK]; exact q2)
        subst e
        exact a4m n ih xs ys vs b h l1 l2
      | _ => cases h
    | lst xs =>
      cases d2 with
      | lst ys =>
        obtain ⟨a, vs, rfl, q1, l1⟩ := a0L.mp r1
        obtain ⟨a', ws, e, q2, l2⟩ := a0L.mp r2
        cases e
        have e := I.seqX_inj (b := true) (show SqX X.K H true a vs by rw [hK]; exact q1) (show SqX X.K H true a ws by rw [hK]; exact q2)
        subst e
        have h : (if xs.length = ys.length then eqXs (eqX n) xs ys else some false) = some b := h
        rw [if_pos (l1.length.trans l2.length.symm)] at h
        exact a4m n ih xs ys vs b h l1 l2
      | _ => cases h
    | non => cases d2 <;> cases h
    | bl _ => cases d2 <;> cases h
    | obj _ _ _ => cases d2 <;> cases h
theorem a22 (n : Nat) {A : Around} (ih : ∀ (d1 d2 : D) (b : Bool) (x y : V) (v u : Value), eqX n d1 d2 = some b → Rep Γ H d1 x → Rep Γ H d2 y → RelV x v → RelV y u → EqAt A s v u b) {xs ys : List D} {vs ws : List V} {its its2 : List Value} {b : Bool} (h : eqXs (eqX n) xs ys = some b) (l1 : RepL Γ H xs vs) (l2 : RepL Γ H ys ws) (r1 : Vals vs its) (r2 : Vals ws its2) :
    ∀ j (h1 : j < its.toArray.size) (h2 : j < its2.toArray.size), EqAt A s its.toArray[j] its2.toArray[j] (((xs[j]?).bind fun x => (ys[j]?).bind fun y => eqX n x y) == some true) := by
  intro j h1 h2
  have e1 := l1.length; have e2 := l2.length; have e3 := r1.length; have e4 := r2.length
  rw [List.size_toArray] at h1 h2
  have hx : xs[j]? = some xs[j] := List.getElem?_eq_getElem (by omega)
  have hy : ys[j]? = some ys[j] := List.getElem?_eq_getElem (by omega)
  obtain ⟨c, hc⟩ := a8M _ xs ys b h j _ _ hx hy
  obtain ⟨x, ex, rx⟩ := l1.get hx
  obtain ⟨y, ey, ry⟩ := l2.get hy
  obtain ⟨v, ev, rv⟩ := r1.get ex
  obtain ⟨u, eu, ru⟩ := r2.get ey
  have ev' : its[j] = v := by rw [List.getElem?_eq_getElem h1] at ev; exact Option.some.inj ev
  have eu' : its2[j] = u := by rw [List.getElem?_eq_getElem h2] at eu; exact Option.some.inj eu
  rw [hx, hy]
  show EqAt A s its[j] its2[j] (eqX n xs[j] ys[j] == some true)
  rw [hc, ev', eu', show (some c == some true) = c by cases c <;> rfl]
  exact ih _ _ c x y v u hc rx ry rv ru
theorem a66 (hK : X.K = Γ.K) (I : Inv X pins σ H s) : ∀ (n : Nat) (A : Around), A.units + n < cLine → ∀ (d1 d2 : D) (b : Bool) (x y : V) (v u : Value), eqX n d1 d2 = some b → Rep Γ H d1 x → Rep Γ H d2 y → RelV x v → RelV y u → EqAt A s v u b
  | 0, _, _, _, _, _, _, _, _, _, h, _, _, _, _ => by cases h
  | n + 1, A, hu, d1, d2, b, x, y, v, u, h, r1, r2, rx, ry => by
    have ih := a66 hK I n A.in1 (by show A.units + 1 + n < cLine; omega)
    cases d1 with
    | int i =>
      cases d2 with
      | int j =>
        cases h
        rw [a0g.mp r1] at rx; rw [a0g.mp r2] at ry
        obtain ⟨t, rfl⟩ := rx; obtain ⟨t', rfl⟩ := ry
        exact EqAt.int_int i t j t'
      | _ => cases h
    | str z =>
      cases d2 with
      | str z' =>
        cases h
        rw [a0u.mp r1] at rx; rw [a0u.mp r2] at ry
        obtain ⟨t, rfl⟩ := rx; obtain ⟨t', rfl⟩ := ry
        exact EqAt.str_str z t z' t'
      | _ => cases h
    | tup xs =>
      cases d2 with
      | tup ys =>
        obtain ⟨a, vs, rfl, q1, l1⟩ := a0K.mp r1
        obtain ⟨a', ws, rfl, q2, l2⟩ := a0K.mp r2
        cases rx; cases ry
        by_cases c : a = a'
        · subst c
          rw [a5j hK I (n + 1) (.tup xs) (.tup ys) b (.ref a) h r1 r2]
          exact EqAt.same _
        · obtain ⟨its, v1, p1, _⟩ := I.tuple (by rw [hK]; exact q1)
          obtain ⟨its2, v2, p2, _⟩ := I.tuple (by rw [hK]; exact q2)
          have e := RcAt.tuples p1 p2 (A := A) (by omega) (a22 n ih h l1 l2 v1 v2)
          rw [List.size_toArray, List.size_toArray, ← v1.length, ← v2.length, ← l1.length, ← l2.length, ← a3G _ xs ys b h] at e
          exact EqAt.of_refs c e
      | _ => cases h
    | lst xs =>
      cases d2 with
      | lst ys =>
        obtain ⟨a, vs, rfl, q1, l1⟩ := a0L.mp r1
        obtain ⟨a', ws, rfl, q2, l2⟩ := a0L.mp r2
        cases rx; cases ry
        by_cases c : a = a'
        · subst c
          rw [a5j hK I (n + 1) (.lst xs) (.lst ys) b (.ref a) h r1 r2]
          exact EqAt.same _
        · obtain ⟨its, v1, p1, _⟩ := I.list (by rw [hK]; exact q1)
          obtain ⟨its2, v2, p2, _⟩ := I.list (by rw [hK]; exact q2)
          have h : (if xs.length = ys.length then eqXs (eqX n) xs ys else some false) = some b := h
          have s1 : its.toArray.size = xs.length := by rw [List.size_toArray, ← v1.length, ← l1.length]
          have s2 : its2.toArray.size = ys.length := by rw [List.size_toArray, ← v2.length, ← l2.length]
          by_cases hl : xs.length = ys.length
          · rw [if_pos hl] at h
            have e := RcAt.lists p1.isList p2.isList (A := A) (by rw [s1, s2, hl]) (by omega) (a22 n ih h l1 l2 v1 v2)
            have ea := a3G _ xs ys b h
            rw [hl, Nat.min_self, beq_self_eq_true, Bool.and_true] at ea
            rw [s1, hl, ← ea] at e
            exact EqAt.of_refs c e
          · rw [if_neg hl] at h
            cases h
            exact EqAt.of_refs c (RcAt.lists_lengths p1.isList p2.isList (by rw [s1, s2]; simpa using hl) (by omega))
      | _ => cases h
    | non => cases d2 <;> cases h
    | bl _ => cases d2 <;> cases h
    | obj _ _ _ => cases d2 <;> cases h
end
end L3
namespace L3
open PySem PySem.Spec PyProof.Rows L2 PySem.SeqAt
section
variable {X : Cx} {Γ : Ct} {W : XW} {pins : List (Addr × Obj)} {σ : L2.St} {H : Hp} {s : Shared}
theorem rcAt_rep (hK : X.K = Γ.K) (I : Inv X pins σ H s) (n : Nat) (A : Around) (hu : A.units + n < cLine) (d1 d2 : D) (b : Bool) (x y : V) (v u : Value) (h : eqX n d1 d2 = some b) (r1 : Rep Γ H d1 x) (r2 : Rep Γ H d2 y) (rx : RelV x v) (ry : RelV y u) : RcAt A s v u b := by
  cases n with
  | zero => cases h
  | succ n =>
    have ih := a66 hK I n A.in1 (by show A.units + 1 + n < cLine; omega)
    cases d1 with
    | int i =>
      cases d2 with
      | int j =>
        cases h
        rw [a0g.mp r1] at rx; rw [a0g.mp r2] at ry
        obtain ⟨t, rfl⟩ := rx; obtain ⟨t', rfl⟩ := ry
        exact RcAt.int_int i t j t'
      | _ => cases h
    | str z =>
      cases d2 with
      | str z' =>
        cases h
        rw [a0u.mp r1] at rx; rw [a0u.mp r2] at ry
        obtain ⟨t, rfl⟩ := rx; obtain ⟨t', rfl⟩ := ry
        exact RcAt.str_str z t z' t'
      | _ => cases h
    | tup xs =>
      cases d2 with
      | tup ys =>
        obtain ⟨a, vs, rfl, q1, l1⟩ := a0K.mp r1
        obtain ⟨a', ws, rfl, q2, l2⟩ := a0K.mp r2
        cases rx; cases ry
        obtain ⟨its, v1, p1, _⟩ := I.tuple (by rw [hK]; exact q1)
        obtain ⟨its2, v2, p2, _⟩ := I.tuple (by rw [hK]; exact q2)
        have e := RcAt.tuples p1 p2 (A := A) (by omega) (a22 n ih h l1 l2 v1 v2)
        rw [List.size_toArray, List.size_toArray, ← v1.length, ← v2.length, ← l1.length, ← l2.length, ← a3G _ xs ys b h] at e
        exact e
      | _ => cases h
    | lst xs =>
      cases d2 with
      | lst ys =>
        obtain ⟨a, vs, rfl, q1, l1⟩ := a0L.mp r1
        obtain ⟨a', ws, rfl, q2, l2⟩ := a0L.mp r2
        cases rx; cases ry
        obtain ⟨its, v1, p1, _⟩ := I.list (by rw [hK]; exact q1)
        obtain ⟨its2, v2, p2, _⟩ := I.list (by rw [hK]; exact q2)
        have h : (if xs.length = ys.length then eqXs (eqX n) xs ys else some false) = some b := h
        have s1 : its.toArray.size = xs.length := by rw [List.size_toArray, ← v1.length, ← l1.length]
        have s2 : its2.toArray.size = ys.length := by rw [List.size_toArray, ← v2.length, ← l2.length]
        by_cases hl : xs.length = ys.length
        · rw [if_pos hl] at h
          have e := RcAt.lists p1.isList p2.isList (A := A) (by rw [s1, s2, hl]) (by omega) (a22 n ih h l1 l2 v1 v2)
          have ea := a3G _ xs ys b h
          rw [hl, Nat.min_self, beq_self_eq_true, Bool.and_true] at ea
          rw [s1, hl, ← ea] at e
          exact e
        · rw [if_neg hl] at h
          cases h
          exact RcAt.lists_lengths p1.isList p2.isList (by rw [s1, s2]; simpa using hl) (by omega)
      | _ => cases h
    | non => cases d2 <;> cases h
    | bl _ => cases d2 <;> cases h
    | obj _ _ _ => cases d2 <;> cases h
end
section
variable {X : Cx} {Γ : Ct} {W : XW}
theorem hu9_of {A : Around} {k n : Nat} (hr : Room k A) (hn : n ≤ 9 := by decide) : A.units + n < cLine := by
  have := hr.un
  omega
theorem opd_eqX {n : Nat} (hK : X.K = Γ.K) (hu : X.A.units + n < cLine) : OpR X (compareOp .Eq) (rD Γ W (dEqX n)) := fun pins s σ H x y v u Q I rx ry ⟨Hs, d1, d2, r, sm, r1, r2, e, q⟩ => by
  have e : (eqX n d1 d2).bind (fun b => okB b) = some r := e
  cases h : eqX n d1 d2 with
  | none => rw [h] at e; cases e
  | some b =>
    rw [h] at e
    cases e
    exact rcAt_rep hK I n X.A hu d1 d2 b x y v u h (r1.mono sm) (r2.mono sm) rx ry X.prog X.w X.xe _ ⟨.bl b, H, I, rfl, retS sm q (a0P.mpr rfl)⟩
variable {i : Nat} {x : Str} {px apos cpos pos : Pos}
theorem psd_retV (hv : PE X (.Name x px) (tVar i)) : PSD X Γ W (.Return (some (.Name x px)) pos) (a79 i) :=
  PS.imp (ps_ret hv) fun pins s σ H En I ⟨B0, B1, Hs, ρ, o, re, eo, q⟩ => by
    unfold a79 at eo
    split at eo
    · rename_i s' hs
      cases eo
      cases s' with
      | sh d =>
        obtain ⟨v, e1, r⟩ := re.sh i d hs
        exact ⟨v, e1, q v Hs H (.refl _) re.b r⟩
      | own u =>
        obtain ⟨a, ho, e1, e2, e3, e4, r⟩ := re.own i u hs
        exact ⟨.ref a, e1, q (.ref a) Hs H (.refl _) re.b ⟨a, ho, rfl, e2, e3, e4, r⟩⟩
    · cases eo
theorem a8c (hv : PE X (.Name x px) (tVar i))
    (hbase : attributeBase (.Name x px) "clear" X.env (eval (.Name x px) X.env) = eval (.Name x px) X.env := by rfl)
    (hline : (apos.endLine == cpos.line) = true := by rfl) (hsw : swapsWith (.Call (.Attribute (.Name x px) "clear" apos) [] [] cpos) none pos.line X.env = pure false := by rfl) :
    PSD X Γ W (.Expr (.Call (.Attribute (.Name x px) "clear" apos) [] [] cpos) pos) (a5C i) :=
  PS.imp (ps_expr (pe_bm0 PySem.F.plainAttrs_list PySem.F.slot_list_clear PySem.F.type_list_clear mt_clear hv hbase hline) hsw) fun pins s σ H En I ⟨B0, B1, Hs, ρ, o, re, eo, q⟩ => by
    obtain ⟨ds, hd, eo⟩ := a5I eo
    obtain ⟨a, ho, e1, e2, e3, e4, xs, rfl, rl⟩ := re.own i _ hd
    cases eo
    exact ⟨.ref a, e1, .inl ⟨rfl, xs, .of e4⟩, a, xs, rfl, rfl, e4, q σ Hs _ (.refl _) (re.write hd e1 ⟨_, rfl, .nil⟩)⟩
end
end L3
namespace L3
open PySem PySem.Spec PyProof.Rows L2
section
variable {Γ : Ct} {W : XW} {js : List Nat} {gi : MI} {bd : MB} {elt : ME}
end
section
variable {X : Cx} {Γ : Ct} {W : XW} {scope : Scope} {vars : List Str} {js : List Nat} {elt tg iter c : Expr} {pos pos' spos px p0 sp apos cpos p1 epos : Pos} {gi : MI} {bd : MB} {ge : ME} {i : Nat} {x : Str} {rest : List Stmt} {g2 : MC} {n : Int}
end
end L3
namespace L3
open PySem PySem.Spec PyProof.Rows L2
section
variable {X : Cx} {Γ : Ct} {W : XW}
theorem a7p {a : Expr} {g : ME} {p pos : Pos} (hK : X.K = Γ.K) (hg : Gl X "sorted") (hm : X.mg "sorted" = none) (ha : PD X Γ W a g)
    (hs1 : starEach [a] X.env = (false, eval a X.env) :: starEach [] X.env := by rfl) (hpl : (backTo pos (starEach [] X.env)).any (·.1) = false := by rfl) :
    PD X Γ W (.Call (.Name "sorted" p) [a] [] pos) (eUn a68 g) :=
  PE.imp (pe_callB a52 hg hm a31 (pa_cons ha pa_nil hs1) (by decide) (by decide) hs1 hpl) fun _ _ σ H Q _ ⟨B0, B1, Hs, ρ, r, re, e, q⟩ => by
    refine (a01 re e q).mono fun v H1 ⟨Hs1, d, g1, re1, rp, e1, q1⟩ => ?_
    obtain ⟨m, n, xs, ys, rfl, ne, rfl⟩ := a7K e1
    obtain ⟨b, vs, rfl, sq, rl⟩ := a0L.mp rp
    obtain ⟨v1, r1, rfl, p1, rl⟩ := a0m.mp rl
    obtain ⟨v2, r2, rfl, p2, rl⟩ := a0m.mp rl
    obtain rfl := a1a.mp rl
    obtain ⟨a1, x1, rfl, s1, q1'⟩ := a0K.mp p1
    obtain ⟨a2, x2, rfl, s2, q2'⟩ := a0K.mp p2
    obtain ⟨i1, t1, rfl, e1', _⟩ := a0m.mp q1'
    obtain ⟨i2, t2, rfl, e2', _⟩ := a0m.mp q2'
    obtain rfl := a0g.mp e1'
    obtain rfl := a0g.mp e2'
    have sm := re1.b.i
    refine ⟨b, a1, a2, m, n, t1, t2, rfl, by rw [hK]; exact Same.seq sm sq, by rw [hK]; exact a0S sm s1, by rw [hK]; exact a0S sm s2, ne, fun l hl => ?_⟩
    refine q1 _ Hs1 _ (.only sm (a0W hl)) ⟨l, _, rfl, hl, sm.free hl, upd_same, _, rfl, ?_⟩
    split
    · exact .cons p1 (.cons p2 .nil)
    · exact .cons p2 (.cons p1 .nil)
end
end L3
namespace L3
open PySem
section
variable {ρ ρ' ρ1 : MEnv} {a b c : ME} {x y : MC} {o : Option Out} {s t : S} {r : Option R}
theorem a0O (h : x ρ = some (.ret s)) : sSeq x y ρ = some (.ret s) := by unfold sSeq; rw [h]
theorem a0b (h : x ρ = some (.next ρ')) (h2 : y ρ' = o) : sSeq x y ρ = o := by unfold sSeq; rw [h]; exact h2
theorem if_t {u v : MC} (h : c ρ = okB true) (h2 : u ρ = o) : sIf c u v ρ = o := by unfold sIf; rw [h]; exact h2
theorem if_f {u v : MC} (h : c ρ = okB false) (h2 : v ρ = o) : sIf c u v ρ = o := by unfold sIf; rw [h]; exact h2
theorem a0B {i : Nat} (h : a ρ = some (.ok s)) : sSet i a ρ = some (.next (ρ.set i (some s))) := by unfold sSet; rw [h]; rfl
theorem a0U (h : a ρ = some (.ok s)) : sRet a ρ = some (.ret s) := by unfold sRet; rw [h]; rfl
theorem a2a {i : Nat} (h : x (dem i ρ) = o) : sDem i x ρ = o := h
theorem a5r {i : Nat} {ds : List D} (h0 : ρ[i]? = some (some (.own (.lst ds)))) (h : a ρ = some (.ok s)) (hl : ds.length < lim) : a2g i a ρ = some (.next (ρ.set i (some (.own (.lst (ds ++ [s.val])))))) := by
  unfold a2g ownL; rw [h0]; dsimp only; rw [h]; dsimp only [a3r]; rw [if_pos hl]
theorem a8K {it : MI} {bd : MB} {body : MC} {ds : List D} (h : it ρ = some (.ok ds)) (h2 : forD bd body ds ρ = o) : sFor it bd body ρ = o := by unfold sFor; rw [h]; exact h2
theorem a0A {np n : Nat} {g : MC} {ds : List D} (hl : ds.length = np) (h : g (a14 n ds) = some (.ret s)) : fnD np n g ds = some (.ok s) := by unfold fnD; rw [if_pos hl, h]; rfl
theorem a0d {f : D → D → Option R} (h1 : a ρ = some (.ok s)) (h2 : b ρ = some (.ok t)) (h3 : f s.val t.val = r) : eBin f a b ρ = r := by unfold eBin; rw [h1]; dsimp only [a0R]; rw [h2]; exact h3
theorem un_e {f : D → Option R} (h1 : a ρ = some (.ok s)) (h3 : f s.val = r) : eUn f a ρ = r := by unfold eUn; rw [h1]; exact h3
theorem a36 (h : a ρ = okB true) (h2 : b ρ = r) : eAnd a b ρ = r := by unfold eAnd; rw [h]; exact h2
theorem a2E (h : a ρ = okB false) : eAnd a b ρ = okB false := by unfold eAnd; rw [h]; rfl
theorem or_t (h : a ρ = okB true) : eOr a b ρ = okB true := by unfold eOr; rw [h]; rfl
theorem or_f (h : a ρ = okB false) (h2 : b ρ = r) : eOr a b ρ = r := by unfold eOr; rw [h]; exact h2
theorem not_e {z : Bool} (h : a ρ = okB z) : eNot a ρ = okB (!z) := by unfold eNot eUn; rw [h]; rfl
theorem a6l (h : a ρ = okB true) : eNot a ρ = okB false := not_e h
theorem a1C {F : List D → Option R} {e1 : ME} {s1 : S} (h1 : e1 ρ = some (.ok s1)) (h : F [s1.val] = r) : a0o F [e1] ρ = r := by unfold a0o a1b; rw [h1]; exact h
theorem a1g {F : List D → Option R} {e1 e2 : ME} {s1 s2 : S} (h1 : e1 ρ = some (.ok s1)) (h2 : e2 ρ = some (.ok s2)) (h : F [s1.val, s2.val] = r) : a0o F [e1, e2] ρ = r := by
  unfold a0o a1b; rw [h1]; dsimp only [a0R]; unfold a1b; rw [h2]; exact h
theorem a2C {F : List D → Option R} {e1 e2 e3 : ME} {s1 s2 s3 : S} (h1 : e1 ρ = some (.ok s1)) (h2 : e2 ρ = some (.ok s2)) (h3 : e3 ρ = some (.ok s3)) (h : F [s1.val, s2.val, s3.val] = r) : a0o F [e1, e2, e3] ρ = r := by
  unfold a0o a1b; rw [h1]; dsimp only [a0R]; unfold a1b; rw [h2]; dsimp only [a0R]; unfold a1b; rw [h3]; exact h
theorem tup2 {e1 e2 : ME} {s1 s2 : S} (h1 : e1 ρ = some (.ok s1)) (h2 : e2 ρ = some (.ok s2)) : eTup [e1, e2] ρ = okD (.tup [s1.val, s2.val]) := a1g h1 h2 rfl
theorem lenB {e1 : ME} {s1 : S} {n : Int} (h1 : e1 ρ = some (.ok s1)) (h : dLen s1.val = okI n) : a0p (f1 dLen) [e1] ρ = okI n := by
  have : a1b [e1] ρ (f1 dLen) = okI n := a1C (F := f1 dLen) h1 h
  unfold a0p; rw [this]; rfl
theorem a2c {i : Nat} {d : D} (h : ρ[i]? = some (some (.sh d))) : eVar i ρ = okD d := by unfold eVar; rw [h]
theorem a35 {i : Nat} (h : ρ[i]? = some (some s)) : eAny i ρ = okD s.val := by unfold eAny; rw [h]
theorem a5V {ds : List D} (h : a ρ = some (.ok s)) (hi : a5e s.val = some ds) : iSeq a ρ = some (.ok ds) := by unfold iSeq; rw [h]; dsimp only; rw [hi]; rfl
theorem a2d {i : Int} (h : a ρ = okI i) (hr : a3E i = true) : a1j a ρ = some (.ok (rng 0 i)) := by unfold a1j iArg; rw [h]; dsimp only [S.val]; rw [if_pos hr]
theorem rep_e {ds : List D} {k : Int} (h1 : a ρ = okL ds) (h2 : b ρ = okI k) (hk : -(2 ^ 60) ≤ k ∧ k < 2 ^ 60 ∧ ds.length * k.toNat ≤ lim) : eRep a b ρ = okL (List.replicate k.toNat ds).flatten := by
  unfold eRep; rw [h1]; dsimp only; rw [h2]; exact if_pos hk
theorem add_int (i j : Int) : dAdd (.int i) (.int j) = okI (i + j) := rfl
theorem sub_int (i j : Int) : dSub (.int i) (.int j) = okI (i - j) := rfl
theorem mul_int {i j : Int} (h : (a3c i || a3c j) = true) : dMul (.int i) (.int j) = okI (i * j) := by unfold dMul; exact if_pos h
theorem a2O {i j : Int} (h : 0 < j) : dMod (.int i) (.int j) = okI (i % j) := by unfold dMod; exact if_pos h
theorem a6M {i : Int} (h1 : -(2 ^ 60) ≤ i) (h2 : i ≤ 2 ^ 60) : a3c i = true := by unfold a3c; simp; omega
theorem mulL {i j : Int} (h1 : -(2 ^ 60) ≤ i) (h2 : i ≤ 2 ^ 60) : dMul (.int i) (.int j) = okI (i * j) := mul_int (by rw [a6M h1 h2]; rfl)
theorem mulR {i j : Int} (h1 : -(2 ^ 60) ≤ j) (h2 : j ≤ 2 ^ 60) : dMul (.int i) (.int j) = okI (i * j) := mul_int (by rw [a6M h1 h2, Bool.or_true])
theorem ix_tup {ds : List D} {d : D} {n : Nat} (h : ds[n]? = some d) : dIx (.tup ds) (.int n) = okD d := by
  have hn : n < ds.length := (List.getElem?_eq_some_iff.mp h).1
  show (atD ds (n : Int)).bind okD = _
  unfold atD ixD
  rw [if_pos (by omega), if_pos (by omega)]
  simp [h]
theorem a04 {ds : List D} {d : D} {n : Nat} (h : ds[n]? = some d) : dIx (.lst ds) (.int n) = okD d := ix_tup h
theorem rng0 (n : Nat) : rng 0 n = (List.range n).map fun k : Nat => D.int k := by
  unfold rng
  rw [Int.sub_zero, Int.toNat_natCast]
  exact List.map_congr_left fun k _ => by rw [Int.zero_add]
theorem a1f {n : Nat} (h : n ≤ 1000000) : a3E (n : Int) = true := by unfold a3E; simp; omega
theorem a62 {bd : MB} {body : MC} (Iv : Nat → MEnv → Prop) : ∀ (ds : List D) (i : Nat) (ρ : MEnv), Iv i ρ → (∀ (k : Nat) (ρ : MEnv) (d : D), ds[k]? = some d → Iv (i + k) ρ → ∃ ρ1 ρ2, bd d ρ = some ρ1 ∧ body ρ1 = some (.next ρ2) ∧ Iv (i + k + 1) ρ2) →
    ∃ ρ', forD bd body ds ρ = some (.next ρ') ∧ Iv (i + ds.length) ρ'
  | [], i, ρ, h, _ => ⟨ρ, rfl, h⟩
  | d :: ds, i, ρ, h, hs => by
    obtain ⟨ρ1, ρ2, e1, e2, h2⟩ := hs 0 ρ d rfl h
    obtain ⟨ρ', e3, h3⟩ := a62 Iv ds (i + 1) ρ2 h2 fun k ρ d' e hk => by
      obtain ⟨r1, r2, f1, f2, f3⟩ := hs (k + 1) ρ d' (by simpa using e) (by rw [show i + (k + 1) = i + 1 + k by omega]; exact hk)
      exact ⟨r1, r2, f1, f2, by rw [show i + 1 + k + 1 = i + (k + 1) + 1 by omega]; exact f3⟩
    refine ⟨ρ', ?_, by rw [List.length_cons, show i + (ds.length + 1) = i + 1 + ds.length by omega]; exact h3⟩
    unfold forD
    rw [e1]
    dsimp only
    rw [e2]
    exact e3
theorem a21 {bd : MB} {body : MC} (Iv : Nat → MEnv → Prop) (n : Nat) (h0 : Iv 0 ρ) (hs : ∀ (k : Nat) (ρ : MEnv), k < n → Iv k ρ → ∃ ρ1 ρ2, bd (.int k) ρ = some ρ1 ∧ body ρ1 = some (.next ρ2) ∧ Iv (k + 1) ρ2) :
    ∃ ρ', forD bd body (rng 0 n) ρ = some (.next ρ') ∧ Iv n ρ' := by
  obtain ⟨ρ', e, h⟩ := a62 (bd := bd) (body := body) Iv (rng 0 n) 0 ρ h0 fun k ρ d e hk => by
    rw [rng0, List.getElem?_map] at e
    have hk' : k < n := by
      by_cases z : k < n
      · exact z
      · rw [List.getElem?_eq_none (by rw [List.length_range]; omega)] at e; cases e
    rw [List.getElem?_range hk'] at e
    cases e
    rw [Nat.zero_add] at hk ⊢
    exact hs k ρ hk' hk
  rw [Nat.zero_add, rng0, List.length_map, List.length_range] at h
  exact ⟨ρ', e, h⟩
end
theorem a8b {lo hi : Int} (h1 : a3E lo = true) (h2 : a3E hi = true) (h3 : (hi - lo).toNat ≤ lim) : a3I (.int lo) (.int hi) = okL (rng lo hi) := by
  unfold a3I
  exact if_pos ⟨h1, h2, h3⟩
theorem a60 (ns : List Int) : intsOf (ns.map D.int) = some ns := by
  induction ns with
  | nil => rfl
  | cons n ns ih => rw [List.map_cons]; unfold intsOf; rw [ih]; rfl
inductive a4r : Nat → D → Prop
  | non (n) : a4r n .non
  | bl (n b) : a4r n (.bl b)
  | int (n i) : a4r n (.int i)
  | str (n x) : a4r n (.str x)
  | tup (n ds) : (∀ d ∈ ds, a4r n d) → ds.length ≤ lim → a4r (n + 1) (.tup ds)
  | lst (n ds) : (∀ d ∈ ds, a4r n d) → ds.length ≤ lim → a4r (n + 1) (.lst ds)
theorem a4r.mono : ∀ {n m : Nat} {d : D}, a4r n d → n ≤ m → a4r m d := by
  intro n m d h
  induction h generalizing m with
  | non n => exact fun _ => .non m
  | bl n b => exact fun _ => .bl m b
  | int n i => exact fun _ => .int m i
  | str n x => exact fun _ => .str m x
  | tup n ds hd hl ih =>
    intro hm
    obtain ⟨k, rfl⟩ : ∃ k, m = k + 1 := ⟨m - 1, by omega⟩
    exact .tup k ds (fun d hd => ih d hd (by omega)) hl
  | lst n ds hd hl ih =>
    intro hm
    obtain ⟨k, rfl⟩ : ∃ k, m = k + 1 := ⟨m - 1, by omega⟩
    exact .lst k ds (fun d hd => ih d hd (by omega)) hl
theorem a6y (i : Str) : dEq (.str i) (.str i) = okB true := by unfold dEq eqF; simp
end L3
namespace L3
open PySem
section
variable {ρ ρ' ρ1 : MEnv} {a b c : ME}
theorem a5m {α : Type} {bd : MB} {cond elt : ME} {g : α → D} {f : α → D} {p : α → Bool} : ∀ (xs : List α) (acc : List D), (∀ x ∈ xs, ∃ ρ1, bd (g x) ρ = some ρ1 ∧ cond ρ1 = okB (p x) ∧ (p x = true → ∃ s, elt ρ1 = some (.ok s) ∧ s.val = f x)) → acc.length + xs.length ≤ lim → a3K bd cond elt ρ (xs.map g) acc = okL (acc ++ (xs.filter p).map f)
  | [], acc, _, hl => by
    rw [List.map_nil]
    unfold a3K
    rw [if_pos (by simpa using hl)]
    simp
  | x :: xs, acc, h, hl => by
    obtain ⟨ρ1, e1, e2, e3⟩ := h x List.mem_cons_self
    rw [List.map_cons]
    unfold a3K
    rw [e1]
    dsimp only
    rw [e2]
    show (if p x = true then (a0R (elt ρ1) fun y => a3K bd cond elt ρ (xs.map g) (acc ++ [y])) else a3K bd cond elt ρ (xs.map g) acc) = _
    rw [List.length_cons] at hl
    by_cases hp : p x = true
    · obtain ⟨s, e4, e5⟩ := e3 hp
      rw [if_pos hp, e4]
      show a3K bd cond elt ρ (xs.map g) (acc ++ [s.val]) = _
      rw [e5, a5m xs (acc ++ [f x]) (fun y hy => h y (List.mem_cons_of_mem _ hy)) (by rw [List.length_append, List.length_singleton]; omega)]
      simp [hp]
    · rw [if_neg hp, a5m xs acc (fun y hy => h y (List.mem_cons_of_mem _ hy)) (by omega)]
      simp [hp]
theorem a6z {α : Type} {js : List Nat} {it : MI} {bd : MB} {cond elt : ME} (xs : List α) (g : α → D) (p : α → Bool) (f : α → D) (hi : it ρ = some (.ok (xs.map g))) (hl : xs.length ≤ lim)
    (h : ∀ x ∈ xs, ∃ ρ1, bd (g x) (a1d js ρ) = some ρ1 ∧ cond ρ1 = okB (p x) ∧ (p x = true → ∃ s, elt ρ1 = some (.ok s) ∧ s.val = f x)) : a1U js it bd cond elt ρ = okL ((xs.filter p).map f) := by
  unfold a1U
  rw [hi]
  dsimp only
  rw [if_pos (by rw [List.length_map]; exact hl), a5m xs [] h (by simpa using hl)]
  rfl
theorem a3J {α : Type} {js : List Nat} {it : MI} {bd : MB} {elt : ME} (xs : List α) (g : α → D) (f : α → D) (hi : it ρ = some (.ok (xs.map g))) (hl : xs.length ≤ lim)
    (h : ∀ x ∈ xs, ∃ ρ1, bd (g x) (a1d js ρ) = some ρ1 ∧ ∃ s, elt ρ1 = some (.ok s) ∧ s.val = f x) : a1U js it bd a2P elt ρ = okL (xs.map f) := by
  rw [a6z xs g (fun _ => true) f hi hl fun x hx => ?_]
  · rw [List.filter_eq_self.mpr (fun _ _ => rfl)]
  · obtain ⟨ρ1, e1, e2⟩ := h x hx
    exact ⟨ρ1, e1, rfl, fun _ => e2⟩
theorem rngN (lo : Nat) (hi : Nat) : rng lo hi = (List.range (hi - lo)).map fun k : Nat => D.int (lo + k : Nat) := by
  unfold rng
  have : ((hi : Int) - (lo : Int)).toNat = hi - lo := by omega
  rw [this]
  exact List.map_congr_left fun k _ => by congr 1
theorem gt_d (i j : Int) : dGt (.int i) (.int j) = okB (decide (j < i)) := rfl
theorem eq_d (i j : Int) : dEq (.int i) (.int j) = okB (decide (i = j)) := rfl
theorem ne_d (i j : Int) : dNe (.int i) (.int j) = okB (!decide (i = j)) := rfl
theorem gt_t {i j : Int} (h : j < i) : dGt (.int i) (.int j) = okB true := by rw [gt_d, decide_eq_true h]
theorem gt_f {i j : Int} (h : ¬ j < i) : dGt (.int i) (.int j) = okB false := by rw [gt_d, decide_eq_false h]
theorem eq_t {i j : Int} (h : i = j) : dEq (.int i) (.int j) = okB true := by rw [eq_d, decide_eq_true h]
theorem eq_f {i j : Int} (h : ¬ i = j) : dEq (.int i) (.int j) = okB false := by rw [eq_d, decide_eq_false h]
theorem ne_t {i j : Int} (h : ¬ i = j) : dNe (.int i) (.int j) = okB true := by rw [ne_d, decide_eq_false h]; rfl
theorem ne_f {i j : Int} (h : i = j) : dNe (.int i) (.int j) = okB false := by rw [ne_d, decide_eq_true h]; rfl
theorem a6E {F : List D → Option R} {e1 e2 e3 e4 : ME} {s1 s2 s3 s4 : S} {r : Option R} (h1 : e1 ρ = some (.ok s1)) (h2 : e2 ρ = some (.ok s2)) (h3 : e3 ρ = some (.ok s3)) (h4 : e4 ρ = some (.ok s4)) (h : F [s1.val, s2.val, s3.val, s4.val] = r) : a0o F [e1, e2, e3, e4] ρ = r := by
  unfold a0o a1b; rw [h1]; dsimp only [a0R]; unfold a1b; rw [h2]; dsimp only [a0R]; unfold a1b; rw [h3]; dsimp only [a0R]; unfold a1b; rw [h4]; exact h
theorem fdiv_int {i j : Int} (h : 0 < j) (h2 : j < 1073741824) : a8O (.int i) (.int j) = okI (i / j) := by unfold a8O; exact if_pos ⟨h, h2⟩
theorem ix_l0 {d : D} {ds : List D} : dIx (.lst (d :: ds)) (.int 0) = okD d := a04 (n := 0) rfl
theorem ix_l1 {d e : D} {ds : List D} : dIx (.lst (d :: e :: ds)) (.int 1) = okD e := a04 (n := 1) rfl
theorem ix_l2 {d e f : D} {ds : List D} : dIx (.lst (d :: e :: f :: ds)) (.int 2) = okD f := a04 (n := 2) rfl
theorem a3a {d : D} {ds : List D} : dIx (.tup (d :: ds)) (.int 0) = okD d := ix_tup (n := 0) rfl
theorem a2H {d e : D} {ds : List D} : dIx (.tup (d :: e :: ds)) (.int 1) = okD e := ix_tup (n := 1) rfl
theorem a5U {d e f : D} {ds : List D} : dIx (.tup (d :: e :: f :: ds)) (.int 2) = okD f := ix_tup (n := 2) rfl
theorem ix_t3 {d e f g : D} {ds : List D} : dIx (.tup (d :: e :: f :: g :: ds)) (.int 3) = okD g := ix_tup (n := 3) rfl
theorem a5X {α : Type} {bd : MB} {body : MC} (g : α → D) (Iv : List α → MEnv → Prop) : ∀ (xs pre : List α) (ρ : MEnv), Iv pre ρ → (∀ (q : List α) (x : α) (post : List α) (ρ : MEnv), pre ++ xs = q ++ x :: post → Iv q ρ → ∃ ρ1 ρ2, bd (g x) ρ = some ρ1 ∧ (body ρ1 = some (.next ρ2) ∨ body ρ1 = some (.cont ρ2)) ∧ Iv (q ++ [x]) ρ2) →
    ∃ ρ', forD bd body (xs.map g) ρ = some (.next ρ') ∧ Iv (pre ++ xs) ρ'
  | [], pre, ρ, h, _ => ⟨ρ, rfl, by simpa using h⟩
  | x :: xs, pre, ρ, h, hs => by
    obtain ⟨ρ1, ρ2, e1, e2, h2⟩ := hs pre x xs ρ rfl h
    obtain ⟨ρ', e3, h3⟩ := a5X g Iv xs (pre ++ [x]) ρ2 h2 fun q y post ρ hy hi => hs q y post ρ (by rw [← hy]; simp) hi
    refine ⟨ρ', ?_, by simpa using h3⟩
    rw [List.map_cons]
    unfold forD
    rw [e1]
    dsimp only
    rcases e2 with e2 | e2 <;> rw [e2] <;> exact e3
theorem forD_pre {α : Type} {bd : MB} {body : MC} (g : α → D) (Iv : List α → MEnv → Prop) (xs : List α) {ρ : MEnv} (h0 : Iv [] ρ) (hs : ∀ (q : List α) (x : α) (post : List α) (ρ : MEnv), xs = q ++ x :: post → Iv q ρ → ∃ ρ1 ρ2, bd (g x) ρ = some ρ1 ∧ (body ρ1 = some (.next ρ2) ∨ body ρ1 = some (.cont ρ2)) ∧ Iv (q ++ [x]) ρ2) :
    ∃ ρ', forD bd body (xs.map g) ρ = some (.next ρ') ∧ Iv xs ρ' := by
  have := a5X (bd := bd) (body := body) g Iv xs [] ρ h0 (by simpa using hs)
  simpa using this
end
end L3
namespace L3
open PySem
section
variable {ρ : MEnv} {a b e1 e2 e3 e4 : ME} {s s1 s2 s3 s4 : S} {o o1 : O} {r : Option O} {q : Option R} {F : a2F} {c : String} {f m : Str} {ns : List Str} {ds : List D} {cs : List String}
theorem a5o (h : e1 ρ = some (.ok s1)) (h2 : F o [s1.val] = r) : a3b F [e1] ρ o = r := by unfold a3b a3H; rw [h]; exact h2
theorem base2 (h : e1 ρ = some (.ok s1)) (h' : e2 ρ = some (.ok s2)) (h2 : F o [s1.val, s2.val] = r) : a3b F [e1, e2] ρ o = r := by
  unfold a3b a3H a3H; rw [h]; dsimp only; rw [h']; exact h2
theorem seqI {g h : MG} (h1 : g ρ o = some o1) (h2 : h ρ o1 = r) : a2z g h ρ o = r := by unfold a2z; rw [h1]; exact h2
theorem a34 {np n : Nat} {g : MG} (hl : ds.length + 1 = np) (h : g (none :: a14 (n - 1) ds) o = r) : fnI np n g o ds = r := by unfold fnI; rw [if_pos hl]; exact h
theorem a5x (h : e1 ρ = some (.ok s)) (hc : cs.contains c = true) (hl : ns.length = ds.length) (h9 : ns.length < 900) : a4E cs f e1 ρ (.obj c ns ds) = some (.obj c (putN f ns) (putD f s.val ns ds)) := by
  unfold a4E; rw [h]; dsimp only; rw [if_pos ⟨hc, hl, h9⟩]
theorem make0 (h : F (.obj c [] []) [] = some o) : a2I c F [] ρ = some (.ok (.own o)) := by unfold a2I a1b; dsimp only; rw [h]
theorem make1 (h1 : e1 ρ = some (.ok s1)) (h : F (.obj c [] []) [s1.val] = some o) : a2I c F [e1] ρ = some (.ok (.own o)) := by
  unfold a2I a1b; rw [h1]; dsimp only [a0R]; unfold a1b; dsimp only; rw [h]
theorem a8t (h1 : e1 ρ = some (.ok s1)) (h2 : e2 ρ = some (.ok s2)) (h : F (.obj c [] []) [s1.val, s2.val] = some o) : a2I c F [e1, e2] ρ = some (.ok (.own o)) := by
  unfold a2I a1b; rw [h1]; dsimp only [a0R]; unfold a1b; rw [h2]; dsimp only [a0R]; unfold a1b; dsimp only; rw [h]
theorem make3 (h1 : e1 ρ = some (.ok s1)) (h2 : e2 ρ = some (.ok s2)) (h3 : e3 ρ = some (.ok s3)) (h : F (.obj c [] []) [s1.val, s2.val, s3.val] = some o) : a2I c F [e1, e2, e3] ρ = some (.ok (.own o)) := by
  unfold a2I a1b; rw [h1]; dsimp only [a0R]; unfold a1b; rw [h2]; dsimp only [a0R]; unfold a1b; rw [h3]; dsimp only [a0R]; unfold a1b; dsimp only; rw [h]
theorem meth_h {tb : String → Option (List D → Option R)} {as : List ME} {G : List D → Option R} (ho : a ρ = some (.ok s)) (hv : s.val = .obj c ns ds) (hn : ns.contains m = false) (ht : tb c = some G) : a3q m tb a as ρ = a1b as ρ fun vs => G (.obj c ns ds :: vs) := by
  unfold a3q; rw [ho]; dsimp only [a0R]; rw [hv]; dsimp only; rw [hn, if_neg Bool.false_ne_true, ht]
theorem meth0 {tb : String → Option (List D → Option R)} {G : List D → Option R} (ho : a ρ = some (.ok s)) (hv : s.val = .obj c ns ds) (hn : ns.contains m = false) (ht : tb c = some G) (h : G [.obj c ns ds] = q) : a3q m tb a [] ρ = q := by rw [meth_h ho hv hn ht]; exact h
theorem meth1 {tb : String → Option (List D → Option R)} {G : List D → Option R} (ho : a ρ = some (.ok s)) (hv : s.val = .obj c ns ds) (hn : ns.contains m = false) (ht : tb c = some G) (h1 : e1 ρ = some (.ok s1)) (h : G [.obj c ns ds, s1.val] = q) : a3q m tb a [e1] ρ = q := by
  rw [meth_h ho hv hn ht]; exact a1C (F := fun vs => G (.obj c ns ds :: vs)) h1 h
theorem fld_e {d : D} (h : a ρ = some (.ok s)) (hv : s.val = .obj c ns ds) (hc : cs.contains c = true) (hf : fldD f ns ds = some d) : eUn (dFld cs f) a ρ = okD d := by
  refine un_e h ?_
  rw [hv]
  show (if cs.contains c = true then (fldD f ns ds).bind okD else none) = _
  rw [if_pos hc, hf]
  rfl
theorem ifE_t (h : a ρ = okB true) (h2 : e1 ρ = q) : eIf a e1 e2 ρ = q := by unfold eIf; rw [h]; exact h2
theorem ifE_f (h : a ρ = okB false) (h2 : e2 ρ = q) : eIf a e1 e2 ρ = q := by unfold eIf; rw [h]; exact h2
theorem a6B {xs ys : List D} (h : xs.length + ys.length ≤ 100000) : dAdd (.lst xs) (.lst ys) = okL (xs ++ ys) := by
  show (if xs.length + ys.length ≤ lim then okL (xs ++ ys) else none) = _
  rw [if_pos (Nat.le_trans h (by decide))]
theorem a8W {G : List D → Option R} {as : List ME} {d : D} (h : a1b as ρ G = okD d) (hf : flat d = true) : a0p G as ρ = okD d := by
  unfold a0p; rw [h]; show (if flat d = true then okD d else none) = _; rw [if_pos hf]
theorem a2B {x y : Str} (h : x = y) : dEq (.str x) (.str y) = okB true := by subst h; exact a6y x
theorem a0l {x y : Str} (h : x ≠ y) : dEq (.str x) (.str y) = okB false := by unfold dEq eqF; simp [h]
theorem ne_strt {x y : Str} (h : x ≠ y) : dNe (.str x) (.str y) = okB true := by unfold dNe eqF; simp [h]
theorem a8n {x y : Str} (h : x = y) : dNe (.str x) (.str y) = okB false := by unfold dNe eqF; simp [h]
end
end L3
namespace Bell
open PySem L3
def a6q : MC :=
 (sRet (eAnd (eUn (dIsT "int") (eVar 0)) (eNot (eUn (dIsT "bool") (eVar 0)))))
def a0Z : List D → Option R := fnD 1 1 a6q
def a6s : MC :=
 (sSeq (sIf (eOr (eNot (eUn (dIsT "list") (eVar 0))) (eBin dNe (a0p (f1 dLen) [(eAny 0)]) (a0p (f1 dLen) [(eAny 1)]))) (sRet (eC (.bl false))) a0Q) (sSeq (sFor (iSeq (eVar 0)) (a1k 2) (sSeq (sIf (eOr (eNot (eUn (dIsT "tuple") (eVar 2))) (eBin dNe (a0p (f1 dLen) [(eAny 2)]) (eC (.int 3)))) (sRet (eC (.bl false))) a0Q) (sIf (eOr (eNot (a0o a0Z [(eBin dIx (eVar 2) (eC (.int 0)))])) (eOr (eNot (a0o a0Z [(eBin dIx (eVar 2) (eC (.int 1)))])) (eNot (a0o a0Z [(eBin dIx (eVar 2) (eC (.int 2)))])))) (sRet (eC (.bl false))) a0Q))) (sRet (eBin (dEqX 3) (eVar 0) (eVar 1)))))
def a00 : List D → Option R := fnD 2 3 a6s
def a7A : MC :=
 (sSeq (sSet 3 (eC (.int 0))) (sSeq (sIf (eBin dGt (a0p (f1 dLen) [(eAny 0)]) (eC (.int 0))) (sSet 3 (eBin dMod (eBin dIx (eVar 0) (eBin dMod (eVar 1) (a0p (f1 dLen) [(eAny 0)]))) (eC (.int 1000003)))) a0Q) (sRet (eBin dMod (eBin a8O (eBin dMod (eBin dMul (eBin dMod (eBin dMul (eBin dAdd (eVar 3) (eC (.int 1))) (eBin dAdd (eBin dAdd (eBin dMul (eVar 1) (eVar 1)) (eVar 1)) (eC (.int 41)))) (eC (.int 999983))) (eC (.int 48271))) (eC (.int 2147483647))) (eC (.int 11))) (eVar 2)))))
def a0s : List D → Option R := fnD 3 4 a7A
def a5Q : MC :=
 (sSeq (sSet 2 (a0o a0s [(eVar 0), (eVar 1), (eC (.int 2000))])) (sSeq (sSet 3 (eLst [(eBin dSub (eBin dMod (eVar 2) (eC (.int 7))) (eC (.int 3))), (eBin dSub (eBin dPow (eC (.int 10)) (eC (.int 9))) (eBin dMod (eVar 2) (eC (.int 5)))), (eBin dSub (eBin dMod (eVar 2) (eC (.int 5))) (eBin dPow (eC (.int 10)) (eC (.int 9)))), (eBin dMul (eVar 2) (eC (.int 499999)))])) (sDem 3 (sRet (eBin dIx (eVar 3) (a0o a0s [(eVar 0), (eBin dAdd (eVar 1) (eC (.int 4000))), (eC (.int 4))]))))))
def a0D : List D → Option R := fnD 2 4 a5Q
def a6r : MC :=
 (sSeq (sSet 1 (eLst [])) (sSeq (sFor (a1j (eBin dIx (eLst [(eC (.int 1)), (eC (.int 2)), (eC (.int 3)), (eC (.int 3)), (eC (.int 4)), (eC (.int 4)), (eC (.int 5)), (eC (.int 8))]) (a0o a0s [(eVar 0), (eC (.int 3)), (eC (.int 8))]))) (a1k 2) (sSeq (sSet 3 (eLst [(a0o a0D [(eVar 0), (eBin dAdd (eC (.int 10)) (eBin dMul (eC (.int 4)) (eVar 2)))]), (a0o a0D [(eVar 0), (eBin dAdd (eC (.int 11)) (eBin dMul (eC (.int 4)) (eVar 2)))])])) (sSeq (sSet 4 (eBin dAdd (eC (.int 1)) (a0o a0s [(eVar 0), (eBin dAdd (eC (.int 12)) (eBin dMul (eC (.int 4)) (eVar 2))), (eC (.int 2))]))) (sDem 3 (a2g 1 (eTup [(eBin dMulS (eBin dIx (eC (.str "abcdefgh")) (eVar 2)) (eVar 4)), (a0o (f1 a30) [(a4n (eVar 3) none (some (eVar 4)))])])))))) (sDem 1 (sRet (a0o (f1 a30) [(eVar 1)])))))
def a2A : List D → Option R := fnD 1 5 a6r
def a7B : MC :=
 (sSeq (sSet 3 (eLst [(eC (.str "put")), (eC (.str "copy")), (eC (.str "grow")), (eC (.str "tick")), (eC (.str "still")), (eC (.str "is")), (eC (.str "most")), (eC (.str "none")), (eC (.str "anew")), (eC (.str "grow")), (eC (.str "put")), (eC (.str "anew"))])) (sDem 3 (sSeq (sSet 4 (eBin dIx (eVar 3) (a0o a0s [(eVar 1), (eVar 2), (eC (.int 12))]))) (sSeq (sSet 5 (a0o a0s [(eVar 1), (eBin dAdd (eVar 2) (eC (.int 1))), (a0p (f1 dLen) [(eAny 0)])])) (sSeq (sSet 6 (a0p (f1 dLen) [(eBin dIx (eBin dIx (eVar 0) (eVar 5)) (eC (.int 1)))])) (sSeq (sSet 7 (a1U [11] (a1j (a0p (f1 dLen) [(eAny 0)])) (a1k 11) (eBin dEq (a0p (f1 dLen) [(eBin dIx (eBin dIx (eVar 0) (eVar 11)) (eC (.int 1)))]) (eVar 6)) (eVar 11))) (sDem 7 (sSeq (sSet 8 (eBin dIx (eVar 7) (a0o a0s [(eVar 1), (eBin dAdd (eVar 2) (eC (.int 2))), (a0p (f1 dLen) [(eAny 7)])]))) (sSeq (sSet 9 (a1U [11] (a1j (a0p (f1 dLen) [(eAny 0)])) (a1k 11) (eAnd (eBin dEq (a0p (f1 dLen) [(eBin dIx (eBin dIx (eVar 0) (eVar 11)) (eC (.int 1)))]) (eC (.int 1))) (eAnd (eBin dNe (eVar 11) (eVar 5)) (eBin dNe (eVar 11) (eVar 8)))) (eVar 11))) (sSeq (sSet 10 (a0o a0D [(eVar 1), (eBin dAdd (eVar 2) (eC (.int 3)))])) (sSeq (sIf (eBin dEq (eVar 4) (eC (.str "put"))) (sRet (eTup [(eC (.str "put")), (eVar 5), (a0o (f1 a30) [(a4n (eLst [(eVar 10), (eUn dNeg (eVar 10))]) none (some (eVar 6)))])])) a0Q) (sSeq (sIf (eAnd (eBin dEq (eVar 4) (eC (.str "copy"))) (eBin dNe (eVar 5) (eVar 8))) (sRet (eTup [(eC (.str "copy")), (eVar 5), (eVar 8)])) a0Q) (sSeq (sIf (eBin dEq (eVar 4) (eC (.str "grow"))) (sRet (eTup [(eC (.str "grow")), (eVar 5), (eVar 10)])) a0Q) (sSeq (sIf (eAnd (eBin dEq (eVar 4) (eC (.str "tick"))) (eBin dEq (eVar 6) (eC (.int 1)))) (sRet (eTup [(eC (.str "tick")), (eVar 5)])) a0Q) (sSeq (sIf (eOr (eBin dEq (eVar 4) (eC (.str "is"))) (eBin dEq (eVar 4) (eC (.str "most")))) (sRet (eTup [(eVar 4), (eVar 5), (eVar 8), (eVar 10)])) a0Q) (sSeq (sIf (eBin dEq (eVar 4) (eC (.str "none"))) (sRet (eTup [(eC (.str "none")), (eVar 5)])) a0Q) (sSeq (sIf (eAnd (eBin dEq (eVar 4) (eC (.str "anew"))) (eAnd (eBin dNe (eVar 5) (eVar 8)) (eBin dGt (a0p (f1 dLen) [(eAny 9)]) (eC (.int 0))))) (sDem 9 (sRet (eTup [(eC (.str "anew")), (eVar 5), (eVar 8), (eBin dIx (eVar 9) (a0o a0s [(eVar 1), (eBin dAdd (eVar 2) (eC (.int 4))), (a0p (f1 dLen) [(eAny 9)])]))]))) a0Q) (sRet (eTup [(eC (.str "still")), (eBin dAdd (eC (.int 1)) (a0o a0s [(eVar 1), (eBin dAdd (eVar 2) (eC (.int 5))), (eC (.int 9))]))])))))))))))))))))))
def a2r : List D → Option R := fnD 3 12 a7B
def a5b : MC :=
 (sSeq (sIf (eBin dEq (eBin dIx (eVar 1) (eC (.int 0))) (eC (.str "grow"))) (sRet (eLst [(eTup [(eBin dIx (eVar 1) (eC (.int 1))), (eC (.int 0)), (eBin dSub (eBin dMul (eC (.int 2)) (a0p (f1 dLen) [(eBin dIx (eBin dIx (eVar 0) (eBin dIx (eVar 1) (eC (.int 1)))) (eC (.int 1)))])) (eC (.int 1)))])])) a0Q) (sSeq (sIf (eOr (eBin dEq (eBin dIx (eVar 1) (eC (.int 0))) (eC (.str "put"))) (eOr (eBin dEq (eBin dIx (eVar 1) (eC (.int 0))) (eC (.str "copy"))) (eBin dEq (eBin dIx (eVar 1) (eC (.int 0))) (eC (.str "anew"))))) (sIf (eBin dEq (a0p (f1 dLen) [(eBin dIx (eBin dIx (eVar 0) (eBin dIx (eVar 1) (eC (.int 1)))) (eC (.int 1)))]) (eC (.int 2))) (sSeq (sIf (eBin dEq (eBin dIx (eVar 1) (eC (.int 0))) (eC (.str "put"))) (sRet (eLst [(eTup [(eBin dIx (eVar 1) (eC (.int 1))), (eC (.int 0)), (eC (.int 1))])])) a0Q) (sSeq (sIf (eBin dEq (eBin dIx (eVar 1) (eC (.int 0))) (eC (.str "anew"))) (sRet (eLst [(eTup [(eBin dIx (eVar 1) (eC (.int 1))), (eC (.int 4)), (eC (.int 5))])])) a0Q) (sRet (eUn a68 (eLst [(eTup [(eBin dIx (eVar 1) (eC (.int 1))), (eC (.int 0)), (eC (.int 1))]), (eTup [(eBin dIx (eVar 1) (eC (.int 2))), (eC (.int 0)), (eC (.int 1))])]))))) a0Q) a0Q) (sRet (eLst []))))
def a1x : List D → Option R := fnD 2 2 a5b
def a8u : MC :=
 (sRet (a0p (f1 dLen) [(eBin dIx (eBin dIx (eVar 0) (eVar 1)) (eC (.int 1)))]))
def a2q : List D → Option R := fnD 2 2 a8u
def a7C : MC :=
 (sSeq (sSet 2 (a0o (f1 dSum) [(a1U [3] (a1j (eVar 1)) (a1k 3) a2P (a0o a2q [(eVar 0), (eVar 3)]))])) (sRet (eBin a3I (eVar 2) (eBin dAdd (eVar 2) (a0o a2q [(eVar 0), (eVar 1)])))))
def a1r : List D → Option R := fnD 2 4 a7C
def g_i_Deed : MG :=
 (a2z (a4E ["Deed", "Promise", "Comparing", "Untouched", "Still", "Put", "Copy", "Tick", "Handed", "Grow", "Anew"] "plan" (eVar 1)) a33)
def a2f : a2F := fnI 2 2 g_i_Deed
def a7G : MG :=
 (a2z (a3b a2f [(eBin dAdd (a1U [3] (iSeq (eVar 1)) (a1k 3) a2P (eTup [(eTup [(eVar 3)]), (eTup [])])) (a1U [3] (iSeq (eVar 2)) (a1k 3) a2P (eTup [(eTup []), (eTup [(eVar 3)])])))]) a33)
def a2Y : a2F := fnI 3 4 a7G
def g_i_Anew : MG :=
 (a2z (a3b a2Y [(eBin dAdd (eBin dAdd (eLst [(eVar 3)]) (eVar 2)) (eLst [(eVar 3)])), (eVar 1)]) (a2z (a4E ["Anew"] "check" (eBin dAdd (a0p (f1 dLen) [(eAny 2)]) (eC (.int 1)))) a33))
def a8F : a2F := fnI 4 4 g_i_Anew
def a6u : MG :=
 (a2z (a3b a2f [(eLst [(eTup [(a0o (f1 a30) [(eVar 1)]), (eTup [])])])]) a33)
def a2o : a2F := fnI 2 2 a6u
def a5g : MG :=
 (a2z (a3b a2o [(eUn a5l (eBin dAdd (eVar 1) (eVar 2)))]) a33)
def a3o : a2F := fnI 3 3 a5g
def g_i_Copy : MG :=
 (a2z (a3b a2f [(a1U [3] (a1j (a0p (f1 dLen) [(eAny 1)])) (a1k 3) a2P (eTup [(eTup [(eBin dIx (eVar 2) (eVar 3))]), (eTup [(eBin dIx (eVar 1) (eVar 3))])]))]) a33)
def a8E : a2F := fnI 3 4 g_i_Copy
def g_i_Grow : MG :=
 (a2z (a3b a2Y [(eVar 1), (eVar 1)]) (a2z (a4E ["Grow"] "size" (a0p (f1 dLen) [(eAny 1)])) (a2z (a4E ["Grow"] "number" (eVar 2)) a33)))
def a8D : a2F := fnI 3 3 g_i_Grow
def g_i_Put : MG :=
 (a2z (a3b a2f [(a1U [3] (iSeq (eVar 1)) (a1k 3) a2P (eTup [(eTup []), (eTup [(eVar 3)])]))]) (a2z (a4E ["Put"] "numbers" (a0o (f1 a30) [(eVar 2)])) a33))
def i_Put : a2F := fnI 3 4 g_i_Put
def a8G : MG :=
 (a2z (a3b a2f [(eRep (eLst [(eTup [(eTup []), (eTup [])])]) (eVar 1))]) a33)
def a6t : a2F := fnI 2 2 a8G
def g_i_Tick : MG :=
 (a2z (a3b a2f [(eLst [(eTup [(eTup [(eVar 1)]), (eTup [(eVar 1)])])])]) a33)
def a8C : a2F := fnI 2 2 g_i_Tick
def a5f : MG :=
 (a2z (a3b a2o [(eLst [])]) a33)
def a3m : a2F := fnI 1 1 a5f
def a8v : MC :=
 (sSeq (sSet 2 (eBin dIx (eVar 1) (eC (.int 0)))) (sSeq (sIf (eBin dEq (eVar 2) (eC (.str "still"))) (sRet (a2I "Still" a6t [(eBin dIx (eVar 1) (eC (.int 1)))])) a0Q) (sSeq (sIf (eBin dEq (eVar 2) (eC (.str "none"))) (sRet (a2I "Untouched" a3m [])) a0Q) (sSeq (sSet 3 (a0o a1r [(eVar 0), (eBin dIx (eVar 1) (eC (.int 1)))])) (sSeq (sIf (eBin dEq (eVar 2) (eC (.str "put"))) (sDem 3 (sRet (a2I "Put" i_Put [(eVar 3), (eBin dIx (eVar 1) (eC (.int 2)))]))) a0Q) (sSeq (sIf (eBin dEq (eVar 2) (eC (.str "grow"))) (sDem 3 (sRet (a2I "Grow" a8D [(eVar 3), (eBin dIx (eVar 1) (eC (.int 2)))]))) a0Q) (sSeq (sIf (eBin dEq (eVar 2) (eC (.str "tick"))) (sDem 3 (sRet (a2I "Tick" a8C [(eBin dIx (eVar 3) (eC (.int 0)))]))) a0Q) (sSeq (sSet 4 (a0o a1r [(eVar 0), (eBin dIx (eVar 1) (eC (.int 2)))])) (sSeq (sIf (eBin dEq (eVar 2) (eC (.str "copy"))) (sDem 4 (sDem 3 (sRet (a2I "Copy" a8E [(eVar 3), (eVar 4)])))) a0Q) (sSeq (sIf (eBin dEq (eVar 2) (eC (.str "anew"))) (sDem 4 (sDem 3 (sRet (a2I "Anew" a8F [(eVar 3), (eVar 4), (eBin dIx (a0o a1r [(eVar 0), (eBin dIx (eVar 1) (eC (.int 3)))]) (eC (.int 0)))])))) a0Q) (sDem 4 (sDem 3 (sRet (a2I "Comparing" a3o [(eVar 3), (eVar 4)]))))))))))))))
def a3F : List D → Option R := fnD 2 5 a8v
def a5S : MC :=
 (sRet (a0o (f1 dList) [(eBin dIx (eBin dIx (eUn (dFld ["Deed", "Promise", "Comparing", "Untouched", "Still", "Put", "Copy", "Tick", "Handed", "Grow", "Anew"] "plan") (eVar 0)) (eVar 1)) (eC (.int 0)))]))
def a1Q : List D → Option R := fnD 2 2 a5S
def a5R : MC :=
 (sRet (a0p (f1 dLen) [(eUn (dFld ["Deed", "Promise", "Comparing", "Untouched", "Still", "Put", "Copy", "Tick", "Handed", "Grow", "Anew"] "plan") (eVar 0))]))
def a1P : List D → Option R := fnD 1 1 a5R
def a5c : MC :=
 (sRet (a0o (f1 dList) [(eBin dIx (eBin dIx (eUn (dFld ["Deed", "Promise", "Comparing", "Untouched", "Still", "Put", "Copy", "Tick", "Handed", "Grow", "Anew"] "plan") (eVar 0)) (eVar 1)) (eC (.int 1)))]))
def a1y : List D → Option R := fnD 2 2 a5c
def a2s : String → Option (List D → Option R) := (tbG ["Deed", "Promise", "Comparing", "Untouched", "Still", "Put", "Copy", "Tick", "Handed", "Grow", "Anew"] a1Q tbNil)
def a37 : String → Option (List D → Option R) := (tbG ["Deed", "Promise", "Comparing", "Untouched", "Still", "Put", "Copy", "Tick", "Handed", "Grow", "Anew"] a1P tbNil)
def a13 : String → Option (List D → Option R) := (tbG ["Deed", "Promise", "Comparing", "Untouched", "Still", "Put", "Copy", "Tick", "Handed", "Grow", "Anew"] a1y tbNil)
def a7z : MC :=
 (sSeq (sSet 4 (a0o a3F [(eVar 0), (eVar 1)])) (sSeq (sSet 5 (a0o a1r [(eVar 0), (eVar 2)])) (sSeq (sSet 6 (eLst [])) (sDem 4 (sSeq (sFor (a1j (a3q "turns" a37 (eVar 4) [])) (a1k 7) (sDem 4 (sSeq (sSet 8 (eBin dAdd (a3q "writes" a13 (eVar 4) [(eVar 7)]) (eIf (eVar 3) (a3q "reads" a2s (eVar 4) [(eVar 7)]) (eLst [])))) (sDem 8 (sDem 5 (sIf (a0o (f1 dAny) [(a1U [9] (iSeq (eVar 8)) (a1k 9) a2P (eBin (dIn false) (eVar 9) (eVar 5)))]) (a2g 6 (eVar 7)) a0Q)))))) (sDem 6 (sRet (eVar 6))))))))
def a2p : List D → Option R := fnD 4 10 a7z
def m_spans : MC :=
 (sSeq (sSet 2 (eLst [])) (sSeq (sFor (a1j (a0p (f1 dLen) [(eAny 0)])) (a1k 3) (sSeq (sSet 4 (a0o a2p [(eVar 0), (eVar 1), (eVar 3), (eC (.bl true))])) (sIf (eAnd (eBin dGt (a0p (f1 dLen) [(eAny 4)]) (eC (.int 1))) (eOr (eBin dNe (eBin dIx (eVar 1) (eC (.int 0))) (eC (.str "anew"))) (eBin dEq (eVar 3) (eBin dIx (eVar 1) (eC (.int 1)))))) (sDem 4 (a2g 2 (eTup [(eVar 3), (eBin dIx (eVar 4) (eC (.int 0))), (eBin dIx (eVar 4) (eC (.int (-1))))]))) a0Q))) (a79 2)))
def a3p : List D → Option R := fnD 2 5 m_spans
def m_law : MC :=
 (sSeq (sSet 1 (a0o a2A [(eVar 0)])) (sSeq (sFor (a1j (eBin dAdd (a0o (f2 dMin2) [(a0p (f1 dLen) [(eAny 0)]), (eC (.int 60))]) (eC (.int 1)))) (a1k 2) (sSeq (sSet 3 (a0o a2r [(eVar 1), (eVar 0), (eBin dAdd (eC (.int 100)) (eBin dMul (eC (.int 13)) (eVar 2)))])) (sSeq (sSet 4 (a0o a1x [(eVar 1), (eVar 3)])) (sSeq (sSet 5 (a0o a3p [(eVar 1), (eVar 3)])) (sSeq (sIf (eNot (a0p a00 [(eAny 5), (eAny 4)])) (sRet (eC (.bl false))) a0Q) (sSeq (a5C 5) (sIf (eNot (a0p a00 [(a0o a3p [(eVar 1), (eVar 3)]), (eAny 4)])) (sRet (eC (.bl false))) a0Q))))))) (sRet (eC (.bl true)))))
def f_law : List D → Option R := fnD 1 6 m_law
end Bell
namespace Bell
open PySem L3
def a5q : MC := (sSeq (sIf (eOr (eNot (eUn (dIsT "tuple") (eVar 2))) (eBin dNe (a0p (f1 dLen) [(eAny 2)]) (eC (.int 3)))) (sRet (eC (.bl false))) a0Q) (sIf (eOr (eNot (a0o a0Z [(eBin dIx (eVar 2) (eC (.int 0)))])) (eOr (eNot (a0o a0Z [(eBin dIx (eVar 2) (eC (.int 1)))])) (eNot (a0o a0Z [(eBin dIx (eVar 2) (eC (.int 2)))])))) (sRet (eC (.bl false))) a0Q))
def a5t : MC := (sRet (eBin dMod (eBin a8O (eBin dMod (eBin dMul (eBin dMod (eBin dMul (eBin dAdd (eVar 3) (eC (.int 1))) (eBin dAdd (eBin dAdd (eBin dMul (eVar 1) (eVar 1)) (eVar 1)) (eC (.int 41)))) (eC (.int 999983))) (eC (.int 48271))) (eC (.int 2147483647))) (eC (.int 11))) (eVar 2)))
def a5p : MC := (sSeq (sSet 3 (eLst [(a0o a0D [(eVar 0), (eBin dAdd (eC (.int 10)) (eBin dMul (eC (.int 4)) (eVar 2)))]), (a0o a0D [(eVar 0), (eBin dAdd (eC (.int 11)) (eBin dMul (eC (.int 4)) (eVar 2)))])])) (sSeq (sSet 4 (eBin dAdd (eC (.int 1)) (a0o a0s [(eVar 0), (eBin dAdd (eC (.int 12)) (eBin dMul (eC (.int 4)) (eVar 2))), (eC (.int 2))]))) (sDem 3 (a2g 1 (eTup [(eBin dMulS (eBin dIx (eC (.str "abcdefgh")) (eVar 2)) (eVar 4)), (a0o (f1 a30) [(a4n (eVar 3) none (some (eVar 4)))])])))))
def a5u : MC := (sSeq (sIf (eBin dEq (eVar 4) (eC (.str "put"))) (sRet (eTup [(eC (.str "put")), (eVar 5), (a0o (f1 a30) [(a4n (eLst [(eVar 10), (eUn dNeg (eVar 10))]) none (some (eVar 6)))])])) a0Q) (sSeq (sIf (eAnd (eBin dEq (eVar 4) (eC (.str "copy"))) (eBin dNe (eVar 5) (eVar 8))) (sRet (eTup [(eC (.str "copy")), (eVar 5), (eVar 8)])) a0Q) (sSeq (sIf (eBin dEq (eVar 4) (eC (.str "grow"))) (sRet (eTup [(eC (.str "grow")), (eVar 5), (eVar 10)])) a0Q) (sSeq (sIf (eAnd (eBin dEq (eVar 4) (eC (.str "tick"))) (eBin dEq (eVar 6) (eC (.int 1)))) (sRet (eTup [(eC (.str "tick")), (eVar 5)])) a0Q) (sSeq (sIf (eOr (eBin dEq (eVar 4) (eC (.str "is"))) (eBin dEq (eVar 4) (eC (.str "most")))) (sRet (eTup [(eVar 4), (eVar 5), (eVar 8), (eVar 10)])) a0Q) (sSeq (sIf (eBin dEq (eVar 4) (eC (.str "none"))) (sRet (eTup [(eC (.str "none")), (eVar 5)])) a0Q) (sSeq (sIf (eAnd (eBin dEq (eVar 4) (eC (.str "anew"))) (eAnd (eBin dNe (eVar 5) (eVar 8)) (eBin dGt (a0p (f1 dLen) [(eAny 9)]) (eC (.int 0))))) (sDem 9 (sRet (eTup [(eC (.str "anew")), (eVar 5), (eVar 8), (eBin dIx (eVar 9) (a0o a0s [(eVar 1), (eBin dAdd (eVar 2) (eC (.int 4))), (a0p (f1 dLen) [(eAny 9)])]))]))) a0Q) (sRet (eTup [(eC (.str "still")), (eBin dAdd (eC (.int 1)) (a0o a0s [(eVar 1), (eBin dAdd (eVar 2) (eC (.int 5))), (eC (.int 9))]))])))))))))
def a4V : MC := (sRet (eTup [(eC (.str "still")), (eBin dAdd (eC (.int 1)) (a0o a0s [(eVar 1), (eBin dAdd (eVar 2) (eC (.int 5))), (eC (.int 9))]))]))
def a32 : MC := (sDem 4 (sSeq (sSet 8 (eBin dAdd (a3q "writes" a13 (eVar 4) [(eVar 7)]) (eIf (eVar 3) (a3q "reads" a2s (eVar 4) [(eVar 7)]) (eLst [])))) (sDem 8 (sDem 5 (sIf (a0o (f1 dAny) [(a1U [9] (iSeq (eVar 8)) (a1k 9) a2P (eBin (dIn false) (eVar 9) (eVar 5)))]) (a2g 6 (eVar 7)) a0Q)))))
def a4q : MC := (sSeq (sSet 4 (a0o a2p [(eVar 0), (eVar 1), (eVar 3), (eC (.bl true))])) (sIf (eAnd (eBin dGt (a0p (f1 dLen) [(eAny 4)]) (eC (.int 1))) (eOr (eBin dNe (eBin dIx (eVar 1) (eC (.int 0))) (eC (.str "anew"))) (eBin dEq (eVar 3) (eBin dIx (eVar 1) (eC (.int 1)))))) (sDem 4 (a2g 2 (eTup [(eVar 3), (eBin dIx (eVar 4) (eC (.int 0))), (eBin dIx (eVar 4) (eC (.int (-1))))]))) a0Q))
def b_law_0 : MC := (sSeq (sSet 3 (a0o a2r [(eVar 1), (eVar 0), (eBin dAdd (eC (.int 100)) (eBin dMul (eC (.int 13)) (eVar 2)))])) (sSeq (sSet 4 (a0o a1x [(eVar 1), (eVar 3)])) (sSeq (sSet 5 (a0o a3p [(eVar 1), (eVar 3)])) (sSeq (sIf (eNot (a0p a00 [(eAny 5), (eAny 4)])) (sRet (eC (.bl false))) a0Q) (sSeq (a5C 5) (sIf (eNot (a0p a00 [(a0o a3p [(eVar 1), (eVar 3)]), (eAny 4)])) (sRet (eC (.bl false))) a0Q))))))
end Bell
namespace Bell
open PySem L3
abbrev Bx := Str × List Int
def bD (b : Bx) : D := .tup [.str b.1, .tup (b.2.map D.int)]
def a0J (bs : List Bx) : D := .tup (bs.map bD)
def a4s (i : Int) : Prop := -1000000000 ≤ i ∧ i ≤ 1000000000
def BxOk (b : Bx) : Prop := 1 ≤ b.2.length ∧ b.2.length ≤ 2 ∧ ∀ i ∈ b.2, a4s i
def a2G (bs : List Bx) : Prop := bs.length ≤ 8 ∧ ∀ b ∈ bs, BxOk b
def szB (bs : List Bx) (x : Nat) : Nat := (bs.getD x (Str.empty, [])).2.length
inductive Deed where
  | put (x : Nat) (ns : List Int) | copy (x y : Nat) | grow (x : Nat) (n : Int) | tick (x : Nat) | still (n : Nat)
  | iz (x y : Nat) (n : Int) | most (x y : Nat) (n : Int) | non (x : Nat) | anew (x y t : Nat)
def natD (n : Nat) : D := .int n
def Deed.d : Deed → D
  | .put x ns => .tup [.str (Str.ofString "put"), .int x, .tup (ns.map D.int)]
  | .copy x y => .tup [.str (Str.ofString "copy"), .int x, .int y]
  | .grow x n => .tup [.str (Str.ofString "grow"), .int x, .int n]
  | .tick x => .tup [.str (Str.ofString "tick"), .int x]
  | .still n => .tup [.str (Str.ofString "still"), .int n]
  | .iz x y n => .tup [.str (Str.ofString "is"), .int x, .int y, .int n]
  | .most x y n => .tup [.str (Str.ofString "most"), .int x, .int y, .int n]
  | .non x => .tup [.str (Str.ofString "none"), .int x]
  | .anew x y t => .tup [.str (Str.ofString "anew"), .int x, .int y, .int t]
def Deed.Ok (bs : List Bx) : Deed → Prop
  | .put x ns => x < bs.length ∧ ns.length = szB bs x ∧ ∀ i ∈ ns, a4s i
  | .copy x y => x < bs.length ∧ y < bs.length ∧ x ≠ y ∧ szB bs y = szB bs x
  | .grow x n => x < bs.length ∧ a4s n
  | .tick x => x < bs.length ∧ szB bs x = 1
  | .still n => 1 ≤ n ∧ n ≤ 9
  | .iz x y n => x < bs.length ∧ y < bs.length ∧ szB bs y = szB bs x ∧ a4s n
  | .most x y n => x < bs.length ∧ y < bs.length ∧ szB bs y = szB bs x ∧ a4s n
  | .non x => x < bs.length
  | .anew x y t => x < bs.length ∧ y < bs.length ∧ t < bs.length ∧ x ≠ y ∧ x ≠ t ∧ y ≠ t ∧ szB bs y = szB bs x ∧ szB bs t = 1
abbrev Pl := Deed × Nat
structure Rw where
  nm : Str
  rk : Nat
  pl : List Pl
def plD (p : Pl) : D := .tup [p.1.d, .int p.2]
def Rw.d (r : Rw) : D := .tup [.str r.nm, .int r.rk, .tup (r.pl.map plD)]
def progD (bs : List Bx) (rs : List Rw) : D := .tup [a0J bs, .tup (rs.map Rw.d)]
def PlOk (bs : List Bx) (bells : Nat) (p : Pl) : Prop := p.1.Ok bs ∧ p.2 < 2 ^ (bells + 1) ∧ p.2 % 2 = 0
def RwOk (bs : List Bx) (bells most : Nat) (r : Rw) : Prop := 1 ≤ r.pl.length ∧ r.pl.length ≤ most ∧ (∀ p ∈ r.pl, PlOk bs bells p)
structure ProgOk (bs : List Bx) (rs : List Rw) (bells most : Nat) : Prop where
  box : a2G bs
  len : rs.length = bells + 1
  row : ∀ r ∈ rs, RwOk bs bells most r
  main : (rs.getD 0 ⟨Str.empty, 1, []⟩).rk = 0
  rank : ∀ k r, rs[k]? = some r → k ≠ 0 → 1 ≤ r.rk ∧ r.rk ≤ 9
theorem a23 (ds : List D) : dLen (.lst ds) = okI (ds.length : Int) := rfl
theorem a6Z {bs : List Bx} {x : Nat} (h : x < bs.length) : dIx (a0J bs) (.int x) = okD (bD bs[x]) := ix_tup (by rw [List.getElem?_map, List.getElem?_eq_getElem h]; rfl)
theorem a3A (bs : List Bx) : dLen (a0J bs) = okI (bs.length : Int) := by show okI ((bs.map bD).length : Int) = _; rw [List.length_map]
theorem a7U {bs : List Bx} {x : Nat} (h : x < bs.length) : szB bs x = bs[x].2.length := by
  unfold szB
  rw [List.getD_eq_getElem?_getD, List.getElem?_eq_getElem h]
  rfl
theorem a6W (ns : List Int) : dLen (.tup (ns.map D.int)) = okI (ns.length : Int) := by show okI ((ns.map D.int).length : Int) = _; rw [List.length_map]
theorem ix_bD1 (b : Bx) : dIx (bD b) (.int 1) = okD (.tup (b.2.map D.int)) := a2H
end Bell
namespace Bell
open PySem L3
theorem a6N {bs : List Bx} {x : Nat} (h : x < bs.length) {ρ : MEnv} {i j : Nat} (hi : ρ[i]? = some (some (.sh (a0J bs)))) (hj : ρ[j]? = some (some (.sh (.int x)))) : a0p (f1 dLen) [eBin dIx (eBin dIx (eVar i) (eVar j)) (eC (.int 1))] ρ = okI (szB bs x : Nat) := by
  rw [a7U h]
  exact lenB (a0d (a0d (a2c hi) (a2c hj) (a6Z h)) rfl (ix_bD1 _)) (a6W _)
theorem a1c {bs : List Bx} (hb : a2G bs) {x : Nat} (h : x < bs.length) : szB bs x = 1 ∨ szB bs x = 2 := by
  have hx := hb.2 bs[x] (List.getElem_mem h)
  rw [a7U h]
  have := hx.1; have := hx.2.1
  omega
abbrev intD (k : Nat) : D := .int k
def mates (bs : List Bx) (x : Nat) : List Nat := (List.range bs.length).filter fun y => !decide (y = x) && decide (szB bs y = szB bs x)
def ones (bs : List Bx) (x y : Nat) : List Nat := (List.range bs.length).filter fun t => !decide (t = x) && (!decide (t = y) && decide (szB bs t = 1))
theorem eqN (i j : Nat) : dEq (.int i) (.int j) = okB (decide (i = j)) := by rw [eq_d, show decide ((i : Int) = (j : Int)) = decide (i = j) from decide_eq_decide.mpr (by omega)]
theorem neN (i j : Nat) : dNe (.int i) (.int j) = okB (!decide (i = j)) := by rw [ne_d, show decide ((i : Int) = (j : Int)) = decide (i = j) from decide_eq_decide.mpr (by omega)]
theorem and_b {ρ : MEnv} {a b : ME} {p q : Bool} (h1 : a ρ = okB p) (h2 : b ρ = okB q) : eAnd a b ρ = okB (p && q) := by
  cases p with
  | true => exact a36 h1 h2
  | false => exact a2E h1
theorem ix_nat {l : List Nat} {j : Nat} (h : j < l.length) : dIx (.lst (l.map intD)) (.int j) = okI (l[j] : Nat) := a04 (by rw [List.getElem?_map, List.getElem?_eq_getElem h]; rfl)
end Bell
namespace Bell
open PySem L3
theorem a5Y {sc : D} {k m c : Int} (h0 : 0 ≤ k) (h1 : k ≤ 100000) (hm : 0 < m) (hc : 0 ≤ c) : ∃ n : Nat, a5t [some (.sh sc), some (.sh (.int k)), some (.sh (.int m)), some (.sh (.int c))] = some (.ret (.sh (.int (n : Int)))) ∧ (n : Int) < m := by
  have hk : k * k ≤ 100000 * 100000 := Int.mul_le_mul h1 h1 h0 (by decide)
  have hk0 : 0 ≤ k * k := Int.mul_nonneg h0 h0
  have hp := Int.emod_nonneg ((c + 1) * (k * k + k + 41) % 999983 * 48271 % 2147483647 / 11) (b := m) (by omega)
  have hq := Int.emod_lt_of_pos ((c + 1) * (k * k + k + 41) % 999983 * 48271 % 2147483647 / 11) hm
  refine ⟨((c + 1) * (k * k + k + 41) % 999983 * 48271 % 2147483647 / 11 % m).toNat, ?_, by omega⟩
  rw [Int.toNat_of_nonneg hp]
  exact a0U (a0d (a0d (a0d (a0d (a0d (a0d (a0d rfl rfl rfl) (a0d (a0d (a0d rfl rfl (mulL (by omega) (by omega))) rfl rfl) rfl rfl) (mulR (by omega) (by omega))) rfl (a2O (by decide))) rfl (mulR (by decide) (by decide))) rfl (a2O (by decide))) rfl (fdiv_int (by decide) (by decide))) rfl (a2O hm))
theorem a5k {ns : List Int} {k m : Int} (h0 : 0 ≤ k) (h1 : k ≤ 100000) (hm : 0 < m) : ∃ n : Nat, a0s [.lst (ns.map D.int), .int k, .int m] = okI n ∧ (n : Int) < m := by
  cases ns with
  | nil =>
    obtain ⟨n, e, hn⟩ := a5Y (sc := .lst []) (c := 0) h0 h1 hm (by decide)
    exact ⟨n, a0A rfl (a0b (a0B rfl) (a0b (if_f rfl rfl) e)), hn⟩
  | cons a ns =>
    have hl : (0 : Int) < ((a :: ns).length : Int) := by rw [List.length_cons]; omega
    have hp : 0 ≤ k % ((a :: ns).length : Int) := Int.emod_nonneg _ (by omega)
    have hq : k % ((a :: ns).length : Int) < ((a :: ns).length : Int) := Int.emod_lt_of_pos _ hl
    have hlen : dLen (.lst ((a :: ns).map D.int)) = okI ((a :: ns).length : Int) := by show okI (((a :: ns).map D.int).length : Int) = _; rw [List.length_map]
    have hix : dIx (.lst ((a :: ns).map D.int)) (.int (k % ((a :: ns).length : Int))) = okI ((a :: ns).getD (k % ((a :: ns).length : Int)).toNat 0) := by
      have e : ((a :: ns).map D.int)[(k % ((a :: ns).length : Int)).toNat]? = some (.int ((a :: ns).getD (k % ((a :: ns).length : Int)).toNat 0)) := by
        have hi : (k % ((a :: ns).length : Int)).toNat < (a :: ns).length := by omega
        rw [List.getElem?_map, List.getD_eq_getElem?_getD, List.getElem?_eq_getElem hi]
        rfl
      have z := a04 e
      rwa [Int.toNat_of_nonneg hp] at z
    obtain ⟨n, e, hn⟩ := a5Y (sc := .lst ((a :: ns).map D.int)) (c := (a :: ns).getD (k % ((a :: ns).length : Int)).toNat 0 % 1000003) h0 h1 hm (Int.emod_nonneg _ (by decide))
    refine ⟨n, a0A rfl (a0b (a0B rfl) (a0b (if_t (a0d (lenB rfl hlen) rfl ?_) (a0B (a0d (a0d rfl (a0d rfl (lenB rfl hlen) (a2O hl)) hix) rfl (a2O (by decide))))) e)), hn⟩
    show okB (decide (0 < ((a :: ns).length : Int))) = _
    rw [decide_eq_true hl]
theorem numN {ns : List Int} {k : Int} (h0 : 0 ≤ k) (h1 : k ≤ 90000) : ∃ v : Int, a0D [.lst (ns.map D.int), .int k] = okI v ∧ a4s v := by
  obtain ⟨f, df, hf⟩ := a5k (ns := ns) (k := k) (m := 2000) h0 (by omega) (by decide)
  obtain ⟨i, di, hi⟩ := a5k (ns := ns) (k := k + 4000) (m := 4) (by omega) (by omega) (by decide)
  have hp : dPow (.int 10) (.int 9) = okI 1000000000 := rfl
  have f7 := Int.emod_nonneg (f : Int) (b := 7) (by decide)
  have f7' := Int.emod_lt_of_pos (f : Int) (b := 7) (by decide)
  have f5 := Int.emod_nonneg (f : Int) (b := 5) (by decide)
  have f5' := Int.emod_lt_of_pos (f : Int) (b := 5) (by decide)
  have menu : ∀ ρ : MEnv, ρ[2]? = some (some (.sh (.int f))) → eLst [(eBin dSub (eBin dMod (eVar 2) (eC (.int 7))) (eC (.int 3))), (eBin dSub (eBin dPow (eC (.int 10)) (eC (.int 9))) (eBin dMod (eVar 2) (eC (.int 5)))), (eBin dSub (eBin dMod (eVar 2) (eC (.int 5))) (eBin dPow (eC (.int 10)) (eC (.int 9)))), (eBin dMul (eVar 2) (eC (.int 499999)))] ρ = okL [.int ((f : Int) % 7 - 3), .int (1000000000 - (f : Int) % 5), .int ((f : Int) % 5 - 1000000000), .int ((f : Int) * 499999)] := fun ρ h =>
    a6E (a0d (a0d (a2c h) rfl (a2O (by decide))) rfl rfl) (a0d (a0d rfl rfl hp) (a0d (a2c h) rfl (a2O (by decide))) rfl) (a0d (a0d (a2c h) rfl (a2O (by decide))) (a0d rfl rfl hp) rfl) (a0d (a2c h) rfl (mulR (by decide) (by decide))) rfl
  have go : ∀ v : Int, dIx (.lst [.int ((f : Int) % 7 - 3), .int (1000000000 - (f : Int) % 5), .int ((f : Int) % 5 - 1000000000), .int ((f : Int) * 499999)]) (.int (i : Int)) = okI v → a0D [.lst (ns.map D.int), .int k] = okI v := fun v hv =>
    a0A rfl (a0b (a0B (a2C rfl rfl rfl df)) (a0b (a0B (menu _ rfl)) (a2a (a0U (a0d rfl (a2C rfl (a0d rfl rfl rfl) rfl di) hv)))))
  match i, hi, go with
  | 0, _, go => exact ⟨_, go _ ix_l0, by unfold a4s; omega⟩
  | 1, _, go => exact ⟨_, go _ ix_l1, by unfold a4s; omega⟩
  | 2, _, go => exact ⟨_, go _ ix_l2, by unfold a4s; omega⟩
  | 3, _, go => exact ⟨_, go _ (a04 (n := 3) rfl), by unfold a4s; omega⟩
  | n + 4, hi, _ => omega
theorem mulS_e {x : Str} {n : Nat} (h : x.length = 1) (hn : n = 1 ∨ n = 2) : ∃ y, dMulS (.str x) (.int (n : Int)) = okD (.str y) := by
  have hc : x.length = 1 ∧ ((n : Int) = 1 ∨ (n : Int) = 2) := ⟨h, by omega⟩
  exact ⟨_, if_pos hc⟩
theorem letter_e {b : Nat} (h : b < 8) : ∃ c : Nat, dIx (.str (Str.ofString "abcdefgh")) (.int (b : Int)) = okD (.str ⟨#[c]⟩) := by
  match b, h with
  | 0, _ => exact ⟨97, rfl⟩
  | 1, _ => exact ⟨98, rfl⟩
  | 2, _ => exact ⟨99, rfl⟩
  | 3, _ => exact ⟨100, rfl⟩
  | 4, _ => exact ⟨101, rfl⟩
  | 5, _ => exact ⟨102, rfl⟩
  | 6, _ => exact ⟨103, rfl⟩
  | 7, _ => exact ⟨104, rfl⟩
theorem take12 {a b : Int} {n : Nat} (hn : n = 1 ∨ n = 2) {ρ : MEnv} {e : ME} {s : S} (h : e ρ = some (.ok s)) (hv : s.val = .lst [.int a, .int b]) {e1 : ME} (h1 : e1 ρ = okI (n : Int)) : a4n e none (some e1) ρ = okL (([a, b].take n).map D.int) := by
  unfold a4n
  rw [h]
  simp only [bindV_ok, partD, hv, h1, S.val_sh]
  rcases hn with rfl | rfl <;> rfl
theorem boxes_ok {ns : List Int} : ∃ bs : List Bx, a2A [.lst (ns.map D.int)] = okD (a0J bs) ∧ 1 ≤ bs.length ∧ a2G bs := by
  obtain ⟨i, di, hi⟩ := a5k (ns := ns) (k := 3) (m := 8) (by decide) (by decide) (by decide)
  have hcount : ∃ m : Nat, dIx (.lst [.int 1, .int 2, .int 3, .int 3, .int 4, .int 4, .int 5, .int 8]) (.int (i : Int)) = okI (m : Int) ∧ 1 ≤ m ∧ m ≤ 8 := by
    match i, hi with
    | 0, _ => exact ⟨1, rfl, by decide, by decide⟩
    | 1, _ => exact ⟨2, rfl, by decide, by decide⟩
    | 2, _ => exact ⟨3, rfl, by decide, by decide⟩
    | 3, _ => exact ⟨3, rfl, by decide, by decide⟩
    | 4, _ => exact ⟨4, rfl, by decide, by decide⟩
    | 5, _ => exact ⟨4, rfl, by decide, by decide⟩
    | 6, _ => exact ⟨5, rfl, by decide, by decide⟩
    | 7, _ => exact ⟨8, rfl, by decide, by decide⟩
    | n + 8, hi => omega
  obtain ⟨m, hm, m1, m8⟩ := hcount
  have step : ∀ (k : Nat) (ρ : MEnv), k < m → (∃ bs : List Bx, bs.length = k ∧ (∀ b ∈ bs, BxOk b) ∧ ∃ e2 e3 e4 : Option S, ρ = [some (.sh (.lst (ns.map D.int))), some (.own (.lst (bs.map bD))), e2, e3, e4]) →
      ∃ ρ1 ρ2, a1k 2 (.int k) ρ = some ρ1 ∧ a5p ρ1 = some (.next ρ2) ∧ (∃ bs : List Bx, bs.length = k + 1 ∧ (∀ b ∈ bs, BxOk b) ∧ ∃ e2 e3 e4 : Option S, ρ2 = [some (.sh (.lst (ns.map D.int))), some (.own (.lst (bs.map bD))), e2, e3, e4]) := by
    rintro k ρ hk ⟨bs, hl, hs, e2, e3, e4, rfl⟩
    obtain ⟨a, ea, oa⟩ := numN (ns := ns) (k := 10 + 4 * (k : Int)) (by omega) (by omega)
    obtain ⟨b, eb, ob⟩ := numN (ns := ns) (k := 11 + 4 * (k : Int)) (by omega) (by omega)
    obtain ⟨j, ej, hj⟩ := a5k (ns := ns) (k := 12 + 4 * (k : Int)) (m := 2) (by omega) (by omega) (by decide)
    obtain ⟨c, ec⟩ := letter_e (b := k) (by omega)
    have h12 : 1 + j = 1 ∨ 1 + j = 2 := by omega
    obtain ⟨y, ey⟩ := mulS_e (x := ⟨#[c]⟩) rfl h12
    have e1j : dAdd (.int 1) (.int (j : Int)) = okI ((1 + j : Nat) : Int) := by rw [add_int]; congr 4
    refine ⟨_, _, rfl, a0b (a0B (a1g (a1g rfl (a0d rfl (a0d rfl rfl (mulL (by decide) (by decide))) rfl) ea) (a1g rfl (a0d rfl (a0d rfl rfl (mulL (by decide) (by decide))) rfl) eb) rfl)) (a0b (a0B (a0d rfl (a2C rfl (a0d rfl (a0d rfl rfl (mulL (by decide) (by decide))) rfl) rfl ej) e1j)) (a2a (a5r (s := .sh (bD (y, [a, b].take (1 + j)))) rfl (tup2 (s1 := .sh (.str y)) (s2 := .sh (.tup (([a, b].take (1 + j)).map D.int))) (a0d (a0d rfl rfl ec) rfl ey) (a1C (take12 h12 rfl rfl rfl) rfl)) ?_))), bs ++ [(y, [a, b].take (1 + j))], by rw [List.length_append, hl]; rfl, ?_, some (.sh (.int (k : Int))), some (.sh (.lst [.int a, .int b])), some (.sh (.int ((1 + j : Nat) : Int))), ?_⟩
    · rw [List.length_map, hl]; exact Nat.lt_of_lt_of_le (by omega : k < 8) (by decide)
    · intro z hz
      rcases List.mem_append.mp hz with h | h
      · exact hs z h
      · rw [List.mem_singleton.mp h]
        refine ⟨by show 1 ≤ ([a, b].take (1 + j)).length; rw [List.length_take]; show 1 ≤ min (1 + j) 2; omega, by show ([a, b].take (1 + j)).length ≤ 2; rw [List.length_take]; show min (1 + j) 2 ≤ 2; omega, fun i hi => ?_⟩
        have hi' := List.mem_of_mem_take hi
        rcases List.mem_cons.mp hi' with rfl | hi'
        · exact oa
        · rw [List.mem_singleton.mp hi']; exact ob
    · rw [List.map_append]; rfl
  obtain ⟨ρ', e, bs, hl, hs, e2, e3, e4, rfl⟩ := a21 (ρ := [some (.sh (.lst (ns.map D.int))), some (.own (.lst [])), none, none, none]) (fun k ρ => ∃ bs : List Bx, bs.length = k ∧ (∀ b ∈ bs, BxOk b) ∧ ∃ e2 e3 e4 : Option S, ρ = [some (.sh (.lst (ns.map D.int))), some (.own (.lst (bs.map bD))), e2, e3, e4]) m ⟨[], rfl, fun _ h => (nomatch h), none, none, none, rfl⟩ step
  refine ⟨bs, a0A rfl (a0b (a0B rfl) (a0b (a8K (a2d (a0d (s := .own (.lst [.int 1, .int 2, .int 3, .int 3, .int 4, .int 4, .int 5, .int 8])) rfl (a2C rfl rfl rfl di) hm) (a1f (by omega))) e) (a2a (a0U (a1C rfl rfl))))), by omega, by omega, hs⟩
end Bell
namespace Bell
open PySem L3
def a3u (bs : List Bx) (x : Nat) : List Nat := (List.range bs.length).filter fun y => decide (szB bs y = szB bs x)
def a3W (bs : List Bx) (x y : Nat) : List Nat := (List.range bs.length).filter fun t => decide (szB bs t = 1) && (!decide (t = x) && !decide (t = y))
theorem a5B {bs : List Bx} {x y : Nat} : y ∈ a3u bs x ↔ y < bs.length ∧ szB bs y = szB bs x := by
  unfold a3u; rw [List.mem_filter, List.mem_range]; simp
theorem a8w {bs : List Bx} {x y t : Nat} : t ∈ a3W bs x y ↔ t < bs.length ∧ szB bs t = 1 ∧ t ≠ x ∧ t ≠ y := by
  unfold a3W; rw [List.mem_filter, List.mem_range]; simp
theorem a78 {bs : List Bx} {x : Nat} : (a3u bs x).length ≤ bs.length := by
  unfold a3u; refine Nat.le_trans (List.length_filter_le _ _) ?_; rw [List.length_range]; exact Nat.le_refl _
theorem a8x {bs : List Bx} {x y : Nat} : (a3W bs x y).length ≤ bs.length := by
  unfold a3W; refine Nat.le_trans (List.length_filter_le _ _) ?_; rw [List.length_range]; exact Nat.le_refl _
theorem a2w (l : List Nat) : dLen (.lst (l.map intD)) = okI (l.length : Int) := by rw [a23, List.length_map]
theorem a0M {bs : List Bx} {a b : MC} {ρ ρ' : MEnv} (h : a ρ = some (.next ρ')) (t : ∃ dd : Deed, dd.Ok bs ∧ b ρ' = some (.ret (.sh dd.d))) : ∃ dd : Deed, dd.Ok bs ∧ sSeq a b ρ = some (.ret (.sh dd.d)) := by
  obtain ⟨dd, ok, e⟩ := t
  exact ⟨dd, ok, a0b h e⟩
abbrev a4L : List D := [.str (Str.ofString "put"), .str (Str.ofString "copy"), .str (Str.ofString "grow"), .str (Str.ofString "tick"), .str (Str.ofString "still"), .str (Str.ofString "is"), .str (Str.ofString "most"), .str (Str.ofString "none"), .str (Str.ofString "anew"), .str (Str.ofString "grow"), .str (Str.ofString "put"), .str (Str.ofString "anew")]
inductive Kd : Str → Prop
  | put : Kd (Str.ofString "put") | copy : Kd (Str.ofString "copy") | grow : Kd (Str.ofString "grow") | tick : Kd (Str.ofString "tick") | still : Kd (Str.ofString "still")
  | iz : Kd (Str.ofString "is") | most : Kd (Str.ofString "most") | non : Kd (Str.ofString "none") | anew : Kd (Str.ofString "anew")
theorem kind_e {i : Nat} (h : i < 12) : ∃ s, Kd s ∧ dIx (.lst a4L) (.int (i : Int)) = okD (.str s) := by
  match i, h with
  | 0, _ => exact ⟨_, .put, a04 (n := 0) rfl⟩
  | 1, _ => exact ⟨_, .copy, a04 (n := 1) rfl⟩
  | 2, _ => exact ⟨_, .grow, a04 (n := 2) rfl⟩
  | 3, _ => exact ⟨_, .tick, a04 (n := 3) rfl⟩
  | 4, _ => exact ⟨_, .still, a04 (n := 4) rfl⟩
  | 5, _ => exact ⟨_, .iz, a04 (n := 5) rfl⟩
  | 6, _ => exact ⟨_, .most, a04 (n := 6) rfl⟩
  | 7, _ => exact ⟨_, .non, a04 (n := 7) rfl⟩
  | 8, _ => exact ⟨_, .anew, a04 (n := 8) rfl⟩
  | 9, _ => exact ⟨_, .grow, a04 (n := 9) rfl⟩
  | 10, _ => exact ⟨_, .put, a04 (n := 10) rfl⟩
  | 11, _ => exact ⟨_, .anew, a04 (n := 11) rfl⟩
set_option maxHeartbeats 4000000 in
theorem deed_ok {ns : List Int} {bs : List Bx} (hb : a2G bs) (h1 : 1 ≤ bs.length) {k : Int} (hk0 : 0 ≤ k) (hk1 : k ≤ 1000) : ∃ dd : Deed, dd.Ok bs ∧ a2r [a0J bs, .lst (ns.map D.int), .int k] = okD dd.d := by
  obtain ⟨i, di, hi⟩ := a5k (ns := ns) (k := k) (m := 12) hk0 (by omega) (by decide)
  obtain ⟨kd, hkd, ekd⟩ := kind_e (i := i) (by omega)
  obtain ⟨x, dx, hx⟩ := a5k (ns := ns) (k := k + 1) (m := bs.length) (by omega) (by omega) (by omega)
  have hx : x < bs.length := by omega
  have h12 := a1c hb hx
  have b8 := hb.1
  have sl := a78 (bs := bs) (x := x)
  have s0 : 0 < (a3u bs x).length := List.length_pos_of_mem (a5B.mpr ⟨hx, rfl⟩)
  obtain ⟨j, dj, hj⟩ := a5k (ns := ns) (k := k + 2) (m := ((a3u bs x).length : Int)) (by omega) (by omega) (by omega)
  have hj : j < (a3u bs x).length := by omega
  have ey : dIx (.lst ((a3u bs x).map intD)) (.int (j : Int)) = okI ((a3u bs x)[j] : Nat) := ix_nat hj
  have hy := a5B.mp (List.getElem_mem hj)
  generalize (a3u bs x)[j] = y at ey hy
  obtain ⟨n, en, on⟩ := numN (ns := ns) (k := k + 3) (by omega) (by omega)
  have ol := a8x (bs := bs) (x := x) (y := y)
  have hsame : a1U [11] (a1j (a0p (f1 dLen) [(eAny 0)])) (a1k 11) (eBin dEq (a0p (f1 dLen) [(eBin dIx (eBin dIx (eVar 0) (eVar 11)) (eC (.int 1)))]) (eVar 6)) (eVar 11) [some (.sh (a0J bs)), some (.sh (.lst (ns.map D.int))), some (.sh (.int k)), some (.sh (.lst a4L)), some (.sh (.str kd)), some (.sh (.int x)), some (.sh (.int (szB bs x : Nat))), none, none, none, none, none] = okL ((a3u bs x).map intD) := by
    refine a6z (List.range bs.length) intD (fun y => decide (szB bs y = szB bs x)) intD ?_ (by rw [List.length_range]; exact Nat.le_trans b8 (by decide)) fun t ht => ?_
    · rw [← rng0]; exact a2d (lenB (a35 rfl) (a3A bs)) (a1f (by omega))
    · exact ⟨_, rfl, a0d (a6N (List.mem_range.mp ht) rfl rfl) rfl (eqN _ _), fun _ => ⟨_, rfl, rfl⟩⟩
  have hones : a1U [11] (a1j (a0p (f1 dLen) [(eAny 0)])) (a1k 11) (eAnd (eBin dEq (a0p (f1 dLen) [(eBin dIx (eBin dIx (eVar 0) (eVar 11)) (eC (.int 1)))]) (eC (.int 1))) (eAnd (eBin dNe (eVar 11) (eVar 5)) (eBin dNe (eVar 11) (eVar 8)))) (eVar 11) [some (.sh (a0J bs)), some (.sh (.lst (ns.map D.int))), some (.sh (.int k)), some (.sh (.lst a4L)), some (.sh (.str kd)), some (.sh (.int x)), some (.sh (.int (szB bs x : Nat))), some (.sh (.lst ((a3u bs x).map intD))), some (.sh (.int y)), none, none, none] = okL ((a3W bs x y).map intD) := by
    refine a6z (List.range bs.length) intD (fun t => decide (szB bs t = 1) && (!decide (t = x) && !decide (t = y))) intD ?_ (by rw [List.length_range]; exact Nat.le_trans b8 (by decide)) fun t ht => ?_
    · rw [← rng0]; exact a2d (lenB (a35 rfl) (a3A bs)) (a1f (by omega))
    · exact ⟨_, rfl, and_b (a0d (a6N (List.mem_range.mp ht) rfl rfl) rfl (eqN _ 1)) (and_b (a0d rfl rfl (neN t x)) (a0d rfl rfl (neN t y))), fun _ => ⟨_, rfl, rfl⟩⟩
  have kinds : ∀ ρ : MEnv, eLst [(eC (.str (Str.ofString "put"))), (eC (.str (Str.ofString "copy"))), (eC (.str (Str.ofString "grow"))), (eC (.str (Str.ofString "tick"))), (eC (.str (Str.ofString "still"))), (eC (.str (Str.ofString "is"))), (eC (.str (Str.ofString "most"))), (eC (.str (Str.ofString "none"))), (eC (.str (Str.ofString "anew"))), (eC (.str (Str.ofString "grow"))), (eC (.str (Str.ofString "put"))), (eC (.str (Str.ofString "anew")))] ρ = okL a4L := fun _ => rfl
  suffices z : ∃ dd : Deed, dd.Ok bs ∧ a5u [some (.sh (a0J bs)), some (.sh (.lst (ns.map D.int))), some (.sh (.int k)), some (.sh (.lst a4L)), some (.sh (.str kd)), some (.sh (.int x)), some (.sh (.int (szB bs x : Nat))), some (.sh (.lst ((a3u bs x).map intD))), some (.sh (.int y)), some (.own (.lst ((a3W bs x y).map intD))), some (.sh (.int n)), none] = some (.ret (.sh dd.d)) by
    obtain ⟨dd, ok, e⟩ := z
    exact ⟨dd, ok, a0A rfl (a0b (a0B (kinds _)) (a2a (a0b (a0B (a0d rfl (a2C rfl rfl rfl di) ekd)) (a0b (a0B (a2C rfl (a0d rfl rfl rfl) (lenB rfl (a3A bs)) dx)) (a0b (a0B (a6N hx rfl rfl)) (a0b (a0B hsame) (a2a (a0b (a0B (a0d rfl (a2C rfl (a0d rfl rfl rfl) (lenB rfl (a2w _)) dj) ey)) (a0b (a0B hones) (a0b (a0B (a1g rfl (a0d rfl rfl rfl) en)) e))))))))))⟩
  have still : ∀ kd : Str, ∃ dd : Deed, dd.Ok bs ∧ a4V [some (.sh (a0J bs)), some (.sh (.lst (ns.map D.int))), some (.sh (.int k)), some (.sh (.lst a4L)), some (.sh (.str kd)), some (.sh (.int x)), some (.sh (.int (szB bs x : Nat))), some (.sh (.lst ((a3u bs x).map intD))), some (.sh (.int y)), some (.own (.lst ((a3W bs x y).map intD))), some (.sh (.int n)), none] = some (.ret (.sh dd.d)) := fun kd => by
    obtain ⟨m, dm, hm⟩ := a5k (ns := ns) (k := k + 5) (m := 9) (by omega) (by omega) (by decide)
    refine ⟨.still (1 + m), ⟨by omega, by omega⟩, a0U (a1g (s2 := .sh (.int ((1 + m : Nat) : Int))) rfl (a0d rfl (a2C rfl (a0d rfl rfl rfl) rfl dm) ?_) rfl)⟩
    show okI (1 + (m : Int)) = okI ((1 + m : Nat) : Int)
    congr 4
  have f : ∀ {a b : Str} {ρ : MEnv}, ρ[4]? = some (some (.sh (.str b))) → b ≠ a → eBin dEq (eVar 4) (eC (.str a)) ρ = okB false := fun h e => a0d (a2c h) rfl (a0l e)
  have t : ∀ {a : Str} {ρ : MEnv}, ρ[4]? = some (some (.sh (.str a))) → eBin dEq (eVar 4) (eC (.str a)) ρ = okB true := fun h => a0d (a2c h) rfl (a2B rfl)
  cases hkd with
  | put =>
    refine ⟨.put x ([n, -n].take (szB bs x)), ⟨hx, ?_, fun i hi => ?_⟩, a0O (if_t (t rfl) (a0U (a2C rfl rfl (a1C (take12 h12 (a1g rfl (un_e rfl rfl) rfl) rfl rfl) rfl) rfl)))⟩
    · rw [List.length_take]; show min (szB bs x) 2 = _; omega
    · have hi' := List.mem_of_mem_take hi
      unfold a4s at on ⊢
      rcases List.mem_cons.mp hi' with rfl | hi'
      · exact on
      · rw [List.mem_singleton.mp hi']; omega
  | copy =>
    refine a0M (if_f (f rfl (by decide)) rfl) ?_
    by_cases c : x = y
    · exact a0M (if_f (a36 (t rfl) (a0d rfl rfl (ne_f (by omega)))) rfl) (a0M (if_f (f rfl (by decide)) rfl) (a0M (if_f (a2E (f rfl (by decide))) rfl) (a0M (if_f (or_f (f rfl (by decide)) (f rfl (by decide))) rfl) (a0M (if_f (f rfl (by decide)) rfl) (a0M (if_f (a2E (f rfl (by decide))) rfl) (still _))))))
    · exact ⟨.copy x y, ⟨hx, hy.1, c, hy.2⟩, a0O (if_t (a36 (t rfl) (a0d rfl rfl (ne_t (by omega)))) (a0U (a2C rfl rfl rfl rfl)))⟩
  | grow => exact a0M (if_f (f rfl (by decide)) rfl) (a0M (if_f (a2E (f rfl (by decide))) rfl) ⟨.grow x n, ⟨hx, on⟩, a0O (if_t (t rfl) (a0U (a2C rfl rfl rfl rfl)))⟩)
  | tick =>
    refine a0M (if_f (f rfl (by decide)) rfl) (a0M (if_f (a2E (f rfl (by decide))) rfl) (a0M (if_f (f rfl (by decide)) rfl) ?_))
    by_cases c : szB bs x = 1
    · exact ⟨.tick x, ⟨hx, c⟩, a0O (if_t (a36 (t rfl) (a0d rfl rfl (eq_t (by omega)))) (a0U (a1g rfl rfl rfl)))⟩
    · exact a0M (if_f (a36 (t rfl) (a0d rfl rfl (eq_f (by omega)))) rfl) (a0M (if_f (or_f (f rfl (by decide)) (f rfl (by decide))) rfl) (a0M (if_f (f rfl (by decide)) rfl) (a0M (if_f (a2E (f rfl (by decide))) rfl) (still _))))
  | still => exact a0M (if_f (f rfl (by decide)) rfl) (a0M (if_f (a2E (f rfl (by decide))) rfl) (a0M (if_f (f rfl (by decide)) rfl) (a0M (if_f (a2E (f rfl (by decide))) rfl) (a0M (if_f (or_f (f rfl (by decide)) (f rfl (by decide))) rfl) (a0M (if_f (f rfl (by decide)) rfl) (a0M (if_f (a2E (f rfl (by decide))) rfl) (still _)))))))
  | iz => exact a0M (if_f (f rfl (by decide)) rfl) (a0M (if_f (a2E (f rfl (by decide))) rfl) (a0M (if_f (f rfl (by decide)) rfl) (a0M (if_f (a2E (f rfl (by decide))) rfl) ⟨.iz x y n, ⟨hx, hy.1, hy.2, on⟩, a0O (if_t (or_t (t rfl)) (a0U (a6E rfl rfl rfl rfl rfl)))⟩)))
  | most => exact a0M (if_f (f rfl (by decide)) rfl) (a0M (if_f (a2E (f rfl (by decide))) rfl) (a0M (if_f (f rfl (by decide)) rfl) (a0M (if_f (a2E (f rfl (by decide))) rfl) ⟨.most x y n, ⟨hx, hy.1, hy.2, on⟩, a0O (if_t (or_f (f rfl (by decide)) (t rfl)) (a0U (a6E rfl rfl rfl rfl rfl)))⟩)))
  | non => exact a0M (if_f (f rfl (by decide)) rfl) (a0M (if_f (a2E (f rfl (by decide))) rfl) (a0M (if_f (f rfl (by decide)) rfl) (a0M (if_f (a2E (f rfl (by decide))) rfl) (a0M (if_f (or_f (f rfl (by decide)) (f rfl (by decide))) rfl) ⟨.non x, hx, a0O (if_t (t rfl) (a0U (a1g rfl rfl rfl)))⟩))))
  | anew =>
    refine a0M (if_f (f rfl (by decide)) rfl) (a0M (if_f (a2E (f rfl (by decide))) rfl) (a0M (if_f (f rfl (by decide)) rfl) (a0M (if_f (a2E (f rfl (by decide))) rfl) (a0M (if_f (or_f (f rfl (by decide)) (f rfl (by decide))) rfl) (a0M (if_f (f rfl (by decide)) rfl) ?_)))))
    by_cases c : x = y
    · exact a0M (if_f (a36 (t rfl) (a2E (a0d rfl rfl (ne_f (by omega))))) rfl) (still _)
    · by_cases c2 : 0 < (a3W bs x y).length
      · obtain ⟨q, dq, hq⟩ := a5k (ns := ns) (k := k + 4) (m := ((a3W bs x y).length : Int)) (by omega) (by omega) (by omega)
        have hq : q < (a3W bs x y).length := by omega
        have eq : dIx (.lst ((a3W bs x y).map intD)) (.int (q : Int)) = okI ((a3W bs x y)[q] : Nat) := ix_nat hq
        have hm := a8w.mp (List.getElem_mem hq)
        generalize (a3W bs x y)[q] = r at eq hm
        exact ⟨.anew x y r, ⟨hx, hy.1, hm.1, c, fun z => hm.2.2.1 z.symm, fun z => hm.2.2.2 z.symm, hy.2, hm.2.1⟩, a0O (if_t (a36 (t rfl) (a36 (a0d rfl rfl (ne_t (by omega))) (a0d (lenB rfl (a2w _)) rfl (gt_t (by omega))))) (a2a (a0U (a6E rfl rfl rfl (a0d rfl (a2C rfl (a0d rfl rfl rfl) (lenB rfl (a2w _)) dq) eq) rfl))))⟩
      · exact a0M (if_f (a36 (t rfl) (a36 (a0d rfl rfl (ne_t (by omega))) (a0d (lenB rfl (a2w _)) rfl (gt_f (by omega))))) rfl) (still _)
end Bell
namespace Bell
open PySem L3
def fstB (bs : List Bx) (x : Nat) : Nat := ((List.range x).map (szB bs)).sum
def totB (bs : List Bx) : Nat := fstB bs bs.length
theorem a5h (bs : List Bx) (x : Nat) : fstB bs (x + 1) = fstB bs x + szB bs x := by
  unfold fstB; rw [List.range_succ, List.map_append, List.sum_append]; simp
theorem a61 {bs : List Bx} : ∀ {x y : Nat}, x ≤ y → fstB bs x ≤ fstB bs y
  | x, 0, h => by rw [Nat.le_zero.mp h]; exact Nat.le_refl _
  | x, y + 1, h => by
    by_cases e : x = y + 1
    · rw [e]; exact Nat.le_refl _
    · rw [a5h]; have := a61 (bs := bs) (x := x) (y := y) (by omega); omega
theorem a8I {bs : List Bx} {x y : Nat} (h : x < y) : fstB bs x + szB bs x ≤ fstB bs y := by rw [← a5h]; exact a61 h
theorem a8H {bs : List Bx} {x : Nat} (h : x < bs.length) : fstB bs x + szB bs x ≤ totB bs := a8I h
theorem a8J {bs : List Bx} (hb : a2G bs) : ∀ {x : Nat}, x ≤ bs.length → fstB bs x ≤ 2 * x
  | 0, _ => Nat.le_refl _
  | x + 1, h => by
    rw [a5h]
    have := a8J hb (x := x) (by omega)
    rcases a1c hb (x := x) (by omega) with e | e <;> omega
theorem tot_le {bs : List Bx} (hb : a2G bs) : totB bs ≤ 16 := by
  have := a8J hb (Nat.le_refl bs.length); have := hb.1; unfold totB; omega
def a0j (bs : List Bx) (x : Nat) : List Nat := (List.range (szB bs x)).map fun k => fstB bs x + k
theorem sum_nat (l : List Nat) : (l.map fun n : Nat => (n : Int)).sum = ((l.sum : Nat) : Int) := by
  induction l with
  | nil => rfl
  | cons n l ih => rw [List.map_cons, List.sum_cons, List.sum_cons, ih]; omega
theorem dSum_nat (l : List Nat) : dSum (.lst (l.map intD)) = okI ((l.sum : Nat) : Int) := by
  have : l.map intD = (l.map fun n : Nat => (n : Int)).map D.int := by rw [List.map_map]; rfl
  rw [this]
  show (intsOf _).bind _ = _
  rw [a60]
  show okI _ = _
  rw [sum_nat]
theorem a7b {bs : List Bx} {x c : Nat} (h : x < bs.length) (hc : c ∈ a0j bs x) : c < totB bs := by
  unfold a0j at hc
  obtain ⟨k, hk, rfl⟩ := List.mem_map.mp hc
  have := List.mem_range.mp hk
  have := a8H h
  omega
theorem a0N (bs : List Bx) (x : Nat) : (a0j bs x).length = szB bs x := by unfold a0j; rw [List.length_map, List.length_range]
theorem clen {bs : List Bx} (hb : a2G bs) {x : Nat} (h : x < bs.length) : (a0j bs x).length ≤ 2 := by rw [a0N]; rcases a1c hb h with e | e <;> omega
theorem cells0 {bs : List Bx} (hb : a2G bs) {x : Nat} (h : x < bs.length) : (a0j bs x)[0]? = some (fstB bs x) := by
  unfold a0j
  rw [List.getElem?_map, List.getElem?_range (by rcases a1c hb h with e | e <;> omega)]
  rfl
theorem cellsK {bs : List Bx} {x k : Nat} (h : k < szB bs x) : (a0j bs x)[k]? = some (fstB bs x + k) := by
  unfold a0j
  rw [List.getElem?_map, List.getElem?_range h]
  rfl
theorem a6Y {bs : List Bx} {x k : Nat} (h : k < szB bs x) : dIx (.lst ((a0j bs x).map intD)) (.int k) = okI (fstB bs x + k : Nat) := a04 (by rw [List.getElem?_map, cellsK h]; rfl)
end Bell
namespace Bell
open PySem L3
theorem a4G {bs : List Bx} {x : Nat} (h : x < bs.length) : a2q [a0J bs, .int x] = okI (szB bs x : Nat) := a0A rfl (a0U (a6N h rfl rfl))
theorem a0v {bs : List Bx} (hb : a2G bs) {x : Nat} (h : x < bs.length) : a1r [a0J bs, .int x] = okL ((a0j bs x).map intD) := by
  have h8 := hb.1
  have ht := tot_le hb
  have hf := a8H h
  have hc : a1U [3] (a1j (eVar 1)) (a1k 3) a2P (a0o a2q [(eVar 0), (eVar 3)]) [some (.sh (a0J bs)), some (.sh (.int x)), none, none] = okL ((List.range x).map fun k => intD (szB bs k)) :=
    a3J (List.range x) intD _ (by rw [← rng0]; exact a2d rfl (a1f (by omega))) (by rw [List.length_range]; exact Nat.le_trans (by omega : x ≤ 8) (by decide)) fun k hk => ⟨_, rfl, _, a1g rfl rfl (a4G (by have := List.mem_range.mp hk; omega)), rfl⟩
  have hs : dSum (.lst ((List.range x).map fun k => intD (szB bs k))) = okI (fstB bs x : Nat) := by
    have : ((List.range x).map fun k => intD (szB bs k)) = ((List.range x).map (szB bs)).map intD := by rw [List.map_map]; rfl
    rw [this, dSum_nat]; rfl
  have hr : a3I (.int (fstB bs x : Nat)) (.int ((fstB bs x : Nat) + (szB bs x : Nat) : Int)) = okL ((a0j bs x).map intD) := by
    rw [a8b (by exact a1f (by omega)) (by exact a1f (n := fstB bs x + szB bs x) (by omega)) (Nat.le_trans (by omega : _ ≤ 16) (by decide))]
    have e := rngN (fstB bs x) (fstB bs x + szB bs x)
    rw [Nat.add_sub_cancel_left] at e
    show okL (rng (fstB bs x : Nat) (((fstB bs x + szB bs x : Nat) : Int))) = _
    rw [e]
    unfold a0j
    rw [List.map_map]
    rfl
  exact a0A rfl (a0b (a0B (a1C hc hs)) (a0U (a0d rfl (a0d rfl (a1g rfl rfl (a4G h)) rfl) hr)))
end Bell
namespace Bell
open PySem L3
abbrev Stp := List Nat × List Nat
def a3s (p : Stp) : D := .tup [.tup (p.1.map intD), .tup (p.2.map intD)]
def srt (bs : List Bx) (x y : Nat) : List Nat := (a3t ((a0j bs x ++ a0j bs y).map fun n : Nat => (n : Int))).map Int.toNat
def a0G (bs : List Bx) : Deed → List Stp
  | .put x _ => (a0j bs x).map fun c => ([], [c])
  | .copy x y => (List.range (szB bs x)).map fun k => ([fstB bs y + k], [fstB bs x + k])
  | .grow x _ => ((a0j bs x).map fun c => ([c], [])) ++ (a0j bs x).map fun c => ([], [c])
  | .tick x => [([fstB bs x], [fstB bs x])]
  | .still n => List.replicate n ([], [])
  | .iz x y _ => [(srt bs x y, [])]
  | .most x y _ => [(srt bs x y, [])]
  | .non _ => [([], [])]
  | .anew x y t => (([fstB bs t] ++ a0j bs y ++ [fstB bs t]).map fun c => ([c], [])) ++ (a0j bs x).map fun c => ([], [c])
abbrev planS : Str := Str.ofString "plan"
def planD (bs : List Bx) (dd : Deed) : D := .lst ((a0G bs dd).map a3s)
def clsOf : Deed → String
  | .put _ _ => "Put" | .copy _ _ => "Copy" | .grow _ _ => "Grow" | .tick _ => "Tick" | .still _ => "Still" | .iz _ _ _ => "Comparing" | .most _ _ _ => "Comparing" | .non _ => "Untouched" | .anew _ _ _ => "Anew"
def a46 : Deed → List Str
  | .put _ _ => [Str.ofString "numbers"] | .grow _ _ => [Str.ofString "size", Str.ofString "number"] | .anew _ _ _ => [Str.ofString "check"] | _ => []
def fldsOf (bs : List Bx) : Deed → List D
  | .put _ ns => [.tup (ns.map D.int)] | .grow x n => [.int (szB bs x : Nat), .int n] | .anew _ y _ => [.int ((szB bs y : Nat) + 1 : Int)] | _ => []
def a3V (bs : List Bx) (dd : Deed) : O := .obj (clsOf dd) (planS :: a46 dd) (planD bs dd :: fldsOf bs dd)
abbrev DC : List String := ["Deed", "Promise", "Comparing", "Untouched", "Still", "Put", "Copy", "Tick", "Handed", "Grow", "Anew"]
theorem a4Q (dd : Deed) : DC.contains (clsOf dd) = true := by cases dd <;> rfl
theorem a2Z {c : String} (hc : DC.contains c = true) (p : D) : a2f (.obj c [] []) [p] = some (.obj c [planS] [p]) := a34 rfl (seqI (a5x rfl hc rfl (by decide)) rfl)
theorem comp_r {A : List Nat} (hA : A.length ≤ 100) {ρ : MEnv} {js : List Nat} {it : MI} {v : Nat} (hi : it ρ = some (.ok (A.map intD))) (hv : v < (a1d js ρ).length) : a1U js it (a1k v) a2P (eTup [(eTup [(eVar v)]), (eTup [])]) ρ = okL ((A.map fun c => (([c], []) : Stp)).map a3s) := by
  rw [List.map_map]
  exact a3J A intD _ hi (Nat.le_trans hA (by decide)) fun b _ => ⟨_, rfl, _, tup2 (a1C (a2c (List.getElem?_set_self hv)) rfl) rfl, rfl⟩
theorem comp_w {A : List Nat} (hA : A.length ≤ 100) {ρ : MEnv} {js : List Nat} {it : MI} {v : Nat} (hi : it ρ = some (.ok (A.map intD))) (hv : v < (a1d js ρ).length) : a1U js it (a1k v) a2P (eTup [(eTup []), (eTup [(eVar v)])]) ρ = okL ((A.map fun c => (([], [c]) : Stp)).map a3s) := by
  rw [List.map_map]
  exact a3J A intD _ hi (Nat.le_trans hA (by decide)) fun b _ => ⟨_, rfl, _, tup2 rfl (a1C (a2c (List.getElem?_set_self hv)) rfl), rfl⟩
theorem a4N {c : String} (hc : DC.contains c = true) {A B : List Nat} (hA : A.length ≤ 100) (hB : B.length ≤ 100) : a2Y (.obj c [] []) [.lst (A.map intD), .lst (B.map intD)] = some (.obj c [planS] [.lst (((A.map fun c => (([c], []) : Stp)) ++ B.map fun c => (([], [c]) : Stp)).map a3s)]) := by
  refine a34 rfl (seqI (a5o (s1 := .own (.lst (((A.map fun c => (([c], []) : Stp)) ++ B.map fun c => (([], [c]) : Stp)).map a3s))) (a0d (comp_r hA (a5V rfl rfl) (by show 3 < 4; decide)) (comp_w hB (a5V rfl rfl) (by show 3 < 4; decide)) ?_) (a2Z hc _)) rfl)
  show dAdd (.lst _) (.lst _) = _
  rw [a6B (by rw [List.length_map, List.length_map, List.length_map, List.length_map]; omega), List.map_append]
theorem a3n {c : String} (hc : DC.contains c = true) {A : List Nat} : a2o (.obj c [] []) [.lst (A.map intD)] = some (.obj c [planS] [.lst ([((A, []) : Stp)].map a3s)]) :=
  a34 rfl (seqI (a5o (a1C (tup2 (a1C rfl rfl) rfl) rfl) (a2Z hc _)) rfl)
theorem insD_mem {k m : Int} : ∀ {l : List Int}, m ∈ insD k l → m = k ∨ m ∈ l
  | [], h => by simp [insD] at h; exact .inl h
  | x :: r, h => by
    unfold insD at h
    split at h
    · rcases List.mem_cons.mp h with h | h
      · exact .inl h
      · exact .inr h
    · split at h
      · exact .inr h
      · rcases List.mem_cons.mp h with h | h
        · exact .inr (by rw [h]; exact List.mem_cons_self)
        · rcases insD_mem h with h | h
          · exact .inl h
          · exact .inr (List.mem_cons_of_mem _ h)
theorem sortD_mem {m : Int} : ∀ {l : List Int}, m ∈ a3t l → m ∈ l
  | [], h => h
  | x :: r, h => by
    rcases insD_mem (show m ∈ insD x (a3t r) from h) with h | h
    · rw [h]; exact List.mem_cons_self
    · exact List.mem_cons_of_mem _ (sortD_mem h)
theorem a7Y {bs : List Bx} (hb : a2G bs) {x y : Nat} (hx : x < bs.length) (hy : y < bs.length) : a5l (.lst ((a0j bs x).map intD ++ (a0j bs y).map intD)) = okL ((srt bs x y).map intD) := by
  have e : (a0j bs x).map intD ++ (a0j bs y).map intD = ((a0j bs x ++ a0j bs y).map fun n : Nat => (n : Int)).map D.int := by
    rw [← List.map_append, List.map_map]; rfl
  rw [e]
  show (intsOf _).bind _ = _
  rw [a60]
  show (if fewD _ = true then _ else none) = _
  have few : fewD ((a0j bs x ++ a0j bs y).map fun n : Nat => (n : Int)) = true := by
    unfold fewD
    rw [Bool.and_eq_true]
    constructor
    · have h1 := a1c hb hx; have h2 := a1c hb hy
      rw [decide_eq_true_iff, List.length_map, List.length_append, a0N, a0N]; omega
    · rw [List.all_eq_true]
      intro n hn
      obtain ⟨c, hc, rfl⟩ := List.mem_map.mp hn
      have ht := tot_le hb
      have : c < totB bs := by
        rcases List.mem_append.mp hc with h | h
        · exact a7b hx h
        · exact a7b hy h
      simp
      omega
  rw [if_pos few]
  unfold srt
  rw [List.map_map]
  refine congrArg okL (List.map_congr_left fun n hn => ?_)
  obtain ⟨c, hc, rfl⟩ := List.mem_map.mp (sortD_mem hn)
  rfl
theorem a7J {bs : List Bx} (hb : a2G bs) {dd : Deed} (ok : dd.Ok bs) : a3F [a0J bs, dd.d] = some (.ok (.own (a3V bs dd))) := by
  cases dd with
  | still n =>
    have hn : n ≤ 9 := ok.2
    refine a0A rfl (a0b (a0B (a0d rfl rfl a3a)) (a0O (if_t (a0d rfl rfl (a2B rfl)) (a0U (make1 (a0d rfl rfl a2H) (a34 rfl (seqI (a5o (rep_e (ds := [a3s ([], [])]) (k := (n : Int)) rfl rfl ⟨by omega, by omega, ?_⟩) (a2Z rfl _)) ?_)))))))
    · rw [Int.toNat_natCast, List.length_singleton]; exact Nat.le_trans (by omega : 1 * n ≤ 9) (by decide)
    · show some (O.obj "Still" [planS] [.lst (List.replicate (n : Int).toNat [a3s ([], [])]).flatten]) = some (O.obj "Still" [planS] [.lst ((List.replicate n (([], []) : Stp)).map a3s)])
      rw [Int.toNat_natCast, List.map_replicate]
      congr 5
      induction n with
      | zero => rfl
      | succ n ih => rw [List.replicate_succ, List.replicate_succ, List.flatten_cons]; exact congrArg _ (by
          clear ih ok hn
          induction n with
          | zero => rfl
          | succ n ih => rw [List.replicate_succ, List.replicate_succ, List.flatten_cons, ih]; rfl)
  | non x =>
    exact a0A rfl (a0b (a0B (a0d rfl rfl a3a)) (a0b (if_f (a0d rfl rfl (a0l (by decide))) rfl) (a0O (if_t (a0d rfl rfl (a2B rfl)) (a0U (make0 (a34 rfl (seqI (a5o rfl (a3n (A := []) rfl)) rfl))))))))
  | put x ns =>
    have hx : x < bs.length := ok.1
    have hc := a0v hb hx
    have h2 := clen hb hx
    exact a0A rfl (a0b (a0B (a0d rfl rfl a3a)) (a0b (if_f (a0d rfl rfl (a0l (by decide))) rfl) (a0b (if_f (a0d rfl rfl (a0l (by decide))) rfl) (a0b (a0B (a1g rfl (a0d rfl rfl a2H) hc)) (a0O (if_t (a0d rfl rfl (a2B rfl)) (a2a (a0U (a8t rfl (a0d rfl rfl a5U)
      (a34 rfl (seqI (a5o (comp_w (by omega) (a5V rfl rfl) (by show 3 < 4; decide)) (a2Z rfl _)) (seqI (a5x (a1C rfl rfl) rfl rfl (by decide)) rfl))))))))))))
  | grow x n =>
    have hx : x < bs.length := ok.1
    have hc := a0v hb hx
    have h2 := clen hb hx
    have hl : dLen (.lst ((a0j bs x).map intD)) = okI (szB bs x : Nat) := by rw [a23, List.length_map, a0N]
    exact a0A rfl (a0b (a0B (a0d rfl rfl a3a)) (a0b (if_f (a0d rfl rfl (a0l (by decide))) rfl) (a0b (if_f (a0d rfl rfl (a0l (by decide))) rfl) (a0b (a0B (a1g rfl (a0d rfl rfl a2H) hc)) (a0b (if_f (a0d rfl rfl (a0l (by decide))) rfl) (a0O (if_t (a0d rfl rfl (a2B rfl)) (a2a (a0U (a8t rfl (a0d rfl rfl a5U)
      (a34 rfl (seqI (base2 rfl rfl (a4N rfl (by omega) (by omega))) (seqI (a5x (lenB rfl hl) rfl rfl (by decide)) (seqI (a5x rfl rfl rfl (by decide)) rfl))))))))))))))
  | tick x =>
    have hx : x < bs.length := ok.1
    have hc := a0v hb hx
    have h1 : dIx (.lst ((a0j bs x).map intD)) (.int 0) = okI (fstB bs x : Nat) := a04 (n := 0) (by rw [List.getElem?_map, cells0 hb hx]; rfl)
    exact a0A rfl (a0b (a0B (a0d rfl rfl a3a)) (a0b (if_f (a0d rfl rfl (a0l (by decide))) rfl) (a0b (if_f (a0d rfl rfl (a0l (by decide))) rfl) (a0b (a0B (a1g rfl (a0d rfl rfl a2H) hc)) (a0b (if_f (a0d rfl rfl (a0l (by decide))) rfl) (a0b (if_f (a0d rfl rfl (a0l (by decide))) rfl) (a0O (if_t (a0d rfl rfl (a2B rfl)) (a2a (a0U (make1 (a0d rfl rfl h1)
      (a34 rfl (seqI (a5o (a1C (tup2 (a1C rfl rfl) (a1C rfl rfl)) rfl) (a2Z rfl _)) rfl)))))))))))))
  | copy x y =>
    have hx : x < bs.length := ok.1
    have hy : y < bs.length := ok.2.1
    have hxy : szB bs y = szB bs x := ok.2.2.2
    have hc := a0v hb hx
    have hd := a0v hb hy
    have h12 := a1c hb hx
    have hl : dLen (.lst ((a0j bs x).map intD)) = okI (szB bs x : Nat) := by rw [a23, List.length_map, a0N]
    have hcomp : a1U [3] (a1j (a0p (f1 dLen) [(eAny 1)])) (a1k 3) a2P (eTup [(eTup [(eBin dIx (eVar 2) (eVar 3))]), (eTup [(eBin dIx (eVar 1) (eVar 3))])]) [none, some (.sh (.lst ((a0j bs x).map intD))), some (.sh (.lst ((a0j bs y).map intD))), none] = okL (((List.range (szB bs x)).map fun k => (([fstB bs y + k], [fstB bs x + k]) : Stp)).map a3s) := by
      rw [List.map_map]
      refine a3J (List.range (szB bs x)) intD _ (by rw [← rng0]; exact a2d (lenB rfl hl) (a1f (by omega))) (by rw [List.length_range]; exact Nat.le_trans (by omega : szB bs x ≤ 2) (by decide)) fun k hk => ⟨_, rfl, _, tup2 (a1C (a0d rfl rfl (a6Y (by have := List.mem_range.mp hk; omega))) rfl) (a1C (a0d rfl rfl (a6Y (List.mem_range.mp hk))) rfl), rfl⟩
    exact a0A rfl (a0b (a0B (a0d rfl rfl a3a)) (a0b (if_f (a0d rfl rfl (a0l (by decide))) rfl) (a0b (if_f (a0d rfl rfl (a0l (by decide))) rfl) (a0b (a0B (a1g rfl (a0d rfl rfl a2H) hc)) (a0b (if_f (a0d rfl rfl (a0l (by decide))) rfl) (a0b (if_f (a0d rfl rfl (a0l (by decide))) rfl) (a0b (if_f (a0d rfl rfl (a0l (by decide))) rfl) (a0b (a0B (a1g rfl (a0d rfl rfl a5U) hd)) (a0O (if_t (a0d rfl rfl (a2B rfl)) (a2a (a2a (a0U (a8t rfl rfl
      (a34 rfl (seqI (a5o hcomp (a2Z rfl _)) rfl))))))))))))))))
  | anew x y t =>
    obtain ⟨hx, hy, ht, nxy, nxt, nyt, hxy, ht1⟩ := ok
    have hc := a0v hb hx
    have hd := a0v hb hy
    have he := a0v hb ht
    have h2 := clen hb hx
    have h3 := clen hb hy
    have h1 : dIx (.lst ((a0j bs t).map intD)) (.int 0) = okI (fstB bs t : Nat) := a04 (n := 0) (by rw [List.getElem?_map, cells0 hb ht]; rfl)
    have hl : dLen (.lst ((a0j bs y).map intD)) = okI (szB bs y : Nat) := by rw [a23, List.length_map, a0N]
    have e1 : dAdd (.lst [.int (fstB bs t : Nat)]) (.lst ((a0j bs y).map intD)) = okL (([fstB bs t] ++ a0j bs y).map intD) := by
      rw [a6B (by rw [List.length_map, List.length_singleton]; omega), List.map_append]; rfl
    have e2 : dAdd (.lst (([fstB bs t] ++ a0j bs y).map intD)) (.lst [.int (fstB bs t : Nat)]) = okL (([fstB bs t] ++ a0j bs y ++ [fstB bs t]).map intD) := by
      rw [a6B (by rw [List.length_map, List.length_append, List.length_singleton, List.length_singleton]; omega), List.map_append (l₁ := [fstB bs t] ++ a0j bs y)]; rfl
    exact a0A rfl (a0b (a0B (a0d rfl rfl a3a)) (a0b (if_f (a0d rfl rfl (a0l (by decide))) rfl) (a0b (if_f (a0d rfl rfl (a0l (by decide))) rfl) (a0b (a0B (a1g rfl (a0d rfl rfl a2H) hc)) (a0b (if_f (a0d rfl rfl (a0l (by decide))) rfl) (a0b (if_f (a0d rfl rfl (a0l (by decide))) rfl) (a0b (if_f (a0d rfl rfl (a0l (by decide))) rfl) (a0b (a0B (a1g rfl (a0d rfl rfl a5U) hd)) (a0b (if_f (a0d rfl rfl (a0l (by decide))) rfl) (a0O (if_t (a0d rfl rfl (a2B rfl)) (a2a (a2a (a0U (make3 rfl rfl (a0d (a1g rfl (a0d rfl rfl ix_t3) he) rfl h1)
      (a34 rfl (seqI (base2 (a0d (a0d (a1C rfl rfl) rfl e1) (a1C rfl rfl) e2) rfl (a4N rfl (by rw [List.length_append, List.length_append, List.length_singleton]; omega) (by omega))) (seqI (a5x (a0d (lenB rfl hl) rfl rfl) rfl rfl (by decide)) rfl))))))))))))))))))
  | iz x y n =>
    obtain ⟨hx, hy, hxy, _⟩ := ok
    have hc := a0v hb hx
    have hd := a0v hb hy
    have h2 := clen hb hx
    have h3 := clen hb hy
    exact a0A rfl (a0b (a0B (a0d rfl rfl a3a)) (a0b (if_f (a0d rfl rfl (a0l (by decide))) rfl) (a0b (if_f (a0d rfl rfl (a0l (by decide))) rfl) (a0b (a0B (a1g rfl (a0d rfl rfl a2H) hc)) (a0b (if_f (a0d rfl rfl (a0l (by decide))) rfl) (a0b (if_f (a0d rfl rfl (a0l (by decide))) rfl) (a0b (if_f (a0d rfl rfl (a0l (by decide))) rfl) (a0b (a0B (a1g rfl (a0d rfl rfl a5U) hd)) (a0b (if_f (a0d rfl rfl (a0l (by decide))) rfl) (a0b (if_f (a0d rfl rfl (a0l (by decide))) rfl) (a2a (a2a (a0U (a8t rfl rfl
      (a34 rfl (seqI (a5o (un_e (a0d rfl rfl (a6B (by rw [List.length_map, List.length_map]; omega))) (a7Y hb hx hy)) (a3n rfl)) rfl))))))))))))))))
  | most x y n =>
    obtain ⟨hx, hy, hxy, _⟩ := ok
    have hc := a0v hb hx
    have hd := a0v hb hy
    have h2 := clen hb hx
    have h3 := clen hb hy
    exact a0A rfl (a0b (a0B (a0d rfl rfl a3a)) (a0b (if_f (a0d rfl rfl (a0l (by decide))) rfl) (a0b (if_f (a0d rfl rfl (a0l (by decide))) rfl) (a0b (a0B (a1g rfl (a0d rfl rfl a2H) hc)) (a0b (if_f (a0d rfl rfl (a0l (by decide))) rfl) (a0b (if_f (a0d rfl rfl (a0l (by decide))) rfl) (a0b (if_f (a0d rfl rfl (a0l (by decide))) rfl) (a0b (a0B (a1g rfl (a0d rfl rfl a5U) hd)) (a0b (if_f (a0d rfl rfl (a0l (by decide))) rfl) (a0b (if_f (a0d rfl rfl (a0l (by decide))) rfl) (a2a (a2a (a0U (a8t rfl rfl
      (a34 rfl (seqI (a5o (un_e (a0d rfl rfl (a6B (by rw [List.length_map, List.length_map]; omega))) (a7Y hb hx hy)) (a3n rfl)) rfl))))))))))))))))
end Bell
namespace Bell
open PySem L3
theorem fld0 (f : Str) (ns : List Str) (d : D) (ds : List D) : fldD f (f :: ns) (d :: ds) = some d := by
  unfold fldD; rw [if_pos (by simp)]
theorem reads_e {c : String} (hc : DC.contains c = true) {ns : List Str} {pl : List Stp} {ds : List D} {k : Nat} {p : Stp} (h : pl[k]? = some p) : a1Q [.obj c (planS :: ns) (.lst (pl.map a3s) :: ds), .int k] = okL (p.1.map intD) :=
  a0A rfl (a0U (a1C (a0d (a0d (fld_e rfl rfl hc (fld0 planS ns _ ds)) rfl (a04 (by rw [List.getElem?_map, h]; rfl))) rfl a3a) rfl))
theorem writes_e {c : String} (hc : DC.contains c = true) {ns : List Str} {pl : List Stp} {ds : List D} {k : Nat} {p : Stp} (h : pl[k]? = some p) : a1y [.obj c (planS :: ns) (.lst (pl.map a3s) :: ds), .int k] = okL (p.2.map intD) :=
  a0A rfl (a0U (a1C (a0d (a0d (fld_e rfl rfl hc (fld0 planS ns _ ds)) rfl (a04 (by rw [List.getElem?_map, h]; rfl))) rfl a2H) rfl))
theorem turns_e {c : String} (hc : DC.contains c = true) {ns : List Str} {pl : List Stp} {ds : List D} : a1P [.obj c (planS :: ns) (.lst (pl.map a3s) :: ds)] = okI (pl.length : Nat) :=
  a0A rfl (a0U (lenB (fld_e rfl rfl hc (fld0 planS ns _ ds)) (by show okI ((pl.map a3s).length : Int) = _; rw [List.length_map])))
theorem a7f {c : String} (hc : DC.contains c = true) : a2s c = some a1Q := by unfold a2s tbG; rw [if_pos hc]
theorem a57 {c : String} (hc : DC.contains c = true) : a13 c = some a1y := by unfold a13 tbG; rw [if_pos hc]
theorem a7e {c : String} (hc : DC.contains c = true) : a37 c = some a1P := by unfold a37 tbG; rw [if_pos hc]
theorem a6T {bs : List Bx} : ∀ {dd : Deed}, (a0G bs dd).length = match dd with | .put x _ => szB bs x | .copy x _ => szB bs x | .grow x _ => 2 * szB bs x | .tick _ => 1 | .still n => n | .iz _ _ _ => 1 | .most _ _ _ => 1 | .non _ => 1 | .anew x y _ => szB bs y + 2 + szB bs x
  | .put x _ => by show ((a0j bs x).map _).length = _; rw [List.length_map, a0N]
  | .copy x _ => by show ((List.range (szB bs x)).map _).length = _; rw [List.length_map, List.length_range]
  | .grow x _ => by show (((a0j bs x).map _) ++ _).length = _; rw [List.length_append, List.length_map, List.length_map, a0N]; show _ = 2 * szB bs x; omega
  | .tick _ => rfl
  | .still n => by show (List.replicate n _).length = _; rw [List.length_replicate]
  | .iz _ _ _ => rfl
  | .most _ _ _ => rfl
  | .non _ => rfl
  | .anew x y t => by show ((([fstB bs t] ++ a0j bs y ++ [fstB bs t]).map _) ++ (a0j bs x).map _).length = _; rw [List.length_append, List.length_map, List.length_map, List.length_append, List.length_append, a0N, a0N]; show _ = szB bs y + 2 + szB bs x; simp; omega
end Bell
namespace Bell
open PySem L3
def hitP (bs : List Bx) (x : Nat) (rd : Bool) (p : Stp) : Bool := (p.2 ++ if rd = true then p.1 else []).any fun c => (a0j bs x).contains c
theorem a8B (c : Nat) : ∀ l : List Nat, inD (.int (c : Int)) (l.map intD) = l.contains c
  | [] => rfl
  | z :: l => by
    have ih := a8B c l
    unfold inD at ih ⊢
    rw [List.map_cons, List.any_cons, ih, List.contains_cons]
    congr 1
    show ((z : Int) == (c : Int)) = (c == z)
    rw [Bool.eq_iff_iff, beq_iff_eq, beq_iff_eq]
    omega
theorem a8L (l : List Nat) : (l.map intD).all flat = true := by rw [List.all_map, List.all_eq_true]; exact fun _ _ => rfl
theorem in_e {c : Nat} {l : List Nat} : dIn false (.int (c : Int)) (.lst (l.map intD)) = okB (l.contains c) := by
  show (if flat (.int (c : Int)) = true ∧ (l.map intD).all flat = true then okB (if false then !inD (.int c) (l.map intD) else inD (.int c) (l.map intD)) else none) = _
  rw [if_pos ⟨rfl, a8L l⟩, if_neg (by decide), a8B]
theorem a54 {α : Type} (f : α → Bool) : ∀ l : List α, blsOf (l.map fun c => D.bl (f c)) = some (l.map f)
  | [] => rfl
  | a :: l => by
    show (blsOf (l.map fun c => D.bl (f c))).map (f a :: ·) = _
    rw [a54 f l]; rfl
theorem any_e' {α : Type} (f : α → Bool) (l : List α) : dAny (.lst (l.map fun c => D.bl (f c))) = okB (l.any f) := by
  show (blsOf _).bind _ = _
  rw [a54]
  show okB ((l.map f).any id) = _
  rw [List.any_map]; rfl
theorem no_meth (dd : Deed) : (planS :: a46 dd).contains (Str.ofString "reads") = false ∧ (planS :: a46 dd).contains (Str.ofString "writes") = false ∧ (planS :: a46 dd).contains (Str.ofString "turns") = false := by cases dd <;> exact ⟨rfl, rfl, rfl⟩
theorem a7o {bs : List Bx} (hb : a2G bs) {dd : Deed} (ok : dd.Ok bs) : (a0G bs dd).length ≤ 9 := by
  rw [a6T]
  cases dd with
  | grow x n => have := a1c hb ok.1; dsimp only; omega
  | anew x y t => have := a1c hb ok.1; have := ok.2.2.2.2.2.2.1; dsimp only; omega
  | put x ns => have := a1c hb ok.1; dsimp only; omega
  | copy x y => have := a1c hb ok.1; dsimp only; omega
  | tick x => exact (by decide : 1 ≤ 9)
  | still n => exact ok.2
  | non x => exact (by decide : 1 ≤ 9)
  | iz x y n => exact (by decide : 1 ≤ 9)
  | most x y n => exact (by decide : 1 ≤ 9)
theorem a7W {bs : List Bx} (hb : a2G bs) {x y : Nat} (hx : x < bs.length) (hy : y < bs.length) : (srt bs x y).length ≤ 4 := by
  have ins : ∀ (k : Int) (l : List Int), (insD k l).length ≤ l.length + 1 := fun k l => by
    induction l with
    | nil => exact Nat.le_refl _
    | cons a l ih =>
      unfold insD
      split
      · exact Nat.le_refl _
      · split
        · exact Nat.le_succ _
        · rw [List.length_cons, List.length_cons]; omega
  have srtl : ∀ l : List Int, (a3t l).length ≤ l.length := fun l => by
    induction l with
    | nil => exact Nat.le_refl _
    | cons a l ih => have := ins a (a3t l); show (insD a (a3t l)).length ≤ _; rw [List.length_cons]; omega
  have h := srtl ((a0j bs x ++ a0j bs y).map fun n : Nat => (n : Int))
  rw [List.length_map, List.length_append, a0N, a0N] at h
  have h1 := a1c hb hx; have h2 := a1c hb hy
  unfold srt
  rw [List.length_map]
  omega
theorem a7g {bs : List Bx} (hb : a2G bs) {dd : Deed} (ok : dd.Ok bs) : ∀ p ∈ a0G bs dd, p.1.length ≤ 4 ∧ p.2.length ≤ 4 := by
  intro p hp
  cases dd with
  | put x ns => obtain ⟨c, _, rfl⟩ := List.mem_map.mp hp; exact ⟨Nat.zero_le _, (by decide : 1 ≤ 4)⟩
  | copy x y => obtain ⟨c, _, rfl⟩ := List.mem_map.mp hp; exact ⟨(by decide : 1 ≤ 4), (by decide : 1 ≤ 4)⟩
  | grow x n =>
    rcases List.mem_append.mp hp with hp | hp
    · obtain ⟨c, _, rfl⟩ := List.mem_map.mp hp; exact ⟨(by decide : 1 ≤ 4), Nat.zero_le _⟩
    · obtain ⟨c, _, rfl⟩ := List.mem_map.mp hp; exact ⟨Nat.zero_le _, (by decide : 1 ≤ 4)⟩
  | tick x => rw [List.mem_singleton.mp hp]; exact ⟨(by decide : 1 ≤ 4), (by decide : 1 ≤ 4)⟩
  | still n => rw [List.eq_of_mem_replicate hp]; exact ⟨Nat.zero_le _, Nat.zero_le _⟩
  | iz x y n => rw [List.mem_singleton.mp hp]; exact ⟨a7W hb ok.1 ok.2.1, Nat.zero_le _⟩
  | most x y n => rw [List.mem_singleton.mp hp]; exact ⟨a7W hb ok.1 ok.2.1, Nat.zero_le _⟩
  | non x => rw [List.mem_singleton.mp hp]; exact ⟨Nat.zero_le _, Nat.zero_le _⟩
  | anew x y t =>
    rcases List.mem_append.mp hp with hp | hp
    · obtain ⟨c, _, rfl⟩ := List.mem_map.mp hp; exact ⟨(by decide : 1 ≤ 4), Nat.zero_le _⟩
    · obtain ⟨c, _, rfl⟩ := List.mem_map.mp hp; exact ⟨Nat.zero_le _, (by decide : 1 ≤ 4)⟩
def tsOf (bs : List Bx) (dd : Deed) (x : Nat) (rd : Bool) (k : Nat) : List Nat := (List.range k).filter fun j => ((a0G bs dd)[j]?).any (hitP bs x rd)
theorem tsOf_t {bs : List Bx} {dd : Deed} {x : Nat} {rd : Bool} {k : Nat} {p : Stp} (e : (a0G bs dd)[k]? = some p) (h : hitP bs x rd p = true) : tsOf bs dd x rd (k + 1) = tsOf bs dd x rd k ++ [k] := by
  unfold tsOf; rw [List.range_succ, List.filter_append, List.filter_cons_of_pos (by rw [e]; exact h), List.filter_nil]
theorem tsOf_f {bs : List Bx} {dd : Deed} {x : Nat} {rd : Bool} {k : Nat} {p : Stp} (e : (a0G bs dd)[k]? = some p) (h : hitP bs x rd p = false) : tsOf bs dd x rd (k + 1) = tsOf bs dd x rd k := by
  unfold tsOf; rw [List.range_succ, List.filter_append, List.filter_cons_of_neg (by rw [e]; show ¬ hitP bs x rd p = true; rw [h]; exact Bool.false_ne_true), List.filter_nil, List.append_nil]
theorem a56 {bs : List Bx} (hb : a2G bs) {dd : Deed} (ok : dd.Ok bs) {x : Nat} (hx : x < bs.length) (rd : Bool) : a2p [a0J bs, dd.d, .int x, .bl rd] = okD (.lst ((tsOf bs dd x rd (a0G bs dd).length).map intD)) := by
  have hdo := a7J hb ok
  have hc := a0v hb hx
  obtain ⟨o1, o2, o3⟩ := no_meth dd
  have h9 := a7o hb ok
  have hsm := a7g hb ok
  have step : ∀ (k : Nat) (ρ : MEnv), k < (a0G bs dd).length → (∃ (ts : List Nat) (e4 e5 : S) (e7 e8 : Option S), ts = tsOf bs dd x rd k ∧ ts.length ≤ k ∧ e4.val = (a3V bs dd).val ∧ (e5 = .own (.lst ((a0j bs x).map intD)) ∨ e5 = .sh (.lst ((a0j bs x).map intD))) ∧ e4 = .sh (a3V bs dd).val ∧ ρ = [some (.sh (a0J bs)), some (.sh dd.d), some (.sh (.int x)), some (.sh (.bl rd)), some e4, some e5, some (.own (.lst (ts.map intD))), e7, e8, none]) →
      ∃ ρ1 ρ2, a1k 7 (.int k) ρ = some ρ1 ∧ a32 ρ1 = some (.next ρ2) ∧ (∃ (ts : List Nat) (e4 e5 : S) (e7 e8 : Option S), ts = tsOf bs dd x rd (k + 1) ∧ ts.length ≤ k + 1 ∧ e4.val = (a3V bs dd).val ∧ (e5 = .own (.lst ((a0j bs x).map intD)) ∨ e5 = .sh (.lst ((a0j bs x).map intD))) ∧ e4 = .sh (a3V bs dd).val ∧ ρ2 = [some (.sh (a0J bs)), some (.sh dd.d), some (.sh (.int x)), some (.sh (.bl rd)), some e4, some e5, some (.own (.lst (ts.map intD))), e7, e8, none]) := by
    rintro k ρ hk ⟨ts, e4, e5, e7, e8, h1, h2, _, h5, rfl, rfl⟩
    have hpk : (a0G bs dd)[k]? = some (a0G bs dd)[k] := List.getElem?_eq_getElem hk
    obtain ⟨s1, s2⟩ := hsm _ (List.getElem_mem hk)
    generalize (a0G bs dd)[k] = p at hpk s1 s2
    have hr : ∀ ρ : MEnv, ρ[4]? = some (some (.sh (a3V bs dd).val)) → ρ[7]? = some (some (.sh (.int k))) → a3q (Str.ofString "reads") a2s (eVar 4) [(eVar 7)] ρ = okL (p.1.map intD) := fun ρ h4 h7 => meth1 (a2c h4) rfl o1 (a7f (a4Q dd)) (a2c h7) (reads_e (a4Q dd) hpk)
    have hw : ∀ ρ : MEnv, ρ[4]? = some (some (.sh (a3V bs dd).val)) → ρ[7]? = some (some (.sh (.int k))) → a3q (Str.ofString "writes") a13 (eVar 4) [(eVar 7)] ρ = okL (p.2.map intD) := fun ρ h4 h7 => meth1 (a2c h4) rfl o2 (a57 (a4Q dd)) (a2c h7) (writes_e (a4Q dd) hpk)
    have hth : ∀ ρ : MEnv, ρ[4]? = some (some (.sh (a3V bs dd).val)) → ρ[7]? = some (some (.sh (.int k))) → ρ[3]? = some (some (.sh (.bl rd))) → eBin dAdd (a3q (Str.ofString "writes") a13 (eVar 4) [(eVar 7)]) (eIf (eVar 3) (a3q (Str.ofString "reads") a2s (eVar 4) [(eVar 7)]) (eLst [])) ρ = okL ((p.2 ++ if rd = true then p.1 else []).map intD) := fun ρ h4 h7 h3 => by
      cases rd with
      | true => exact a0d (hw ρ h4 h7) (ifE_t (a2c h3) (hr ρ h4 h7)) (by rw [if_pos rfl, List.map_append]; exact a6B (by rw [List.length_map, List.length_map]; omega))
      | false => exact a0d (t := .own (.lst [])) (hw ρ h4 h7) (ifE_f (a2c h3) rfl) (by show dAdd (.lst (p.2.map intD)) (.lst []) = _; rw [a6B (by rw [List.length_map]; show p.2.length + 0 ≤ _; omega), if_neg (by decide), List.append_nil, List.append_nil])
    have hll : (p.2 ++ if rd = true then p.1 else []).length ≤ 8 := by
      rw [List.length_append]
      cases rd with
      | true => show p.2.length + p.1.length ≤ 8; omega
      | false => show p.2.length + 0 ≤ 8; omega
    have hany : ∀ ρ : MEnv, ρ[8]? = some (some (.sh (.lst ((p.2 ++ if rd = true then p.1 else []).map intD)))) → (a1d [9] ρ)[5]? = some (some (.sh (.lst ((a0j bs x).map intD)))) → 9 < (a1d [9] ρ).length → a0o (f1 dAny) [a1U [9] (iSeq (eVar 8)) (a1k 9) a2P (eBin (dIn false) (eVar 9) (eVar 5))] ρ = okB (hitP bs x rd p) := fun ρ h8 h5 h9 =>
      a1C (a3J (p.2 ++ if rd = true then p.1 else []) intD (fun c => .bl ((a0j bs x).contains c)) (a5V (a2c h8) rfl) (Nat.le_trans hll (by decide)) fun c _ => ⟨_, rfl, .sh (.bl ((a0j bs x).contains c)), a0d (a2c (List.getElem?_set_self h9)) (a2c (by rw [List.getElem?_set_ne (by decide)]; exact h5)) in_e, rfl⟩) (any_e' _ _)
    have fin : ∀ ρ : MEnv, ρ = [some (.sh (a0J bs)), some (.sh dd.d), some (.sh (.int x)), some (.sh (.bl rd)), some (.sh (a3V bs dd).val), some (.sh (.lst ((a0j bs x).map intD))), some (.own (.lst (ts.map intD))), some (.sh (.int k)), some (.sh (.lst ((p.2 ++ if rd = true then p.1 else []).map intD))), none] →
        ∃ ts' : List Nat, (sIf (a0o (f1 dAny) [a1U [9] (iSeq (eVar 8)) (a1k 9) a2P (eBin (dIn false) (eVar 9) (eVar 5))]) (a2g 6 (eVar 7)) a0Q) ρ = some (.next (ρ.set 6 (some (.own (.lst (ts'.map intD)))))) ∧ ts' = tsOf bs dd x rd (k + 1) ∧ ts'.length ≤ k + 1 := by
      rintro ρ rfl
      have ha := hany [some (.sh (a0J bs)), some (.sh dd.d), some (.sh (.int x)), some (.sh (.bl rd)), some (.sh (a3V bs dd).val), some (.sh (.lst ((a0j bs x).map intD))), some (.own (.lst (ts.map intD))), some (.sh (.int k)), some (.sh (.lst ((p.2 ++ if rd = true then p.1 else []).map intD))), none] rfl rfl (by show 9 < 10; decide)
      cases hh : hitP bs x rd p with
      | true =>
        rw [hh] at ha
        refine ⟨ts ++ [k], if_t ha ?_, by rw [tsOf_t hpk hh, h1], by rw [List.length_append, List.length_singleton]; omega⟩
        rw [a5r (ds := ts.map intD) (s := .sh (.int k)) rfl rfl (by rw [List.length_map]; exact Nat.lt_of_le_of_lt (by omega : ts.length ≤ 9) (by decide)), List.map_append (l₁ := ts)]
        rfl
      | false =>
        rw [hh] at ha
        exact ⟨ts, if_f ha rfl, by rw [tsOf_f hpk hh, h1], by omega⟩
    obtain ⟨ts', ef, f1, f2⟩ := fin _ rfl
    refine ⟨_, _, rfl, a2a (a0b (a0B (hth _ rfl rfl rfl)) (a2a (a2a ?_))), ts', .sh (a3V bs dd).val, .sh (.lst ((a0j bs x).map intD)), some (.sh (.int k)), some (.sh (.lst ((p.2 ++ if rd = true then p.1 else []).map intD))), f1, f2, rfl, .inr rfl, rfl, rfl⟩
    rcases h5 with rfl | rfl <;> exact ef
  obtain ⟨ρ', e, ts, e4, e5, e7, e8, h1, h2, h4, h5, rfl, rfl⟩ := a21 (bd := a1k 7) (body := a32) (ρ := [some (.sh (a0J bs)), some (.sh dd.d), some (.sh (.int x)), some (.sh (.bl rd)), some (.sh (a3V bs dd).val), some (.own (.lst ((a0j bs x).map intD))), some (.own (.lst [])), none, none, none]) _ (a0G bs dd).length ⟨[], .sh (a3V bs dd).val, .own (.lst ((a0j bs x).map intD)), none, none, rfl, Nat.le_refl _, rfl, .inl rfl, rfl, rfl⟩ step
  rw [← h1]
  exact a0A rfl (a0b (a0B (a1g rfl rfl hdo)) (a0b (a0B (a1g rfl rfl hc)) (a0b (a0B rfl) (a2a (a0b (a8K (a2d (meth0 rfl rfl o3 (a7e (a4Q dd)) (turns_e (a4Q dd))) (a1f (by omega))) e) (a2a (a0U rfl)))))))
end Bell
namespace Bell
open PySem L3
section
variable {bs : List Bx} {x : Nat}
theorem a8r {c : Nat} : c ∈ a0j bs x ↔ fstB bs x ≤ c ∧ c < fstB bs x + szB bs x := by
  unfold a0j
  constructor
  · intro h
    obtain ⟨k, hk, rfl⟩ := List.mem_map.mp h
    have := List.mem_range.mp hk
    omega
  · rintro ⟨h1, h2⟩
    exact List.mem_map.mpr ⟨c - fstB bs x, List.mem_range.mpr (by omega), by omega⟩
theorem a2e {z k : Nat} (hk : k < szB bs z) : (a0j bs x).contains (fstB bs z + k) = decide (z = x) := by
  rw [Bool.eq_iff_iff, List.contains_iff_mem, decide_eq_true_iff, a8r]
  constructor
  · rintro ⟨h1, h2⟩
    rcases Nat.lt_trichotomy z x with h | h | h
    · have := a8I (bs := bs) h; omega
    · exact h
    · have := a8I (bs := bs) h; omega
  · rintro rfl
    omega
theorem hit_w (c : Nat) (rd : Bool) : hitP bs x rd ([], [c]) = (a0j bs x).contains c := by cases rd <;> simp [hitP]
theorem hit_r (c : Nat) : hitP bs x true ([c], []) = (a0j bs x).contains c := by simp [hitP]
theorem hit_rw (a b : Nat) : hitP bs x true ([a], [b]) = ((a0j bs x).contains b || (a0j bs x).contains a) := by simp [hitP]
theorem hit_0 (rd : Bool) : hitP bs x rd ([], []) = false := by cases rd <;> simp [hitP]
end
end Bell
namespace Bell
open PySem L3
abbrev T3 := Nat × Nat × Nat
def tD (a : T3) : D := .tup [.int a.1, .int a.2.1, .int a.2.2]
def spX (bs : List Bx) (dd : Deed) (x : Nat) : Option T3 := match dd with
  | .put z _ => if x = z ∧ szB bs z = 2 then some (x, 0, 1) else none
  | .copy z y => if (x = z ∨ x = y) ∧ szB bs z = 2 then some (x, 0, 1) else none
  | .grow z _ => if x = z then some (x, 0, 2 * szB bs z - 1) else none
  | .anew z _ _ => if x = z ∧ szB bs z = 2 then some (x, 4, 5) else none
  | _ => none
def fmN (g : Nat → Option T3) (n : Nat) : List T3 := (List.range n).filterMap g
theorem a4k (g : Nat → Option T3) (n : Nat) : fmN g (n + 1) = fmN g n ++ (g n).toList := by
  unfold fmN; rw [List.range_succ, List.filterMap_append]; cases h : g n <;> simp [h]
theorem fm_len (g : Nat → Option T3) : ∀ n : Nat, (fmN g n).length ≤ n
  | 0 => Nat.le_refl _
  | n + 1 => by rw [a4k, List.length_append]; have := fm_len g n; have : (g n).toList.length ≤ 1 := by cases g n <;> simp
                omega
theorem fm0 {g : Nat → Option T3} (h : ∀ x, g x = none) : ∀ n : Nat, fmN g n = []
  | 0 => rfl
  | n + 1 => by rw [a4k, fm0 h n, h]; rfl
theorem fm1 {g : Nat → Option T3} {z : Nat} (h : ∀ x, x ≠ z → g x = none) : ∀ n : Nat, fmN g n = if z < n then (g z).toList else []
  | 0 => rfl
  | n + 1 => by
    rw [a4k, fm1 h n]
    rcases Nat.lt_trichotomy z n with c | c | c
    · rw [if_pos c, if_pos (by omega), h n (by omega)]; exact List.append_nil _
    · subst c; rw [if_neg (by omega), if_pos (by omega)]; rfl
    · rw [if_neg (by omega), if_neg (by omega), h n (by omega)]; rfl
theorem fm2 {g : Nat → Option T3} {z y : Nat} (hzy : z < y) (h : ∀ x, x ≠ z → x ≠ y → g x = none) : ∀ n : Nat, fmN g n = if y < n then (g z).toList ++ (g y).toList else if z < n then (g z).toList else []
  | 0 => rfl
  | n + 1 => by
    rw [a4k, fm2 hzy h n]
    rcases Nat.lt_trichotomy y n with c | c | c
    · rw [if_pos c, if_pos (by omega), h n (by omega) (by omega)]; exact List.append_nil _
    · subst c; rw [if_neg (by omega), if_pos hzy, if_pos (by omega)]
    · rw [if_neg (show ¬ y < n by omega), if_neg (show ¬ y < n + 1 by omega)]
      rcases Nat.lt_trichotomy z n with c2 | c2 | c2
      · rw [if_pos c2, if_pos (by omega), h n (by omega) (by omega)]; exact List.append_nil _
      · subst c2; rw [if_neg (by omega), if_pos (by omega)]; rfl
      · rw [if_neg (by omega), if_neg (by omega), h n (by omega) (by omega)]; rfl
section
variable {bs : List Bx} {dd : Deed} {x : Nat}
theorem a6H (k : Nat) : (tsOf bs dd x true k).length ≤ k := by
  unfold tsOf; refine Nat.le_trans (List.length_filter_le _ _) ?_; rw [List.length_range]; exact Nat.le_refl _
theorem a6I {b : Bool} (h : ∀ p ∈ a0G bs dd, hitP bs x true p = b) : tsOf bs dd x true (a0G bs dd).length = if b = true then List.range (a0G bs dd).length else [] := by
  unfold tsOf
  have e : ∀ j ∈ List.range (a0G bs dd).length, ((a0G bs dd)[j]?).any (hitP bs x true) = b := fun j hj => by
    have hj := List.mem_range.mp hj
    rw [List.getElem?_eq_getElem hj]
    exact h _ (List.getElem_mem hj)
  cases b with
  | true => rw [if_pos rfl, List.filter_eq_self]; exact e
  | false => rw [if_neg Bool.false_ne_true, List.filter_eq_nil_iff]; exact fun j hj => by rw [e j hj]; exact Bool.false_ne_true
theorem ts_two {m s : Nat} (hl : (a0G bs dd).length = m + s) (h1 : ∀ j p, j < m → (a0G bs dd)[j]? = some p → hitP bs x true p = false) (h2 : ∀ j p, m ≤ j → (a0G bs dd)[j]? = some p → hitP bs x true p = true) : tsOf bs dd x true (m + s) = (List.range s).map (m + ·) := by
  unfold tsOf
  rw [List.range_add, List.filter_append]
  have a : (List.range m).filter (fun j => ((a0G bs dd)[j]?).any (hitP bs x true)) = [] := List.filter_eq_nil_iff.mpr fun j hj => by
    have hj := List.mem_range.mp hj
    have hj2 : j < (a0G bs dd).length := by omega
    rw [List.getElem?_eq_getElem hj2]
    show ¬ hitP bs x true _ = true
    rw [h1 j _ hj (List.getElem?_eq_getElem hj2)]; exact Bool.false_ne_true
  have b : ((List.range s).map (m + ·)).filter (fun j => ((a0G bs dd)[j]?).any (hitP bs x true)) = (List.range s).map (m + ·) := List.filter_eq_self.mpr fun j hj => by
    obtain ⟨i, hi, rfl⟩ := List.mem_map.mp hj
    have hi := List.mem_range.mp hi
    have hj2 : m + i < (a0G bs dd).length := by omega
    rw [List.getElem?_eq_getElem hj2]
    exact h2 _ _ (by omega) (List.getElem?_eq_getElem hj2)
  rw [a, b]; rfl
end
end Bell
namespace Bell
open PySem L3
section
variable {bs : List Bx}
def a4M : Deed → Bool | .anew _ _ _ => true | _ => false
def boxOf : Deed → Nat
  | .put z _ => z | .copy z _ => z | .grow z _ => z | .tick z => z | .still n => n | .iz z _ _ => z | .most z _ _ => z | .non z => z | .anew z _ _ => z
theorem span_is (hb : a2G bs) {dd : Deed} (ok : dd.Ok bs) (x : Nat) :
    (∃ f g u, spX bs dd x = some (x, f, g) ∧ tsOf bs dd x true (a0G bs dd).length = f :: (u ++ [g]) ∧ (a4M dd = true → x = boxOf dd)) ∨
      (spX bs dd x = none ∧ ((tsOf bs dd x true (a0G bs dd).length).length ≤ 1 ∨ (a4M dd = true ∧ x ≠ boxOf dd))) := by
  have pos : ∀ {z : Nat}, z < bs.length → 0 < szB bs z := fun h => by have := a1c hb h; omega
  have hl := a6T (bs := bs) (dd := dd)
  have no : ∀ (ts : List Nat) (c : Bool), c = false → ts = (if c = true then List.range (a0G bs dd).length else []) → ts.length ≤ 1 := fun ts c hc e => by
    rw [e, hc, if_neg Bool.false_ne_true]; exact Nat.zero_le _
  cases dd with
  | put z ns =>
    have h := a6I (bs := bs) (dd := .put z ns) (x := x) (b := decide (z = x)) fun p hp => by
      obtain ⟨c, hc, rfl⟩ := List.mem_map.mp hp
      obtain ⟨k, hk, rfl⟩ := List.mem_map.mp hc
      rw [hit_w, a2e (List.mem_range.mp hk)]
    by_cases c : z = x
    · rw [if_pos (decide_eq_true c)] at h
      rcases a1c hb ok.1 with s | s
      · refine .inr ⟨if_neg (by omega), .inl ?_⟩
        rw [h, hl]; dsimp only; rw [s]; exact Nat.le_refl 1
      · refine .inl ⟨0, 1, [], if_pos ⟨c.symm, s⟩, ?_, fun z => nomatch z⟩
        rw [h, hl]; dsimp only; rw [s]; rfl
    · exact .inr ⟨if_neg (by omega), .inl (no _ _ (decide_eq_false c) h)⟩
  | copy z y =>
    have h := a6I (bs := bs) (dd := .copy z y) (x := x) (b := decide (z = x) || decide (y = x)) fun p hp => by
      obtain ⟨k, hk, rfl⟩ := List.mem_map.mp hp
      have hk := List.mem_range.mp hk
      rw [hit_rw, a2e hk, a2e (by rw [ok.2.2.2]; exact hk)]
    by_cases c : z = x ∨ y = x
    · have e : (decide (z = x) || decide (y = x)) = true := by rcases c with c | c <;> simp [c]
      rw [if_pos e] at h
      rcases a1c hb ok.1 with s | s
      · refine .inr ⟨if_neg (by omega), .inl ?_⟩
        rw [h, hl]; dsimp only; rw [s]; exact Nat.le_refl 1
      · refine .inl ⟨0, 1, [], if_pos ⟨by omega, s⟩, ?_, fun z => nomatch z⟩
        rw [h, hl]; dsimp only; rw [s]; rfl
    · have e : (decide (z = x) || decide (y = x)) = false := by rw [decide_eq_false (fun q => c (.inl q)), decide_eq_false (fun q => c (.inr q))]; rfl
      exact .inr ⟨if_neg (by omega), .inl (no _ _ e h)⟩
  | grow z n =>
    have h := a6I (bs := bs) (dd := .grow z n) (x := x) (b := decide (z = x)) fun p hp => by
      rcases List.mem_append.mp hp with hp | hp
      · obtain ⟨c, hc, rfl⟩ := List.mem_map.mp hp
        obtain ⟨k, hk, rfl⟩ := List.mem_map.mp hc
        rw [hit_r, a2e (List.mem_range.mp hk)]
      · obtain ⟨c, hc, rfl⟩ := List.mem_map.mp hp
        obtain ⟨k, hk, rfl⟩ := List.mem_map.mp hc
        rw [hit_w, a2e (List.mem_range.mp hk)]
    by_cases c : z = x
    · rw [if_pos (decide_eq_true c)] at h
      rcases a1c hb ok.1 with s | s
      · refine .inl ⟨0, 2 * szB bs z - 1, [], if_pos c.symm, ?_, fun z => nomatch z⟩
        rw [h, hl]; dsimp only; rw [s]; rfl
      · refine .inl ⟨0, 2 * szB bs z - 1, [1, 2], if_pos c.symm, ?_, fun z => nomatch z⟩
        rw [h, hl]; dsimp only; rw [s]; rfl
    · exact .inr ⟨if_neg (by omega), .inl (no _ _ (decide_eq_false c) h)⟩
  | tick z => exact .inr ⟨rfl, .inl (a6H _)⟩
  | still n =>
    have h := a6I (bs := bs) (dd := .still n) (x := x) (b := false) fun p hp => by rw [List.eq_of_mem_replicate hp, hit_0]
    exact .inr ⟨rfl, .inl (no _ _ rfl h)⟩
  | non z => exact .inr ⟨rfl, .inl (a6H _)⟩
  | iz z y n => exact .inr ⟨rfl, .inl (a6H _)⟩
  | most z y n => exact .inr ⟨rfl, .inl (a6H _)⟩
  | anew z y t =>
    by_cases c : x = z
    · subst c
      obtain ⟨o1, o2, o3, o4, o5, o6, o7, o8⟩ := ok
      dsimp only at hl
      have h := ts_two (bs := bs) (dd := .anew x y t) (x := x) (m := szB bs y + 2) (s := szB bs x) hl (fun j p hj e => by
          have e : (((([fstB bs t] ++ a0j bs y ++ [fstB bs t]).map fun c => (([c], []) : Stp)) ++ (a0j bs x).map fun c => (([], [c]) : Stp)))[j]? = some p := e
          have h3 : ([fstB bs t] ++ a0j bs y ++ [fstB bs t]).length = szB bs y + 2 := by simp only [List.length_append, a0N, List.length_singleton]; omega
          rw [List.getElem?_append_left (by rw [List.length_map, h3]; exact hj)] at e
          obtain ⟨c, hc, rfl⟩ := List.mem_map.mp (List.mem_of_getElem? e)
          rw [hit_r]
          have ht : (a0j bs x).contains (fstB bs t) = false := (a2e (bs := bs) (x := x) (z := t) (k := 0) (by omega)).trans (decide_eq_false fun q => o5 q.symm)
          rcases List.mem_append.mp hc with hc | hc
          · rcases List.mem_append.mp hc with hc | hc
            · rw [List.mem_singleton.mp hc]; exact ht
            · obtain ⟨k, hk, rfl⟩ := List.mem_map.mp hc
              rw [a2e (List.mem_range.mp hk)]; exact decide_eq_false fun q => o4 q.symm
          · rw [List.mem_singleton.mp hc]; exact ht) (fun j p hj e => by
          have e : (((([fstB bs t] ++ a0j bs y ++ [fstB bs t]).map fun c => (([c], []) : Stp)) ++ (a0j bs x).map fun c => (([], [c]) : Stp)))[j]? = some p := e
          have h3 : ([fstB bs t] ++ a0j bs y ++ [fstB bs t]).length = szB bs y + 2 := by simp only [List.length_append, a0N, List.length_singleton]; omega
          rw [List.getElem?_append_right (by rw [List.length_map, h3]; exact hj)] at e
          obtain ⟨c, hc, rfl⟩ := List.mem_map.mp (List.mem_of_getElem? e)
          obtain ⟨k, hk, rfl⟩ := List.mem_map.mp hc
          rw [hit_w, a2e (List.mem_range.mp hk)]; exact decide_eq_true rfl)
      rw [hl, h]
      rcases a1c hb o1 with s | s
      · refine .inr ⟨if_neg (by omega), .inl ?_⟩
        rw [List.length_map, List.length_range, s]; exact Nat.le_refl 1
      · refine .inl ⟨4, 5, [], if_pos ⟨rfl, s⟩, ?_, fun _ => rfl⟩
        rw [o7, s]; rfl
    · exact .inr ⟨if_neg (by omega), .inr ⟨rfl, c⟩⟩
theorem ix_last {ds : List D} {d : D} : dIx (.lst (ds ++ [d])) (.int (-1)) = okD d := by
  show (atD (ds ++ [d]) (-1)).bind okD = _
  unfold atD ixD
  rw [if_neg (by decide), if_pos (by rw [List.length_append, List.length_singleton]; omega)]
  have : ((-1 : Int) + ((ds ++ [d]).length : Int)).toNat = ds.length := by rw [List.length_append, List.length_singleton]; omega
  simp only [Option.bind_some, this]
  rw [List.getElem?_append_right (Nat.le_refl _), Nat.sub_self]
  rfl
theorem not_anew {dd : Deed} (h : a4M dd = false) : ∃ k ds, dd.d = .tup (.str k :: ds) ∧ k ≠ Str.ofString "anew" := by
  cases dd with
  | anew _ _ _ => exact Bool.noConfusion h
  | put _ _ => exact ⟨Str.ofString "put", _, rfl, by decide⟩
  | copy _ _ => exact ⟨Str.ofString "copy", _, rfl, by decide⟩
  | grow _ _ => exact ⟨Str.ofString "grow", _, rfl, by decide⟩
  | tick _ => exact ⟨Str.ofString "tick", _, rfl, by decide⟩
  | still _ => exact ⟨Str.ofString "still", _, rfl, by decide⟩
  | iz _ _ _ => exact ⟨Str.ofString "is", _, rfl, by decide⟩
  | most _ _ _ => exact ⟨Str.ofString "most", _, rfl, by decide⟩
  | non _ => exact ⟨Str.ofString "none", _, rfl, by decide⟩
theorem a8y (f g : Nat) (u : List Nat) : dIx (.lst ((f :: (u ++ [g])).map intD)) (.int (-1)) = okD (intD g) := by
  rw [show (f :: (u ++ [g])).map intD = (f :: u).map intD ++ [intD g] from by simp]
  exact ix_last
theorem body_eq (hb : a2G bs) {dd : Deed} (ok : dd.Ok bs) {x : Nat} (hx : x < bs.length) {l : List T3} (hl : l.length ≤ 1000) (e4 : Option S) :
    ∃ e4' : Option S, a4q [some (.sh (a0J bs)), some (.sh dd.d), some (.own (.lst (l.map tD))), some (.sh (.int x)), e4] = some (.next [some (.sh (a0J bs)), some (.sh dd.d), some (.own (.lst ((l ++ (spX bs dd x).toList).map tD))), some (.sh (.int x)), e4']) := by
  have ht := a56 hb ok hx true
  have hd : ∀ {s : S}, (a4M dd = true → x = boxOf dd) → eOr (eBin dNe (eBin dIx (eVar 1) (eC (.int 0))) (eC (.str (Str.ofString "anew")))) (eBin dEq (eVar 3) (eBin dIx (eVar 1) (eC (.int 1)))) [some (.sh (a0J bs)), some (.sh dd.d), some (.own (.lst (l.map tD))), some (.sh (.int x)), some s] = okB true := fun {s} h => by
    cases ha : a4M dd with
    | true =>
      cases dd with
      | anew z y t => exact or_f (a0d (a0d rfl rfl a3a) rfl (a8n rfl)) (a0d rfl (a0d rfl rfl a2H) (eq_t (by have h : x = z := h rfl; omega)))
      | _ => exact nomatch ha
    | false =>
      obtain ⟨k, ds, e, hk⟩ := not_anew ha
      rw [e]
      exact or_t (a0d (a0d rfl rfl a3a) rfl (ne_strt hk))
  rcases span_is hb ok x with ⟨f, g, u, h1, h2, h3⟩ | ⟨h1, h2⟩
  · rw [h2] at ht
    rw [h1]
    refine ⟨some (.sh (.lst ((f :: (u ++ [g])).map intD))), a0b (a0B (a6E rfl rfl rfl rfl ht)) (if_t (a36 (a0d (lenB (n := ((f :: (u ++ [g])).length : Nat)) (a35 rfl) (a2w _)) rfl (gt_t (by rw [List.length_cons, List.length_append, List.length_singleton]; omega))) (hd h3)) (a2a ((a5r (ds := l.map tD) (s := .sh (tD (x, f, g))) rfl (a2C rfl (a0d rfl rfl ix_l0) (a0d rfl rfl (a8y f g u)) rfl) (by rw [List.length_map]; exact Nat.lt_of_le_of_lt hl (by decide))).trans ?_)))⟩
    rw [List.map_append]
    rfl
  · rw [h1]
    show ∃ e4', a4q _ = some (.next [_, _, some (.own (.lst ((l ++ []).map tD))), _, e4'])
    rw [List.append_nil]
    by_cases c : (tsOf bs dd x true (a0G bs dd).length).length ≤ 1
    · exact ⟨_, a0b (a0B (a6E rfl rfl rfl rfl ht)) (if_f (a2E (a0d (lenB (n := ((tsOf bs dd x true (a0G bs dd).length).length : Nat)) (a35 rfl) (a2w _)) rfl (gt_f (by omega)))) rfl)⟩
    · obtain ⟨ha, hn⟩ : a4M dd = true ∧ x ≠ boxOf dd := h2.resolve_left c
      cases dd with
      | anew z y t =>
        have hn : x ≠ z := hn
        exact ⟨_, a0b (a0B (a6E rfl rfl rfl rfl ht)) (if_f (a36 (a0d (lenB (n := ((tsOf bs (.anew z y t) x true (a0G bs (.anew z y t)).length).length : Nat)) (a35 rfl) (a2w _)) rfl (gt_t (by omega))) (or_f (a0d (a0d rfl rfl a3a) rfl (a8n rfl)) (a0d rfl (a0d rfl rfl a2H) (eq_f (by omega))))) rfl)⟩
      | _ => exact nomatch ha
theorem spans_eq (hb : a2G bs) {dd : Deed} (ok : dd.Ok bs) : a3p [a0J bs, dd.d] = okL ((fmN (spX bs dd) bs.length).map tD) := by
  have b8 := hb.1
  obtain ⟨ρ', e, e3, e4, rfl⟩ := a21 (bd := a1k 3) (body := a4q) (fun k ρ => ∃ e3 e4 : Option S, ρ = [some (.sh (a0J bs)), some (.sh dd.d), some (.own (.lst ((fmN (spX bs dd) k).map tD))), e3, e4]) bs.length (ρ := [some (.sh (a0J bs)), some (.sh dd.d), some (.own (.lst [])), none, none]) ⟨none, none, rfl⟩ (by
    rintro k ρ hk ⟨e3, e4, rfl⟩
    obtain ⟨e4', e⟩ := body_eq hb ok hk (l := fmN (spX bs dd) k) (by have := fm_len (spX bs dd) k; omega) e4
    exact ⟨_, _, rfl, e, _, e4', by rw [a4k]⟩)
  exact a0A rfl (a0b (a0B rfl) (a0b (a8K (a2d (lenB (a35 rfl) (a3A bs)) (a1f (by omega))) e) (retV_s rfl)))
end
end Bell
namespace Bell
open PySem L3
section
variable {bs : List Bx}
theorem size_e' {x : Nat} (h : x < bs.length) {ρ : MEnv} {i : Nat} (hi : ρ[i]? = some (some (.sh (a0J bs)))) {e : ME} (he : e ρ = okI (x : Nat)) : a0p (f1 dLen) [eBin dIx (eBin dIx (eVar i) e) (eC (.int 1))] ρ = okI (szB bs x : Nat) := by
  rw [a7U h]
  exact lenB (a0d (a0d (a2c hi) he (a6Z h)) rfl (ix_bD1 _)) (a6W _)
theorem a7h (hb : a2G bs) {dd : Deed} (ok : dd.Ok bs) : a1x [a0J bs, dd.d] = okL ((fmN (spX bs dd) bs.length).map tD) := by
  have f : ∀ {a b : Str} {ds : List D} {ρ : MEnv}, ρ[1]? = some (some (.sh (.tup (.str b :: ds)))) → b ≠ a → eBin dEq (eBin dIx (eVar 1) (eC (.int 0))) (eC (.str a)) ρ = okB false := fun h e => a0d (a0d (a2c h) rfl a3a) rfl (a0l e)
  have t : ∀ {a : Str} {ds : List D} {ρ : MEnv}, ρ[1]? = some (some (.sh (.tup (.str a :: ds)))) → eBin dEq (eBin dIx (eVar 1) (eC (.int 0))) (eC (.str a)) ρ = okB true := fun h => a0d (a0d (a2c h) rfl a3a) rfl (a2B rfl)
  have z1 : ∀ {k : Str} {x : Nat} {ds : List D}, x < bs.length → a0p (f1 dLen) [eBin dIx (eBin dIx (eVar 0) (eBin dIx (eVar 1) (eC (.int 1)))) (eC (.int 1))] [some (.sh (a0J bs)), some (.sh (.tup (.str k :: .int (x : Int) :: ds)))] = okI (szB bs x : Nat) := fun h => size_e' h rfl (a0d rfl rfl a2H)
  cases dd with
  | put z ns =>
    rw [fm1 (g := spX bs (.put z ns)) (z := z) (fun x hx => if_neg (fun q : x = z ∧ szB bs z = 2 => hx q.1)), if_pos ok.1]
    rcases a1c hb ok.1 with s | s
    · have e : spX bs (.put z ns) z = none := if_neg (by omega)
      rw [e]
      exact a0A rfl (a0b (if_f (f rfl (by decide)) rfl) (a0b (if_t (or_t (t rfl)) (if_f (a0d (z1 ok.1) rfl (eq_f (by omega))) rfl)) (a0U rfl)))
    · have e : spX bs (.put z ns) z = some (z, 0, 1) := if_pos ⟨rfl, s⟩
      rw [e]
      exact a0A rfl (a0b (if_f (f rfl (by decide)) rfl) (a0O (if_t (or_t (t rfl)) (if_t (a0d (z1 ok.1) rfl (eq_t (by omega))) (a0O (if_t (t rfl) (a0U (a1C (a2C (a0d rfl rfl a2H) rfl rfl rfl) rfl))))))))
  | copy z y =>
    obtain ⟨o1, o2, o3, o4⟩ := ok
    rcases a1c hb o1 with s | s
    · rw [fm0 (g := spX bs (.copy z y)) (fun x => if_neg (by omega))]
      exact a0A rfl (a0b (if_f (f rfl (by decide)) rfl) (a0b (if_t (or_f (f rfl (by decide)) (or_t (t rfl))) (if_f (a0d (z1 o1) rfl (eq_f (by omega))) rfl)) (a0U rfl)))
    · have ez : spX bs (.copy z y) z = some (z, 0, 1) := if_pos ⟨.inl rfl, s⟩
      have ey : spX bs (.copy z y) y = some (y, 0, 1) := if_pos ⟨.inr rfl, s⟩
      refine a0A rfl (a0b (if_f (f rfl (by decide)) rfl) (a0O (if_t (or_f (f rfl (by decide)) (or_t (t rfl))) (if_t (a0d (z1 o1) rfl (eq_t (by omega))) (a0b (if_f (f rfl (by decide)) rfl) (a0b (if_f (f rfl (by decide)) rfl) (a0U (un_e (a1g (a2C (a0d rfl rfl a2H) rfl rfl rfl) (a2C (a0d rfl rfl a5U) rfl rfl rfl) rfl) ?_))))))))
      show (if (z : Int) < (y : Int) then okL [tD (z, 0, 1), tD (y, 0, 1)] else if (y : Int) < (z : Int) then okL [tD (y, 0, 1), tD (z, 0, 1)] else none) = _
      by_cases c : z < y
      · rw [fm2 (g := spX bs (.copy z y)) c (fun x h1 h2 => if_neg (by omega)), if_pos o2, ez, ey, if_pos (by omega)]; rfl
      · rw [fm2 (g := spX bs (.copy z y)) (z := y) (y := z) (by omega) (fun x h1 h2 => if_neg (by omega)), if_pos o1, ez, ey, if_neg (by omega), if_pos (by omega)]; rfl
  | grow z n =>
    rw [fm1 (g := spX bs (.grow z n)) (z := z) (fun x hx => if_neg (fun q => hx q)), if_pos ok.1]
    have e : spX bs (.grow z n) z = some (z, 0, 2 * szB bs z - 1) := if_pos rfl
    have s := a1c hb ok.1
    rw [e]
    refine a0A rfl (a0O (if_t (t rfl) (a0U (a1C (a2C (a0d rfl rfl a2H) rfl (a0d (a0d rfl (z1 ok.1) (mulL (by decide) (by decide))) rfl (sub_int _ _)) rfl) ?_))))
    show okL [D.tup [.int z, .int 0, .int (2 * (szB bs z : Int) - 1)]] = okL [D.tup [.int z, .int 0, .int ((2 * szB bs z - 1 : Nat) : Int)]]
    rw [show 2 * (szB bs z : Int) - 1 = ((2 * szB bs z - 1 : Nat) : Int) by omega]
  | tick z =>
    rw [fm0 (g := spX bs (.tick z)) (fun x => rfl)]
    exact a0A rfl (a0b (if_f (f rfl (by decide)) rfl) (a0b (if_f (or_f (f rfl (by decide)) (or_f (f rfl (by decide)) (f rfl (by decide)))) rfl) (a0U rfl)))
  | still n =>
    rw [fm0 (g := spX bs (.still n)) (fun x => rfl)]
    exact a0A rfl (a0b (if_f (f rfl (by decide)) rfl) (a0b (if_f (or_f (f rfl (by decide)) (or_f (f rfl (by decide)) (f rfl (by decide)))) rfl) (a0U rfl)))
  | non z =>
    rw [fm0 (g := spX bs (.non z)) (fun x => rfl)]
    exact a0A rfl (a0b (if_f (f rfl (by decide)) rfl) (a0b (if_f (or_f (f rfl (by decide)) (or_f (f rfl (by decide)) (f rfl (by decide)))) rfl) (a0U rfl)))
  | iz z y n =>
    rw [fm0 (g := spX bs (.iz z y n)) (fun x => rfl)]
    exact a0A rfl (a0b (if_f (f rfl (by decide)) rfl) (a0b (if_f (or_f (f rfl (by decide)) (or_f (f rfl (by decide)) (f rfl (by decide)))) rfl) (a0U rfl)))
  | most z y n =>
    rw [fm0 (g := spX bs (.most z y n)) (fun x => rfl)]
    exact a0A rfl (a0b (if_f (f rfl (by decide)) rfl) (a0b (if_f (or_f (f rfl (by decide)) (or_f (f rfl (by decide)) (f rfl (by decide)))) rfl) (a0U rfl)))
  | anew z y tt =>
    obtain ⟨o1, o2, o3, o4, o5, o6, o7, o8⟩ := ok
    rw [fm1 (g := spX bs (.anew z y tt)) (z := z) (fun x hx => if_neg (fun q : x = z ∧ szB bs z = 2 => hx q.1)), if_pos o1]
    rcases a1c hb o1 with s | s
    · have e : spX bs (.anew z y tt) z = none := if_neg (by omega)
      rw [e]
      exact a0A rfl (a0b (if_f (f rfl (by decide)) rfl) (a0b (if_t (or_f (f rfl (by decide)) (or_f (f rfl (by decide)) (t rfl))) (if_f (a0d (z1 o1) rfl (eq_f (by omega))) rfl)) (a0U rfl)))
    · have e : spX bs (.anew z y tt) z = some (z, 4, 5) := if_pos ⟨rfl, s⟩
      rw [e]
      exact a0A rfl (a0b (if_f (f rfl (by decide)) rfl) (a0O (if_t (or_f (f rfl (by decide)) (or_f (f rfl (by decide)) (t rfl))) (if_t (a0d (z1 o1) rfl (eq_t (by omega))) (a0b (if_f (f rfl (by decide)) rfl) (a0O (if_t (t rfl) (a0U (a1C (a2C (a0d rfl rfl a2H) rfl rfl rfl) rfl)))))))))
end
theorem tX (a : T3) : eqX 2 (tD a) (tD a) = some true := by
  show (some ((a.1 : Int) == (a.1 : Int))).bind (fun b => ((some ((a.2.1 : Int) == (a.2.1 : Int))).bind fun b' => ((some ((a.2.2 : Int) == (a.2.2 : Int))).bind fun b2 => (some true).bind fun c => some (b2 && c)).bind fun c => some (b' && c)).bind fun c => some (b && c)) = _
  simp
theorem tsX : ∀ l : List T3, eqXs (eqX 2) (l.map tD) (l.map tD) = some true
  | [] => rfl
  | a :: l => by
    show (eqX 2 (tD a) (tD a)).bind (fun b => (eqXs (eqX 2) (l.map tD) (l.map tD)).bind fun c => some (b && c)) = _
    rw [tX, tsX l]; rfl
theorem a4T (i : Int) : a0Z [.int i] = okB true := rfl
theorem alike_eq (l : List T3) : a00 [.lst (l.map tD), .lst (l.map tD)] = okB true := by
  have hlen : dLen (.lst (l.map tD)) = okI (l.length : Nat) := by rw [a23, List.length_map]
  obtain ⟨ρ', e, e2, rfl⟩ := forD_pre (bd := a1k 2) (body := a5q) tD (fun _ ρ => ∃ e2 : Option S, ρ = [some (.sh (.lst (l.map tD))), some (.sh (.lst (l.map tD))), e2]) l
    (ρ := [some (.sh (.lst (l.map tD))), some (.sh (.lst (l.map tD))), none]) ⟨none, rfl⟩ (by
    rintro q a post ρ hq ⟨e2, rfl⟩
    exact ⟨_, _, rfl, .inl (a0b (if_f (or_f (a6l rfl) (a0d (lenB (a35 rfl) (show dLen (tD a) = okI 3 from rfl)) rfl rfl)) rfl) (if_f (or_f (a6l (a1C (a0d rfl rfl a3a) (a4T _))) (or_f (a6l (a1C (a0d rfl rfl a2H) (a4T _))) (a6l (a1C (a0d rfl rfl a5U) (a4T _))))) rfl)), some (.sh (tD a)), rfl⟩)
  refine a0A rfl (a0b (if_f (or_f (a6l rfl) (a0d (lenB (a35 rfl) hlen) (lenB (a35 rfl) hlen) (ne_f rfl))) rfl) (a0b (a8K (a5V rfl rfl) e) (a0U (a0d rfl rfl ?_))))
  show ((if (l.map tD).length = (l.map tD).length then eqXs (eqX 2) (l.map tD) (l.map tD) else some false).bind fun b => okB b) = _
  rw [if_pos rfl, tsX]
  rfl
theorem law_true (ns : List Int) (hns : ns.length ≤ 63) : f_law [.lst (ns.map D.int)] = some (.ok (.sh (.bl true))) := by
  obtain ⟨bs, ebs, hl, hb⟩ := boxes_ok (ns := ns)
  obtain ⟨n, hn, n61⟩ : ∃ n : Nat, dAdd (.int (if (60 : Int) < (ns.length : Int) then 60 else (ns.length : Int))) (.int 1) = okI (n : Int) ∧ n ≤ 61 := by
    by_cases c : (60 : Int) < (ns.length : Int)
    · exact ⟨61, by rw [if_pos c]; rfl, by decide⟩
    · exact ⟨ns.length + 1, by rw [if_neg c]; rfl, by omega⟩
  have hlen : dLen (.lst (ns.map D.int)) = okI (ns.length : Int) := by rw [a23, List.length_map]
  obtain ⟨ρ', e, _⟩ := a21 (bd := a1k 2) (body := b_law_0) (fun _ ρ => ∃ e2 e3 e4 e5 : Option S, ρ = [some (.sh (.lst (ns.map D.int))), some (.sh (a0J bs)), e2, e3, e4, e5]) n (ρ := [some (.sh (.lst (ns.map D.int))), some (.sh (a0J bs)), none, none, none, none]) ⟨none, none, none, none, rfl⟩ (by
    rintro k ρ hk ⟨e2, e3, e4, e5, rfl⟩
    obtain ⟨dd, ok, ed⟩ := deed_ok (ns := ns) hb hl (k := 100 + 13 * (k : Int)) (by omega) (by omega)
    have es := spans_eq hb ok
    have ha := alike_eq (fmN (spX bs dd) bs.length)
    exact ⟨_, _, rfl, a0b (a0B (a2C rfl rfl (a0d rfl (a0d rfl rfl (mulL (by decide) (by decide))) rfl) ed)) (a0b (a0B (a1g rfl rfl (a7h hb ok))) (a0b (a0B (a1g rfl rfl es)) (a0b (if_f (a6l (a8W (a1g (F := a00) (a35 rfl) (a35 rfl) ha) rfl)) rfl) (a0b (clear_s rfl) (if_f (a6l (a8W (a1g (F := a00) (a1g rfl rfl es) (a35 rfl) ha) rfl)) rfl))))), _, _, _, _, rfl⟩)
  exact a0A rfl (a0b (a0B (a1C rfl ebs)) (a0b (a8K (a2d (a0d (a1g (lenB rfl hlen) rfl rfl) rfl hn) (a1f (by omega))) e) rfl))
end Bell
set_option maxHeartbeats 8000000
namespace Bell
open PySem PySem.Spec PyProof.Rows L2 L3
def top (i : Nat) : Stmt := PySem.Challenge.pw_bellnest_k41_boxes_spanned.main.body.getD i (.Pass ⟨0, 0, 0, 0⟩)
abbrev a1D : Stmt := top 26
def a6m : List Str := ["_law_found"]
def a16 : List Str := ["_law_found"]
abbrev a1F : Stmt := top 27
def a6o : List Str := ["_law_found", "_law_due", "_law_one"]
def a18 : List Str := ["_law_found", "_law_due"]
abbrev a1X : Stmt := top 21
def a7u : List Str := ["_law_script", "_law_k", "_law_many", "_law_cell"]
def a1H : List Str := ["_law_script", "_law_k", "_law_many"]
abbrev a1l : Stmt := top 22
def a5N : List Str := ["_law_script", "_law_k", "_law_far", "_law_menu"]
def a1q : List Str := ["_law_script", "_law_k"]
abbrev a1E : Stmt := top 23
def a6n : List Str := ["_law_script", "_law_boxes_here", "_law_b", "_law_starts", "_law_size"]
def a17 : List Str := ["_law_script"]
abbrev a1Y : Stmt := top 24
def a7v : List Str := ["_law_boxes_here", "_law_script", "_law_k", "_law_kinds", "_law_kind", "_law_x", "_law_size", "_law_same", "_law_y", "_law_ones", "_law_n", "_law_b"]
def a2n : List Str := ["_law_boxes_here", "_law_script", "_law_k"]
abbrev a06 : Stmt := top 25
def a47 : List Str := ["_law_boxes_here", "_law_deed_here"]
def a1s : List Str := ["_law_boxes_here", "_law_deed_here"]
abbrev a2j : Stmt := top 2
def a8o : List Str := ["boxes", "x"]
def a2K : List Str := ["boxes", "x"]
abbrev a10 : Stmt := top 3
def a7x : List Str := ["boxes", "x", "first", "k"]
def a12 : List Str := ["boxes", "x"]
abbrev a2V : Stmt := inClass (top 5) 0
def n_i_Deed : List Str := ["self", "plan"]
def a1L : List Str := ["self", "plan"]
abbrev a1Z : Stmt := inClass (top 13) 0
def a7w : List Str := ["self", "sources", "targets", "cell"]
def a11 : List Str := ["self", "sources", "targets"]
abbrev a2X : Stmt := inClass (top 15) 0
def n_i_Anew : List Str := ["self", "targets", "sources", "tally"]
def a3z : List Str := ["self", "targets", "sources", "tally"]
abbrev a1G : Stmt := inClass (top 6) 0
def a6p : List Str := ["self", "watched"]
def a1I : List Str := ["self", "watched"]
abbrev a08 : Stmt := inClass (top 7) 0
def a49 : List Str := ["self", "left", "right"]
def a1u : List Str := ["self", "left", "right"]
abbrev a2W : Stmt := inClass (top 11) 0
def n_i_Copy : List Str := ["self", "targets", "sources", "k"]
def a3y : List Str := ["self", "targets", "sources"]
abbrev a2U : Stmt := inClass (top 14) 0
def n_i_Grow : List Str := ["self", "targets", "number"]
def a3x : List Str := ["self", "targets", "number"]
abbrev a3Q : Stmt := inClass (top 10) 0
def n_i_Put : List Str := ["self", "targets", "numbers", "cell"]
def a4f : List Str := ["self", "targets", "numbers"]
abbrev a2k : Stmt := inClass (top 9) 0
def a8p : List Str := ["self", "number"]
def a2L : List Str := ["self", "number"]
abbrev a2T : Stmt := inClass (top 12) 0
def n_i_Tick : List Str := ["self", "target"]
def a3w : List Str := ["self", "target"]
abbrev a07 : Stmt := inClass (top 8) 0
def a48 : List Str := ["self"]
def a1t : List Str := ["self"]
abbrev a2l : Stmt := top 16
def a8q : List Str := ["boxes", "deed", "kind", "first", "second"]
def a2M : List Str := ["boxes", "deed"]
abbrev a1n : Stmt := inClass (top 5) 2
def a5P : List Str := ["self", "turn"]
def a1O : List Str := ["self", "turn"]
abbrev a1m : Stmt := inClass (top 5) 1
def a5O : List Str := ["self"]
def a1N : List Str := ["self"]
abbrev a09 : Stmt := inClass (top 5) 3
def a5a : List Str := ["self", "turn"]
def a1v : List Str := ["self", "turn"]
abbrev a1W : Stmt := top 18
def a7t : List Str := ["boxes", "deed", "x", "reading", "made", "cells", "turns", "turn", "there", "cell"]
def a2m : List Str := ["boxes", "deed", "x", "reading"]
abbrev a3P : Stmt := top 19
def n_spans : List Str := ["boxes", "deed", "found", "x", "turns"]
def a4e : List Str := ["boxes", "deed"]
abbrev a59 : Stmt := top 28
def n_law : List Str := ["_law_script", "_law_boxes_here", "_law_k", "_law_deed_here", "_law_due", "_law_found"]
def p_law : List Str := ["_law_script"]
structure Blt (mg : Str → Option Value) : Prop where
  any : mg "any" = none
  bool : mg "bool" = none
  int : mg "int" = none
  isinstance : mg "isinstance" = none
  len : mg "len" = none
  list : mg "list" = none
  min : mg "min" = none
  range : mg "range" = none
  set : mg "set" = none
  sorted : mg "sorted" = none
  sum : mg "sum" = none
  tuple : mg "tuple" = none
structure Defs (K : PySem.W.Frag) (mg : Str → Option Value) (cls : String → Addr) : Prop where
  L_law_whole : Laid K mg "_law_whole" a1D a16
  L_law_alike : Laid K mg "_law_alike" a1F a18
  L_law_draw : Laid K mg "_law_draw" a1X a1H
  L_law_number : Laid K mg "_law_number" a1l a1q
  L_law_boxes : Laid K mg "_law_boxes" a1E a17
  L_law_deed : Laid K mg "_law_deed" a1Y a2n
  L_law_spanned : Laid K mg "_law_spanned" a06 a1s
  L_size_of : Laid K mg "size_of" a2j a2K
  L_cells_of : Laid K mg "cells_of" a10 a12
  L_i_Deed : a1V K mg cls "Deed" "Deed" "Deed.__init__" a2V a1L
  L_i_Handed : a1V K mg cls "Handed" "Handed" "Handed.__init__" a1Z a11
  L_i_Anew : a1V K mg cls "Anew" "Anew" "Anew.__init__" a2X a3z
  L_i_Promise : a1V K mg cls "Promise" "Promise" "Promise.__init__" a1G a1I
  L_i_Comparing : a1V K mg cls "Comparing" "Comparing" "Comparing.__init__" a08 a1u
  L_i_Copy : a1V K mg cls "Copy" "Copy" "Copy.__init__" a2W a3y
  L_i_Grow : a1V K mg cls "Grow" "Grow" "Grow.__init__" a2U a3x
  L_i_Put : a1V K mg cls "Put" "Put" "Put.__init__" a3Q a4f
  L_i_Still : a1V K mg cls "Still" "Still" "Still.__init__" a2k a2L
  L_i_Tick : a1V K mg cls "Tick" "Tick" "Tick.__init__" a2T a3w
  L_i_Untouched : a1V K mg cls "Untouched" "Untouched" "Untouched.__init__" a07 a1t
  L_deed_of : Laid K mg "deed_of" a2l a2M
  L_Deed_reads : a55 K cls "reads" "Deed.reads" a1n a1O ["Deed", "Promise", "Comparing", "Untouched", "Still", "Put", "Copy", "Tick", "Handed", "Grow", "Anew"]
  L_Deed_turns : a55 K cls "turns" "Deed.turns" a1m a1N ["Deed", "Promise", "Comparing", "Untouched", "Still", "Put", "Copy", "Tick", "Handed", "Grow", "Anew"]
  L_Deed_writes : a55 K cls "writes" "Deed.writes" a09 a1v ["Deed", "Promise", "Comparing", "Untouched", "Still", "Put", "Copy", "Tick", "Handed", "Grow", "Anew"]
  L_turns_at : Laid K mg "turns_at" a1W a2m
  L_spans : Laid K mg "spans" a3P a4e
  L_law : Laid K mg "law" a59 p_law
  fld_check : ∀ c ∈ ["Anew"], Cls K (cls c) ∧ NoAttr K (cls c) "check"
  fld_number : ∀ c ∈ ["Grow"], Cls K (cls c) ∧ NoAttr K (cls c) "number"
  fld_numbers : ∀ c ∈ ["Put"], Cls K (cls c) ∧ NoAttr K (cls c) "numbers"
  fld_plan : ∀ c ∈ ["Deed", "Promise", "Comparing", "Untouched", "Still", "Put", "Copy", "Tick", "Handed", "Grow", "Anew"], Cls K (cls c) ∧ NoAttr K (cls c) "plan"
  fld_size : ∀ c ∈ ["Grow"], Cls K (cls c) ∧ NoAttr K (cls c) "size"
seal PySem.wpAny
section
variable {P : Program} {w : World} {K : PySem.W.Frag} {mg : Str → Option Value} {base : Heap} {cls : String → Addr}
theorem a5y : FnScope a6m a16 (defScope a1D) := ⟨rfl, rfl, rfl, by decide +kernel, rfl, by decide +kernel, by decide +kernel⟩
theorem a5J (L : Laid K mg "_law_whole" a1D a16) (Z : Blt mg)  : FnN P w K mg base ⟨K, cls⟩ 1 "_law_whole" a16 a0Z :=
  a1T (k := 0) L a5y fun f cdv A outer s H E hr =>
 (a0h (a0k (pd_and (a6V rfl (kit_int _) rfl Z.isinstance rfl Z.int L3.bt_int (a0a (pv 0))) (pd_one (pd_not (a6V rfl (kit_bool _) rfl Z.isinstance rfl Z.bool L3.bt_bool (a0a (pv 0))))))))
theorem a3Y : FnScope a6o a18 (defScope a1F) := ⟨rfl, rfl, rfl, by decide +kernel, rfl, by decide +kernel, by decide +kernel⟩
theorem a5L (L : Laid K mg "_law_alike" a1F a18) (Z : Blt mg) (H_law_whole : FnN P w K mg base ⟨K, cls⟩ 1 "_law_whole" a16 a0Z) : FnN P w K mg base ⟨K, cls⟩ 2 "_law_alike" a18 a00 :=
  a1T (k := 1) L a3Y fun f cdv A outer s H E hr =>
 (a0e (a0T (PWD.pt (a3Z (a3j (a2u (a6V rfl (kit_list _) rfl Z.isinstance rfl Z.list L3.a6F (a0a (pv 0))))) (a3R (a0n a4g (a0C (a03 rfl) rfl Z.len PySem.boot_len (a0q (a0t (pv 0)) a0z)) (a0C (a03 rfl) rfl Z.len PySem.boot_len (a0q (a0t (pv 1)) a0z))))))
 (a0h (a0k a6f))
 a0r)
 (a0e (a4c PassesOwn.never rfl (a4d rfl (a0a (pv 0))) (pbN a3Y.nd rfl)
 (a0e (a0T (PWD.pt (a3Z (a3j (a2u (a6V rfl (a8z _) rfl Z.isinstance rfl Z.tuple L3.a27 (a0a (pv 2))))) (a3R (a0n a4g (a0C (a03 rfl) rfl Z.len PySem.boot_len (a0q (a0t (pv 2)) a0z)) a0f))))
 (a0h (a0k a6f))
 a0r)
 (a0h (a0T (PWD.pt (a3Z (a3j (a2u (a1B H_law_whole (hr.mono (by first | decide | omega)) rfl (padS (a0x (ixd rfl) (a0a (pv 2)) a0f) a0c)))) (a3Z (a3j (a2u (a1B H_law_whole (hr.mono (by first | decide | omega)) rfl (padS (a0x (ixd rfl) (a0a (pv 2)) a0f) a0c)))) (a3R (a3j (a2u (a1B H_law_whole (hr.mono (by first | decide | omega)) rfl (padS (a0x (ixd rfl) (a0a (pv 2)) a0f) a0c))))))))
 (a0h (a0k a6f))
 a0r))))
 (a0h (a0k (pd_cmp (opd_eqX (n := 3) rfl (hu9_of hr)) (a0a (pv 0)) (a0a (pv 1)))))))
theorem a3f : FnScope a7u a1H (defScope a1X) := ⟨rfl, rfl, rfl, by decide +kernel, rfl, by decide +kernel, by decide +kernel⟩
theorem a6h (L : Laid K mg "_law_draw" a1X a1H) (Z : Blt mg)  : FnN P w K mg base ⟨K, cls⟩ 1 "_law_draw" a1H a0s :=
  a1T (k := 0) L a3f fun f cdv A outer s H E hr =>
 (a0e (psS (i := 3) a3f.nd rfl a0f)
 (a0e (a0T (a0n a8h (a0C (a03 rfl) rfl Z.len PySem.boot_len (a0q (a0t (pv 0)) a0z)) a0f)
 (a0h (psS (i := 3) a3f.nd rfl (a0E a2N (a0x (ixd rfl) (a0a (pv 0)) (a0E a2N (a0a (pv 1)) (a0C (a03 rfl) rfl Z.len PySem.boot_len (a0q (a0t (pv 0)) a0z)))) a0f)))
 a0r)
 (a0h (a0k (a0E a2N (a0E opd_fdiv (a0E a2N (a0E a2v (a0E a2N (a0E a2v (a0E (a0I rfl) (a0a (pv 3)) a0f) (a0E (a0I rfl) (a0E (a0I rfl) (a0E a2v (a0a (pv 1)) (a0a (pv 1))) (a0a (pv 1))) a0f)) a0f) a0f) a0f) a0f) (a0a (pv 2)))))))
theorem a2t : FnScope a5N a1q (defScope a1l) := ⟨rfl, rfl, rfl, by decide +kernel, rfl, by decide +kernel, by decide +kernel⟩
theorem a43 (L : Laid K mg "_law_number" a1l a1q) (Z : Blt mg) (H_law_draw : FnN P w K mg base ⟨K, cls⟩ 1 "_law_draw" a1H a0s) : FnN P w K mg base ⟨K, cls⟩ 2 "_law_number" a1q a0D :=
  a1T (k := 1) L a2t fun f cdv A outer s H E hr =>
 (a0e (psS (i := 2) a2t.nd rfl (a1B H_law_draw (hr.mono (by first | decide | omega)) rfl (padN (a0a (pv 0)) (padN (a0a (pv 1)) (padC a0f a0c)))))
 (a0e (psS (i := 3) a2t.nd rfl (a1p (padB (a0E a42 (a0E a2N (a0a (pv 2)) a0f) a0f) (padB (a0E a42 (a0E a8g a0f a0f) (a0E a2N (a0a (pv 2)) a0f)) (padB (a0E a42 (a0E a2N (a0a (pv 2)) a0f) (a0E a8g a0f a0f)) (padB (a0E a2v (a0a (pv 2)) a0f) a0c))))))
 (a0w (i := 3) (a0h (a0k (a0x (ixd rfl) (a0a (pv 3)) (a1B H_law_draw (hr.mono (by first | decide | omega)) rfl (padN (a0a (pv 0)) (padB (a0E (a0I rfl) (a0a (pv 1)) a0f) (padC a0f a0c))))))))))
theorem a1M : FnScope a6n a17 (defScope a1E) := ⟨rfl, rfl, rfl, by decide +kernel, rfl, by decide +kernel, by decide +kernel⟩
theorem a5K (L : Laid K mg "_law_boxes" a1E a17) (Z : Blt mg) (H_law_draw : FnN P w K mg base ⟨K, cls⟩ 1 "_law_draw" a1H a0s) (H_law_number : FnN P w K mg base ⟨K, cls⟩ 2 "_law_number" a1q a0D) : FnN P w K mg base ⟨K, cls⟩ 3 "_law_boxes" a17 a2A :=
  a1T (k := 2) L a1M fun f cdv A outer s H E hr =>
 (a0e (psS (i := 1) a1M.nd rfl (a1p a0c))
 (a0e (a4c PassesOwn.never rfl (a1o rfl Z.range (a0x (ixd rfl) (a1p (a3U (ds := [(.int 1), (.int 2), (.int 3), (.int 3), (.int 4), (.int 4), (.int 5), (.int 8)]) rfl)) (a1B H_law_draw (hr.mono (by first | decide | omega)) rfl (padN (a0a (pv 0)) (padC a0f (padC a0f a0c)))))) (pbN a1M.nd rfl)
 (a0e (psS (i := 3) a1M.nd rfl (a1p (padK (a1B H_law_number (hr.mono (by first | decide | omega)) rfl (padN (a0a (pv 0)) (padB (a0E (a0I rfl) a0f (a0E a2v a0f (a0a (pv 2)))) a0c))) (padK (a1B H_law_number (hr.mono (by first | decide | omega)) rfl (padN (a0a (pv 0)) (padB (a0E (a0I rfl) a0f (a0E a2v a0f (a0a (pv 2)))) a0c))) a0c))))
 (a0e (psS (i := 4) a1M.nd rfl (a0E (a0I rfl) a0f (a1B H_law_draw (hr.mono (by first | decide | omega)) rfl (padN (a0a (pv 0)) (padB (a0E (a0I rfl) a0f (a0E a2v a0f (a0a (pv 2)))) (padC a0f a0c))))))
 (a0w (i := 3) (a0h (a3S (i := 1) (pv 1) (a0y (padB (a0E opd_mulS (a0x (ixd rfl) a0H (a0a (pv 2))) (a0a (pv 4))) (padK (a6d (a3M rfl) rfl Z.tuple L3.a27 (padS (a6U rfl (a0a (pv 3)) a6S (a6R (a0a (pv 4)))) a0c)) a0c)))))))))
 (a0w (i := 1) (a0h (a0k (a6d (a3M rfl) rfl Z.tuple L3.a27 (padN (a0a (pv 1)) a0c)))))))
theorem a0F : FnScope a7v a2n (defScope a1Y) := ⟨rfl, rfl, rfl, by decide +kernel, rfl, by decide +kernel, by decide +kernel⟩
theorem a6i (L : Laid K mg "_law_deed" a1Y a2n) (Z : Blt mg) (H_law_draw : FnN P w K mg base ⟨K, cls⟩ 1 "_law_draw" a1H a0s) (H_law_number : FnN P w K mg base ⟨K, cls⟩ 2 "_law_number" a1q a0D) : FnN P w K mg base ⟨K, cls⟩ 3 "_law_deed" a2n a2r :=
  a1T (k := 2) L a0F fun f cdv A outer s H E hr =>
 (a0e (psS (i := 3) a0F.nd rfl (a1p (a3U (ds := [(.str "put"), (.str "copy"), (.str "grow"), (.str "tick"), (.str "still"), (.str "is"), (.str "most"), (.str "none"), (.str "anew"), (.str "grow"), (.str "put"), (.str "anew")]) rfl)))
 (a0w (i := 3) (a0e (psS (i := 4) a0F.nd rfl (a0x (ixd rfl) (a0a (pv 3)) (a1B H_law_draw (hr.mono (by first | decide | omega)) rfl (padN (a0a (pv 1)) (padN (a0a (pv 2)) (padC a0f a0c))))))
 (a0e (psS (i := 5) a0F.nd rfl (a1B H_law_draw (hr.mono (by first | decide | omega)) rfl (padN (a0a (pv 1)) (padB (a0E (a0I rfl) (a0a (pv 2)) a0f) (padK (a0C (a03 rfl) rfl Z.len PySem.boot_len (a0q (a0t (pv 0)) a0z)) a0c)))))
 (a0e (psS (i := 6) a0F.nd rfl (a0C (a03 rfl) rfl Z.len PySem.boot_len (a0q (PD.look (a0x (ixd rfl) (a0x (ixd rfl) (a0a (pv 0)) (a0a (pv 5))) a0f)) a0z)))
 (a0e (a4I (i := 7) a0F.nd rfl (by first | exact Or.inl rfl | exact Or.inr rfl) (js := [11]) (vars := [".0", "_law_b"]) (a1S 11) (by rfl) (by rfl) rfl (a1o rfl Z.range (a0C (a03 rfl) rfl Z.len PySem.boot_len (a0q (a0t (pv 0)) a0z))) (fun _ _ _ _ => (pbN a0F.nd rfl)) (fun _ _ _ _ => (a0n a0V (a0C (a03 rfl) rfl Z.len PySem.boot_len (a0q (PD.look (a0x (ixd rfl) (a0x (ixd rfl) (a0a (pv 0)) (a0a (pv 11))) a0f)) a0z)) (a0a (pv 6)))) (fun _ _ _ _ => (a0a (pv 11))))
 (a0w (i := 7) (a0e (psS (i := 8) a0F.nd rfl (a0x (ixd rfl) (a0a (pv 7)) (a1B H_law_draw (hr.mono (by first | decide | omega)) rfl (padN (a0a (pv 1)) (padB (a0E (a0I rfl) (a0a (pv 2)) a0f) (padK (a0C (a03 rfl) rfl Z.len PySem.boot_len (a0q (a0t (pv 7)) a0z)) a0c))))))
 (a0e (a4I (i := 9) a0F.nd rfl (by first | exact Or.inl rfl | exact Or.inr rfl) (js := [11]) (vars := [".0", "_law_b"]) (a1S 11) (by rfl) (by rfl) rfl (a1o rfl Z.range (a0C (a03 rfl) rfl Z.len PySem.boot_len (a0q (a0t (pv 0)) a0z))) (fun _ _ _ _ => (pbN a0F.nd rfl)) (fun _ _ _ _ => (PWD.pt (a3i (a0n a0V (a0C (a03 rfl) rfl Z.len PySem.boot_len (a0q (PD.look (a0x (ixd rfl) (a0x (ixd rfl) (a0a (pv 0)) (a0a (pv 11))) a0f)) a0z)) a0f) (a3i (a0n a4g (a0a (pv 11)) (a0a (pv 5))) (a3v (a0n a4g (a0a (pv 11)) (a0a (pv 8)))))))) (fun _ _ _ _ => (a0a (pv 11))))
 (a0e (psS (i := 10) a0F.nd rfl (a1B H_law_number (hr.mono (by first | decide | omega)) rfl (padN (a0a (pv 1)) (padB (a0E (a0I rfl) (a0a (pv 2)) a0f) a0c))))
 (a0e (a0T (a0n a0V (a0a (pv 4)) a0H)
 (a0h (a0k (a0y (padC a0H (padN (a0a (pv 5)) (padK (a6d (a3M rfl) rfl Z.tuple L3.a27 (padS (a6U rfl (a1p (padN (a0a (pv 10)) (padU (pd_usub (a0a (pv 10))) a0c))) a6S (a6R (a0a (pv 6)))) a0c)) a0c))))))
 a0r)
 (a0e (a0T (PWD.pt (a3i (a0n a0V (a0a (pv 4)) a0H) (a3v (a0n a4g (a0a (pv 5)) (a0a (pv 8))))))
 (a0h (a0k (a0y (padC a0H (padN (a0a (pv 5)) (padN (a0a (pv 8)) a0c))))))
 a0r)
 (a0e (a0T (a0n a0V (a0a (pv 4)) a0H)
 (a0h (a0k (a0y (padC a0H (padN (a0a (pv 5)) (padN (a0a (pv 10)) a0c))))))
 a0r)
 (a0e (a0T (PWD.pt (a3i (a0n a0V (a0a (pv 4)) a0H) (a3v (a0n a0V (a0a (pv 6)) a0f))))
 (a0h (a0k (a0y (padC a0H (padN (a0a (pv 5)) a0c)))))
 a0r)
 (a0e (a0T (PWD.pt (a3Z (a0n a0V (a0a (pv 4)) a0H) (a3R (a0n a0V (a0a (pv 4)) a0H))))
 (a0h (a0k (a0y (padN (a0a (pv 4)) (padN (a0a (pv 5)) (padN (a0a (pv 8)) (padN (a0a (pv 10)) a0c)))))))
 a0r)
 (a0e (a0T (a0n a0V (a0a (pv 4)) a0H)
 (a0h (a0k (a0y (padC a0H (padN (a0a (pv 5)) a0c)))))
 a0r)
 (a0e (a0T (PWD.pt (a3i (a0n a0V (a0a (pv 4)) a0H) (a3i (a0n a4g (a0a (pv 5)) (a0a (pv 8))) (a3v (a0n a8h (a0C (a03 rfl) rfl Z.len PySem.boot_len (a0q (a0t (pv 9)) a0z)) a0f)))))
 (a0w (i := 9) (a0h (a0k (a0y (padC a0H (padN (a0a (pv 5)) (padN (a0a (pv 8)) (padS (a0x (ixd rfl) (a0a (pv 9)) (a1B H_law_draw (hr.mono (by first | decide | omega)) rfl (padN (a0a (pv 1)) (padB (a0E (a0I rfl) (a0a (pv 2)) a0f) (padK (a0C (a03 rfl) rfl Z.len PySem.boot_len (a0q (a0t (pv 9)) a0z)) a0c))))) a0c))))))))
 a0r)
 (a0h (a0k (a0y (padC a0H (padB (a0E (a0I rfl) a0f (a1B H_law_draw (hr.mono (by first | decide | omega)) rfl (padN (a0a (pv 1)) (padB (a0E (a0I rfl) (a0a (pv 2)) a0f) (padC a0f a0c))))) a0c))))))))))))))))))))))
theorem a4v : FnScope a47 a1s (defScope a06) := ⟨rfl, rfl, rfl, by decide +kernel, rfl, by decide +kernel, by decide +kernel⟩
theorem a4A (L : Laid K mg "_law_spanned" a06 a1s) (Z : Blt mg)  : FnN P w K mg base ⟨K, cls⟩ 1 "_law_spanned" a1s a1x :=
  a1T (k := 0) L a4v fun f cdv A outer s H E hr =>
 (a0e (a0T (a0n a0V (a0x (ixd rfl) (a0a (pv 1)) a0f) a0H)
 (a0h (a0k (a1p (padT (a0y (padS (a0x (ixd rfl) (a0a (pv 1)) a0f) (padC a0f (padB (a0E a42 (a0E a2v a0f (a0C (a03 rfl) rfl Z.len PySem.boot_len (a0q (PD.look (a0x (ixd rfl) (a0x (ixd rfl) (a0a (pv 0)) (a0x (ixd rfl) (a0a (pv 1)) a0f)) a0f)) a0z))) a0f) a0c)))) a0c))))
 a0r)
 (a0e (a0T (PWD.pt (a3Z (a0n a0V (a0x (ixd rfl) (a0a (pv 1)) a0f) a0H) (a3Z (a0n a0V (a0x (ixd rfl) (a0a (pv 1)) a0f) a0H) (a3R (a0n a0V (a0x (ixd rfl) (a0a (pv 1)) a0f) a0H)))))
 (a0h (a0T (a0n a0V (a0C (a03 rfl) rfl Z.len PySem.boot_len (a0q (PD.look (a0x (ixd rfl) (a0x (ixd rfl) (a0a (pv 0)) (a0x (ixd rfl) (a0a (pv 1)) a0f)) a0f)) a0z)) a0f)
 (a0e (a0T (a0n a0V (a0x (ixd rfl) (a0a (pv 1)) a0f) a0H)
 (a0h (a0k (a1p (padT (a0y (padS (a0x (ixd rfl) (a0a (pv 1)) a0f) (padC a0f (padC a0f a0c)))) a0c))))
 a0r)
 (a0e (a0T (a0n a0V (a0x (ixd rfl) (a0a (pv 1)) a0f) a0H)
 (a0h (a0k (a1p (padT (a0y (padS (a0x (ixd rfl) (a0a (pv 1)) a0f) (padC a0f (padC a0f a0c)))) a0c))))
 a0r)
 (a0h (a0k (a7p rfl rfl Z.sorted (a1p (padT (a0y (padS (a0x (ixd rfl) (a0a (pv 1)) a0f) (padC a0f (padC a0f a0c)))) (padT (a0y (padS (a0x (ixd rfl) (a0a (pv 1)) a0f) (padC a0f (padC a0f a0c)))) a0c))))))))
 a0r))
 a0r)
 (a0h (a0k (a1p a0c)))))
theorem a7j : FnScope a8o a2K (defScope a2j) := ⟨rfl, rfl, rfl, by decide +kernel, rfl, by decide +kernel, by decide +kernel⟩
theorem a7q (L : Laid K mg "size_of" a2j a2K) (Z : Blt mg)  : FnN P w K mg base ⟨K, cls⟩ 1 "size_of" a2K a2q :=
  a1T (k := 0) L a7j fun f cdv A outer s H E hr =>
 (a0h (a0k (a0C (a03 rfl) rfl Z.len PySem.boot_len (a0q (PD.look (a0x (ixd rfl) (a0x (ixd rfl) (a0a (pv 0)) (a0a (pv 1))) a0f)) a0z))))
theorem a3h : FnScope a7x a12 (defScope a10) := ⟨rfl, rfl, rfl, by decide +kernel, rfl, by decide +kernel, by decide +kernel⟩
theorem a6k (L : Laid K mg "cells_of" a10 a12) (Z : Blt mg) (H_size_of : FnN P w K mg base ⟨K, cls⟩ 1 "size_of" a2K a2q) : FnN P w K mg base ⟨K, cls⟩ 2 "cells_of" a12 a1r :=
  a1T (k := 1) L a3h fun f cdv A outer s H E hr =>
 (a0e (psS (i := 2) a3h.nd rfl (a8f (cd_sum rfl rfl) rfl Z.sum L3.bt_sum (a0Y (a3T (js := [3]) (vars := [".0", "k"]) (a1S 3) (by rfl) (by rfl) rfl (a1o rfl Z.range (a0a (pv 1))) (fun _ _ _ _ => (pbN a3h.nd rfl)) (fun _ _ _ _ => (a1B H_size_of (hr.mono (by first | decide | omega)) rfl (padN (a0a (pv 0)) (padN (a0a (pv 3)) a0c))))) a0c)))
 (a0h (a0k (a5G rfl rfl Z.list rfl Z.range (a0a (pv 2)) (a0E (a0I rfl) (a0a (pv 2)) (a1B H_size_of (hr.mono (by first | decide | omega)) rfl (padN (a0a (pv 0)) (padN (a0a (pv 1)) a0c))))))))
theorem a76 : FnScope n_i_Deed a1L (defScope a2V) := ⟨rfl, rfl, rfl, by decide +kernel, rfl, by decide +kernel, by decide +kernel⟩
theorem a8k (L : a1V K mg cls "Deed" "Deed" "Deed.__init__" a2V a1L) (Z : Blt mg) (H_fld_plan : ∀ c ∈ ["Deed", "Promise", "Comparing", "Untouched", "Still", "Put", "Copy", "Tick", "Handed", "Grow", "Anew"], Cls K (cls c) ∧ NoAttr K (cls c) "plan") : a1e P w K mg base ⟨K, cls⟩ 1 "Deed" "Deed" a1L a2f :=
  a05 (k := 0) L a76 (by decide) fun f cdv A outer s H E hr =>
 (a0X (a5D (cs := ["Deed", "Promise", "Comparing", "Untouched", "Still", "Put", "Copy", "Tick", "Handed", "Grow", "Anew"]) rfl H_fld_plan (pv 0) (a0a (pv 1)))
 a15)
theorem a3g : FnScope a7w a11 (defScope a1Z) := ⟨rfl, rfl, rfl, by decide +kernel, rfl, by decide +kernel, by decide +kernel⟩
theorem a6j (L : a1V K mg cls "Handed" "Handed" "Handed.__init__" a1Z a11) (Z : Blt mg) (H_i_Deed : a1e P w K mg base ⟨K, cls⟩ 1 "Deed" "Deed" a1L a2f) : a1e P w K mg base ⟨K, cls⟩ 2 "Handed" "Handed" a11 a2Y :=
  a05 (k := 1) L a3g (by decide) fun f cdv A outer s H E hr =>
 (a0X (a2h H_i_Deed (hr.mono (by decide)) rfl (pv 0) (padB (a0E (a0I rfl) (a3T (js := [3]) (vars := [".0", "cell"]) (a1S 3) (by rfl) (by rfl) rfl (a4d rfl (a0a (pv 1))) (fun _ _ _ _ => (pbN a3g.nd rfl)) (fun _ _ _ _ => (a0y (padT (a0y (padN (a0a (pv 3)) a0c)) (padT (a0y a0c) a0c))))) (a3T (js := [3]) (vars := [".0", "cell"]) (a1S 3) (by rfl) (by rfl) rfl (a4d rfl (a0a (pv 2))) (fun _ _ _ _ => (pbN a3g.nd rfl)) (fun _ _ _ _ => (a0y (padT (a0y a0c) (padT (a0y (padN (a0a (pv 3)) a0c)) a0c)))))) a0c))
 a15)
theorem a77 : FnScope n_i_Anew a3z (defScope a2X) := ⟨rfl, rfl, rfl, by decide +kernel, rfl, by decide +kernel, by decide +kernel⟩
theorem a8m (L : a1V K mg cls "Anew" "Anew" "Anew.__init__" a2X a3z) (Z : Blt mg) (H_fld_check : ∀ c ∈ ["Anew"], Cls K (cls c) ∧ NoAttr K (cls c) "check") (H_i_Handed : a1e P w K mg base ⟨K, cls⟩ 2 "Handed" "Handed" a11 a2Y) : a1e P w K mg base ⟨K, cls⟩ 3 "Anew" "Anew" a3z a8F :=
  a05 (k := 2) L a77 (by decide) fun f cdv A outer s H E hr =>
 (a0X (a2h H_i_Handed (hr.mono (by decide)) rfl (pv 0) (padB (a0E (a0I rfl) (a0E (a0I rfl) (a1p (padN (a0a (pv 3)) a0c)) (a0a (pv 2))) (a1p (padN (a0a (pv 3)) a0c))) (padN (a0a (pv 1)) a0c)))
 (a0X (a5D (cs := ["Anew"]) rfl H_fld_check (pv 0) (a0E (a0I rfl) (a0C (a03 rfl) rfl Z.len PySem.boot_len (a0q (a0t (pv 2)) a0z)) a0f))
 a15))
theorem a5z : FnScope a6p a1I (defScope a1G) := ⟨rfl, rfl, rfl, by decide +kernel, rfl, by decide +kernel, by decide +kernel⟩
theorem a5M (L : a1V K mg cls "Promise" "Promise" "Promise.__init__" a1G a1I) (Z : Blt mg) (H_i_Deed : a1e P w K mg base ⟨K, cls⟩ 1 "Deed" "Deed" a1L a2f) : a1e P w K mg base ⟨K, cls⟩ 2 "Promise" "Promise" a1I a2o :=
  a05 (k := 1) L a5z (by decide) fun f cdv A outer s H E hr =>
 (a0X (a2h H_i_Deed (hr.mono (by decide)) rfl (pv 0) (a0Y (a1p (padT (a0y (padK (a6d (a3M rfl) rfl Z.tuple L3.a27 (padN (a0a (pv 1)) a0c)) (padT (a0y a0c) a0c))) a0c)) a0c))
 a15)
theorem a4x : FnScope a49 a1u (defScope a08) := ⟨rfl, rfl, rfl, by decide +kernel, rfl, by decide +kernel, by decide +kernel⟩
theorem a4C (L : a1V K mg cls "Comparing" "Comparing" "Comparing.__init__" a08 a1u) (Z : Blt mg) (H_i_Promise : a1e P w K mg base ⟨K, cls⟩ 2 "Promise" "Promise" a1I a2o) : a1e P w K mg base ⟨K, cls⟩ 3 "Comparing" "Comparing" a1u a3o :=
  a05 (k := 2) L a4x (by decide) fun f cdv A outer s H E hr =>
 (a0X (a2h H_i_Promise (hr.mono (by decide)) rfl (pv 0) (padK (a5F rfl rfl rfl Z.sorted rfl Z.set (a0E (a0I rfl) (a0a (pv 1)) (a0a (pv 2)))) a0c))
 a15)
theorem a5A : FnScope n_i_Copy a3y (defScope a2W) := ⟨rfl, rfl, rfl, by decide +kernel, rfl, by decide +kernel, by decide +kernel⟩
theorem a8l (L : a1V K mg cls "Copy" "Copy" "Copy.__init__" a2W a3y) (Z : Blt mg) (H_i_Deed : a1e P w K mg base ⟨K, cls⟩ 1 "Deed" "Deed" a1L a2f) : a1e P w K mg base ⟨K, cls⟩ 2 "Copy" "Copy" a3y a8E :=
  a05 (k := 1) L a5A (by decide) fun f cdv A outer s H E hr =>
 (a0X (a2h H_i_Deed (hr.mono (by decide)) rfl (pv 0) (a0Y (a3T (js := [3]) (vars := [".0", "k"]) (a1S 3) (by rfl) (by rfl) rfl (a1o rfl Z.range (a0C (a03 rfl) rfl Z.len PySem.boot_len (a0q (a0t (pv 1)) a0z))) (fun _ _ _ _ => (pbN a5A.nd rfl)) (fun _ _ _ _ => (a0y (padT (a0y (padS (a0x (ixd rfl) (a0a (pv 2)) (a0a (pv 3))) a0c)) (padT (a0y (padS (a0x (ixd rfl) (a0a (pv 1)) (a0a (pv 3))) a0c)) a0c))))) a0c))
 a15)
theorem a75 : FnScope n_i_Grow a3x (defScope a2U) := ⟨rfl, rfl, rfl, by decide +kernel, rfl, by decide +kernel, by decide +kernel⟩
theorem a8j (L : a1V K mg cls "Grow" "Grow" "Grow.__init__" a2U a3x) (Z : Blt mg) (H_fld_number : ∀ c ∈ ["Grow"], Cls K (cls c) ∧ NoAttr K (cls c) "number") (H_fld_size : ∀ c ∈ ["Grow"], Cls K (cls c) ∧ NoAttr K (cls c) "size") (H_i_Handed : a1e P w K mg base ⟨K, cls⟩ 2 "Handed" "Handed" a11 a2Y) : a1e P w K mg base ⟨K, cls⟩ 3 "Grow" "Grow" a3x a8D :=
  a05 (k := 2) L a75 (by decide) fun f cdv A outer s H E hr =>
 (a0X (a2h H_i_Handed (hr.mono (by decide)) rfl (pv 0) (padN (a0a (pv 1)) (padN (a0a (pv 1)) a0c)))
 (a0X (a5D (cs := ["Grow"]) rfl H_fld_size (pv 0) (a0C (a03 rfl) rfl Z.len PySem.boot_len (a0q (a0t (pv 1)) a0z)))
 (a0X (a5D (cs := ["Grow"]) rfl H_fld_number (pv 0) (a0a (pv 2)))
 a15)))
theorem a6O : FnScope n_i_Put a4f (defScope a3Q) := ⟨rfl, rfl, rfl, by decide +kernel, rfl, by decide +kernel, by decide +kernel⟩
theorem ok_i_Put (L : a1V K mg cls "Put" "Put" "Put.__init__" a3Q a4f) (Z : Blt mg) (H_fld_numbers : ∀ c ∈ ["Put"], Cls K (cls c) ∧ NoAttr K (cls c) "numbers") (H_i_Deed : a1e P w K mg base ⟨K, cls⟩ 1 "Deed" "Deed" a1L a2f) : a1e P w K mg base ⟨K, cls⟩ 2 "Put" "Put" a4f i_Put :=
  a05 (k := 1) L a6O (by decide) fun f cdv A outer s H E hr =>
 (a0X (a2h H_i_Deed (hr.mono (by decide)) rfl (pv 0) (a0Y (a3T (js := [3]) (vars := [".0", "cell"]) (a1S 3) (by rfl) (by rfl) rfl (a4d rfl (a0a (pv 1))) (fun _ _ _ _ => (pbN a6O.nd rfl)) (fun _ _ _ _ => (a0y (padT (a0y a0c) (padT (a0y (padN (a0a (pv 3)) a0c)) a0c))))) a0c))
 (a0X (a5D (cs := ["Put"]) rfl H_fld_numbers (pv 0) (a6d (a3M rfl) rfl Z.tuple L3.a27 (padN (a0a (pv 2)) a0c)))
 a15))
theorem a7k : FnScope a8p a2L (defScope a2k) := ⟨rfl, rfl, rfl, by decide +kernel, rfl, by decide +kernel, by decide +kernel⟩
theorem a7r (L : a1V K mg cls "Still" "Still" "Still.__init__" a2k a2L) (Z : Blt mg) (H_i_Deed : a1e P w K mg base ⟨K, cls⟩ 1 "Deed" "Deed" a1L a2f) : a1e P w K mg base ⟨K, cls⟩ 2 "Still" "Still" a2L a6t :=
  a05 (k := 1) L a7k (by decide) fun f cdv A outer s H E hr =>
 (a0X (a2h H_i_Deed (hr.mono (by decide)) rfl (pv 0) (padB (pd_rep (a1p (padT (a0y (padT (a0y a0c) (padT (a0y a0c) a0c))) a0c)) (a0a (pv 1))) a0c))
 a15)
theorem a74 : FnScope n_i_Tick a3w (defScope a2T) := ⟨rfl, rfl, rfl, by decide +kernel, rfl, by decide +kernel, by decide +kernel⟩
theorem a8i (L : a1V K mg cls "Tick" "Tick" "Tick.__init__" a2T a3w) (Z : Blt mg) (H_i_Deed : a1e P w K mg base ⟨K, cls⟩ 1 "Deed" "Deed" a1L a2f) : a1e P w K mg base ⟨K, cls⟩ 2 "Tick" "Tick" a3w a8C :=
  a05 (k := 1) L a74 (by decide) fun f cdv A outer s H E hr =>
 (a0X (a2h H_i_Deed (hr.mono (by decide)) rfl (pv 0) (a0Y (a1p (padT (a0y (padT (a0y (padN (a0a (pv 1)) a0c)) (padT (a0y (padN (a0a (pv 1)) a0c)) a0c))) a0c)) a0c))
 a15)
theorem a4w : FnScope a48 a1t (defScope a07) := ⟨rfl, rfl, rfl, by decide +kernel, rfl, by decide +kernel, by decide +kernel⟩
theorem a4B (L : a1V K mg cls "Untouched" "Untouched" "Untouched.__init__" a07 a1t) (Z : Blt mg) (H_i_Promise : a1e P w K mg base ⟨K, cls⟩ 2 "Promise" "Promise" a1I a2o) : a1e P w K mg base ⟨K, cls⟩ 3 "Untouched" "Untouched" a1t a3m :=
  a05 (k := 2) L a4w (by decide) fun f cdv A outer s H E hr =>
 (a0X (a2h H_i_Promise (hr.mono (by decide)) rfl (pv 0) (a0Y (a1p a0c) a0c))
 a15)
theorem a2S : FnScope a8q a2M (defScope a2l) := ⟨rfl, rfl, rfl, by decide +kernel, rfl, by decide +kernel, by decide +kernel⟩
theorem a7s (L : Laid K mg "deed_of" a2l a2M) (Z : Blt mg) (H_cells_of : FnN P w K mg base ⟨K, cls⟩ 2 "cells_of" a12 a1r) (H_i_Anew : a1e P w K mg base ⟨K, cls⟩ 3 "Anew" "Anew" a3z a8F) (H_i_Comparing : a1e P w K mg base ⟨K, cls⟩ 3 "Comparing" "Comparing" a1u a3o) (H_i_Copy : a1e P w K mg base ⟨K, cls⟩ 2 "Copy" "Copy" a3y a8E) (H_i_Grow : a1e P w K mg base ⟨K, cls⟩ 3 "Grow" "Grow" a3x a8D) (H_i_Put : a1e P w K mg base ⟨K, cls⟩ 2 "Put" "Put" a4f i_Put) (H_i_Still : a1e P w K mg base ⟨K, cls⟩ 2 "Still" "Still" a2L a6t) (H_i_Tick : a1e P w K mg base ⟨K, cls⟩ 2 "Tick" "Tick" a3w a8C) (H_i_Untouched : a1e P w K mg base ⟨K, cls⟩ 3 "Untouched" "Untouched" a1t a3m) : FnN P w K mg base ⟨K, cls⟩ 5 "deed_of" a2M a3F :=
  a1T (k := 4) L a2S fun f cdv A outer s H E hr =>
 (a0e (psS (i := 2) a2S.nd rfl (a0x (ixd rfl) (a0a (pv 1)) a0f))
 (a0e (a0T (a0n a0V (a0a (pv 2)) a0H)
 (a0h (a0k (a3k H_i_Still (hr.mono (by decide)) rfl (padS (a0x (ixd rfl) (a0a (pv 1)) a0f) a0c))))
 a0r)
 (a0e (a0T (a0n a0V (a0a (pv 2)) a0H)
 (a0h (a0k (pd_make0 H_i_Untouched (hr.mono (by decide)) rfl)))
 a0r)
 (a0e (psS (i := 3) a2S.nd rfl (a1B H_cells_of (hr.mono (by first | decide | omega)) rfl (padN (a0a (pv 0)) (padS (a0x (ixd rfl) (a0a (pv 1)) a0f) a0c))))
 (a0e (a0T (a0n a0V (a0a (pv 2)) a0H)
 (a0w (i := 3) (a0h (a0k (a3k H_i_Put (hr.mono (by decide)) rfl (padN (a0a (pv 3)) (padS (a0x (ixd rfl) (a0a (pv 1)) a0f) a0c))))))
 a0r)
 (a0e (a0T (a0n a0V (a0a (pv 2)) a0H)
 (a0w (i := 3) (a0h (a0k (a3k H_i_Grow (hr.mono (by decide)) rfl (padN (a0a (pv 3)) (padS (a0x (ixd rfl) (a0a (pv 1)) a0f) a0c))))))
 a0r)
 (a0e (a0T (a0n a0V (a0a (pv 2)) a0H)
 (a0w (i := 3) (a0h (a0k (a3k H_i_Tick (hr.mono (by decide)) rfl (padS (a0x (ixd rfl) (a0a (pv 3)) a0f) a0c)))))
 a0r)
 (a0e (psS (i := 4) a2S.nd rfl (a1B H_cells_of (hr.mono (by first | decide | omega)) rfl (padN (a0a (pv 0)) (padS (a0x (ixd rfl) (a0a (pv 1)) a0f) a0c))))
 (a0e (a0T (a0n a0V (a0a (pv 2)) a0H)
 (a0w (i := 4) (a0w (i := 3) (a0h (a0k (a3k H_i_Copy (hr.mono (by decide)) rfl (padN (a0a (pv 3)) (padN (a0a (pv 4)) a0c)))))))
 a0r)
 (a0e (a0T (a0n a0V (a0a (pv 2)) a0H)
 (a0w (i := 4) (a0w (i := 3) (a0h (a0k (a3k H_i_Anew (hr.mono (by decide)) rfl (padN (a0a (pv 3)) (padN (a0a (pv 4)) (padS (a0x (ixd rfl) (a1B H_cells_of (hr.mono (by first | decide | omega)) rfl (padN (a0a (pv 0)) (padS (a0x (ixd rfl) (a0a (pv 1)) a0f) a0c))) a0f) a0c))))))))
 a0r)
 (a0w (i := 4) (a0w (i := 3) (a0h (a0k (a3k H_i_Comparing (hr.mono (by decide)) rfl (padN (a0a (pv 3)) (padN (a0a (pv 4)) a0c)))))))))))))))))
theorem a4X : FnScope a5P a1O (defScope a1n) := ⟨rfl, rfl, rfl, by decide +kernel, rfl, by decide +kernel, by decide +kernel⟩
theorem a45 (L : a55 K cls "reads" "Deed.reads" a1n a1O ["Deed", "Promise", "Comparing", "Untouched", "Still", "Put", "Copy", "Tick", "Handed", "Grow", "Anew"]) (Z : Blt mg) (H_fld_plan : ∀ c ∈ ["Deed", "Promise", "Comparing", "Untouched", "Still", "Put", "Copy", "Tick", "Handed", "Grow", "Anew"], Cls K (cls c) ∧ NoAttr K (cls c) "plan") : a5s P w K mg base ⟨K, cls⟩ 1 "reads" a1O a1Q ["Deed", "Promise", "Comparing", "Untouched", "Still", "Put", "Copy", "Tick", "Handed", "Grow", "Anew"] :=
  a4h (k := 0) L a4X fun f cdv A outer s H E hr =>
 (a0h (a0k (a6d (a8R rfl) rfl Z.list L3.a6F (padS (a0x (ixd rfl) (a0x (ixd rfl) (a8e (cs := ["Deed", "Promise", "Comparing", "Untouched", "Still", "Put", "Copy", "Tick", "Handed", "Grow", "Anew"]) rfl H_fld_plan (a0a (pv 0))) (a0a (pv 1))) a0f) a0c))))
theorem a4W : FnScope a5O a1N (defScope a1m) := ⟨rfl, rfl, rfl, by decide +kernel, rfl, by decide +kernel, by decide +kernel⟩
theorem a44 (L : a55 K cls "turns" "Deed.turns" a1m a1N ["Deed", "Promise", "Comparing", "Untouched", "Still", "Put", "Copy", "Tick", "Handed", "Grow", "Anew"]) (Z : Blt mg) (H_fld_plan : ∀ c ∈ ["Deed", "Promise", "Comparing", "Untouched", "Still", "Put", "Copy", "Tick", "Handed", "Grow", "Anew"], Cls K (cls c) ∧ NoAttr K (cls c) "plan") : a5s P w K mg base ⟨K, cls⟩ 1 "turns" a1N a1P ["Deed", "Promise", "Comparing", "Untouched", "Still", "Put", "Copy", "Tick", "Handed", "Grow", "Anew"] :=
  a4h (k := 0) L a4W fun f cdv A outer s H E hr =>
 (a0h (a0k (a0C (a03 rfl) rfl Z.len PySem.boot_len (a0q (PD.look (a8e (cs := ["Deed", "Promise", "Comparing", "Untouched", "Still", "Put", "Copy", "Tick", "Handed", "Grow", "Anew"]) rfl H_fld_plan (a0a (pv 0)))) a0z))))
theorem a4y : FnScope a5a a1v (defScope a09) := ⟨rfl, rfl, rfl, by decide +kernel, rfl, by decide +kernel, by decide +kernel⟩
theorem a4D (L : a55 K cls "writes" "Deed.writes" a09 a1v ["Deed", "Promise", "Comparing", "Untouched", "Still", "Put", "Copy", "Tick", "Handed", "Grow", "Anew"]) (Z : Blt mg) (H_fld_plan : ∀ c ∈ ["Deed", "Promise", "Comparing", "Untouched", "Still", "Put", "Copy", "Tick", "Handed", "Grow", "Anew"], Cls K (cls c) ∧ NoAttr K (cls c) "plan") : a5s P w K mg base ⟨K, cls⟩ 1 "writes" a1v a1y ["Deed", "Promise", "Comparing", "Untouched", "Still", "Put", "Copy", "Tick", "Handed", "Grow", "Anew"] :=
  a4h (k := 0) L a4y fun f cdv A outer s H E hr =>
 (a0h (a0k (a6d (a8R rfl) rfl Z.list L3.a6F (padS (a0x (ixd rfl) (a0x (ixd rfl) (a8e (cs := ["Deed", "Promise", "Comparing", "Untouched", "Still", "Put", "Copy", "Tick", "Handed", "Grow", "Anew"]) rfl H_fld_plan (a0a (pv 0))) (a0a (pv 1))) a0f) a0c))))
theorem a1h : FnScope a7t a2m (defScope a1W) := ⟨rfl, rfl, rfl, by decide +kernel, rfl, by decide +kernel, by decide +kernel⟩
theorem a6g (L : Laid K mg "turns_at" a1W a2m) (Z : Blt mg) (H_cells_of : FnN P w K mg base ⟨K, cls⟩ 2 "cells_of" a12 a1r) (H_deed_of : FnN P w K mg base ⟨K, cls⟩ 5 "deed_of" a2M a3F) (H_Deed_reads : a5s P w K mg base ⟨K, cls⟩ 1 "reads" a1O a1Q ["Deed", "Promise", "Comparing", "Untouched", "Still", "Put", "Copy", "Tick", "Handed", "Grow", "Anew"]) (H_Deed_turns : a5s P w K mg base ⟨K, cls⟩ 1 "turns" a1N a1P ["Deed", "Promise", "Comparing", "Untouched", "Still", "Put", "Copy", "Tick", "Handed", "Grow", "Anew"]) (H_Deed_writes : a5s P w K mg base ⟨K, cls⟩ 1 "writes" a1v a1y ["Deed", "Promise", "Comparing", "Untouched", "Still", "Put", "Copy", "Tick", "Handed", "Grow", "Anew"]) : FnN P w K mg base ⟨K, cls⟩ 6 "turns_at" a2m a2p :=
  a1T (k := 5) L a1h fun f cdv A outer s H E hr =>
 (a0e (psS (i := 4) a1h.nd rfl (a1B H_deed_of (hr.mono (by first | decide | omega)) rfl (padN (a0a (pv 0)) (padN (a0a (pv 1)) a0c))))
 (a0e (psS (i := 5) a1h.nd rfl (a1B H_cells_of (hr.mono (by first | decide | omega)) rfl (padN (a0a (pv 0)) (padN (a0a (pv 2)) a0c))))
 (a0e (psS (i := 6) a1h.nd rfl (a1p a0c))
 (a0w (i := 4) (a0e (a4c PassesOwn.never rfl (a1o rfl Z.range (pd_meth0 (tb := a37) (a4U H_Deed_turns (hr.mono (by decide)) a58) (a0a (pv 4)))) (pbN a1h.nd rfl)
 (a0w (i := 4) (a0e (psS (i := 8) a1h.nd rfl (a0E (a0I rfl) (a8d (tb := a13) (a4U H_Deed_writes (hr.mono (by decide)) a58) (a0a (pv 4)) (padN (a0a (pv 7)) a0c)) (pd_ifExp (a2u (a0a (pv 3))) (a8d (tb := a2s) (a4U H_Deed_reads (hr.mono (by decide)) a58) (a0a (pv 4)) (padN (a0a (pv 7)) a0c)) (a1p a0c))))
 (a0w (i := 8) (a0w (i := 5) (a0h (a0T (a2u (a8f (cd_any rfl rfl) rfl Z.any L3.bt_any (a0Y (a3T (js := [9]) (vars := [".0", "cell"]) (a1S 9) (by rfl) (by rfl) rfl (a4d rfl (a0a (pv 8))) (fun _ _ _ _ => (pbN a1h.nd rfl)) (fun _ _ _ _ => (pd_cmp (opd_in rfl) (a0a (pv 9)) (a0a (pv 5)) (by with_unfolding_all rfl)))) a0c)))
 (a0h (a3S (i := 6) (pv 6) (a0a (pv 7))))
 a0r)))))))
 (a0w (i := 6) (a0h (a0k (a0a (pv 6))))))))))
theorem a38 : FnScope n_spans a4e (defScope a3P) := ⟨rfl, rfl, rfl, by decide +kernel, rfl, by decide +kernel, by decide +kernel⟩
theorem ok_spans (L : Laid K mg "spans" a3P a4e) (Z : Blt mg) (H_turns_at : FnN P w K mg base ⟨K, cls⟩ 6 "turns_at" a2m a2p) : FnN P w K mg base ⟨K, cls⟩ 7 "spans" a4e a3p :=
  a1T (k := 6) L a38 fun f cdv A outer s H E hr =>
 (a0e (psS (i := 2) a38.nd rfl (a1p a0c))
 (a0e (a4c PassesOwn.never rfl (a1o rfl Z.range (a0C (a03 rfl) rfl Z.len PySem.boot_len (a0q (a0t (pv 0)) a0z))) (pbN a38.nd rfl)
 (a0e (psS (i := 4) a38.nd rfl (a1B H_turns_at (hr.mono (by first | decide | omega)) rfl (padN (a0a (pv 0)) (padN (a0a (pv 1)) (padN (a0a (pv 3)) (padC a6f a0c))))))
 (a0h (a0T (PWD.pt (a3i (a0n a8h (a0C (a03 rfl) rfl Z.len PySem.boot_len (a0q (a0t (pv 4)) a0z)) a0f) (a3v (PWD.pt (a3Z (a0n a4g (a0x (ixd rfl) (a0a (pv 1)) a0f) a0H) (a3R (a0n a0V (a0a (pv 3)) (a0x (ixd rfl) (a0a (pv 1)) a0f))))))))
 (a0w (i := 4) (a0h (a3S (i := 2) (pv 2) (a0y (padN (a0a (pv 3)) (padS (a0x (ixd rfl) (a0a (pv 4)) a0f) (padS (a0x (ixd rfl) (a0a (pv 4)) pd_neg) a0c)))))))
 a0r))))
 (a0h (psd_retV (i := 2) (pv 2)))))
theorem a4H : FnScope n_law p_law (defScope a59) := ⟨rfl, rfl, rfl, by decide +kernel, rfl, by decide +kernel, by decide +kernel⟩
theorem ok_law {f : Addr} {fd : FuncData} (L : Fun K "law" "law" a59 f fd) (Z : Blt mg) (H_law_alike : FnN P w K mg base ⟨K, cls⟩ 2 "_law_alike" a18 a00) (H_law_boxes : FnN P w K mg base ⟨K, cls⟩ 3 "_law_boxes" a17 a2A) (H_law_deed : FnN P w K mg base ⟨K, cls⟩ 3 "_law_deed" a2n a2r) (H_law_spanned : FnN P w K mg base ⟨K, cls⟩ 1 "_law_spanned" a1s a1x) (H_spans : FnN P w K mg base ⟨K, cls⟩ 7 "spans" a4e a3p) : FnOk P w K mg base CX0 8 f fd p_law (spD ⟨K, cls⟩ W0 f_law) :=
  fn_D (k := 7) L a4H fun cdv A outer s H E hr =>
 (a0e (psS (i := 1) a4H.nd rfl (a1B H_law_boxes (hr.mono (by first | decide | omega)) rfl (padN (a0a (pv 0)) a0c)))
 (a0e (a4c PassesOwn.never rfl (a1o rfl Z.range (a0E (a0I rfl) (a8f (cd_min2 rfl) rfl Z.min L3.bt_min (padK (a0C (a03 rfl) rfl Z.len PySem.boot_len (a0q (a0t (pv 0)) a0z)) (padC a0f a0c))) a0f)) (pbN a4H.nd rfl)
 (a0e (psS (i := 3) a4H.nd rfl (a1B H_law_deed (hr.mono (by first | decide | omega)) rfl (padN (a0a (pv 1)) (padN (a0a (pv 0)) (padB (a0E (a0I rfl) a0f (a0E a2v a0f (a0a (pv 2)))) a0c)))))
 (a0e (psS (i := 4) a4H.nd rfl (a1B H_law_spanned (hr.mono (by first | decide | omega)) rfl (padN (a0a (pv 1)) (padN (a0a (pv 3)) a0c))))
 (a0e (psS (i := 5) a4H.nd rfl (a1B H_spans (hr.mono (by first | decide | omega)) rfl (padN (a0a (pv 1)) (padN (a0a (pv 3)) a0c))))
 (a0e (a0T (a3j (a2u (pd_fnB H_law_alike (hr.mono (by first | decide | omega)) rfl (a0q (a0t (pv 5)) (a0q (a0t (pv 4)) a0z)))))
 (a0h (a0k a6f))
 a0r)
 (a0e (a8c (i := 5) (pv 5))
 (a0h (a0T (a3j (a2u (pd_fnB H_law_alike (hr.mono (by first | decide | omega)) rfl (a0q (PD.look (a1B H_spans (hr.mono (by first | decide | omega)) rfl (padN (a0a (pv 1)) (padN (a0a (pv 3)) a0c)))) (a0q (a0t (pv 4)) a0z)))))
 (a0h (a0k a6f))
 a0r))))))))
 (a0h (a0k a6f))))
theorem ok_all (T : Defs K mg cls) (Z : Blt mg) {f : Addr} {fd : FuncData} (L : Fun K "law" "law" a59 f fd) : FnOk P w K mg base CX0 8 f fd p_law (spD ⟨K, cls⟩ W0 f_law) := by
  have h_law_whole := @a5J P w K mg base cls T.L_law_whole Z
  have h_law_alike := @a5L P w K mg base cls T.L_law_alike Z h_law_whole
  have h_law_draw := @a6h P w K mg base cls T.L_law_draw Z
  have h_law_number := @a43 P w K mg base cls T.L_law_number Z h_law_draw
  have h_law_boxes := @a5K P w K mg base cls T.L_law_boxes Z h_law_draw h_law_number
  have h_law_deed := @a6i P w K mg base cls T.L_law_deed Z h_law_draw h_law_number
  have h_law_spanned := @a4A P w K mg base cls T.L_law_spanned Z
  have h_size_of := @a7q P w K mg base cls T.L_size_of Z
  have h_cells_of := @a6k P w K mg base cls T.L_cells_of Z h_size_of
  have h_i_Deed := @a8k P w K mg base cls T.L_i_Deed Z T.fld_plan
  have h_i_Handed := @a6j P w K mg base cls T.L_i_Handed Z h_i_Deed
  have h_i_Anew := @a8m P w K mg base cls T.L_i_Anew Z T.fld_check h_i_Handed
  have h_i_Promise := @a5M P w K mg base cls T.L_i_Promise Z h_i_Deed
  have h_i_Comparing := @a4C P w K mg base cls T.L_i_Comparing Z h_i_Promise
  have h_i_Copy := @a8l P w K mg base cls T.L_i_Copy Z h_i_Deed
  have h_i_Grow := @a8j P w K mg base cls T.L_i_Grow Z T.fld_number T.fld_size h_i_Handed
  have h_i_Put := @ok_i_Put P w K mg base cls T.L_i_Put Z T.fld_numbers h_i_Deed
  have h_i_Still := @a7r P w K mg base cls T.L_i_Still Z h_i_Deed
  have h_i_Tick := @a8i P w K mg base cls T.L_i_Tick Z h_i_Deed
  have h_i_Untouched := @a4B P w K mg base cls T.L_i_Untouched Z h_i_Promise
  have h_deed_of := @a7s P w K mg base cls T.L_deed_of Z h_cells_of h_i_Anew h_i_Comparing h_i_Copy h_i_Grow h_i_Put h_i_Still h_i_Tick h_i_Untouched
  have h_Deed_reads := @a45 P w K mg base cls T.L_Deed_reads Z T.fld_plan
  have h_Deed_turns := @a44 P w K mg base cls T.L_Deed_turns Z T.fld_plan
  have h_Deed_writes := @a4D P w K mg base cls T.L_Deed_writes Z T.fld_plan
  have h_turns_at := @a6g P w K mg base cls T.L_turns_at Z h_cells_of h_deed_of h_Deed_reads h_Deed_turns h_Deed_writes
  have h_spans := @ok_spans P w K mg base cls T.L_spans Z h_turns_at
  exact ok_law L Z h_law_alike h_law_boxes h_law_deed h_law_spanned h_spans
end
unseal PySem.wpAny
theorem walk {l : PySem.W.OpenLaw} {q : Program} {loose : List Str} {XP : (Str → Option Value) → Heap → Prop} {YP : World → Heap → Prop} {d : DefRec} {K : Params → PySem.W.Frag} (T : ∀ ns : List Int, ns.length ≤ 63 → f_law [.lst (ns.map D.int)] = some (.ok (.sh (.bl true)))) (hn : l.most = some 63) (hdf : d.params.defaults = []) (hdn : d.name = "law")
    (hY : ∀ (w : World) (h : Heap), YP w h → (K w.params).In h) (F : ∀ (w : World) (mg : Str → Option Value) (h : Heap), (K w.params).In h → h.Ns mainGlobals mg → (∃ cls, Defs (K w.params) mg cls) ∧ Blt mg) : PySem.W.WalkO q loose XP YP l.row.toRowW d [] (fun f vs => PySem.call f vs) :=
  law_walk (k := 8) (x := "_law_script") (by decide) hn hdf hY fun w mg fa h KX G hm => by
    obtain ⟨⟨cls, T1⟩, Z⟩ := F w mg h KX G
    obtain ⟨f, fd, Fl, hm2, _⟩ := T1.L_law.ex
    rw [hdn, hm2] at hm
    cases hm
    obtain ⟨oc, od, kV, doc, pm, an, cdv, ct, osl, e, _⟩ := id Fl.ex
    exact ⟨fd, fun s u => by rw [e]; exact .of_eq rfl, fun base => law_sp (cls := cls) (ok_all T1 Z Fl) T⟩
set_option maxHeartbeats 0 in
theorem defs_mk {K : PySem.W.Frag} {h : Heap} {mg : Str → Option Value} (X : K.In h) (G : h.Ns mainGlobals mg)
    {C0 C1 C2 C3 C4 C5 C6 C7 C8 C9 C10 : Addr}
    {g0 : Addr} {oc0 : Value} {od0 an0 : Option Addr} {sl0 : Array (Option Value)} {kV0 dc0 pm0 cd0 ct0 : Value}
    {g1 : Addr} {oc1 : Value} {od1 an1 : Option Addr} {sl1 : Array (Option Value)} {kV1 dc1 pm1 cd1 ct1 : Value}
    {g2 : Addr} {oc2 : Value} {od2 an2 : Option Addr} {sl2 : Array (Option Value)} {kV2 dc2 pm2 cd2 ct2 : Value}
    {g3 : Addr} {oc3 : Value} {od3 an3 : Option Addr} {sl3 : Array (Option Value)} {kV3 dc3 pm3 cd3 ct3 : Value}
    {g4 : Addr} {oc4 : Value} {od4 an4 : Option Addr} {sl4 : Array (Option Value)} {kV4 dc4 pm4 cd4 ct4 : Value}
    {g5 : Addr} {oc5 : Value} {od5 an5 : Option Addr} {sl5 : Array (Option Value)} {kV5 dc5 pm5 cd5 ct5 : Value}
    {g6 : Addr} {oc6 : Value} {od6 an6 : Option Addr} {sl6 : Array (Option Value)} {kV6 dc6 pm6 cd6 ct6 : Value}
    {g7 : Addr} {oc7 : Value} {od7 an7 : Option Addr} {sl7 : Array (Option Value)} {kV7 dc7 pm7 cd7 ct7 : Value}
    {g8 : Addr} {oc8 : Value} {od8 an8 : Option Addr} {sl8 : Array (Option Value)} {kV8 dc8 pm8 cd8 ct8 : Value}
    {g9 : Addr} {oc9 : Value} {od9 an9 : Option Addr} {sl9 : Array (Option Value)} {kV9 dc9 pm9 cd9 ct9 : Value}
    {g10 : Addr} {oc10 : Value} {od10 an10 : Option Addr} {sl10 : Array (Option Value)} {kV10 dc10 pm10 cd10 ct10 : Value}
    {g11 : Addr} {oc11 : Value} {od11 an11 : Option Addr} {sl11 : Array (Option Value)} {kV11 dc11 pm11 cd11 ct11 : Value}
    {g12 : Addr} {oc12 : Value} {od12 an12 : Option Addr} {sl12 : Array (Option Value)} {kV12 dc12 pm12 cd12 ct12 : Value}
    {g13 : Addr} {oc13 : Value} {od13 an13 : Option Addr} {sl13 : Array (Option Value)} {kV13 dc13 pm13 cd13 ct13 : Value}
    {g14 : Addr} {oc14 : Value} {od14 an14 : Option Addr} {sl14 : Array (Option Value)} {kV14 dc14 pm14 cd14 ct14 : Value}
    {g15 : Addr} {oc15 : Value} {od15 an15 : Option Addr} {sl15 : Array (Option Value)} {kV15 dc15 pm15 cd15 ct15 : Value}
    {g16 : Addr} {oc16 : Value} {od16 an16 : Option Addr} {sl16 : Array (Option Value)} {kV16 dc16 pm16 cd16 ct16 : Value}
    {g17 : Addr} {oc17 : Value} {od17 an17 : Option Addr} {sl17 : Array (Option Value)} {kV17 dc17 pm17 cd17 ct17 : Value}
    {g18 : Addr} {oc18 : Value} {od18 an18 : Option Addr} {sl18 : Array (Option Value)} {kV18 dc18 pm18 cd18 ct18 : Value}
    {g19 : Addr} {oc19 : Value} {od19 an19 : Option Addr} {sl19 : Array (Option Value)} {kV19 dc19 pm19 cd19 ct19 : Value}
    {g20 : Addr} {oc20 : Value} {od20 an20 : Option Addr} {sl20 : Array (Option Value)} {kV20 dc20 pm20 cd20 ct20 : Value}
    {g21 : Addr} {oc21 : Value} {od21 an21 : Option Addr} {sl21 : Array (Option Value)} {kV21 dc21 pm21 cd21 ct21 : Value}
    {g22 : Addr} {oc22 : Value} {od22 an22 : Option Addr} {sl22 : Array (Option Value)} {kV22 dc22 pm22 cd22 ct22 : Value}
    {g23 : Addr} {oc23 : Value} {od23 an23 : Option Addr} {sl23 : Array (Option Value)} {kV23 dc23 pm23 cd23 ct23 : Value}
    {g24 : Addr} {oc24 : Value} {od24 an24 : Option Addr} {sl24 : Array (Option Value)} {kV24 dc24 pm24 cd24 ct24 : Value}
    {g25 : Addr} {oc25 : Value} {od25 an25 : Option Addr} {sl25 : Array (Option Value)} {kV25 dc25 pm25 cd25 ct25 : Value}
    {g26 : Addr} {oc26 : Value} {od26 an26 : Option Addr} {sl26 : Array (Option Value)} {kV26 dc26 pm26 cd26 ct26 : Value}
    (ca0 : PySem.W.nsIn K mainGlobals "Deed" = some (some (.ref C0)))
    (cp0 : PySem.W.plainGet K C0 Str.empty = true)
    (ch0 : PySem.W.hasDictIn K C0 = true)
    (co0 : PySem.W.plainOver K C0 = true)
    (cs0 : PySem.W.findIn K (.ref C0) "__setattr__" = some (some (.builtin "object.__setattr__")))
    (ca1 : PySem.W.nsIn K mainGlobals "Promise" = some (some (.ref C1)))
    (cp1 : PySem.W.plainGet K C1 Str.empty = true)
    (ch1 : PySem.W.hasDictIn K C1 = true)
    (co1 : PySem.W.plainOver K C1 = true)
    (cs1 : PySem.W.findIn K (.ref C1) "__setattr__" = some (some (.builtin "object.__setattr__")))
    (ca2 : PySem.W.nsIn K mainGlobals "Comparing" = some (some (.ref C2)))
    (cp2 : PySem.W.plainGet K C2 Str.empty = true)
    (ch2 : PySem.W.hasDictIn K C2 = true)
    (co2 : PySem.W.plainOver K C2 = true)
    (cs2 : PySem.W.findIn K (.ref C2) "__setattr__" = some (some (.builtin "object.__setattr__")))
    (ca3 : PySem.W.nsIn K mainGlobals "Untouched" = some (some (.ref C3)))
    (cp3 : PySem.W.plainGet K C3 Str.empty = true)
    (ch3 : PySem.W.hasDictIn K C3 = true)
    (co3 : PySem.W.plainOver K C3 = true)
    (cs3 : PySem.W.findIn K (.ref C3) "__setattr__" = some (some (.builtin "object.__setattr__")))
    (ca4 : PySem.W.nsIn K mainGlobals "Still" = some (some (.ref C4)))
    (cp4 : PySem.W.plainGet K C4 Str.empty = true)
    (ch4 : PySem.W.hasDictIn K C4 = true)
    (co4 : PySem.W.plainOver K C4 = true)
    (cs4 : PySem.W.findIn K (.ref C4) "__setattr__" = some (some (.builtin "object.__setattr__")))
    (ca5 : PySem.W.nsIn K mainGlobals "Put" = some (some (.ref C5)))
    (cp5 : PySem.W.plainGet K C5 Str.empty = true)
    (ch5 : PySem.W.hasDictIn K C5 = true)
    (co5 : PySem.W.plainOver K C5 = true)
    (cs5 : PySem.W.findIn K (.ref C5) "__setattr__" = some (some (.builtin "object.__setattr__")))
    (ca6 : PySem.W.nsIn K mainGlobals "Copy" = some (some (.ref C6)))
    (cp6 : PySem.W.plainGet K C6 Str.empty = true)
    (ch6 : PySem.W.hasDictIn K C6 = true)
    (co6 : PySem.W.plainOver K C6 = true)
    (cs6 : PySem.W.findIn K (.ref C6) "__setattr__" = some (some (.builtin "object.__setattr__")))
    (ca7 : PySem.W.nsIn K mainGlobals "Tick" = some (some (.ref C7)))
    (cp7 : PySem.W.plainGet K C7 Str.empty = true)
    (ch7 : PySem.W.hasDictIn K C7 = true)
    (co7 : PySem.W.plainOver K C7 = true)
    (cs7 : PySem.W.findIn K (.ref C7) "__setattr__" = some (some (.builtin "object.__setattr__")))
    (ca8 : PySem.W.nsIn K mainGlobals "Handed" = some (some (.ref C8)))
    (cp8 : PySem.W.plainGet K C8 Str.empty = true)
    (ch8 : PySem.W.hasDictIn K C8 = true)
    (co8 : PySem.W.plainOver K C8 = true)
    (cs8 : PySem.W.findIn K (.ref C8) "__setattr__" = some (some (.builtin "object.__setattr__")))
    (ca9 : PySem.W.nsIn K mainGlobals "Grow" = some (some (.ref C9)))
    (cp9 : PySem.W.plainGet K C9 Str.empty = true)
    (ch9 : PySem.W.hasDictIn K C9 = true)
    (co9 : PySem.W.plainOver K C9 = true)
    (cs9 : PySem.W.findIn K (.ref C9) "__setattr__" = some (some (.builtin "object.__setattr__")))
    (ca10 : PySem.W.nsIn K mainGlobals "Anew" = some (some (.ref C10)))
    (cp10 : PySem.W.plainGet K C10 Str.empty = true)
    (ch10 : PySem.W.hasDictIn K C10 = true)
    (co10 : PySem.W.plainOver K C10 = true)
    (cs10 : PySem.W.findIn K (.ref C10) "__setattr__" = some (some (.builtin "object.__setattr__")))
    (a0 : PySem.W.nsIn K mainGlobals "_law_whole" = some (some (.ref g0)))
    (l0 : K.lookup g0 = some ⟨oc0, od0, .func (PySem.W.fnOf "_law_whole" "_law_whole" (defArgs a1D) (defBody a1D) (defScope a1D) .none kV0 dc0 pm0 an0 cd0 ct0), sl0⟩)
    (c0 : PySem.W.codeIn K cd0 "_law_whole" = true)
    (k0 : PySem.W.keepIn K (.ref g0) = true)
    (a1 : PySem.W.nsIn K mainGlobals "_law_alike" = some (some (.ref g1)))
    (l1 : K.lookup g1 = some ⟨oc1, od1, .func (PySem.W.fnOf "_law_alike" "_law_alike" (defArgs a1F) (defBody a1F) (defScope a1F) .none kV1 dc1 pm1 an1 cd1 ct1), sl1⟩)
    (c1 : PySem.W.codeIn K cd1 "_law_alike" = true)
    (k1 : PySem.W.keepIn K (.ref g1) = true)
    (a2 : PySem.W.nsIn K mainGlobals "_law_draw" = some (some (.ref g2)))
    (l2 : K.lookup g2 = some ⟨oc2, od2, .func (PySem.W.fnOf "_law_draw" "_law_draw" (defArgs a1X) (defBody a1X) (defScope a1X) .none kV2 dc2 pm2 an2 cd2 ct2), sl2⟩)
    (c2 : PySem.W.codeIn K cd2 "_law_draw" = true)
    (k2 : PySem.W.keepIn K (.ref g2) = true)
    (a3 : PySem.W.nsIn K mainGlobals "_law_number" = some (some (.ref g3)))
    (l3 : K.lookup g3 = some ⟨oc3, od3, .func (PySem.W.fnOf "_law_number" "_law_number" (defArgs a1l) (defBody a1l) (defScope a1l) .none kV3 dc3 pm3 an3 cd3 ct3), sl3⟩)
    (c3 : PySem.W.codeIn K cd3 "_law_number" = true)
    (k3 : PySem.W.keepIn K (.ref g3) = true)
    (a4 : PySem.W.nsIn K mainGlobals "_law_boxes" = some (some (.ref g4)))
    (l4 : K.lookup g4 = some ⟨oc4, od4, .func (PySem.W.fnOf "_law_boxes" "_law_boxes" (defArgs a1E) (defBody a1E) (defScope a1E) .none kV4 dc4 pm4 an4 cd4 ct4), sl4⟩)
    (c4 : PySem.W.codeIn K cd4 "_law_boxes" = true)
    (k4 : PySem.W.keepIn K (.ref g4) = true)
    (a5 : PySem.W.nsIn K mainGlobals "_law_deed" = some (some (.ref g5)))
    (l5 : K.lookup g5 = some ⟨oc5, od5, .func (PySem.W.fnOf "_law_deed" "_law_deed" (defArgs a1Y) (defBody a1Y) (defScope a1Y) .none kV5 dc5 pm5 an5 cd5 ct5), sl5⟩)
    (c5 : PySem.W.codeIn K cd5 "_law_deed" = true)
    (k5 : PySem.W.keepIn K (.ref g5) = true)
    (a6 : PySem.W.nsIn K mainGlobals "_law_spanned" = some (some (.ref g6)))
    (l6 : K.lookup g6 = some ⟨oc6, od6, .func (PySem.W.fnOf "_law_spanned" "_law_spanned" (defArgs a06) (defBody a06) (defScope a06) .none kV6 dc6 pm6 an6 cd6 ct6), sl6⟩)
    (c6 : PySem.W.codeIn K cd6 "_law_spanned" = true)
    (k6 : PySem.W.keepIn K (.ref g6) = true)
    (a7 : PySem.W.nsIn K mainGlobals "size_of" = some (some (.ref g7)))
    (l7 : K.lookup g7 = some ⟨oc7, od7, .func (PySem.W.fnOf "size_of" "size_of" (defArgs a2j) (defBody a2j) (defScope a2j) .none kV7 dc7 pm7 an7 cd7 ct7), sl7⟩)
    (c7 : PySem.W.codeIn K cd7 "size_of" = true)
    (k7 : PySem.W.keepIn K (.ref g7) = true)
    (a8 : PySem.W.nsIn K mainGlobals "cells_of" = some (some (.ref g8)))
    (l8 : K.lookup g8 = some ⟨oc8, od8, .func (PySem.W.fnOf "cells_of" "cells_of" (defArgs a10) (defBody a10) (defScope a10) .none kV8 dc8 pm8 an8 cd8 ct8), sl8⟩)
    (c8 : PySem.W.codeIn K cd8 "cells_of" = true)
    (k8 : PySem.W.keepIn K (.ref g8) = true)
    (f9 : PySem.W.findIn K (.ref C0) "__init__" = some (some (.ref g9)))
    (l9 : K.lookup g9 = some ⟨oc9, od9, .func (PySem.W.fnOf "__init__" "Deed.__init__" (defArgs a2V) (defBody a2V) (defScope a2V) .none kV9 dc9 pm9 an9 cd9 ct9), sl9⟩)
    (c9 : PySem.W.codeIn K cd9 "Deed.__init__" = true)
    (k9 : PySem.W.keepIn K (.ref g9) = true)
    (i9 : PySem.W.isFn K (.ref g9) = true)
    (m9 : PySem.W.makesIn K C0 = true)
    (n9 : PySem.W.keepIn K (.ref C0) = true)
    (o9 : PySem.W.findCls K (.ref C0) (.type "type") "__init__" = some (.val (.ref g9)))
    (q9 : PySem.W.specialIn K (.ref C0) "__getattribute__" = some (some (.builtin "type.__getattribute__")))
    (r9 : PySem.W.readsIn K C0 (.type "type") = true)
    (f10 : PySem.W.findIn K (.ref C8) "__init__" = some (some (.ref g10)))
    (l10 : K.lookup g10 = some ⟨oc10, od10, .func (PySem.W.fnOf "__init__" "Handed.__init__" (defArgs a1Z) (defBody a1Z) (defScope a1Z) .none kV10 dc10 pm10 an10 cd10 ct10), sl10⟩)
    (c10 : PySem.W.codeIn K cd10 "Handed.__init__" = true)
    (k10 : PySem.W.keepIn K (.ref g10) = true)
    (i10 : PySem.W.isFn K (.ref g10) = true)
    (m10 : PySem.W.makesIn K C8 = true)
    (n10 : PySem.W.keepIn K (.ref C8) = true)
    (o10 : PySem.W.findCls K (.ref C8) (.type "type") "__init__" = some (.val (.ref g10)))
    (q10 : PySem.W.specialIn K (.ref C8) "__getattribute__" = some (some (.builtin "type.__getattribute__")))
    (r10 : PySem.W.readsIn K C8 (.type "type") = true)
    (f11 : PySem.W.findIn K (.ref C10) "__init__" = some (some (.ref g11)))
    (l11 : K.lookup g11 = some ⟨oc11, od11, .func (PySem.W.fnOf "__init__" "Anew.__init__" (defArgs a2X) (defBody a2X) (defScope a2X) .none kV11 dc11 pm11 an11 cd11 ct11), sl11⟩)
    (c11 : PySem.W.codeIn K cd11 "Anew.__init__" = true)
    (k11 : PySem.W.keepIn K (.ref g11) = true)
    (i11 : PySem.W.isFn K (.ref g11) = true)
    (m11 : PySem.W.makesIn K C10 = true)
    (n11 : PySem.W.keepIn K (.ref C10) = true)
    (o11 : PySem.W.findCls K (.ref C10) (.type "type") "__init__" = some (.val (.ref g11)))
    (q11 : PySem.W.specialIn K (.ref C10) "__getattribute__" = some (some (.builtin "type.__getattribute__")))
    (r11 : PySem.W.readsIn K C10 (.type "type") = true)
    (f12 : PySem.W.findIn K (.ref C1) "__init__" = some (some (.ref g12)))
    (l12 : K.lookup g12 = some ⟨oc12, od12, .func (PySem.W.fnOf "__init__" "Promise.__init__" (defArgs a1G) (defBody a1G) (defScope a1G) .none kV12 dc12 pm12 an12 cd12 ct12), sl12⟩)
    (c12 : PySem.W.codeIn K cd12 "Promise.__init__" = true)
    (k12 : PySem.W.keepIn K (.ref g12) = true)
    (i12 : PySem.W.isFn K (.ref g12) = true)
    (m12 : PySem.W.makesIn K C1 = true)
    (n12 : PySem.W.keepIn K (.ref C1) = true)
    (o12 : PySem.W.findCls K (.ref C1) (.type "type") "__init__" = some (.val (.ref g12)))
    (q12 : PySem.W.specialIn K (.ref C1) "__getattribute__" = some (some (.builtin "type.__getattribute__")))
    (r12 : PySem.W.readsIn K C1 (.type "type") = true)
    (f13 : PySem.W.findIn K (.ref C2) "__init__" = some (some (.ref g13)))
    (l13 : K.lookup g13 = some ⟨oc13, od13, .func (PySem.W.fnOf "__init__" "Comparing.__init__" (defArgs a08) (defBody a08) (defScope a08) .none kV13 dc13 pm13 an13 cd13 ct13), sl13⟩)
    (c13 : PySem.W.codeIn K cd13 "Comparing.__init__" = true)
    (k13 : PySem.W.keepIn K (.ref g13) = true)
    (i13 : PySem.W.isFn K (.ref g13) = true)
    (m13 : PySem.W.makesIn K C2 = true)
    (n13 : PySem.W.keepIn K (.ref C2) = true)
    (o13 : PySem.W.findCls K (.ref C2) (.type "type") "__init__" = some (.val (.ref g13)))
    (q13 : PySem.W.specialIn K (.ref C2) "__getattribute__" = some (some (.builtin "type.__getattribute__")))
    (r13 : PySem.W.readsIn K C2 (.type "type") = true)
    (f14 : PySem.W.findIn K (.ref C6) "__init__" = some (some (.ref g14)))
    (l14 : K.lookup g14 = some ⟨oc14, od14, .func (PySem.W.fnOf "__init__" "Copy.__init__" (defArgs a2W) (defBody a2W) (defScope a2W) .none kV14 dc14 pm14 an14 cd14 ct14), sl14⟩)
    (c14 : PySem.W.codeIn K cd14 "Copy.__init__" = true)
    (k14 : PySem.W.keepIn K (.ref g14) = true)
    (i14 : PySem.W.isFn K (.ref g14) = true)
    (m14 : PySem.W.makesIn K C6 = true)
    (n14 : PySem.W.keepIn K (.ref C6) = true)
    (o14 : PySem.W.findCls K (.ref C6) (.type "type") "__init__" = some (.val (.ref g14)))
    (q14 : PySem.W.specialIn K (.ref C6) "__getattribute__" = some (some (.builtin "type.__getattribute__")))
    (r14 : PySem.W.readsIn K C6 (.type "type") = true)
    (f15 : PySem.W.findIn K (.ref C9) "__init__" = some (some (.ref g15)))
    (l15 : K.lookup g15 = some ⟨oc15, od15, .func (PySem.W.fnOf "__init__" "Grow.__init__" (defArgs a2U) (defBody a2U) (defScope a2U) .none kV15 dc15 pm15 an15 cd15 ct15), sl15⟩)
    (c15 : PySem.W.codeIn K cd15 "Grow.__init__" = true)
    (k15 : PySem.W.keepIn K (.ref g15) = true)
    (i15 : PySem.W.isFn K (.ref g15) = true)
    (m15 : PySem.W.makesIn K C9 = true)
    (n15 : PySem.W.keepIn K (.ref C9) = true)
    (o15 : PySem.W.findCls K (.ref C9) (.type "type") "__init__" = some (.val (.ref g15)))
    (q15 : PySem.W.specialIn K (.ref C9) "__getattribute__" = some (some (.builtin "type.__getattribute__")))
    (r15 : PySem.W.readsIn K C9 (.type "type") = true)
    (f16 : PySem.W.findIn K (.ref C5) "__init__" = some (some (.ref g16)))
    (l16 : K.lookup g16 = some ⟨oc16, od16, .func (PySem.W.fnOf "__init__" "Put.__init__" (defArgs a3Q) (defBody a3Q) (defScope a3Q) .none kV16 dc16 pm16 an16 cd16 ct16), sl16⟩)
    (c16 : PySem.W.codeIn K cd16 "Put.__init__" = true)
    (k16 : PySem.W.keepIn K (.ref g16) = true)
    (i16 : PySem.W.isFn K (.ref g16) = true)
    (m16 : PySem.W.makesIn K C5 = true)
    (n16 : PySem.W.keepIn K (.ref C5) = true)
    (o16 : PySem.W.findCls K (.ref C5) (.type "type") "__init__" = some (.val (.ref g16)))
    (q16 : PySem.W.specialIn K (.ref C5) "__getattribute__" = some (some (.builtin "type.__getattribute__")))
    (r16 : PySem.W.readsIn K C5 (.type "type") = true)
    (f17 : PySem.W.findIn K (.ref C4) "__init__" = some (some (.ref g17)))
    (l17 : K.lookup g17 = some ⟨oc17, od17, .func (PySem.W.fnOf "__init__" "Still.__init__" (defArgs a2k) (defBody a2k) (defScope a2k) .none kV17 dc17 pm17 an17 cd17 ct17), sl17⟩)
    (c17 : PySem.W.codeIn K cd17 "Still.__init__" = true)
    (k17 : PySem.W.keepIn K (.ref g17) = true)
    (i17 : PySem.W.isFn K (.ref g17) = true)
    (m17 : PySem.W.makesIn K C4 = true)
    (n17 : PySem.W.keepIn K (.ref C4) = true)
    (o17 : PySem.W.findCls K (.ref C4) (.type "type") "__init__" = some (.val (.ref g17)))
    (q17 : PySem.W.specialIn K (.ref C4) "__getattribute__" = some (some (.builtin "type.__getattribute__")))
    (r17 : PySem.W.readsIn K C4 (.type "type") = true)
    (f18 : PySem.W.findIn K (.ref C7) "__init__" = some (some (.ref g18)))
    (l18 : K.lookup g18 = some ⟨oc18, od18, .func (PySem.W.fnOf "__init__" "Tick.__init__" (defArgs a2T) (defBody a2T) (defScope a2T) .none kV18 dc18 pm18 an18 cd18 ct18), sl18⟩)
    (c18 : PySem.W.codeIn K cd18 "Tick.__init__" = true)
    (k18 : PySem.W.keepIn K (.ref g18) = true)
    (i18 : PySem.W.isFn K (.ref g18) = true)
    (m18 : PySem.W.makesIn K C7 = true)
    (n18 : PySem.W.keepIn K (.ref C7) = true)
    (o18 : PySem.W.findCls K (.ref C7) (.type "type") "__init__" = some (.val (.ref g18)))
    (q18 : PySem.W.specialIn K (.ref C7) "__getattribute__" = some (some (.builtin "type.__getattribute__")))
    (r18 : PySem.W.readsIn K C7 (.type "type") = true)
    (f19 : PySem.W.findIn K (.ref C3) "__init__" = some (some (.ref g19)))
    (l19 : K.lookup g19 = some ⟨oc19, od19, .func (PySem.W.fnOf "__init__" "Untouched.__init__" (defArgs a07) (defBody a07) (defScope a07) .none kV19 dc19 pm19 an19 cd19 ct19), sl19⟩)
    (c19 : PySem.W.codeIn K cd19 "Untouched.__init__" = true)
    (k19 : PySem.W.keepIn K (.ref g19) = true)
    (i19 : PySem.W.isFn K (.ref g19) = true)
    (m19 : PySem.W.makesIn K C3 = true)
    (n19 : PySem.W.keepIn K (.ref C3) = true)
    (o19 : PySem.W.findCls K (.ref C3) (.type "type") "__init__" = some (.val (.ref g19)))
    (q19 : PySem.W.specialIn K (.ref C3) "__getattribute__" = some (some (.builtin "type.__getattribute__")))
    (r19 : PySem.W.readsIn K C3 (.type "type") = true)
    (a20 : PySem.W.nsIn K mainGlobals "deed_of" = some (some (.ref g20)))
    (l20 : K.lookup g20 = some ⟨oc20, od20, .func (PySem.W.fnOf "deed_of" "deed_of" (defArgs a2l) (defBody a2l) (defScope a2l) .none kV20 dc20 pm20 an20 cd20 ct20), sl20⟩)
    (c20 : PySem.W.codeIn K cd20 "deed_of" = true)
    (k20 : PySem.W.keepIn K (.ref g20) = true)
    (f21_0 : PySem.W.findIn K (.ref C0) "reads" = some (some (.ref g21)))
    (f21_1 : PySem.W.findIn K (.ref C1) "reads" = some (some (.ref g21)))
    (f21_2 : PySem.W.findIn K (.ref C2) "reads" = some (some (.ref g21)))
    (f21_3 : PySem.W.findIn K (.ref C3) "reads" = some (some (.ref g21)))
    (f21_4 : PySem.W.findIn K (.ref C4) "reads" = some (some (.ref g21)))
    (f21_5 : PySem.W.findIn K (.ref C5) "reads" = some (some (.ref g21)))
    (f21_6 : PySem.W.findIn K (.ref C6) "reads" = some (some (.ref g21)))
    (f21_7 : PySem.W.findIn K (.ref C7) "reads" = some (some (.ref g21)))
    (f21_8 : PySem.W.findIn K (.ref C8) "reads" = some (some (.ref g21)))
    (f21_9 : PySem.W.findIn K (.ref C9) "reads" = some (some (.ref g21)))
    (f21_10 : PySem.W.findIn K (.ref C10) "reads" = some (some (.ref g21)))
    (l21 : K.lookup g21 = some ⟨oc21, od21, .func (PySem.W.fnOf "reads" "Deed.reads" (defArgs a1n) (defBody a1n) (defScope a1n) .none kV21 dc21 pm21 an21 cd21 ct21), sl21⟩)
    (c21 : PySem.W.codeIn K cd21 "Deed.reads" = true)
    (k21 : PySem.W.keepIn K (.ref g21) = true)
    (i21 : PySem.W.isFn K (.ref g21) = true)
    (f22_0 : PySem.W.findIn K (.ref C0) "turns" = some (some (.ref g22)))
    (f22_1 : PySem.W.findIn K (.ref C1) "turns" = some (some (.ref g22)))
    (f22_2 : PySem.W.findIn K (.ref C2) "turns" = some (some (.ref g22)))
    (f22_3 : PySem.W.findIn K (.ref C3) "turns" = some (some (.ref g22)))
    (f22_4 : PySem.W.findIn K (.ref C4) "turns" = some (some (.ref g22)))
    (f22_5 : PySem.W.findIn K (.ref C5) "turns" = some (some (.ref g22)))
    (f22_6 : PySem.W.findIn K (.ref C6) "turns" = some (some (.ref g22)))
    (f22_7 : PySem.W.findIn K (.ref C7) "turns" = some (some (.ref g22)))
    (f22_8 : PySem.W.findIn K (.ref C8) "turns" = some (some (.ref g22)))
    (f22_9 : PySem.W.findIn K (.ref C9) "turns" = some (some (.ref g22)))
    (f22_10 : PySem.W.findIn K (.ref C10) "turns" = some (some (.ref g22)))
    (l22 : K.lookup g22 = some ⟨oc22, od22, .func (PySem.W.fnOf "turns" "Deed.turns" (defArgs a1m) (defBody a1m) (defScope a1m) .none kV22 dc22 pm22 an22 cd22 ct22), sl22⟩)
    (c22 : PySem.W.codeIn K cd22 "Deed.turns" = true)
    (k22 : PySem.W.keepIn K (.ref g22) = true)
    (i22 : PySem.W.isFn K (.ref g22) = true)
    (f23_0 : PySem.W.findIn K (.ref C0) "writes" = some (some (.ref g23)))
    (f23_1 : PySem.W.findIn K (.ref C1) "writes" = some (some (.ref g23)))
    (f23_2 : PySem.W.findIn K (.ref C2) "writes" = some (some (.ref g23)))
    (f23_3 : PySem.W.findIn K (.ref C3) "writes" = some (some (.ref g23)))
    (f23_4 : PySem.W.findIn K (.ref C4) "writes" = some (some (.ref g23)))
    (f23_5 : PySem.W.findIn K (.ref C5) "writes" = some (some (.ref g23)))
    (f23_6 : PySem.W.findIn K (.ref C6) "writes" = some (some (.ref g23)))
    (f23_7 : PySem.W.findIn K (.ref C7) "writes" = some (some (.ref g23)))
    (f23_8 : PySem.W.findIn K (.ref C8) "writes" = some (some (.ref g23)))
    (f23_9 : PySem.W.findIn K (.ref C9) "writes" = some (some (.ref g23)))
    (f23_10 : PySem.W.findIn K (.ref C10) "writes" = some (some (.ref g23)))
    (l23 : K.lookup g23 = some ⟨oc23, od23, .func (PySem.W.fnOf "writes" "Deed.writes" (defArgs a09) (defBody a09) (defScope a09) .none kV23 dc23 pm23 an23 cd23 ct23), sl23⟩)
    (c23 : PySem.W.codeIn K cd23 "Deed.writes" = true)
    (k23 : PySem.W.keepIn K (.ref g23) = true)
    (i23 : PySem.W.isFn K (.ref g23) = true)
    (a24 : PySem.W.nsIn K mainGlobals "turns_at" = some (some (.ref g24)))
    (l24 : K.lookup g24 = some ⟨oc24, od24, .func (PySem.W.fnOf "turns_at" "turns_at" (defArgs a1W) (defBody a1W) (defScope a1W) .none kV24 dc24 pm24 an24 cd24 ct24), sl24⟩)
    (c24 : PySem.W.codeIn K cd24 "turns_at" = true)
    (k24 : PySem.W.keepIn K (.ref g24) = true)
    (a25 : PySem.W.nsIn K mainGlobals "spans" = some (some (.ref g25)))
    (l25 : K.lookup g25 = some ⟨oc25, od25, .func (PySem.W.fnOf "spans" "spans" (defArgs a3P) (defBody a3P) (defScope a3P) .none kV25 dc25 pm25 an25 cd25 ct25), sl25⟩)
    (c25 : PySem.W.codeIn K cd25 "spans" = true)
    (k25 : PySem.W.keepIn K (.ref g25) = true)
    (a26 : PySem.W.nsIn K mainGlobals "law" = some (some (.ref g26)))
    (l26 : K.lookup g26 = some ⟨oc26, od26, .func (PySem.W.fnOf "law" "law" (defArgs a59) (defBody a59) (defScope a59) .none kV26 dc26 pm26 an26 cd26 ct26), sl26⟩)
    (c26 : PySem.W.codeIn K cd26 "law" = true)
    (k26 : PySem.W.keepIn K (.ref g26) = true)
    (na_check_10 : PySem.W.findIn K (.ref C10) "check" = some none)
    (na_number_9 : PySem.W.findIn K (.ref C9) "number" = some none)
    (na_numbers_5 : PySem.W.findIn K (.ref C5) "numbers" = some none)
    (na_plan_0 : PySem.W.findIn K (.ref C0) "plan" = some none)
    (na_plan_1 : PySem.W.findIn K (.ref C1) "plan" = some none)
    (na_plan_2 : PySem.W.findIn K (.ref C2) "plan" = some none)
    (na_plan_3 : PySem.W.findIn K (.ref C3) "plan" = some none)
    (na_plan_4 : PySem.W.findIn K (.ref C4) "plan" = some none)
    (na_plan_5 : PySem.W.findIn K (.ref C5) "plan" = some none)
    (na_plan_6 : PySem.W.findIn K (.ref C6) "plan" = some none)
    (na_plan_7 : PySem.W.findIn K (.ref C7) "plan" = some none)
    (na_plan_8 : PySem.W.findIn K (.ref C8) "plan" = some none)
    (na_plan_9 : PySem.W.findIn K (.ref C9) "plan" = some none)
    (na_plan_10 : PySem.W.findIn K (.ref C10) "plan" = some none)
    (na_size_9 : PySem.W.findIn K (.ref C9) "size" = some none)
    (z_any : PySem.W.nsIn K mainGlobals "any" = some none)
    (z_bool : PySem.W.nsIn K mainGlobals "bool" = some none)
    (z_int : PySem.W.nsIn K mainGlobals "int" = some none)
    (z_isinstance : PySem.W.nsIn K mainGlobals "isinstance" = some none)
    (z_len : PySem.W.nsIn K mainGlobals "len" = some none)
    (z_list : PySem.W.nsIn K mainGlobals "list" = some none)
    (z_min : PySem.W.nsIn K mainGlobals "min" = some none)
    (z_range : PySem.W.nsIn K mainGlobals "range" = some none)
    (z_set : PySem.W.nsIn K mainGlobals "set" = some none)
    (z_sorted : PySem.W.nsIn K mainGlobals "sorted" = some none)
    (z_sum : PySem.W.nsIn K mainGlobals "sum" = some none)
    (z_tuple : PySem.W.nsIn K mainGlobals "tuple" = some none) :
    (∃ cls, Defs K mg cls) ∧ Blt mg := by
  have e_Deed : clsF [("Deed", C0), ("Promise", C1), ("Comparing", C2), ("Untouched", C3), ("Still", C4), ("Put", C5), ("Copy", C6), ("Tick", C7), ("Handed", C8), ("Grow", C9), ("Anew", C10)] "Deed" = C0 := a2b
  have e_Promise : clsF [("Deed", C0), ("Promise", C1), ("Comparing", C2), ("Untouched", C3), ("Still", C4), ("Put", C5), ("Copy", C6), ("Tick", C7), ("Handed", C8), ("Grow", C9), ("Anew", C10)] "Promise" = C1 := (a0i (by decide) a2b)
  have e_Comparing : clsF [("Deed", C0), ("Promise", C1), ("Comparing", C2), ("Untouched", C3), ("Still", C4), ("Put", C5), ("Copy", C6), ("Tick", C7), ("Handed", C8), ("Grow", C9), ("Anew", C10)] "Comparing" = C2 := (a0i (by decide) (a0i (by decide) a2b))
  have e_Untouched : clsF [("Deed", C0), ("Promise", C1), ("Comparing", C2), ("Untouched", C3), ("Still", C4), ("Put", C5), ("Copy", C6), ("Tick", C7), ("Handed", C8), ("Grow", C9), ("Anew", C10)] "Untouched" = C3 := (a0i (by decide) (a0i (by decide) (a0i (by decide) a2b)))
  have e_Still : clsF [("Deed", C0), ("Promise", C1), ("Comparing", C2), ("Untouched", C3), ("Still", C4), ("Put", C5), ("Copy", C6), ("Tick", C7), ("Handed", C8), ("Grow", C9), ("Anew", C10)] "Still" = C4 := (a0i (by decide) (a0i (by decide) (a0i (by decide) (a0i (by decide) a2b))))
  have e_Put : clsF [("Deed", C0), ("Promise", C1), ("Comparing", C2), ("Untouched", C3), ("Still", C4), ("Put", C5), ("Copy", C6), ("Tick", C7), ("Handed", C8), ("Grow", C9), ("Anew", C10)] "Put" = C5 := (a0i (by decide) (a0i (by decide) (a0i (by decide) (a0i (by decide) (a0i (by decide) a2b)))))
  have e_Copy : clsF [("Deed", C0), ("Promise", C1), ("Comparing", C2), ("Untouched", C3), ("Still", C4), ("Put", C5), ("Copy", C6), ("Tick", C7), ("Handed", C8), ("Grow", C9), ("Anew", C10)] "Copy" = C6 := (a0i (by decide) (a0i (by decide) (a0i (by decide) (a0i (by decide) (a0i (by decide) (a0i (by decide) a2b))))))
  have e_Tick : clsF [("Deed", C0), ("Promise", C1), ("Comparing", C2), ("Untouched", C3), ("Still", C4), ("Put", C5), ("Copy", C6), ("Tick", C7), ("Handed", C8), ("Grow", C9), ("Anew", C10)] "Tick" = C7 := (a0i (by decide) (a0i (by decide) (a0i (by decide) (a0i (by decide) (a0i (by decide) (a0i (by decide) (a0i (by decide) a2b)))))))
  have e_Handed : clsF [("Deed", C0), ("Promise", C1), ("Comparing", C2), ("Untouched", C3), ("Still", C4), ("Put", C5), ("Copy", C6), ("Tick", C7), ("Handed", C8), ("Grow", C9), ("Anew", C10)] "Handed" = C8 := (a0i (by decide) (a0i (by decide) (a0i (by decide) (a0i (by decide) (a0i (by decide) (a0i (by decide) (a0i (by decide) (a0i (by decide) a2b))))))))
  have e_Grow : clsF [("Deed", C0), ("Promise", C1), ("Comparing", C2), ("Untouched", C3), ("Still", C4), ("Put", C5), ("Copy", C6), ("Tick", C7), ("Handed", C8), ("Grow", C9), ("Anew", C10)] "Grow" = C9 := (a0i (by decide) (a0i (by decide) (a0i (by decide) (a0i (by decide) (a0i (by decide) (a0i (by decide) (a0i (by decide) (a0i (by decide) (a0i (by decide) a2b)))))))))
  have e_Anew : clsF [("Deed", C0), ("Promise", C1), ("Comparing", C2), ("Untouched", C3), ("Still", C4), ("Put", C5), ("Copy", C6), ("Tick", C7), ("Handed", C8), ("Grow", C9), ("Anew", C10)] "Anew" = C10 := (a0i (by decide) (a0i (by decide) (a0i (by decide) (a0i (by decide) (a0i (by decide) (a0i (by decide) (a0i (by decide) (a0i (by decide) (a0i (by decide) (a0i (by decide) a2b))))))))))
  generalize clsF [("Deed", C0), ("Promise", C1), ("Comparing", C2), ("Untouched", C3), ("Still", C4), ("Put", C5), ("Copy", C6), ("Tick", C7), ("Handed", C8), ("Grow", C9), ("Anew", C10)] = cls at *
  exact ⟨⟨cls, ⟨a1K X G a0 l0 c0 k0 fun _ _ _ _ _ _ us hl => match us, hl with | [_], _ => rfl,
    a1K X G a1 l1 c1 k1 fun _ _ _ _ _ _ us hl => match us, hl with | [_, _], _ => rfl,
    a1K X G a2 l2 c2 k2 fun _ _ _ _ _ _ us hl => match us, hl with | [_, _, _], _ => rfl,
    a1K X G a3 l3 c3 k3 fun _ _ _ _ _ _ us hl => match us, hl with | [_, _], _ => rfl,
    a1K X G a4 l4 c4 k4 fun _ _ _ _ _ _ us hl => match us, hl with | [_], _ => rfl,
    a1K X G a5 l5 c5 k5 fun _ _ _ _ _ _ us hl => match us, hl with | [_, _, _], _ => rfl,
    a1K X G a6 l6 c6 k6 fun _ _ _ _ _ _ us hl => match us, hl with | [_, _], _ => rfl,
    a1K X G a7 l7 c7 k7 fun _ _ _ _ _ _ us hl => match us, hl with | [_, _], _ => rfl,
    a1K X G a8 l8 c8 k8 fun _ _ _ _ _ _ us hl => match us, hl with | [_, _], _ => rfl,
    a1w X G e_Deed ca0 f9 l9 c9 k9 i9 m9 n9 o9 q9 r9 (fun _ _ _ _ _ _ us hl => match us, hl with | [_, _], _ => rfl),
    a1w X G e_Handed ca8 f10 l10 c10 k10 i10 m10 n10 o10 q10 r10 (fun _ _ _ _ _ _ us hl => match us, hl with | [_, _, _], _ => rfl),
    a1w X G e_Anew ca10 f11 l11 c11 k11 i11 m11 n11 o11 q11 r11 (fun _ _ _ _ _ _ us hl => match us, hl with | [_, _, _, _], _ => rfl),
    a1w X G e_Promise ca1 f12 l12 c12 k12 i12 m12 n12 o12 q12 r12 (fun _ _ _ _ _ _ us hl => match us, hl with | [_, _], _ => rfl),
    a1w X G e_Comparing ca2 f13 l13 c13 k13 i13 m13 n13 o13 q13 r13 (fun _ _ _ _ _ _ us hl => match us, hl with | [_, _, _], _ => rfl),
    a1w X G e_Copy ca6 f14 l14 c14 k14 i14 m14 n14 o14 q14 r14 (fun _ _ _ _ _ _ us hl => match us, hl with | [_, _, _], _ => rfl),
    a1w X G e_Grow ca9 f15 l15 c15 k15 i15 m15 n15 o15 q15 r15 (fun _ _ _ _ _ _ us hl => match us, hl with | [_, _, _], _ => rfl),
    a1w X G e_Put ca5 f16 l16 c16 k16 i16 m16 n16 o16 q16 r16 (fun _ _ _ _ _ _ us hl => match us, hl with | [_, _, _], _ => rfl),
    a1w X G e_Still ca4 f17 l17 c17 k17 i17 m17 n17 o17 q17 r17 (fun _ _ _ _ _ _ us hl => match us, hl with | [_, _], _ => rfl),
    a1w X G e_Tick ca7 f18 l18 c18 k18 i18 m18 n18 o18 q18 r18 (fun _ _ _ _ _ _ us hl => match us, hl with | [_, _], _ => rfl),
    a1w X G e_Untouched ca3 f19 l19 c19 k19 i19 m19 n19 o19 q19 r19 (fun _ _ _ _ _ _ us hl => match us, hl with | [_], _ => rfl),
    a1K X G a20 l20 c20 k20 fun _ _ _ _ _ _ us hl => match us, hl with | [_, _], _ => rfl,
    a5d l21 c21 k21 i21 (fun _ _ _ _ _ _ us hl => match us, hl with | [_, _], _ => rfl) (all_cons (by rw [e_Deed]; exact ⟨⟨cp0, ch0, co0, cs0⟩, f21_0⟩) (all_cons (by rw [e_Promise]; exact ⟨⟨cp1, ch1, co1, cs1⟩, f21_1⟩) (all_cons (by rw [e_Comparing]; exact ⟨⟨cp2, ch2, co2, cs2⟩, f21_2⟩) (all_cons (by rw [e_Untouched]; exact ⟨⟨cp3, ch3, co3, cs3⟩, f21_3⟩) (all_cons (by rw [e_Still]; exact ⟨⟨cp4, ch4, co4, cs4⟩, f21_4⟩) (all_cons (by rw [e_Put]; exact ⟨⟨cp5, ch5, co5, cs5⟩, f21_5⟩) (all_cons (by rw [e_Copy]; exact ⟨⟨cp6, ch6, co6, cs6⟩, f21_6⟩) (all_cons (by rw [e_Tick]; exact ⟨⟨cp7, ch7, co7, cs7⟩, f21_7⟩) (all_cons (by rw [e_Handed]; exact ⟨⟨cp8, ch8, co8, cs8⟩, f21_8⟩) (all_cons (by rw [e_Grow]; exact ⟨⟨cp9, ch9, co9, cs9⟩, f21_9⟩) (all_cons (by rw [e_Anew]; exact ⟨⟨cp10, ch10, co10, cs10⟩, f21_10⟩) a2Q))))))))))),
    a5d l22 c22 k22 i22 (fun _ _ _ _ _ _ us hl => match us, hl with | [_], _ => rfl) (all_cons (by rw [e_Deed]; exact ⟨⟨cp0, ch0, co0, cs0⟩, f22_0⟩) (all_cons (by rw [e_Promise]; exact ⟨⟨cp1, ch1, co1, cs1⟩, f22_1⟩) (all_cons (by rw [e_Comparing]; exact ⟨⟨cp2, ch2, co2, cs2⟩, f22_2⟩) (all_cons (by rw [e_Untouched]; exact ⟨⟨cp3, ch3, co3, cs3⟩, f22_3⟩) (all_cons (by rw [e_Still]; exact ⟨⟨cp4, ch4, co4, cs4⟩, f22_4⟩) (all_cons (by rw [e_Put]; exact ⟨⟨cp5, ch5, co5, cs5⟩, f22_5⟩) (all_cons (by rw [e_Copy]; exact ⟨⟨cp6, ch6, co6, cs6⟩, f22_6⟩) (all_cons (by rw [e_Tick]; exact ⟨⟨cp7, ch7, co7, cs7⟩, f22_7⟩) (all_cons (by rw [e_Handed]; exact ⟨⟨cp8, ch8, co8, cs8⟩, f22_8⟩) (all_cons (by rw [e_Grow]; exact ⟨⟨cp9, ch9, co9, cs9⟩, f22_9⟩) (all_cons (by rw [e_Anew]; exact ⟨⟨cp10, ch10, co10, cs10⟩, f22_10⟩) a2Q))))))))))),
    a5d l23 c23 k23 i23 (fun _ _ _ _ _ _ us hl => match us, hl with | [_, _], _ => rfl) (all_cons (by rw [e_Deed]; exact ⟨⟨cp0, ch0, co0, cs0⟩, f23_0⟩) (all_cons (by rw [e_Promise]; exact ⟨⟨cp1, ch1, co1, cs1⟩, f23_1⟩) (all_cons (by rw [e_Comparing]; exact ⟨⟨cp2, ch2, co2, cs2⟩, f23_2⟩) (all_cons (by rw [e_Untouched]; exact ⟨⟨cp3, ch3, co3, cs3⟩, f23_3⟩) (all_cons (by rw [e_Still]; exact ⟨⟨cp4, ch4, co4, cs4⟩, f23_4⟩) (all_cons (by rw [e_Put]; exact ⟨⟨cp5, ch5, co5, cs5⟩, f23_5⟩) (all_cons (by rw [e_Copy]; exact ⟨⟨cp6, ch6, co6, cs6⟩, f23_6⟩) (all_cons (by rw [e_Tick]; exact ⟨⟨cp7, ch7, co7, cs7⟩, f23_7⟩) (all_cons (by rw [e_Handed]; exact ⟨⟨cp8, ch8, co8, cs8⟩, f23_8⟩) (all_cons (by rw [e_Grow]; exact ⟨⟨cp9, ch9, co9, cs9⟩, f23_9⟩) (all_cons (by rw [e_Anew]; exact ⟨⟨cp10, ch10, co10, cs10⟩, f23_10⟩) a2Q))))))))))),
    a1K X G a24 l24 c24 k24 fun _ _ _ _ _ _ us hl => match us, hl with | [_, _, _, _], _ => rfl,
    a1K X G a25 l25 c25 k25 fun _ _ _ _ _ _ us hl => match us, hl with | [_, _], _ => rfl,
    a1K X G a26 l26 c26 k26 fun _ _ _ _ _ _ us hl => match us, hl with | [_], _ => rfl,
    (all_cons (by rw [e_Anew]; exact ⟨⟨cp10, ch10, co10, cs10⟩, na_check_10⟩) a2Q),
    (all_cons (by rw [e_Grow]; exact ⟨⟨cp9, ch9, co9, cs9⟩, na_number_9⟩) a2Q),
    (all_cons (by rw [e_Put]; exact ⟨⟨cp5, ch5, co5, cs5⟩, na_numbers_5⟩) a2Q),
    (all_cons (by rw [e_Deed]; exact ⟨⟨cp0, ch0, co0, cs0⟩, na_plan_0⟩) (all_cons (by rw [e_Promise]; exact ⟨⟨cp1, ch1, co1, cs1⟩, na_plan_1⟩) (all_cons (by rw [e_Comparing]; exact ⟨⟨cp2, ch2, co2, cs2⟩, na_plan_2⟩) (all_cons (by rw [e_Untouched]; exact ⟨⟨cp3, ch3, co3, cs3⟩, na_plan_3⟩) (all_cons (by rw [e_Still]; exact ⟨⟨cp4, ch4, co4, cs4⟩, na_plan_4⟩) (all_cons (by rw [e_Put]; exact ⟨⟨cp5, ch5, co5, cs5⟩, na_plan_5⟩) (all_cons (by rw [e_Copy]; exact ⟨⟨cp6, ch6, co6, cs6⟩, na_plan_6⟩) (all_cons (by rw [e_Tick]; exact ⟨⟨cp7, ch7, co7, cs7⟩, na_plan_7⟩) (all_cons (by rw [e_Handed]; exact ⟨⟨cp8, ch8, co8, cs8⟩, na_plan_8⟩) (all_cons (by rw [e_Grow]; exact ⟨⟨cp9, ch9, co9, cs9⟩, na_plan_9⟩) (all_cons (by rw [e_Anew]; exact ⟨⟨cp10, ch10, co10, cs10⟩, na_plan_10⟩) a2Q))))))))))),
    (all_cons (by rw [e_Grow]; exact ⟨⟨cp9, ch9, co9, cs9⟩, na_size_9⟩) a2Q)⟩⟩, ⟨PySem.W.mg_none_of X G z_any, PySem.W.mg_none_of X G z_bool, PySem.W.mg_none_of X G z_int, PySem.W.mg_none_of X G z_isinstance, PySem.W.mg_none_of X G z_len, PySem.W.mg_none_of X G z_list, PySem.W.mg_none_of X G z_min, PySem.W.mg_none_of X G z_range, PySem.W.mg_none_of X G z_set, PySem.W.mg_none_of X G z_sorted, PySem.W.mg_none_of X G z_sum, PySem.W.mg_none_of X G z_tuple⟩⟩
end Bell
def PySem.W.Fast.tw7687940204969307395 : Unit := ()
def PySem.W.Fast.tw1563446555825242723 : Unit := ()
def PySem.W.Fast.tw12437181635519965199 : Unit := ()
def PySem.W.Fast.tw13803715028439587628 : Unit := ()
def PySem.W.Fast.tw13874259981123789310 : Unit := ()
def PySem.W.Fast.tw14572074841794716491 : Unit := ()
def PySem.W.Fast.tw892819890689338024 : Unit := ()
def PySem.W.Fast.tw9713819287723026012 : Unit := ()
def PySem.W.Fast.tw14223530172412227469 : Unit := ()
def PySem.W.Fast.tw9370756811966040844 : Unit := ()
def PySem.W.Fast.tw14782910946945113030 : Unit := ()
def PySem.W.Fast.tw13537995610888371140 : Unit := ()
def PySem.W.Fast.tw1251206190465512230 : Unit := ()
def PySem.W.Fast.tw10406808998039131875 : Unit := ()
def PySem.W.Fast.tw15210526870678293883 : Unit := ()
def PySem.W.Fast.tw10514585345674455828 : Unit := ()
def PySem.W.Fast.tw18217167020154126299 : Unit := ()
open PySem PySem.W PyProof.Rows
set_option maxRecDepth 100000 in
set_option maxHeartbeats 0 in
theorem PySem.Challenge.cw_bellnest_k41_boxes_spanned_holds : PySem.Challenge.rw_bellnest_k41_boxes_spanned.Holds := by
  w_on; o_law; k_head; (case hw => w_witness2)
  k_fill
  refine Bell.walk (l := PySem.Challenge.rw_bellnest_k41_boxes_spanned) Bell.law_true rfl rfl rfl (fun w h Y => PySem.W.kIn_of Y) ?F
  case F =>
    intro w mg h KX G
    refine' Bell.defs_mk KX G ?ca0 ?cp0 ?ch0 ?co0 ?cs0 ?ca1 ?cp1 ?ch1 ?co1 ?cs1 ?ca2 ?cp2 ?ch2 ?co2 ?cs2 ?ca3 ?cp3 ?ch3 ?co3 ?cs3 ?ca4 ?cp4 ?ch4 ?co4 ?cs4 ?ca5 ?cp5 ?ch5 ?co5 ?cs5 ?ca6 ?cp6 ?ch6 ?co6 ?cs6 ?ca7 ?cp7 ?ch7 ?co7 ?cs7 ?ca8 ?cp8 ?ch8 ?co8 ?cs8 ?ca9 ?cp9 ?ch9 ?co9 ?cs9 ?ca10 ?cp10 ?ch10 ?co10 ?cs10 ?a0 ?l0 ?c0 ?k0 ?a1 ?l1 ?c1 ?k1 ?a2 ?l2 ?c2 ?k2 ?a3 ?l3 ?c3 ?k3 ?a4 ?l4 ?c4 ?k4 ?a5 ?l5 ?c5 ?k5 ?a6 ?l6 ?c6 ?k6 ?a7 ?l7 ?c7 ?k7 ?a8 ?l8 ?c8 ?k8 ?f9 ?l9 ?c9 ?k9 ?i9 ?m9 ?n9 ?o9 ?q9 ?r9 ?f10 ?l10 ?c10 ?k10 ?i10 ?m10 ?n10 ?o10 ?q10 ?r10 ?f11 ?l11 ?c11 ?k11 ?i11 ?m11 ?n11 ?o11 ?q11 ?r11 ?f12 ?l12 ?c12 ?k12 ?i12 ?m12 ?n12 ?o12 ?q12 ?r12 ?f13 ?l13 ?c13 ?k13 ?i13 ?m13 ?n13 ?o13 ?q13 ?r13 ?f14 ?l14 ?c14 ?k14 ?i14 ?m14 ?n14 ?o14 ?q14 ?r14 ?f15 ?l15 ?c15 ?k15 ?i15 ?m15 ?n15 ?o15 ?q15 ?r15 ?f16 ?l16 ?c16 ?k16 ?i16 ?m16 ?n16 ?o16 ?q16 ?r16 ?f17 ?l17 ?c17 ?k17 ?i17 ?m17 ?n17 ?o17 ?q17 ?r17 ?f18 ?l18 ?c18 ?k18 ?i18 ?m18 ?n18 ?o18 ?q18 ?r18 ?f19 ?l19 ?c19 ?k19 ?i19 ?m19 ?n19 ?o19 ?q19 ?r19 ?a20 ?l20 ?c20 ?k20 ?f21_0 ?f21_1 ?f21_2 ?f21_3 ?f21_4 ?f21_5 ?f21_6 ?f21_7 ?f21_8 ?f21_9 ?f21_10 ?l21 ?c21 ?k21 ?i21 ?f22_0 ?f22_1 ?f22_2 ?f22_3 ?f22_4 ?f22_5 ?f22_6 ?f22_7 ?f22_8 ?f22_9 ?f22_10 ?l22 ?c22 ?k22 ?i22 ?f23_0 ?f23_1 ?f23_2 ?f23_3 ?f23_4 ?f23_5 ?f23_6 ?f23_7 ?f23_8 ?f23_9 ?f23_10 ?l23 ?c23 ?k23 ?i23 ?a24 ?l24 ?c24 ?k24 ?a25 ?l25 ?c25 ?k25 ?a26 ?l26 ?c26 ?k26 ?na_check_10 ?na_number_9 ?na_numbers_5 ?na_plan_0 ?na_plan_1 ?na_plan_2 ?na_plan_3 ?na_plan_4 ?na_plan_5 ?na_plan_6 ?na_plan_7 ?na_plan_8 ?na_plan_9 ?na_plan_10 ?na_size_9 ?z_any ?z_bool ?z_int ?z_isinstance ?z_len ?z_list ?z_min ?z_range ?z_set ?z_sorted ?z_sum ?z_tuple
    (case ca0 => k_is); (case cp0 => k_is); (case ch0 => k_is); (case co0 => k_is); (case cs0 => k_is); (case ca1 => k_is)
    (case cp1 => k_is); (case ch1 => k_is); (case co1 => k_is); (case cs1 => k_is); (case ca2 => k_is); (case cp2 => k_is)
    (case ch2 => k_is); (case co2 => k_is); (case cs2 => k_is); (case ca3 => k_is); (case cp3 => k_is); (case ch3 => k_is)
    (case co3 => k_is); (case cs3 => k_is); (case ca4 => k_is); (case cp4 => k_is); (case ch4 => k_is); (case co4 => k_is)
    (case cs4 => k_is); (case ca5 => k_is); (case cp5 => k_is); (case ch5 => k_is); (case co5 => k_is); (case cs5 => k_is)
    (case ca6 => k_is); (case cp6 => k_is); (case ch6 => k_is); (case co6 => k_is); (case cs6 => k_is); (case ca7 => k_is)
    (case cp7 => k_is); (case ch7 => k_is); (case co7 => k_is); (case cs7 => k_is); (case ca8 => k_is); (case cp8 => k_is)
    (case ch8 => k_is); (case co8 => k_is); (case cs8 => k_is); (case ca9 => k_is); (case cp9 => k_is); (case ch9 => k_is)
    (case co9 => k_is); (case cs9 => k_is); (case ca10 => k_is); (case cp10 => k_is); (case ch10 => k_is); (case co10 => k_is)
    (case cs10 => k_is); (case a0 => k_is); (case l0 => k_is); (case c0 => k_is); (case k0 => k_is); (case a1 => k_is)
    (case l1 => k_is); (case c1 => k_is); (case k1 => k_is); (case a2 => k_is); (case l2 => k_is); (case c2 => k_is)
    (case k2 => k_is); (case a3 => k_is); (case l3 => k_is); (case c3 => k_is); (case k3 => k_is); (case a4 => k_is)
    (case l4 => k_is); (case c4 => k_is); (case k4 => k_is); (case a5 => k_is); (case l5 => k_is); (case c5 => k_is)
    (case k5 => k_is); (case a6 => k_is); (case l6 => k_is); (case c6 => k_is); (case k6 => k_is); (case a7 => k_is)
    (case l7 => k_is); (case c7 => k_is); (case k7 => k_is); (case a8 => k_is); (case l8 => k_is); (case c8 => k_is)
    (case k8 => k_is); (case f9 => k_is); (case l9 => k_is); (case c9 => k_is); (case k9 => k_is); (case i9 => k_is)
    (case m9 => k_is); (case n9 => k_is); (case o9 => k_is); (case q9 => k_is); (case r9 => k_is); (case f10 => k_is)
    (case l10 => k_is); (case c10 => k_is); (case k10 => k_is); (case i10 => k_is); (case m10 => k_is); (case n10 => k_is)
    (case o10 => k_is); (case q10 => k_is); (case r10 => k_is); (case f11 => k_is); (case l11 => k_is); (case c11 => k_is)
    (case k11 => k_is); (case i11 => k_is); (case m11 => k_is); (case n11 => k_is); (case o11 => k_is); (case q11 => k_is)
    (case r11 => k_is); (case f12 => k_is); (case l12 => k_is); (case c12 => k_is); (case k12 => k_is); (case i12 => k_is)
    (case m12 => k_is); (case n12 => k_is); (case o12 => k_is); (case q12 => k_is); (case r12 => k_is); (case f13 => k_is)
    (case l13 => k_is); (case c13 => k_is); (case k13 => k_is); (case i13 => k_is); (case m13 => k_is); (case n13 => k_is)
    (case o13 => k_is); (case q13 => k_is); (case r13 => k_is); (case f14 => k_is); (case l14 => k_is); (case c14 => k_is)
    (case k14 => k_is); (case i14 => k_is); (case m14 => k_is); (case n14 => k_is); (case o14 => k_is); (case q14 => k_is)
    (case r14 => k_is); (case f15 => k_is); (case l15 => k_is); (case c15 => k_is); (case k15 => k_is); (case i15 => k_is)
    (case m15 => k_is); (case n15 => k_is); (case o15 => k_is); (case q15 => k_is); (case r15 => k_is); (case f16 => k_is)
    (case l16 => k_is); (case c16 => k_is); (case k16 => k_is); (case i16 => k_is); (case m16 => k_is); (case n16 => k_is)
    (case o16 => k_is); (case q16 => k_is); (case r16 => k_is); (case f17 => k_is); (case l17 => k_is); (case c17 => k_is)
    (case k17 => k_is); (case i17 => k_is); (case m17 => k_is); (case n17 => k_is); (case o17 => k_is); (case q17 => k_is)
    (case r17 => k_is); (case f18 => k_is); (case l18 => k_is); (case c18 => k_is); (case k18 => k_is); (case i18 => k_is)
    (case m18 => k_is); (case n18 => k_is); (case o18 => k_is); (case q18 => k_is); (case r18 => k_is); (case f19 => k_is)
    (case l19 => k_is); (case c19 => k_is); (case k19 => k_is); (case i19 => k_is); (case m19 => k_is); (case n19 => k_is)
    (case o19 => k_is); (case q19 => k_is); (case r19 => k_is); (case a20 => k_is); (case l20 => k_is); (case c20 => k_is)
    (case k20 => k_is); (case f21_0 => k_is); (case f21_1 => k_is); (case f21_2 => k_is); (case f21_3 => k_is); (case f21_4 => k_is)
    (case f21_5 => k_is); (case f21_6 => k_is); (case f21_7 => k_is); (case f21_8 => k_is); (case f21_9 => k_is); (case f21_10 => k_is)
    (case l21 => k_is); (case c21 => k_is); (case k21 => k_is); (case i21 => k_is); (case f22_0 => k_is); (case f22_1 => k_is)
    (case f22_2 => k_is); (case f22_3 => k_is); (case f22_4 => k_is); (case f22_5 => k_is); (case f22_6 => k_is); (case f22_7 => k_is)
    (case f22_8 => k_is); (case f22_9 => k_is); (case f22_10 => k_is); (case l22 => k_is); (case c22 => k_is); (case k22 => k_is)
    (case i22 => k_is); (case f23_0 => k_is); (case f23_1 => k_is); (case f23_2 => k_is); (case f23_3 => k_is); (case f23_4 => k_is)
    (case f23_5 => k_is); (case f23_6 => k_is); (case f23_7 => k_is); (case f23_8 => k_is); (case f23_9 => k_is); (case f23_10 => k_is)
    (case l23 => k_is); (case c23 => k_is); (case k23 => k_is); (case i23 => k_is); (case a24 => k_is); (case l24 => k_is)
    (case c24 => k_is); (case k24 => k_is); (case a25 => k_is); (case l25 => k_is); (case c25 => k_is); (case k25 => k_is)
    (case a26 => k_is); (case l26 => k_is); (case c26 => k_is); (case k26 => k_is); (case na_check_10 => k_is); (case na_number_9 => k_is)
    (case na_numbers_5 => k_is); (case na_plan_0 => k_is); (case na_plan_1 => k_is); (case na_plan_2 => k_is); (case na_plan_3 => k_is); (case na_plan_4 => k_is)
    (case na_plan_5 => k_is); (case na_plan_6 => k_is); (case na_plan_7 => k_is); (case na_plan_8 => k_is); (case na_plan_9 => k_is); (case na_plan_10 => k_is)
    (case na_size_9 => k_is); (case z_any => k_is); (case z_bool => k_is); (case z_int => k_is); (case z_isinstance => k_is); (case z_len => k_is)
    (case z_list => k_is); (case z_min => k_is); (case z_range => k_is); (case z_set => k_is); (case z_sorted => k_is); (case z_sum => k_is)
    (case z_tuple => k_is)
