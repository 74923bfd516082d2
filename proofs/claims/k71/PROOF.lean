import PyProof.Rows.All
import Wide.All
import OpenK.AllK
import Wide.FinOn
import Lean
import PyProof.EqAt
import PyProof.EqKinds
import PyProof.TupleCall
import PySem.SetOps
import PySem.Challenge.RW_bellnest_k71_barred
set_option Elab.async false
set_option linter.all false
set_option maxRecDepth 100000
namespace L2
open PySem PySem.Spec PyProof.Rows
abbrev Key := Sum Int Str
def keyIs : Key → Value → Bool
  | .inl k, v => Value.isInt k v
  | .inr x, v => Value.isStrOf x v
def keyH (w : World) : Key → Int
  | .inl k => hashInt k
  | .inr x => hashStr w x
theorem keyIs_shape : ∀ {k : Key} {v : Value}, keyIs k v = true → (∃ i t, k = Sum.inl i ∧ v = Value.int i t) ∨ (∃ x t, k = Sum.inr x ∧ v = Value.str x t)
  | .inl i, v, h => by
    obtain ⟨t, e⟩ := Value.isInt_shape (k := i) (v := v) h
    exact .inl ⟨i, t, rfl, e⟩
  | .inr x, v, h => by
    obtain ⟨t, e⟩ := Value.isStrOf_shape (x := x) (v := v) h
    exact .inr ⟨x, t, rfl, e⟩
theorem keyIs_int (i : Int) (t : Tok) : keyIs (.inl i) (.int i t) = true := by simp [keyIs, Value.isInt]
theorem keyIs_str (x : Str) (t : Tok) : keyIs (.inr x) (.str x t) = true := by simp [keyIs, Value.isStrOf]
theorem key_ll (a b : Int) : decide ((Sum.inl a : Key) = Sum.inl b) = (a == b) := by
  by_cases e : a = b
  · subst e; simp
  · have h : ¬ (Sum.inl a : Key) = Sum.inl b := fun q => e (Sum.inl.inj q)
    rw [decide_eq_false h]
    exact (beq_eq_false_iff_ne.mpr e).symm
theorem key_rr (a b : Str) : decide ((Sum.inr a : Key) = Sum.inr b) = decide (a = b) := by
  by_cases e : a = b
  · subst e; simp
  · have h : ¬ (Sum.inr a : Key) = Sum.inr b := fun q => e (Sum.inr.inj q)
    rw [decide_eq_false h, decide_eq_false e]
theorem key_lr (a : Int) (b : Str) : decide ((Sum.inl a : Key) = Sum.inr b) = false := decide_eq_false (fun q => nomatch q)
theorem key_rl (a : Str) (b : Int) : decide ((Sum.inr a : Key) = Sum.inl b) = false := decide_eq_false (fun q => nomatch q)
def mixKind (prog : Program) (w : World) : PySem.KeyKind prog w Key where
  is := keyIs
  hash := keyH w
  inj := fun v a b ha hb => by
    rcases keyIs_shape ha with ⟨i, t, rfl, rfl⟩ | ⟨x, t, rfl, rfl⟩
    · rcases keyIs_shape hb with ⟨j, u, rfl, e⟩ | ⟨y, u, rfl, e⟩
      · injection e with e1 _; rw [e1]
      · exact nomatch e
    · rcases keyIs_shape hb with ⟨j, u, rfl, e⟩ | ⟨y, u, rfl, e⟩
      · exact nomatch e
      · injection e with e1 _; rw [e1]
  byValue := fun k v h => by
    rcases keyIs_shape h with ⟨i, t, rfl, rfl⟩ | ⟨x, t, rfl, rfl⟩ <;> rfl
  pyHash := fun hv h => by
    rcases keyIs_shape hv with ⟨i, t, rfl, rfl⟩ | ⟨x, t, rfl, rfl⟩
    · exact wpAny_pyHash_int h
    · exact wpAny_pyHash_str h
  eqBool := fun hu hv h => by
    rcases keyIs_shape hu with ⟨i, t, rfl, rfl⟩ | ⟨x, t, rfl, rfl⟩
    · rcases keyIs_shape hv with ⟨j, u, rfl, rfl⟩ | ⟨y, u, rfl, rfl⟩
      · rw [key_ll] at h; exact wpAny_eqBool_int h
      · rw [key_lr] at h; exact SeqAt.EqAt.int_str i t y u _ _ _ _ h
    · rcases keyIs_shape hv with ⟨j, u, rfl, rfl⟩ | ⟨y, u, rfl, rfl⟩
      · rw [key_rl] at h; exact SeqAt.EqAt.str_int x t j u _ _ _ _ h
      · rw [key_rr] at h; exact wpAny_eqBool_str h
  «strs» := fun k x t v h => by
    rcases keyIs_shape h with ⟨i, u, rfl, e⟩ | ⟨y, u, rfl, e⟩
    · exact nomatch e
    · injection e with e1 _
      subst e1
      cases v <;> rfl
theorem mixKind_int (prog : Program) (w : World) (i : Int) (t : Tok) : (mixKind prog w).is (.inl i) (.int i t) = true := keyIs_int i t
theorem mixKind_str (prog : Program) (w : World) (x : Str) (t : Tok) : (mixKind prog w).is (.inr x) (.str x t) = true := keyIs_str x t
end L2
namespace L2
open PySem PySem.Spec PyProof.Rows
inductive V where
  | non | bl (b : Bool) | int (i : Int) | str (x : Str) | byt (b : Array UInt8) | flt (b : UInt64) | ref (a : Addr) | ty (n : String)
  deriving DecidableEq
def RelV : V → Value → Prop
  | .non, u => u = Value.none
  | .bl b, u => u = Value.bool b
  | .int i, u => ∃ t, u = Value.int i t
  | .str x, u => ∃ t, u = Value.str x t
  | .byt b, u => ∃ t, u = Value.bytes b t
  | .flt b, u => ∃ t, u = Value.float b t
  | .ref a, u => u = Value.ref a
  | .ty n, u => u = Value.type n
abbrev Vals : List V → List Value → Prop := Paired RelV
theorem Vals.length {xs : List V} {us : List Value} (r : Vals xs us) : xs.length = us.length := Paired.length r
theorem Vals.get : ∀ {xs : List V} {us : List Value} {i : Nat} {x : V}, Vals xs us → xs[i]? = some x → ∃ u, us[i]? = some u ∧ RelV x u
  | _, _, _, _, .nil, e => by simp at e
  | _, _, 0, _, .cons r _, e => by simp at e; subst e; exact ⟨_, rfl, r⟩
  | _, _, i + 1, x, .cons _ t, e => by
    obtain ⟨u, h1, h2⟩ := Vals.get (i := i) (x := x) t (by simpa using e)
    exact ⟨u, by simpa using h1, h2⟩
theorem Vals.set {x : V} {u : Value} (r : RelV x u) : ∀ {xs : List V} {us : List Value} (i : Nat), Vals xs us → Vals (xs.set i x) (us.set i u)
  | _, _, _, .nil => .nil
  | _, _, 0, .cons _ t => .cons r t
  | _, _, i + 1, .cons q t => .cons q (Vals.set r i t)
theorem Vals.append : ∀ {xs ys : List V} {us ws : List Value}, Vals xs us → Vals ys ws → Vals (xs ++ ys) (us ++ ws)
  | _, _, _, _, .nil, s => s
  | _, _, _, _, .cons r t, s => .cons r (Vals.append t s)
theorem Vals.take : ∀ {xs : List V} {us : List Value} (n : Nat), Vals xs us → Vals (xs.take n) (us.take n)
  | _, _, 0, _ => .nil
  | _, _, _ + 1, .nil => .nil
  | _, _, n + 1, .cons r t => .cons r (Vals.take n t)
theorem Vals.drop : ∀ {xs : List V} {us : List Value} (n : Nat), Vals xs us → Vals (xs.drop n) (us.drop n)
  | _, _, 0, r => r
  | _, _, _ + 1, .nil => .nil
  | _, _, n + 1, .cons _ t => Vals.drop n t
theorem Vals.none_of : ∀ {xs : List V} {us : List Value} {i : Nat}, Vals xs us → xs[i]? = none → us[i]? = none := fun {xs us i} r e => by
  have h1 := r.length
  have h2 : xs.length ≤ i := List.getElem?_eq_none_iff.mp e
  exact List.getElem?_eq_none_iff.mpr (by omega)
def RelO : Option V → Option Value → Prop
  | some v, some u => RelV v u
  | none, none => True
  | _, _ => False
def KV {κ : Type} : List (κ × V) → List (κ × Value) → Prop := Paired fun (p : κ × V) (q : κ × Value) => p.1 = q.1 ∧ RelV p.2 q.2
def kV : Key → V
  | .inl i => .int i
  | .inr x => .str x
inductive HO where
  | lst (xs : List V)
  | tup (xs : List V)
  | dK (kvs : List (Key × V)) | dT (kvs : List (List Key × V))
  | set (S : Int → Bool) (n : Nat)
  | ins (C dx : Addr) (fs : List (Str × V))
  | own (x : Addr)
  | xd (fs : List (Str × V))
  | met (f x : Addr)
  | rng (lo hi : Int)
  | frz (o : Obj) (u : HO)
  | tbl (ps : Array Value)
  | ext (φ : Heap → Prop)
abbrev Hp := Addr → Option HO
def upd (H : Hp) (a : Addr) (o : HO) : Hp := fun b => if b = a then some o else H b
theorem upd_same {H : Hp} {a : Addr} {o : HO} : upd H a o a = some o := by unfold upd; rw [if_pos rfl]
theorem upd_ne {H : Hp} {a b : Addr} {o : HO} (h : b ≠ a) : upd H a o b = H b := by unfold upd; rw [if_neg h]
theorem ne_of {H : Hp} {a b : Addr} {o u : HO} (h : H a = some o) (h' : H b = some u) (d : o ≠ u) : a ≠ b := by
  intro e; subst e; rw [h] at h'; exact d (Option.some.inj h')
theorem ne_of_none {H : Hp} {a b : Addr} {o : HO} (h : H a = some o) (h' : H b = none) : a ≠ b := by
  intro e; subst e; rw [h] at h'; cases h'
section
variable (P : Program) (w : World)
def ObjOk (H : Hp) (h : Heap) (a : Addr) : HO → Prop
  | .lst xs => xs.length ≤ sizeLine ∧ ∃ (its : List Value) (n : Nat), Vals xs its ∧ h.get? a = some { cls := .type "list", data := .seq its.toArray n }
  | .tup xs => xs.length ≤ sizeLine ∧ ∃ its : List Value, Vals xs its ∧ IsTup h a its.toArray
  | .dK kvs => kvs.length ≤ sizeLine ∧ (a == sysModules) = false ∧ ∃ vs, KV kvs vs ∧ h.DictOf (mixKind P w) a vs
  | .dT kvs => kvs.length ≤ sizeLine ∧ (a == sysModules) = false ∧ ∃ xs : List (List Key × Addr × Value),
      Paired (fun (p : List Key × V) (q : List Key × Addr × Value) => p.1 = q.1 ∧ H q.2.1 = some (.tup (p.1.map kV)) ∧ RelV p.2 q.2.2) kvs xs ∧
      ∃ o es ep, h.get? a = some o ∧ o.ExactDict ∧ o.data = .dict es ep ∧ es.toList = xs.map (entryOfKey (tupleKind (mixKind P w))) ∧ (xs.map (·.1)).Nodup
  | .set S n => h.SetOf (intKind P w) a S n
  | .ins C dx fs => H dx = some (.own a) ∧ fs.length ≤ 1000 ∧ dx ≠ a ∧ h.get? a = some (PySem.W.instObj C dx) ∧
      ∃ mA, h.Ns1 dx mA ∧ (∀ f, RelO (fs.lookup f) (mA f)) ∧ PySem.Within mA (fs.map (·.1))
  | .own _ => ∃ o, h.get? a = some o
  | .xd fs => ∃ mA, h.Ns1 a mA ∧ ∀ f, RelO (fs.lookup f) (mA f)
  | .rng lo hi => ∃ t u v, h.get? a = some { cls := .type "range", data := .fields #[.int lo t, .int hi u, .int 1 v] }
  | .frz o u => h.get? a = some o ∧ ObjOk H h a u
  | .tbl ps => h.get? a = some { cls := .none, data := .fields ps }
  | .met f x => h.get? a = some (PySem.W.methodObj (.ref f) (.ref x))
  | .ext φ => φ h ∧ (∃ o, h.get? a = some o) ∧ ∀ h1 h2 : Heap, φ h1 → (∀ o, h1.get? a = some o → h2.get? a = some o) → φ h2
def HOk (H : Hp) (h : Heap) : Prop := ∀ a o, H a = some o → ObjOk P w H h a o
end
section
variable {P : Program} {w : World} {H H' : Hp} {h h' : Heap} {a : Addr} {o : HO}
theorem ObjOk.lt (x : ObjOk P w H h a o) : a < h.objs.size := by
  cases o with
  | lst xs => obtain ⟨_, _, _, _, e⟩ := x; exact Heap.lt_size e
  | tup xs => obtain ⟨_, _, _, p⟩ := x; exact p.lt
  | dK kvs => obtain ⟨_, _, _, _, o, _, _, e, _⟩ := x; exact Heap.lt_size e
  | dT kvs => obtain ⟨_, _, _, _, o, _, _, e, _⟩ := x; exact Heap.lt_size e
  | set S n => obtain ⟨o, _, _, _, e, _⟩ := x; exact Heap.lt_size e
  | ins C dx fs => obtain ⟨_, _, _, e, _⟩ := x; exact Heap.lt_size e
  | own y => obtain ⟨_, e⟩ := x; exact Heap.lt_size e
  | xd fs => obtain ⟨_, ⟨_, _, _, e, _⟩, _⟩ := x; exact Heap.lt_size e
  | rng lo hi => obtain ⟨_, _, _, e⟩ := x; exact Heap.lt_size e
  | frz ob u => obtain ⟨e, _⟩ := x; exact Heap.lt_size e
  | tbl ps => exact Heap.lt_size (show h.get? a = some _ from x)
  | met f y => exact Heap.lt_size (show h.get? a = some _ from x)
  | ext φ => obtain ⟨_, ⟨_, e⟩, _⟩ := x; exact Heap.lt_size e
theorem Paired.mapP {α β : Type} {F G : α → β → Prop} : ∀ {l₁ : List α} {l₂ : List β}, Paired F l₁ l₂ → (∀ a b, F a b → G a b) → Paired G l₁ l₂
  | _, _, .nil, _ => .nil
  | _, _, .cons r t, f => .cons (f _ _ r) (Paired.mapP t f)
theorem ObjOk.stay (x : ObjOk P w H h a o) (k : ∀ b u, (b = a ∨ H b = some (.own a)) → h.get? b = some u → h'.get? b = some u)
    (ho : ∀ b, H b = some (.own a) → H' b = some (.own a)) (ht : ∀ b xs, H b = some (.tup xs) → H' b = some (.tup xs)) : ObjOk P w H' h' a o := by
  induction o with
  | lst xs => obtain ⟨z, its, n, r, e⟩ := x; exact ⟨z, its, n, r, k _ _ (.inl rfl) e⟩
  | tup xs => obtain ⟨z, its, r, ob, e, c⟩ := x; exact ⟨z, its, r, ob, k _ _ (.inl rfl) e, c⟩
  | dK kvs => obtain ⟨z, y, vs, r, ob, es, ep, e, c⟩ := x; exact ⟨z, y, vs, r, ob, es, ep, k _ _ (.inl rfl) e, c⟩
  | dT kvs =>
    obtain ⟨z, y, xs, r, ob, es, ep, e, c⟩ := x
    exact ⟨z, y, xs, Paired.mapP r fun p q z => ⟨z.1, ht _ _ z.2.1, z.2.2⟩, ob, es, ep, k _ _ (.inl rfl) e, c⟩
  | set S n => obtain ⟨ob, es, ep, t, e, c⟩ := x; exact ⟨ob, es, ep, t, k _ _ (.inl rfl) e, c⟩
  | ins C dx fs =>
    obtain ⟨d, z, ne, e, mA, ⟨od, es, ep, e2, c⟩, r⟩ := x
    exact ⟨ho _ d, z, ne, k _ _ (.inl rfl) e, mA, ⟨od, es, ep, k _ _ (.inr d) e2, c⟩, r⟩
  | own y => obtain ⟨ob, e⟩ := x; exact ⟨ob, k _ _ (.inl rfl) e⟩
  | xd fs => obtain ⟨mA, ⟨od, es, ep, e, c⟩, r⟩ := x; exact ⟨mA, ⟨od, es, ep, k _ _ (.inl rfl) e, c⟩, r⟩
  | rng lo hi => obtain ⟨t, u, v, e⟩ := x; exact ⟨t, u, v, k _ _ (.inl rfl) e⟩
  | frz ob u ih => obtain ⟨e, q⟩ := x; exact ⟨k _ _ (.inl rfl) e, ih q⟩
  | tbl ps =>
    have e : h.get? a = some { cls := .none, data := .fields ps } := x
    show h'.get? a = some { cls := .none, data := .fields ps }
    exact k a _ (.inl rfl) e
  | met f y =>
    have e : h.get? a = some (PySem.W.methodObj (.ref f) (.ref y)) := x
    show h'.get? a = some (PySem.W.methodObj (.ref f) (.ref y))
    exact k a _ (.inl rfl) e
  | ext φ => obtain ⟨p, ⟨o, e⟩, st⟩ := x; exact ⟨st _ _ p fun o q => k _ _ (.inl rfl) q, ⟨o, k _ _ (.inl rfl) e⟩, st⟩
theorem HOk.lt (x : HOk P w H h) (e : H a = some o) : a < h.objs.size := (x a o e).lt
theorem HOk.fresh (x : HOk P w H h) (e : h.objs.size ≤ a) : H a = none := by
  cases q : H a with
  | none => rfl
  | some u => exact absurd (Nat.lt_of_lt_of_le (x.lt q) e) (Nat.lt_irrefl _)
theorem HOk.kept (x : HOk P w H h) (k : ∀ b u, h.get? b = some u → h'.get? b = some u) : HOk P w H h' := fun a o e =>
  (x a o e).stay (fun b u _ q => k b u q) (fun _ q => q) fun _ _ q => q
theorem HOk.laid (x : HOk P w H h) (k : ∀ b u, h.get? b = some u → h'.get? b = some u) (hp : h.objs.size ≤ a) (new : ObjOk P w (upd H a o) h' a o) : HOk P w (upd H a o) h' := fun b u e => by
  have hn := x.fresh hp
  by_cases hb : b = a
  · subst hb; rw [upd_same] at e; cases e; exact new
  · rw [upd_ne hb] at e
    exact (x b u e).stay (fun c v _ q => k c v q) (fun c q => by rw [upd_ne (ne_of_none q hn)]; exact q) fun c xs q => by rw [upd_ne (ne_of_none q hn)]; exact q
end
def Rd (H : Hp) (a : Addr) (u : HO) : Prop := H a = some u ∨ ∃ o, H a = some (.frz o u)
theorem Rd.of {H : Hp} {a : Addr} {u : HO} (h : H a = some u) : Rd H a u := .inl h
theorem Rd.ok {P : Program} {w : World} {H : Hp} {h : Heap} {a : Addr} {u : HO} (r : Rd H a u) (x : HOk P w H h) : ObjOk P w H h a u := by
  rcases r with r | ⟨o, r⟩
  · exact x a u r
  · obtain ⟨_, q⟩ := x a _ r
    exact q
def Mut : Option HO → Prop
  | some (.lst _) => True
  | some (.dK _) => True
  | some (.dT _) => True
  | some (.set _ _) => True
  | some (.ins _ _ _) => True
  | some (.ext _) => True
  | _ => False
section
variable {P : Program} {w : World} {H : Hp} {h h' : Heap} {x e : Addr} {o' : HO}
theorem HOk.write (ok : HOk P w H h) (mu : Mut (H x)) (he : e = x ∨ H e = some (.own x)) (k : ∀ b u, b ≠ e → h.get? b = some u → h'.get? b = some u) (heo : ∃ u, h'.get? e = some u)
    (new : ObjOk P w (upd H x o') h' x o') : HOk P w (upd H x o') h' := fun b u q => by
  have nown : ∀ c y, H c = some (.own y) → c ≠ x := fun c y r z => by subst z; rw [r] at mu; exact mu
  have ntup : ∀ c xs, H c = some (.tup xs) → c ≠ x := fun c xs r z => by subst z; rw [r] at mu; exact mu
  by_cases hb : b = x
  · subst hb; rw [upd_same] at q; cases q; exact new
  · rw [upd_ne hb] at q
    by_cases hbe : b = e
    · have q' : H b = some (.own x) := by
        rcases he with z | z
        · exact absurd (hbe.trans z) hb
        · rw [hbe]; exact z
      rw [q] at q'; cases q'
      obtain ⟨v, hv⟩ := heo
      exact ⟨v, by rw [hbe]; exact hv⟩
    · refine (ok b u q).stay (fun c v hc r => k c v ?_ r) (fun c r => by rw [upd_ne (nown c b r)]; exact r) fun c xs r => by rw [upd_ne (ntup c xs r)]; exact r
      rcases hc with rfl | hc
      · exact hbe
      · rintro rfl
        rcases he with z | z
        · exact nown c b hc z
        · rw [hc] at z; cases z; exact hb rfl
end
structure Un (fs ex : List Addr) (H H' : Hp) (h h' : Heap) : Prop where
  keep : ∀ b o, h.get? b = some o → H b = none → b ∉ fs → b ∉ ex → h'.get? b = some o
  slot : ∀ b o, h.get? b = some o → H b = none → b ∈ fs → b ∉ ex → ∃ sl, h'.get? b = some { o with slots := sl }
  free : ∀ b o, h.get? b = some o → H b = none → b ∉ ex → H' b = none
  there : ∀ b o, h.get? b = some o → b ∉ ex → ∃ o', h'.get? b = some o'
  tups : ∀ b xs, H b = some (.tup xs) → H' b = some (.tup xs)
  frzs : ∀ b o u, H b = some (.frz o u) → H' b = some (.frz o u)
  tbls : ∀ b ps, H b = some (.tbl ps) → ∃ more, H' b = some (.tbl (ps ++ more))
section
variable {fs fs' ex ex' : List Addr} {H H1 H2 : Hp} {h h1 h2 h' : Heap} {a x e : Addr} {o : HO}
theorem Un.any (u : Un fs ex H H1 h h1) {b : Addr} {ob : Obj} (q : h.get? b = some ob) (n : H b = none) (hx : b ∉ ex) : ∃ sl, h1.get? b = some { ob with slots := sl } := by
  by_cases hb : b ∈ fs
  · exact u.slot b ob q n hb hx
  · exact ⟨ob.slots, u.keep b ob q n hb hx⟩
theorem Un.trans (a : Un fs ex H H1 h h1) (b : Un fs ex H1 H2 h1 h2) : Un fs ex H H2 h h2 where
  keep := fun c ob q n hc hx => b.keep c ob (a.keep c ob q n hc hx) (a.free c ob q n hx) hc hx
  slot := fun c ob q n hc hx => by
    obtain ⟨sl, e1⟩ := a.slot c ob q n hc hx
    obtain ⟨sl', e2⟩ := b.slot c _ e1 (a.free c ob q n hx) hc hx
    exact ⟨sl', e2⟩
  free := fun c ob q n hx => by
    obtain ⟨o', e1⟩ := a.there c ob q hx
    exact b.free c o' e1 (a.free c ob q n hx) hx
  there := fun c ob q hx => by
    obtain ⟨o', e1⟩ := a.there c ob q hx
    exact b.there c o' e1 hx
  tups := fun c xs q => b.tups c xs (a.tups c xs q)
  frzs := fun c ob xs q => b.frzs c ob xs (a.frzs c ob xs q)
  tbls := fun c ps q => by
    obtain ⟨m1, e1⟩ := a.tbls c ps q
    obtain ⟨m2, e2⟩ := b.tbls c _ e1
    exact ⟨m1 ++ m2, by rw [e2, Array.append_assoc]⟩
theorem Un.kept (k : ∀ b u, h.get? b = some u → h'.get? b = some u) : Un fs ex H H h h' :=
  ⟨fun b ob q _ _ _ => k b ob q, fun b ob q _ _ _ => ⟨ob.slots, k b ob q⟩, fun _ _ _ n _ => n, fun b ob q _ => ⟨ob, k b ob q⟩, fun _ _ q => q, fun _ _ _ q => q, fun _ ps q => ⟨#[], by rw [q]; simp⟩⟩
theorem Un.refl : Un fs ex H H h h := Un.kept fun _ _ q => q
theorem Un.laid (k : ∀ b u, h.get? b = some u → h'.get? b = some u) (hp : h.objs.size ≤ a) (hn : H a = none) : Un fs ex H (upd H a o) h h' where
  keep := fun b u q _ _ _ => k b u q
  slot := fun b u q _ _ _ => ⟨u.slots, k b u q⟩
  free := fun b u q n _ => by rw [upd_ne (Nat.ne_of_lt (Nat.lt_of_lt_of_le (Heap.lt_size q) hp))]; exact n
  there := fun b u q _ => ⟨u, k b u q⟩
  tups := fun b xs q => by rw [upd_ne (ne_of_none q hn)]; exact q
  frzs := fun b u xs q => by rw [upd_ne (ne_of_none q hn)]; exact q
  tbls := fun b ps q => ⟨#[], by rw [upd_ne (ne_of_none q hn), q]; simp⟩
theorem Un.write (mu : Mut (H x)) (he : e = x ∨ H e = some (.own x)) (k : ∀ b u, b ≠ e → h.get? b = some u → h'.get? b = some u) (heo : ∃ u, h'.get? e = some u) : Un fs ex H (upd H x o) h h' := by
  have hx : ∀ b, H b = none → b ≠ x := fun b n z => by subst z; rw [n] at mu; exact mu
  have hb : ∀ b, H b = none → b ≠ e := fun b n z => by
    subst z
    rcases he with r | r
    · exact hx b n r
    · rw [n] at r; cases r
  have hm : ∀ b u, H b = some u → ¬ Mut (some u) → b ≠ x := fun b u q nm z => by subst z; rw [q] at mu; exact nm mu
  refine ⟨fun b u q n _ _ => k b u (hb b n) q, fun b u q n _ _ => ⟨u.slots, k b u (hb b n) q⟩, fun b u q n _ => by rw [upd_ne (hx b n)]; exact n, fun b u q _ => ?_,
    fun b xs q => by rw [upd_ne (hm b _ q fun z => z)]; exact q, fun b u xs q => by rw [upd_ne (hm b _ q fun z => z)]; exact q, fun b ps q => ⟨#[], by rw [upd_ne (hm b _ q fun z => z), q]; simp⟩⟩
  by_cases hbe : b = e
  · subst hbe; exact heo
  · exact ⟨u, k b u hbe q⟩
theorem Un.mono (u : Un fs ex H H1 h h1) (hs : ∀ b ∈ fs, b ∈ fs') (hx : ∀ b ∈ ex, b ∈ ex') : Un fs' ex' H H1 h h1 :=
  ⟨fun b ob q n hb he => u.keep b ob q n (fun z => hb (hs b z)) fun z => he (hx b z), fun _ _ q n _ he => u.any q n fun z => he (hx _ z), fun b ob q n he => u.free b ob q n fun z => he (hx b z), fun b ob q he => u.there b ob q fun z => he (hx b z), u.tups, u.frzs, u.tbls⟩
end
def trk (h : Heap) (H : Hp) : List Addr := (List.range h.objs.size).filter fun a => (H a).isSome
def hidT (h : Heap) (H : Hp) : Heap := PySem.W.hideAll h (trk h H)
theorem hidT_size (h : Heap) (H : Hp) : (hidT h H).objs.size = h.objs.size := PySem.W.hideAll_size _ _
theorem hidT_get {h : Heap} {H : Hp} {b : Addr} {o : Obj} (e : h.get? b = some o) (n : H b = none) : (hidT h H).get? b = some o :=
  PySem.W.hideAll_get _ e fun hm => by
    have q : (H b).isSome = true := (List.mem_filter.mp hm).2
    rw [n] at q; simp at q
theorem of_hidT {h : Heap} {H : Hp} {b : Addr} {o : Obj} (e : (hidT h H).get? b = some o) : h.get? b = some o ∧ H b = none := by
  have e' : h.get? b = some o := PySem.W.of_hideAll (trk h H) e
  refine ⟨e', ?_⟩
  cases q : H b with
  | none => rfl
  | some x =>
    have hm : b ∈ trk h H := List.mem_filter.mpr ⟨List.mem_range.mpr (Heap.lt_size e'), by simp [q]⟩
    have z : (hidT h H).get? b = none := PySem.W.hideAll_none (trk h H) hm
    rw [z] at e; cases e
def allNews (g h : Heap) (L : Addr) : List (Addr × Obj) := (List.range h.objs.size).filterMap fun a => if a = L ∨ (g.get? a).isSome = true then none else (h.get? a).map fun o => (a, o)
def rest (g h : Heap) (L d : Addr) : List (Addr × Obj) := (allNews g h L).filter fun p => decide (p.1 ≠ d)
end L2
namespace L2
open PySem PySem.Spec PyProof.Rows
structure Mod (K : PySem.W.Frag) (mg : Str → Option Value) (base : Heap) : Prop where
  kin : K.In base
  glob : base.Ns mainGlobals mg
  blt : ∃ mb, base.Ns builtinsNs mb ∧ ∀ x : Str, x ≠ "__name__" → mb x = bootBuiltins x
  nolimit : base.NoLimit
structure Cx where
  prog : Program
  w : World
  K : PySem.W.Frag
  mg : Str → Option Value
  base : Heap
  A : Around
  N : List Str
  s₀ : Shared
  H₀ : Hp
  env : Env
  outer : List Env
  stack : List Env
  ex : List Addr
  fn : Str → Bool
  calm : Bool
  pn : List (Addr × Obj)
  xe : Value → Shared → Prop
def frs (l : List Env) : List Addr := l.filterMap (·.frame)
abbrev Cx.fs (X : Cx) : List Addr := frs X.outer
def Vis (sc : Scope) (x : Str) : Prop := sc.names.lookup x = some .local ∨ sc.names.lookup x = some .cell ∨ sc.names.lookup x = some .free
def Loc (sc : Scope) (x : Str) : Prop := sc.names.lookup x = some .local ∨ sc.names.lookup x = some .cell
def Look (env : Env) (h : Heap) (m : Str → Option Value) (x : Str) (u : Value) : Prop :=
  (env.kindOf x = some .local ∧ m x = some u) ∨ ((env.kindOf x = some .cell ∨ env.kindOf x = some .free) ∧ ∃ c, env.cells.lookup x = some c ∧ h.IsCell c (some u))
structure Cx.Ok (X : Cx) : Prop where
  mod : Mod X.K X.mg X.base
  kind : X.env.scope.kind = .function
  glob : X.env.globals = mainGlobals
  blt : X.env.builtins = builtinsNs
  above : X.s₀.heap.objs.size ≤ X.env.locals
  inj : ∀ x y c, X.env.cells.lookup x = some c → X.env.cells.lookup y = some c → x = y
  has : ∀ x, (X.env.kindOf x = some .cell ∨ X.env.kindOf x = some .free) → ∃ c, X.env.cells.lookup x = some c
  cab : ∀ x c, X.fn x = true → X.env.cells.lookup x = some c → X.s₀.heap.objs.size ≤ c
  hd : X.calm = true → X.A.handled = none
  frames : X.A.frames = some X.stack
  stk : X.stack = X.outer ∨ (X.stack = X.env :: X.outer ∧ X.env.frame = some X.env.locals)
  exf : ∀ b ∈ X.ex, b ≠ X.env.locals ∧ ∀ x c, X.env.cells.lookup x = some c → c ≠ b
  bs : ∀ b o, X.base.get? b = some o → X.s₀.heap.get? b = some o ∧ X.H₀ b = none
  bsz : X.base.objs.size ≤ X.s₀.heap.objs.size
  noex : ∀ b o, X.base.get? b = some o → b ∉ X.ex
  exfs : ∀ b ∈ X.ex, b ∉ X.fs
  funs : X.s₀.heap.FunFrames X.base X.outer
  frf : ∀ b ∈ X.fs, X.H₀ b = none
structure Inv (X : Cx) (pins : List (Addr × Obj)) (σ : List (Option V)) (H : Hp) (s : Shared) : Prop where
  ok : X.Ok
  os : s.os = X.s₀.os
  bare : AllBare s.gens
  base : Un X.fs X.ex X.H₀ H X.s₀.heap s.heap
  loc : ∃ m, s.heap.Ns X.env.locals m ∧ ∀ (i : Nat) (x : Str) (v : V), X.N[i]? = some x → σ[i]? = some (some v) → Vis X.env.scope x → ∃ u, RelV v u ∧ Look X.env s.heap m x u
  cell : ∀ x c, X.env.cells.lookup x = some c → ∃ v, s.heap.IsCell c v
  free : H X.env.locals = none
  freeC : ∀ x c, X.env.cells.lookup x = some c → H c = none
  pin : ∀ p ∈ X.pn ++ pins, s.heap.get? p.1 = some p.2 ∧ H p.1 = none ∧ p.1 ≠ X.env.locals ∧ p.1 ∉ X.fs ∧ ∀ v, p.2.data ≠ .cell v
  hok : HOk X.prog X.w H s.heap
  len : σ.length = X.N.length
section
variable {X : Cx} {pins : List (Addr × Obj)} {σ : List (Option V)} {H H' : Hp} {s : Shared} {h' : Heap}
theorem Cx.Ok.nofr (ok : X.Ok) {b : Addr} {o : Obj} (e : X.base.get? b = some o) : b ∉ X.fs := fun hb => by
  have := (ok.funs.mem hb).1
  rw [e] at this; cases this
theorem Inv.bs (I : Inv X pins σ H s) : ∀ b o, X.base.get? b = some o → s.heap.get? b = some o ∧ H b = none := fun b o e =>
  ⟨I.base.keep b o (I.ok.bs b o e).1 (I.ok.bs b o e).2 (I.ok.nofr e) (I.ok.noex b o e), I.base.free b o (I.ok.bs b o e).1 (I.ok.bs b o e).2 (I.ok.noex b o e)⟩
theorem Inv.bk (I : Inv X pins σ H s) : ∀ b o, X.base.get? b = some o → s.heap.get? b = some o := fun b o e => (I.bs b o e).1
theorem Inv.mod (I : Inv X pins σ H s) : Mod X.K X.mg X.base := I.ok.mod
theorem Inv.kIn (I : Inv X pins σ H s) : X.K.In s.heap := I.ok.mod.kin.keeps I.bk
theorem Inv.nolimit (I : Inv X pins σ H s) : s.heap.NoLimit := I.ok.mod.nolimit.keeps I.bk
theorem Inv.lt (I : Inv X pins σ H s) : X.env.locals < s.heap.objs.size := let ⟨_, hn, _⟩ := I.loc; hn.lt
theorem Inv.sz (I : Inv X pins σ H s) : X.s₀.heap.objs.size ≤ s.heap.objs.size := Nat.le_trans I.ok.above (Nat.le_of_lt I.lt)
theorem Inv.nofs (I : Inv X pins σ H s) {a : Addr} (h : s.heap.objs.size ≤ a) : a ∉ X.fs := fun hb => by
  obtain ⟨_, o, ho, _⟩ := I.ok.funs.mem hb
  exact absurd (Nat.lt_of_lt_of_le (Heap.lt_size ho) (Nat.le_trans I.sz h)) (Nat.lt_irrefl _)
theorem Inv.cne (I : Inv X pins σ H s) : ∀ x c, X.env.cells.lookup x = some c → c ≠ X.env.locals := fun x c e z => by
  obtain ⟨v, o, ho, hd⟩ := I.cell x c e
  obtain ⟨m, ⟨o', es, ep, ho', hd', _⟩, _⟩ := I.loc
  rw [z, ho'] at ho; cases ho; rw [hd'] at hd; cases hd
theorem Inv.funs (I : Inv X pins σ H s) : s.heap.FunFrames X.base X.outer := by
  have all : ∀ (l : List Env), (∀ b ∈ frs l, b ∈ X.fs) → X.s₀.heap.FunFrames X.base l → s.heap.FunFrames X.base l := by
    intro l
    induction l with
    | nil => intro _ _; trivial
    | cons env r ih =>
      intro hs hl
      obtain ⟨hk, ⟨L, o, hf, hn, ho, hd⟩, hr⟩ := hl
      have hL : L ∈ X.fs := hs L (by unfold frs; rw [List.filterMap_cons, hf]; exact List.mem_cons_self)
      obtain ⟨sl, e⟩ := I.base.slot L o ho (I.ok.frf L hL) hL fun z => I.ok.exfs L z hL
      exact ⟨hk, ⟨L, _, hf, hn, e, hd⟩, ih (fun b hb => hs b (by unfold frs; rw [List.filterMap_cons, hf]; exact List.mem_cons_of_mem _ hb)) hr⟩
  exact all X.outer (fun _ hb => hb) I.ok.funs
theorem Inv.stack (I : Inv X pins σ H s) : s.heap.FunFrames X.base X.stack := by
  rcases I.ok.stk with e | ⟨e, hf⟩
  · rw [e]; exact I.funs
  · rw [e]
    obtain ⟨m, hn, _⟩ := I.loc
    refine .cons (by rw [I.ok.kind]; decide) hf hn ?_ I.funs
    exact Heap.get?_none_of_le (Nat.le_trans I.ok.bsz I.ok.above)
theorem Inv.stkSub (I : Inv X pins σ H s) : ∀ b ∈ frs X.stack, b ∈ X.env.locals :: X.fs := fun b hb => by
  rcases I.ok.stk with e | ⟨e, hf⟩
  · rw [e] at hb; exact List.mem_cons_of_mem _ hb
  · rw [e] at hb
    unfold frs at hb
    rw [List.filterMap_cons, hf] at hb
    exact hb
theorem Inv.stkFree (I : Inv X pins σ H s) : ∀ b ∈ frs X.stack, H b = none := fun b hb => by
  rcases List.mem_cons.mp (I.stkSub b hb) with e | hb
  · rw [e]; exact I.free
  · obtain ⟨_, o, ho, _⟩ := I.ok.funs.mem hb
    exact I.base.free b o ho (I.ok.frf b hb) fun z => I.ok.exfs b z hb
theorem Inv.step {g' : Array GenState} {t' : Nat} {d' : Drawn} {ch : List Addr} (I : Inv X pins σ H s)
    (hch : ∀ b ∈ ch, (b ∈ X.ex ∨ X.s₀.heap.objs.size ≤ b) ∧ b ≠ X.env.locals ∧ (∀ x c, X.env.cells.lookup x = some c → c ≠ b) ∧ ∀ p ∈ X.pn ++ pins, p.1 ≠ b)
    (keep : ∀ b o, b ≠ X.env.locals → b ∉ X.fs → b ∉ ch → s.heap.get? b = some o → H b = none → h'.get? b = some o)
    (slot : ∀ b o, b ≠ X.env.locals → b ∈ X.fs → b ∉ ch → s.heap.get? b = some o → H b = none → ∃ sl, h'.get? b = some { o with slots := sl }) (free : ∀ b o, b ∉ ch → s.heap.get? b = some o → H b = none → H' b = none)
    (there : ∀ b o, b ∉ ch → s.heap.get? b = some o → ∃ o', h'.get? b = some o')
    (tups : ∀ b xs, H b = some (.tup xs) → H' b = some (.tup xs)) (frzs : ∀ b o u, H b = some (.frz o u) → H' b = some (.frz o u)) (tbls : ∀ b ps, H b = some (.tbl ps) → ∃ more, H' b = some (.tbl (ps ++ more)))
    (ns : ∀ m, s.heap.Ns X.env.locals m → h'.Ns X.env.locals m) (hok : HOk X.prog X.w H' h') (hg : AllBare g') :
    Inv X pins σ H' { s with heap := h', gens := g', drawn := d', toks := t' } := by
  have neL : ∀ b o, X.s₀.heap.get? b = some o → b ≠ X.env.locals := fun b o e => Nat.ne_of_lt (Nat.lt_of_lt_of_le (Heap.lt_size e) I.ok.above)
  have neC : ∀ b o, X.s₀.heap.get? b = some o → b ∉ X.ex → b ∉ ch := fun b o e hx hb => by
    rcases (hch b hb).1 with z | z
    · exact hx z
    · exact absurd (Nat.lt_of_lt_of_le (Heap.lt_size e) z) (Nat.lt_irrefl _)
  have cellK : ∀ x c, X.env.cells.lookup x = some c → ∀ v, s.heap.IsCell c v → h'.IsCell c v := fun x c e v ⟨o, ho, hd⟩ => by
    have nch : c ∉ ch := fun z => (hch c z).2.2.1 x c e rfl
    by_cases hc : c ∈ X.fs
    · obtain ⟨sl, q⟩ := slot c o (I.cne x c e) hc nch ho (I.freeC x c e)
      exact ⟨_, q, hd⟩
    · exact ⟨o, keep c o (I.cne x c e) hc nch ho (I.freeC x c e), hd⟩
  refine ⟨I.ok, I.os, hg, ⟨fun b o e n hb hx => ?_, fun b o e n hb hx => ?_, fun b o e n hx => ?_, fun b o e hx => ?_, fun b xs e => tups b xs (I.base.tups b xs e), fun b o xs e => frzs b o xs (I.base.frzs b o xs e), fun b ps e => ?_⟩, ?_, fun x c e => ?_, ?_, fun x c e => ?_, fun p hp => ?_, hok, I.len⟩
  · exact keep b o (neL b o e) hb (neC b o e hx) (I.base.keep b o e n hb hx) (I.base.free b o e n hx)
  · obtain ⟨sl, e1⟩ := I.base.slot b o e n hb hx
    obtain ⟨sl', e2⟩ := slot b _ (neL b o e) hb (neC b o e hx) e1 (I.base.free b o e n hx)
    exact ⟨sl', e2⟩
  · obtain ⟨o', e1⟩ := I.base.there b o e hx
    exact free b o' (neC b o e hx) e1 (I.base.free b o e n hx)
  · obtain ⟨o', e1⟩ := I.base.there b o e hx
    exact there b o' (neC b o e hx) e1
  · obtain ⟨m1, e1⟩ := I.base.tbls b ps e
    obtain ⟨m2, e2⟩ := tbls b _ e1
    exact ⟨m1 ++ m2, by rw [e2, Array.append_assoc]⟩
  · obtain ⟨m, hn, hl⟩ := I.loc
    refine ⟨m, ns m hn, fun i x v e1 e2 e3 => ?_⟩
    obtain ⟨u, r, l⟩ := hl i x v e1 e2 e3
    refine ⟨u, r, ?_⟩
    rcases l with l | ⟨k, c, e, z⟩
    · exact .inl l
    · exact .inr ⟨k, c, e, cellK x c e _ z⟩
  · obtain ⟨v, z⟩ := I.cell x c e
    exact ⟨v, cellK x c e v z⟩
  · obtain ⟨m, ⟨o, _, _, ho, _⟩, _⟩ := I.loc
    exact free _ o (fun z => (hch _ z).2.1 rfl) ho I.free
  · obtain ⟨v, o, ho, hd⟩ := I.cell x c e
    exact free c o (fun z => (hch c z).2.2.1 x c e rfl) ho (I.freeC x c e)
  · obtain ⟨e, n, ne, nf, d⟩ := I.pin p hp
    have nch : p.1 ∉ ch := fun z => (hch p.1 z).2.2.2 p hp rfl
    exact ⟨keep p.1 p.2 ne nf nch e n, free p.1 p.2 nch e n, ne, nf, d⟩
theorem Inv.un {t' : Nat} (I : Inv X pins σ H s) (u : Un X.fs [] H H' s.heap h') (hok : HOk X.prog X.w H' h') : Inv X pins σ H' { s with heap := h', toks := t' } := by
  obtain ⟨m, ⟨o, es, ep, ho, r⟩, _⟩ := id I.loc
  obtain ⟨sl, hL⟩ := u.any ho I.free (by simp)
  exact I.step (g' := s.gens) (d' := s.drawn) (ch := []) (fun _ z => nomatch z) (fun b o _ hb _ e n => u.keep b o e n hb (by simp)) (fun b o _ hb _ e n => u.slot b o e n hb (by simp)) (fun b o _ e n => u.free b o e n (by simp)) (fun b o _ e => u.there b o e (by simp)) u.tups u.frzs u.tbls (fun m' hm => by
    obtain ⟨o', es', ep', ho', r'⟩ := hm
    rw [ho] at ho'; cases ho'
    exact ⟨_, es', ep', hL, r'⟩) hok I.bare
theorem Inv.call {g' : Array GenState} {t' : Nat} {d' : Drawn} {ch : List Addr} (I : Inv X pins σ H s) (u : Un (frs X.stack) ch H H' s.heap h') (hok : HOk X.prog X.w H' h') (hg : AllBare g')
    (hch : ∀ b ∈ ch, (b ∈ X.ex ∨ X.s₀.heap.objs.size ≤ b) ∧ b ≠ X.env.locals ∧ (∀ x c, X.env.cells.lookup x = some c → c ≠ b) ∧ ∀ p ∈ X.pn ++ pins, p.1 ≠ b) :
    Inv X pins σ H' { s with heap := h', gens := g', drawn := d', toks := t' } := by
  obtain ⟨m, ⟨o, es, ep, ho, r⟩, _⟩ := id I.loc
  obtain ⟨sl, hL⟩ := u.any ho I.free fun z => (hch _ z).2.1 rfl
  exact I.step (ch := ch) hch (fun b o hL hb hc e n => u.keep b o e n (fun z => (List.mem_cons.mp (I.stkSub b z)).elim hL hb) hc) (fun b o _ _ hc e n => u.any e n hc) (fun b o hc e n => u.free b o e n hc) (fun b o hc e => u.there b o e hc) u.tups u.frzs u.tbls (fun m' hm => by
    obtain ⟨o', es', ep', ho', r'⟩ := hm
    rw [ho] at ho'; cases ho'
    exact ⟨_, es', ep', hL, r'⟩) hok hg
theorem Inv.turned {t' : Nat} {it : Addr} (I : Inv X pins σ H s) (k : ∀ b o, b ≠ it → s.heap.get? b = some o → h'.get? b = some o) (hn : H it = none) (hL : it ≠ X.env.locals)
    (h1 : it ∈ X.ex ∨ X.s₀.heap.objs.size ≤ it) (h2 : ∀ x c, X.env.cells.lookup x = some c → c ≠ it) (h3 : ∀ p ∈ X.pn ++ pins, p.1 ≠ it) : Inv X pins σ H { s with heap := h', toks := t' } := by
  have nit : ∀ b u, H b = some u → b ≠ it := fun b u e z => by rw [z, hn] at e; cases e
  refine I.step (g' := s.gens) (d' := s.drawn) (ch := [it]) (fun b hb => ?_) (fun b o _ _ hc e _ => k b o (fun z => hc (by simp [z])) e) (fun b o _ _ hc e _ => ⟨o.slots, k b o (fun z => hc (by simp [z])) e⟩) (fun _ _ _ _ n => n)
    (fun b o hc e => ⟨o, k b o (fun z => hc (by simp [z])) e⟩) (fun _ _ e => e) (fun _ _ _ e => e) (fun b ps e => ⟨#[], by rw [e]; simp⟩) (fun m hm => ?_) (fun b u e => ?_) I.bare
  · have e : b = it := by simpa using hb
    subst e
    exact ⟨h1, hL, h2, h3⟩
  · obtain ⟨o, es, ep, ho, r⟩ := hm
    exact ⟨o, es, ep, k _ o (Ne.symm hL) ho, r⟩
  · refine (I.hok b u e).stay (fun c v hc q => k c v ?_ q) (fun _ q => q) fun _ _ q => q
    rcases hc with z | z
    · rw [z]; exact nit b u e
    · exact nit c _ z
theorem Inv.tok (I : Inv X pins σ H s) (t : Nat) : Inv X pins σ H { s with toks := t } := I.un (h' := s.heap) (t' := t) Un.refl I.hok
theorem Inv.kept {t' : Nat} (I : Inv X pins σ H s) (k : ∀ b u, s.heap.get? b = some u → h'.get? b = some u) : Inv X pins σ H { s with heap := h', toks := t' } := I.un (Un.kept k) (I.hok.kept k)
theorem Inv.laid {a : Addr} {o : HO} {t' : Nat} (I : Inv X pins σ H s) (k : ∀ b u, s.heap.get? b = some u → h'.get? b = some u) (hp : s.heap.objs.size ≤ a) (new : ObjOk X.prog X.w (upd H a o) h' a o) :
    Inv X pins σ (upd H a o) { s with heap := h', toks := t' } := I.un (Un.laid k hp (I.hok.fresh hp)) (I.hok.laid k hp new)
theorem Inv.write {x e : Addr} {o : HO} {t' : Nat} (I : Inv X pins σ H s) (mu : Mut (H x)) (he : e = x ∨ H e = some (.own x)) (k : ∀ b u, b ≠ e → s.heap.get? b = some u → h'.get? b = some u) (heo : ∃ u, h'.get? e = some u)
    (new : ObjOk X.prog X.w (upd H x o) h' x o) : Inv X pins σ (upd H x o) { s with heap := h', toks := t' } := I.un (Un.write mu he k heo) (I.hok.write mu he k heo new)
theorem Inv.pins_of {pins' : List (Addr × Obj)} (I : Inv X pins σ H s) (h : ∀ p ∈ pins', s.heap.get? p.1 = some p.2 ∧ H p.1 = none ∧ p.1 ≠ X.env.locals ∧ p.1 ∉ X.fs ∧ ∀ v, p.2.data ≠ .cell v) : Inv X pins' σ H s :=
  ⟨I.ok, I.os, I.bare, I.base, I.loc, I.cell, I.free, I.freeC, fun p hp => (List.mem_append.mp hp).elim (fun z => I.pin p (List.mem_append_left _ z)) (h p), I.hok, I.len⟩
theorem nodup_ix {N : List Str} (hN : N.Nodup) {i j : Nat} {x : Str} (a : N[i]? = some x) (b : N[j]? = some x) : i = j := by
  obtain ⟨h1, e1⟩ := List.getElem?_eq_some_iff.mp a
  obtain ⟨h2, e2⟩ := List.getElem?_eq_some_iff.mp b
  exact (List.getElem_inj hN).mp (e1.trans e2.symm)
theorem store_ok2 {M : Model} {A : Around} {E : Value → Shared → Prop} {i : Nat} {x : Str} {v : V} {u : Value} {Q : Unit → Shared → Prop} (I : Inv X pins σ H s) (hN : X.N.Nodup) (hi : X.N[i]? = some x) (hx : Loc X.env.scope x) (r : RelV v u)
    (h : ∀ s', Inv X pins (σ.set i (some v)) H s' → (∃ a, Heap.SameBut a s.heap s'.heap ∧ (a = X.env.locals ∨ X.env.cells.lookup x = some a)) → Q () s') (hf : X.fn x = true ∨ X.env.scope.names.lookup x = some .local := by first | exact .inl rfl | exact .inr rfl | assumption) : wpAny M A (storeName X.env x u) Q E s := by
  obtain ⟨m, hn, hl⟩ := id I.loc
  have hcls : (X.env.scope.kind == .class || (X.env.scope.kind == .module && X.env.locals != X.env.globals)) = false := by rw [I.ok.kind]; rfl
  have hiσ : i < σ.length := by rw [I.len]; exact (List.getElem?_eq_some_iff.mp hi).1
  have cne := I.cne
  have tracked : ∀ {a : Addr} {h' : Heap}, (∃ o, s.heap.get? a = some o ∧ H a = none) → Heap.SameBut a s.heap h' → HOk X.prog X.w H h' := fun {a h'} ha hs b ob e => by
    obtain ⟨_, _, hfree⟩ := ha
    refine (I.hok b ob e).stay (fun c w' hc q => (hs.2 c ?_).trans q) (fun _ q => q) fun _ _ q => q
    rintro rfl
    rcases hc with rfl | hc
    · rw [hfree] at e; cases e
    · rw [hfree] at hc; cases hc
  rcases hx with hk | hk
  · refine wpAny_storeName_local hk hn (fun h' hn' hs => ?_) hcls
    obtain ⟨oL, _, _, hoL, _⟩ := id hn
    refine h _ ⟨I.ok, I.os, I.bare, ⟨fun b o e n hb hx => ?_, fun b o e n hb hx => ?_, I.base.free, fun b o e hx => ?_, I.base.tups, I.base.frzs, I.base.tbls⟩, ⟨_, hn', fun j y v' e1 e2 e3 => ?_⟩, fun y c e => ?_, I.free, I.freeC, fun p hp => ?_, tracked ⟨oL, hoL, I.free⟩ hs, by simpa using I.len⟩ ⟨_, hs, .inl rfl⟩
    · exact (hs.2 b (Nat.ne_of_lt (Nat.lt_of_lt_of_le (Heap.lt_size e) I.ok.above))).trans (I.base.keep b o e n hb hx)
    · obtain ⟨sl, e1⟩ := I.base.slot b o e n hb hx
      exact ⟨sl, (hs.2 b (Nat.ne_of_lt (Nat.lt_of_lt_of_le (Heap.lt_size e) I.ok.above))).trans e1⟩
    · obtain ⟨o', e1⟩ := I.base.there b o e hx
      exact ⟨o', (hs.2 b (Nat.ne_of_lt (Nat.lt_of_lt_of_le (Heap.lt_size e) I.ok.above))).trans e1⟩
    · by_cases hj : j = i
      · subst hj
        rw [hi] at e1; cases e1
        rw [List.getElem?_set_self hiσ] at e2
        cases e2
        exact ⟨u, r, .inl ⟨hk, by simp⟩⟩
      · rw [List.getElem?_set_ne (Ne.symm hj)] at e2
        obtain ⟨u', r', q⟩ := hl j y v' e1 e2 e3
        refine ⟨u', r', ?_⟩
        rcases q with ⟨k, e⟩ | ⟨k, c, e, z⟩
        · refine .inl ⟨k, ?_⟩
          have : y ≠ x := fun e => hj (nodup_ix hN e1 (e ▸ hi))
          simp [this, e]
        · exact .inr ⟨k, c, e, z.sameBut hs (cne y c e)⟩
    · obtain ⟨w', z⟩ := I.cell y c e
      exact ⟨w', z.sameBut hs (cne y c e)⟩
    · obtain ⟨e, n, ne, nf, d⟩ := I.pin p hp
      exact ⟨(hs.2 p.1 ne).trans e, n, ne, nf, d⟩
  · have hfn : X.fn x = true := by
      rcases hf with z | z
      · exact z
      · rw [z] at hk; cases hk
    obtain ⟨c, hc⟩ := I.ok.has x (.inl hk)
    obtain ⟨w', z⟩ := I.cell x c hc
    refine wpAny_storeName_cell I.ok.kind hk hc z (fun h' hc' hs => ?_)
    obtain ⟨oc, hoc, hocd⟩ := id z
    refine h { s with heap := h' } ⟨I.ok, I.os, I.bare, ⟨fun b o e n hb hx => ?_, fun b o e n hb hx => ?_, I.base.free, fun b o e hx => ?_, I.base.tups, I.base.frzs, I.base.tbls⟩, ⟨m, hn.sameBut hs (Ne.symm (cne x c hc)), fun j y v' e1 e2 e3 => ?_⟩, fun y c' e => ?_, I.free, I.freeC, fun p hp => ?_, tracked ⟨oc, hoc, I.freeC x c hc⟩ hs, by simpa using I.len⟩ ⟨c, hs, .inr hc⟩
    · exact (hs.2 b (Nat.ne_of_lt (Nat.lt_of_lt_of_le (Heap.lt_size e) (I.ok.cab x c hfn hc)))).trans (I.base.keep b o e n hb hx)
    · obtain ⟨sl, e1⟩ := I.base.slot b o e n hb hx
      exact ⟨sl, (hs.2 b (Nat.ne_of_lt (Nat.lt_of_lt_of_le (Heap.lt_size e) (I.ok.cab x c hfn hc)))).trans e1⟩
    · obtain ⟨o', e1⟩ := I.base.there b o e hx
      exact ⟨o', (hs.2 b (Nat.ne_of_lt (Nat.lt_of_lt_of_le (Heap.lt_size e) (I.ok.cab x c hfn hc)))).trans e1⟩
    · by_cases hj : j = i
      · subst hj
        rw [hi] at e1; cases e1
        rw [List.getElem?_set_self hiσ] at e2
        cases e2
        exact ⟨u, r, .inr ⟨.inl hk, c, hc, hc'⟩⟩
      · rw [List.getElem?_set_ne (Ne.symm hj)] at e2
        obtain ⟨u', r', q⟩ := hl j y v' e1 e2 e3
        refine ⟨u', r', ?_⟩
        rcases q with q | ⟨k, c', e, z'⟩
        · exact .inl q
        · refine .inr ⟨k, c', e, z'.sameBut hs ?_⟩
          rintro rfl
          exact hj (nodup_ix hN e1 (I.ok.inj _ _ _ e hc ▸ hi))
    · by_cases hcc : c' = c
      · subst hcc; exact ⟨_, hc'⟩
      · obtain ⟨w2, z2⟩ := I.cell y c' e
        exact ⟨w2, z2.sameBut hs hcc⟩
    · obtain ⟨e, n, ne, nf, d⟩ := I.pin p hp
      refine ⟨(hs.2 p.1 ?_).trans e, n, ne, nf, d⟩
      intro q
      rw [q, hoc] at e
      have q' : oc = p.2 := Option.some.inj e
      exact d w' (by rw [← q']; exact hocd)
theorem store_ok {M : Model} {A : Around} {E : Value → Shared → Prop} {i : Nat} {x : Str} {v : V} {u : Value} {Q : Unit → Shared → Prop} (I : Inv X pins σ H s) (hN : X.N.Nodup) (hi : X.N[i]? = some x) (hx : Loc X.env.scope x) (r : RelV v u)
    (h : ∀ s', Inv X pins (σ.set i (some v)) H s' → Q () s') (hf : X.fn x = true ∨ X.env.scope.names.lookup x = some .local := by first | exact .inl rfl | exact .inr rfl | assumption) : wpAny M A (storeName X.env x u) Q E s :=
  store_ok2 I hN hi hx r (fun s' I' _ => h s' I') hf
theorem Inv.call' {s' : Shared} {ch : List Addr} (I : Inv X pins σ H s) (ho : s'.os = s.os) (u : Un (frs X.stack) ch H H' s.heap s'.heap) (hok : HOk X.prog X.w H' s'.heap) (hg : AllBare s'.gens)
    (hch : ∀ b ∈ ch, (b ∈ X.ex ∨ X.s₀.heap.objs.size ≤ b) ∧ b ≠ X.env.locals ∧ (∀ x c, X.env.cells.lookup x = some c → c ≠ b) ∧ ∀ p ∈ X.pn ++ pins, p.1 ≠ b) : Inv X pins σ H' s' := by
  obtain ⟨h', g', d', t', o'⟩ := s'
  have e : o' = s.os := ho
  subst e
  exact I.call (g' := g') (t' := t') (d' := d') u hok hg hch
end
abbrev XK := Value → Option Addr → Hp → Prop
abbrev St := List (Option V)
abbrev VK := V → Hp → Prop
abbrev TE := St → Hp → VK → Prop
abbrev TT := St → Hp → (Bool → Hp → Prop) → Prop
abbrev TA := St → Hp → (List V → Hp → Prop) → Prop
structure Ends where
  nx : St → Hp → Prop
  rt : VK
  bk : St → Hp → Prop := fun _ _ => False
  ct : St → Hp → Prop := fun _ _ => False
abbrev TS := Ends → St → Hp → Prop
def EP (X : Cx) (pins : List (Addr × Obj)) (σ : St) (Q : VK) (u : Value) (s' : Shared) : Prop := ∃ v H', Inv X pins σ H' s' ∧ RelV v u ∧ Q v H'
def TP (X : Cx) (pins : List (Addr × Obj)) (σ : St) (Q : Bool → Hp → Prop) (b : Bool) (s' : Shared) : Prop := ∃ H', Inv X pins σ H' s' ∧ Q b H'
def AP (X : Cx) (pins : List (Addr × Obj)) (σ : St) (Q : List V → Hp → Prop) (us : List Value) (s' : Shared) : Prop := ∃ vs H', Inv X pins σ H' s' ∧ Vals vs us ∧ Q vs H'
def SP (X : Cx) (pins : List (Addr × Obj)) (D : Ends) (f : Flow) (s' : Shared) : Prop :=
  match f with
  | .next => ∃ σ' H', Inv X pins σ' H' s' ∧ D.nx σ' H'
  | .brk => ∃ σ' H', Inv X pins σ' H' s' ∧ D.bk σ' H'
  | .cont => ∃ σ' H', Inv X pins σ' H' s' ∧ D.ct σ' H'
  | .ret u => ∃ v σ' H', Inv X pins σ' H' s' ∧ RelV v u ∧ D.rt v H'
def PE (X : Cx) (e : Expr) (t : TE) : Prop :=
  ∀ (pins : List (Addr × Obj)) (s : Shared) (σ : St) (H : Hp) (Q : VK), Inv X pins σ H s → t σ H Q → wpAny (model X.prog X.w) X.A (eval e X.env) (EP X pins σ Q) X.xe s
def PT (X : Cx) (e : Expr) (t : TT) : Prop :=
  ∀ (pins : List (Addr × Obj)) (s : Shared) (σ : St) (H : Hp) (Q : Bool → Hp → Prop), Inv X pins σ H s → t σ H Q → wpAny (model X.prog X.w) X.A (isTrue e X.env (eval e X.env)) (TP X pins σ Q) X.xe s
def PW (X : Cx) (e : Expr) (t : TT) : Prop :=
  ∀ (whole : Sem Value) (pins : List (Addr × Obj)) (s : Shared) (σ : St) (H : Hp) (Q : Bool → Hp → Prop), Inv X pins σ H s → t σ H Q → wpAny (model X.prog X.w) X.A (isTrue e X.env whole) (TP X pins σ Q) X.xe s
theorem PW.pt {X : Cx} {e : Expr} {t : TT} (h : PW X e t) : PT X e t := h _
def PA (X : Cx) (es : List Expr) (t : TA) : Prop :=
  ∀ (pos : Pos) (pins : List (Addr × Obj)) (s : Shared) (σ : St) (H : Hp) (Q : List V → Hp → Prop), Inv X pins σ H s → t σ H Q → wpAny (model X.prog X.w) X.A (spliced (backTo pos (starEach es X.env))) (AP X pins σ Q) X.xe s
def PS (X : Cx) (st : Stmt) (t : TS) : Prop :=
  ∀ (pins : List (Addr × Obj)) (s : Shared) (σ : St) (H : Hp) (D : Ends), Inv X pins σ H s → t D σ H → wpAny (model X.prog X.w) X.A (exec st X.env) (SP X pins D) X.xe s
def PSs (X : Cx) (st : List Stmt) (t : TS) : Prop :=
  ∀ (pins : List (Addr × Obj)) (s : Shared) (σ : St) (H : Hp) (D : Ends), Inv X pins σ H s → t D σ H → wpAny (model X.prog X.w) X.A (execs st X.env) (SP X pins D) X.xe s
theorem thn {α : Type} {t : Sem α} {Q Q' : α → Shared → Prop} {M : Model} {A : Around} {E : Value → Shared → Prop} {s : Shared} (h : wpAny M A t Q E s) (hQ : ∀ a s, Q a s → Q' a s) : wpAny M A t Q' E s := wpAny_mono h hQ fun _ _ x => x
end L2
namespace L2
open PySem PySem.Spec PyProof.Rows
section
variable {X : Cx}
def tVar (i : Nat) : TE := fun σ H Q => ∃ v, σ[i]? = some (some v) ∧ Q v H
def tC (v : V) : TE := fun _ H Q => Q v H
theorem pe_var {i : Nat} {x : Str} {pos : Pos} (hN : X.N[i]? = some x) (hv : Vis X.env.scope x) (hd : (x == ("__debug__" : Str)) = false := by decide) (hcd : (x == ("__classdict__" : Str)) = false := by decide) : PE X (.Name x pos) (tVar i) := by
  intro pins s σ H Q I h
  obtain ⟨v, e, h⟩ := h
  obtain ⟨m, hn, hl⟩ := I.loc
  obtain ⟨u, r, l⟩ := hl i x v hN e hv
  have fin : EP X pins σ Q u s := ⟨v, H, I, r, h⟩
  rcases l with ⟨hk, hm⟩ | ⟨hk, c, hc, hcell⟩
  · exact wpAny_Name (wpAny_loadName_local I.ok.kind hk hn hm fin) hd
  · rcases hk with hk | hk
    · exact wpAny_Name (wpAny_loadName_cell I.ok.kind hk hc hcell fin) hd
    · exact wpAny_Name (wpAny_loadName_free I.ok.kind hk hc hcell fin hcd) hd
theorem pe_int {i j pos} : PE X (.Constant (.int i) j pos) (tC (.int i)) := fun _ _ _ H _ I h => wpAny_Constant_int ⟨.int i, H, I.tok _, ⟨_, rfl⟩, h⟩
theorem pe_bl {b j pos} : PE X (.Constant (.bool b) j pos) (tC (.bl b)) := fun _ _ _ H _ I h => Constant_bool ⟨.bl b, H, I, rfl, h⟩
theorem pe_str {x j pos} : PE X (.Constant (.str x) j pos) (tC (.str x)) := fun _ _ _ H _ I h => Calls.Constant_str ⟨.str x, H, I.tok _, ⟨_, rfl⟩, h⟩
def Gl (X : Cx) (x : Str) : Prop := X.env.kindOf x = some .globalImplicit
theorem ld_glob {E : Value → Shared → Prop} {pins : List (Addr × Obj)} {s : Shared} {σ : St} {H : Hp} {x : Str} {u : Value} {pos : Pos} {Q : Value → Shared → Prop} (I : Inv X pins σ H s) (hg : Gl X x) (hm : X.mg x = some u) (h : Q u s)
    (hd : (x == ("__debug__" : Str)) = false := by decide) : wpAny (model X.prog X.w) X.A (eval (.Name x pos) X.env) Q E s :=
  Calls.Name_function_global I.ok.kind hg (Calls.loadGlobal_global (by rw [I.ok.glob]; exact I.mod.glob.keeps I.bk) hm h) hd
theorem ld_blt {E : Value → Shared → Prop} {pins : List (Addr × Obj)} {s : Shared} {σ : St} {H : Hp} {x : Str} {u : Value} {pos : Pos} {Q : Value → Shared → Prop} (I : Inv X pins σ H s) (hg : Gl X x) (hm : X.mg x = none) (hv : bootBuiltins x = some u) (h : Q u s)
    (hn : x ≠ "__name__" := by decide) (hd : (x == ("__debug__" : Str)) = false := by decide) : wpAny (model X.prog X.w) X.A (eval (.Name x pos) X.env) Q E s := by
  obtain ⟨mb, h1, h2⟩ := I.mod.blt
  exact Calls.Name_function_global I.ok.kind hg (Calls.loadGlobal_builtin (by rw [I.ok.glob]; exact I.mod.glob.keeps I.bk) hm (by rw [I.ok.blt]; exact h1.keeps I.bk) ((h2 x hn).trans hv) h) hd
theorem pe_bltn {x : Str} {v : V} {u : Value} {pos : Pos} (hg : Gl X x) (hm : X.mg x = none) (hv : bootBuiltins x = some u) (r : RelV v u) (hn : x ≠ "__name__" := by decide) (hd : (x == ("__debug__" : Str)) = false := by decide) : PE X (.Name x pos) (tC v) :=
  fun _ _ _ H _ I h => ld_blt I hg hm hv ⟨v, H, I, r, h⟩ hn hd
def t2I (ta tb : TE) (k : Int → Int → Hp → Prop) : St → Hp → Prop := fun σ H => ta σ H fun x H1 => tb σ H1 fun y H2 => ∃ i j, x = .int i ∧ y = .int j ∧ k i j H2
def tAdd (ta tb : TE) : TE := fun σ H Q => t2I ta tb (fun i j H2 => Q (.int (i + j)) H2) σ H
def tSub (ta tb : TE) : TE := fun σ H Q => t2I ta tb (fun i j H2 => Q (.int (i - j)) H2) σ H
def tMul (ta tb : TE) : TE := fun σ H Q => t2I ta tb (fun i j H2 => (-(2 ^ 64) < i ∧ i < 2 ^ 64) ∧ Q (.int (i * j)) H2) σ H
variable {a b : Expr} {ta tb : TE} {pos : Pos}
def PC (X : Cx) (op : CmpOp) (a b : Expr) (t : TE) : Prop :=
  ∀ (pins : List (Addr × Obj)) (s : Shared) (σ : St) (H : Hp) (Q : VK), Inv X pins σ H s → t σ H Q →
    wpAny (model X.prog X.w) X.A (eval a X.env) (fun v s₁ => wpAny (model X.prog X.w) X.A (eval b X.env) (fun u s₂ => wpAny (model X.prog X.w) X.A (compareOp op v u) (EP X pins σ Q) X.xe s₂) X.xe s₁) X.xe s
theorem nobehind (b : Expr) {op : CmpOp} (h : op ≠ .In) (h2 : op ≠ .NotIn) : behindInMarks op b = false := by
  have e1 : (op == CmpOp.In) = false := by cases op <;> first | rfl | exact absurd rfl h
  have e2 : (op == CmpOp.NotIn) = false := by cases op <;> first | rfl | exact absurd rfl h2
  cases b <;> simp [behindInMarks, e1, e2]
def tCmp (p : Int → Int → Bool) (ta tb : TE) : TE := fun σ H Q => t2I ta tb (fun i j H2 => Q (.bl (p i j)) H2) σ H
abbrev tLt : TE → TE → TE := tCmp fun i j => decide (i < j)
abbrev tLe : TE → TE → TE := tCmp fun i j => decide (i ≤ j)
abbrev tGt : TE → TE → TE := tCmp fun i j => decide (j < i)
abbrev tGe : TE → TE → TE := tCmp fun i j => decide (j ≤ i)
abbrev tEqI : TE → TE → TE := tCmp fun i j => decide (i = j)
abbrev tNeI : TE → TE → TE := tCmp fun i j => !decide (i = j)
def tIsN (ta : TE) : TE := fun σ H Q => ta σ H fun x H1 => Q (.bl (decide (x = .non))) H1
def tNotN (ta : TE) : TE := fun σ H Q => ta σ H fun x H1 => Q (.bl (!decide (x = .non))) H1
theorem RelV.none_iff {x : V} {v : Value} (r : RelV x v) : (v == Value.none) = decide (x = .non) := by
  cases x with
  | non => cases r; rfl
  | bl _ => cases r; rfl
  | int _ => obtain ⟨t, rfl⟩ := r; rfl
  | str _ => obtain ⟨t, rfl⟩ := r; rfl
  | byt _ => obtain ⟨t, rfl⟩ := r; rfl
  | flt _ => obtain ⟨t, rfl⟩ := r; rfl
  | ref _ => cases r; rfl
  | ty _ => cases r; rfl
theorem pc_isN {j pos'} (ha : PE X a ta) : PC X .Is a (.Constant .none j pos') (tIsN ta) := by
  intro pins s σ H Q I h
  refine thn (ha pins s σ H _ I h) fun v s1 ⟨x, H1, I1, r1, q1⟩ => ?_
  exact Constant_none (is_none_gen ⟨.bl _, H1, I1, by rw [r1.none_iff]; rfl, q1⟩)
def tB (t : TE) : TT := fun σ H Q => t σ H fun x H1 => ∃ c, x = .bl c ∧ Q c H1
theorem pe_cmp {op : CmpOp} {t : TE} (h : PC X op a b t) (h1 : behindInMarks op b = false := by first | exact nobehind _ (by decide) (by decide) | rfl) : PE X (.Compare a [op] [b] pos) t := fun pins s σ H Q I hw => wpAny_Compare1 (h pins s σ H Q I hw) h1
theorem pt_cmp {op : CmpOp} {t : TE} (h : PC X op a b t) (h1 : behindInMarks op b = false := by first | exact nobehind _ (by decide) (by decide) | rfl) : PT X (.Compare a [op] [b] pos) (tB t) := by
  intro pins s σ H Q I hw
  refine wpAny_isTrue_Compare1 (thn (h pins s σ H _ I hw) fun v s1 h1 => thn h1 fun u s2 h2 => thn h2 fun c s3 ⟨x, H1, I1, r1, q1⟩ => ?_) h1
  obtain ⟨d, rfl, q⟩ := q1
  cases r1
  exact wpAny_truthy_bool ⟨H1, I1, q⟩
theorem pt_val {e : Expr} {t : TE} (h : PE X e t) (he : ∀ whole, isTrue e X.env whole = (do let v ← whole; standAt e.pos; holding [v] (truthy v)) := by intro _; rfl) : PT X e (tB t) := by
  intro pins s σ H Q I hw
  refine isTrue_plain (thn (h pins s σ H _ I hw) fun v s1 ⟨x, H1, I1, r1, q1⟩ => ?_) (he _)
  obtain ⟨d, rfl, q⟩ := q1
  cases r1
  exact wpAny_truthy_bool ⟨H1, I1, q⟩
variable {tA tB' : TT} {rest : List Expr}
def tAnd (t u : TT) : TT := fun σ H Q => t σ H fun c H1 => if c = true then u σ H1 Q else Q false H1
def tOr (t u : TT) : TT := fun σ H Q => t σ H fun c H1 => if c = true then Q true H1 else u σ H1 Q
def tNot (t : TT) : TT := fun σ H Q => t σ H fun c H1 => Q (!c) H1
theorem pw_and1 (ha : PT X a tA) : PW X (.BoolOp .And [a] pos) tA := by
  intro wh pins s σ H Q I h
  refine isTrue_and (thn (ha pins s σ H Q I h) fun c s1 e => ?_)
  cases c with
  | true => exact isTrue_and_nil e
  | false => exact e
theorem pw_or1 (ha : PT X a tA) : PW X (.BoolOp .Or [a] pos) tA := by
  intro wh pins s σ H Q I h
  refine isTrue_or (thn (ha pins s σ H Q I h) fun c s1 e => ?_)
  cases c with
  | false => exact isTrue_or_nil e
  | true => exact e
theorem pw_and (ha : PT X a tA) (hb : PW X (.BoolOp .And (b :: rest) pos) tB') : PW X (.BoolOp .And (a :: b :: rest) pos) (tAnd tA tB') := by
  intro wh pins s σ H Q I h
  refine isTrue_and (thn (ha pins s σ H _ I h) fun c s1 ⟨H1, I1, q1⟩ => ?_)
  cases c with
  | true => exact hb wh pins s1 σ H1 Q I1 q1
  | false => exact ⟨H1, I1, q1⟩
theorem pw_or (ha : PT X a tA) (hb : PW X (.BoolOp .Or (b :: rest) pos) tB') : PW X (.BoolOp .Or (a :: b :: rest) pos) (tOr tA tB') := by
  intro wh pins s σ H Q I h
  refine isTrue_or (thn (ha pins s σ H _ I h) fun c s1 ⟨H1, I1, q1⟩ => ?_)
  cases c with
  | true => exact ⟨H1, I1, q1⟩
  | false => exact hb wh pins s1 σ H1 Q I1 q1
theorem pt_not (ha : PT X a tA) : PT X (.UnaryOp .Not a pos) (tNot tA) := by
  intro pins s σ H Q I h
  exact isTrue_not (ha pins s σ H (fun c H1 => Q (!c) H1) I h)
def tAndV (ta tb : TE) : TE := fun σ H Q => ta σ H fun x H1 => ∃ c, x = .bl c ∧ if c = true then tb σ H1 Q else Q (.bl false) H1
def tOrV (ta tb : TE) : TE := fun σ H Q => ta σ H fun x H1 => ∃ c, x = .bl c ∧ if c = true then Q (.bl true) H1 else tb σ H1 Q
def tNotV (ta : TE) : TE := fun σ H Q => ta σ H fun x H1 => ∃ c, x = .bl c ∧ Q (.bl (!c)) H1
theorem pe_one {op} {t : TE} (h : PE X a t) : PE X (.BoolOp op [a] pos) t := fun pins s σ H Q I hw => BoolOp_one (h pins s σ H Q I hw)
theorem pe_and (ha : PE X a ta) (hb : PE X (.BoolOp .And (b :: rest) pos) tb) : PE X (.BoolOp .And (a :: b :: rest) pos) (tAndV ta tb) := by
  intro pins s σ H Q I h
  refine BoolOp_and (thn (ha pins s σ H _ I h) fun v s1 ⟨x, H1, I1, r1, q1⟩ => ?_)
  obtain ⟨c, rfl, q1⟩ := q1
  cases r1
  refine wpAny_truthy_bool ?_
  cases c with
  | true => exact hb pins s1 σ H1 Q I1 q1
  | false => exact ⟨.bl false, H1, I1, rfl, q1⟩
theorem pe_not (ha : PE X a ta) : PE X (.UnaryOp .Not a pos) (tNotV ta) := by
  intro pins s σ H Q I h
  refine UnaryOp_ (thn (ha pins s σ H _ I h) fun v s1 ⟨x, H1, I1, r1, q1⟩ => ?_)
  obtain ⟨c, rfl, q1⟩ := q1
  cases r1
  exact not_of (wpAny_truthy_bool ⟨.bl (!c), H1, I1, rfl, q1⟩)
def tIf (t : TT) (ta tb : TE) : TE := fun σ H Q => t σ H fun c H1 => if c = true then ta σ H1 Q else tb σ H1 Q
end
end L2
namespace L2
open PySem PySem.Spec PyProof.Rows
def SqL (K : PySem.W.Frag) (H : Hp) (a : Addr) (xs : List V) : Prop :=
  Rd H a (.lst xs) ∨
    ∃ (o : Obj) (its : Array Value) (n : Nat), K.lookup a = some o ∧ o.cls = .type "list" ∧ o.dict = none ∧ o.data = .seq its n ∧ its.size ≤ sizeLine ∧ Vals xs its.toList
def SqT (K : PySem.W.Frag) (H : Hp) (a : Addr) (xs : List V) : Prop :=
  Rd H a (.tup xs) ∨
    ∃ (o : Obj) (its : Array Value) (n : Nat), K.lookup a = some o ∧ o.cls = .type "tuple" ∧ o.data = .seq its n ∧ its.size ≤ sizeLine ∧ Vals xs its.toList
def absV : Value → Option V
  | .none => some .non
  | .bool b => some (.bl b)
  | .int i _ => some (.int i)
  | .str x _ => some (.str x)
  | .bytes b _ => some (.byt b)
  | .float b _ => some (.flt b)
  | .ref a => some (.ref a)
  | .type n => some (.ty n)
  | _ => none
theorem RelV.abs {x : V} {u : Value} (r : RelV x u) : absV u = some x := by
  cases x with
  | non => cases r; rfl
  | bl _ => cases r; rfl
  | int _ => obtain ⟨t, rfl⟩ := r; rfl
  | str _ => obtain ⟨t, rfl⟩ := r; rfl
  | byt _ => obtain ⟨t, rfl⟩ := r; rfl
  | flt _ => obtain ⟨t, rfl⟩ := r; rfl
  | ref _ => cases r; rfl
  | ty _ => cases r; rfl
theorem RelV.inj {x y : V} {u : Value} (r : RelV x u) (q : RelV y u) : x = y := Option.some.inj (r.abs.symm.trans q.abs)
theorem Vals.inj : ∀ {xs ys : List V} {us : List Value}, Vals xs us → Vals ys us → xs = ys
  | _, _, _, .nil, .nil => rfl
  | _, _, _, .cons r t, .cons r' t' => by rw [r.inj r', Vals.inj t t']
section
variable {X : Cx} {pins : List (Addr × Obj)} {σ : St} {H : Hp} {s : Shared} {a : Addr} {xs ys : List V}
theorem SqL.of {K : PySem.W.Frag} (h : H a = some (.lst xs)) : SqL K H a xs := .inl (.inl h)
theorem SqT.of {K : PySem.W.Frag} (h : H a = some (.tup xs)) : SqT K H a xs := .inl (.inl h)
theorem Inv.list (I : Inv X pins σ H s) (h : SqL X.K H a xs) : ∃ its : List Value, Vals xs its ∧ PlainL s.heap a its.toArray ∧ xs.length ≤ sizeLine := by
  rcases h with h | ⟨o, its, n, hk, hc, hd, hs, hz, r⟩
  · obtain ⟨z, its, n, r, e⟩ := h.ok I.hok
    exact ⟨its, r, ⟨_, n, e, rfl, rfl, rfl⟩, z⟩
  · refine ⟨its.toList, r, ⟨o, n, I.kIn a o hk, hc, hd, by simpa using hs⟩, ?_⟩
    have e := r.length
    simp only [Array.length_toList] at e
    omega
theorem Inv.tuple (I : Inv X pins σ H s) (h : SqT X.K H a xs) : ∃ its : List Value, Vals xs its ∧ IsTup s.heap a its.toArray ∧ xs.length ≤ sizeLine := by
  rcases h with h | ⟨o, its, n, hk, hc, hs, hz, r⟩
  · obtain ⟨z, its, r, p⟩ := h.ok I.hok
    exact ⟨its, r, p, z⟩
  · refine ⟨its.toList, r, ⟨o, I.kIn a o hk, hc, n, by simpa using hs⟩, ?_⟩
    have e := r.length
    simp only [Array.length_toList] at e
    omega
theorem Inv.list_inj (I : Inv X pins σ H s) (h : SqL X.K H a xs) (h' : SqL X.K H a ys) : xs = ys := by
  obtain ⟨its, r, ⟨o, n, e, _, _, d⟩, _⟩ := I.list h
  obtain ⟨its', r', ⟨o', n', e', _, _, d'⟩, _⟩ := I.list h'
  rw [e] at e'; cases e'
  rw [d] at d'
  injection d' with d1 _
  have : its = its' := by simpa using congrArg Array.toList d1
  subst this
  exact r.inj r'
theorem Inv.tuple_inj (I : Inv X pins σ H s) (h : SqT X.K H a xs) (h' : SqT X.K H a ys) : xs = ys := by
  obtain ⟨its, r, ⟨o, e, _, n, d⟩, _⟩ := I.tuple h
  obtain ⟨its', r', ⟨o', e', _, n', d'⟩, _⟩ := I.tuple h'
  rw [e] at e'; cases e'
  rw [d] at d'
  injection d' with d1 _
  have : its = its' := by simpa using congrArg Array.toList d1
  subst this
  exact r.inj r'
end
abbrev Cx.wish (X : Cx) (E : Value → Shared → Prop) : Cx := { X with xe := E }
abbrev Cx.nox (X : Cx) : Cx := X.wish fun _ _ => False
theorem Cx.Ok.wish {X : Cx} (ok : X.Ok) (E : Value → Shared → Prop) : (X.wish E).Ok :=
  ⟨ok.mod, ok.kind, ok.glob, ok.blt, ok.above, ok.inj, ok.has, ok.cab, ok.hd, ok.frames, ok.stk, ok.exf, ok.bs, ok.bsz, ok.noex, ok.exfs, ok.funs, ok.frf⟩
theorem Cx.Ok.unwish {X : Cx} {E : Value → Shared → Prop} (ok : (X.wish E).Ok) : X.Ok :=
  ⟨ok.mod, ok.kind, ok.glob, ok.blt, ok.above, ok.inj, ok.has, ok.cab, ok.hd, ok.frames, ok.stk, ok.exf, ok.bs, ok.bsz, ok.noex, ok.exfs, ok.funs, ok.frf⟩
section
variable {X : Cx} {pins : List (Addr × Obj)} {σ : St} {H : Hp} {s : Shared} {E : Value → Shared → Prop}
theorem Inv.wish (I : Inv X pins σ H s) (E : Value → Shared → Prop) : Inv (X.wish E) pins σ H s := ⟨I.ok.wish E, I.os, I.bare, I.base, I.loc, I.cell, I.free, I.freeC, I.pin, I.hok, I.len⟩
theorem Inv.unwish (I : Inv (X.wish E) pins σ H s) : Inv X pins σ H s := ⟨I.ok.unwish, I.os, I.bare, I.base, I.loc, I.cell, I.free, I.freeC, I.pin, I.hok, I.len⟩
theorem SP.unwish {D : Ends} {f : Flow} {s' : Shared} (h : SP (X.wish E) pins D f s') : SP X pins D f s' := by
  cases f with
  | next => obtain ⟨σ', H', I, q⟩ := h; exact ⟨σ', H', I.unwish, q⟩
  | brk => obtain ⟨σ', H', I, q⟩ := h; exact ⟨σ', H', I.unwish, q⟩
  | cont => obtain ⟨σ', H', I, q⟩ := h; exact ⟨σ', H', I.unwish, q⟩
  | ret u => obtain ⟨v, σ', H', I, r, q⟩ := h; exact ⟨v, σ', H', I.unwish, r, q⟩
theorem PE.nox {e : Expr} {t : TE} (h : PE X.nox e t) : PE X e t := fun pins s σ H Q I hw =>
  wpAny_mono (h pins s σ H Q (I.wish _) hw) (fun _ _ ⟨v, H', I', r, q⟩ => ⟨v, H', I'.unwish, r, q⟩) fun _ _ z => False.elim z
theorem PT.nox {e : Expr} {t : TT} (h : PT X.nox e t) : PT X e t := fun pins s σ H Q I hw =>
  wpAny_mono (h pins s σ H Q (I.wish _) hw) (fun _ _ ⟨H', I', q⟩ => ⟨H', I'.unwish, q⟩) fun _ _ z => False.elim z
theorem PSs.nox {st : List Stmt} {t : TS} (h : PSs X.nox st t) : PSs X st t := fun pins s σ H D I hw =>
  wpAny_mono (h pins s σ H D (I.wish _) hw) (fun _ _ q => q.unwish) fun _ _ z => False.elim z
end
section
variable {X : Cx} {st : Stmt} {rest : List Stmt} {t u : TS} {e : Expr} {te : TE} {pos : Pos}
def tNext : TS := fun D σ H => D.nx σ H
def tSeq (t u : TS) : TS := fun D σ H => t { D with nx := u D } σ H
theorem pss_nil : PSs X [] tNext := fun _ _ σ H _ I h => wpAny_execs_nil ⟨σ, H, I, h⟩
theorem pss_cons (h1 : PS X st t) (h2 : PSs X rest u) : PSs X (st :: rest) (tSeq t u) := by
  intro pins s σ H D I h
  refine wpAny_execs_cons (thn (h1 pins s σ H { D with nx := u D } I h) fun f s1 q => ?_)
  cases f with
  | next =>
    obtain ⟨σ', H', I', q⟩ := q
    exact h2 pins s1 σ' H' D I' q
  | ret v => exact q
  | brk => exact q
  | cont => exact q
theorem pss_one (h1 : PS X st t) : PSs X [st] t := by
  intro pins s σ H D I h
  refine wpAny_execs_cons (thn (h1 pins s σ H D I h) fun f s1 q => ?_)
  cases f with
  | next => exact wpAny_execs_nil q
  | ret v => exact q
  | brk => exact q
  | cont => exact q
def tBreak : TS := fun D σ H => D.bk σ H
def tCont : TS := fun D σ H => D.ct σ H
theorem Inv.quiet {pins : List (Addr × Obj)} {σ : St} {H : Hp} {s : Shared} (I : Inv X pins σ H s) : interactive X.env = false := by simp [interactive, I.ok.kind]
def tDrop (te : TE) : TS := fun D σ H => te σ H fun _ H1 => D.nx σ H1
theorem ps_expr (he : PE X e te) (hs : swapsWith e none pos.line X.env = pure false := by rfl) : PS X (.Expr e pos) (tDrop te) := by
  intro pins s σ H D I h
  exact wpAny_Expr_any (thn (he pins s σ H _ I h) fun v s1 ⟨x, H1, I1, r1, q1⟩ => ⟨σ, H1, I1, q1⟩) I.quiet hs
def tRet (te : TE) : TS := fun D σ H => te σ H D.rt
theorem ps_ret (he : PE X e te) : PS X (.Return (some e) pos) (tRet te) := by
  intro pins s σ H D I h
  exact wpAny_Return_some (thn (he pins s σ H _ I h) fun v s1 ⟨x, H1, I1, r1, q1⟩ => ⟨x, σ, H1, I1, r1, q1⟩)
def tRetN : TS := fun D _ H => D.rt .non H
def tIfS (c : TT) (t u : TS) : TS := fun D σ H => c σ H fun b H1 => if b = true then t D σ H1 else u D σ H1
theorem ps_if {c : Expr} {a b : List Stmt} {tc : TT} (hc : PT X c tc) (ha : PSs X a t) (hb : PSs X b u) : PS X (.If c a b pos) (tIfS tc t u) := by
  intro pins s σ H D I h
  refine wpAny_If (thn (hc pins s σ H _ I h) fun d s1 ⟨H1, I1, q1⟩ => ?_)
  cases d with
  | true => exact ha pins s1 σ H1 D I1 q1
  | false => exact hb pins s1 σ H1 D I1 q1
def tNever : TS := fun _ _ _ => False
end
abbrev TG := V → St → Hp → (St → Hp → Prop) → Prop
abbrev TGs := List V → St → Hp → (St → Hp → Prop) → Prop
def PG (X : Cx) (target : Expr) (t : TG) : Prop :=
  ∀ (pins : List (Addr × Obj)) (s : Shared) (σ : St) (H : Hp) (v : V) (u : Value) (Q : St → Hp → Prop), Inv X pins σ H s → RelV v u → t v σ H Q →
    wpAny (model X.prog X.w) X.A (assign target X.env u) (fun _ s' => ∃ σ' H', Inv X pins σ' H' s' ∧ Q σ' H') X.xe s
def PGs (X : Cx) (ts : List Expr) (t : TGs) : Prop :=
  ∀ (pins : List (Addr × Obj)) (s : Shared) (σ : St) (H : Hp) (vs : List V) (us : List Value) (Q : St → Hp → Prop), Inv X pins σ H s → Vals vs us → t vs σ H Q →
    wpAny (model X.prog X.w) X.A (assignInOrder ((assignEach ts X.env).map (·.2)) us) (fun _ s' => ∃ σ' H', Inv X pins σ' H' s' ∧ Q σ' H') X.xe s
abbrev TSet := V → V → V → Hp → (Hp → Prop) → Prop
def PSet (X : Cx) (t : TSet) : Prop :=
  ∀ (pins : List (Addr × Obj)) (s : Shared) (σ : St) (H : Hp) (o i v : V) (ov iv u : Value) (Q : Hp → Prop), Inv X pins σ H s → RelV o ov → RelV i iv → RelV v u → t o i v H Q →
    wpAny (model X.prog X.w) X.A (setItem ov iv u) (fun _ s' => ∃ H', Inv X pins σ H' s' ∧ Q H') X.xe s
abbrev TIp := V → V → Hp → VK → Prop
def PIp (X : Cx) (op : Operator) (t : TIp) : Prop :=
  ∀ (pins : List (Addr × Obj)) (s : Shared) (σ : St) (H : Hp) (x y : V) (v u : Value) (Q : VK), Inv X pins σ H s → RelV x v → RelV y u → t x y H Q →
    wpAny (model X.prog X.w) X.A (inplaceOp op v u) (EP X pins σ Q) X.xe s
section
variable {X : Cx} {pos : Pos}
def gName (i : Nat) : TG := fun v σ H Q => Q (σ.set i (some v)) H
theorem pg_name {i : Nat} {x : Str} (hN : X.N.Nodup) (hi : X.N[i]? = some x) (hx : Loc X.env.scope x) (hf : X.fn x = true ∨ X.env.scope.names.lookup x = some .local := by first | exact .inl rfl | exact .inr rfl | assumption) : PG X (.Name x pos) (gName i) := by
  intro pins s σ H v u Q I r h
  exact wpAny_assign_Name (store_ok I hN hi hx r (fun s' I' => ⟨_, H, I', h⟩) hf)
def gNil : TGs := fun vs σ H Q => vs = [] ∧ Q σ H
def gCons (t : TG) (u : TGs) : TGs := fun vs σ H Q => ∃ v r, vs = v :: r ∧ t v σ H fun σ' H' => u r σ' H' Q
theorem pgs_nil : PGs X [] gNil := by
  intro pins s σ H vs us Q I r h
  obtain ⟨e, h⟩ := h
  subst e
  cases r
  exact assignInOrder_nil ⟨σ, H, I, h⟩
theorem pgs_cons {e : Expr} {es : List Expr} {t : TG} {u : TGs} (h1 : PG X e t) (h2 : PGs X es u)
    (hs : (assignEach (e :: es) X.env).map (·.2) = assign e X.env :: (assignEach es X.env).map (·.2) := by rfl) : PGs X (e :: es) (gCons t u) := by
  intro pins s σ H vs us Q I r h
  obtain ⟨v, vr, e1, h⟩ := h
  subst e1
  cases r with
  | cons r rr =>
    rw [hs]
    refine assignInOrder_cons (thn (h1 pins s σ H _ _ _ I r h) fun _ s1 ⟨σ1, H1, I1, q1⟩ => ?_)
    exact h2 pins s1 σ1 H1 _ _ Q I1 rr q1
def gTup (K : PySem.W.Frag) (n : Nat) (t : TGs) : TG := fun v σ H Q => ∃ a xs, v = .ref a ∧ SqT K H a xs ∧ xs.length = n ∧ t xs σ H Q
theorem pg_tup {es : List Expr} {k : Nat} {t : TGs} {n : Nat} (hc : X.calm = true) (h : PGs X es t)
    (hn : (assignEach es X.env).length = n := by rfl) (hst : (assignEach es X.env).findIdx? (·.1) = none := by rfl) : PG X (.Tuple es k pos) (gTup X.K n t) := by
  intro pins s σ H v u Q I r hw
  obtain ⟨a, xs, e1, hq, hl, hw⟩ := hw
  subst e1
  cases r
  obtain ⟨its, rv, ht, hz⟩ := I.tuple hq
  refine assign_Tuple_tuple (I.ok.hd hc) ht (by simp [hn, ← hl, rv.length]) hst fun h' hx => ?_
  have I1 : Inv X pins σ H { s with heap := h' } := I.kept (t' := s.toks) fun b o e => hx b o (Nat.ne_of_lt (Heap.lt_size e)) e
  exact h pins _ σ H xs _ Q I1 (by simpa using rv) hw
def gSub (to ti : TE) (t : TSet) : TG := fun v σ H Q => to σ H fun o H1 => ti σ H1 fun i H2 => t o i v H2 fun H3 => Q σ H3
def tAsg (te : TE) (g : TG) : TS := fun D σ H => te σ H fun x H1 => g x σ H1 D.nx
theorem ps_set {i : Nat} {x : Str} {e : Expr} {te : TE} {pos' : Pos} (hN : X.N.Nodup) (hi : X.N[i]? = some x) (hx : Loc X.env.scope x) (he : PE X e te) (hs : swapsWith e (some (.Name x pos')) pos.line X.env = pure false := by rfl) (hf : X.fn x = true ∨ X.env.scope.names.lookup x = some .local := by first | exact .inl rfl | exact .inr rfl | assumption) :
    PS X (.Assign [.Name x pos'] e pos) (tAsg te (gName i)) := by
  intro pins s σ H D I h
  refine wpAny_Assign_Name (thn (he pins s σ H _ I h) fun v s1 ⟨y, H1, I1, r1, q1⟩ => ?_) hs
  exact store_ok I1 hN hi hx r1 (fun s2 I2 => ⟨_, H1, I2, q1⟩) hf
def tPar (i j : Nat) (ta : TA) : TS := fun D σ H => ta σ H fun vs H1 => ∃ v w, vs = [v, w] ∧ D.nx ((σ.set i (some v)).set j (some w)) H1
def tAug (i : Nat) (te : TE) (ti : TIp) : TS := fun D σ H => ∃ x, σ[i]? = some (some x) ∧ te σ H fun y H1 => ti x y H1 fun z H2 => D.nx (σ.set i (some z)) H2
def tAugS (to ti te : TE) (tget : V → V → Hp → VK → Prop) (tip : TIp) (tset : TSet) : TS := fun D σ H => to σ H fun o H1 => ti σ H1 fun i H2 => tget o i H2 fun x H3 => te σ H3 fun y H4 => tip x y H4 fun z H5 => tset o i z H5 fun H6 => D.nx σ H6
def PGet (X : Cx) (t : V → V → Hp → VK → Prop) : Prop :=
  ∀ (pins : List (Addr × Obj)) (s : Shared) (σ : St) (H : Hp) (o i : V) (ov iv : Value) (Q : VK), Inv X pins σ H s → RelV o ov → RelV i iv → t o i H Q →
    wpAny (model X.prog X.w) X.A (getItem ov iv) (EP X pins σ Q) X.xe s
def ipI (f : Int → Int → Int) : TIp := fun x y H Q => ∃ i j, x = .int i ∧ y = .int j ∧ Q (.int (f i j)) H
end
section
variable {X : Cx} {pos : Pos}
def tWhile (c : TT) (tb : TS) : TS := fun D σ H => ∃ W : Nat → St → Hp → Prop, (∃ m, W m σ H) ∧ ∀ m σ H, W m σ H →
  c σ H fun b H1 => if b = true then ∃ N : St → Hp → Prop, (∀ σ' H', N σ' H' → ∃ m', m' < m ∧ W m' σ' H') ∧ tb { D with nx := N, ct := N, bk := D.nx } σ H1 else D.nx σ H1
end
structure It where
  go : Nat → Hp → Prop
  yld : Nat → Hp → V → Hp → Prop
  stop : Nat → Hp → Prop
def FpOk (X : Cx) (pins : List (Addr × Obj)) (H : Hp) (b : Addr) : Prop :=
  H b = none ∧ b ≠ X.env.locals ∧ b ∉ X.fs ∧ (b ∈ X.ex ∨ X.s₀.heap.objs.size ≤ b) ∧ (∀ x c, X.env.cells.lookup x = some c → c ≠ b) ∧ ∀ p ∈ X.pn ++ pins, p.1 ≠ b
theorem Inv.fpOk {X : Cx} {pins : List (Addr × Obj)} {σ : St} {H H' : Hp} {s : Shared} {b : Addr} (I : Inv X pins σ H s) (hb : s.heap.objs.size ≤ b) (hn : H' b = none) : FpOk X pins H' b := by
  refine ⟨hn, Nat.ne_of_gt (Nat.lt_of_lt_of_le I.lt hb), I.nofs hb, .inr (Nat.le_trans I.sz hb), fun x c e z => ?_, fun p hp z => ?_⟩
  · obtain ⟨v, q⟩ := I.cell x c e
    exact absurd (Nat.lt_of_lt_of_le q.lt (by rw [z]; exact hb)) (Nat.lt_irrefl _)
  · exact absurd (Nat.lt_of_lt_of_le (Heap.lt_size (I.pin p hp).1) (by rw [z]; exact hb)) (Nat.lt_irrefl _)
structure Turn (P : Program) (w : World) (K : PySem.W.Frag) (tg : Expr) (J : It) (fp : List Addr) (it : Addr) (tn : Nat → Heap → Prop) : Prop where
  mem : it ∈ fp
  obj : ∀ i h, tn i h → ∀ b ∈ fp, ∃ o, h.get? b = some o ∧ ∀ v, o.data ≠ .cell v
  keep : ∀ i h h', tn i h → (∀ b ∈ fp, ∀ o, h.get? b = some o → h'.get? b = some o) → tn i h'
  item : ∀ (X : Cx), X.prog = P → X.w = w → X.K = K → X.calm = true → ∀ (i : Nat) (pins : List (Addr × Obj)) (s : Shared) (σ : St) (H : Hp) (E : Value → Shared → Prop), Inv X pins σ H s → (∀ b ∈ fp, FpOk X pins H b) → tn i s.heap → J.go i H →
    wpAny (model P w) X.A (pyNext (.ref it)) (fun r s1 => ∃ u, r = some u ∧
      wpAny (model P w) X.A (letOwnedTupleGo tg (.ref it) u) (fun _ s2 => ∃ x H', Inv X pins σ H' s2 ∧ RelV x u ∧ J.yld i H x H' ∧ tn (i + 1) s2.heap ∧ ∀ b ∈ fp, H' b = none) E s1) E s
  done : ∀ (X : Cx), X.prog = P → X.w = w → X.K = K → X.calm = true → ∀ (i : Nat) (pins : List (Addr × Obj)) (s : Shared) (σ : St) (H : Hp) (E : Value → Shared → Prop), Inv X pins σ H s → (∀ b ∈ fp, FpOk X pins H b) → tn i s.heap → J.stop i H →
    wpAny (model P w) X.A (pyNext (.ref it)) (fun r s1 => r = none ∧ Inv X pins σ H s1) E s
  self : ∀ (A : Around) (i : Nat) (s : Shared) (Q : Value → Shared → Prop) (E : Value → Shared → Prop), tn i s.heap → Q (.ref it) s → wpAny (model P w) A (pyIter (.ref it)) Q E s
abbrev TI := St → Hp → (It → Hp → Prop) → Prop
def PIE (X : Cx) (pins : List (Addr × Obj)) (σ : St) (tg : Expr) (R : It → Hp → Prop) (itv : Value) (s2 : Shared) : Prop :=
  ∃ (it : Addr) (fp : List Addr) (tn : Nat → Heap → Prop) (J : It) (H' : Hp), itv = .ref it ∧ Inv X pins σ H' s2 ∧ Turn X.prog X.w X.K tg J fp it tn ∧ tn 0 s2.heap ∧ (∀ b ∈ fp, FpOk X pins H' b) ∧ R J H'
def PI (X : Cx) (tg iter : Expr) (wi : TI) : Prop :=
  ∀ (pins : List (Addr × Obj)) (s : Shared) (σ : St) (H : Hp) (R : It → Hp → Prop), Inv X pins σ H s → wi σ H R →
    wpAny (model X.prog X.w) X.A (eval iter X.env) (fun v s1 => wpAny (model X.prog X.w) X.A (pyIter v) (PIE X pins σ tg R) X.xe s1) X.xe s
theorem go_of {M : Model} {A : Around} {E : Value → Shared → Prop} {s : Shared} {tg : Expr} {it : Addr} {u : Value} {o : Obj} {n : String} {vs : Array Value} {Q : Unit → Shared → Prop} (ho : s.heap.get? it = some o) (hc : o.cls = .type n) (hd : o.data = .fields vs)
    (hn : ["enumerate", "zip", "dict_itemiterator", "dict_reverseitemiterator", "odict_iterator", "itertools.zip_longest", "itertools.pairwise"].contains n = false) (hQ : Q () s) : wpAny M A (letOwnedTupleGo tg (.ref it) u) Q E s := by
  unfold letOwnedTupleGo
  cases tg <;> first
    | exact wpAny_pure hQ
    | (cases u <;> first
        | exact wpAny_pure hQ
        | (refine wpAny_bind (wpAny_load ho ?_)
           rw [hc, hd]
           show wpAny M A (if (["enumerate", "zip", "dict_itemiterator", "dict_reverseitemiterator", "odict_iterator", "itertools.zip_longest", "itertools.pairwise"].contains n && vs[0]? == some (rawInt _)) = true then _ else _) Q E s
           rw [if_neg (by intro h; rw [hn, Bool.false_and] at h; cases h)]
           exact wpAny_pure hQ))
def Itl (K : PySem.W.Frag) (a : Addr) : It :=
  ⟨fun i H => ∃ xs x, SqL K H a xs ∧ xs[i]? = some x, fun i H x H' => H' = H ∧ ∀ xs, SqL K H a xs → xs[i]? = some x, fun i H => ∃ xs, SqL K H a xs ∧ xs.length ≤ i⟩
def Itt (K : PySem.W.Frag) (a : Addr) : It :=
  ⟨fun i H => ∃ xs x, SqT K H a xs ∧ xs[i]? = some x, fun i H x H' => H' = H ∧ ∀ xs, SqT K H a xs → xs[i]? = some x, fun i H => ∃ xs, SqT K H a xs ∧ xs.length ≤ i⟩
def Itr (lo : Int) (n : Nat) : It := ⟨fun i _ => i < n, fun i H x H' => H' = H ∧ x = .int (lo + i), fun i _ => n ≤ i⟩
theorem turn_list {P : Program} {w : World} {K : PySem.W.Frag} {tg : Expr} (a it : Addr) : Turn P w K tg (Itl K a) [it] it (fun i h => h.IsListIter it a i) where
  mem := by simp
  obj := fun i h st b hb => by
    have e : b = it := by simpa using hb
    subst e
    obtain ⟨o, e, c, d⟩ := st
    exact ⟨o, e, fun v z => by rw [d] at z; cases z⟩
  keep := fun i h h' st k => st.at fun o e => k it (by simp) o e
  item := by
    intro X hP hw hK hc i pins s σ H E I hf st hg
    subst hP hw hK
    obtain ⟨xs, x, hq, hx⟩ := hg
    obtain ⟨its, rv, p, hz⟩ := I.list hq
    obtain ⟨u, hu, ru⟩ := rv.get hx
    obtain ⟨f0, f1, f2, f3, f4, f5⟩ := hf it (by simp)
    refine wpAny_pyNext_list_item st p.isList (x := u) (by simpa using hu) fun h' st' sb => ?_
    have I1 : Inv X pins σ H { s with heap := h' } := I.turned (t' := s.toks) (fun b o hb e => (sb.2 b hb).trans e) f0 f1 f3 f4 f5
    obtain ⟨o, e, c, d⟩ := id st'
    exact ⟨u, rfl, go_of (s := { s with heap := h' }) e c d (by decide) ⟨x, H, I1, ru, ⟨rfl, fun ys hy => by rw [I.list_inj hy hq]; exact hx⟩, st', fun b hb => (hf b hb).1⟩⟩
  done := by
    intro X hP hw hK hc i pins s σ H E I hf st hg
    subst hP hw hK
    obtain ⟨xs, hq, hx⟩ := hg
    obtain ⟨its, rv, p, hz⟩ := I.list hq
    obtain ⟨f0, f1, f2, f3, f4, f5⟩ := hf it (by simp)
    have hl := rv.length
    exact wpAny_pyNext_list_end (I.ok.hd hc) st p.isList (by simp; omega) fun h' eb => ⟨rfl, I.turned (t' := s.toks) (fun b o hb e => eb b o hb e) f0 f1 f3 f4 f5⟩
  self := fun _ _ _ _ _ st h => wpAny_pyIter_listiter st h
theorem turn_tuple {P : Program} {w : World} {K : PySem.W.Frag} {tg : Expr} (a it : Addr) : Turn P w K tg (Itt K a) [it] it (fun i h => h.IsTupleIter it a i) where
  mem := by simp
  obj := fun i h st b hb => by
    have e : b = it := by simpa using hb
    subst e
    obtain ⟨o, e, c, d⟩ := st
    exact ⟨o, e, fun v z => by rw [d] at z; cases z⟩
  keep := fun i h h' st k => st.at fun o e => k it (by simp) o e
  item := by
    intro X hP hw hK hc i pins s σ H E I hf st hg
    subst hP hw hK
    obtain ⟨xs, x, hq, hx⟩ := hg
    obtain ⟨its, rv, p, hz⟩ := I.tuple hq
    obtain ⟨u, hu, ru⟩ := rv.get hx
    obtain ⟨f0, f1, f2, f3, f4, f5⟩ := hf it (by simp)
    refine wpAny_pyNext_tuple_item st (show s.heap.IsTuple a its.toArray from p) (x := u) (by simpa using hu) fun h' st' sb => ?_
    have I1 : Inv X pins σ H { s with heap := h' } := I.turned (t' := s.toks) (fun b o hb e => (sb.2 b hb).trans e) f0 f1 f3 f4 f5
    obtain ⟨o, e, c, d⟩ := id st'
    exact ⟨u, rfl, go_of (s := { s with heap := h' }) e c d (by decide) ⟨x, H, I1, ru, ⟨rfl, fun ys hy => by rw [I.tuple_inj hy hq]; exact hx⟩, st', fun b hb => (hf b hb).1⟩⟩
  done := by
    intro X hP hw hK hc i pins s σ H E I hf st hg
    subst hP hw hK
    obtain ⟨xs, hq, hx⟩ := hg
    obtain ⟨its, rv, p, hz⟩ := I.tuple hq
    obtain ⟨f0, f1, f2, f3, f4, f5⟩ := hf it (by simp)
    have hl := rv.length
    exact wpAny_pyNext_tuple_end (I.ok.hd hc) st (show s.heap.IsTuple a its.toArray from p) (by simp; omega) fun h' eb => ⟨rfl, I.turned (t' := s.toks) (fun b o hb e => eb b o hb e) f0 f1 f3 f4 f5⟩
  self := fun _ _ _ _ _ st h => wpAny_pyIter_tupleiter st h
theorem turn_range {P : Program} {w : World} {K : PySem.W.Frag} {tg : Expr} (it : Addr) (lo : Int) (n : Nat) : Turn P w K tg (Itr lo n) [it] it (fun i h => IsRangeIter h it (lo + (i : Nat) * 1) ((n : Int) - (i : Nat)) 1) where
  mem := by simp
  obj := fun i h st b hb => by
    have e : b = it := by simpa using hb
    subst e
    exact ⟨_, st, fun v z => by
      have z' : Data.fields _ = Data.cell v := z
      cases z'⟩
  keep := fun i h h' st k => k it (by simp) _ st
  item := by
    intro X hP hw hK hc i pins s σ H E I hf st hg
    subst hP hw hK
    obtain ⟨f0, f1, f2, f3, f4, f5⟩ := hf it (by simp)
    have W := Walks.range (prog := X.prog) (w := X.w) (I.ok.hd hc) it lo 1 n
    refine W.item i s _ _ hg st fun v h' tk hv st' kk => ?_
    obtain ⟨t, rfl⟩ := hv
    have I1 : Inv X pins σ H { s with heap := h', toks := tk } := I.turned (fun b o hb e => kk b o (by simpa using hb) e) f0 f1 f3 f4 f5
    refine ⟨_, rfl, go_of (s := { s with heap := h', toks := tk }) (n := "range_iterator") st' rfl rfl (by decide) ⟨.int (lo + i), H, I1, ⟨t, ?_⟩, ⟨rfl, rfl⟩, st', fun b hb => (hf b hb).1⟩⟩
    rw [Int.mul_one]
  done := by
    intro X hP hw hK hc i pins s σ H E I hf st hg
    subst hP hw hK
    obtain ⟨f0, f1, f2, f3, f4, f5⟩ := hf it (by simp)
    exact wpAny_pyNext_range_end (I.ok.hd hc) st (by have : n ≤ i := hg; omega) fun h' eb => ⟨rfl, I.turned (t' := s.toks) (fun b o hb e => eb b o hb e) f0 f1 f3 f4 f5⟩
  self := fun _ _ _ _ _ st h => wpAny_pyIter_rangeiter st h
end L2
namespace L2
open PySem PySem.Spec PyProof.Rows
section
variable {X : Cx} {tg : Expr}
def iList (K : PySem.W.Frag) (tl : TE) : TI := fun σ H R => tl σ H fun x H1 => ∃ a, x = .ref a ∧ (∃ xs, SqL K H1 a xs) ∧ R (Itl K a) H1
def iTup (K : PySem.W.Frag) (tl : TE) : TI := fun σ H R => tl σ H fun x H1 => ∃ a, x = .ref a ∧ (∃ xs, SqT K H1 a xs) ∧ R (Itt K a) H1
theorem range_it {pins : List (Addr × Obj)} {σ : St} {H : Hp} {s : Shared} {R : It → Hp → Prop} {E : Value → Shared → Prop} {lo hi : Int} {t u v : Tok} {tk : Nat} (I : Inv X pins σ H s) (h1 : -(2 ^ 62) ≤ lo) (h2 : lo < 2 ^ 62) (h3 : -(2 ^ 62) ≤ hi) (h4 : hi < 2 ^ 62)
    (q : R (Itr lo (hi - lo).toNat) H) : wpAny (model X.prog X.w) X.A (pyIter (.ref s.heap.objs.size)) (PIE X pins σ tg R) E { s with heap := s.heap.push { cls := .type "range", data := .fields #[.int lo t, .int hi u, .int 1 v] }, toks := tk } := by
  refine wpAny_pyIter_range (IsRange.new ..) (small_one h1 h2 h3 h4) ?_
  have I1 : Inv X pins σ H { s with heap := s.heap.push { cls := .type "range", data := .fields #[.int lo t, .int hi u, .int 1 v] }, toks := tk } := I.kept fun b o e => Heap.get?_push_of_some _ e
  refine ⟨(s.heap.push { cls := .type "range", data := .fields #[.int lo t, .int hi u, .int 1 v] }).objs.size, [(s.heap.push { cls := .type "range", data := .fields #[.int lo t, .int hi u, .int 1 v] }).objs.size], _, _, H, rfl,
    I1.kept (t' := tk) fun b o e => Heap.get?_push_of_some _ e, turn_range _ lo (hi - lo).toNat, ?_, fun b hb => ?_, q⟩
  · have e1 : lo + ((0 : Nat) : Int) * 1 = lo := by simp
    have e2 : (((hi - lo).toNat : Nat) : Int) - ((0 : Nat) : Int) = Builtin.Range.rangeSize lo hi 1 := by rw [rangeSize_one]; split <;> omega
    show IsRangeIter _ _ (lo + ((0 : Nat) : Int) * 1) ((((hi - lo).toNat : Nat) : Int) - ((0 : Nat) : Int)) 1
    rw [e1, e2]
    exact Heap.get?_push_size _ rfl
  · have e : b = (s.heap.push { cls := .type "range", data := .fields #[.int lo t, .int hi u, .int 1 v] }).objs.size := by simpa using hb
    subst e
    exact I1.fpOk (Nat.le_refl _) (I1.hok.fresh (Nat.le_refl _))
def iRng1 (ta : TA) : TI := fun σ H R => ta σ H fun vs H1 => ∃ j : Int, vs = [.int j] ∧ -(2 ^ 62) ≤ j ∧ j < 2 ^ 62 ∧ R (Itr 0 j.toNat) H1
def iRng2 (ta : TA) : TI := fun σ H R => ta σ H fun vs H1 => ∃ i j : Int, vs = [.int i, .int j] ∧ (-(2 ^ 62) ≤ i ∧ i < 2 ^ 62 ∧ -(2 ^ 62) ≤ j ∧ j < 2 ^ 62) ∧ R (Itr i (j - i).toNat) H1
theorem pi_range1 {a : Expr} {ta : TA} {p pos : Pos} (hg : Gl X "range") (hm : X.mg "range" = none) (ha : PA X [a] ta) (hs : starEach [a] X.env = [(false, eval a X.env)] := by rfl) : PI X tg (.Call (.Name "range" p) [a] [] pos) (iRng1 ta) := by
  intro pins s σ H R I h
  refine Call_ (ld_blt I hg hm boot_range (PyProof.Rows.callWith_type1 (thn (ha pos pins s σ H _ I h) fun us s1 ⟨vs, H1, I1, r1, q1⟩ => ?_) hs rfl))
  obtain ⟨j, e, q1, q2, q⟩ := q1
  subst e
  cases r1 with
  | cons r rr =>
    cases rr
    obtain ⟨t, rfl⟩ := r
    exact call_range_1 (range_it I1 (by omega) (by omega) q1 q2 (by simpa using q))
theorem pi_range2 {a b : Expr} {ta : TA} {p pos : Pos} (hg : Gl X "range") (hm : X.mg "range" = none) (ha : PA X [a, b] ta) (hs : starEach [a, b] X.env = [(false, eval a X.env), (false, eval b X.env)] := by rfl) (hs2 : starEach [b] X.env = [(false, eval b X.env)] := by rfl) :
    PI X tg (.Call (.Name "range" p) [a, b] [] pos) (iRng2 ta) := by
  intro pins s σ H R I h
  refine Call_ (ld_blt I hg hm boot_range (PyProof.Rows.callWith_type1 (thn (ha pos pins s σ H _ I h) fun us s1 ⟨vs, H1, I1, r1, q1⟩ => ?_) (by rw [hs, hs2]) (by rw [hs2]; rfl)))
  obtain ⟨i, j, e, ⟨q1, q2, q3, q4⟩, q⟩ := q1
  subst e
  cases r1 with
  | cons r rr =>
    cases rr with
    | cons r' rr =>
      cases rr
      obtain ⟨t, rfl⟩ := r
      obtain ⟨t', rfl⟩ := r'
      exact call_range_2 (range_it I1 q1 q2 q3 q4 q)
def tFor (wi : TI) (g : TG) (tb : TS) : TS := fun D σ H => wi σ H fun J H1 => ∃ W : Nat → Nat → St → Hp → Prop, (∃ m, W 0 m σ H1) ∧ ∀ i m σ H, W i m σ H →
  (J.stop i H ∧ D.nx σ H) ∨ (J.go i H ∧ ∃ N : St → Hp → Prop, (∀ σ' H', N σ' H' → ∃ m', m' < m ∧ W (i + 1) m' σ' H') ∧ ∀ x H', J.yld i H x H' → g x σ H' fun σ2 H2 => tb { D with nx := N, ct := N, bk := D.nx } σ2 H2)
def pinsAt (fp : List Addr) (h : Heap) : List (Addr × Obj) := fp.filterMap fun b => (h.get? b).map fun o => (b, o)
theorem mem_pinsAt {fp : List Addr} {h : Heap} {b : Addr} {o : Obj} (hb : b ∈ fp) (e : h.get? b = some o) : (b, o) ∈ pinsAt fp h := List.mem_filterMap.mpr ⟨b, hb, by rw [e]; rfl⟩
theorem of_pinsAt {fp : List Addr} {h : Heap} {p : Addr × Obj} (hp : p ∈ pinsAt fp h) : p.1 ∈ fp ∧ h.get? p.1 = some p.2 := by
  obtain ⟨b, hb, e⟩ := List.mem_filterMap.mp hp
  cases q : h.get? b with
  | none => rw [q] at e; cases e
  | some o =>
    rw [q] at e
    have e' : (b, o) = p := Option.some.inj e
    subst e'
    exact ⟨hb, q⟩
theorem Inv.pinned {pins : List (Addr × Obj)} {σ : St} {H : Hp} {s : Shared} {fp : List Addr} (I : Inv X pins σ H s) (hf : ∀ b ∈ fp, FpOk X pins H b) (ho : ∀ b ∈ fp, ∃ o, s.heap.get? b = some o ∧ ∀ v, o.data ≠ .cell v) : Inv X (pins ++ pinsAt fp s.heap) σ H s :=
  I.pins_of fun p hp => (List.mem_append.mp hp).elim (fun z => I.pin p (List.mem_append_right _ z)) fun z => by
    obtain ⟨hb, e⟩ := of_pinsAt z
    obtain ⟨f0, f1, f2, _⟩ := hf p.1 hb
    obtain ⟨o, e', d⟩ := ho p.1 hb
    rw [e] at e'; cases e'
    exact ⟨e, f0, f1, f2, d⟩
theorem Inv.unpinned {pins pl : List (Addr × Obj)} {σ : St} {H : Hp} {s : Shared} (I : Inv X (pins ++ pl) σ H s) : Inv X pins σ H s := I.pins_of fun p hp => I.pin p (List.mem_append_right _ (List.mem_append_left _ hp))
theorem ps_for {iter : Expr} {body : List Stmt} {wi : TI} {g : TG} {tb : TS} {pos : Pos} (hp : PassesOwn (model X.prog X.w) X.A X.env X.xe) (hc : X.calm = true) (hi : PI X tg iter wi) (hg : PG X tg g) (hb : PSs X body tb)
    (hs : ∀ x, foldedSetIterable iter X.env x = pure x := by intro _; rfl) : PS X (.For tg iter body [] pos) (tFor wi g tb) := by
  intro pins s σ H D I h
  refine wpAny_For (thn (hi pins s σ H _ I h) fun v s1 h1 => thn h1 fun itv s2 h2 => ?_) hs
  obtain ⟨it, fp, tn, J, H2, e, I2, T, st2, f2, W, ⟨m0, w0⟩, turn⟩ := h2
  subst e
  have stat : ∀ {H' : Hp}, (∀ b ∈ fp, H' b = none) → ∀ b ∈ fp, FpOk X pins H' b := fun hn b hb => ⟨hn b hb, (f2 b hb).2⟩
  refine codeAny_forLoop_any (fun n s' => ∃ i σ' H', Inv X pins σ' H' s' ∧ tn i s'.heap ∧ (∀ b ∈ fp, H' b = none) ∧ W i n σ' H') ?_ m0 ⟨0, σ, H2, I2, st2, fun b hb => (f2 b hb).1, w0⟩
  rintro n s3 ⟨i, σ3, H3, I3, st3, fr3, w3⟩
  rcases turn i n σ3 H3 w3 with ⟨stop, qn⟩ | ⟨go, N, hN, step⟩
  · refine wpAny_passesOwn hp (thn (T.done X rfl rfl rfl hc i pins s3 σ3 H3 X.xe I3 (stat fr3) st3 stop) fun r s4 ⟨hr, I4⟩ => ?_)
    subst hr
    exact wpAny_execs_nil ⟨σ3, H3, I4, qn⟩
  · refine wpAny_passesOwn hp (thn (T.item X rfl rfl rfl hc i pins s3 σ3 H3 X.xe I3 (stat fr3) st3 go) fun r s4 ⟨u, hr, h4⟩ => ?_)
    subst hr
    refine wpAny_passesOwn hp (thn h4 fun _ s5 ⟨x, H5, I5, r5, y5, st5, fr5⟩ => ?_)
    have I5' := I5.pinned (stat fr5) (T.obj _ _ st5)
    refine wpAny_passesOwn hp (thn (hg _ s5 σ3 H5 x u _ I5' r5 (step x H5 y5)) fun _ s6 ⟨σ6, H6, I6, q6⟩ => ?_)
    refine wpAny_passesOwn hp (thn (hb _ s6 σ6 H6 _ I6 q6) fun f s7 q7 => ?_)
    have again : ∀ {σ7 : St} {H7 : Hp}, Inv X (pins ++ pinsAt fp s5.heap) σ7 H7 s7 → N σ7 H7 → ∃ m, m < n ∧ ∃ i σ' H', Inv X pins σ' H' s7 ∧ tn i s7.heap ∧ (∀ b ∈ fp, H' b = none) ∧ W i m σ' H' := fun {σ7 H7} I7 n7 => by
      obtain ⟨m', hm, w7⟩ := hN σ7 H7 n7
      refine ⟨m', hm, i + 1, σ7, H7, I7.unpinned, T.keep _ _ _ st5 fun b hb o e => (I7.pin (b, o) (List.mem_append_right _ (List.mem_append_right _ (mem_pinsAt hb e)))).1, fun b hb => ?_, w7⟩
      obtain ⟨o, e, d⟩ := T.obj _ _ st5 b hb
      exact (I7.pin (b, o) (List.mem_append_right _ (List.mem_append_right _ (mem_pinsAt hb e)))).2.1
    cases f with
    | next => obtain ⟨σ7, H7, I7, n7⟩ := q7; exact again I7 n7
    | cont => obtain ⟨σ7, H7, I7, n7⟩ := q7; exact again I7 n7
    | brk => obtain ⟨σ7, H7, I7, q7⟩ := q7; exact ⟨σ7, H7, I7.unpinned, q7⟩
    | ret v => obtain ⟨x7, σ7, H7, I7, r7, q7⟩ := q7; exact ⟨x7, σ7, H7, I7.unpinned, r7, q7⟩
end
end L2
namespace L2
open PySem PySem.Spec PyProof.Rows
abbrev R2 := V → V → Hp → VK → Prop
def OpR (X : Cx) (f : Value → Value → Sem Value) (r : R2) : Prop :=
  ∀ (pins : List (Addr × Obj)) (s : Shared) (σ : St) (H : Hp) (x y : V) (v u : Value) (Q : VK), Inv X pins σ H s → RelV x v → RelV y u → r x y H Q →
    wpAny (model X.prog X.w) X.A (f v u) (EP X pins σ Q) X.xe s
def UnR (X : Cx) (f : Value → Sem Value) (r : V → Hp → VK → Prop) : Prop :=
  ∀ (pins : List (Addr × Obj)) (s : Shared) (σ : St) (H : Hp) (x : V) (v : Value) (Q : VK), Inv X pins σ H s → RelV x v → r x H Q →
    wpAny (model X.prog X.w) X.A (f v) (EP X pins σ Q) X.xe s
def CallR (X : Cx) (f : Value) (r : List V → Hp → VK → Prop) : Prop :=
  ∀ (pins : List (Addr × Obj)) (s : Shared) (σ : St) (H : Hp) (xs : List V) (us : List Value) (Q : VK), Inv X pins σ H s → Vals xs us → r xs H Q →
    wpAny (model X.prog X.w) X.A (call f us) (EP X pins σ Q) X.xe s
def TruR (X : Cx) (r : V → Hp → (Bool → Hp → Prop) → Prop) : Prop :=
  ∀ (pins : List (Addr × Obj)) (s : Shared) (σ : St) (H : Hp) (x : V) (v : Value) (Q : Bool → Hp → Prop), Inv X pins σ H s → RelV x v → r x H Q →
    wpAny (model X.prog X.w) X.A (truthy v) (TP X pins σ Q) X.xe s
def tOp (r : R2) (ta tb : TE) : TE := fun σ H Q => ta σ H fun x H1 => tb σ H1 fun y H2 => r x y H2 Q
def tUn (r : V → Hp → VK → Prop) (ta : TE) : TE := fun σ H Q => ta σ H fun x H1 => r x H1 Q
def rI (C : Int → Int → Prop) (g : Int → Int → V) : R2 := fun x y H Q => ∃ i j, x = .int i ∧ y = .int j ∧ C i j ∧ Q (g i j) H
def rI0 (g : Int → Int → V) : R2 := fun x y H Q => ∃ i j, x = .int i ∧ y = .int j ∧ Q (g i j) H
def rU (g : Int → V) : V → Hp → VK → Prop := fun x H Q => ∃ i, x = .int i ∧ Q (g i) H
section
variable {X : Cx} {a b c : Expr} {ta tb tc : TE} {pos : Pos}
theorem binT (ha : PE X a ta) (hb : PE X b tb) {pins : List (Addr × Obj)} {s : Shared} {σ : St} {H : Hp} {R : V → V → Hp → Prop} (I : Inv X pins σ H s)
    (h : ta σ H fun x H1 => tb σ H1 fun y H2 => R x y H2) {Q : Value → Shared → Prop} {f : Value → Value → Sem Value}
    (hf : ∀ v u s2 x y H2, Inv X pins σ H2 s2 → RelV x v → RelV y u → R x y H2 → wpAny (model X.prog X.w) X.A (f v u) Q X.xe s2) :
    wpAny (model X.prog X.w) X.A (eval a X.env) (fun v s₁ => wpAny (model X.prog X.w) X.A (eval b X.env) (fun u s₂ => wpAny (model X.prog X.w) X.A (f v u) Q X.xe s₂) X.xe s₁) X.xe s := by
  refine thn (ha pins s σ H _ I h) fun v s1 ⟨x, H1, I1, r1, q1⟩ => ?_
  refine thn (hb pins s1 σ H1 _ I1 q1) fun u s2 ⟨y, H2, I2, r2, q2⟩ => ?_
  exact hf v u s2 x y H2 I2 r1 r2 q2
theorem pe_op {op : Operator} {r : R2} (ho : OpR X (binaryOp op) r) (ha : PE X a ta) (hb : PE X b tb) : PE X (.BinOp a op b pos) (tOp r ta tb) := by
  intro pins s σ H Q I h
  exact wpAny_BinOp (binT ha hb I h fun v u s2 x y H2 I2 rx ry q => ho pins s2 σ H2 x y v u Q I2 rx ry q)
theorem pe_un {op : UnaryOp} {r : V → Hp → VK → Prop} (ho : UnR X (unaryOp op) r) (ha : PE X a ta) : PE X (.UnaryOp op a pos) (tUn r ta) := by
  intro pins s σ H Q I h
  exact UnaryOp_ (thn (ha pins s σ H _ I h) fun v s1 ⟨x, H1, I1, r1, q1⟩ => ho pins s1 σ H1 x v Q I1 r1 q1)
theorem opI {f : Value → Value → Sem Value} {C : Int → Int → Prop} {g : Int → Int → Int}
    (rule : ∀ (i j : Int) (t u : Tok) (s : Shared) (Q : Value → Shared → Prop) (E : Value → Shared → Prop), C i j → Q (.int (g i j) s.toks) { s with toks := s.toks + 1 } → wpAny (model X.prog X.w) X.A (f (.int i t) (.int j u)) Q E s) :
    OpR X f (rI C fun i j => .int (g i j)) := by
  intro pins s σ H x y v u Q I rx ry h
  obtain ⟨i, j, rfl, rfl, hc, q⟩ := h
  obtain ⟨t, rfl⟩ := rx
  obtain ⟨t', rfl⟩ := ry
  exact rule i j t t' s _ _ hc ⟨.int (g i j), H, I.tok _, ⟨_, rfl⟩, q⟩
theorem opI0 {f : Value → Value → Sem Value} {g : Int → Int → Int}
    (rule : ∀ (i j : Int) (t u : Tok) (s : Shared) (Q : Value → Shared → Prop) (E : Value → Shared → Prop), Q (.int (g i j) s.toks) { s with toks := s.toks + 1 } → wpAny (model X.prog X.w) X.A (f (.int i t) (.int j u)) Q E s) :
    OpR X f (rI0 fun i j => .int (g i j)) := by
  intro pins s σ H x y v u Q I rx ry h
  obtain ⟨i, j, rfl, rfl, q⟩ := h
  obtain ⟨t, rfl⟩ := rx
  obtain ⟨t', rfl⟩ := ry
  exact rule i j t t' s _ _ ⟨.int (g i j), H, I.tok _, ⟨_, rfl⟩, q⟩
theorem opB0 {f : Value → Value → Sem Value} {g : Int → Int → Bool}
    (rule : ∀ (i j : Int) (t u : Tok) (s : Shared) (Q : Value → Shared → Prop) (E : Value → Shared → Prop), Q (.bool (g i j)) s → wpAny (model X.prog X.w) X.A (f (.int i t) (.int j u)) Q E s) :
    OpR X f (rI0 fun i j => .bl (g i j)) := by
  intro pins s σ H x y v u Q I rx ry h
  obtain ⟨i, j, rfl, rfl, q⟩ := h
  obtain ⟨t, rfl⟩ := rx
  obtain ⟨t', rfl⟩ := ry
  exact rule i j t t' s _ _ ⟨.bl (g i j), H, I, rfl, q⟩
def CDiv (i j : Int) : Prop := 0 < j ∧ j < 1073741824
def CDivN (i j : Int) : Prop := j ≠ 0 ∧ j.natAbs < 1073741824
def CPow (i j : Int) : Prop := 0 ≤ j ∧ j ≤ 1000000 ∧ i.natAbs < 2 ^ 64
def CMul (i j : Int) : Prop := (-(2 ^ 64) < i ∧ i < 2 ^ 64) ∨ (-(2 ^ 64) < j ∧ j < 2 ^ 64)
theorem CMul.ok {i j : Int} (h : CMul i j) : IntMulOk i j := by
  rcases h with ⟨h1, h2⟩ | ⟨h1, h2⟩
  · exact .of_left (intBits_le_64 h1 h2)
  · exact .of_right (intBits_le_64 h1 h2)
theorem two_pow_nn (k : Nat) : (0 : Int) ≤ 2 ^ k := by
  rw [two_pow_cast]
  exact Int.natCast_nonneg _
theorem op_add : OpR X (binaryOp .Add) (rI0 fun i j => .int (i + j)) := opI0 fun _ _ _ _ _ _ _ q => add_int q
theorem op_sub : OpR X (binaryOp .Sub) (rI0 fun i j => .int (i - j)) := opI0 fun _ _ _ _ _ _ _ q => sub_int q
theorem op_mul : OpR X (binaryOp .Mult) (rI CMul fun i j => .int (i * j)) := opI fun _ _ _ _ _ _ _ hc q => mul_int q hc.ok
theorem op_fdiv : OpR X (binaryOp .FloorDiv) (rI CDiv fun i j => .int (i / j)) := opI fun i j _ _ _ _ _ hc q => by
  have h1 : (0 : Int) < j := hc.1
  have h2 : j < 1073741824 := hc.2
  exact floordiv_int (by omega) (by rw [Int.fdiv_eq_ediv_of_nonneg i (by omega)]; exact q) (.inl (PyProof.noPylong_small (by omega)))
theorem op_mod : OpR X (binaryOp .Mod) (rI (fun _ j => 0 < j) fun i j => .int (i % j)) := opI fun i j _ _ _ _ _ hc q => by
  have h1 : (0 : Int) < j := hc
  exact mod_int' (by omega) (by rw [Int.fmod_eq_emod_of_nonneg i (by omega)]; exact q)
theorem op_pow : OpR X (binaryOp .Pow) (rI CPow fun i j => .int (i ^ j.toNat)) := opI fun _ _ _ _ _ _ _ hc q => pow_int_small hc.1 hc.2.1 hc.2.2 q
theorem op_shl : OpR X (binaryOp .LShift) (rI CPow fun i j => .int (i * 2 ^ j.toNat)) := opI fun _ _ _ _ _ _ _ hc q => lshift_int_small hc.1 hc.2.1 hc.2.2 q
theorem op_shr : OpR X (binaryOp .RShift) (rI (fun _ j => 0 ≤ j) fun i j => .int (i / 2 ^ j.toNat)) := opI fun i j _ _ _ _ _ hc q =>
  rshift_int hc (by rw [Int.fdiv_eq_ediv_of_nonneg i (two_pow_nn _)]; exact q)
theorem op_and : OpR X (binaryOp .BitAnd) (rI0 fun i j => .int (Builtin.bitAnd i j)) := opI0 fun _ _ _ _ _ _ _ q => and_int q
theorem op_or : OpR X (binaryOp .BitOr) (rI0 fun i j => .int (Builtin.bitOr i j)) := opI0 fun _ _ _ _ _ _ _ q => or_int q
theorem unI {f : Value → Sem Value} {g : Int → Int}
    (rule : ∀ (i : Int) (t : Tok) (s : Shared) (Q : Value → Shared → Prop) (E : Value → Shared → Prop), Q (.int (g i) s.toks) { s with toks := s.toks + 1 } → wpAny (model X.prog X.w) X.A (f (.int i t)) Q E s) :
    UnR X f (rU fun i => .int (g i)) := by
  intro pins s σ H x v Q I rx h
  obtain ⟨i, rfl, q⟩ := h
  obtain ⟨t, rfl⟩ := rx
  exact rule i t s _ _ ⟨.int (g i), H, I.tok _, ⟨_, rfl⟩, q⟩
theorem un_neg : UnR X (unaryOp .USub) (rU fun i => .int (-i)) := unI fun _ _ _ _ _ q => neg_int q
end
def scal : V → V → Bool
  | .non, .non => true | .non, .int _ => true | .int _, .non => true | .non, .bl _ => true | .bl _, .non => true | .non, .str _ => true | .str _, .non => true
  | .int _, .int _ => true | .bl _, .bl _ => true | .str _, .str _ => true | .byt _, .byt _ => true
  | .int _, .str _ => true | .str _, .int _ => true | .bl _, .str _ => true | .str _, .bl _ => true
  | _, _ => false
def rEq : R2 := fun x y H Q => scal x y = true ∧ Q (.bl (decide (x = y))) H
def rNe : R2 := fun x y H Q => scal x y = true ∧ Q (.bl (!decide (x = y))) H
theorem dec_int {i j : Int} : decide (V.int i = V.int j) = (i == j) := by
  rw [Bool.eq_iff_iff]
  simp
theorem dec_bl {i j : Bool} : decide (V.bl i = V.bl j) = (i == j) := by
  rw [Bool.eq_iff_iff]
  simp
theorem dec_str {i j : Str} : decide (V.str i = V.str j) = (i == j) := by
  rw [Bool.eq_iff_iff]
  simp
theorem dec_byt {i j : Array UInt8} : decide (V.byt i = V.byt j) = (i.toList == j.toList) := by
  rw [Bool.eq_iff_iff]
  cases i
  cases j
  simp
section
variable {X : Cx} {a b c : Expr} {ta tb tc : TE} {pos : Pos}
theorem fin_bl {pins : List (Addr × Obj)} {σ : St} {H : Hp} {s : Shared} {Q : VK} {k k' : Bool} (I : Inv X pins σ H s) (q : Q (.bl k) H) (e : k = k') : EP X pins σ Q (.bool k') s := by
  subst e
  exact ⟨.bl k, H, I, rfl, q⟩
theorem op_eq : OpR X (compareOp .Eq) rEq := by
  intro pins s σ H x y v u Q I rx ry h
  obtain ⟨hs, q⟩ := h
  cases x with
  | non =>
    cases rx
    cases y with
    | non => cases ry; exact PySem.EqNone.eq_none_none (fin_bl I q (by simp))
    | bl j => cases ry; exact PySem.EqNone.eq_none_bool (fin_bl I q (by simp))
    | int j => obtain ⟨t', rfl⟩ := ry; exact PySem.EqNone.eq_none_int (fin_bl I q (by simp))
    | str j => obtain ⟨t', rfl⟩ := ry; exact PySem.EqNone.eq_none_str (fin_bl I q (by simp))
    | _ => exact absurd (show false = true from hs) Bool.false_ne_true
  | bl i =>
    cases rx
    cases y with
    | non => cases ry; exact PySem.EqNone.eq_bool_none (fin_bl I q (by simp))
    | bl j => cases ry; exact eq_bool (fin_bl I q dec_bl)
    | str j => obtain ⟨t', rfl⟩ := ry; exact PySem.EqMixed.eq_bool_str (fin_bl I q (by simp))
    | _ => exact absurd (show false = true from hs) Bool.false_ne_true
  | int i =>
    obtain ⟨t, rfl⟩ := rx
    cases y with
    | non => cases ry; exact PySem.EqNone.eq_int_none (fin_bl I q (by simp))
    | int j => obtain ⟨t', rfl⟩ := ry; exact eq_int (fin_bl I q dec_int)
    | str j => obtain ⟨t', rfl⟩ := ry; exact PySem.EqMixed.eq_int_str (fin_bl I q (by simp))
    | _ => exact absurd (show false = true from hs) Bool.false_ne_true
  | str i =>
    obtain ⟨t, rfl⟩ := rx
    cases y with
    | non => cases ry; exact PySem.EqNone.eq_str_none (fin_bl I q (by simp))
    | bl j => cases ry; exact PySem.EqMixed.eq_str_bool (fin_bl I q (by simp))
    | int j => obtain ⟨t', rfl⟩ := ry; exact PySem.EqMixed.eq_str_int (fin_bl I q (by simp))
    | str j => obtain ⟨t', rfl⟩ := ry; exact eq_str (fin_bl I q dec_str)
    | _ => exact absurd (show false = true from hs) Bool.false_ne_true
  | byt i =>
    obtain ⟨t, rfl⟩ := rx
    cases y with
    | byt j => obtain ⟨t', rfl⟩ := ry; exact PySem.W.eq_bytes (fin_bl I q dec_byt)
    | _ => exact absurd (show false = true from hs) Bool.false_ne_true
  | _ => cases y <;> exact absurd (show false = true from hs) Bool.false_ne_true
theorem op_ne : OpR X (compareOp .NotEq) rNe := by
  intro pins s σ H x y v u Q I rx ry h
  obtain ⟨hs, q⟩ := h
  cases x with
  | non =>
    cases rx
    cases y with
    | non => cases ry; exact PySem.EqNone.ne_none_none (fin_bl I q (by simp))
    | bl j => cases ry; exact PySem.EqNone.ne_none_bool (fin_bl I q (by simp))
    | int j => obtain ⟨t', rfl⟩ := ry; exact PySem.EqNone.ne_none_int (fin_bl I q (by simp))
    | str j => obtain ⟨t', rfl⟩ := ry; exact PySem.EqNone.ne_none_str (fin_bl I q (by simp))
    | _ => exact absurd (show false = true from hs) Bool.false_ne_true
  | bl i =>
    cases rx
    cases y with
    | non => cases ry; exact PySem.EqNone.ne_bool_none (fin_bl I q (by simp))
    | bl j => cases ry; exact ne_bool (fin_bl I q (congrArg not dec_bl))
    | str j => obtain ⟨t', rfl⟩ := ry; exact PySem.EqMixed.ne_bool_str (fin_bl I q (by simp))
    | _ => exact absurd (show false = true from hs) Bool.false_ne_true
  | int i =>
    obtain ⟨t, rfl⟩ := rx
    cases y with
    | non => cases ry; exact PySem.EqNone.ne_int_none (fin_bl I q (by simp))
    | int j => obtain ⟨t', rfl⟩ := ry; exact ne_int (fin_bl I q (congrArg not dec_int))
    | str j => obtain ⟨t', rfl⟩ := ry; exact PySem.EqMixed.ne_int_str (fin_bl I q (by simp))
    | _ => exact absurd (show false = true from hs) Bool.false_ne_true
  | str i =>
    obtain ⟨t, rfl⟩ := rx
    cases y with
    | non => cases ry; exact PySem.EqNone.ne_str_none (fin_bl I q (by simp))
    | bl j => cases ry; exact PySem.EqMixed.ne_str_bool (fin_bl I q (by simp))
    | int j => obtain ⟨t', rfl⟩ := ry; exact PySem.EqMixed.ne_str_int (fin_bl I q (by simp))
    | str j => obtain ⟨t', rfl⟩ := ry; exact ne_str (fin_bl I q (congrArg not dec_str))
    | _ => exact absurd (show false = true from hs) Bool.false_ne_true
  | byt i =>
    obtain ⟨t, rfl⟩ := rx
    cases y with
    | byt j => obtain ⟨t', rfl⟩ := ry; exact PySem.W.ne_bytes (fin_bl I q (congrArg not dec_byt))
    | _ => exact absurd (show false = true from hs) Bool.false_ne_true
  | _ => cases y <;> exact absurd (show false = true from hs) Bool.false_ne_true
theorem op_le : OpR X (compareOp .LtE) (rI0 fun i j => .bl (decide (i ≤ j))) := opB0 fun _ _ _ _ _ _ _ q => le_int q
theorem op_gt : OpR X (compareOp .Gt) (rI0 fun i j => .bl (decide (j < i))) := opB0 fun _ _ _ _ _ _ _ q => gt_int q
def isObj : HO → Bool
  | .lst _ => true
  | .ins _ _ _ => true
  | _ => false
theorem OpR.or {f : Value → Value → Sem Value} {r r' : R2} (h : OpR X f r) (h' : OpR X f r') : OpR X f (fun x y H Q => r x y H Q ∨ r' x y H Q) := by
  intro pins s σ H x y v u Q I rx ry q
  rcases q with q | q
  · exact h pins s σ H x y v u Q I rx ry q
  · exact h' pins s σ H x y v u Q I rx ry q
theorem nomark (b : Expr) {op : CmpOp} (h : op ≠ .In := by decide) (h2 : op ≠ .NotIn := by decide) : behindInMarks op b = false := by
  have e1 : (op == CmpOp.In) = false := by cases op <;> first | rfl | exact absurd rfl h
  have e2 : (op == CmpOp.NotIn) = false := by cases op <;> first | rfl | exact absurd rfl h2
  cases b <;> simp [behindInMarks, e1, e2]
theorem pe_cmpR {op : CmpOp} {r : R2} (ho : OpR X (compareOp op) r) (ha : PE X a ta) (hb : PE X b tb) (hm : behindInMarks op b = false) : PE X (.Compare a [op] [b] pos) (tOp r ta tb) := by
  intro pins s σ H Q I h
  exact wpAny_Compare1 (binT ha hb I h fun v u s2 x y H2 I2 rx ry q => ho pins s2 σ H2 x y v u Q I2 rx ry q) hm
def tTest (t : TE) : TT := fun σ H Q => t σ H fun x H' => ∃ k, x = .bl k ∧ Q k H'
theorem pt_cmpR {op : CmpOp} {r : R2} (ho : OpR X (compareOp op) r) (ha : PE X a ta) (hb : PE X b tb) (hm : behindInMarks op b = false) : PT X (.Compare a [op] [b] pos) (tTest (tOp r ta tb)) := by
  intro pins s σ H Q I h
  refine wpAny_isTrue_Compare1 (thn (ha pins s σ H _ I h) fun v s1 ⟨x, H1, I1, r1, q1⟩ => thn (hb pins s1 σ H1 _ I1 q1) fun u s2 ⟨y, H2, I2, r2, q2⟩ =>
    thn (ho pins s2 σ H2 x y v u _ I2 r1 r2 q2) fun c s3 ⟨z, H3, I3, r3, k, e, q3⟩ => ?_) hm
  subst e
  cases r3
  exact wpAny_truthy_bool ⟨H3, I3, q3⟩
def tChain (r r' : R2) (ta tb tc : TE) : TE := fun σ H Q => ta σ H fun x H1 => tb σ H1 fun y H2 => r x y H2 fun z H3 => ∃ k, z = .bl k ∧
  (if k = true then tc σ H3 fun w' H4 => r' y w' H4 Q else Q (.bl false) H3)
def TruV (K : PySem.W.Frag) (x : V) (H : Hp) (k : Bool) : Prop :=
  match x with
  | .non => k = false
  | .bl b => k = b
  | .int i => k = (i != 0)
  | .str y => y.length ≤ sizeLine ∧ k = ((y.length : Int) != 0)
  | .byt y => y.size ≤ sizeLine ∧ k = ((y.size : Int) != 0)
  | .ref p => (∃ xs, SqL K H p xs ∧ k = !xs.isEmpty) ∨ (∃ xs, SqT K H p xs ∧ k = !xs.isEmpty) ∨ ∃ kvs, H p = some (.dK kvs) ∧ k = !kvs.isEmpty
  | _ => False
theorem line63 : (sizeLine : Nat) < 2 ^ 63 := by rw [sizeLine_eq]; decide
theorem op_add_str : OpR X (binaryOp .Add) (fun x y H Q => ∃ i j, x = .str i ∧ y = .str j ∧ i.length + j.length ≤ sizeLine ∧ Q (.str (i ++ j)) H) := by
  intro pins s σ H x y v u Q I rx ry h
  obtain ⟨i, j, rfl, rfl, hz, q⟩ := h
  obtain ⟨t, rfl⟩ := rx
  obtain ⟨t', rfl⟩ := ry
  exact add_str (fun t' tk => ⟨.str (i ++ j), H, I.tok _, ⟨_, rfl⟩, q⟩) hz
def PlainIxT (b : Expr) : Prop := ∀ o i, subscripted b false o i = operate [o, i] (getItem o i)
theorem vals1 {x : V} {us : List Value} (r : Vals [x] us) : ∃ u, us = [u] ∧ RelV x u := by
  cases r with
  | cons r1 r2 => cases r2; exact ⟨_, rfl, r1⟩
theorem vals2 {x y : V} {us : List Value} (r : Vals [x, y] us) : ∃ u w', us = [u, w'] ∧ RelV x u ∧ RelV y w' := by
  cases r with
  | cons r1 r2 =>
    cases r2 with
    | cons r3 r4 => cases r4; exact ⟨_, _, rfl, r1, r3⟩
theorem call_abs : CallR X (.builtin "abs") (fun xs H Q => ∃ i, xs = [.int i] ∧ Q (.int (if i < 0 then -i else i)) H) := by
  intro pins s σ H xs us Q I r h
  obtain ⟨i, rfl, q⟩ := h
  obtain ⟨u, rfl, t, rfl⟩ := vals1 r
  exact call_abs_int fun u tk => ⟨.int (if i < 0 then -i else i), H, I.tok _, ⟨_, rfl⟩, q⟩
theorem call_int1 : CallR X (.type "int") (fun xs H Q => (∃ i, xs = [.int i] ∧ Q (.int i) H) ∨ ∃ k, xs = [.bl k] ∧ Q (.int (if k then 1 else 0)) H) := by
  intro pins s σ H xs us Q I r h
  rcases h with ⟨i, rfl, q⟩ | ⟨k, rfl, q⟩
  · obtain ⟨u, rfl, t, rfl⟩ := vals1 r
    exact call_int_int ⟨.int i, H, I, ⟨_, rfl⟩, q⟩
  · obtain ⟨u, rfl, r1⟩ := vals1 r
    cases r1
    exact call_int_bool ⟨.int (if k then 1 else 0), H, I.tok _, ⟨_, rfl⟩, q⟩
def LenV (K : PySem.W.Frag) (x : V) (H : Hp) (n : Nat) : Prop :=
  match x with
  | .str y => y.length ≤ sizeLine ∧ n = y.length
  | .byt y => y.size ≤ sizeLine ∧ n = y.size
  | .ref p => (∃ xs, SqL K H p xs ∧ n = xs.length) ∨ ∃ xs, SqT K H p xs ∧ n = xs.length
  | _ => False
end
end L2
namespace L2
open PySem PySem.Spec PyProof.Rows
structure ObjM (h : Heap) (x dx C : Addr) (mA : Str → Option Value) : Prop where
  obj : h.get? x = some (PySem.W.instObj C dx)
  ns : h.Ns1 dx mA
  ne : dx ≠ x
theorem lookIn_ns {h : Heap} {dx : Addr} {mA : Str → Option Value} (n : h.Ns1 dx mA) : ∃ od, h.get? dx = some od ∧ ∀ name, PySem.W.lookIn name od = some (mA name) := by
  obtain ⟨o, es, ep, ho, hd, hk, _, hm⟩ := n
  refine ⟨o, ho, fun name => ?_⟩
  have e := hm name
  unfold nsFind findBy at e
  rw [← Array.find?_toList] at e
  unfold PySem.W.lookIn
  rw [hd]
  dsimp only
  split
  · rename_i y q
    rw [q] at e
    exact congrArg some e
  · rename_i q
    rw [q] at e
    have a : es.toList.any (·.refKey) = false := by
      rw [List.any_eq_false]
      intro y hy
      obtain ⟨z, t, hkey⟩ := hk y (Array.mem_toList_iff.mp hy)
      simp [DictEntry.refKey, hkey]
    have a' : ¬ es.toList.any (·.refKey) = true := by rw [a]; exact Bool.false_ne_true
    rw [if_neg a']
    exact congrArg some e
theorem ObjM.look {h : Heap} {x dx C : Addr} {mA : Str → Option Value} (I : ObjM h x dx C mA) : ∃ od, PySem.W.InstAt h x (PySem.W.instObj C dx) C (some od) ∧ ∀ name, PySem.W.lookIn name od = some (mA name) :=
  let ⟨od, ho, hl⟩ := lookIn_ns I.ns
  ⟨od, ⟨I.obj, rfl, rfl, ho⟩, hl⟩
section
variable {prog : Program} {w : World} {A : Around} {E : Value → Shared → Prop} {s : Shared} {K : PySem.W.Frag} {x dx C f : Addr} {mA : Str → Option Value} {name : Str} {v : Value}
end
def putF (f : Str) (v : V) : List (Str × V) → List (Str × V)
  | [] => [(f, v)]
  | (g, x) :: r => if g = f then (g, v) :: r else (g, x) :: putF f v r
theorem RelO.none_of {o : Option Value} (r : RelO none o) : o = none := by
  cases o with
  | none => rfl
  | some u => exact (show False from r).elim
section
variable {P : Program} {w : World} {H H' : Hp} {h h' : Heap} {a C dx : Addr} {fs fs' : List (Str × V)}
theorem ins_get (hok : HOk P w H h) (e : H a = some (.ins C dx fs)) : ∃ mA, ObjM h a dx C mA ∧ (∀ f, RelO (fs.lookup f) (mA f)) ∧ PySem.Within mA (fs.map (·.1)) ∧ fs.length ≤ 1000 ∧ H dx = some (.own a) := by
  obtain ⟨d, z, ne, ob, mA, n, r, q⟩ := (show ObjOk P w H h a (.ins C dx fs) from hok a _ e)
  exact ⟨mA, ⟨ob, n, ne⟩, r, q, z, d⟩
end
structure Cls (K : PySem.W.Frag) (C : Addr) : Prop where
  pg : PySem.W.plainGet K C Str.empty = true
  hd : PySem.W.hasDictIn K C = true
  po : PySem.W.plainOver K C = true
  sa : PySem.W.findIn K (.ref C) "__setattr__" = some (some (.builtin "object.__setattr__"))
theorem Cls.get {K : PySem.W.Frag} {C : Addr} (c : Cls K C) (f : Str) : PySem.W.plainGet K C f = true := c.pg
def NoAttr (K : PySem.W.Frag) (C : Addr) (f : Str) : Prop := PySem.W.findIn K (.ref C) f = some none
structure Con (K : PySem.W.Frag) (C : Addr) (f : Str) (v : V) (u : Value) : Prop where
  at_ : PySem.W.findIn K (.ref C) f = some (some u)
  rel : RelV v u
  get : PySem.W.specialIn K u "__get__" = some none
  cp : PySem.W.copiedNames.contains f = false
structure Meth (K : PySem.W.Frag) (C : Addr) (m : Str) (f : Addr) : Prop where
  at_ : PySem.W.findIn K (.ref C) m = some (some (.ref f))
  fn : PySem.W.isFn K (.ref f) = true
  kp : PySem.W.keepIn K (.ref f) = true
section
variable {X : Cx} {pins : List (Addr × Obj)} {σ : St} {H : Hp} {s : Shared} {a C dx : Addr} {fs : List (Str × V)} {f : Str} {v : V} {A : Around} {E : Value → Shared → Prop}
theorem Inv.made (I : Inv X pins σ H s) : Inv X pins σ (upd (upd H s.heap.objs.size (.own (s.heap.objs.size + 1))) (s.heap.objs.size + 1) (.ins C s.heap.objs.size []))
    { s with heap := (s.heap.push PySem.W.emptyDict).push (PySem.W.instObj C s.heap.objs.size) } := by
  have e1 : (s.heap.push PySem.W.emptyDict).get? s.heap.objs.size = some PySem.W.emptyDict := Heap.get?_push_size s.heap rfl
  have e2 : ((s.heap.push PySem.W.emptyDict).push (PySem.W.instObj C s.heap.objs.size)).get? (s.heap.objs.size + 1) = some (PySem.W.instObj C s.heap.objs.size) := by
    have := Heap.get?_push_size (s.heap.push PySem.W.emptyDict) (o := PySem.W.instObj C s.heap.objs.size) rfl
    rwa [Heap.size_push] at this
  have e3 : (s.heap.push PySem.W.emptyDict).Ns s.heap.objs.size (fun _ => none) := ⟨PySem.W.emptyDict, #[], _, e1, rfl, (fun e he => absurd he (by simp)), fun _ => rfl⟩
  have I1 := I.laid (a := s.heap.objs.size) (o := .own (s.heap.objs.size + 1)) (h' := s.heap.push PySem.W.emptyDict) (t' := s.toks) (fun b u q => Heap.get?_push_of_some _ q) (Nat.le_refl _) ⟨_, e1⟩
  refine I1.laid (a := s.heap.objs.size + 1) (o := .ins C s.heap.objs.size []) (t' := s.toks) (fun b u q => Heap.get?_push_of_some _ q) (Nat.le_of_eq (Heap.size_push _ _)) ?_
  have ne : s.heap.objs.size ≠ s.heap.objs.size + 1 := Nat.ne_of_lt (Nat.lt_succ_self _)
  refine ⟨by rw [upd_ne ne, upd_same], Nat.zero_le _, ne, e2, fun _ => none, (Heap.Ns1.of_empty e3).at fun o q => Heap.get?_push_of_some _ q, fun _ => True.intro, fun y hy => absurd rfl hy⟩
end
def tFld (K : PySem.W.Frag) (ta : TE) (f : Str) : TE := fun σ H Q => ta σ H fun x H1 => ∃ a C dx fs v, x = .ref a ∧ H1 a = some (.ins C dx fs) ∧ Cls K C ∧ NoAttr K C f ∧ fs.lookup f = some v ∧ Q v H1
def tCon (K : PySem.W.Frag) (ta : TE) (f : Str) : TE := fun σ H Q => ta σ H fun x H1 => ∃ a C dx fs v u, x = .ref a ∧ H1 a = some (.ins C dx fs) ∧ Cls K C ∧ Con K C f v u ∧ fs.lookup f = none ∧ Q v H1
def sFld (K : PySem.W.Frag) (ta tv : TE) (f : Str) : TS := fun D σ H => tv σ H fun y H1 => ta σ H1 fun x H2 => ∃ a C dx fs, x = .ref a ∧ H2 a = some (.ins C dx fs) ∧ Cls K C ∧ NoAttr K C f ∧ fs.length < 1000 ∧
  D.nx σ (upd H2 a (.ins C dx (putF f y fs)))
def InOp (X : Cx) (op : Operator) (rd : V → V → Hp → VK → Prop) : Prop :=
  ∀ (pins : List (Addr × Obj)) (s : Shared) (σ : St) (H : Hp) (x y : V) (u v : Value) (Q : VK), Inv X pins σ H s → RelV x u → RelV y v → rd x y H Q → wpAny (model X.prog X.w) X.A (inplaceOp op u v) (EP X pins σ Q) X.xe s
def sFldAug (K : PySem.W.Frag) (ta tv : TE) (rd : V → V → Hp → VK → Prop) (f : Str) : TS := fun D σ H => ta σ H fun x H1 => ∃ a C dx fs v, x = .ref a ∧ H1 a = some (.ins C dx fs) ∧ Cls K C ∧ NoAttr K C f ∧ fs.lookup f = some v ∧
  tv σ H1 fun y H2 => rd v y H2 fun z H3 => ∃ dx' fs', H3 a = some (.ins C dx' fs') ∧ fs'.length < 1000 ∧ D.nx σ (upd H3 a (.ins C dx' (putF f z fs')))
section
variable {X : Cx} {o e value : Expr} {f : Str} {pos pos' tpos : Pos} {ta tv : TE}
def rAdd : V → V → Hp → VK → Prop := fun x y H Q => ∃ i j, x = .int i ∧ y = .int j ∧ Q (.int (i + j)) H
def rSub : V → V → Hp → VK → Prop := fun x y H Q => ∃ i j, x = .int i ∧ y = .int j ∧ Q (.int (i - j)) H
end
section
variable {X : Cx} {pins : List (Addr × Obj)} {σ : St} {H : Hp} {s : Shared} {A : Around} {E : Value → Shared → Prop} {Q : Value → Shared → Prop} {c : Value} {b : Bool}
inductive TyOf (K : PySem.W.Frag) (H : Hp) : V → Value → Prop where
  | non : TyOf K H .non (.type "NoneType")
  | bl (x : Bool) : TyOf K H (.bl x) (.type "bool")
  | int (i : Int) : TyOf K H (.int i) (.type "int")
  | str (x : Str) : TyOf K H (.str x) (.type "str")
  | flt (x : UInt64) : TyOf K H (.flt x) (.type "float")
  | lst {a : Addr} {xs : List V} (e : H a = some (.lst xs)) : TyOf K H (.ref a) (.type "list")
  | frz {a : Addr} {o : Obj} {xs : List V} (e : H a = some (.frz o (.lst xs))) : TyOf K H (.ref a) (.type "list")
  | tup {a : Addr} {xs : List V} (e : H a = some (.tup xs)) : TyOf K H (.ref a) (.type "tuple")
  | dK {a : Addr} {kvs : List (Key × V)} (e : H a = some (.dK kvs)) : TyOf K H (.ref a) (.type "dict")
  | dT {a : Addr} {kvs : List (List Key × V)} (e : H a = some (.dT kvs)) : TyOf K H (.ref a) (.type "dict")
  | ins {a C dx : Addr} {fs : List (Str × V)} (e : H a = some (.ins C dx fs)) (cl : Cls K C) (ha : PySem.W.findIn K (.ref C) "__class__" = some (some (.builtin "object.__class__")))
      (hn : PySem.W.specialIn K (.builtin "object.__class__") "__get__" = some (some (.builtin "getset_descriptor.__get__"))) (htk : PySem.W.takesIn K (.builtin "object.__class__") = some true)
      (hm : PySem.W.mroIn K C (.type "object") = some true) : TyOf K H (.ref a) (.ref C)
theorem isinst_ok {x : V} {u t : Value} (I : Inv X pins σ H s) (rx : RelV x u) (ty : TyOf X.K H x t) (e : PySem.W.kitOne X.K t c = some b) (h : ∀ tk, Q (.bool b) { s with toks := tk }) :
    wpAny (model X.prog X.w) A (call (.builtin "isinstance") [u, c]) Q E s := by
  cases ty with
  | non => cases (show u = Value.none from rx); exact PySem.W.kia_one PySem.W.kitx_none I.kIn True.intro e (fun z => nomatch z) h
  | bl y => cases (show u = Value.bool y from rx); exact PySem.W.kia_one PySem.W.kitx_bool I.kIn True.intro e (fun z => nomatch z) h
  | int i => obtain ⟨t, q⟩ := (show ∃ t, u = Value.int i t from rx); cases q; exact PySem.W.kia_one PySem.W.kitx_int I.kIn True.intro e (fun z => nomatch z) h
  | str y => obtain ⟨t, q⟩ := (show ∃ t, u = Value.str y t from rx); cases q; exact PySem.W.kia_one PySem.W.kitx_str I.kIn True.intro e (fun z => nomatch z) h
  | flt y => obtain ⟨t, q⟩ := (show ∃ t, u = Value.float y t from rx); cases q; exact PySem.W.kia_one PySem.W.kitx_float I.kIn True.intro e (fun z => nomatch z) h
  | @lst a xs ea =>
    cases (show u = Value.ref a from rx)
    obtain ⟨_, _, n, _, h1⟩ := (show ObjOk X.prog X.w H s.heap a (.lst xs) from I.hok a _ ea)
    exact PySem.W.kia_one PySem.W.kitx_list I.kIn ⟨_, h1, rfl⟩ e (fun z => nomatch z) h
  | @frz a ob xs ea =>
    cases (show u = Value.ref a from rx)
    obtain ⟨_, _, _, n, _, h1⟩ := (show ObjOk X.prog X.w H s.heap a (.frz ob (.lst xs)) from I.hok a _ ea)
    exact PySem.W.kia_one PySem.W.kitx_list I.kIn ⟨_, h1, rfl⟩ e (fun z => nomatch z) h
  | @tup a xs ea =>
    cases (show u = Value.ref a from rx)
    obtain ⟨_, _, _, p⟩ := (show ObjOk X.prog X.w H s.heap a (.tup xs) from I.hok a _ ea)
    obtain ⟨o, h1, h2, _⟩ := p
    exact PySem.W.kia_one PySem.W.kitx_tuple I.kIn ⟨o, h1, h2⟩ e (fun z => nomatch z) h
  | @dK a kvs ea =>
    cases (show u = Value.ref a from rx)
    obtain ⟨_, _, vs, _, p⟩ := (show ObjOk X.prog X.w H s.heap a (.dK kvs) from I.hok a _ ea)
    obtain ⟨o, es, ep, h1, h2, _⟩ := p
    exact PySem.W.kia_one PySem.W.kitx_dict I.kIn ⟨o, h1, h2.1⟩ e (fun z => nomatch z) h
  | @dT a kvs ea =>
    cases (show u = Value.ref a from rx)
    obtain ⟨_, _, xs, _, o, es, ep, h1, h2, _⟩ := (show ObjOk X.prog X.w H s.heap a (.dT kvs) from I.hok a _ ea)
    exact PySem.W.kia_one PySem.W.kitx_dict I.kIn ⟨o, h1, h2.1⟩ e (fun z => nomatch z) h
  | @ins a C dx fs ea cl ha hn htk hm =>
    cases (show u = Value.ref a from rx)
    obtain ⟨mA, O, _⟩ := ins_get I.hok ea
    obtain ⟨od, J, _⟩ := O.look
    exact PySem.W.kia_one (PySem.W.kitx_own (cl.get _) cl.hd ha hn htk hm) I.kIn J e (fun z => nomatch z) h
end
end L2
namespace L2
open PySem PySem.Spec PyProof.Rows
structure Room (k : Nat) (A : Around) : Prop where
  hd : A.handled = none
  dp : A.depth + 3 * k + 5 < recursionLimit
  un : A.units + 16 * k + 200 < cLine
theorem Room.mono {j k : Nat} {A : Around} (r : Room k A) (h : j ≤ k) : Room j A := ⟨r.hd, by have := r.dp; omega, by have := r.un; omega⟩
theorem Room.deeper {k : Nat} {A : Around} (r : Room (k + 1) A) (env : Env) : Room k (A.deeper env) :=
  ⟨r.hd, by have := r.dp; show A.depth + 1 + 3 * k + 5 < _; omega, by have := r.un; show A.units + 3 + 16 * k + 200 < _; omega⟩
theorem Room.in1 {k : Nat} {A : Around} (r : Room (k + 1) A) : Room k A.in1 :=
  ⟨r.hd, by have := r.dp; show A.depth + 3 * k + 5 < _; omega, by have := r.un; show A.units + 1 + 16 * k + 200 < _; omega⟩
theorem make_depth {A : Around} {C : Addr} {us : List Value} {kw : List (Str × Value)} : (A.under (.builtin "type.__call__" ⟨.ref C :: us, kw⟩)).depth = A.depth + 1 := by
  first | rfl | simp [Around.under, Code.weight, Code.isCreation, Code.isGuard, Code.isCaller, Code.frames, Code.isFrame, guardIds]
theorem make_units {A : Around} {C : Addr} {us : List Value} {kw : List (Str × Value)} : (A.under (.builtin "type.__call__" ⟨.ref C :: us, kw⟩)).units = A.units + 1 := by
  first | rfl | simp [Around.under, Code.cUnits, Code.frames, Code.isFrame]
theorem Room.make {k : Nat} {A : Around} (r : Room (k + 1) A) (C : Addr) (us : List Value) (kw : List (Str × Value)) : Room k (A.under (.builtin "type.__call__" ⟨.ref C :: us, kw⟩)) :=
  ⟨r.hd, by have := r.dp; rw [make_depth]; omega, by have := r.un; rw [make_units]; omega⟩
theorem Room.depth {k : Nat} {A : Around} (r : Room k A) : A.depth < recursionLimit := by have := r.dp; omega
theorem Room.units {k : Nat} {A : Around} (r : Room k A) : A.units + 64 < cLine := by have := r.un; omega
def tNil : TA := fun _ H Q => Q [] H
def tCons (ta : TE) (tr : TA) : TA := fun σ H Q => ta σ H fun x H1 => tr σ H1 fun xs H2 => Q (x :: xs) H2
section
variable {X : Cx} {e : Expr} {es : List Expr} {te : TE} {t : TA} {pos : Pos}
theorem pa_nil : PA X [] tNil := fun _ _ _ _ H Q I h => Calls.spliced_nil ⟨[], H, I, .nil, h⟩
theorem pa_cons (ha : PE X e te) (hr : PA X es t) (hs : starEach (e :: es) X.env = (false, eval e X.env) :: starEach es X.env := by rfl) : PA X (e :: es) (tCons te t) := by
  intro pos pins s σ H Q I h
  rw [hs]
  show wpAny _ _ (spliced ((false, eval e X.env) :: backTo pos (starEach es X.env))) _ _ s
  refine Calls.spliced_cons (thn (ha pins s σ H _ I h) fun u s1 ⟨x, H1, I1, r1, q1⟩ => ?_)
  exact thn (hr pos pins s1 σ H1 _ I1 q1) fun us s2 ⟨xs, H2, I2, r2, q2⟩ => ⟨x :: xs, H2, I2, .cons r1 r2, q2⟩
def tTup (t : TA) : TE := fun σ H Q => t σ H fun xs H1 => xs.length ≤ sizeLine ∧ ∀ p, H1 p = none → Q (.ref p) (upd H1 p (.tup xs))
def tLst (t : TA) : TE := fun σ H Q => t σ H fun xs H1 => xs.length ≤ sizeLine ∧ ∀ p, H1 p = none → Q (.ref p) (upd H1 p (.lst xs))
theorem pe_tup {x1} (h : PA X es t) : PE X (.Tuple es x1 pos) (tTup t) := by
  intro pins s σ H Q I hq
  refine wpAny_Tuple_spliced (thn (h pos pins s σ H _ I hq) fun us s1 ⟨xs, H1, I1, r, z, q⟩ => ⟨by rw [← r.length]; exact z, ?_⟩)
  have hf : H1 s1.heap.objs.size = none := I1.hok.fresh (Nat.le_refl _)
  refine ⟨.ref s1.heap.objs.size, upd H1 s1.heap.objs.size (.tup xs), I1.laid (t' := s1.toks) (fun b u e => Heap.get?_push_of_some _ e) (Nat.le_refl _) ?_, rfl, q _ hf⟩
  exact ⟨z, us, r, ⟨_, Heap.get?_push_size _ rfl, rfl, _, rfl⟩⟩
theorem pe_lst (h : PA X es t) : PE X (.List es pos) (tLst t) := by
  intro pins s σ H Q I hq
  refine wpAny_List_spliced (thn (h pos pins s σ H _ I hq) fun us s1 ⟨xs, H1, I1, r, z, q⟩ => ⟨by rw [← r.length]; exact z, ?_⟩)
  have hf : H1 s1.heap.objs.size = none := I1.hok.fresh (Nat.le_refl _)
  refine ⟨.ref s1.heap.objs.size, upd H1 s1.heap.objs.size (.lst xs), I1.laid (t' := s1.toks) (fun b u e => Heap.get?_push_of_some _ e) (Nat.le_refl _) ?_, rfl, q _ hf⟩
  exact ⟨z, us, 0, r, Heap.get?_push_size _ rfl⟩
end
abbrev Sp := List V → Hp → VK → XK → Prop
abbrev CXT := List Env → Hp → Shared → XK → Value → Shared → Prop
structure Env0 (P : Program) (w : World) (K : PySem.W.Frag) (mg : Str → Option Value) (base : Heap) (A : Around) (outer : List Env) (s : Shared) (H : Hp) : Prop where
  frames : A.frames = some outer
  mod : Mod K mg base
  bs : ∀ b o, base.get? b = some o → s.heap.get? b = some o ∧ H b = none
  bsz : base.objs.size ≤ s.heap.objs.size
  funs : s.heap.FunFrames base outer
  frf : ∀ b ∈ frs outer, H b = none
  hok : HOk P w H s.heap
  bare : AllBare s.gens
def CE (outer : List Env) (P : Program) (w : World) (H : Hp) (s : Shared) (Q : VK) (u : Value) (s' : Shared) : Prop :=
  ∃ v H', s'.os = s.os ∧ AllBare s'.gens ∧ Un (frs outer) [] H H' s.heap s'.heap ∧ HOk P w H' s'.heap ∧ RelV v u ∧ Q v H'
def CR (CX : CXT) (outer : List Env) (P : Program) (w : World) (H : Hp) (s : Shared) (Q : VK) (E : XK) (r : Result) (s' : Shared) : Prop :=
  match r with
  | .ok (.ret u) => CE outer P w H s Q u s'
  | .ok _ => False
  | .error e => CX outer H s E e s'
structure FnOk (P : Program) (w : World) (K : PySem.W.Frag) (mg : Str → Option Value) (base : Heap) (CX : CXT) (k : Nat) (f : Addr) (fd : FuncData) (ps : List Str) (sp : Sp) : Prop where
  len : ∀ vs H Q E, sp vs H Q E → vs.length = ps.length
  run : ∀ (A : Around) (outer : List Env) (s : Shared) (H : Hp) (args : Args) (us : List Value) (vs : List V) (Q : VK) (E : XK), Room k A → Env0 P w K mg base A outer s H → BindsTo s fd args (ps.zip us) → Vals vs us → sp vs H Q E →
    codeAny (model P w) A (.call (.ref f) args) (CR CX outer P w H s Q E) s
theorem FnOk.mono {P : Program} {w : World} {K : PySem.W.Frag} {mg : Str → Option Value} {base : Heap} {CX : CXT} {j k : Nat} {f : Addr} {fd : FuncData} {ps : List Str} {sp : Sp} (F : FnOk P w K mg base CX j f fd ps sp) (h : j ≤ k) :
    FnOk P w K mg base CX k f fd ps sp := ⟨F.len, fun A outer s H args us vs Q E hr => F.run A outer s H args us vs Q E (hr.mono h)⟩
theorem FnOk.imp {P : Program} {w : World} {K : PySem.W.Frag} {mg : Str → Option Value} {base : Heap} {CX : CXT} {k : Nat} {f : Addr} {fd : FuncData} {ps : List Str} {sp sp' : Sp} (F : FnOk P w K mg base CX k f fd ps sp)
    (h : ∀ vs H Q E, sp' vs H Q E → sp vs H Q E) : FnOk P w K mg base CX k f fd ps sp' :=
  ⟨fun vs H Q E q => F.len vs H Q E (h _ _ _ _ q), fun A outer s H args us vs Q E hr he hb hv hs => F.run A outer s H args us vs Q E hr he hb hv (h _ _ _ _ hs)⟩
theorem Env0.make {P : Program} {w : World} {K : PySem.W.Frag} {mg : Str → Option Value} {base : Heap} {A : Around} {outer : List Env} {s : Shared} {H : Hp} (e : Env0 P w K mg base A outer s H) (C : Addr) (us : List Value) (kw : List (Str × Value)) :
    Env0 P w K mg base (A.under (.builtin "type.__call__" ⟨.ref C :: us, kw⟩)) outer s H := ⟨by first | exact e.frames | (simpa [Around.under, Code.envs, Code.isFrame, pushEnvs] using e.frames), e.mod, e.bs, e.bsz, e.funs, e.frf, e.hok, e.bare⟩
theorem Env0.in1 {P : Program} {w : World} {K : PySem.W.Frag} {mg : Str → Option Value} {base : Heap} {A : Around} {outer : List Env} {s : Shared} {H : Hp} (e : Env0 P w K mg base A outer s H) :
    Env0 P w K mg base A.in1 outer s H := ⟨e.frames, e.mod, e.bs, e.bsz, e.funs, e.frf, e.hok, e.bare⟩
section
variable {X : Cx} {pins : List (Addr × Obj)} {σ : St} {H : Hp} {s s' : Shared}
theorem Inv.env0 (I : Inv X pins σ H s) : Env0 X.prog X.w X.K X.mg X.base X.A X.stack s H :=
  ⟨I.ok.frames, I.ok.mod, I.bs, Nat.le_trans I.ok.bsz I.sz, I.stack, I.stkFree, I.hok, I.bare⟩
theorem Inv.after {Q : VK} {u : Value} (I : Inv X pins σ H s) (h : CE X.stack X.prog X.w H s Q u s') : EP X pins σ Q u s' := by
  obtain ⟨v, H', os, bare, un, hok, r, q⟩ := h
  obtain ⟨hh, g, d, t, os'⟩ := s'
  obtain rfl : os' = s.os := os
  exact ⟨v, H', I.call (h' := hh) (g' := g) (d' := d) (t' := t) (ch := []) un hok bare (fun b z => absurd z (by simp)), r, q⟩
end
def tCall (sp : Sp) (dvs : List V) (E : XK) (t : TA) : TE := fun σ H Q => t σ H fun vs H1 => sp (vs ++ dvs) H1 Q E
def tMeth (C : Addr) (m : Str) (sp : Sp) (dvs : List V) (E : XK) (ta : TE) (t : TA) : TE := fun σ H Q => ta σ H fun x H1 => ∃ a dx fs, x = .ref a ∧ H1 a = some (.ins C dx fs) ∧ fs.lookup m = none ∧
  t σ H1 fun vs H2 => sp (x :: (vs ++ dvs)) H2 Q E
def tMake (C : Addr) (sp : Sp) (dvs : List V) (E : XK) (t : TA) : TE := fun σ H Q => t σ H fun vs H1 => ∀ x dx, H1 x = none → H1 dx = none → dx ≠ x →
  sp (.ref x :: (vs ++ dvs)) (upd (upd H1 dx (.own x)) x (.ins C dx [])) (fun v H2 => v = .non ∧ Q (.ref x) H2) E
def Binds (K : PySem.W.Frag) (fd : FuncData) (ps : List Str) (ds : List Value) : Prop :=
  ∀ (s : Shared) (us : List Value), K.In s.heap → (us ++ ds).length = ps.length → BindsTo s fd ⟨us, []⟩ (ps.zip (us ++ ds))
theorem Binds.all {K : PySem.W.Frag} {fd : FuncData} {ps : List Str} (h : ∀ us : List Value, us.length = ps.length → bindArgs fd ⟨us, []⟩ = pure (ps.zip us)) : Binds K fd ps [] := fun s us _ hl => by
  rw [List.append_nil] at hl ⊢
  exact .of_eq (h us hl)
def Passes (CX : CXT) (X : Cx) (E : XK) : Prop := ∀ (pins : List (Addr × Obj)) (σ : St) (H : Hp) (s : Shared) (e : Value) (s' : Shared), Inv X pins σ H s → CX X.stack H s E e s' → X.xe e s'
section
variable {X : Cx} {CX : CXT} {k : Nat} {f C : Addr} {fd : FuncData} {ps : List Str} {sp : Sp} {dvs : List V} {ds : List Value} {E : XK} {x m : Str} {p pos apos : Pos} {e o : Expr} {es : List Expr} {ta : TE} {t : TA}
theorem run_fn {pins : List (Addr × Obj)} {σ : St} {H : Hp} {s : Shared} {Q : VK} {us : List Value} {vs : List V} (F : FnOk X.prog X.w X.K X.mg X.base CX k f fd ps sp) (hr : Room k X.A) (hb : Binds X.K fd ps ds) (hd : Vals dvs ds) (hx : Passes CX X E)
    (I : Inv X pins σ H s) (r : Vals vs us) (h : sp (vs ++ dvs) H Q E) : wpAny (model X.prog X.w) X.A (call (.ref f) us) (EP X pins σ Q) X.xe s := by
  have r2 : Vals (vs ++ dvs) (us ++ ds) := r.append hd
  have hl : (us ++ ds).length = ps.length := by rw [← r2.length]; exact F.len _ _ _ _ h
  refine wpAny_call (codeAny_mono (F.run X.A X.stack s H ⟨us, []⟩ (us ++ ds) (vs ++ dvs) Q E hr I.env0 (hb s us I.kIn hl) r2 h) fun r s' hq => ?_)
  cases r with
  | error e => exact hx pins σ H s e s' I hq
  | ok fl =>
    cases fl with
    | ret u => exact I.after hq
    | next => exact False.elim hq
    | brk => exact False.elim hq
    | cont => exact False.elim hq
theorem pe_call (F : FnOk X.prog X.w X.K X.mg X.base CX k f fd ps sp) (hr : Room k X.A) (hg : Gl X x) (hm : X.mg x = some (.ref f)) (hk : PySem.W.keepIn X.K (.ref f) = true) (hb : Binds X.K fd ps ds) (hd : Vals dvs ds) (hx : Passes CX X E)
    (ha : PA X (e :: es) t) (hdb : (x == ("__debug__" : Str)) = false := by decide) (he : starEach (e :: es) X.env = (false, eval e X.env) :: starEach es X.env := by rfl) (hpl : (backTo pos (starEach es X.env)).any (·.1) = false := by rfl) :
    PE X (.Call (.Name x p) (e :: es) [] pos) (tCall sp dvs E t) := by
  intro pins s σ H Q I h
  refine wpAny_Call_Name_kw (ld_glob I hg hm ?_ hdb)
  refine PySem.W.callWith_K (h₀ := X.base) I.ok.mod.kin hk (thn (ha pos pins s σ H _ I h) fun us s1 ⟨vs, H1, I1, r, q⟩ => ⟨I1.kIn, ?_⟩) he hpl
  exact run_fn F hr hb hd hx I1 r q
structure Mk (K : PySem.W.Frag) (C f : Addr) : Prop where
  makes : PySem.W.makesIn K C = true
  init : PySem.W.findIn K (.ref C) "__init__" = some (some (.ref f))
  fn : PySem.W.isFn K (.ref f) = true
  kp : PySem.W.keepIn K (.ref C) = true
end
def PK (X : Cx) (kws : List Keyword) (t : TA) : Prop :=
  ∀ (pos : Pos) (pins : List (Addr × Obj)) (s : Shared) (σ : St) (H : Hp) (Q : List V → Hp → Prop), Inv X pins σ H s → t σ H Q → wpAny (model X.prog X.w) X.A (evalAll ((backToKw pos (keywordEach kws X.env)).map (·.2))) (AP X pins σ Q) X.xe s
section
variable {X : Cx} {CX : CXT} {k : Nat} {f C : Addr} {fd : FuncData} {ps ks : List Str} {sp : Sp} {E : XK} {x m : Str} {p pos apos kpos : Pos} {e o : Expr} {es : List Expr} {kws : List Keyword} {te ta : TE} {t tk : TA} {nm : Option Str}
structure KBinds (K : PySem.W.Frag) (fd : FuncData) (ps ks : List Str) (g : List Value → List Value → List Value) (gV : List V → List V → List V) : Prop where
  to : ∀ (s : Shared) (us ws : List Value), K.In s.heap → (g us ws).length = ps.length → BindsTo s fd ⟨us, ks.zip ws⟩ (ps.zip (g us ws))
  rel : ∀ {vs : List V} {us : List Value} {zs : List V} {ws : List Value}, Vals vs us → Vals zs ws → Vals (gV vs zs) (g us ws)
def tCallK (sp : Sp) (gV : List V → List V → List V) (E : XK) (t tk : TA) : TE := fun σ H Q => t σ H fun vs H1 => tk σ H1 fun zs H2 => sp (gV vs zs) H2 Q E
variable {g : List Value → List Value → List Value} {gV : List V → List V → List V}
end
structure FnScope (N P : List Str) (sc : Scope) : Prop where
  kind : sc.kind = .function
  co : sc.isCoroutine = false
  gen : sc.isGenerator = false
  nd : N.Nodup
  pre : N.take P.length = P
  par : ∀ x ∈ P, sc.names.lookup x = some .local ∨ sc.names.lookup x = some .cell
  nofree : ∀ y ∈ sc.names, y.2 ≠ .free
theorem bindL_out {kindOf : Str → Option NameKind} {x : Str} : ∀ {binds : List (Str × Value)} {m : Str → Option Value}, (∀ v, (x, v) ∉ binds) → bindL kindOf binds m x = m x
  | [], _, _ => rfl
  | (n, v) :: r, m, h => by
    unfold bindL
    rw [bindL_out fun w hw => h w (List.mem_cons_of_mem _ hw)]
    split
    · have : x ≠ n := by rintro rfl; exact h v List.mem_cons_self
      simp [this]
    · rfl
theorem bindC_out {kindOf : Str → Option NameKind} {x : Str} : ∀ {binds : List (Str × Value)} {m : Str → Option Value}, (∀ v, (x, v) ∉ binds) → bindC kindOf binds m x = m x
  | [], _, _ => rfl
  | (n, v) :: r, m, h => by
    unfold bindC
    rw [bindC_out fun w hw => h w (List.mem_cons_of_mem _ hw)]
    split
    · rfl
    · have : x ≠ n := by rintro rfl; exact h v List.mem_cons_self
      simp [this]
theorem bindL_get {kindOf : Str → Option NameKind} {x : Str} {v : Value} : ∀ {P : List Str} {vs : List Value} {i : Nat} {m : Str → Option Value}, P.Nodup → P[i]? = some x → vs[i]? = some v → kindOf x = some .local →
    bindL kindOf (P.zip vs) m x = some v
  | [], _, _, _, _, h, _, _ => by simp at h
  | _ :: _, [], _, _, _, _, h, _ => by simp at h
  | p :: P, w :: vs, 0, m, nd, h1, h2, hk => by
    simp at h1 h2; subst h1; subst h2
    show bindL kindOf ((p, w) :: P.zip vs) m p = _
    unfold bindL
    rw [bindL_out fun v hv => (List.nodup_cons.mp nd).1 (List.of_mem_zip hv).1, if_pos hk]
    simp
  | p :: P, w :: vs, i + 1, m, nd, h1, h2, hk => by
    show bindL kindOf ((p, w) :: P.zip vs) m x = _
    unfold bindL
    exact bindL_get (i := i) (List.nodup_cons.mp nd).2 (by simpa using h1) (by simpa using h2) hk
theorem bindC_get {kindOf : Str → Option NameKind} {x : Str} {v : Value} : ∀ {P : List Str} {vs : List Value} {i : Nat} {m : Str → Option Value}, P.Nodup → P[i]? = some x → vs[i]? = some v → kindOf x ≠ some .local →
    bindC kindOf (P.zip vs) m x = some v
  | [], _, _, _, _, h, _, _ => by simp at h
  | _ :: _, [], _, _, _, _, h, _ => by simp at h
  | p :: P, w :: vs, 0, m, nd, h1, h2, hk => by
    simp at h1 h2; subst h1; subst h2
    show bindC kindOf ((p, w) :: P.zip vs) m p = _
    unfold bindC
    rw [bindC_out fun v hv => (List.nodup_cons.mp nd).1 (List.of_mem_zip hv).1, if_neg hk]
    simp
  | p :: P, w :: vs, i + 1, m, nd, h1, h2, hk => by
    show bindC kindOf ((p, w) :: P.zip vs) m x = _
    unfold bindC
    exact bindC_get (i := i) (List.nodup_cons.mp nd).2 (by simpa using h1) (by simpa using h2) hk
def start (N : List Str) (vs : List V) : St := vs.map some ++ List.replicate (N.length - vs.length) none
def cxOf (CX : CXT) (P : Program) (w : World) (K : PySem.W.Frag) (mg : Str → Option Value) (base : Heap) (N : List Str) (qual : Str) (scope : Scope) (f : Addr) (cd : Value) (A : Around) (outer : List Env) (s : Shared) (H : Hp) (E : XK) : Cx where
  prog := P
  w := w
  K := K
  mg := mg
  base := base
  A := A.deeper (envOfC qual scope s.heap.objs.size f cd)
  N := N
  s₀ := s
  H₀ := H
  env := envOfC qual scope s.heap.objs.size f cd
  outer := outer
  stack := envOfC qual scope s.heap.objs.size f cd :: outer
  ex := []
  calm := true
  fn := fun _ => true
  pn := []
  xe := fun e s' => wpAny (model P w) (A.deeper (envOfC qual scope s.heap.objs.size f cd)) (leaving (envOfC qual scope s.heap.objs.size f cd) e) (fun _ s'' => CX outer H s E e s'') (fun e' s'' => CX outer H s E e' s'') s'
theorem cell_has {sc : Scope} {n : Nat} {x : Str} (h : sc.names.lookup x = some .cell) : ∃ c, (cellsFrom n sc.names []).lookup x = some c := by
  have q := PySem.W.cellsFrom_some sc.names n [] (.inl h)
  exact Option.isSome_iff_exists.mp q
theorem inv_start {CX : CXT} {P : Program} {w : World} {K : PySem.W.Frag} {mg : Str → Option Value} {base : Heap} {N ps : List Str} {qual : Str} {scope : Scope} {f : Addr} {cd : Value} {A : Around} {outer : List Env} {s s1 : Shared} {H : Hp} {E : XK} {us : List Value} {vs : List V}
    (S : FnScope N ps scope) (hd : A.handled = none) (e0 : Env0 P w K mg base A outer s H) (hl : vs.length = ps.length) (r : Vals vs us)
    (x : InCallC s s.heap.objs.size (bindL (envOfC qual scope s.heap.objs.size f cd).kindOf (ps.zip us) fun _ => none) (cellsFrom (s.heap.objs.size + 1) scope.names []) (bindC (envOfC qual scope s.heap.objs.size f cd).kindOf (ps.zip us) fun _ => none) s1) :
    Inv (cxOf CX P w K mg base N qual scope f cd A outer s H E) [] (start N vs) H s1 := by
  have hpl : ps.length ≤ N.length := by have := congrArg List.length S.pre; rw [List.length_take] at this; omega
  obtain ⟨h1, tk, rfl, hk⟩ := x.done
  have noA : ∀ b : Addr, b ∉ (cxOf CX P w K mg base N qual scope f cd A outer s H E).ex := fun b z => absurd (show b ∈ ([] : List Addr) from z) (by simp)
  refine ⟨⟨e0.mod, S.kind, rfl, rfl, Nat.le_refl _, fun y z c h1 h2 => ?_, fun y hy => ?_, fun y c _ h => ?_, fun _ => hd, Around.frames_deeper e0.frames, .inr ⟨rfl, rfl⟩, fun b z => absurd z (noA b), e0.bs, e0.bsz, fun b _ _ => noA b, fun b z => absurd z (noA b), e0.funs, e0.frf⟩,
    rfl, e0.bare, Un.kept hk, ⟨_, x.toInCall.ns, fun i y v h1 h2 h3 => ?_⟩, fun y c h => ⟨_, x.cell y c h⟩, e0.hok.fresh (Nat.le_refl _), fun y c h => ?_, fun p hp => absurd (show p ∈ ([] : List (Addr × Obj)) from hp) (by simp), e0.hok.kept hk, ?_⟩
  · exact name_of_addr x.apart (PySem.mem_of_lookup h1) (PySem.mem_of_lookup h2)
  · have hy : scope.names.lookup y = some .cell ∨ scope.names.lookup y = some .free := hy
    rcases hy with hy | hy
    · exact cell_has hy
    · exact absurd rfl (S.nofree _ (PySem.mem_of_lookup hy))
  · exact Nat.le_of_lt (x.above y c (PySem.mem_of_lookup h))
  · have hi : i < vs.length := by
      unfold start at h2
      by_cases hi : i < vs.length
      · exact hi
      · rw [List.getElem?_append_right (by simpa using hi)] at h2
        rw [List.getElem?_replicate] at h2
        split at h2 <;> cases h2
    have ha : vs[i]? = some v := by
      unfold start at h2
      rw [List.getElem?_append_left (by simpa using hi), List.getElem?_map] at h2
      cases e : vs[i]? with
      | none => rw [e] at h2; cases h2
      | some a => rw [e] at h2; cases h2; rfl
    obtain ⟨u, hu, rv⟩ := r.get ha
    have hp : ps[i]? = some y := by
      rw [← S.pre, List.getElem?_take_of_lt (by omega)]; exact h1
    have ndP : ps.Nodup := by rw [← S.pre]; exact S.nd.sublist (List.take_sublist _ _)
    refine ⟨u, rv, ?_⟩
    rcases S.par y (List.mem_of_getElem? hp) with k | k
    · exact .inl ⟨k, bindL_get ndP hp hu k⟩
    · obtain ⟨c, e⟩ := cell_has (n := s.heap.objs.size + 1) k
      refine .inr ⟨.inl k, c, e, ?_⟩
      have q := x.cell y c e
      rw [bindC_get ndP hp hu (by show scope.names.lookup y ≠ _; rw [k]; decide)] at q
      exact q
  · exact e0.hok.fresh (Nat.le_of_lt (x.above y c (PySem.mem_of_lookup h)))
  · unfold start
    show _ = N.length
    rw [List.length_append, List.length_map, List.length_replicate]
    omega
theorem fn_of {CX : CXT} {P : Program} {w : World} {K : PySem.W.Frag} {mg : Str → Option Value} {base : Heap} {k : Nat} {f : Addr} {name qual : Str} {params : Arguments} {body : List Stmt} {scope : Scope} {dV kV doc pm cdv ct oc : Value} {an od : Option Addr}
    {osl : Array (Option Value)} {N ps : List Str} {sp : Sp} (lk : K.lookup f = some ⟨oc, od, .func (PySem.W.fnOf name qual params body scope dV kV doc pm an cdv ct), osl⟩) (hcd : PySem.W.codeIn K cdv qual = true) (S : FnScope N ps scope)
    (len : ∀ vs H Q E, sp vs H Q E → vs.length = ps.length)
    (hbody : ∀ (A : Around) (outer : List Env) (s : Shared) (H : Hp) (vs : List V) (Q : VK) (E : XK), Room k (A.deeper (envOfC qual scope s.heap.objs.size f cdv)) → sp vs H Q E →
      ∃ t, PSs (cxOf CX P w K mg base N qual scope f cdv A outer s H E) body t ∧ t { nx := fun _ H' => Q .non H', rt := Q } (start N vs) H) :
    FnOk P w K mg base CX (k + 1) f (PySem.W.fnOf name qual params body scope dV kV doc pm an cdv ct) ps sp := by
  refine ⟨len, fun A outer s H args us vs Q E hr e0 hb r hsp => ?_⟩
  have hl := len _ _ _ _ hsp
  have KX : K.In s.heap := e0.mod.kin.keeps fun b o e => (e0.bs b o e).1
  have lim : s.heap.NoLimit := e0.mod.nolimit.keeps fun b o e => (e0.bs b o e).1
  have hkind : ∀ y ∈ ps.zip us, scope.names.lookup y.1 = some .local ∨ (scope.names.lookup y.1 = some .cell ∧ ((cellsFrom (s.heap.objs.size + 1) scope.names []).lookup y.1).isSome = true) := fun ⟨n, v⟩ hy => by
    rcases S.par n (List.of_mem_zip hy).1 with q | q
    · exact .inl q
    · exact .inr ⟨q, PySem.W.cellsFrom_some _ _ _ (.inl q)⟩
  refine codeAny_call_function hr.depth (KX _ _ lk) rfl S.co S.gen rfl (PySem.W.codeRec_of KX hcd) (hb _ _ _ _ ?_)
  refine wpAny_newFunctionEnv_cells S.kind hkind fun env he s1 x => ?_
  subst he
  refine ⟨lim.keeps x.toInCall.keep, codeAny_func ?_⟩
  obtain ⟨t, ht, hq⟩ := hbody A outer s H vs Q E (hr.deeper _) hsp
  have I : Inv (cxOf CX P w K mg base N qual scope f cdv A outer s H E) [] (start N vs) H s1 := inv_start S hr.hd e0 hl r x
  refine wpAny_mono (ht [] s1 (start N vs) H _ I hq) (fun fl s' hs => ?_) fun e s' hs => hs
  have fin : ∀ {σ' : St} {H' : Hp} {v : V} {u : Value}, Inv (cxOf CX P w K mg base N qual scope f cdv A outer s H E) [] σ' H' s' → RelV v u → Q v H' → CE outer P w H s Q u s' :=
    fun {σ' H' v u} J rv q => ⟨v, H', J.os, J.bare, J.base, J.hok, rv, q⟩
  cases fl with
  | ret u =>
    obtain ⟨v, σ', H', J, rv, q⟩ := hs
    exact fin J rv q
  | next =>
    obtain ⟨σ', H', J, q⟩ := hs
    exact fin (v := V.non) (u := Value.none) J rfl q
  | brk =>
    obtain ⟨_, _, _, q⟩ := hs
    exact False.elim q
  | cont =>
    obtain ⟨_, _, _, q⟩ := hs
    exact False.elim q
end L2
namespace L2
open PySem PySem.Spec PyProof.Rows
section
variable {X : Cx} {x : Str} {p pos : Pos} {e : Expr} {es : List Expr} {t : TA} {id T : String} {r : List V → Hp → VK → Prop}
def tCB (r : List V → Hp → VK → Prop) (t : TA) : TE := fun σ H Q => t σ H fun vs H1 => r vs H1 Q
theorem pe_callB (hc : CallR X (.builtin id) r) (hg : Gl X x) (hm : X.mg x = none) (hv : bootBuiltins x = some (.builtin id)) (ha : PA X (e :: es) t) (hn : x ≠ "__name__" := by decide) (hdb : (x == ("__debug__" : Str)) = false := by decide)
    (he : starEach (e :: es) X.env = (false, eval e X.env) :: starEach es X.env := by rfl) (hpl : (backTo pos (starEach es X.env)).any (·.1) = false := by rfl) : PE X (.Call (.Name x p) (e :: es) [] pos) (tCB r t) := by
  intro pins s σ H Q I h
  refine wpAny_Call_Name_kw (ld_blt I hg hm hv ?_ hn hdb)
  exact PyProof.Rows.callWith_builtin1 (thn (ha pos pins s σ H _ I h) fun us s1 ⟨vs, H1, I1, r1, q1⟩ => hc pins s1 σ H1 vs us Q I1 r1 q1) he hpl
theorem pe_callTy (hc : CallR X (.type T) r) (hg : Gl X x) (hm : X.mg x = none) (hv : bootBuiltins x = some (.type T)) (ha : PA X (e :: es) t) (hn : x ≠ "__name__" := by decide) (hdb : (x == ("__debug__" : Str)) = false := by decide)
    (he : starEach (e :: es) X.env = (false, eval e X.env) :: starEach es X.env := by rfl) (hpl : (backTo pos (starEach es X.env)).any (·.1) = false := by rfl) : PE X (.Call (.Name x p) (e :: es) [] pos) (tCB r t) := by
  intro pins s σ H Q I h
  refine wpAny_Call_Name_kw (ld_blt I hg hm hv ?_ hn hdb)
  exact PyProof.Rows.callWith_type1 (thn (ha pos pins s σ H _ I h) fun us s1 ⟨vs, H1, I1, r1, q1⟩ => hc pins s1 σ H1 vs us Q I1 r1 q1) he hpl
end
end L2
namespace HT
open PySem PyProof.Rows
def lexLt : List Int → List Int → Bool
  | [], [] => false
  | [], _ :: _ => true
  | _ :: _, [] => false
  | x :: xs, y :: ys => if x = y then lexLt xs ys else decide (x < y)
section
open PySem.SeqAt
open PySem.AutoSeq1 (wpAny_loadPart')
open PySem.MeetsSeq PySem.MeetsSeq2 PySem.MeetsSeq3
end
section
variable {prog : Program} {w : World} {A : Around} {E : Value → Shared → Prop} {s : Shared}
theorem cat_tup {t b : Addr} {vs ws : List Value} {Q : Value → Shared → Prop} (ht : IsTup s.heap t vs.toArray) (hb : IsTup s.heap b ws.toArray) (hv : vs ≠ [])
    (h1 : ws = [] → Q (.ref t) s) (h2 : ws ≠ [] → Q (.ref s.heap.objs.size) { s with heap := s.heap.push { cls := .type "tuple", data := .seq (vs ++ ws).toArray } })
    (hsz : vs.length + ws.length ≤ sizeLine) : wpAny (model prog w) A (binaryOp .Add (.ref t) (.ref b)) Q E s := by
  obtain ⟨⟨cls, dd, data, sl⟩, ho, hc, n, hd⟩ := id ht
  obtain ⟨⟨cls2, dd2, data2, sl2⟩, ho2, hc2, n2, hd2⟩ := id hb
  simp only at hc hd hc2 hd2
  subst hc hd hc2 hd2
  have e : vs.toArray ++ ws.toArray = (vs ++ ws).toArray := by simp
  by_cases hw : ws = []
  · exact concat_meets ⟨_, ho, rfl⟩ ⟨_, ho2, rfl⟩ noFill_tuple_add seq_tuple_add PySem.F.slot_tuple_add PySem.F.entry_tuple_add (PySem.F.args_tuple_add_2 _ _)
      (tuple_addW1 t b vs.toArray ws.toArray n n2 dd dd2 sl sl2 (by simpa using hv) (by simp [hw])) ⟨ho, ho2, h1 hw⟩
  · refine concat_meets ⟨_, ho, rfl⟩ ⟨_, ho2, rfl⟩ noFill_tuple_add seq_tuple_add PySem.F.slot_tuple_add PySem.F.entry_tuple_add (PySem.F.args_tuple_add_2 _ _)
      (tuple_addW2 t b vs.toArray ws.toArray n n2 dd dd2 sl sl2 (by simpa using hv) (by simpa using hw) (by rw [List.size_toArray, List.size_toArray]; exact hsz)) ⟨ho, ho2, ?_⟩
    rw [e]
    exact h2 hw
def sIx (n d : Nat) : Option Int → Nat
  | none => d
  | some v => if v < 0 then (v + (n : Int)).toNat else min v.toNat n
theorem sIx_nat (n d k : Nat) : sIx n d (some (k : Int)) = min k n := by
  show (if (k : Int) < 0 then ((k : Int) + (n : Int)).toNat else min (k : Int).toNat n) = min k n
  rw [if_neg (by omega), Int.toNat_natCast]
theorem sIx_le (n d : Nat) (hd : d ≤ n) (o : Option Int) : sIx n d o ≤ n := by
  cases o with
  | none => exact hd
  | some v =>
    show (if v < 0 then (v + (n : Int)).toNat else min v.toNat n) ≤ n
    by_cases hv : v < 0
    · rw [if_pos hv]; omega
    · rw [if_neg hv]; exact Nat.min_le_right _ _
theorem clip_eq (v : Int) (n d : Nat) : (if v < 0 then max (v + (n : Int)) 0 else min v (n : Int)) = ((sIx n d (some v) : Nat) : Int) := by
  show (if v < 0 then max (v + (n : Int)) 0 else min v (n : Int)) = (((if v < 0 then (v + (n : Int)).toNat else min v.toNat n) : Nat) : Int)
  by_cases hv : v < 0
  · simp only [if_pos hv]; omega
  · simp only [if_neg hv]; omega
theorem adjust_gen (lo hi : Option Int) (n : Nat) : Builtin.Slice.sliceAdjust lo hi 1 (n : Int) = (((sIx n 0 lo : Nat) : Int), ((sIx n n hi : Nat) : Int)) := by
  have h1 : ¬ ((1 : Int) < 0) := by omega
  unfold Builtin.Slice.sliceAdjust
  simp only [h1, if_false]
  refine Prod.ext ?_ ?_
  · cases lo with
    | none => rfl
    | some v => exact clip_eq v n 0
  · cases hi with
    | none => rfl
    | some v => exact clip_eq v n n
theorem places_gen (i j : Nat) : Builtin.Slice.slicePlaces (i : Int) (j : Int) 1 = j - i := by
  unfold Builtin.Slice.slicePlaces
  have h1 : (1 : Int) > 0 := by omega
  simp only [h1, if_true, Int.ediv_one]
  split <;> omega
theorem slicePart_ {v : Value} {o : Option Int} {Q : Option Int → Shared → Prop} (p : IsPart v o) (h : Q o s) : wpAny (model prog w) A (Builtin.Slice.slicePartIndex v) Q E s := by
  cases p with
  | none => exact slicePart_none h
  | int i t => exact slicePart_int h
theorem sliceApplied_gen {sl : Addr} {vl vu : Value} {lo hi : Option Int} {n : Nat} {Q : Int × Int × Nat → Shared → Prop} (hs : s.heap.IsSliceOf sl vl vu .none) (pl : IsPart vl lo) (pu : IsPart vu hi)
    (h : Q (((sIx n 0 lo : Nat) : Int), 1, sIx n n hi - sIx n 0 lo) s) : wpAny (model prog w) A (Builtin.Slice.sliceApplied (.ref sl) (pure (n : Int))) Q E s := by
  obtain ⟨os, hos, hcs, hds⟩ := id hs
  unfold Builtin.Slice.sliceApplied Builtin.Slice.sliceFields
  refine wpAny_bind (wpAny_bind (wpAny_field hos hds (x := vl) rfl (wpAny_bind (wpAny_field hos hds (x := vu) rfl (wpAny_bind (wpAny_field hos hds (x := .none) rfl (wpAny_pure ?_)))))))
  refine wpAny_bind (slicePart_none ?_)
  show wpAny _ _ (if ((1 : Int) == 0) = true then _ else _) _ _ s
  rw [if_neg (by decide)]
  refine wpAny_bind (slicePart_ pl (wpAny_bind (slicePart_ pu (wpAny_bind (wpAny_pure ?_)))))
  show wpAny _ _ (match Builtin.Slice.sliceAdjust lo hi 1 (n : Int) with | (lo, hi) => pure (lo, (1 : Int), Builtin.Slice.slicePlaces lo hi 1)) _ _ s
  rw [adjust_gen lo hi n]
  show wpAny _ _ (pure (((sIx n 0 lo : Nat) : Int), (1 : Int), Builtin.Slice.slicePlaces ((sIx n 0 lo : Nat) : Int) ((sIx n n hi : Nat) : Int) 1)) _ _ s
  rw [places_gen]
  exact wpAny_pure h
theorem pick_gen (xs : Array Value) (i k : Nat) : ((List.range k).filterMap fun (m : Nat) => xs[((i : Int) + (m : Int) * 1).toNat]?).toArray = ((xs.toList.drop i).take k).toArray := by
  have e : (fun (m : Nat) => xs[((i : Int) + (m : Int) * 1).toNat]?) = fun m => xs[i + m]? := by
    funext m
    have : ((i : Int) + (m : Int) * 1).toNat = i + m := by omega
    rw [this]
  rw [e]
  have := pick_run xs i k
  rw [List.filterMap_map] at this
  have e2 : ((fun x => xs[x]?) ∘ fun x => i + x) = fun m => xs[i + m]? := rfl
  rw [e2] at this
  rw [this]
theorem getItem_tuple_cut {t sl : Addr} {items : Array Value} {vl vu : Value} {lo hi : Option Int} {Q : Value → Shared → Prop} (ht : IsTup s.heap t items) (hs : s.heap.IsSliceOf sl vl vu .none) (pl : IsPart vl lo) (pu : IsPart vu hi)
    (hw : ¬ (sIx items.size 0 lo = 0 ∧ sIx items.size items.size hi = items.size))
    (h : Q (.ref s.heap.objs.size) { s with heap := s.heap.push { cls := .type "tuple", data := .seq ((items.toList.drop (sIx items.size 0 lo)).take (sIx items.size items.size hi - sIx items.size 0 lo)).toArray } })
    (hsz : items.size ≤ sizeLine) : wpAny (model prog w) A (getItem (.ref t) (.ref sl)) Q E s := by
  have htake : sizeOk (.seq ((items.toList.drop (sIx items.size 0 lo)).take (sIx items.size items.size hi - sIx items.size 0 lo)).toArray) := by
    show ((items.toList.drop (sIx items.size 0 lo)).take (sIx items.size items.size hi - sIx items.size 0 lo)).toArray.size ≤ sizeLine
    rw [List.size_toArray, List.length_take, List.length_drop, Array.length_toList]
    omega
  have hj : sIx items.size items.size hi ≤ items.size := sIx_le _ _ (Nat.le_refl _) hi
  obtain ⟨os, hos, hcs, hds⟩ := id hs
  have hTs : s.TypeIs (.ref sl) "slice" := ⟨os, hos, hcs⟩
  unfold getItem
  try with_reducible refine wpAny_holding ?_
  first | refine wpAny_bind (wpAny_pure ?_) | skip
  refine wpAny_bind (wpAny_sequenceKey ht.typeIs (by decide) ?_)
  refine wpAny_bind (wpAny_callSpecial?_slot (name := Str.ofString "__getitem__") ht.typeIs PyProof.Rows.slot_tuple_getitem
    (wpAny_call_entry PyProof.Rows.slot_tuple_getitem ht.typeIs entry_tuple_getitem ?_ (args_tuple_getitem _ _)))
  show wpAny _ _ (Builtin.Tuple.tupleItemsOf (.ref t) >>= _) _ _ s
  refine wpAny_bind (tupleItemsOf_ ht ?_)
  refine wpAny_bind (wpAny_typeOf hTs ?_)
  rw [if_pos (by decide)]
  refine wpAny_bind (sliceApplied_gen hs pl pu ?_)
  have hno : ¬ ((((sIx items.size 0 lo : Nat) : Int) == 0 && (1 : Int) == 1 && (sIx items.size items.size hi - sIx items.size 0 lo) == items.size) = true) := by
    intro q
    rw [Bool.and_eq_true, Bool.and_eq_true] at q
    have q1 : ((sIx items.size 0 lo : Nat) : Int) = 0 := eq_of_beq q.1.1
    have q2 : sIx items.size items.size hi - sIx items.size 0 lo = items.size := eq_of_beq q.2
    exact hw ⟨by omega, by omega⟩
  show wpAny _ _ (if (((sIx items.size 0 lo : Nat) : Int) == 0 && (1 : Int) == 1 && (sIx items.size items.size hi - sIx items.size 0 lo) == items.size) = true then _ else _) _ _ s
  rw [if_neg hno, pick_gen]
  first
    | exact wpAny_bind (m := Builtin.Tuple.tupleExact _) (wpAny_newObj_type (wpAny_pure ⟨_, rfl, wpAny_pure h⟩) htake)
    | exact wpAny_bind (m := Builtin.Tuple.tupleExact _) (wpAny_newObj_type (wpAny_bind (wpAny_pure (wpAny_pure ⟨_, rfl, wpAny_pure h⟩))) htake)
    | exact wpAny_bind (wpAny_bind (m := Builtin.Tuple.tupleExact _) (wpAny_newObj_type (wpAny_pure (wpAny_pure ⟨_, rfl, wpAny_pure h⟩)) htake))
    | exact wpAny_bind (wpAny_bind (m := Builtin.Tuple.tupleExact _) (wpAny_newObj_type (wpAny_pure ⟨_, rfl, wpAny_pure h⟩) htake))
end
end HT
namespace L2
open PySem PySem.Spec PyProof.Rows
abbrev TO := St → Hp → (Option Int → Hp → Prop) → Prop
def PO (X : Cx) (e : Option Expr) (t : TO) : Prop :=
  ∀ (pins : List (Addr × Obj)) (s : Shared) (σ : St) (H : Hp) (Q : Option Int → Hp → Prop), Inv X pins σ H s → t σ H Q →
    wpAny (model X.prog X.w) X.A (evalPart e X.env) (fun u s' => ∃ o H', Inv X pins σ H' s' ∧ IsPart u o ∧ Q o H') X.xe s
def tNoPart : TO := fun _ H Q => Q none H
def tPart (t : TE) : TO := fun σ H Q => t σ H fun x H1 => ∃ i, x = .int i ∧ Q (some i) H1
section
variable {X : Cx} {e : Expr} {te : TE} {lo hi : Option Expr} {tl th : TO} {pos p2 : Pos}
theorem po_none : PO X none tNoPart := by
  intro pins s σ H Q I h
  rw [evalPart_none]
  exact wpAny_pure ⟨none, H, I, .none, h⟩
theorem po_some (h : PE X e te) : PO X (some e) (tPart te) := by
  intro pins s σ H Q I hw
  rw [evalPart_some]
  refine thn (h pins s σ H _ I hw) fun u s1 ⟨x, H1, I1, r1, q1⟩ => ?_
  obtain ⟨i, rfl, q⟩ := q1
  obtain ⟨t, rfl⟩ := r1
  exact ⟨some i, H1, I1, .int i t, q⟩
def SlR (X : Cx) (r : V → Option Int → Option Int → Hp → VK → Prop) : Prop :=
  ∀ (pins : List (Addr × Obj)) (s : Shared) (σ : St) (H : Hp) (x : V) (v vl vu : Value) (lo hi : Option Int) (sl : Addr) (Q : VK), Inv X pins σ H s → RelV x v → s.heap.IsSliceOf sl vl vu .none → IsPart vl lo → IsPart vu hi → r x lo hi H Q →
    ∃ T id, typeLookup (.type T) "__getitem__" = pure (some (.builtin id)) ∧ s.TypeIs v T ∧ wpAny (model X.prog X.w) X.A (getItem v (.ref sl)) (EP X pins σ Q) X.xe s
theorem SlR.or {r r' : V → Option Int → Option Int → Hp → VK → Prop} (h : SlR X r) (h' : SlR X r') : SlR X (fun x lo hi H Q => r x lo hi H Q ∨ r' x lo hi H Q) := by
  intro pins s σ H x v vl vu lo hi sl Q I rx hs pl pu q
  rcases q with q | q
  · exact h pins s σ H x v vl vu lo hi sl Q I rx hs pl pu q
  · exact h' pins s σ H x v vl vu lo hi sl Q I rx hs pl pu q
def tSl (r : V → Option Int → Option Int → Hp → VK → Prop) (te : TE) (tl th : TO) : TE := fun σ H Q => te σ H fun x H1 => tl σ H1 fun l H2 => th σ H2 fun u H3 => r x l u H3 Q
theorem pe_slice {r : V → Option Int → Option Int → Hp → VK → Prop} (hr : SlR X r) (he : PE X e te) (hl : PO X lo tl) (hu : PO X hi th) : PE X (.Subscript e (.Slice lo hi none p2) pos) (tSl r te tl th) := by
  intro pins s σ H Q I h
  refine Subscript_ (thn (he pins s σ H _ I h) fun v s1 ⟨x, H1, I1, r1, q1⟩ => ?_)
  refine wpAny_Slice (thn (hl pins s1 σ H1 _ I1 q1) fun vl s2 ⟨l, H2, I2, pl, q2⟩ => thn (hu pins s2 σ H2 _ I2 q2) fun vu s3 ⟨u, H3, I3, pu, q3⟩ => ?_)
  rw [evalPart_none]
  refine wpAny_pure ?_
  have I4 : Inv X pins σ H3 { s3 with heap := s3.heap.push { cls := .type "slice", data := .fields #[vl, vu, .none] } } := I3.kept (t' := s3.toks) fun b ob q => Heap.get?_push_of_some _ q
  obtain ⟨T, id, hT, ht, hg⟩ := hr pins { s3 with heap := s3.heap.push { cls := .type "slice", data := .fields #[vl, vu, .none] } } σ H3 x v vl vu l u s3.heap.objs.size Q I4 r1 (Heap.IsSliceOf.new ..) pl pu q3
  show wpAny (model X.prog X.w) X.A (subscriptTail e (.Slice lo hi none p2) v (.ref s3.heap.objs.size)) (EP X pins σ Q) X.xe { s3 with heap := s3.heap.push { cls := .type "slice", data := .fields #[vl, vu, .none] } }
  exact tail_any (ops := [.ref s3.heap.objs.size, v]) ht hT hg (by with_unfolding_all rfl)
def cutV (xs : List V) (lo hi : Option Int) : List V := (xs.drop (HT.sIx xs.length 0 lo)).take (HT.sIx xs.length xs.length hi - HT.sIx xs.length 0 lo)
theorem cutV_length (xs : List V) (lo hi : Option Int) : (cutV xs lo hi).length ≤ xs.length := by
  unfold cutV
  rw [List.length_take, List.length_drop]
  omega
def rSlT (K : PySem.W.Frag) : V → Option Int → Option Int → Hp → VK → Prop := fun x lo hi H Q => ∃ a xs, x = .ref a ∧ SqT K H a xs ∧
  ¬ (HT.sIx xs.length 0 lo = 0 ∧ HT.sIx xs.length xs.length hi = xs.length) ∧ ∀ p, H p = none → Q (.ref p) (upd H p (.tup (cutV xs lo hi)))
theorem sl_tup : SlR X (rSlT X.K) := by
  intro pins s σ H x v vl vu lo hi sl Q I rx hs pl pu h
  obtain ⟨a, xs, rfl, hx, hw, q⟩ := h
  cases rx
  obtain ⟨its, r, ht, hz⟩ := I.tuple hx
  have hlen : its.toArray.size = xs.length := by rw [List.size_toArray]; exact r.length.symm
  refine ⟨"tuple", _, PyProof.Rows.slot_tuple_getitem.lookup, ht.typeIs, ?_⟩
  refine HT.getItem_tuple_cut ht hs pl pu (by rw [hlen]; exact hw) ?_ (by rw [hlen]; exact hz)
  rw [hlen]
  refine ⟨.ref s.heap.objs.size, _, I.laid (t' := s.toks) (o := .tup (cutV xs lo hi)) (fun b ob q => Heap.get?_push_of_some _ q) (Nat.le_refl _) ?_, rfl, q _ (I.hok.fresh (Nat.le_refl _))⟩
  exact ⟨Nat.le_trans (cutV_length xs lo hi) hz, _, (r.drop (HT.sIx xs.length 0 lo)).take (HT.sIx xs.length xs.length hi - HT.sIx xs.length 0 lo), IsTup.new _ _⟩
def rLtT (K : PySem.W.Frag) : R2 := fun x y H Q => ∃ a b ns ms, x = .ref a ∧ y = .ref b ∧ SqT K H a (ns.map V.int) ∧ SqT K H b (ms.map V.int) ∧ Q (.bl (HT.lexLt ns ms)) H
def rCatT (K : PySem.W.Frag) : R2 := fun x y H Q => ∃ a b xs ys, x = .ref a ∧ y = .ref b ∧ SqT K H a xs ∧ SqT K H b ys ∧ xs ≠ [] ∧ xs.length + ys.length ≤ sizeLine ∧
  (ys = [] → Q (.ref a) H) ∧ (ys ≠ [] → ∀ p, H p = none → Q (.ref p) (upd H p (.tup (xs ++ ys))))
theorem Vals.nil_iff {xs : List V} {us : List Value} (r : Vals xs us) : us = [] ↔ xs = [] := by
  cases r with
  | nil => simp
  | cons _ _ => simp
theorem op_catT : OpR X (binaryOp .Add) (rCatT X.K) := by
  intro pins s σ H x y v u Q I rx ry h
  obtain ⟨a, b, xs, ys, rfl, rfl, ha, hb, hx, hz, q1, q2⟩ := h
  cases rx
  cases ry
  obtain ⟨its, r1, p1, _⟩ := I.tuple ha
  obtain ⟨its2, r2, p2, _⟩ := I.tuple hb
  refine HT.cat_tup p1 p2 (fun z => hx (r1.nil_iff.mp z)) (fun z => ⟨.ref a, H, I, rfl, q1 (r2.nil_iff.mp z)⟩) (fun z => ?_) (by rw [← r1.length, ← r2.length]; exact hz)
  refine ⟨.ref s.heap.objs.size, _, I.laid (t' := s.toks) (o := .tup (xs ++ ys)) (fun b ob q => Heap.get?_push_of_some _ q) (Nat.le_refl _) ?_, rfl, q2 (fun w => z (r2.nil_iff.mpr w)) _ (I.hok.fresh (Nat.le_refl _))⟩
  exact ⟨by rw [List.length_append]; exact hz, _, r1.append r2, IsTup.new _ _⟩
end
end L2
namespace L2
open PySem PySem.Spec PyProof.Rows
def ixN (n : Nat) (i : Int) : Option Nat := if 0 ≤ i then (if i < n then some i.toNat else none) else if -(n : Int) ≤ i then some (i + n).toNat else none
def atI {α : Type} (xs : List α) (i : Int) : Option α := (ixN xs.length i).bind fun j => xs[j]?
theorem ixN_seq {n : Nat} {i : Int} {j : Nat} (h : ixN n i = some j) : seqIndex? i n = some j ∧ j < n ∧ -(n : Int) ≤ i ∧ i < n := by
  unfold ixN at h
  by_cases h0 : 0 ≤ i
  · rw [if_pos h0] at h
    by_cases h1 : i < n
    · rw [if_pos h1] at h
      have e : i.toNat = j := Option.some.inj h
      exact ⟨by rw [seqIndex_of h0 h1, e], by omega, by omega, h1⟩
    · rw [if_neg h1] at h; cases h
  · rw [if_neg h0] at h
    by_cases h1 : -(n : Int) ≤ i
    · rw [if_pos h1] at h
      have e : (i + n).toNat = j := Option.some.inj h
      exact ⟨by rw [seqIndex_neg (by omega) h1, e], by omega, h1, by omega⟩
    · rw [if_neg h1] at h; cases h
theorem atI_get {α : Type} {xs : List α} {i : Int} {v : α} (h : atI xs i = some v) : ∃ j, seqIndex? i xs.length = some j ∧ xs[j]? = some v ∧ j < xs.length ∧ -(xs.length : Int) ≤ i ∧ i < xs.length := by
  unfold atI at h
  cases e : ixN xs.length i with
  | none => rw [e] at h; cases h
  | some j =>
    rw [e] at h
    obtain ⟨h1, h2, h3, h4⟩ := ixN_seq e
    exact ⟨j, h1, h, h2, h3, h4⟩
def PlainIx (b : Expr) : Prop := ∀ o i, subscripted b false o i = operate [o, i] (getItem o i)
def IxR (X : Cx) (r : R2) : Prop :=
  ∀ (value slice : Expr) (pins : List (Addr × Obj)) (s : Shared) (σ : St) (H : Hp) (x y : V) (v u : Value) (Q : VK), Inv X pins σ H s → RelV x v → RelV y u → r x y H Q →
    subscripted slice false v u = operate [v, u] (getItem v u) → wpAny (model X.prog X.w) X.A (subscriptTail value slice v u) (EP X pins σ Q) X.xe s
def MtR (X : Cx) (id : String) (r : V → List V → Hp → VK → Prop) : Prop :=
  ∀ (pins : List (Addr × Obj)) (s : Shared) (σ : St) (H : Hp) (x : V) (xs : List V) (v : Value) (us : List Value) (Q : VK), Inv X pins σ H s → RelV x v → Vals xs us → r x xs H Q →
    wpAny (model X.prog X.w) X.A (call (.builtin id) (v :: us)) (EP X pins σ Q) X.xe s
section
variable {X : Cx} {a b : Expr} {ta tb : TE} {pos : Pos}
theorem IxR.or {r r' : R2} (h : IxR X r) (h' : IxR X r') : IxR X (fun x y H Q => r x y H Q ∨ r' x y H Q) := by
  intro value slice pins s σ H x y v u Q I rx ry q hs
  rcases q with q | q
  · exact h value slice pins s σ H x y v u Q I rx ry q hs
  · exact h' value slice pins s σ H x y v u Q I rx ry q hs
theorem MtR.or {id : String} {r r' : V → List V → Hp → VK → Prop} (h : MtR X id r) (h' : MtR X id r') : MtR X id (fun x xs H Q => r x xs H Q ∨ r' x xs H Q) := by
  intro pins s σ H x xs v us Q I rx rs q
  rcases q with q | q
  · exact h pins s σ H x xs v us Q I rx rs q
  · exact h' pins s σ H x xs v us Q I rx rs q
theorem pe_ix {r : R2} (hr : IxR X r) (ha : PE X a ta) (hb : PE X b tb) (hs : PlainIx b) : PE X (.Subscript a b pos) (tOp r ta tb) := by
  intro pins s σ H Q I h
  exact Subscript_ (binT ha hb I h fun v u s2 x y H2 I2 rx ry q => hr a b pins s2 σ H2 x y v u Q I2 rx ry q (hs _ _))
def rIxL (K : PySem.W.Frag) : R2 := fun x y H Q => ∃ p xs i v, x = .ref p ∧ y = .int i ∧ SqL K H p xs ∧ atI xs i = some v ∧ Q v H
def rIxT (K : PySem.W.Frag) : R2 := fun x y H Q => ∃ p xs i v, x = .ref p ∧ y = .int i ∧ SqT K H p xs ∧ atI xs i = some v ∧ Q v H
def rIxS : R2 := fun x y H Q => ∃ z i c, x = .str z ∧ y = .int i ∧ z.length ≤ sizeLine ∧ atI z.cps.toList i = some c ∧ Q (.str ⟨#[c]⟩) H
theorem ix_list : IxR X (rIxL X.K) := by
  intro value slice pins s σ H x y v u Q I rx ry h hs
  obtain ⟨p, xs, i, z, rfl, rfl, hq, he, q⟩ := h
  cases rx
  obtain ⟨t, rfl⟩ := ry
  obtain ⟨its, r, pl, hz⟩ := I.list hq
  obtain ⟨j, h1, h2, h3, h4, h5⟩ := atI_get he
  obtain ⟨w, ew, rw'⟩ := r.get h2
  have hl := r.length
  have hn := line63
  have fin : EP X pins σ Q w s := ⟨z, H, I, rw', q⟩
  by_cases h0 : 0 ≤ i
  · have hj : i.toNat = j := by
      rw [seqIndex_of h0 h5] at h1
      exact Option.some.inj h1
    exact item_listR pl.isList h0 (by omega) (by rw [hj]; simpa using ew) fin hs
  · have hj : (i + (its.toArray.size : Int)).toNat = j := by
      rw [seqIndex_neg (by omega) h4] at h1
      rw [List.size_toArray, ← hl]
      exact Option.some.inj h1
    exact subscriptTail_builtinR (x := w) pl.isList.typeIs slot_list_getitem.lookup
      (wpAny_getItem_list_neg (Q := fun r s' => r = w ∧ EP X pins σ Q r s') pl.isList (by omega) (by rw [List.size_toArray] <;> omega) (by omega) (by rw [hj]; simpa using ew) ⟨rfl, fin⟩) hs
theorem ix_tup : IxR X (rIxT X.K) := by
  intro value slice pins s σ H x y v u Q I rx ry h hs
  obtain ⟨p, xs, i, z, rfl, rfl, hq, he, q⟩ := h
  cases rx
  obtain ⟨t, rfl⟩ := ry
  obtain ⟨its, r, pl, hz⟩ := I.tuple hq
  obtain ⟨j, h1, h2, h3, h4, h5⟩ := atI_get he
  obtain ⟨w, ew, rw'⟩ := r.get h2
  have hl := r.length
  have hn := line63
  have fin : EP X pins σ Q w s := ⟨z, H, I, rw', q⟩
  exact subscriptTail_builtinR (x := w) pl.typeIs slot_tuple_getitem.lookup
    (getItem_tuple (j := j) (Q := fun r s' => r = w ∧ EP X pins σ Q r s') pl (by omega) (by omega) (by rw [List.size_toArray, ← hl]; exact h1) (by simpa using ew) ⟨rfl, fin⟩) hs
theorem ix_str : IxR X rIxS := by
  intro value slice pins s σ H x y v u Q I rx ry h hs
  obtain ⟨z, i, c, rfl, rfl, hz, he, q⟩ := h
  obtain ⟨t, rfl⟩ := rx
  obtain ⟨t', rfl⟩ := ry
  obtain ⟨j, h1, h2, h3, h4, h5⟩ := atI_get he
  have hl : z.cps.toList.length = z.length := by simp [Str.length]
  rw [hl] at h1 h4 h5
  have hn := line63
  exact tail_any (typeIs_str s z t) slot_str_getitem.lookup (getItem_str (c := c) (by
    have e1 : decide (i < -(2 ^ 63 : Int)) = false := decide_eq_false (by omega)
    have e2 : decide (i ≥ 2 ^ 63) = false := decide_eq_false (by omega)
    rw [e1, e2, Bool.or_false]) (by rw [h1]; simpa using h2) ⟨.str ⟨#[c]⟩, H, I.tok _, ⟨_, rfl⟩, q⟩) hs
def rIx (K : PySem.W.Frag) : R2 := fun x y H Q => rIxL K x y H Q ∨ rIxT K x y H Q ∨ rIxS x y H Q
theorem Inv.lst {pins : List (Addr × Obj)} {σ : St} {H : Hp} {s : Shared} {p : Addr} {xs : List V} (I : Inv X pins σ H s) (h : H p = some (.lst xs)) :
    ∃ (its : List Value) (n : Nat), Vals xs its ∧ s.heap.get? p = some { cls := .type "list", data := .seq its.toArray n } ∧ xs.length ≤ sizeLine := by
  obtain ⟨z, its, n, r, e⟩ := I.hok p _ h
  exact ⟨its, n, r, e, z⟩
def rSetL : V → V → V → Hp → (Hp → Prop) → Prop := fun o i v H Q => ∃ p xs k j, o = .ref p ∧ i = .int k ∧ H p = some (.lst xs) ∧ ixN xs.length k = some j ∧ Q (upd H p (.lst (xs.set j v)))
theorem slice_bounds (lo hi : Option Int) (n : Nat) : (sliceBounds lo hi none n).1 = ((HT.sIx n 0 lo : Nat) : Int) ∧ (sliceBounds lo hi none n).2.1 = ((HT.sIx n n hi : Nat) : Int) ∧ (sliceBounds lo hi none n).2.2 = 1 := by
  refine ⟨?_, ?_, rfl⟩
  · cases lo with
    | none => simp [sliceBounds, HT.sIx]
    | some i =>
      simp only [sliceBounds, HT.sIx, Option.getD_none, show (1 : Int) > 0 by decide, if_true]
      by_cases h : i < 0
      · simp only [h, if_true] <;> omega
      · simp only [h, if_false] <;> omega
  · cases hi with
    | none => simp [sliceBounds, HT.sIx]
    | some i =>
      simp only [sliceBounds, HT.sIx, Option.getD_none, show (1 : Int) > 0 by decide, if_true]
      by_cases h : i < 0
      · simp only [h, if_true] <;> omega
      · simp only [h, if_false] <;> omega
theorem slicePick_cut (its : List Value) (lo hi : Option Int) : slicePick its.toArray lo hi none = ((its.drop (HT.sIx its.length 0 lo)).take (HT.sIx its.length its.length hi - HT.sIx its.length 0 lo)).toArray := by
  obtain ⟨h1, h2, h3⟩ := slice_bounds lo hi its.toArray.size
  unfold slicePick
  rw [h1, h2, h3]
  simp only [sliceRange_one, pick_run, List.size_toArray] <;> rfl
def rSlL (K : PySem.W.Frag) : V → Option Int → Option Int → Hp → VK → Prop := fun x lo hi H Q => ∃ a xs, x = .ref a ∧ SqL K H a xs ∧ ∀ p, H p = none → Q (.ref p) (upd H p (.lst (cutV xs lo hi)))
theorem sl_list : SlR X (rSlL X.K) := by
  intro pins s σ H x v vl vu lo hi sl Q I rx hs pl pu h
  obtain ⟨a, xs, rfl, hx, q⟩ := h
  cases rx
  obtain ⟨its, r, ht, hz⟩ := I.list hx
  have hlen := r.length
  refine ⟨"list", _, slot_list_getitem.lookup, ht.isList.typeIs, ?_⟩
  refine wpAny_getItem_list_slice ht.isList hs pl pu .none (by simp) ?_ (by rw [List.size_toArray] <;> omega)
  rw [slicePick_cut, ← hlen]
  refine ⟨.ref s.heap.objs.size, _, I.laid (t' := s.toks) (o := .lst (cutV xs lo hi)) (fun b ob q => Heap.get?_push_of_some _ q) (Nat.le_refl _) ?_, rfl, q _ (I.hok.fresh (Nat.le_refl _))⟩
  exact ⟨Nat.le_trans (cutV_length xs lo hi) hz, _, 0, (r.drop (HT.sIx xs.length 0 lo)).take (HT.sIx xs.length xs.length hi - HT.sIx xs.length 0 lo), Heap.get?_push_size _ rfl⟩
def flatV : V → Bool
  | .non => true
  | .bl _ => true
  | .int _ => true
  | .str _ => true
  | _ => false
def eqV : V → V → Bool
  | .non, .non => true
  | .bl a, .bl b => a == b
  | .bl a, .int b => (if a then 1 else 0) == b
  | .int a, .bl b => a == (if b then 1 else 0)
  | .int a, .int b => a == b
  | .str a, .str b => a == b
  | _, _ => false
def eqU (x : V) (u : Value) : Bool := match u with
  | .none => eqV .non x
  | .bool b => eqV (.bl b) x
  | .int i _ => eqV (.int i) x
  | .str z _ => eqV (.str z) x
  | _ => false
def inV (x : V) (xs : List V) : Bool := xs.any fun y => eqV y x
def rIn (K : PySem.W.Frag) (neg : Bool) : R2 := fun x y H Q => ∃ p xs, y = .ref p ∧ (SqL K H p xs ∨ SqT K H p xs) ∧ flatV x = true ∧ xs.all flatV = true ∧ Q (.bl (if neg then !inV x xs else inV x xs)) H
theorem call_len_seq : CallR X (.builtin "len") (fun xs H Q => ∃ p ys, xs = [.ref p] ∧ (SqL X.K H p ys ∨ SqT X.K H p ys) ∧ Q (.int ys.length) H) := by
  intro pins s σ H xs us Q I r h
  obtain ⟨p, ys, rfl, hq, q⟩ := h
  obtain ⟨u, rfl, rx⟩ := vals1 r
  cases rx
  have hn := line63
  rcases hq with hq | hq
  · obtain ⟨its, r', pl, hz⟩ := I.list hq
    have hlen := r'.length
    exact Calls.call_len_list pl.isList (by simp only [List.size_toArray] <;> omega) ⟨.int ys.length, H, I.tok _, ⟨s.toks + 1, by rw [List.size_toArray, hlen]⟩, q⟩
  · obtain ⟨its, r', pl, hz⟩ := I.tuple hq
    have hlen := r'.length
    exact len_tuple pl (by simp only [List.size_toArray] <;> omega) ⟨.int ys.length, H, I.tok _, ⟨s.toks + 1, by rw [List.size_toArray, hlen]⟩, q⟩
theorem call_len_str : CallR X (.builtin "len") (fun xs H Q => ∃ z, xs = [.str z] ∧ z.length ≤ sizeLine ∧ Q (.int z.length) H) := by
  intro pins s σ H xs us Q I r h
  obtain ⟨z, rfl, hz, q⟩ := h
  obtain ⟨u, rfl, t, rfl⟩ := vals1 r
  have hn := line63
  exact len_str (by omega) ⟨.int z.length, H, I.tok _, ⟨_, rfl⟩, q⟩
theorem CallR.or {f : Value} {r r' : List V → Hp → VK → Prop} (h : CallR X f r) (h' : CallR X f r') : CallR X f (fun xs H Q => r xs H Q ∨ r' xs H Q) := by
  intro pins s σ H xs us Q I rs q
  rcases q with q | q
  · exact h pins s σ H xs us Q I rs q
  · exact h' pins s σ H xs us Q I rs q
theorem call_list_of : CallR X (.type "list") (fun xs H Q => ∃ p ys, xs = [.ref p] ∧ (SqL X.K H p ys ∨ SqT X.K H p ys) ∧ ∀ l, H l = none → Q (.ref l) (upd H l (.lst ys))) := by
  intro pins s σ H xs us Q I r h
  obtain ⟨p, ys, rfl, hq, q⟩ := h
  obtain ⟨u, rfl, rx⟩ := vals1 r
  cases rx
  have fin : ∀ (its : List Value), Vals ys its → ys.length ≤ sizeLine → ∀ (h' : Heap) (c' : Nat), (∀ b o', s.heap.get? b = some o' → h'.get? b = some o') →
      h'.get? s.heap.objs.size = some { cls := .type "list", dict := none, data := .seq its.toArray c', slots := #[] } → EP X pins σ Q (.ref s.heap.objs.size) { s with heap := h' } := fun its r' hz h' c' kp e =>
    ⟨.ref s.heap.objs.size, _, I.laid (t' := s.toks) kp (Nat.le_refl _) (show ObjOk X.prog X.w _ h' _ (.lst ys) from ⟨hz, its, c', r', e⟩), rfl, q _ (I.hok.fresh (Nat.le_refl _))⟩
  rcases hq with hq | hq
  · obtain ⟨its, r', pl, hz⟩ := I.list hq
    have hlen := r'.length
    obtain ⟨o, ho, hc, n, hd⟩ := pl.isList
    exact call_list_seq p (.inl rfl) ho hc hd (fun h' c' kp e => fin its r' hz h' c' kp e) (by simp only [List.size_toArray] <;> omega)
  · obtain ⟨its, r', pl, hz⟩ := I.tuple hq
    have hlen := r'.length
    obtain ⟨o, ho, hc, n, hd⟩ := pl
    exact call_list_seq p (.inr rfl) ho hc hd (fun h' c' kp e => fin its r' hz h' c' kp e) (by simp only [List.size_toArray] <;> omega)
theorem call_tuple_of : CallR X (.type "tuple") (fun xs H Q => ∃ p ys, xs = [.ref p] ∧ ((SqL X.K H p ys ∧ ∀ l, H l = none → Q (.ref l) (upd H l (.tup ys))) ∨ (SqT X.K H p ys ∧ Q (.ref p) H))) := by
  intro pins s σ H xs us Q I r h
  obtain ⟨p, ys, rfl, h⟩ := h
  obtain ⟨u, rfl, rx⟩ := vals1 r
  cases rx
  rcases h with ⟨hq, q⟩ | ⟨hq, q⟩
  · obtain ⟨its, r', pl, hz⟩ := I.list hq
    have hlen := r'.length
    refine call_tuple_list pl.isList (fun h' kp => ?_) (by simp only [List.size_toArray] <;> omega)
    have I1 : Inv X pins σ H { s with heap := h' } := I.kept (t' := s.toks) kp
    have I2 : Inv X pins σ (upd H h'.objs.size (.tup ys)) { s with heap := h'.push { cls := .type "tuple", data := .seq its.toArray } } :=
      I1.laid (t' := s.toks) (fun b o e => Heap.get?_push_of_some _ e) (Nat.le_refl _) (show ObjOk X.prog X.w _ _ _ (.tup ys) from ⟨hz, its, r', IsTup.new _ _⟩)
    exact ⟨.ref h'.objs.size, _, I2, rfl, q _ (I1.hok.fresh (Nat.le_refl _))⟩
  · obtain ⟨its, r', pl, hz⟩ := I.tuple hq
    exact call_tuple_same pl ⟨.ref p, H, I, rfl, q⟩
def tyV (K : PySem.W.Frag) (T : String) (x : V) (H : Hp) : Prop := match x with
  | .str _ => T = "str"
  | .int _ => T = "int"
  | .ref p => (T = "list" ∧ ∃ xs, SqL K H p xs) ∨ (T = "tuple" ∧ ∃ o, K.lookup p = some o ∧ o.cls = .type "tuple" ∧ o.dict = none) ∨
      (T = "dict" ∧ ((∃ kvs, H p = some (.dK kvs)) ∨ ∃ kvs, H p = some (.dT kvs))) ∨ (T = "set" ∧ ∃ S n, H p = some (.set S n))
  | _ => False
theorem tyV_is {pins : List (Addr × Obj)} {σ : St} {H : Hp} {s : Shared} {T : String} {x : V} {v : Value} (I : Inv X pins σ H s) (r : RelV x v) (ty : tyV X.K T x H) :
    s.TypeIs v T ∧ ∀ a, v = .ref a → ∃ ob, s.heap.get? a = some ob ∧ ob.dict = none := by
  cases x with
  | str z =>
    obtain ⟨t, rfl⟩ := r
    cases (show T = "str" from ty)
    exact ⟨typeIs_str s z t, fun _ e => nomatch e⟩
  | int i =>
    obtain ⟨t, rfl⟩ := r
    cases (show T = "int" from ty)
    exact ⟨typeIs_int s i t, fun _ e => nomatch e⟩
  | ref p =>
    cases r
    rcases ty with ⟨rfl, xs, hq⟩ | ⟨rfl, o, hk, hc, hd⟩ | ⟨rfl, hk⟩ | ⟨rfl, S, n, hk⟩
    · obtain ⟨its, _, pl, _⟩ := I.list hq
      refine ⟨pl.isList.typeIs, fun a e => ?_⟩
      cases e
      obtain ⟨o, n, e, c, hd, _⟩ := pl
      exact ⟨o, e, hd⟩
    · refine ⟨⟨o, I.kIn p o hk, hc⟩, fun a e => ?_⟩
      cases e
      exact ⟨o, I.kIn _ o hk, hd⟩
    · have z : ∃ o, s.heap.get? p = some o ∧ o.ExactDict := by
        rcases hk with ⟨kvs, hk⟩ | ⟨kvs, hk⟩
        · obtain ⟨_, _, _, _, o, _, _, e, ex, _⟩ := I.hok p _ hk
          exact ⟨o, e, ex⟩
        · obtain ⟨_, _, _, _, o, _, _, e, ex, _⟩ := I.hok p _ hk
          exact ⟨o, e, ex⟩
      obtain ⟨o, e, ex⟩ := z
      refine ⟨⟨o, e, ex.1⟩, fun a e2 => ?_⟩
      cases e2
      exact ⟨o, e, ex.2.1⟩
    · obtain ⟨o, _, _, _, e, ex, _⟩ := I.hok p _ hk
      refine ⟨⟨o, e, ex.1⟩, fun a e2 => ?_⟩
      cases e2
      exact ⟨o, e, ex.2.1⟩
  | _ => exact False.elim ty
def tBM0 (K : PySem.W.Frag) (T : String) (r : V → List V → Hp → VK → Prop) (to : TE) : TE := fun σ H Q => to σ H fun x H1 => tyV K T x H1 ∧ r x [] H1 Q
def tBM (K : PySem.W.Frag) (T : String) (r : V → List V → Hp → VK → Prop) (to : TE) (t : TA) : TE := fun σ H Q => to σ H fun x H1 => tyV K T x H1 ∧ t σ H1 fun xs H2 => r x xs H2 Q
variable {o e : Expr} {es : List Expr} {to : TE} {t : TA} {name : Str} {apos cpos : Pos} {T id : String} {r : V → List V → Hp → VK → Prop}
theorem pe_bm (pa : PlainAttrs T) (slot : Slot T name id) (hty : typeOf (.builtin id) = pure (.type "method_descriptor")) (hm : MtR X id r) (ho : PE X o to) (ha : PA X (e :: es) t)
    (hbase : attributeBase o name X.env (eval o X.env) = eval o X.env := by rfl)
    (hfew : ((backTo cpos (starEach (e :: es) X.env)).all (fun x => !x.1) && (backToKw cpos (keywordEach [] X.env)).all (fun x => x.1.isSome)
      && decide ((e :: es).length + ([] : List Keyword).length + (if ([] : List Keyword).isEmpty then 0 else 1) < 30)) = true := by rfl)
    (hline : (apos.endLine == cpos.line) = true := by rfl) (hs : starEach (e :: es) X.env = (false, eval e X.env) :: starEach es X.env := by rfl) (hplain : (backTo cpos (starEach es X.env)).any (·.1) = false := by rfl) :
    PE X (.Call (.Attribute o name apos) (e :: es) [] cpos) (tBM X.K T r to t) := by
  intro pins s σ H Q I h
  refine wpAny_Call_method_late hbase hfew hline rfl (thn (ho pins s σ H _ I h) fun v s1 ⟨x, H1, I1, r1, ty, q1⟩ => ?_)
  obtain ⟨h1, h2⟩ := tyV_is I1 r1 ty
  refine ⟨T, id, pa, slot, hty, h1, h2, ?_⟩
  have hA := ha cpos pins s1 σ H1 _ I1 q1
  rw [hs] at hA ⊢
  refine Calls.callWith_builtin (by show (false || (backTo cpos (starEach es X.env)).any (·.1)) = false; rw [hplain] <;> rfl) (Calls.evalArgs_plain ?_)
  exact thn hA fun us s2 ⟨vs, H2, I2, r2, q2⟩ => hm pins s2 σ H2 x vs v us Q I2 r1 r2 q2
end
end L2
namespace L2
open PySem PySem.Spec PyProof.Rows
def MtM (X : Cx) (id : String) (r : V → List V → Hp → VK → Prop) : Prop :=
  ∀ (pins : List (Addr × Obj)) (s : Shared) (σ : St) (H : Hp) (x : V) (xs : List V) (v : Value) (us : List Value) (Q : VK), Inv X pins σ H s → RelV x v → Vals xs us → r x xs H Q →
    wpAny (model X.prog X.w) X.A (call (.builtin id) (v :: us)) (EP X pins σ Q) X.xe s
theorem Vals.one : ∀ {x : V} {us : List Value}, Vals [x] us → ∃ u, us = [u] ∧ RelV x u
  | _, _, .cons r .nil => ⟨_, rfl, r⟩
theorem Vals.two : ∀ {x y : V} {us : List Value}, Vals [x, y] us → ∃ u v, us = [u, v] ∧ RelV x u ∧ RelV y v
  | _, _, _, .cons r (.cons q .nil) => ⟨_, _, rfl, r, q⟩
theorem Vals.zero : ∀ {us : List Value}, Vals [] us → us = []
  | _, .nil => rfl
theorem Vals.dropLast {xs : List V} {us : List Value} (h : Vals xs us) : Vals xs.dropLast us.dropLast := by
  induction h with
  | nil => exact .nil
  | cons r t ih =>
    cases t with
    | nil => exact .nil
    | cons q t' => exact .cons r ih
theorem Vals.eraseIdx : ∀ {xs : List V} {us : List Value} (i : Nat), Vals xs us → Vals (xs.eraseIdx i) (us.eraseIdx i)
  | _, _, _, .nil => .nil
  | _, _, 0, .cons _ t => t
  | _, _, i + 1, .cons r t => .cons r (Vals.eraseIdx i t)
theorem Vals.reverse {xs : List V} {us : List Value} (h : Vals xs us) : Vals xs.reverse us.reverse := by
  induction h with
  | nil => exact .nil
  | cons r t ih => rw [List.reverse_cons, List.reverse_cons]; exact Vals.append ih (.cons r .nil)
theorem Vals.rep {xs : List V} {us : List Value} (h : Vals xs us) : ∀ k : Nat, Vals (List.replicate k xs).flatten (List.replicate k us).flatten
  | 0 => .nil
  | k + 1 => by
    rw [List.replicate_succ, List.replicate_succ, List.flatten_cons, List.flatten_cons]
    exact Vals.append h (Vals.rep h k)
section
variable {X : Cx} {pins : List (Addr × Obj)} {σ : St} {H : Hp} {s : Shared} {l b : Addr} {xs ys zs : List V}
theorem Inv.lset {its its' : List Value} {n : Nat} {f : Array Value → Array Value} {t' : Nat} (I : Inv X pins σ H s) (hH : H l = some (.lst xs))
    (e : s.heap.get? l = some { cls := .type "list", data := .seq its.toArray n }) (hf : f its.toArray = its'.toArray) (hv : Vals ys its') (hz : ys.length ≤ sizeLine) :
    Inv X pins σ (upd H l (.lst ys)) { s with heap := s.heap.update l (Obj.mapSeq f), toks := t' } := by
  have q := PySem.IsL.update e f
  rw [hf] at q
  refine I.write (x := l) (e := l) (by rw [hH]; exact trivial) (.inl rfl) (fun b' u hb hu => (Heap.get?_update_other s.heap (Obj.mapSeq f) (Ne.symm hb)).trans hu) ⟨_, q⟩ ?_
  exact ⟨hz, its', _, hv, q⟩
theorem Inv.lnew {its : List Value} {t' : Nat} (I : Inv X pins σ H s) (hv : Vals ys its) (hz : ys.length ≤ sizeLine) :
    Inv X pins σ (upd H s.heap.objs.size (.lst ys)) { s with heap := s.heap.push { cls := .type "list", data := .seq its.toArray }, toks := t' } :=
  I.laid (fun _ _ q => Heap.get?_push_of_some _ q) (Nat.le_refl _) ⟨hz, its, 0, hv, Heap.get?_push_size _ rfl⟩
theorem Inv.fresh (I : Inv X pins σ H s) : H s.heap.objs.size = none := I.hok.fresh (Nat.le_refl _)
theorem Inv.lstM (I : Inv X pins σ H s) (hH : H l = some (.lst xs)) : xs.length ≤ sizeLine ∧ ∃ (its : List Value) (n : Nat), Vals xs its ∧ xs.length = its.length ∧ s.heap.get? l = some { cls := .type "list", data := .seq its.toArray n } := by
  obtain ⟨z, its, n, r, e⟩ := I.hok l _ hH
  exact ⟨z, its, n, r, r.length, e⟩
theorem notLongL {n : Nat} (h : n ≤ sizeLine) : Builtin.List.listTooLong n = false := by
  unfold Builtin.List.listTooLong
  exact decide_eq_false (by omega)
end
section
variable {X : Cx}
def rAppend : V → List V → Hp → VK → Prop := fun x vs H Q => ∃ l xs y, x = .ref l ∧ vs = [y] ∧ H l = some (.lst xs) ∧ xs.length < sizeLine ∧ Q .non (upd H l (.lst (xs ++ [y])))
theorem mt_append : MtM X "list.append" rAppend := by
  intro pins s σ H x vs v us Q I rx rv h
  obtain ⟨l, xs, y, rfl, rfl, hH, hz, q⟩ := h
  cases rx
  obtain ⟨u, rfl, ru⟩ := rv.one
  obtain ⟨z, its, n, r, hl, e⟩ := I.lstM hH
  refine call_meets F.slot_list_append ⟨_, e, rfl⟩ F.entry_list_append (F.args_list_append_2 _ _) (PySem.list_append l its.toArray n u (by rw [List.size_toArray]; omega)) ⟨e, ?_⟩
  refine ⟨.non, _, I.lset (its' := its ++ [u]) hH e (by simp) (r.append (.cons ru .nil)) ?_, rfl, q⟩
  rw [List.length_append, List.length_singleton]
  omega
def rExtend : V → List V → Hp → VK → Prop := fun x vs H Q => ∃ l b xs zs, x = .ref l ∧ vs = [.ref b] ∧ H l = some (.lst xs) ∧ H b = some (.lst zs) ∧ xs.length + zs.length ≤ sizeLine ∧ Q .non (upd H l (.lst (xs ++ zs)))
def rPop : V → List V → Hp → VK → Prop := fun x vs H Q => ∃ l xs y, x = .ref l ∧ vs = [] ∧ H l = some (.lst xs) ∧ xs[xs.length - 1]? = some y ∧ Q y (upd H l (.lst xs.dropLast))
def rPopAt : V → List V → Hp → VK → Prop := fun x vs H Q => ∃ l xs i k y, x = .ref l ∧ vs = [.int i] ∧ H l = some (.lst xs) ∧ -(2 ^ 63) ≤ i ∧ i < 2 ^ 63 ∧ seqIndex? i xs.length = some k ∧ xs[k]? = some y ∧ Q y (upd H l (.lst (xs.eraseIdx k)))
def rReverse : V → List V → Hp → VK → Prop := fun x vs H Q => ∃ l xs, x = .ref l ∧ vs = [] ∧ H l = some (.lst xs) ∧ Q .non (upd H l (.lst xs.reverse))
def rClear : V → List V → Hp → VK → Prop := fun x vs H Q => ∃ l xs, x = .ref l ∧ vs = [] ∧ H l = some (.lst xs) ∧ Q .non (upd H l (.lst []))
def rCat : R2 := fun x y H Q => ∃ l b xs zs, x = .ref l ∧ y = .ref b ∧ H l = some (.lst xs) ∧ H b = some (.lst zs) ∧ xs.length + zs.length ≤ sizeLine ∧ ∀ p, H p = none → Q (.ref p) (upd H p (.lst (xs ++ zs)))
def rRep : R2 := fun x y H Q => ∃ l k xs, x = .ref l ∧ y = .int k ∧ H l = some (.lst xs) ∧ -(2 ^ 63) ≤ k ∧ k < 2 ^ 63 ∧ xs.length * k.toNat ≤ sizeLine ∧
  ∀ p, H p = none → Q (.ref p) (upd H p (.lst (List.replicate k.toNat xs).flatten))
end
section
variable {prog : Program} {w : World} {A : Around} {E : Value → Shared → Prop} {s : Shared}
set_option maxRecDepth 100000 in
end
section
variable {X : Cx}
end
end L2
namespace Att
open PySem PySem.W PySem.Calls PyProof.Rows
theorem ints_of_wellAll {P : Params} {h : Heap} : ∀ (ns : List Int) (vs : List Value), WellAll P h vs (ns.map WData.int) → IntsAre vs ns := by
  intro ns
  induction ns with
  | nil =>
    intro vs w
    rw [List.map_nil] at w
    cases w
    exact .nil
  | cons n ns ih =>
    intro vs w
    rw [List.map_cons] at w
    cases w with
    | cons a b =>
      cases a
      exact .cons _ _ (ih _ b)
theorem script_of {l : OpenLaw} {n : Nat} (hn : l.most = some n) {P : Params} {h : Heap} {args : List WData} {vals : List Value}
    (hpre : l.row.toRowW.claim.pre args = true) (hwl : WellAll P h vals args) :
    ∃ a vs ns, vals = [Value.ref a] ∧ args = [WData.list (ns.map WData.int)] ∧ h.get? a = some { cls := .type "list", data := .seq vs.toArray } ∧ IntsAre vs ns ∧ ns.length ≤ n := by
  have hsh : WShape.hasAll [] args [.list .int] = true := (pre_splitW hpre).1
  have hc : l.pre.holds [] { args := args } = true := (pre_splitW hpre).2
  obtain ⟨d, r, rfl, h1, h2⟩ := hasAllW_cons hsh
  obtain rfl := hasAllW_nil h2
  obtain ⟨xs, rfl, h3⟩ := hasW_list h1
  obtain ⟨ns, rfl⟩ := items_int h3
  have hlen : ns.length ≤ n := by
    unfold OpenLaw.pre at hc
    have h4 : (WTm.not (.lt (.lit (.int (n : Int))) (.len (.arg 0)))).holds [] { args := [.list (ns.map .int)] } = true := by
      have h4 := (holds_andW hc).1
      rw [hn] at h4
      exact h4
    have h5 := condW_of h4 (w_not (w_lt w_lit (w_len_list (w_arg rfl))))
    rw [List.length_map] at h5
    refine Nat.le_of_not_lt fun q => ?_
    have q' : (n : Int) < ((ns.length : Nat) : Int) := by omega
    first
      | (rw [decide_eq_true q'] at h5; exact absurd h5 (by decide))
      | (simp at h5; omega)
  cases hwl with
  | cons w1 w2 =>
    cases w2
    cases w1 with
    | list ho hall => exact ⟨_, _, ns, rfl, rfl, ho, ints_of_wellAll ns _ hall, hlen⟩
theorem post_true (l : OpenLaw) (args : List WData) : l.row.toRowW.claim.post args (.bool true) args = true :=
  postW_of (r := l.row.toRowW) (X := (true == true))
    (show WShape.has [] (.bool true) .bool = true by first | rfl | decide | simp [WShape.has, WShape.arms, WShape.armsAll])
    (show (WTm.eq .res (.lit (.bool true))).value [] { args := args, res := some (.bool true), after := args } = some (.bool (true == true)) from w_eq_bool (w_res rfl) w_lit) rfl
theorem attach_call {l : OpenLaw} {n : Nat} {q : Program} {loose : List Str} {XP : (Str → Option Value) → Heap → Prop} {YP : World → Heap → Prop} {d : DefRec}
    (hn : l.most = some n) (hdf : d.params.defaults = [])
    (call : ∀ (w : World) (s₀ s₁ : Shared) (mg mb : Str → Option Value) (fa : Addr) (o : Obj) (pm cd doc : Value) (a : Addr) (vs : List Value) (ns : List Int),
      Ground q loose [] XP w s₀ mg mb s₁.heap → YP w s₁.heap →
      s₁.heap.get? fa = some o → o.data = .func (docDef d.name d.params d.body d.scope pm cd doc) → s₁.heap.CodeRec cd d.name → mg d.name = some (.ref fa) →
      s₁.heap.get? a = some { cls := .type "list", data := .seq vs.toArray } → IntsAre vs ns → ns.length ≤ n → s₁.gens = #[] →
      codeAny (model l.prog w) callerA (.call (.ref fa) ⟨[.ref a], []⟩) (fun r s' => r = .ok (.ret (.bool true)) ∧ OldK s₁.heap s'.heap ∧ s'.os = s₁.os ∧ AllBare s'.gens) s₁) :
    WalkO q loose XP YP l.row.toRowW d [] (fun f vs => PySem.call f vs) := by
  intro w s₀ s₁ mg mb G Y fa o pm cd doc dV kV ho hd hcd hD hmg hg args vals as hpre hlay hrd hwl hlo
  obtain rfl : dV = .none := Dflts.none hD hdf
  obtain rfl : kV = .none := Dflts.noKw hD
  obtain ⟨a, vs, ns, rfl, rfl, hobj, hints, hlen⟩ := script_of hn hpre hwl
  refine enter_call (codeAny_mono (call w s₀ s₁ mg mb fa o pm cd doc a vs ns G Y ho (fd_plain hd) hcd hmg hobj hints hlen hg) fun r s' hq => ?_)
  obtain ⟨rfl, h2, h3, h4⟩ := hq
  exact ⟨.inl ⟨.bool true, .bool true, [], rfl, fun _ => rfl, .bool true, post_true l _, fun _ => ⟨List.Pairwise.nil, fun _ hm => (nomatch hm)⟩⟩, h2, h3, h4⟩
section
variable {prog : Program} {w : World} {A : Around} {E : Value → Shared → Prop} {s : Shared} {K : Frag}
def noObjs (h : Heap) : Heap := { h with objs := #[] }
def ledger (h : Heap) (L d : Addr) : List (Addr × Obj) := (List.range h.objs.size).filterMap fun a => if a = L ∨ a = d then none else (h.get? a).map fun o => (a, o)
end
end Att
namespace L2
open PySem PySem.Spec PyProof.Rows
theorem vals_ints : ∀ {vs : List Value} {ns : List Int}, IntsAre vs ns → Vals (ns.map V.int) vs
  | _, _, .nil => .nil
  | _, _, .cons n t h => .cons ⟨t, rfl⟩ (vals_ints h)
def Only (H : Hp) : Prop := ∀ b, H b = none ∨ ∃ o xs, H b = some (.frz o (.lst xs))
theorem law_call {P : Program} {w : World} {K : PySem.W.Frag} {mg mb : Str → Option Value} {CX : CXT} {k : Nat} {fa a : Addr} {fd : FuncData} {x : Str} {sp : Sp} {s₁ : Shared} {vs : List Value} {ns : List Int}
    (KX : K.In s₁.heap) (hns : s₁.heap.Ns mainGlobals mg) (hb : s₁.heap.Ns builtinsNs mb) (hbb : ∀ x : Str, x ≠ "__name__" → mb x = bootBuiltins x) (hlim : s₁.heap.NoLimit) (hg : s₁.gens = #[])
    (ha : s₁.heap.get? a = some { cls := .type "list", data := .seq vs.toArray }) (hi : IntsAre vs ns) (hl : ns.length ≤ sizeLine) (hr : Room k callerA)
    (F : ∀ base : Heap, K.In base → base.Ns mainGlobals mg → FnOk P w K mg base CX k fa fd [x] sp) (hbind : ∀ (s : Shared) (u : Value), BindsTo s fd ⟨[u], []⟩ [(x, u)])
    (hsp : ∀ H : Hp, Only H → SqL K H a (ns.map V.int) → sp [.ref a] H (fun v _ => v = .bl true) fun _ _ _ => False)
    (hCX : ∀ H e s', CX [] H s₁ (fun _ _ _ => False) e s' → False) :
    codeAny (model P w) callerA (.call (.ref fa) ⟨[.ref a], []⟩) (fun r s' => r = .ok (.ret (.bool true)) ∧ OldK s₁.heap s'.heap ∧ s'.os = s₁.os ∧ AllBare s'.gens) s₁ := by
  have rv := vals_ints hi
  have lenV := hi.length
  have core : ∀ H : Hp, Only H → SqL K H a (ns.map V.int) → HOk P w H s₁.heap → (∀ b, H b ≠ none → b = a) → (H a ≠ none → K.lookup a = none) →
      codeAny (model P w) callerA (.call (.ref fa) ⟨[.ref a], []⟩) (fun r s' => r = .ok (.ret (.bool true)) ∧ OldK s₁.heap s'.heap ∧ s'.os = s₁.os ∧ AllBare s'.gens) s₁ := by
    intro H hO hS hok hA hK
    have base_of : ∀ {b : Addr} {o : Obj}, s₁.heap.get? b = some o → H b = none → (hidT s₁.heap H).get? b = some o := fun e n => hidT_get e n
    have noA : ∀ {b : Addr} {o : Obj} {es : Array DictEntry} {ep : Nat}, s₁.heap.get? b = some o → o.data = .dict es ep → H b = none := fun {b o es ep} e d => by
      cases q : H b with
      | none => rfl
      | some u =>
        have e' : b = a := hA b (by rw [q]; simp)
        subst e'
        rw [ha] at e; cases e
        have d' : Data.seq vs.toArray _ = Data.dict es ep := d
        cases d'
    have nsK : ∀ {b : Addr} {m : Str → Option Value}, s₁.heap.Ns b m → (hidT s₁.heap H).Ns b m := fun {b m} ⟨o, es, ep, e, d, r⟩ => ⟨o, es, ep, base_of e (noA e d), d, r⟩
    have hKb : K.In (hidT s₁.heap H) := fun b o e => base_of (KX b o e) (by
      cases q : H b with
      | none => rfl
      | some u =>
        have e' : b = a := hA b (by rw [q]; simp)
        subst e'
        rw [hK (by rw [q]; simp)] at e; cases e)
    have hM : Mod K mg (hidT s₁.heap H) := ⟨hKb, nsK hns, ⟨mb, nsK hb, hbb⟩, let ⟨mc, h1, h2⟩ := hlim; ⟨mc, nsK h1, h2⟩⟩
    have e0 : Env0 P w K mg (hidT s₁.heap H) callerA [] s₁ H := ⟨rfl, hM, fun b o e => of_hidT e, Nat.le_of_eq (hidT_size _ _), trivial, fun b hb => absurd (show b ∈ ([] : List Addr) from hb) (by simp), hok, .of_eq hg⟩
    refine codeAny_mono ((F _ hKb (nsK hns)).run callerA [] s₁ H ⟨[.ref a], []⟩ [.ref a] [.ref a] _ _ hr e0 (hbind s₁ (.ref a)) (.cons rfl .nil) (hsp H hO hS)) fun r s' h => ?_
    cases r with
    | error e => exact (hCX H e s' h).elim
    | ok fl =>
      cases fl with
      | next => exact False.elim h
      | brk => exact False.elim h
      | cont => exact False.elim h
      | ret u =>
        obtain ⟨v, H', os, bare, un, hok', r', q⟩ := h
        have q' : v = .bl true := q
        subst q'
        obtain rfl : u = Value.bool true := r'
        refine ⟨rfl, OldK.of_keep fun b o e => ?_, os, bare⟩
        cases q : H b with
        | none => exact un.keep b o e q (by intro z; exact absurd (show b ∈ ([] : List Addr) from z) (by simp)) (by simp)
        | some u =>
          rcases hO b with z | ⟨ob, xs, z⟩
          · rw [q] at z; cases z
          · have z2 := un.frzs b ob _ z
            obtain ⟨e1, _⟩ := hok b _ z
            obtain ⟨e2, _⟩ := hok' b _ z2
            rw [e] at e1; cases e1
            exact e2
  cases hk : K.lookup a with
  | some o =>
    have e := KX a o hk
    rw [ha] at e
    cases e
    refine core (fun _ => none) (fun _ => .inl rfl) (.inr ⟨_, vs.toArray, _, hk, rfl, rfl, rfl, by rw [List.size_toArray, lenV]; exact hl, by simpa using rv⟩) (fun b u z => by have z' : (none : Option HO) = some u := z; cases z') (fun b z => absurd rfl z) fun z => absurd rfl z
  | none =>
    refine core (fun b => if b = a then some (.frz { cls := .type "list", data := .seq vs.toArray } (.lst (ns.map V.int))) else none) (fun b => ?_) (.inl (.inr ⟨{ cls := .type "list", data := .seq vs.toArray }, if_pos rfl⟩)) (fun b u z => ?_) (fun b z => ?_) fun _ => hk
    · by_cases hb : b = a
      · exact .inr ⟨_, _, if_pos hb⟩
      · exact .inl (if_neg hb)
    · by_cases hb : b = a
      · have z' := (if_pos hb).symm.trans z
        cases z'
        subst hb
        exact ⟨ha, by rw [List.length_map]; exact hl, vs, _, rv, ha⟩
      · have z' := (if_neg hb).symm.trans z
        cases z'
    · by_cases hb : b = a
      · exact hb
      · exact absurd (if_neg hb) z
end L2
namespace L2
open PySem PySem.Spec PyProof.Rows
abbrev KOf {K : PySem.W.Frag} {h : Heap} (_ : K.In h) : PySem.W.Frag := K
theorem walk_of {l : PySem.W.OpenLaw} {n k : Nat} {q : Program} {loose : List Str} {XP : (Str → Option Value) → Heap → Prop} {YP : World → Heap → Prop} {d : DefRec} {K : Params → PySem.W.Frag} {CX : World → CXT} {sp : World → Sp} {x : Str}
    (hn : l.most = some n) (hn2 : n ≤ sizeLine) (hdf : d.params.defaults = []) (hr : Room k callerA)
    (hY : ∀ (w : World) (h : Heap), YP w h → (K w.params).In h)
    (F : ∀ (w : World) (mg : Str → Option Value) (fa : Addr) (h : Heap), (K w.params).In h → h.Ns mainGlobals mg → mg d.name = some (.ref fa) →
      ∃ fd : FuncData, (∀ (s : Shared) (u : Value), BindsTo s fd ⟨[u], []⟩ [(x, u)]) ∧
        ∀ base : Heap, (K w.params).In base → base.Ns mainGlobals mg → FnOk l.prog w (K w.params) mg base (CX w) k fa fd [x] (sp w))
    (hsp : ∀ (w : World) (H : Hp) (a : Addr) (ns : List Int), ns.length ≤ n → Only H → SqL (K w.params) H a (ns.map V.int) → sp w [.ref a] H (fun v _ => v = .bl true) fun _ _ _ => False)
    (hCX : ∀ (w : World) (H : Hp) (s : Shared) (e : Value) (s' : Shared), CX w [] H s (fun _ _ _ => False) e s' → False) :
    PySem.W.WalkO q loose XP YP l.row.toRowW d [] (fun f vs => PySem.call f vs) := by
  refine Att.attach_call hn hdf fun w s₀ s₁ mg mb fa o pm cd doc a vs ns G Y ho hd hcd hmg hobj hints hlen hg => ?_
  have KX := hY w _ Y
  obtain ⟨fd, hb, hF⟩ := F w mg fa _ KX G.T.g hmg
  exact law_call KX G.T.g G.T.b G.T.builtins G.T.nolimit hg hobj hints (Nat.le_trans hlen hn2) hr hF hb (fun H hO hS => hsp w H a ns hlen hO hS) fun H e s' => hCX w H s₁ e s'
end L2
namespace L2
open PySem PySem.Spec PyProof.Rows
def inClass (s : Stmt) (j : Nat) : Stmt := match s with
  | .ClassDef _ _ _ body _ _ _ _ _ _ _ => body.getD j (.Pass ⟨0, 0, 0, 0⟩)
  | _ => .Pass ⟨0, 0, 0, 0⟩
def defArgs (s : Stmt) : Arguments := match s with
  | .FunctionDef _ a _ _ _ _ _ _ _ _ => a
  | _ => { posonlyargs := [], args := [], vararg := none, kwonlyargs := [], kw_defaults := [], kwarg := none, defaults := [] }
def defBody (s : Stmt) : List Stmt := match s with
  | .FunctionDef _ _ b _ _ _ _ _ _ _ => b
  | _ => []
def defScope (s : Stmt) : Scope := match s with
  | .FunctionDef _ _ _ _ _ _ sc _ _ _ => sc
  | _ => { kind := .function, names := [], isGenerator := false, isCoroutine := false }
abbrev CX0 : CXT := fun _ _ _ _ _ _ => False
abbrev E0 : XK := fun _ _ _ => False
theorem pass0 {X : Cx} : Passes CX0 X E0 := fun _ _ _ _ _ _ _ h => h.elim
structure Fun (K : PySem.W.Frag) (x qual : Str) (st : Stmt) (f : Addr) (fd : FuncData) : Prop where
  ex : ∃ (oc : Value) (od : Option Addr) (kV doc pm : Value) (an : Option Addr) (cdv ct : Value) (osl : Array (Option Value)),
    fd = PySem.W.fnOf x qual (defArgs st) (defBody st) (defScope st) .none kV doc pm an cdv ct ∧ K.lookup f = some ⟨oc, od, .func fd, osl⟩ ∧ PySem.W.codeIn K cdv qual = true
  kp : PySem.W.keepIn K (.ref f) = true
section
variable {P : Program} {w : World} {K : PySem.W.Frag} {mg : Str → Option Value} {base : Heap}
theorem Fun.ok {x qual : Str} {st : Stmt} {f : Addr} {fd : FuncData} {N ps : List Str} {k : Nat} {sp : Sp} (F : Fun K x qual st f fd) (S : FnScope N ps (defScope st)) (len : ∀ vs H Q E, sp vs H Q E → vs.length = ps.length)
    (hbody : ∀ (cdv : Value) (A : Around) (outer : List Env) (s : Shared) (H : Hp) (vs : List V) (Q : VK) (E : XK), Room k (A.deeper (envOfC qual (defScope st) s.heap.objs.size f cdv)) → sp vs H Q E →
      ∃ t, PSs (cxOf CX0 P w K mg base N qual (defScope st) f cdv A outer s H E).nox (defBody st) t ∧ t { nx := fun _ H' => Q .non H', rt := Q } (start N vs) H) : FnOk P w K mg base CX0 (k + 1) f fd ps sp := by
  obtain ⟨oc, od, kV, doc, pm, an, cdv, ct, osl, rfl, lk, hcd⟩ := F.ex
  refine fn_of lk hcd S len fun A outer s H vs Q E hr hsp => ?_
  obtain ⟨t, h, q⟩ := hbody cdv A outer s H vs Q E hr hsp
  exact ⟨t, h.nox, q⟩
theorem Fun.binds {x qual : Str} {st : Stmt} {f : Addr} {fd : FuncData} {ps : List Str} (F : Fun K x qual st f fd)
    (h : ∀ (kV doc pm : Value) (an : Option Addr) (cdv ct : Value) (us : List Value), us.length = ps.length → bindArgs (PySem.W.fnOf x qual (defArgs st) (defBody st) (defScope st) .none kV doc pm an cdv ct) ⟨us, []⟩ = pure (ps.zip us)) : Binds K fd ps [] := by
  obtain ⟨oc, od, kV, doc, pm, an, cdv, ct, osl, rfl, lk, hcd⟩ := F.ex
  exact .all (h kV doc pm an cdv ct)
theorem fun_mk {x qual : Str} {st : Stmt} {f : Addr} {oc : Value} {od an : Option Addr} {osl : Array (Option Value)} {kV doc pm cdv ct : Value} (l : K.lookup f = some ⟨oc, od, .func (PySem.W.fnOf x qual (defArgs st) (defBody st) (defScope st) .none kV doc pm an cdv ct), osl⟩)
    (c : PySem.W.codeIn K cdv qual = true) (k : PySem.W.keepIn K (.ref f) = true) : Fun K x qual st f (PySem.W.fnOf x qual (defArgs st) (defBody st) (defScope st) .none kV doc pm an cdv ct) := ⟨⟨oc, od, kV, doc, pm, an, cdv, ct, osl, rfl, l, c⟩, k⟩
end
theorem hu_of {A : Around} {k : Nat} (hr : Room k A) : A.units + 1 < cLine := Nat.lt_of_le_of_lt (Nat.add_le_add_left (by decide : 1 ≤ 64) _) hr.units
section
variable {X : Cx}
theorem pv (i : Nat) {x : Str} {pos : Pos} (hN : X.N[i]? = some x := by rfl) (hv : Vis X.env.scope x := by first | exact Or.inl rfl | exact Or.inr (Or.inl rfl) | exact Or.inr (Or.inr rfl)) (hd : (x == ("__debug__" : Str)) = false := by decide)
    (hcd : (x == ("__classdict__" : Str)) = false := by decide) : PE X (.Name x pos) (tVar i) := pe_var hN hv hd hcd
end
theorem iteF {A B : Prop} (h : B) : if false = true then A else B := by
  rw [if_neg Bool.false_ne_true]
  exact h
theorem iteT {A B : Prop} (h : A) : if true = true then A else B := by
  rw [if_pos rfl]
  exact h
def Same (H H' : Hp) : Prop := ∀ b o, H b = some o → H' b = some o
theorem Same.refl (H : Hp) : Same H H := fun _ _ h => h
theorem Same.trans {H H1 H2 : Hp} (a : Same H H1) (b : Same H1 H2) : Same H H2 := fun c o h => b c o (a c o h)
theorem Same.free {H H' : Hp} (e : Same H H') {l : Addr} (h : H' l = Option.none) : H l = Option.none := by
  cases q : H l with
  | none => rfl
  | some o =>
    rw [e l o q] at h
    cases h
theorem Same.seq {K : PySem.W.Frag} {H H' : Hp} {a : Addr} {xs : List V} (e : Same H H') (h : SqL K H a xs) : SqL K H' a xs := by
  rcases h with (h | ⟨o, h⟩) | h
  · exact .inl (.inl (e _ _ h))
  · exact .inl (.inr ⟨o, e _ _ h⟩)
  · exact .inr h
end L2
namespace L2
open PySem PySem.Spec PyProof.Rows
section
variable {κ : Type} [DecidableEq κ]
def valV (kvs : List (κ × V)) (k : κ) : Option V := (kvs.find? fun kv => decide (kv.1 = k)).map (·.2)
def putK (kvs : List (κ × V)) (k : κ) (v : V) : List (κ × V) :=
  if (kvs.any fun kv => decide (kv.1 = k)) = true then kvs.map (fun kv => if kv.1 = k then (kv.1, v) else kv) else kvs ++ [(k, v)]
def a68 (kvs : List (κ × V)) (k : κ) : List (κ × V) := kvs.filter fun kv => decide (kv.1 ≠ k)
theorem a1g {p : κ × V} {r : List (κ × V)} {k : κ} (e : p.1 = k) : valV (p :: r) k = some p.2 := by simp [valV, List.find?_cons, e]
theorem a1h {p : κ × V} {r : List (κ × V)} {k : κ} (e : ¬ p.1 = k) : valV (p :: r) k = valV r k := by simp [valV, List.find?_cons, e]
theorem a3p (k : κ) : ∀ kvs : List (κ × V), (kvs.any fun kv => decide (kv.1 = k)) = (valV kvs k).isSome
  | [] => rfl
  | p :: r => by
    rw [List.any_cons]
    by_cases e : p.1 = k
    · simp only [a1g e, decide_eq_true e, Bool.true_or, Option.isSome_some]
    · rw [a1h e, decide_eq_false e, Bool.false_or]; exact a3p k r
theorem a5N (k j : κ) (y : V) : ∀ kvs : List (κ × V), valV (kvs.map fun kv => if kv.1 = k then (kv.1, y) else kv) j = (valV kvs j).map fun x => if j = k then y else x
  | [] => rfl
  | p :: r => by
    have ih := a5N k j y r
    rw [List.map_cons]
    by_cases h : p.1 = k
    · rw [if_pos h]
      by_cases e : p.1 = j
      · rw [a1g (p := (p.1, y)) e, a1g e, Option.map_some, if_pos (e.symm.trans h)]
      · rw [a1h (p := (p.1, y)) e, a1h e, ih]
    · rw [if_neg h]
      by_cases e : p.1 = j
      · rw [a1g (p := p) e, a1g e, Option.map_some, if_neg (fun z => h (e.trans z))]
      · rw [a1h (p := p) e, a1h e, ih]
theorem a4P (k j : κ) (y : V) : ∀ kvs : List (κ × V), valV kvs k = none → valV (kvs ++ [(k, y)]) j = if j = k then some y else valV kvs j
  | [], _ => by
    by_cases e : k = j
    · rw [if_pos e.symm]; exact a1g (p := (k, y)) e
    · rw [if_neg (fun z => e z.symm)]; exact a1h (p := (k, y)) e
  | p :: r, hn => by
    rw [List.cons_append]
    have hk : ¬ p.1 = k := fun z => by rw [a1g z] at hn; cases hn
    rw [a1h hk] at hn
    have ih := a4P k j y r hn
    by_cases e : p.1 = j
    · rw [a1g e, a1g e, if_neg (fun z => hk (e.trans z))]
    · rw [a1h e, a1h e, ih]
theorem valV_put (kvs : List (κ × V)) (k j : κ) (y : V) : valV (putK kvs k y) j = if j = k then some y else valV kvs j := by
  unfold putK
  by_cases a : (kvs.any fun kv => decide (kv.1 = k)) = true
  · rw [if_pos a, a5N]
    rw [a3p] at a
    by_cases e : j = k
    · obtain ⟨x, hx⟩ := Option.isSome_iff_exists.mp a
      rw [if_pos e, e, hx, Option.map_some, if_pos rfl]
    · rw [if_neg e]
      cases valV kvs j with
      | none => rfl
      | some x => rw [Option.map_some, if_neg e]
  · rw [if_neg a]
    refine a4P k j y kvs ?_
    rw [a3p] at a
    cases q : valV kvs k with
    | none => rfl
    | some x => rw [q] at a; exact (a rfl).elim
theorem a3F (kvs : List (κ × V)) (k : κ) (v : V) : (putK kvs k v).length ≤ kvs.length + 1 := by
  unfold putK
  split
  · rw [List.length_map]; omega
  · rw [List.length_append, List.length_cons, List.length_nil]; omega
theorem RelO.isSome_eq {o : Option V} {u : Option Value} (r : RelO o u) : o.isSome = u.isSome := by
  cases o with
  | none => cases u with
    | none => rfl
    | some _ => exact (show False from r).elim
  | some _ => cases u with
    | none => exact (show False from r).elim
    | some _ => rfl
theorem RelO.getD {o : Option V} {u : Option Value} {d : V} {d' : Value} (r : RelO o u) (rd : RelV d d') : RelV (o.getD d) (u.getD d') := by
  cases o with
  | none => cases u with
    | none => exact rd
    | some _ => exact (show False from r).elim
  | some _ => cases u with
    | none => exact (show False from r).elim
    | some _ => exact r
theorem KV.val {kvs : List (κ × V)} {vs : List (κ × Value)} (r : KV kvs vs) (k : κ) : RelO (valV kvs k) (valueAt vs k) := by
  unfold KV at r
  induction r with
  | nil => exact True.intro
  | @cons p q ps qs h t ih =>
    obtain ⟨h1, h2⟩ := h
    by_cases e : p.1 = k
    · have e' : q.1 = k := h1.symm.trans e
      have b : valueAt (q :: qs) k = some q.2 := by simp [valueAt, List.find?_cons, e']
      rw [a1g e, b]; exact h2
    · have e' : ¬ q.1 = k := fun z => e (h1.trans z)
      have b : valueAt (q :: qs) k = valueAt qs k := by simp [valueAt, List.find?_cons, e']
      rw [a1h e, b]; exact ih
theorem KV.any {kvs : List (κ × V)} {vs : List (κ × Value)} (r : KV kvs vs) (k : κ) : (kvs.any fun kv => decide (kv.1 = k)) = vs.any fun kv => decide (kv.1 = k) := by
  unfold KV at r
  induction r with
  | nil => rfl
  | cons h t ih => rw [List.any_cons, List.any_cons, ih, h.1]
theorem KV.repl {kvs : List (κ × V)} {vs : List (κ × Value)} (r : KV kvs vs) (k : κ) {y : V} {u : Value} (ry : RelV y u) :
    KV (kvs.map fun kv => if kv.1 = k then (kv.1, y) else kv) (vs.map fun kv => if kv.1 = k then (kv.1, u) else kv) := by
  unfold KV at r ⊢
  induction r with
  | nil => exact .nil
  | @cons p q ps qs h t ih =>
    rw [List.map_cons, List.map_cons]
    refine .cons ?_ ih
    obtain ⟨h1, h2⟩ := h
    by_cases e : p.1 = k
    · rw [if_pos e, if_pos (h1.symm.trans e)]; exact ⟨h1, ry⟩
    · rw [if_neg e, if_neg (fun z => e (h1.trans z))]; exact ⟨h1, h2⟩
theorem KV.put {kvs : List (κ × V)} {vs : List (κ × Value)} (r : KV kvs vs) (k : κ) {y : V} {u : Value} (ry : RelV y u) : KV (putK kvs k y) (stored vs k u) := by
  unfold putK stored
  rw [r.any k]
  by_cases e : (vs.any fun kv => decide (kv.1 = k)) = true
  · rw [if_pos e, if_pos e]; exact r.repl k ry
  · rw [if_neg e, if_neg e]; exact Paired.snoc r ⟨rfl, ry⟩
theorem KV.drop {kvs : List (κ × V)} {vs : List (κ × Value)} (r : KV kvs vs) (k : κ) : KV (a68 kvs k) (without vs k) := by
  unfold KV at r ⊢
  unfold a68 without
  induction r with
  | nil => exact .nil
  | @cons p q ps qs h t ih =>
    obtain ⟨h1, h2⟩ := h
    rw [List.filter_cons, List.filter_cons]
    by_cases e : p.1 = k
    · have a : ¬ decide (p.1 ≠ k) = true := by simp [e]
      have b : ¬ decide (q.1 ≠ k) = true := by simp [h1.symm.trans e]
      rw [if_neg a, if_neg b]; exact ih
    · have e' : ¬ q.1 = k := fun z => e (h1.trans z)
      have a : decide (p.1 ≠ k) = true := by simp [e]
      have b : decide (q.1 ≠ k) = true := by simp [e']
      rw [if_pos a, if_pos b]; exact .cons ⟨h1, h2⟩ ih
theorem KV.keys {kvs : List (κ × V)} {vs : List (κ × Value)} (r : KV kvs vs) : kvs.map (·.1) = vs.map (·.1) := by
  unfold KV at r
  induction r with
  | nil => rfl
  | cons h t ih => rw [List.map_cons, List.map_cons, ih, h.1]
theorem KV.length {kvs : List (κ × V)} {vs : List (κ × Value)} (r : KV kvs vs) : kvs.length = vs.length := Paired.length r
end
theorem kV_is {P : Program} {w : World} {k : Key} {u : Value} (r : RelV (kV k) u) : (mixKind P w).is k u = true := by
  cases k with
  | inl i => obtain ⟨t, e⟩ := (show ∃ t, u = Value.int i t from r); subst e; exact mixKind_int P w i t
  | inr x => obtain ⟨t, e⟩ := (show ∃ t, u = Value.str x t from r); subst e; exact mixKind_str P w x t
theorem a45 {P : Program} {w : World} : ∀ {ks : List Key} {us : List Value}, Vals (ks.map kV) us → ItemsAre (mixKind P w) ks us
  | [], _, r => by rw [List.map_nil] at r; cases r; exact .nil
  | k :: ks, _, r => by
    rw [List.map_cons] at r
    cases r with
    | cons h t => exact .cons (kV_is h) (a45 t)
abbrev KT (H : Hp) : List (List Key × V) → List (List Key × Addr × Value) → Prop := Paired fun p q => p.1 = q.1 ∧ H q.2.1 = some (.tup (p.1.map kV)) ∧ RelV p.2 q.2.2
theorem KT.val {H : Hp} {kvs : List (List Key × V)} {xs : List (List Key × Addr × Value)} (r : KT H kvs xs) (k : List Key) : RelO (valV kvs k) ((atKey xs k).map (·.2)) := by
  induction r with
  | nil => exact True.intro
  | @cons p q ps qs h t ih =>
    obtain ⟨h1, _, h2⟩ := h
    by_cases e : p.1 = k
    · have e' : q.1 = k := h1.symm.trans e
      have b : atKey (q :: qs) k = some q.2 := by simp [atKey, List.find?_cons, e']
      rw [a1g e, b]; exact h2
    · have e' : ¬ q.1 = k := fun z => e (h1.trans z)
      have b : atKey (q :: qs) k = atKey qs k := by simp [atKey, List.find?_cons, e']
      rw [a1h e, b]; exact ih
theorem KT.repl {H : Hp} {kvs : List (List Key × V)} {xs : List (List Key × Addr × Value)} (r : KT H kvs xs) (k : List Key) {y : V} {u : Value} (ry : RelV y u) :
    KT H (kvs.map fun kv => if kv.1 = k then (kv.1, y) else kv) (xs.map (putAt k u)) := by
  induction r with
  | nil => exact .nil
  | @cons p q ps qs h t ih =>
    rw [List.map_cons, List.map_cons]
    refine .cons ?_ ih
    obtain ⟨h1, h2, h3⟩ := h
    unfold putAt
    by_cases e : p.1 = k
    · rw [if_pos e, if_pos (h1.symm.trans e)]; exact ⟨h1, h2, ry⟩
    · rw [if_neg e, if_neg (fun z => e (h1.trans z))]; exact ⟨h1, h2, h3⟩
theorem KT.put {H : Hp} {kvs : List (List Key × V)} {xs : List (List Key × Addr × Value)} (r : KT H kvs xs) (k : List Key) {b : Addr} {y : V} {u : Value} (hb : H b = some (.tup (k.map kV))) (ry : RelV y u) :
    KT H (putK kvs k y) (storedH xs k b u) := by
  have e : (kvs.any fun kv => decide (kv.1 = k)) = (atKey xs k).isSome := by
    rw [a3p, (r.val k).isSome_eq, Option.isSome_map]
  unfold putK storedH
  rw [e]
  by_cases q : (atKey xs k).isSome = true
  · rw [if_pos q, if_pos q]; exact r.repl k ry
  · rw [if_neg q, if_neg q]; exact Paired.snoc r ⟨rfl, hb, ry⟩
theorem KT.keeps {H H' : Hp} {kvs : List (List Key × V)} {xs : List (List Key × Addr × Value)} (r : KT H kvs xs) (ht : ∀ b ys, H b = some (.tup ys) → H' b = some (.tup ys)) : KT H' kvs xs :=
  Paired.mapP r fun _ _ z => ⟨z.1, ht _ _ z.2.1, z.2.2⟩
section
variable {P : Program} {w : World} {H : Hp} {h : Heap} {a : Addr}
theorem rd_of {u : HO} (ok : HOk P w H h) (e : Rd H a u) : ObjOk P w H h a u := e.ok ok
theorem dk_rd {kvs : List (Key × V)} (ok : HOk P w H h) (e : Rd H a (.dK kvs)) : kvs.length ≤ sizeLine ∧ (a == sysModules) = false ∧ ∃ vs, KV kvs vs ∧ h.DictOf (mixKind P w) a vs :=
  show ObjOk P w H h a (.dK kvs) from rd_of ok e
theorem dk_of {kvs : List (Key × V)} (ok : HOk P w H h) (e : H a = some (.dK kvs)) : kvs.length ≤ sizeLine ∧ (a == sysModules) = false ∧ ∃ vs, KV kvs vs ∧ h.DictOf (mixKind P w) a vs := dk_rd ok (.inl e)
theorem a63 {ks : List Key} (ok : HOk P w H h) (e : H a = some (.tup (ks.map kV))) : (tupleKind (mixKind P w)).is h ks a := by
  obtain ⟨_, its, r, o, h1, h2, n, h3⟩ := (show ObjOk P w H h a (.tup (ks.map kV)) from ok a _ e)
  exact ⟨o, its.toArray, n, h1, h2, h3, by simpa using a45 r⟩
theorem dt_rd {kvs : List (List Key × V)} (ok : HOk P w H h) (e : Rd H a (.dT kvs)) : kvs.length ≤ sizeLine ∧ (a == sysModules) = false ∧
    ∃ xs, KT H kvs xs ∧ h.DictOfH (tupleKind (mixKind P w)) a xs := by
  obtain ⟨z, y, xs, r, o, es, ep, h1, h2, h3, h4, h5⟩ := (show ObjOk P w H h a (.dT kvs) from rd_of ok e)
  refine ⟨z, y, xs, r, o, es, ep, h1, h2, h3, h4, fun x hx => ?_, h5⟩
  have all : ∀ {l : List (List Key × V)} {m : List (List Key × Addr × Value)}, KT H l m → ∀ x ∈ m, (tupleKind (mixKind P w)).is h x.1 x.2.1 := by
    intro l m q
    induction q with
    | nil => intro x hx; exact nomatch hx
    | @cons p q ps qs hq t ih =>
      intro x hx
      rcases List.mem_cons.mp hx with e | hx
      · subst e
        exact a63 ok (by rw [← hq.1]; exact hq.2.1)
      · exact ih x hx
  exact all r x hx
theorem dt_of {kvs : List (List Key × V)} (ok : HOk P w H h) (e : H a = some (.dT kvs)) : kvs.length ≤ sizeLine ∧ (a == sysModules) = false ∧
    ∃ xs, KT H kvs xs ∧ h.DictOfH (tupleKind (mixKind P w)) a xs := dt_rd ok (.inl e)
end
def DGet (H : Hp) (a : Addr) (y : V) (r : Option V) : Prop :=
  (∃ kvs k, Rd H a (.dK kvs) ∧ y = kV k ∧ r = valV kvs k) ∨ ∃ kvs k b, Rd H a (.dT kvs) ∧ y = .ref b ∧ H b = some (.tup (k.map kV)) ∧ r = valV kvs k
def DPut (H : Hp) (a : Addr) (y v : V) (H' : Hp) : Prop :=
  (∃ kvs k, H a = some (.dK kvs) ∧ y = kV k ∧ kvs.length < sizeLine ∧ H' = upd H a (.dK (putK kvs k v))) ∨
  ∃ kvs k b, H a = some (.dT kvs) ∧ y = .ref b ∧ H b = some (.tup (k.map kV)) ∧ kvs.length < sizeLine ∧ H' = upd H a (.dT (putK kvs k v))
theorem DGet.k {H : Hp} {a : Addr} {kvs : List (Key × V)} {k : Key} (e : H a = some (.dK kvs)) : DGet H a (kV k) (valV kvs k) := .inl ⟨kvs, k, .inl e, rfl, rfl⟩
theorem DGet.t {H : Hp} {a b : Addr} {kvs : List (List Key × V)} {k : List Key} (e : H a = some (.dT kvs)) (eb : H b = some (.tup (k.map kV))) : DGet H a (.ref b) (valV kvs k) := .inr ⟨kvs, k, b, .inl e, rfl, eb, rfl⟩
theorem DPut.k {H : Hp} {a : Addr} {kvs : List (Key × V)} {k : Key} {v : V} (e : H a = some (.dK kvs)) (hl : kvs.length < sizeLine) : DPut H a (kV k) v (upd H a (.dK (putK kvs k v))) := .inl ⟨kvs, k, e, rfl, hl, rfl⟩
theorem DPut.t {H : Hp} {a b : Addr} {kvs : List (List Key × V)} {k : List Key} {v : V} (e : H a = some (.dT kvs)) (eb : H b = some (.tup (k.map kV))) (hl : kvs.length < sizeLine) :
    DPut H a (.ref b) v (upd H a (.dT (putK kvs k v))) := .inr ⟨kvs, k, b, e, rfl, eb, hl, rfl⟩
section
variable {X : Cx} {pins : List (Addr × Obj)} {σ : St} {H : Hp} {s : Shared} {a : Addr} {y v : V} {u r : Value} {o : Option V} {A : Around} {E : Value → Shared → Prop}
theorem Inv.big (I : Inv X pins σ H s) : sysModules < s.heap.objs.size := by
  have h : mainGlobals < s.heap.objs.size := (I.mod.glob.keeps I.bk).lt
  exact Nat.lt_trans (by decide) h
theorem a7b {h' : Heap} {t' : Nat} {ob : HO} (I : Inv X pins σ H s) (mu : Mut (H a)) (hs : Heap.SameBut a s.heap h') (he : ∃ q, h'.get? a = some q) (new : ObjOk X.prog X.w (upd H a ob) h' a ob) :
    Inv X pins σ (upd H a ob) { s with heap := h', toks := t' } :=
  I.write (x := a) (e := a) mu (.inl rfl) (fun b q hb z => (hs.2 b hb).trans z) he new
theorem dk_new {P : Program} {w : World} {H' : Hp} {h' : Heap} {kvs : List (Key × V)} {vs : List (Key × Value)} (z : kvs.length ≤ sizeLine) (hd : (a == sysModules) = false) (rel : KV kvs vs) (dd : h'.DictOf (mixKind P w) a vs) :
    ObjOk P w H' h' a (.dK kvs) := ⟨z, hd, vs, rel, dd⟩
theorem a7c {H' : Hp} {Q : Unit → Shared → Prop} (hu : A.units + 1 < cLine) (I : Inv X pins σ H s) (g : DPut H a y v H') (ry : RelV y u) (rv : RelV v r) (h : ∀ s', Inv X pins σ H' s' → Q () s') :
    wpAny (model X.prog X.w) A (setItem (.ref a) u r) Q E s := by
  rcases g with ⟨kvs, k, e, ey, l, eH⟩ | ⟨kvs, k, b, e, ey, eb, l, eH⟩
  · subst ey eH
    obtain ⟨z, hd, vs, rel, dd⟩ := dk_of I.hok e
    have hz : vs.length ≤ sizeLine := by rw [← rel.length]; exact z
    have hl : (putK kvs k v).length ≤ sizeLine := by have := a3F kvs k v; omega
    refine wpAny_setItem_pairs (hsz := hz) (kV_is ry) dd fun h' dd' hs => h _ ?_
    have he : ∃ q, h'.get? a = some q := let ⟨q, _, _, hq, _⟩ := dd'; ⟨q, hq⟩
    exact a7b I (by rw [e]; exact True.intro) hs he (dk_new hl hd (rel.put k rv) dd')
  · subst ey eH
    cases (show u = Value.ref b from ry)
    obtain ⟨z, hd, xs, rel, dd⟩ := dt_of I.hok e
    have hz : xs.length ≤ sizeLine := by rw [← Paired.length rel]; exact z
    have hl : (putK kvs k v).length ≤ sizeLine := by have := a3F kvs k v; omega
    refine wpAny_setItem_heap (hsz := hz) (tupleKind_room_in1 hu) (a63 I.hok eb) dd fun h' dd' hs => h _ ?_
    obtain ⟨q, es, ep, hq, h2, h3, h4, _, h5⟩ := dd'
    refine a7b I (by rw [e]; exact True.intro) hs ⟨q, hq⟩ ⟨hl, hd, _, (rel.put k eb rv).keeps fun c ys ec => ?_, q, es, ep, hq, h2, h3, h4, h5⟩
    rw [upd_ne (ne_of ec e (fun z => nomatch z))]
    exact ec
end
section
variable {X : Cx} {pins : List (Addr × Obj)} {σ : St} {H : Hp} {s : Shared} {a : Addr} {kvs : List (Key × V)} {k : Key} {u : Value} {A : Around} {E : Value → Shared → Prop}
end
def NoSl (i : Expr) : Prop := ∀ ov iv, subscripted i false ov iv = operate [ov, iv] (getItem ov iv)
def tDGet (td ty : TE) : TE := fun σ H Q => td σ H fun x H1 => ty σ H1 fun y H2 => ∃ a v, x = .ref a ∧ DGet H2 a y (some v) ∧ Q v H2
def tDIn (ty td : TE) : TE := fun σ H Q => ty σ H fun y H1 => td σ H1 fun x H2 => ∃ a o, x = .ref a ∧ DGet H2 a y o ∧ Q (.bl o.isSome) H2
def tDNotIn (ty td : TE) : TE := fun σ H Q => ty σ H fun y H1 => td σ H1 fun x H2 => ∃ a o, x = .ref a ∧ DGet H2 a y o ∧ Q (.bl (!o.isSome)) H2
def sDPut (td ty tv : TE) : TS := fun D σ H => tv σ H fun v H1 => td σ H1 fun x H2 => ty σ H2 fun y H3 => ∃ a H4, x = .ref a ∧ DPut H3 a y v H4 ∧ D.nx σ H4
def sDAug (td ty tv : TE) (rd : V → V → Hp → VK → Prop) : TS := fun D σ H => td σ H fun x H1 => ty σ H1 fun y H2 => ∃ a v, x = .ref a ∧ DGet H2 a y (some v) ∧
  tv σ H2 fun y2 H3 => rd v y2 H3 fun z H4 => ∃ H5, DPut H4 a y z H5 ∧ D.nx σ H5
def sDDel (td ty : TE) : TS := fun D σ H => td σ H fun x H1 => ty σ H1 fun y H2 => ∃ a kvs k, x = .ref a ∧ H2 a = some (.dK kvs) ∧ y = kV k ∧ (valV kvs k).isSome = true ∧ D.nx σ (upd H2 a (.dK (a68 kvs k)))
section
variable {X : Cx} {o i e value : Expr} {pos pos' tpos : Pos} {td ty tv : TE}
theorem ps_dput (hu : X.A.units + 1 < cLine) (ho : PE X o td) (hi : PE X i ty) (hv : PE X value tv) (hs : swapsWith value (some (.Subscript o i pos')) pos.line X.env = pure false) :
    PS X (.Assign [.Subscript o i pos'] value pos) (sDPut td ty tv) := by
  intro pins s σ H D I h
  refine wpAny_Assign_Subscript (thn (hv pins s σ H _ I h) fun r s1 ⟨v, H1, I1, rv, q1⟩ => thn (ho pins s1 σ H1 _ I1 q1) fun u s2 ⟨x, H2, I2, rx, q2⟩ => thn (hi pins s2 σ H2 _ I2 q2) fun iv s3 ⟨y, H3, I3, ry, a, H4, ex, g, q3⟩ => ?_) hs
  subst ex
  obtain rfl : u = Value.ref a := rx
  exact a7c hu I3 g ry rv fun s4 I4 => ⟨σ, H4, I4, q3⟩
end
theorem dt_empty {P : Program} {w : World} {H : Hp} (h : Heap) (hb : sysModules < h.objs.size) : ObjOk P w H (h.push { cls := .type "dict", data := .dict #[] }) h.objs.size (.dT []) :=
  ⟨Nat.zero_le _, beq_eq_false_iff_ne.mpr (Ne.symm (Nat.ne_of_lt hb)), [], .nil, _, #[], 0, Heap.get?_push_size _ rfl, ⟨rfl, rfl, rfl⟩, rfl, rfl, List.nodup_nil⟩
def tDNewK : TE := fun _ H Q => ∀ p, H p = none → Q (.ref p) (upd H p (.dK []))
def tDNewT : TE := fun _ H Q => ∀ p, H p = none → Q (.ref p) (upd H p (.dT []))
section
variable {X : Cx} {pos : Pos}
theorem pe_dnewT : PE X (.Dict [] [] pos) tDNewT := fun pins s σ H Q I h =>
  wpAny_Dict_empty ⟨.ref s.heap.objs.size, _, I.laid (a := s.heap.objs.size) (o := .dT []) (t' := s.toks) (fun _ _ q => Heap.get?_push_of_some _ q) (Nat.le_refl _) (dt_empty s.heap I.big), rfl, h _ (I.hok.fresh (Nat.le_refl _))⟩
end
def a6E : List (TE × TE) → St → Hp → (List (V × V) → Hp → Prop) → Prop
  | [], _, H, Q => Q [] H
  | (tk, tv) :: r, σ, H, Q => tk σ H fun x H1 => tv σ H1 fun y H2 => a6E r σ H2 fun ps H3 => Q ((x, y) :: ps) H3
abbrev VV : List (V × V) → List (Value × Value) → Prop := Paired fun p q => RelV p.1 q.1 ∧ RelV p.2 q.2
def PPs (X : Cx) (pos : Pos) (keys : List (Option Expr)) (values : List Expr) (trs : List (TE × TE)) : Prop :=
  ∀ (pins : List (Addr × Obj)) (s : Shared) (σ : St) (H : Hp) (Q : List (V × V) → Hp → Prop), Inv X pins σ H s → a6E trs σ H Q →
    wpAny (model X.prog X.w) X.A (evalPairs (pairTrees keys values X.env pos)) (fun vs s' => ∃ ps H', Inv X pins σ H' s' ∧ VV ps vs ∧ Q ps H') X.xe s
def mergeK (kvs more : List (Key × V)) : List (Key × V) := more.foldl (fun acc kv => putK acc kv.1 kv.2) kvs
def tDisp (trs : List (TE × TE)) : TE := fun σ H Q => ∀ p, H p = none → a6E trs σ (upd H p (.dK [])) fun ps H2 => H2 p = some (.dK []) ∧ ∃ kvs : List (Key × V), ps = kvs.map (fun kv => (kV kv.1, kv.2)) ∧ kvs.length ≤ 15 ∧ Q (.ref p) (upd H2 p (.dK (mergeK [] kvs)))
structure M1 (X : Cx) (o : Expr) (m : Str) (apos : Pos) (e : Expr) (cpos : Pos) : Prop where
  base : attributeBase o m X.env (eval o X.env) = eval o X.env
  few : ((backTo cpos (starEach [e] X.env)).all (fun x => !x.1) && (backToKw cpos (keywordEach [] X.env)).all (fun x => x.1.isSome)
    && decide (([e] : List Expr).length + ([] : List Keyword).length + (if ([] : List Keyword).isEmpty then 0 else 1) < 30)) = true
  line : (apos.endLine == cpos.line) = true
  trees : backTo cpos (starEach [e] X.env) = [(false, eval e X.env)]
structure M2 (X : Cx) (o : Expr) (m : Str) (apos : Pos) (e f : Expr) (cpos : Pos) : Prop where
  base : attributeBase o m X.env (eval o X.env) = eval o X.env
  few : ((backTo cpos (starEach [e, f] X.env)).all (fun x => !x.1) && (backToKw cpos (keywordEach [] X.env)).all (fun x => x.1.isSome)
    && decide (([e, f] : List Expr).length + ([] : List Keyword).length + (if ([] : List Keyword).isEmpty then 0 else 1) < 30)) = true
  line : (apos.endLine == cpos.line) = true
  trees : backTo cpos (starEach [e, f] X.env) = [(false, eval e X.env), (false, eval f X.env)]
def IsD (H : Hp) (a : Addr) : Prop := (∃ kvs, Rd H a (.dK kvs)) ∨ ∃ kvs, Rd H a (.dT kvs)
theorem isD_at {X : Cx} {pins : List (Addr × Obj)} {σ : St} {H : Hp} {s : Shared} {a : Addr} (I : Inv X pins σ H s) (d : IsD H a) :
    s.TypeIs (.ref a) "dict" ∧ (∀ b, Value.ref a = .ref b → ∃ ob, s.heap.get? b = some ob ∧ ob.dict = none) ∧ (a == sysModules) = false := by
  rcases d with ⟨kvs, e⟩ | ⟨kvs, e⟩
  · obtain ⟨_, hd, vs, _, dd⟩ := dk_rd I.hok e
    refine ⟨dd.typeIs, fun b q => ?_, hd⟩
    cases q
    obtain ⟨ob, _, _, h1, h2, _⟩ := dd
    exact ⟨ob, h1, h2.2.1⟩
  · obtain ⟨_, hd, xs, _, dd⟩ := dt_rd I.hok e
    refine ⟨dd.typeIs, fun b q => ?_, hd⟩
    cases q
    obtain ⟨ob, _, _, h1, h2, _⟩ := dd
    exact ⟨ob, h1, h2.2.1⟩
section
variable {X : Cx} {pins : List (Addr × Obj)} {σ : St} {H : Hp} {s : Shared} {a : Addr} {y d : V} {u r : Value} {o : Option V} {A : Around} {E : Value → Shared → Prop}
theorem d_get2 {Q : Value → Shared → Prop} (hu : A.units + 1 < cLine) (I : Inv X pins σ H s) (g : DGet H a y o) (ry : RelV y u) (rd : RelV d r) (h : ∀ w' s', Inv X pins σ H s' → RelV (o.getD d) w' → Q w' s') :
    wpAny (model X.prog X.w) A (call (.builtin "dict.get") [.ref a, u, r]) Q E s := by
  rcases g with ⟨kvs, k, e, ey, l⟩ | ⟨kvs, k, b, e, ey, eb, l⟩
  · subst ey
    obtain ⟨z, hd, vs, rel, dd⟩ := dk_rd I.hok e
    refine call_meetsIn PySem.F.slot_dict_get dd.typeIs PySem.F.entry_dict_get (PySem.F.args_dict_get_3 _ _ _) (meets_dict_get_default (mixKind X.prog X.w) a (kV_is ry) hd r) ⟨_, dd.mapOf, h _ _ (I.tok _) ?_⟩
    rw [l]
    exact (rel.val k).getD rd
  · subst ey
    cases (show u = Value.ref b from ry)
    obtain ⟨z, hd, xs, rel, dd⟩ := dt_rd I.hok e
    refine call_meetsIn PySem.F.slot_dict_get dd.typeIs PySem.F.entry_dict_get (PySem.F.args_dict_get_3 _ _ _) (meetsH_dict_get_default (tupleKind (mixKind X.prog X.w)) a b hd r) ⟨tupleKind_room_in1 hu, k, xs, a63 I.hok eb, dd, h _ _ (I.tok _) ?_⟩
    rw [l]
    exact (rel.val k).getD rd
end
def tDGet1 (td ty : TE) : TE := fun σ H Q => td σ H fun x H1 => ∃ a, x = .ref a ∧ IsD H1 a ∧ ty σ H1 fun y H2 => ∃ o, DGet H2 a y o ∧ Q (o.getD .non) H2
def tDGet2 (td ty tx : TE) : TE := fun σ H Q => td σ H fun x H1 => ∃ a, x = .ref a ∧ IsD H1 a ∧ ty σ H1 fun y H2 => tx σ H2 fun z H3 => ∃ o, DGet H3 a y o ∧ Q (o.getD z) H3
def tDPop1 (td ty : TE) : TE := fun σ H Q => td σ H fun x H1 => ∃ a, x = .ref a ∧ IsD H1 a ∧ ty σ H1 fun y H2 => ∃ kvs k v, H2 a = some (.dK kvs) ∧ y = kV k ∧ valV kvs k = some v ∧ Q v (upd H2 a (.dK (a68 kvs k)))
def tDPop2 (td ty tx : TE) : TE := fun σ H Q => td σ H fun x H1 => ∃ a, x = .ref a ∧ IsD H1 a ∧ ty σ H1 fun y H2 => tx σ H2 fun z H3 => ∃ kvs k, H3 a = some (.dK kvs) ∧ y = kV k ∧
  (∀ v, valV kvs k = some v → Q v (upd H3 a (.dK (a68 kvs k)))) ∧ (valV kvs k = none → Q z H3)
section
variable {X : Cx} {o e f : Expr} {apos cpos : Pos} {td ty tx : TE}
theorem pe_dget2 (hu : X.A.units + 1 < cLine) (ho : PE X o td) (he : PE X e ty) (hf : PE X f tx) (m : M2 X o "get" apos e f cpos) : PE X (.Call (.Attribute o "get" apos) [e, f] [] cpos) (tDGet2 td ty tx) := by
  intro pins s σ H Q I h
  refine wpAny_Call_method m.base m.few m.line PySem.F.plainAttrs_dict PySem.F.slot_dict_get PySem.F.type_dict_get (thn (ho pins s σ H _ I h) fun u s1 ⟨x, H1, I1, rx, a, ex, d, q1⟩ => ?_)
  subst ex
  obtain rfl : u = Value.ref a := rx
  obtain ⟨t1, t2, _⟩ := isD_at I1 d
  refine ⟨t1, t2, ?_⟩
  rw [m.trees]
  refine Calls.callWith_builtin rfl (Calls.evalArgs_plain (Calls.spliced_cons (thn (he pins s1 σ H1 _ I1 q1) fun iv s2 ⟨y, H2, I2, ry, q2⟩ =>
    Calls.spliced_cons (thn (hf pins s2 σ H2 _ I2 q2) fun fv s3 ⟨z, H3, I3, rz, ov, g, q3⟩ => Calls.spliced_nil ?_))))
  exact d_get2 hu I3 g ry rz fun w' s4 I4 rw' => ⟨_, H3, I4, rw', q3⟩
end
end L2
namespace L3
open PySem
inductive D where
  | non | bl (b : Bool) | int (i : Int) | str (x : Str) | tup (ds : List D) | lst (ds : List D) | obj (c : String) (ns : List Str) (ds : List D)
inductive O where
  | lst (ds : List D) | obj (c : String) (ns : List Str) (ds : List D) | dic (kvs : List (List Int × Int))
def O.val : O → D
  | .lst ds => .lst ds
  | .obj c ns ds => .obj c ns ds
  | .dic _ => .non
inductive S where
  | sh (d : D) | own (o : O)
def S.val : S → D
  | .sh d => d
  | .own o => o.val
def S.nd : S → Bool
  | .own (.dic _) => false
  | _ => true
inductive R where
  | ok (s : S) | exc (x : D)
abbrev MEnv := List (Option S)
inductive Out where
  | next (ρ : MEnv) | brk (ρ : MEnv) | cont (ρ : MEnv) | ret (s : S) | exc (x : D)
abbrev ME := MEnv → Option R
abbrev MC := MEnv → Option Out
inductive RI where
  | ok (ds : List D) | exc (x : D)
abbrev MI := MEnv → Option RI
abbrev MB := D → MEnv → Option MEnv
@[reducible] def okD (d : D) : Option R := some (.ok (.sh d))
@[reducible] def okI (i : Int) : Option R := okD (.int i)
@[reducible] def okB (b : Bool) : Option R := okD (.bl b)
@[reducible] def okL (ds : List D) : Option R := some (.ok (.own (.lst ds)))
def a0Y (r : Option R) (k : D → Option R) : Option R := match r with
  | some (.ok s) => k s.val
  | some (.exc x) => some (.exc x)
  | none => none
def a2N (r : Option R) (k : S → Option Out) : Option Out := match r with
  | some (.ok s) => k s
  | some (.exc x) => some (.exc x)
  | none => none
@[simp] theorem bindV_ok (s : S) (k : D → Option R) : a0Y (some (.ok s)) k = k s.val := rfl
@[simp] theorem bindV_exc (x : D) (k : D → Option R) : a0Y (some (.exc x)) k = some (.exc x) := rfl
@[simp] theorem bindV_none (k : D → Option R) : a0Y none k = none := rfl
@[simp] theorem bindO_ok (s : S) (k : S → Option Out) : a2N (some (.ok s)) k = k s := rfl
@[simp] theorem bindO_exc (x : D) (k : S → Option Out) : a2N (some (.exc x)) k = some (.exc x) := rfl
@[simp] theorem bindO_none (k : S → Option Out) : a2N none k = none := rfl
@[simp] theorem S.val_sh (d : D) : (S.sh d).val = d := rfl
@[simp] theorem S.val_own (o : O) : (S.own o).val = o.val := rfl
@[simp] theorem O.val_lst (ds : List D) : (O.lst ds).val = .lst ds := rfl
@[simp] theorem O.val_obj (c : String) (ns : List Str) (ds : List D) : (O.obj c ns ds).val = .obj c ns ds := rfl
def eVar (i : Nat) : ME := fun ρ => match ρ[i]? with
  | some (some (.sh d)) => okD d
  | _ => none
def eAny (i : Nat) : ME := fun ρ => match ρ[i]? with
  | some (some (.own (.dic _))) => none
  | some (some s) => okD s.val
  | _ => none
def eC (d : D) : ME := fun _ => okD d
def eUn (f : D → Option R) (a : ME) : ME := fun ρ => a0Y (a ρ) f
def eBin (f : D → D → Option R) (a b : ME) : ME := fun ρ => a0Y (a ρ) fun x => a0Y (b ρ) fun y => f x y
def a0X : List ME → MEnv → (List D → Option R) → Option R
  | [], _, k => k []
  | e :: es, ρ, k => a0Y (e ρ) fun d => a0X es ρ fun ds => k (d :: ds)
def a0g (f : List D → Option R) (as : List ME) : ME := fun ρ => a0X as ρ f
def flat : D → Bool
  | .non => true | .bl _ => true | .int _ => true | .str _ => true | _ => false
def a5D : Option R → Option R
  | some (.ok s) => if flat s.val then okD s.val else none
  | _ => none
def a0o (f : List D → Option R) (as : List ME) : ME := fun ρ => a5D (a0X as ρ f)
def lim : Nat := 1000000
def eTup (as : List ME) : ME := a0g (fun ds => if ds.length ≤ lim then okD (.tup ds) else none) as
def eLst (as : List ME) : ME := a0g (fun ds => if ds.length ≤ lim then okL ds else none) as
def asB : D → (Bool → Option R) → Option R
  | .bl b, k => k b
  | _, _ => none
def eAnd (a b : ME) : ME := fun ρ => a0Y (a ρ) fun x => asB x fun c => if c = true then b ρ else okB false
def eOr (a b : ME) : ME := fun ρ => a0Y (a ρ) fun x => asB x fun c => if c = true then okB true else b ρ
def dNot (x : D) : Option R := asB x fun c => okB (!c)
def eNot (a : ME) : ME := eUn dNot a
def eIf (c a b : ME) : ME := fun ρ => a0Y (c ρ) fun x => asB x fun t => if t = true then a ρ else b ρ
def sSeq (a b : MC) : MC := fun ρ => match a ρ with
  | some (.next ρ') => b ρ'
  | o => o
def a0u : MC := fun ρ => some (.next ρ)
def sBrk : MC := fun ρ => some (.brk ρ)
def sCont : MC := fun ρ => some (.cont ρ)
def sSet (i : Nat) (e : ME) : MC := fun ρ => a2N (e ρ) fun s => some (.next (ρ.set i (some s)))
def sExpr (e : ME) : MC := fun ρ => a2N (e ρ) fun _ => some (.next ρ)
def sRet (e : ME) : MC := fun ρ => a2N (e ρ) fun s => some (.ret s)
def asBO : D → (Bool → Option Out) → Option Out
  | .bl b, k => k b
  | _, _ => none
def sIf (c : ME) (a b : MC) : MC := fun ρ => a2N (c ρ) fun s => asBO s.val fun t => if t = true then a ρ else b ρ
def dem (i : Nat) (ρ : MEnv) : MEnv := match ρ[i]? with
  | some (some (.own (.dic _))) => ρ
  | some (some (.own o)) => ρ.set i (some (.sh o.val))
  | _ => ρ
def sDem (i : Nat) (c : MC) : MC := fun ρ => c (dem i ρ)
def ownL (i : Nat) (ρ : MEnv) (k : List D → Option Out) : Option Out := match ρ[i]? with
  | some (some (.own (.lst ds))) => k ds
  | _ => none
def a0I (i : Nat) (e : ME) : MC := fun ρ => ownL i ρ fun ds => a2N (e ρ) fun s => if ds.length < lim then some (.next (ρ.set i (some (.own (.lst (ds ++ [s.val])))))) else none
def a3K : D → Option (List D)
  | .lst ds => some ds
  | .tup ds => some ds
  | _ => none
def a3b (i : Nat) (e : ME) : MC := fun ρ => ownL i ρ fun ds => a2N (e ρ) fun s => match a3K s.val with
  | some es => if ds.length + es.length ≤ lim then some (.next (ρ.set i (some (.own (.lst (ds ++ es)))))) else none
  | none => none
def ixD (n : Nat) (i : Int) : Option Nat := if 0 ≤ i then (if i < n then some i.toNat else none) else if -(n : Int) ≤ i then some (i + n).toNat else none
def sSetItem (i : Nat) (k e : ME) : MC := fun ρ => a2N (e ρ) fun s => ownL i ρ fun ds => a2N (k ρ) fun z => match z.val with
  | .int j => (match ixD ds.length j with
    | some n => some (.next (ρ.set i (some (.own (.lst (ds.set n s.val))))))
    | none => none)
  | _ => none
def a0C (j : Nat) : MB := fun d ρ => some (ρ.set j (some (.sh d)))
def a5Q : List Nat → List D → MEnv → MEnv
  | j :: js, d :: ds, ρ => a5Q js ds (ρ.set j (some (.sh d)))
  | _, _, ρ => ρ
def bTup (js : List Nat) : MB := fun d ρ => match d with
  | .tup ds => if ds.length = js.length then some (a5Q js ds ρ) else none
  | _ => none
def forD (bd : MB) (body : MC) : List D → MEnv → Option Out
  | [], ρ => some (.next ρ)
  | d :: ds, ρ => match bd d ρ with
    | none => none
    | some ρ1 => match body ρ1 with
      | some (.next ρ2) => forD bd body ds ρ2
      | some (.cont ρ2) => forD bd body ds ρ2
      | some (.brk ρ2) => some (.next ρ2)
      | o => o
def sFor (it : MI) (bd : MB) (body : MC) : MC := fun ρ => match it ρ with
  | some (.ok ds) => forD bd body ds ρ
  | some (.exc x) => some (.exc x)
  | none => none
def iSeq (e : ME) : MI := fun ρ => match e ρ with
  | some (.ok s) => (a3K s.val).map .ok
  | some (.exc x) => some (.exc x)
  | none => none
def rng (lo hi : Int) : List D := (List.range (hi - lo).toNat).map fun (k : Nat) => D.int (lo + k)
def a3n (i : Int) : Bool := decide (-(2 ^ 62) ≤ i) && decide (i < 2 ^ 62)
def iArg (e : ME) (ρ : MEnv) (k : D → Option RI) : Option RI := match e ρ with
  | some (.ok s) => k s.val
  | some (.exc x) => some (.exc x)
  | none => none
def a0O (e : ME) : MI := fun ρ => iArg e ρ fun x => match x with
  | .int hi => if a3n hi = true then some (.ok (rng 0 hi)) else none
  | _ => none
def a2u (a b : ME) : MI := fun ρ => iArg a ρ fun x => iArg b ρ fun y => match x, y with
  | .int lo, .int hi => if a3n lo = true ∧ a3n hi = true then some (.ok (rng lo hi)) else none
  | _, _ => none
def zipD : D → D → Option RI
  | .lst xs, .lst ys => some (.ok (List.zipWith (fun u v => D.tup [u, v]) xs ys))
  | .tup xs, .tup ys => some (.ok (List.zipWith (fun u v => D.tup [u, v]) xs ys))
  | _, _ => none
def iZip (a b : ME) : MI := fun ρ => iArg a ρ fun x => iArg b ρ fun y => zipD x y
def a25 (bd : MB) (cond elt : ME) (ρ : MEnv) : List D → List D → Option R
  | [], acc => if acc.length ≤ lim then okL acc else none
  | d :: ds, acc => match bd d ρ with
    | none => none
    | some ρ1 => a0Y (cond ρ1) fun c => asB c fun t => if t = true then a0Y (elt ρ1) fun x => a25 bd cond elt ρ ds (acc ++ [x]) else a25 bd cond elt ρ ds acc
def a0R (js : List Nat) (ρ : MEnv) : MEnv := js.foldl (fun ρ j => ρ.set j none) ρ
def a07 (js : List Nat) (it : MI) (bd : MB) (cond elt : ME) : ME := fun ρ => match it ρ with
  | some (.ok ds) => if ds.length ≤ lim then a25 bd cond elt (a0R js ρ) ds [] else none
  | some (.exc x) => some (.exc x)
  | none => none
def a6y (c : ME) (body : MC) : Nat → MEnv → Option Out
  | 0, _ => none
  | n + 1, ρ => a2N (c ρ) fun s => asBO s.val fun t => if t = true then (match body ρ with
      | some (.next ρ2) => a6y c body n ρ2
      | some (.cont ρ2) => a6y c body n ρ2
      | some (.brk ρ2) => some (.next ρ2)
      | o => o) else some (.next ρ)
def sWhile (fuel : MEnv → Nat) (c : ME) (body : MC) : MC := fun ρ => a6y c body (fuel ρ) ρ
def a2c (n : Nat) (ds : List D) : MEnv := ds.map (fun d => some (.sh d)) ++ List.replicate (n - ds.length) none
def outR : Option Out → Option R
  | some (.ret s) => some (.ok s)
  | some (.next _) => okD .non
  | some (.exc x) => some (.exc x)
  | _ => none
def fnD (np n : Nat) (g : MC) : List D → Option R := fun ds => if ds.length = np then outR (g (a2c n ds)) else none
def dAdd : D → D → Option R
  | .int i, .int j => okI (i + j)
  | .str x, .str y => if x.length + y.length ≤ lim then okD (.str (x ++ y)) else none
  | .tup xs, .tup ys => if xs.length + ys.length ≤ lim then okD (.tup (xs ++ ys)) else none
  | .lst xs, .lst ys => if xs.length + ys.length ≤ lim then okL (xs ++ ys) else none
  | _, _ => none
def dSub : D → D → Option R
  | .int i, .int j => okI (i - j)
  | _, _ => none
def a2O (i : Int) : Bool := decide (-(2 ^ 64) < i) && decide (i < 2 ^ 64)
def dMul : D → D → Option R
  | .int i, .int j => if (a2O i || a2O j) = true then okI (i * j) else none
  | _, _ => none
def dRep (ds : List D) : D → Option R
  | .int k => if -(2 ^ 60) ≤ k ∧ k < 2 ^ 60 ∧ ds.length * k.toNat ≤ lim then okL (List.replicate k.toNat ds).flatten else none
  | _ => none
def eRep (a b : ME) : ME := fun ρ => match a ρ with
  | some (.ok (.own (.lst ds))) => a0Y (b ρ) (dRep ds)
  | some (.exc x) => some (.exc x)
  | _ => none
def dMod : D → D → Option R
  | .int i, .int j => if 0 < j then okI (i % j) else none
  | _, _ => none
def a2b : D → D → Option R
  | .int i, .int j => if 0 < j ∧ j < 1073741824 then okI (i / j) else none
  | _, _ => none
def dCmp (p : Int → Int → Bool) : D → D → Option R
  | .int i, .int j => okB (p i j)
  | _, _ => none
def dLt := dCmp fun i j => decide (i < j)
def dLe := dCmp fun i j => decide (i ≤ j)
def dGt := dCmp fun i j => decide (j < i)
def dGe := dCmp fun i j => decide (j ≤ i)
def eqF : D → D → Option Bool
  | .int i, .int j => some (decide (i = j))
  | .str x, .str y => some (decide (x = y))
  | .bl x, .bl y => some (decide (x = y))
  | .non, .non => some true
  | .non, .int _ => some false | .int _, .non => some false | .non, .str _ => some false | .str _, .non => some false | .non, .bl _ => some false | .bl _, .non => some false
  | .int _, .str _ => some false | .str _, .int _ => some false | .bl _, .str _ => some false | .str _, .bl _ => some false
  | _, _ => none
def dEq (x y : D) : Option R := match eqF x y with
  | some b => okB b
  | none => none
def dNe (x y : D) : Option R := match eqF x y with
  | some b => okB (!b)
  | none => none
def dIsN : D → Option R
  | .non => okB true
  | _ => okB false
def dNotN : D → Option R
  | .non => okB false
  | _ => okB true
def atD {α : Type} (xs : List α) (i : Int) : Option α := (ixD xs.length i).bind fun j => xs[j]?
def dIx : D → D → Option R
  | .tup ds, .int i => (atD ds i).bind okD
  | .lst ds, .int i => (atD ds i).bind okD
  | .str x, .int i => if x.length ≤ lim then (atD x.cps.toList i).bind fun c => okD (.str ⟨#[c]⟩) else none
  | _, _ => none
def dLen : D → Option R
  | .tup ds => okI ds.length
  | .lst ds => okI ds.length
  | .str x => if x.length ≤ lim then okI x.length else none
  | _ => none
def intsOf : List D → Option (List Int)
  | [] => some []
  | .int i :: r => (intsOf r).map (i :: ·)
  | _ :: _ => none
def blsOf : List D → Option (List Bool)
  | [] => some []
  | .bl i :: r => (blsOf r).map (i :: ·)
  | _ :: _ => none
def dSum : D → Option R
  | .lst ds => (intsOf ds).bind fun ns => okI ns.sum
  | _ => none
def dAll : D → Option R
  | .lst ds => (blsOf ds).bind fun bs => okB (bs.all id)
  | _ => none
def dAny : D → Option R
  | .lst ds => (blsOf ds).bind fun bs => okB (bs.any id)
  | _ => none
def a2p : D → Option R
  | .lst ds => okD (.tup ds)
  | .tup ds => okD (.tup ds)
  | _ => none
def a30 : D → Option R
  | .lst ds => okL ds
  | .tup ds => okL ds
  | _ => none
def dRange2L : D → D → Option R
  | .int lo, .int hi => if a3n lo = true ∧ a3n hi = true ∧ (hi - lo).toNat ≤ lim then okL (rng lo hi) else none
  | _, _ => none
def kindD : D → String
  | .non => "NoneType" | .bl _ => "bool" | .int _ => "int" | .str _ => "str" | .tup _ => "tuple" | .lst _ => "list" | .obj c _ _ => c
def dIsT (T : String) : D → Option R
  | .obj _ _ _ => none
  | d => okB (kindD d == T || (kindD d == "bool" && T == "int"))
def f1 (F : D → Option R) : List D → Option R
  | [d] => F d
  | _ => none
def f2 (F : D → D → Option R) : List D → Option R
  | [d, e] => F d e
  | _ => none
def a31 : ME := eC (.bl true)
end L3
namespace L3
open PySem
def dShl : D → D → Option R
  | .int i, .int j => if 0 ≤ j ∧ j ≤ 1000000 ∧ i.natAbs < 2 ^ 64 then okI (i * 2 ^ j.toNat) else none
  | _, _ => none
def dShr : D → D → Option R
  | .int i, .int j => if 0 ≤ j then okI (i / 2 ^ j.toNat) else none
  | _, _ => none
def a47 : D → D → Option R
  | .int i, .int j => if 0 ≤ i ∧ 0 ≤ j then okI ((i.toNat &&& j.toNat : Nat) : Int) else none
  | _, _ => none
def dBor : D → D → Option R
  | .int i, .int j => if 0 ≤ i ∧ 0 ≤ j then okI ((i.toNat ||| j.toNat : Nat) : Int) else none
  | _, _ => none
def dPow : D → D → Option R
  | .int i, .int j => if 0 ≤ j ∧ j ≤ 1000000 ∧ i.natAbs < 2 ^ 64 then okI (i ^ j.toNat) else none
  | _, _ => none
def dNeg : D → Option R
  | .int i => okI (-i)
  | _ => none
def dAbs : D → Option R
  | .int i => okI (if i < 0 then -i else i)
  | _ => none
def dMax2 : D → D → Option R
  | .int i, .int j => okI (if j > i then j else i)
  | _, _ => none
def dMin2 : D → D → Option R
  | .int i, .int j => okI (if j < i then j else i)
  | _, _ => none
def dInt : D → Option R
  | .int i => okI i
  | .bl b => okI (if b then 1 else 0)
  | _ => none
def bitLen (i : Int) : Nat := if i == 0 then 0 else i.natAbs.log2 + 1
def dBitLen : D → Option R
  | .int i => okI (bitLen i : Int)
  | _ => none
def truD : D → Option Bool
  | .non => some false
  | .bl b => some b
  | .int i => some (i != 0)
  | .str y => if y.length ≤ lim then some ((y.length : Int) != 0) else none
  | .tup ds => some (!ds.isEmpty)
  | .lst ds => some (!ds.isEmpty)
  | _ => none
def dTru (d : D) : Option R := (truD d).bind fun b => okB b
def eTru (a : ME) : ME := eUn dTru a
def eChain (f g : D → D → Option R) (a b c : ME) : ME := fun ρ => a0Y (a ρ) fun x => a0Y (b ρ) fun y => a0Y (f x y) fun z => asB z fun t => if t = true then a0Y (c ρ) fun w => g y w else okB false
end L3
namespace L3
open PySem
def enumD : D → Option RI
  | .lst xs => some (.ok ((List.range xs.length).zipWith (fun (i : Nat) d => D.tup [.int i, d]) xs))
  | .tup xs => some (.ok ((List.range xs.length).zipWith (fun (i : Nat) d => D.tup [.int i, d]) xs))
  | _ => none
def a3Z (a : ME) : MI := fun ρ => iArg a ρ enumD
def eqD : D → D → Bool
  | .non, .non => true
  | .bl a, .bl b => a == b
  | .bl a, .int b => (if a then 1 else 0) == b
  | .int a, .bl b => a == (if b then 1 else 0)
  | .int a, .int b => a == b
  | .str a, .str b => a == b
  | _, _ => false
def inD (x : D) (ds : List D) : Bool := ds.any fun y => eqD y x
def dIn (neg : Bool) (x y : D) : Option R := match a3K y with
  | some ds => if flat x = true ∧ ds.all flat = true then okB (if neg then !inD x ds else inD x ds) else none
  | none => none
def sIxD (n d : Nat) : Option Int → Nat
  | none => d
  | some v => if v < 0 then (v + (n : Int)).toNat else min v.toNat n
def cutD (ds : List D) (lo hi : Option Int) : List D := (ds.drop (sIxD ds.length 0 lo)).take (sIxD ds.length ds.length hi - sIxD ds.length 0 lo)
def dSlice (x : D) (lo hi : Option Int) : Option R := match x with
  | .tup ds => if sIxD ds.length 0 lo = 0 ∧ sIxD ds.length ds.length hi = ds.length then none else okD (.tup (cutD ds lo hi))
  | .lst ds => okL (cutD ds lo hi)
  | _ => none
def partD (o : Option ME) (ρ : MEnv) (k : Option Int → Option R) : Option R := match o with
  | none => k none
  | some e => a0Y (e ρ) fun d => match d with
    | .int i => k (some i)
    | _ => none
def a15 (e : ME) (lo hi : Option ME) : ME := fun ρ => a0Y (e ρ) fun x => partD lo ρ fun l => partD hi ρ fun h => dSlice x l h
end L3
namespace L3
open PySem
def insD (k : Int) : List Int → List Int
  | [] => [k]
  | x :: r => if k < x then k :: x :: r else if k = x then x :: r else x :: insD k r
def sortD (ns : List Int) : List Int := ns.foldr insD []
def fewD (ns : List Int) : Bool := decide (ns.length ≤ 4) && ns.all fun n => decide (0 ≤ n) && decide (n < 32)
def dSortSet : D → Option R
  | .lst ds => (intsOf ds).bind fun ns => if fewD ns = true then okL ((sortD ns).map D.int) else none
  | _ => none
def fldD (f : Str) : List Str → List D → Option D
  | n :: ns, d :: ds => if f == n then some d else fldD f ns ds
  | _, _ => none
def dFld (cs : List String) (f : Str) : D → Option R
  | .obj c ns ds => if cs.contains c = true then (fldD f ns ds).bind okD else none
  | _ => none
def eMeth (m : Str) (tb : String → Option (List D → Option R)) (o : ME) (as : List ME) : ME := fun ρ => a0Y (o ρ) fun x => match x with
  | .obj c ns ds => if ns.contains m = true then none else (match tb c with
    | some F => a0X as ρ fun vs => F (.obj c ns ds :: vs)
    | none => none)
  | _ => none
def dIsC (tb : String → Option Bool) : D → Option R
  | .obj c _ _ => (tb c).bind fun b => okB b
  | _ => none
abbrev a5h := O → List D → Option O
abbrev MG := MEnv → O → Option O
def eArgsV : List ME → MEnv → Option (List D)
  | [], _ => some []
  | e :: es, ρ => match e ρ with
    | some (.ok s) => (eArgsV es ρ).map (s.val :: ·)
    | _ => none
def putN (f : Str) : List Str → List Str
  | [] => [f]
  | n :: r => if n = f then n :: r else n :: putN f r
def putD (f : Str) (d : D) : List Str → List D → List D
  | [], _ => [d]
  | n :: ns, x :: ds => if n = f then d :: ds else x :: putD f d ns ds
  | _ :: _, [] => []
def iNext : MG := fun _ o => some o
def iSeq2 (g h : MG) : MG := fun ρ o => (g ρ o).bind (h ρ)
def iSetF (cs : List String) (f : Str) (e : ME) : MG := fun ρ o => match e ρ, o with
  | some (.ok s), .obj c ns ds => if cs.contains c = true ∧ ns.length = ds.length ∧ ns.length < 900 then some (.obj c (putN f ns) (putD f s.val ns ds)) else none
  | _, _ => none
def iBase (F : a5h) (as : List ME) : MG := fun ρ o => (eArgsV as ρ).bind (F o)
def fnI (np n : Nat) (g : MG) : a5h := fun o ds => if ds.length + 1 = np then g (none :: a2c (n - 1) ds) o else none
def eMake (c : String) (F : a5h) (as : List ME) : ME := fun ρ => a0X as ρ fun ds => match F (.obj c [] []) ds with
  | some o => some (.ok (.own o))
  | none => none
end L3
namespace L3
open PySem
def dMulS : D → D → Option R
  | .str x, .int n => if x.length = 1 ∧ (n = 1 ∨ n = 2) then okD (.str (if n = 1 then x else ⟨x.cps ++ x.cps⟩)) else none
  | _, _ => none
def dNeNil : D → D → Option R
  | .lst ds, .lst [] => okB (!ds.isEmpty)
  | _, _ => none
end L3
namespace L3
open PySem
def eqXs (f : D → D → Option Bool) : List D → List D → Option Bool
  | [], [] => some true
  | x :: xs, y :: ys => (f x y).bind fun b => (eqXs f xs ys).bind fun c => some (b && c)
  | _, _ => some false
def eqX : Nat → D → D → Option Bool
  | 0, _, _ => none
  | _ + 1, .int i, .int j => some (i == j)
  | _ + 1, .str x, .str y => some (x == y)
  | n + 1, .tup xs, .tup ys => eqXs (eqX n) xs ys
  | n + 1, .lst xs, .lst ys => if xs.length = ys.length then eqXs (eqX n) xs ys else some false
  | _ + 1, _, _ => none
def dEqX (n : Nat) (x y : D) : Option R := (eqX n x y).bind fun b => okB b
def dNeX (n : Nat) (x y : D) : Option R := (eqX n x y).bind fun b => okB (!b)
def inX (n : Nat) (x : D) : List D → Option Bool
  | [] => some false
  | y :: ys => (eqX n y x).bind fun b => (inX n x ys).bind fun c => some (b || c)
def dInX (neg : Bool) (n : Nat) (x : D) : D → Option R
  | .lst ds => (inX n x ds).bind fun b => okB (if neg then !b else b)
  | _ => none
theorem a4F (f : D → D → Option Bool) : ∀ (xs ys : List D) (b : Bool), eqXs f xs ys = some b → b = ((List.range (min xs.length ys.length)).all (fun j => ((xs[j]?).bind fun x => (ys[j]?).bind fun y => f x y) == some true) && (xs.length == ys.length))
  | [], [], b, h => by cases h; rfl
  | [], _ :: _, b, h => by cases h; rfl
  | _ :: _, [], b, h => by cases h; rfl
  | x :: xs, y :: ys, b, h => by
    have h : (f x y).bind (fun b => (eqXs f xs ys).bind fun c => some (b && c)) = some b := h
    cases h1 : f x y with
    | none => rw [h1] at h; cases h
    | some b1 =>
      rw [h1] at h
      cases h2 : eqXs f xs ys with
      | none => rw [h2] at h; cases h
      | some b2 =>
        rw [h2] at h
        cases h
        rw [a4F f xs ys b2 h2, List.length_cons, List.length_cons, Nat.succ_min_succ, List.range_succ_eq_map, List.all_cons, List.all_map]
        have e0 : (((x :: xs)[0]?).bind fun x => ((y :: ys)[0]?).bind fun y => f x y) = some b1 := h1
        rw [e0]
        have e1 : ((xs.length + 1 == ys.length + 1) : Bool) = (xs.length == ys.length) := by rw [Bool.eq_iff_iff, beq_iff_eq, beq_iff_eq]; omega
        rw [e1]
        cases b1 with
        | true => rfl
        | false => rfl
theorem a65 (f : D → D → Option Bool) : ∀ (xs ys : List D) (b : Bool), eqXs f xs ys = some b → ∀ (j : Nat) (x y : D), xs[j]? = some x → ys[j]? = some y → ∃ c, f x y = some c
  | [], ys, b, h, j, x, y, hx, hy => by cases hx
  | _ :: _, [], b, h, j, x, y, hx, hy => by cases hy
  | x :: xs, y :: ys, b, h, j, x', y', hx, hy => by
    have h : (f x y).bind (fun b => (eqXs f xs ys).bind fun c => some (b && c)) = some b := h
    cases h1 : f x y with
    | none => rw [h1] at h; cases h
    | some b1 =>
      rw [h1] at h
      cases h2 : eqXs f xs ys with
      | none => rw [h2] at h; cases h
      | some b2 =>
        cases j with
        | zero => cases hx; cases hy; exact ⟨b1, h1⟩
        | succ j => exact a65 f xs ys b2 h2 j x' y' hx hy
end L3
namespace L3
def sClear (i : Nat) : MC := fun ρ => ownL i ρ fun _ => some (.next (ρ.set i (some (.own (.lst [])))))
def sRetV (i : Nat) : MC := fun ρ => match ρ[i]? with
  | some (some s) => if s.nd = true then some (.ret s) else none
  | _ => none
end L3
namespace L3
open PySem
def sCompApp (i : Nat) (js : List Nat) (it : MI) (bd : MB) (elt : ME) (z : D) : MC := fun ρ => match it ρ with
  | some (.ok (d :: ds)) => if ds.length < lim then (match bd d (a0R js ρ) with
    | some ρ1 => (match elt ρ1 with
      | some (.ok (.own (.lst es))) => (match a25 bd a31 elt (a0R js ρ) ds [] with
        | some (.ok (.own (.lst r))) => if es.length < lim then some (.next (ρ.set i (some (.own (.lst (.lst (es ++ [z]) :: r)))))) else none
        | _ => none)
      | _ => none)
    | none => none) else none
  | _ => none
end L3
namespace L3
open PySem
def dSort2 : D → Option R
  | .lst [.tup (.int m :: xs), .tup (.int n :: ys)] => if m < n then okL [.tup (.int m :: xs), .tup (.int n :: ys)] else if n < m then okL [.tup (.int n :: ys), .tup (.int m :: xs)] else none
  | _ => none
end L3
namespace L3
open PySem
def a7d : D → Option R
  | .lst ds => okL ds.reverse
  | _ => none
abbrev Tb := List (List Int × Int)
def getI (kvs : Tb) (k : List Int) : Option Int := (kvs.find? fun p => decide (p.1 = k)).map (·.2)
def putI (kvs : Tb) (k : List Int) (v : Int) : Tb :=
  if (kvs.any fun p => decide (p.1 = k)) = true then kvs.map (fun p => if p.1 = k then (p.1, v) else p) else kvs ++ [(k, v)]
def ownT (i : Nat) (ρ : MEnv) : Option Tb := match ρ[i]? with
  | some (some (.own (.dic kvs))) => some kvs
  | _ => none
def a5z (r : Option R) : Option (List Int) := match r with
  | some (.ok (.sh (.tup ds))) => intsOf ds
  | _ => none
def eGet (i : Nat) (g : ME) (z : Int) : ME := fun ρ => (ownT i ρ).bind fun kvs => (a5z (g ρ)).bind fun k => okI ((getI kvs k).getD z)
def sNewT (i : Nat) : MC := fun ρ => some (.next (ρ.set i (some (.own (.dic [])))))
def a3x (r : Option R) : Option Int := match r with
  | some (.ok (.sh (.int v))) => some v
  | _ => none
def a5j (i : Nat) (gk ge : ME) : MC := fun ρ => (a3x (ge ρ)).bind fun v => (ownT i ρ).bind fun kvs => (a5z (gk ρ)).bind fun k => if kvs.length < lim then some (.next (ρ.set i (some (.own (.dic (putI kvs k v)))))) else none
theorem a4T {i : Nat} {ρ : MEnv} {kvs : Tb} (h : ownT i ρ = some kvs) : ρ[i]? = some (some (.own (.dic kvs))) := by
  unfold ownT at h
  split at h
  · rename_i e; cases h; exact e
  · cases h
theorem a4b : ∀ {ds : List D} {ks : List Int}, intsOf ds = some ks → ds = ks.map D.int
  | [], ks, h => by cases h; rfl
  | .int i :: r, ks, h => by
    have h : (intsOf r).map (i :: ·) = some ks := h
    cases e : intsOf r with
    | none => rw [e] at h; cases h
    | some l => rw [e] at h; cases h; rw [a4b e]; rfl
  | .non :: _, _, h => by cases h
  | .bl _ :: _, _, h => by cases h
  | .str _ :: _, _, h => by cases h
  | .tup _ :: _, _, h => by cases h
  | .lst _ :: _, _, h => by cases h
  | .obj _ _ _ :: _, _, h => by cases h
theorem a39 {r : Option R} {ks : List Int} (h : a5z r = some ks) : r = okD (.tup (ks.map D.int)) := by
  unfold a5z at h
  split at h
  · rw [a4b h]
  · cases h
theorem a4O {r : Option R} {v : Int} (h : a3x r = some v) : r = okI v := by
  unfold a3x at h
  split at h
  · cases h; rfl
  · cases h
theorem a67 {i : Nat} {g : ME} {z : Int} {ρ : MEnv} {r : R} (h : eGet i g z ρ = some r) : ∃ kvs ks, ρ[i]? = some (some (.own (.dic kvs))) ∧ g ρ = okD (.tup (ks.map D.int)) ∧ r = .ok (.sh (.int ((getI kvs ks).getD z))) := by
  unfold eGet at h
  cases e : ownT i ρ with
  | none => rw [e] at h; cases h
  | some kvs =>
    rw [e] at h
    cases e2 : a5z (g ρ) with
    | none => simp only [Option.bind_some, e2] at h; cases h
    | some ks =>
      simp only [Option.bind_some, e2] at h
      cases h
      exact ⟨kvs, ks, a4T e, a39 e2, rfl⟩
theorem a54 {i : Nat} {gk ge : ME} {ρ : MEnv} {o : Out} (h : a5j i gk ge ρ = some o) : ∃ v kvs ks, ge ρ = okI v ∧ ρ[i]? = some (some (.own (.dic kvs))) ∧ gk ρ = okD (.tup (ks.map D.int)) ∧ kvs.length < lim ∧ o = .next (ρ.set i (some (.own (.dic (putI kvs ks v))))) := by
  unfold a5j at h
  cases e0 : a3x (ge ρ) with
  | none => rw [e0] at h; cases h
  | some v =>
    rw [e0] at h
    cases e : ownT i ρ with
    | none => simp only [Option.bind_some, e] at h; cases h
    | some kvs =>
      cases e2 : a5z (gk ρ) with
      | none => simp only [Option.bind_some, e, e2] at h; cases h
      | some ks =>
        simp only [Option.bind_some, e, e2] at h
        split at h
        · rename_i hl
          cases h
          exact ⟨v, kvs, ks, a4O e0, a4T e, a39 e2, hl, rfl⟩
        · cases h
theorem a2I (ks : List Int) : a5z (okD (.tup (ks.map D.int))) = some ks := by
  show intsOf (ks.map D.int) = some ks
  induction ks with
  | nil => rfl
  | cons a l ih => show (intsOf (l.map D.int)).map (a :: ·) = _; rw [ih]; rfl
theorem get_e {i : Nat} {g : ME} {z : Int} {ρ : MEnv} {kvs : Tb} {ks : List Int} (h : ρ[i]? = some (some (.own (.dic kvs)))) (hk : g ρ = okD (.tup (ks.map D.int))) : eGet i g z ρ = okI ((getI kvs ks).getD z) := by
  unfold eGet ownT; rw [h, hk]; dsimp only [Option.bind_some]; rw [a2I]; rfl
theorem put_s {i : Nat} {gk ge : ME} {ρ : MEnv} {kvs : Tb} {ks : List Int} {v : Int} (h : ρ[i]? = some (some (.own (.dic kvs)))) (hk : gk ρ = okD (.tup (ks.map D.int))) (hv : ge ρ = okI v) (hl : kvs.length < lim) : a5j i gk ge ρ = some (.next (ρ.set i (some (.own (.dic (putI kvs ks v)))))) := by
  unfold a5j ownT; rw [h, hk, hv]; dsimp only [Option.bind_some, a3x]; rw [a2I]; dsimp only [Option.bind_some]; rw [if_pos hl]
end L3
namespace L2
open PySem PySem.Spec PyProof.Rows
section
variable {X : Cx} {tg : Expr}
def iSq (K : PySem.W.Frag) (tl : TE) : TI := fun σ H R => tl σ H fun x H1 => ∃ a, x = .ref a ∧ (((∃ xs, SqL K H1 a xs) ∧ R (Itl K a) H1) ∨ ((∃ xs, SqT K H1 a xs) ∧ R (Itt K a) H1))
theorem pi_seq {l : Expr} {tl : TE} (hl : PE X l tl) : PI X tg l (iSq X.K tl) := by
  intro pins s σ H R I h
  refine thn (hl pins s σ H _ I h) fun v s1 ⟨x, H1, I1, r1, a, e, q1⟩ => ?_
  subst e
  cases r1
  have f1 : ∀ b ∈ [s1.heap.objs.size], FpOk X pins H1 b := fun b hb => by
    rw [List.mem_singleton.mp hb]
    exact I1.fpOk (Nat.le_refl _) (I1.hok.fresh (Nat.le_refl _))
  rcases q1 with ⟨⟨xs, hq⟩, q⟩ | ⟨⟨xs, hq⟩, q⟩
  · obtain ⟨its, rv, p, hz⟩ := I1.list hq
    exact wpAny_pyIter_list p.isList ⟨s1.heap.objs.size, [s1.heap.objs.size], _, _, H1, rfl, I1.kept (t' := s1.toks) (fun b o e => Heap.get?_push_of_some _ e), turn_list a _, ⟨_, Heap.get?_push_size _ rfl, rfl, rfl⟩, f1, q⟩
  · obtain ⟨its, rv, p, hz⟩ := I1.tuple hq
    exact wpAny_pyIter_tuple (show s1.heap.IsTuple a its.toArray from p) ⟨s1.heap.objs.size, [s1.heap.objs.size], _, _, H1, rfl, I1.kept (t' := s1.toks) (fun b o e => Heap.get?_push_of_some _ e), turn_tuple a _, ⟨_, Heap.get?_push_size _ rfl, rfl, rfl⟩, f1, q⟩
end
def clOf (scope : Scope) (env : PySem.Env) : List (Str × Addr) := scope.names.foldl (fun cs x => if x.2 == .free then (x.1, (env.cells.lookup x.1).getD 0) :: cs else cs) []
def a1f (sc psc : Scope) (vars : List Str) : Bool :=
  (sc.kind == .function) && sc.names.all fun y => (sc.names.lookup y.1 == some y.2) && (match y.2 with
    | .local => vars.contains y.1
    | .cell => false
    | .free => psc.names.lookup y.1 == some .cell || psc.names.lookup y.1 == some .free
    | _ => true)
def a2y (N vars : List Str) (js : List Nat) : Bool := (List.range N.length).all fun i => js.contains i || !(vars.contains (N.getD i (Str.ofString "")))
def a2g (js : List Nat) (σ : St) : St := js.foldl (fun σ j => σ.set j none) σ
theorem a2R (js : List Nat) : ∀ σ : St, (a2g js σ).length = σ.length := by
  induction js with
  | nil => intro σ; rfl
  | cons j js ih => intro σ; show (a2g js (σ.set j none)).length = _; rw [ih, List.length_set]
theorem a5C (js : List Nat) : ∀ (σ : St) (i : Nat) (v : V), (a2g js σ)[i]? = some (some v) → i ∉ js ∧ σ[i]? = some (some v) := by
  induction js with
  | nil => intro σ i v h; exact ⟨by simp, h⟩
  | cons j js ih =>
    intro σ i v h
    obtain ⟨h1, h2⟩ := ih (σ.set j none) i v h
    by_cases hj : j = i
    · subst hj
      by_cases hl : j < σ.length
      · rw [List.getElem?_set_self hl] at h2; cases h2
      · rw [List.getElem?_eq_none (by rw [List.length_set]; omega)] at h2; cases h2
    · rw [List.getElem?_set_ne hj] at h2
      exact ⟨by simp [h1, Ne.symm hj], h2⟩
section
variable {sc psc : Scope} {vars : List Str}
theorem a3w (h : a1f sc psc vars = true) : sc.kind = .function := by
  unfold a1f at h
  exact eq_of_beq (Bool.and_eq_true_iff.mp h).1
theorem a3O (h : a1f sc psc vars = true) : ∀ y ∈ sc.names, sc.names.lookup y.1 = some y.2 ∧ (y.2 = .local → y.1 ∈ vars) ∧ y.2 ≠ .cell ∧ (y.2 = .free → psc.names.lookup y.1 = some .cell ∨ psc.names.lookup y.1 = some .free) := by
  intro y hy
  unfold a1f at h
  have h2 := List.all_eq_true.mp (Bool.and_eq_true_iff.mp h).2 y hy
  obtain ⟨h3, h4⟩ := Bool.and_eq_true_iff.mp h2
  refine ⟨eq_of_beq h3, fun e => ?_, fun e => ?_, fun e => ?_⟩
  · rw [e] at h4; exact List.contains_iff_mem.mp h4
  · rw [e] at h4; cases h4
  · rw [e] at h4
    rcases Bool.or_eq_true_iff.mp h4 with z | z
    · exact .inl (eq_of_beq z)
    · exact .inr (eq_of_beq z)
theorem a1D {α β : Type} [BEq α] [LawfulBEq α] : ∀ {l : List (α × β)} {x : α} {v : β}, l.lookup x = some v → (x, v) ∈ l
  | [], _, _, h => by cases h
  | (y, w) :: l, x, v, h => by
    rw [List.lookup_cons] at h
    cases hb : x == y with
    | true =>
      rw [hb] at h
      cases h
      rw [eq_of_beq hb]
      exact List.mem_cons_self
    | false =>
      rw [hb] at h
      exact List.mem_cons_of_mem _ (a1D h)
end
theorem clOf_in (scope : Scope) (env : PySem.Env) : ∀ (l : List (Str × NameKind)) (acc : List (Str × Addr)), (∀ p ∈ acc, env.cells.lookup p.1 = some p.2) → (∀ y ∈ l, y.2 = .free → ∃ c, env.cells.lookup y.1 = some c) →
    ∀ p ∈ l.foldl (fun cs x => if x.2 == .free then (x.1, (env.cells.lookup x.1).getD 0) :: cs else cs) acc, env.cells.lookup p.1 = some p.2 := by
  intro l
  induction l with
  | nil => intro acc h _; exact h
  | cons y l ih =>
    intro acc h hf
    rw [List.foldl_cons]
    refine ih _ ?_ fun z hz => hf z (List.mem_cons_of_mem _ hz)
    split
    · rename_i hb
      intro p hp
      rcases List.mem_cons.mp hp with e | hp
      · obtain ⟨c, hc⟩ := hf y List.mem_cons_self (eq_of_beq hb)
        rw [e, hc]
        rfl
      · exact h p hp
    · exact h
theorem clOf_has (scope : Scope) (env : PySem.Env) : ∀ (l : List (Str × NameKind)) (acc : List (Str × Addr)) (x : Str), ((x, NameKind.free) ∈ l ∨ ∃ c, (x, c) ∈ acc) →
    ∃ c, (x, c) ∈ l.foldl (fun cs x => if x.2 == .free then (x.1, (env.cells.lookup x.1).getD 0) :: cs else cs) acc := by
  intro l
  induction l with
  | nil =>
    intro acc x h
    rcases h with h | h
    · cases h
    · exact h
  | cons y l ih =>
    intro acc x h
    rw [List.foldl_cons]
    refine ih _ x ?_
    rcases h with h | ⟨c, h⟩
    · rcases List.mem_cons.mp h with e | h
      · subst e
        exact .inr ⟨_, by rw [if_pos (by rfl)]; exact List.mem_cons_self⟩
      · exact .inl h
    · refine .inr ⟨c, ?_⟩
      split
      · exact List.mem_cons_of_mem _ h
      · exact h
theorem a26 {scope : Scope} {env : PySem.Env} (hf : ∀ y ∈ scope.names, y.2 = .free → ∃ c, env.cells.lookup y.1 = some c) : closureFor scope env = pure (clOf scope env) := by
  have go : ∀ (l : List (Str × NameKind)) (acc : List (Str × Addr)), (∀ y ∈ l, y.2 = .free → ∃ c, env.cells.lookup y.1 = some c) →
      (forIn l acc fun x cs => do
        if x.2 == .free then pure (ForInStep.yield ((x.1, ← cellOf env x.1) :: cs)) else pure (ForInStep.yield cs) : Sem (List (Str × Addr))) =
      pure (l.foldl (fun cs x => if x.2 == .free then (x.1, (env.cells.lookup x.1).getD 0) :: cs else cs) acc) := by
    intro l
    induction l with
    | nil => intro acc _; rfl
    | cons y l ih =>
      intro acc h
      rw [List.forIn_cons, List.foldl_cons]
      cases hb : y.2 == NameKind.free with
      | true =>
        obtain ⟨c, hc⟩ := h y List.mem_cons_self (eq_of_beq hb)
        have e1 : cellOf env y.1 = pure c := by unfold cellOf; rw [hc]
        simp only [if_true, e1, pure_bind, hc, Option.getD_some]
        exact ih _ fun z hz => h z (List.mem_cons_of_mem _ hz)
      | false =>
        simp only [Bool.false_eq_true, if_false, pure_bind]
        exact ih _ fun z hz => h z (List.mem_cons_of_mem _ hz)
  have := go scope.names [] hf
  unfold closureFor
  simpa [clOf] using this
end L2
namespace L2
open PySem PySem.Spec PyProof.Rows
def a1e (X : Cx) (scope : Scope) (fp : List Addr) (s : Shared) (H : Hp) (C : Addr) : Cx :=
  { X with s₀ := s, H₀ := H, env := compEnvC scope (clOf scope X.env) C X.env, outer := X.stack, ex := fp, fn := fun _ => false, pn := [], xe := fun _ _ => False }
theorem a3D (f : Str → NameKind → NameKind) : ∀ (l : List (Str × NameKind)) (x : Str), (l.map fun y => (y.1, f y.1 y.2)).lookup x = (l.lookup x).map (f x)
  | [], _ => rfl
  | (n, k) :: l, x => by
    rw [List.map_cons, List.lookup_cons, List.lookup_cons]
    cases hb : x == n with
    | true => rw [eq_of_beq hb]; rfl
    | false => exact a3D f l x
theorem a2P (scope : Scope) (env : PySem.Env) (x : Str) : (relabel scope env).names.lookup x = (scope.names.lookup x).map fun k => if (k == NameKind.free && env.scope.kind == .function && env.kindOf x == some .cell) = true then NameKind.cell else k := by
  rw [← a3D (fun n k => if (k == NameKind.free && env.scope.kind == .function && env.kindOf n == some .cell) = true then NameKind.cell else k)]
  unfold relabel
  dsimp only
  congr 1
  refine List.map_congr_left fun y _ => ?_
  obtain ⟨n, k⟩ := y
  dsimp only
  split <;> rfl
theorem a2z {scope psc : Scope} {env : PySem.Env} {vars : List Str} {x : Str} (hc : a1f scope psc vars = true) (h : (relabel scope env).names.lookup x = some .cell ∨ (relabel scope env).names.lookup x = some .free) : scope.names.lookup x = some .free := by
  rw [a2P] at h
  cases hl : scope.names.lookup x with
  | none => rw [hl] at h; simp at h
  | some k =>
    obtain ⟨_, h2, h3, _⟩ := a3O hc _ (a1D hl)
    rw [hl] at h
    cases k with
    | free => rfl
    | cell => exact absurd rfl h3
    | _ => simp at h
theorem a5o {scope psc : Scope} {env : PySem.Env} {vars : List Str} {x : Str} (hc : a1f scope psc vars = true) (h : Vis (relabel scope env) x) :
    (x ∈ vars) ∨ (scope.names.lookup x = some .free ∧ ((relabel scope env).names.lookup x = some .cell ∨ (relabel scope env).names.lookup x = some .free)) := by
  rcases h with h | h | h
  · rw [a2P] at h
    cases hl : scope.names.lookup x with
    | none => rw [hl] at h; simp at h
    | some k =>
      obtain ⟨_, h2, h3, _⟩ := a3O hc _ (a1D hl)
      rw [hl] at h
      cases k with
      | «local» => exact .inl (h2 rfl)
      | cell => exact absurd rfl h3
      | free =>
        simp only [Option.map_some] at h
        split at h <;> simp at h
      | _ => simp at h
  · exact .inr ⟨a2z hc (.inl h), .inl h⟩
  · exact .inr ⟨a2z hc (.inr h), .inr h⟩
theorem a5G {scope psc : Scope} {env : PySem.Env} {vars : List Str} (hc : a1f scope psc vars = true) (hf : ∀ y ∈ scope.names, y.2 = .free → ∃ c, env.cells.lookup y.1 = some c) :
    (∀ x c, (clOf scope env).lookup x = some c → env.cells.lookup x = some c) ∧ ∀ x, scope.names.lookup x = some .free → ∃ c, (clOf scope env).lookup x = some c ∧ env.cells.lookup x = some c := by
  have h1 : ∀ x c, (clOf scope env).lookup x = some c → env.cells.lookup x = some c := fun x c e => clOf_in scope env scope.names [] (fun _ z => nomatch z) hf (x, c) (a1D e)
  refine ⟨h1, fun x e => ?_⟩
  obtain ⟨c, hm⟩ := clOf_has scope env scope.names [] x (.inl (a1D e))
  cases q : (clOf scope env).lookup x with
  | some d => exact ⟨d, rfl, h1 x d q⟩
  | none =>
    have := List.lookup_eq_none_iff.mp q _ hm
    simp at this
section
variable {X : Cx} {pins : List (Addr × Obj)} {σ : St} {H : Hp} {s : Shared} {scope : Scope} {vars : List Str} {js : List Nat} {fp : List Addr} {C : Addr} {h₁ : Heap} {tk : Nat}
theorem a3N (I : Inv X pins σ H s) (hc : a1f scope X.env.scope vars = true) : ∀ y ∈ scope.names, y.2 = .free → ∃ c, X.env.cells.lookup y.1 = some c := fun y hy e => by
  obtain ⟨_, _, _, h⟩ := a3O hc y hy
  exact I.ok.has y.1 (h e)
theorem inv_comp (I : Inv X pins σ H s) (hc : a1f scope X.env.scope vars = true) (hj : a2y X.N vars js = true) (hC : C = s.heap.objs.size) (hfp : ∀ b ∈ fp, FpOk X pins H b) (hfo : ∀ b ∈ fp, b < s.heap.objs.size)
    {m : Str → Option Value} (hns : h₁.Ns C m) (keep : ∀ b o, s.heap.get? b = some o → h₁.get? b = some o) :
    Inv (a1e X scope fp s H C) [] (a2g js σ) H { s with heap := h₁, toks := tk } := by
  have hf := a3N I hc
  obtain ⟨cl1, cl2⟩ := a5G hc hf
  have ok : (a1e X scope fp s H C).Ok := by
    refine ⟨I.ok.mod, ?_, I.ok.glob, I.ok.blt, Nat.le_of_eq hC.symm, fun x y c h1 h2 => I.ok.inj x y c (cl1 x c h1) (cl1 y c h2), fun x hx => ?_, (fun x c z => nomatch z), I.ok.hd, I.ok.frames, Or.inl rfl, fun b hb => ?_, I.bs, Nat.le_trans I.ok.bsz I.sz, fun b o e hb => ?_, fun b hb z => ?_, I.stack, I.stkFree⟩
    · show scope.kind = .function
      exact a3w hc
    · obtain ⟨c, z, _⟩ := cl2 x (a2z hc hx)
      exact ⟨c, z⟩
    · obtain ⟨_, _, _, _, f4, _⟩ := hfp b hb
      refine ⟨fun z => ?_, fun x c e => f4 x c (cl1 x c e)⟩
      have h1 := hfo b hb
      have h2 : b = C := z
      rw [h2, hC] at h1
      exact Nat.lt_irrefl _ h1
    · obtain ⟨_, _, _, f3, _⟩ := hfp b hb
      rcases f3 with z | z
      · exact I.ok.noex b o e z
      · exact absurd (Nat.lt_of_lt_of_le (Heap.lt_size (I.ok.bs b o e).1) z) (Nat.lt_irrefl _)
    · obtain ⟨_, f1, f2, _⟩ := hfp b hb
      rcases List.mem_cons.mp (I.stkSub b z) with e | e
      · exact f1 e
      · exact f2 e
  refine ⟨ok, rfl, I.bare, Un.kept keep, ⟨m, hns, fun i x v e1 e2 e3 => ?_⟩, fun x c e => ?_, ?_, fun x c e => I.freeC x c (cl1 x c e), (fun p hp => nomatch hp), I.hok.kept keep, ?_⟩
  · obtain ⟨nj, e2⟩ := a5C js σ i v e2
    rcases a5o hc e3 with hm | ⟨ef, hk⟩
    · exfalso
      have hi : i < X.N.length := (List.getElem?_eq_some_iff.mp e1).1
      have hq := List.all_eq_true.mp hj i (List.mem_range.mpr hi)
      rcases Bool.or_eq_true_iff.mp hq with z | z
      · exact nj (List.contains_iff_mem.mp z)
      · rw [List.getD_eq_getElem?_getD, show X.N[i]? = some x from e1] at z
        have hm' : vars.contains x = true := List.contains_iff_mem.mpr hm
        rw [Option.getD_some, hm'] at z
        cases z
    · obtain ⟨c, z1, z2⟩ := cl2 x ef
      obtain ⟨m0, _, hl⟩ := I.loc
      obtain ⟨_, _, _, hp⟩ := a3O hc _ (a1D ef)
      have hv : Vis X.env.scope x := (hp rfl).elim (fun z => .inr (.inl z)) fun z => .inr (.inr z)
      obtain ⟨u, r, l⟩ := hl i x v e1 e2 hv
      refine ⟨u, r, .inr ⟨hk, c, z1, ?_⟩⟩
      rcases l with ⟨k, _⟩ | ⟨_, c', e, q⟩
      · have k' : X.env.scope.names.lookup x = some .local := k
        rcases hp rfl with z | z
        · have z' : X.env.scope.names.lookup x = some .cell := z
          rw [k'] at z'; cases z'
        · have z' : X.env.scope.names.lookup x = some .free := z
          rw [k'] at z'; cases z'
      · rw [z2] at e
        cases e
        obtain ⟨o, ho, hd⟩ := q
        exact ⟨o, keep _ o ho, hd⟩
  · obtain ⟨v, o, ho, hd⟩ := I.cell x c (cl1 x c e)
    exact ⟨v, o, keep _ o ho, hd⟩
  · exact I.hok.fresh (Nat.le_of_eq hC.symm)
  · rw [a2R]
    exact I.len
end
abbrev Fl : Value → Shared → Prop := fun _ _ => False
theorem fl {α : Type} {M : Model} {A : Around} {t : Sem α} {Q Q' : α → Shared → Prop} {E : Value → Shared → Prop} {s : Shared} (h : wpAny M A t Q Fl s) (k : ∀ a s, Q a s → Q' a s) : wpAny M A t Q' E s := wpAny_mono h k fun _ _ z => z.elim
def a7f (ifs : List Expr) (env : PySem.Env) : Sem Bool := forIn ifs true fun c r => if r = true then do let ok ← isTrue c env (eval c env); pure (ForInStep.yield ok) else pure (ForInStep.yield r)
theorem a7e {prog : Program} {w : World} {A : Around} {R : Result → Shared → Prop} {s : Shared} {elt target iter : Expr} {ifs : List Expr} {scope : Scope} {pos : Pos} {it acc : Value} {env : PySem.Env} (Iv : Nat → Shared → Prop)
    (turn : ∀ n s, Iv n s → wpAny (model prog w) A (pyNext it) (fun r s₁ => match r with
      | none => R (.ok .next) s₁
      | some v => wpAny (model prog w) A (letOwnedTupleGo target it v) (fun _ s₂ => wpAny (model prog w) A (assign target env v) (fun _ s₃ => wpAny (model prog w) A (a7f ifs env) (fun ok s₄ =>
          if ok = true then wpAny (model prog w) A (eval elt env) (fun x s₅ => wpAny (model prog w) A (call (.builtin "list.append") [acc, x]) (fun _ s₆ => ∃ m, m < n ∧ Iv m s₆) Fl s₅) Fl s₄
          else ∃ m, m < n ∧ Iv m s₄) Fl s₃) Fl s₂) Fl s₁) Fl s)
    (n : Nat) (h : Iv n s) : codeAny (model prog w) A (.compLoop (.ListComp elt [⟨target, iter, ifs, 0⟩] scope pos) 0 it acc env) R s := by
  refine codeAny_loop rfl Iv (fun n s hI => ?_) n h
  show wpAny _ A ((compTurn (.ListComp elt [⟨target, iter, ifs, 0⟩] scope pos) 0 it acc env).onRaise _) _ _ s
  refine wpAny_noted ?_
  rw [compTurn_list]
  refine wpAny_bind (wpAny_standAt (wpAny_bind (fl (turn n s hI) fun r s₁ h₁ => ?_)))
  cases r with
  | none => exact wpAny_pure h₁
  | some v =>
    refine wpAny_bind (fl h₁ fun _ s₂ h₂ => wpAny_bind (fl h₂ fun _ s₃ h₃ => wpAny_bind (fl h₃ fun ok s₄ h₄ => ?_)))
    cases ok with
    | false => exact wpAny_pure ⟨rfl, h₄⟩
    | true => exact wpAny_bind (wpAny_bind (fl h₄ fun x s₅ h₅ => wpAny_bind (fl h₅ fun _ s₆ h₆ => wpAny_pure (wpAny_pure ⟨rfl, h₆⟩))))
def PIf (X : Cx) (ifs : List Expr) (t : TT) : Prop := ∀ (pins : List (Addr × Obj)) (s : Shared) (σ : St) (H : Hp) (Q : Bool → Hp → Prop), Inv X pins σ H s → t σ H Q → wpAny (model X.prog X.w) X.A (a7f ifs X.env) (TP X pins σ Q) X.xe s
def tTrue : TT := fun _ H Q => Q true H
theorem a6O {X : Cx} : PIf X [] tTrue := fun pins s σ H Q I h => wpAny_tests_nil ⟨H, I, h⟩
theorem a6N {X : Cx} {c : Expr} {t : TT} (h : PT X c t) : PIf X [c] t := fun pins s σ H Q I q => wpAny_tests_one (h pins s σ H Q I q)
def CompW (J : It) (g : TG) (tt : TT) (te : TE) (a : Addr) (Q : VK) (W : Nat → Nat → St → List V → Hp → Prop) : Prop := ∀ i m σ ys H, W i m σ ys H → H a = some (.lst ys) ∧
  ((J.stop i H ∧ Q (.ref a) H) ∨ (J.go i H ∧ ∀ x H1, J.yld i H x H1 → g x σ H1 fun σ2 H2 => tt σ2 H2 fun b H3 =>
    if b = true then te σ2 H3 fun y H4 => H4 a = some (.lst ys) ∧ ys.length < sizeLine ∧ ∃ m', m' < m ∧ W (i + 1) m' σ2 (ys ++ [y]) (upd H4 a (.lst (ys ++ [y]))) else ∃ m', m' < m ∧ W (i + 1) m' σ2 ys H3))
def tComp (js : List Nat) (wi : TI) (g : TG) (tt : TT) (te : TE) : TE := fun σ H Q => wi σ H fun J H1 => ∀ a, H1 a = none → ∃ W, (∃ m, W 0 m (a2g js σ) [] (upd H1 a (.lst []))) ∧ CompW J g tt te a Q W
section
variable {X : Cx} {scope : Scope} {vars : List Str} {js : List Nat} {elt tg iter : Expr} {ifs : List Expr} {pos : Pos} {wi : TI} {g : TG} {tt : TT} {te : TE}
theorem a48 {pins : List (Addr × Obj)} {s : Shared} {σ : St} {H : Hp} {it : Addr} {fp : List Addr} {tn : Nat → Heap → Prop} {J : It} {Q : VK} {E : Value → Shared → Prop} {RR : Value → Addr → Result → Shared → Prop} (hc : a1f scope X.env.scope vars = true) (hj : a2y X.N vars js = true) (hcalm : X.calm = true)
    (hg : ∀ fp s H C, PG (a1e X scope fp s H C) tg g) (ht : ∀ fp s H C, PIf (a1e X scope fp s H C) ifs tt) (he : ∀ fp s H C, PE (a1e X scope fp s H C) elt te)
    (I : Inv X pins σ H s) (T : Turn X.prog X.w X.K tg J fp it tn) (st : tn 0 s.heap) (hfp : ∀ b ∈ fp, FpOk X pins H b) (q : ∀ a, H a = none → ∃ W, (∃ m, W 0 m (a2g js σ) [] (upd H a (.lst []))) ∧ CompW J g tt te a Q W)
    (fin : ∀ a C H' s' m, Inv X pins σ H' s' → s'.heap.Ns C m → H' C = none → C ≠ X.env.locals → X.s₀.heap.objs.size ≤ C → (∀ x c, X.env.cells.lookup x = some c → c ≠ C) → (∀ p ∈ X.pn ++ pins, p.1 ≠ C) → Q (.ref a) H' → RR (.ref a) C (.ok .next) s') :
    wpAny (model X.prog X.w) X.A (newList []) (fun acc s₃ => wpAny (model X.prog X.w) X.A (newFunctionEnv scope X.env.globals (clOf scope X.env) [] X.env.qual none .none (some X.env)) (fun cenv s₄ =>
      codeAny (model X.prog X.w) X.A (.compStart (.ListComp elt [⟨tg, iter, ifs, 0⟩] scope pos) 0 (.ref it) acc { cenv with scope := relabel scope X.env }) (RR acc cenv.locals) s₄) E s₃) E s := by
  have nocell : ∀ y ∈ scope.names, y.2 ≠ .cell := fun y hy => (a3O hc y hy).2.2.1
  refine wpAny_newObj_type (wpAny_newFunctionEnv nocell (by intro y hy; simp at hy) (fun h₁ hns hsb => ?_) (a3w hc))
  dsimp only at hns hsb ⊢
  generalize hA : s.heap.objs.size = a at *
  have fa : H a = none := by rw [← hA]; exact I.fresh
  obtain ⟨W, ⟨m0, w0⟩, hW⟩ := q a fa
  have I3 : Inv X pins σ (upd H a (.lst [])) { s with heap := s.heap.push { cls := .type "list", data := .seq ([] : List Value).toArray } } := by
    rw [← hA]
    exact I.lnew (t' := s.toks) (ys := []) (its := []) .nil (Nat.zero_le _)
  generalize hB : s.heap.push { cls := .type "list", dict := none, data := .seq ([] : List Value).toArray } = hp at *
  have szp : hp.objs.size = a + 1 := by rw [← hB, Heap.size_push, hA]
  have keep : ∀ b o, hp.get? b = some o → h₁.get? b = some o := fun b o e => (hsb.2 b (Nat.ne_of_lt (Heap.lt_size e))).trans (Heap.get?_push_of_some _ e)
  have up : ∀ b o, s.heap.get? b = some o → hp.get? b = some o := fun b o e => by rw [← hB]; exact Heap.get?_push_of_some _ e
  have lo : ∀ b ∈ fp, b < a := fun b hb => by
    obtain ⟨o, e, _⟩ := T.obj 0 _ st b hb
    rw [← hA]
    exact Heap.lt_size e
  have hfp3 : ∀ b ∈ fp, FpOk X pins (upd H a (.lst [])) b := fun b hb => ⟨by rw [upd_ne (Nat.ne_of_lt (lo b hb))]; exact (hfp b hb).1, (hfp b hb).2⟩
  have I4 := inv_comp (tk := s.toks + ([] : List (Str × Value)).length) I3 hc hj rfl hfp3 (fun b hb => by show b < hp.objs.size; rw [szp]; exact Nat.lt_succ_of_lt (lo b hb)) hns keep
  generalize hX : a1e X scope fp { s with heap := hp } (upd H a (.lst [])) hp.objs.size = X' at I4
  have eP : X'.prog = X.prog := by rw [← hX]; rfl
  have eW : X'.w = X.w := by rw [← hX]; rfl
  have eK : X'.K = X.K := by rw [← hX]; rfl
  have eA : X'.A = X.A := by rw [← hX]; rfl
  have eC : X'.calm = true := by rw [← hX]; exact hcalm
  have eL : X'.env.locals = hp.objs.size := by rw [← hX]; rfl
  have eE : X'.env = compEnvC scope (clOf scope X.env) hp.objs.size X.env := by rw [← hX]; rfl
  have eX : X'.ex = fp := by rw [← hX]; rfl
  have exe : X'.xe = Fl := by rw [← hX]; rfl
  have epn : X'.pn = [] := by rw [← hX]; rfl
  have hg' : PG X' tg g := by rw [← hX]; exact hg _ _ _ _
  have ht' : PIf X' ifs tt := by rw [← hX]; exact ht _ _ _ _
  have he' : PE X' elt te := by rw [← hX]; exact he _ _ _ _
  have stat : ∀ {H' : Hp}, (∀ b ∈ fp, H' b = none) → ∀ b ∈ fp, FpOk X' [] H' b := fun hn b hb => by
    have hb' : b ∈ X'.ex := by rw [eX]; exact hb
    exact ⟨hn b hb, (I4.ok.exf b hb').1, I4.ok.exfs b hb', .inl hb', (I4.ok.exf b hb').2, fun p hp => by rw [epn] at hp; cases hp⟩
  have back : ∀ {σ' : St} {H' : Hp} {s' : Shared}, Inv X' [] σ' H' s' → Q (.ref a) H' → RR (.ref a) hp.objs.size (.ok .next) s' := fun {σ' H' s'} J qf => by
    obtain ⟨m, hn, _⟩ := J.loc
    rw [eL] at hn
    have hfree := J.free
    rw [eL] at hfree
    have jos := J.os
    have jbase := J.base
    have jhok := J.hok
    rw [← hX] at jos jbase jhok
    refine fin a _ H' s' m (I3.call' (ch := fp) jos jbase jhok J.bare fun b hb => ⟨(hfp b hb).2.2.2.1, (hfp b hb).2.1, (hfp b hb).2.2.2.2.1, (hfp b hb).2.2.2.2.2⟩) hn hfree (Nat.ne_of_gt I3.lt) I3.sz (fun x c e z => ?_) (fun p hp' z => ?_) qf
    · obtain ⟨v, o, ho, _⟩ := I3.cell x c e
      have := Heap.lt_size ho
      rw [z] at this
      exact Nat.lt_irrefl _ this
    · have := Heap.lt_size (I3.pin p hp').1
      rw [z] at this
      exact Nat.lt_irrefl _ this
  have st1 : tn 0 h₁ := T.keep 0 _ _ st fun b hb o e => keep b o (up b o e)
  have loop : codeAny (model X.prog X.w) X.A (.compLoop (.ListComp elt [⟨tg, iter, ifs, 0⟩] scope pos) 0 (.ref it) (.ref a) X'.env) (RR (.ref a) hp.objs.size) { s with heap := h₁, toks := s.toks + ([] : List (Str × Value)).length } := by
    refine a7e (fun n s' => ∃ i σ' ys H', Inv X' [] σ' H' s' ∧ tn i s'.heap ∧ (∀ b ∈ fp, H' b = none) ∧ W i n σ' ys H') ?_ m0 ⟨0, _, [], _, I4, st1, fun b hb => (hfp3 b hb).1, w0⟩
    rintro n s3 ⟨i, σ3, ys, H3, J3, st3, fr3, w3⟩
    obtain ⟨ha, hw⟩ := hW i n σ3 ys H3 w3
    rcases hw with ⟨stop, qn⟩ | ⟨go, step⟩
    · have z := T.done X' eP eW eK eC i [] s3 σ3 H3 Fl J3 (stat fr3) st3 stop
      rw [eA] at z
      refine thn z fun r s4 ⟨hr, J4⟩ => ?_
      subst hr
      exact back J4 qn
    · have z := T.item X' eP eW eK eC i [] s3 σ3 H3 Fl J3 (stat fr3) st3 go
      rw [eA] at z
      refine thn z fun r s4 ⟨u, hr, h4⟩ => ?_
      subst hr
      refine thn h4 fun _ s5 ⟨x, H5, J5, r5, y5, st5, fr5⟩ => ?_
      have J5' := J5.pinned (stat fr5) (T.obj _ _ st5)
      have z5 := hg' _ s5 σ3 H5 x u _ J5' r5 (step x H5 y5)
      rw [eP, eW, eA, exe] at z5
      refine thn z5 fun _ s6 ⟨σ6, H6, J6, q6⟩ => ?_
      have z6 := ht' _ s6 σ6 H6 _ J6 q6
      rw [eP, eW, eA, exe] at z6
      refine thn z6 fun ok s7 ⟨H7, J7, q7⟩ => ?_
      have again : ∀ {σ8 : St} {H8 : Hp} {s8 : Shared} {ys8 : List V} {m' : Nat}, Inv X' ([] ++ pinsAt fp s5.heap) σ8 H8 s8 → m' < n → W (i + 1) m' σ8 ys8 H8 → ∃ m, m < n ∧ ∃ i σ' ys H', Inv X' [] σ' H' s8 ∧ tn i s8.heap ∧ (∀ b ∈ fp, H' b = none) ∧ W i m σ' ys H' := fun {σ8 H8 s8 ys8 m'} J8 hm w8 => by
        refine ⟨m', hm, i + 1, σ8, ys8, H8, J8.unpinned, T.keep _ _ _ st5 fun b hb o e => (J8.pin (b, o) (List.mem_append_right _ (List.mem_append_right _ (mem_pinsAt hb e)))).1, fun b hb => ?_, w8⟩
        obtain ⟨o, e, d⟩ := T.obj _ _ st5 b hb
        exact (J8.pin (b, o) (List.mem_append_right _ (List.mem_append_right _ (mem_pinsAt hb e)))).2.1
      cases ok with
      | false =>
        rw [if_neg Bool.false_ne_true] at q7 ⊢
        obtain ⟨m', hm, w7⟩ := q7
        exact again J7 hm w7
      | true =>
        rw [if_pos rfl] at q7 ⊢
        have z7 := he' _ s7 σ6 H7 _ J7 q7
        rw [eP, eW, eA, exe] at z7
        refine thn z7 fun v s8 ⟨y, H8, J8, r8, h8, hl8, m', hm, w8⟩ => ?_
        have z8 := mt_append _ s8 σ6 H8 (.ref a) [y] (.ref a) [v] (fun _ H9 => H9 = upd H8 a (.lst (ys ++ [y]))) J8 rfl (.cons r8 .nil) ⟨a, ys, y, rfl, rfl, h8, hl8, rfl⟩
        rw [eP, eW, eA, exe] at z8
        refine thn z8 fun _ s9 ⟨_, H9, J9, _, q9⟩ => ?_
        subst q9
        exact again J9 hm w8
  rw [eE] at loop
  exact codeAny_compStart_list loop (T.self _ 0 _ _ _ st1 loop)
theorem a6P (hc : a1f scope X.env.scope vars = true) (hj : a2y X.N vars js = true) (hcalm : X.calm = true) (hi : PI X tg iter wi)
    (hg : ∀ fp s H C, PG (a1e X scope fp s H C) tg g) (ht : ∀ fp s H C, PIf (a1e X scope fp s H C) ifs tt) (he : ∀ fp s H C, PE (a1e X scope fp s H C) elt te) (hs : ∀ x, foldedSetIterable iter X.env x = pure x := by intro _; rfl) :
    PE X (.ListComp elt [⟨tg, iter, ifs, 0⟩] scope pos) (tComp js wi g tt te) := by
  intro pins s σ H Q I h
  rw [eval_ListComp]
  refine wpAny_comprehension_free (use := none) rfl hs (a26 (a3N I hc)) (a3w hc) (fun y hy e => by rw [(a3O hc y hy).1, e]) (thn (hi pins s σ H _ I h) fun v s1 h1 => thn h1 fun itv s2 h2 => ?_)
  obtain ⟨it, fp, tn, J, H2, e, I2, T, st2, f2, q⟩ := h2
  subst e
  refine a48 (RR := fun acc C => compPost (model X.prog X.w) X.A X.xe none (EP X pins σ Q) acc C) hc hj hcalm hg ht he I2 T st2 f2 q ?_
  intro a C H' s' m J' hn hC hL hS hcell hpin q'
  exact ⟨m, hn, fun h' sb => ⟨.ref a, H', J'.turned (t' := s'.toks) (fun b o hb e => (sb.2 b hb).trans e) hC hL (.inr hS) hcell hpin, rfl, q'⟩⟩
theorem a35 {i : Nat} {x : Str} {pos' spos : Pos} (hN : X.N.Nodup) (hi' : X.N[i]? = some x) (hx : Loc X.env.scope x) (hc : a1f scope X.env.scope vars = true) (hj : a2y X.N vars js = true) (hcalm : X.calm = true) (hi : PI X tg iter wi)
    (hg : ∀ fp s H C, PG (a1e X scope fp s H C) tg g) (ht : ∀ fp s H C, PIf (a1e X scope fp s H C) ifs tt) (he : ∀ fp s H C, PE (a1e X scope fp s H C) elt te)
    (hsw : swapsWith (.ListComp elt [⟨tg, iter, ifs, 0⟩] scope pos) (some (.Name x pos')) spos.line X.env = pure true := by rfl) (hs : ∀ x, foldedSetIterable iter X.env x = pure x := by intro _; rfl)
    (hf : X.fn x = true ∨ X.env.scope.names.lookup x = some .local := by first | exact .inl rfl | exact .inr rfl | assumption) :
    PS X (.Assign [.Name x pos'] (.ListComp elt [⟨tg, iter, ifs, 0⟩] scope pos) spos) (tAsg (tComp js wi g tt te) (gName i)) := by
  intro pins s σ H D I h
  rw [exec_Assign_Name_used _ _ _ _ hsw]
  refine wpAny_bind (wpAny_standAt (wpAny_bind ?_))
  show wpAny _ X.A (do let _ ← comprehension (.ListComp elt [⟨tg, iter, ifs, 0⟩] scope pos) scope X.env _ (newList []) false (eval iter X.env) (some (assign (.Name x pos') X.env))) _ _ s
  refine wpAny_bind (wpAny_mono (wpAny_comprehension_free (use := some (assign (.Name x pos') X.env)) (Q := fun _ s' => SP X pins D .next s') rfl hs (a26 (a3N I hc)) (a3w hc) (fun y hy e => by rw [(a3O hc y hy).1, e])
    (thn (hi pins s σ H _ I h) fun v s1 h1 => thn h1 fun itv s2 h2 => ?_)) (fun _ s' hq => wpAny_pure (wpAny_pure hq)) fun _ _ e => e)
  obtain ⟨it, fp, tn, J, H2, e, I2, T, st2, f2, q⟩ := h2
  subst e
  refine a48 (RR := fun acc C => compPost (model X.prog X.w) X.A X.xe (some (assign (.Name x pos') X.env)) (fun _ s' => SP X pins D .next s') acc C) hc hj hcalm hg ht he I2 T st2 f2 q ?_
  intro a C H' s' m J' hn hC hL hS hcell hpin q'
  refine wpAny_assign_Name (store_ok2 J' hN hi' hx (v := .ref a) rfl (fun s'' J2 ⟨b, sb, hb⟩ => ?_) hf)
  have hCb : C ≠ b := by
    rcases hb with z | z
    · rw [z]; exact hL
    · exact (hcell x b z).symm
  exact ⟨m, hn.sameBut sb hCb, fun h' sb' => ⟨_, H', J2.turned (t' := s''.toks) (fun b o hb e => (sb'.2 b hb).trans e) hC hL (.inr hS) hcell hpin, q'⟩⟩
end
end L2
namespace L2
open PySem PySem.Spec PyProof.Rows
section
variable {X : Cx} {pins : List (Addr × Obj)} {σ : St} {H : Hp} {s : Shared} {l : Addr} {xs : List V}
def rCatR (K : PySem.W.Frag) : R2 := fun x y H Q => ∃ l b xs zs, x = .ref l ∧ y = .ref b ∧ SqL K H l xs ∧ SqL K H b zs ∧ xs.length + zs.length ≤ sizeLine ∧ ∀ p, H p = none → Q (.ref p) (upd H p (.lst (xs ++ zs)))
theorem op_catR : OpR X (binaryOp .Add) (rCatR X.K) := fun pins s σ H x y v u Q I rx ry ⟨l, b, xs, zs, ex, ey, hH, hB, hz, q⟩ => by
  subst ex ey
  cases rx
  cases ry
  obtain ⟨i1, r1, p1, _⟩ := I.list hH
  obtain ⟨i2, r2, p2, _⟩ := I.list hB
  obtain ⟨⟨c1, d1, t1, s1⟩, o1, k1, n1, g1⟩ := p1.isList
  obtain ⟨⟨c2, d2, t2, s2⟩, o2, k2, n2, g2⟩ := p2.isList
  simp only at k1 g1 k2 g2
  subst k1 g1 k2 g2
  have l1 := r1.length
  have l2 := r2.length
  have ea : i1.toArray ++ i2.toArray = (i1 ++ i2).toArray := by simp
  refine concat_meets ⟨_, o1, rfl⟩ ⟨_, o2, rfl⟩ noFill_list_add seq_list_add PySem.F.slot_list_add PySem.F.entry_list_add (PySem.F.args_list_add_2 _ _) (list_addW l b _ _ n1 n2 d1 d2 s1 s2 (by rw [List.size_toArray, List.size_toArray, ← l1, ← l2]; exact hz)) ⟨o1, o2, ?_⟩
  rw [ea]
  exact ⟨.ref _, _, I.lnew (t' := s.toks) (r1.append r2) (by rw [List.length_append]; exact hz), rfl, q _ I.fresh⟩
theorem op_catT0 : OpR X (binaryOp .Add) (fun x y H Q => ∃ a b ys, x = .ref a ∧ y = .ref b ∧ SqT X.K H a [] ∧ SqT X.K H b ys ∧ Q (.ref b) H) := fun pins s σ H x y v u Q I rx ry ⟨a, b, ys, ex, ey, ha, hb, q⟩ => by
  subst ex ey
  cases rx
  cases ry
  obtain ⟨i1, r1, ⟨⟨c1, d1, t1, s1⟩, o1, k1, n1, g1⟩, _⟩ := I.tuple ha
  obtain ⟨i2, r2, ⟨⟨c2, d2, t2, s2⟩, o2, k2, n2, g2⟩, _⟩ := I.tuple hb
  cases r1
  simp only at k1 g1 k2 g2
  subst k1 g1 k2 g2
  exact concat_meets ⟨_, o1, rfl⟩ ⟨_, o2, rfl⟩ noFill_tuple_add seq_tuple_add PySem.F.slot_tuple_add PySem.F.entry_tuple_add (PySem.F.args_tuple_add_2 _ _)
    (tuple_addW0 a b _ _ n1 n2 d1 d2 s1 s2 (by rfl)) ⟨o1, o2, ⟨.ref b, H, I, rfl, q⟩⟩
theorem a7u (bs : List Bool) : (List.range bs.length).all (fun i => (bs[i]?).getD false) = bs.all id := by
  rw [Bool.eq_iff_iff, List.all_eq_true, List.all_eq_true]
  constructor
  · intro h b hb
    obtain ⟨i, hi, rfl⟩ := List.mem_iff_getElem.mp hb
    have := h i (List.mem_range.mpr hi)
    rwa [List.getElem?_eq_getElem hi] at this
  · intro h i hi
    have hi' := List.mem_range.mp hi
    rw [List.getElem?_eq_getElem hi']
    exact h _ (List.getElem_mem hi')
theorem a6p (I : Inv X pins σ H s) (hc : X.calm = true) {p : Addr} {bs : List Bool} (hq : SqL X.K H p (bs.map V.bl)) {E : Value → Shared → Prop} {Q : Value → Shared → Prop} {cmb : List Nat → (Nat → Bool) → Bool}
    (k : ∀ (h' : Heap) (tk : Nat), (∀ b o, s.heap.get? b = some o → h'.get? b = some o) → Q (.bool (cmb (List.range bs.length) fun i => (bs[i]?).getD false)) { s with heap := h', toks := tk }) :
    wpAny (model X.prog X.w) X.A.in1 (pyIter (.ref p)) (fun it s₂ => ∃ I fp wr n P St tr, it = .ref I ∧ Walks X.prog X.w X.A.in1 I fp wr n P St ∧ St 0 s₂.heap ∧ TruthOf X.prog X.w X.A.in1 P tr ∧
      ∀ h' tk, (∀ b o, b ∉ wr → s₂.heap.get? b = some o → h'.get? b = some o) → Q (.bool (cmb (List.range n) tr)) { s₂ with heap := h', toks := tk }) E s := by
  obtain ⟨its, rv, pl, hz⟩ := I.list hq
  have hlt : p < s.heap.objs.size := by obtain ⟨_, e, _⟩ := pl.isList; exact Heap.lt_size e
  have hlen : its.length = bs.length := by rw [← rv.length, List.length_map]
  refine wpAny_pyIter_list pl.isList ⟨_, _, _, _, _, _, fun i => (bs[i]?).getD false, rfl, Walks.list (A := X.A.in1) (I.ok.hd hc) s.heap.objs.size p (Nat.ne_of_lt hlt) its.toArray, ⟨⟨_, Heap.get?_push_size _ rfl, rfl, rfl⟩, pl.isList.push _⟩, fun i v s' Q' E' hv hQ => ?_, fun h' tk hk => ?_⟩
  · have hv' : its[i]? = some v := by simpa using hv
    have hi : i < bs.length := by rw [← hlen]; exact (List.getElem?_eq_some_iff.mp hv').1
    obtain ⟨u, e, ru⟩ := rv.get (i := i) (x := .bl bs[i]) (by rw [List.getElem?_map, List.getElem?_eq_getElem hi]; rfl)
    rw [hv'] at e
    cases e
    cases (show v = Value.bool bs[i] from ru)
    have hQ2 : Q' ((bs[i]?).getD false) s' := hQ
    rw [List.getElem?_eq_getElem hi] at hQ2
    exact wpAny_pure hQ2
  · rw [List.size_toArray, hlen]
    exact k h' tk fun b o e => hk b o (by simpa using Nat.ne_of_lt (Heap.lt_size e)) (Heap.get?_push_of_some _ e)
theorem a7j (hc : X.calm = true) : CallR X (.builtin "all") (fun xs H Q => ∃ (p : Addr) (bs : List Bool), xs = [.ref p] ∧ SqL X.K H p (bs.map V.bl) ∧ Q (.bl (bs.all id)) H) := fun pins s σ H xs us Q I r ⟨p, bs, ex, hq, q⟩ => by
  subst ex
  obtain ⟨u, rfl, rx⟩ := vals1 r
  cases rx
  refine call_all_walk (a6p (cmb := fun l f => l.all f) I hc hq fun h' tk hk => ?_)
  exact ⟨.bl (bs.all id), H, I.kept (t' := tk) hk, by rw [a7u]; rfl, q⟩
theorem extendTW (l : Addr) (items : Array Value) (n : Nat) (b : Addr) (items2 : Array Value) (n2 : Nat) (dd : Option Addr) (sl : Array (Option Value)) (h0 : ¬(!items.isEmpty && Builtin.List.listTooLong (items.size + items2.size)) = true) (h1 : items.size ≤ sizeLine) (h2 : items.size + items2.size ≤ sizeLine + 1) :
    Meets (Builtin.«list.extend» ⟨[.ref l, .ref b], []⟩) (fun _ R s => s.heap.get? l = some { cls := .type "list", dict := none, data := .seq items n, slots := #[] } ∧ s.heap.get? b = some ⟨.type "tuple", dd, .seq items2 n2, sl⟩ ∧ R (.ok (.ret Value.none)) { s with heap := s.heap.update l (Obj.mapSeq fun x => x ++ items2), toks := s.toks }) :=
  .of_wp fun prog w A R s h => by
    obtain ⟨hp, g, d, tk, os⟩ := s
    obtain ⟨hl, hb, h⟩ := h
    have f1 := AutoSeq1.idx_int; have f2 := AutoSeq1.sub_tuple_tuple; have f3 := AutoSeq1.sub_list_list; have f4 := AutoSeq1.sub_tuple_list; have f5 := AutoSeq1.sub_list_tuple
    have hz' : (items ++ items2).size ≤ sizeLine + 1 := by rw [Array.size_append]; exact h2
    wp_walk using (wpAny_updateSeq hl rfl (hz := h1) (_hz' := hz')), AutoSeq1.wpAny_loadPart' hl, AutoSeq1.wpAny_loadPart' hb
    exact ⟨_, rfl, h⟩
theorem a6f : MtM X "list.extend" (fun x vs H Q => ∃ l b xs zs, x = .ref l ∧ vs = [.ref b] ∧ H l = some (.lst xs) ∧ SqT X.K H b zs ∧ xs.length + zs.length ≤ sizeLine ∧ Q .non (upd H l (.lst (xs ++ zs)))) :=
  fun pins s σ H x vs v us Q I rx rv ⟨l, b, xs, zs, ex, ev, hH, hB, hz, q⟩ => by
  subst ex ev
  cases rx
  obtain ⟨u, rfl, ru⟩ := rv.one
  cases ru
  obtain ⟨z, its, n, r, hl, e⟩ := I.lstM hH
  obtain ⟨i2, r2, ⟨⟨c2, d2, t2, s2⟩, o2, k2, n2, g2⟩, _⟩ := I.tuple hB
  simp only at k2 g2
  subst k2 g2
  have hl2 := r2.length
  have hsz : its.toArray.size + i2.toArray.size ≤ sizeLine := by rw [List.size_toArray, List.size_toArray, ← hl, ← hl2]; exact hz
  refine call_meets F.slot_list_extend ⟨_, e, rfl⟩ F.entry_list_extend (F.args_list_extend_2 _ _) (extendTW l its.toArray n b i2.toArray n2 d2 s2 (by rw [notLongL hsz, Bool.and_false]; exact Bool.false_ne_true) (by rw [List.size_toArray, ← hl]; exact z) (Nat.le_succ_of_le hsz)) ⟨e, o2, ?_⟩
  exact ⟨.non, _, I.lset (its' := its ++ i2) hH e (by simp) (r.append r2) (by rw [List.length_append]; exact hz), rfl, q⟩
theorem extendLW (l : Addr) (items : Array Value) (n : Nat) (b : Addr) (items2 : Array Value) (n2 : Nat) (dd : Option Addr) (sl : Array (Option Value)) (h0 : ¬(!items.isEmpty && Builtin.List.listTooLong (items.size + items2.size)) = true) (h1 : items.size ≤ sizeLine) (h2 : items.size + items2.size ≤ sizeLine + 1) :
    Meets (Builtin.«list.extend» ⟨[.ref l, .ref b], []⟩) (fun _ R s => s.heap.get? l = some { cls := .type "list", dict := none, data := .seq items n, slots := #[] } ∧ s.heap.get? b = some ⟨.type "list", dd, .seq items2 n2, sl⟩ ∧ R (.ok (.ret Value.none)) { s with heap := s.heap.update l (Obj.mapSeq fun x => x ++ items2), toks := s.toks }) :=
  .of_wp fun prog w A R s h => by
    obtain ⟨hp, g, d, tk, os⟩ := s
    obtain ⟨hl, hb, h⟩ := h
    have f1 := AutoSeq1.idx_int; have f2 := AutoSeq1.sub_tuple_tuple; have f3 := AutoSeq1.sub_list_list; have f4 := AutoSeq1.sub_tuple_list; have f5 := AutoSeq1.sub_list_tuple
    have hz' : (items ++ items2).size ≤ sizeLine + 1 := by rw [Array.size_append]; exact h2
    wp_walk using (wpAny_updateSeq hl rfl (hz := h1) (_hz' := hz')), AutoSeq1.wpAny_loadPart' hl, AutoSeq1.wpAny_loadPart' hb
    exact ⟨_, rfl, h⟩
theorem a6g : MtM X "list.extend" (fun x vs H Q => ∃ l b xs zs, x = .ref l ∧ vs = [.ref b] ∧ H l = some (.lst xs) ∧ SqL X.K H b zs ∧ xs.length + zs.length ≤ sizeLine ∧ Q .non (upd H l (.lst (xs ++ zs)))) :=
  fun pins s σ H x vs v us Q I rx rv ⟨l, b, xs, zs, ex, ev, hH, hB, hz, q⟩ => by
  subst ex ev
  cases rx
  obtain ⟨u, rfl, ru⟩ := rv.one
  cases ru
  obtain ⟨z, its, n, r, hl, e⟩ := I.lstM hH
  obtain ⟨i2, r2, p2, _⟩ := I.list hB
  obtain ⟨⟨c2, d2, t2, s2⟩, o2, k2, n2, g2⟩ := p2.isList
  simp only at k2 g2
  subst k2 g2
  have hl2 := r2.length
  have hsz : its.toArray.size + i2.toArray.size ≤ sizeLine := by rw [List.size_toArray, List.size_toArray, ← hl, ← hl2]; exact hz
  refine call_meets F.slot_list_extend ⟨_, e, rfl⟩ F.entry_list_extend (F.args_list_extend_2 _ _) (extendLW l its.toArray n b i2.toArray n2 d2 s2 (by rw [notLongL hsz, Bool.and_false]; exact Bool.false_ne_true) (by rw [List.size_toArray, ← hl]; exact z) (Nat.le_succ_of_le hsz)) ⟨e, o2, ?_⟩
  exact ⟨.non, _, I.lset (its' := its ++ i2) hH e (by simp) (r.append r2) (by rw [List.length_append]; exact hz), rfl, q⟩
theorem a6l {x : V} {u : Value} {t : String} {T : String} {b : Bool} (I : Inv X pins σ H s) (rx : RelV x u) (ty : TyOf X.K H x (.type t) ∨ (t = "tuple" ∧ ∃ a xs, x = .ref a ∧ SqT X.K H a xs) ∨ (t = "list" ∧ ∃ a xs, x = .ref a ∧ SqL X.K H a xs)) (e : PySem.W.kitOne X.K (.type t) (.type T) = some b) {Q : Value → Shared → Prop} {E : Value → Shared → Prop} {A : Around}
    (h : ∀ tk, Q (.bool b) { s with toks := tk }) : wpAny (model X.prog X.w) A (call (.builtin "isinstance") [u, .type T]) Q E s := by
  rcases ty with ty | ⟨rfl, a, xs, rfl, hq⟩ | ⟨rfl, a, xs, rfl, hq⟩
  · exact isinst_ok I rx ty e h
  · cases (show u = Value.ref a from rx)
    obtain ⟨its, _, ⟨o, h1, h2, _⟩, _⟩ := I.tuple hq
    exact PySem.W.kia_one PySem.W.kitx_tuple I.kIn ⟨o, h1, h2⟩ e (fun z => nomatch z) h
  · cases (show u = Value.ref a from rx)
    obtain ⟨its, _, pl, _⟩ := I.list hq
    obtain ⟨o, h1, h2, _⟩ := pl.isList
    exact PySem.W.kia_one PySem.W.kitx_list I.kIn ⟨o, h1, h2⟩ e (fun z => nomatch z) h
theorem a5H : CallR X (.builtin "isinstance") (fun xs H Q => ∃ x t T b, xs = [x, .ty T] ∧ (TyOf X.K H x (.type t) ∨ (t = "tuple" ∧ ∃ a xs, x = .ref a ∧ SqT X.K H a xs) ∨ (t = "list" ∧ ∃ a xs, x = .ref a ∧ SqL X.K H a xs)) ∧ PySem.W.kitOne X.K (.type t) (.type T) = some b ∧ Q (.bl b) H) := fun pins s σ H xs us Q I r ⟨x, t, T, b, ex, ty, e, q⟩ => by
  subst ex
  obtain ⟨u, w, rfl, ru, rw'⟩ := vals2 r
  cases (show w = Value.type T from rw')
  exact a6l I ru ty e fun tk => ⟨.bl b, H, I.tok tk, rfl, q⟩
end
end L2
namespace L2
open PySem PySem.Spec PyProof.Rows
section
variable {prog : Program} {w : World} {A : Around} {E : Value → Shared → Prop} {s : Shared}
theorem a38 {it t : Addr} {i : Nat} {items : Array Value} {x : Value} {Q : Value → Shared → Prop} (hit : s.heap.IsTupleIter it t i) (ht : s.heap.IsTuple t items) (hx : items[i]? = some x)
    (hQ : ∀ h', h'.IsTupleIter it t (i + 1) → Heap.SameBut it s.heap h' → Q x { s with heap := h' }) : wpAny (model prog w) A (Builtin.SmallTypes.nextOf (.ref it)) Q E s := by
  obtain ⟨o, ho, hc, hd⟩ := id hit
  obtain ⟨ot, hot, _, nt, hdt⟩ := ht
  unfold Builtin.SmallTypes.nextOf
  refine wpAny_bind (wpAny_callSpecial?_slot (name := Str.ofString "__next__") hit.typeIs F.slot_tuple_iterator_next (wpAny_call_entry F.slot_tuple_iterator_next hit.typeIs F.entry_tuple_iterator_next ?_ (F.args_tuple_iterator_next_1 _)))
  show wpAny _ _ (field (.ref it) 0 >>= _) _ _ s; refine wpAny_bind (wpAny_field ho hd (x := .ref t) rfl ?_)
  show wpAny _ _ (if (Value.ref t == Value.none) = true then _ else _) _ _ s; rw [if_neg (show ¬ ((Value.ref t == Value.none) = true) from Bool.false_ne_true)]
  show wpAny _ _ (field (.ref it) 1 >>= _) _ _ s; refine wpAny_bind (wpAny_field ho hd (x := .int i 0) rfl ?_)
  show wpAny _ _ (seqItems? (.ref t) >>= _) _ _ s; refine wpAny_bind (wpAny_seqItems hot hdt ?_); simp only [Int.toNat_natCast, hx]
  refine wpAny_bind (wpAny_setField ho hd (by simp) (wpAny_pure ⟨x, rfl, wpAny_pure (hQ _ ⟨_, Heap.get?_update_self _ ho (Obj.isFreed_of_fields (Obj.data_mapFields hd _)), (Obj.cls_mapFields ..).trans hc, ?_⟩ (Heap.SameBut.update ..))⟩))
  rw [Obj.data_mapFields hd]; simp [rawInt]
theorem a4Z {it t : Addr} {i : Nat} {items : Array Value} {Q : Value → Shared → Prop} (hh : A.handled = none) (hit : s.heap.IsTupleIter it t i) (ht : s.heap.IsTuple t items) (hx : items[i]? = none)
    (hE : ∀ h' e, Heap.ExtBut it s.heap h' → (∃ o, h'.get? e = some o ∧ o.cls = .type "StopIteration") → E (.ref e) { s with heap := h' }) : wpAny (model prog w) A (Builtin.SmallTypes.nextOf (.ref it)) Q E s := by
  obtain ⟨o, ho, hc, hd⟩ := id hit
  obtain ⟨ot, hot, _, nt, hdt⟩ := ht
  unfold Builtin.SmallTypes.nextOf
  refine wpAny_bind (wpAny_callSpecial?_slot (name := Str.ofString "__next__") hit.typeIs F.slot_tuple_iterator_next (wpAny_call_entry F.slot_tuple_iterator_next hit.typeIs F.entry_tuple_iterator_next ?_ (F.args_tuple_iterator_next_1 _)))
  show wpAny _ _ (field (.ref it) 0 >>= _) _ _ s; refine wpAny_bind (wpAny_field ho hd (x := .ref t) rfl ?_)
  show wpAny _ _ (if (Value.ref t == Value.none) = true then _ else _) _ _ s; rw [if_neg (show ¬ ((Value.ref t == Value.none) = true) from Bool.false_ne_true)]
  show wpAny _ _ (field (.ref it) 1 >>= _) _ _ s; refine wpAny_bind (wpAny_field ho hd (x := .int i 0) rfl ?_)
  show wpAny _ _ (seqItems? (.ref t) >>= _) _ _ s; refine wpAny_bind (wpAny_seqItems hot hdt ?_); simp only [Int.toNat_natCast, hx]
  refine wpAny_bind (wpAny_rule (wpAny_bind (wpAny_setField ho hd (by simp) ?_))); show wpAny _ _ (newExc (.type "StopIteration") [] >>= _) _ _ _
  refine wpAny_bind ?_; simp only [newExc, newTuple]; refine wpAny_bind (wpAny_newObj_type ?_ (by size_fits))
  refine wpAny_bind (m := firstArgMember _ _) (wpAny_of_eq (a := Value.none) (by first | rfl | (simp only [firstArgMember]; rfl)) ?_); refine wpAny_newObj_type ?_ (by size_fits); simp only [raiseNew]
  refine wpAny_bind (wpAny_handled ?_); first | rw [show A.in1.handled = none from hh] | rw [hh]
  exact wpAny_bind (wpAny_pure (wpAny_throw (hE _ _ (((Heap.SameBut.update ..).extBut.push _).push _) ⟨_, Heap.get?_push_size _ rfl, rfl⟩)))
end
structure Nx (prog : Program) (w : World) (A : Around) (it l : Addr) (st : Nat → Heap → Prop) (val : Nat → Option Value) : Prop where
  item : ∀ (s : Shared) (k : Nat) (x : Value) (Q : Value → Shared → Prop) (E : Value → Shared → Prop), st k s.heap → val k = some x → (∀ h', st (k + 1) h' → Heap.SameBut it s.heap h' → Q x { s with heap := h' }) → wpAny (model prog w) A (Builtin.SmallTypes.nextOf (.ref it)) Q E s
  stop : ∀ (s : Shared) (k : Nat) (Q : Value → Shared → Prop) (E : Value → Shared → Prop), st k s.heap → val k = none →
    (∀ h' e, Heap.ExtBut it s.heap h' → (∃ o, h'.get? e = some o ∧ o.cls = .type "StopIteration") → E (.ref e) { s with heap := h' }) → wpAny (model prog w) A (Builtin.SmallTypes.nextOf (.ref it)) Q E s
  ext : ∀ (k : Nat) (h h' : Heap), st k h → (∀ b, b = it ∨ b = l → ∀ o, h.get? b = some o → h'.get? b = some o) → st k h'
  there : ∀ (k : Nat) (h : Heap), st k h → (∃ o, h.get? it = some o ∧ ∀ v, o.data ≠ .cell v) ∧ ∃ o, h.get? l = some o
theorem nx_list {prog : Program} {w : World} {A : Around} (hh : A.handled = none) {it l : Addr} (ne : l ≠ it) (items : Array Value) : Nx prog w A it l (fun k h => h.IsListIter it l k ∧ h.IsList l items) (fun k => items[k]?) where
  item := fun s k x Q E st e h => wpAny_nextOf_list_item st.1 st.2 e fun h' a b => h h' ⟨a, st.2.extBut b.extBut ne⟩ b
  stop := fun s k Q E st e h => wpAny_nextOf_list_end hh st.1 st.2 e h
  ext := fun k h h' st kp => ⟨st.1.at fun o e => kp it (.inl rfl) o e, st.2.at fun o e => kp l (.inr rfl) o e⟩
  there := fun k h st => by
    obtain ⟨⟨o, e, c, d⟩, ⟨o2, e2, _⟩⟩ := st
    exact ⟨⟨o, e, fun v z => by rw [d] at z; cases z⟩, o2, e2⟩
theorem nx_tup {prog : Program} {w : World} {A : Around} (hh : A.handled = none) {it l : Addr} (ne : l ≠ it) (items : Array Value) : Nx prog w A it l (fun k h => h.IsTupleIter it l k ∧ h.IsTuple l items) (fun k => items[k]?) where
  item := fun s k x Q E st e h => a38 st.1 st.2 e fun h' a b => h h' ⟨a, st.2.extBut b.extBut ne⟩ b
  stop := fun s k Q E st e h => a4Z hh st.1 st.2 e h
  ext := fun k h h' st kp => ⟨st.1.at fun o e => kp it (.inl rfl) o e, st.2.at fun o e => kp l (.inr rfl) o e⟩
  there := fun k h st => by
    obtain ⟨⟨o, e, c, d⟩, ⟨o2, e2, _⟩⟩ := st
    exact ⟨⟨o, e, fun v z => by rw [d] at z; cases z⟩, o2, e2⟩
section
variable {prog : Program} {w : World} {A : Around} {E : Value → Shared → Prop} {s : Shared} {z TI TO i1 i2 l1 l2 : Addr} {k : Nat} {st1 st2 : Nat → Heap → Prop} {v1 v2 : Nat → Option Value} {a b : Value}
end
end L2
namespace L2
open PySem PySem.Spec PyProof.Rows
section
variable {X : Cx} {pins : List (Addr × Obj)} {σ : St} {H : Hp} {s : Shared} {h' : Heap}
theorem Inv.turnedN {t' : Nat} {ch : List Addr} (I : Inv X pins σ H s) (k : ∀ b o, b ∉ ch → s.heap.get? b = some o → h'.get? b = some o) (hf : ∀ b ∈ ch, FpOk X pins H b) : Inv X pins σ H { s with heap := h', toks := t' } := by
  have nch : ∀ b u, H b = some u → b ∉ ch := fun b u e z => by rw [(hf b z).1] at e; cases e
  refine I.step (g' := s.gens) (d' := s.drawn) (ch := ch) (fun b hb => ⟨(hf b hb).2.2.2.1, (hf b hb).2.1, (hf b hb).2.2.2.2.1, (hf b hb).2.2.2.2.2⟩) (fun b o _ _ hc e _ => k b o hc e) (fun b o _ _ hc e _ => ⟨o.slots, k b o hc e⟩) (fun _ _ _ _ n => n)
    (fun b o hc e => ⟨o, k b o hc e⟩) (fun _ _ e => e) (fun _ _ _ e => e) (fun b ps e => ⟨#[], by rw [e]; simp⟩) (fun m hm => ?_) (fun b u e => ?_) I.bare
  · obtain ⟨o, es, ep, ho, r⟩ := hm
    exact ⟨o, es, ep, k _ o (fun z => (hf _ z).2.1 rfl) ho, r⟩
  · refine (I.hok b u e).stay (fun c v hc q => k c v ?_ q) (fun _ q => q) fun _ _ q => q
    rcases hc with z | z
    · rw [z]; exact nch b u e
    · exact nch c _ z
theorem Inv.track {a : Addr} {o : HO} (I : Inv X pins σ H s) (hf : FpOk X pins H a) (new : ObjOk X.prog X.w (upd H a o) s.heap a o) : Inv X pins σ (upd H a o) s := by
  have ne : ∀ b u, H b = some u → b ≠ a := fun b u e z => by rw [z, hf.1] at e; cases e
  have z := I.step (g' := s.gens) (d' := s.drawn) (t' := s.toks) (h' := s.heap) (H' := upd H a o) (ch := [a]) (fun b hb => by rw [List.mem_singleton.mp hb]; exact ⟨hf.2.2.2.1, hf.2.1, hf.2.2.2.2.1, hf.2.2.2.2.2⟩) (fun b o _ _ _ e _ => e) (fun b o _ _ _ e _ => ⟨o.slots, e⟩)
    (fun b u hc _ n => by rw [upd_ne (fun z => hc (by simp [z]))]; exact n) (fun b o _ e => ⟨o, e⟩) (fun b xs e => by rw [upd_ne (ne b _ e)]; exact e) (fun b u v e => by rw [upd_ne (ne b _ e)]; exact e) (fun b ps e => ⟨#[], by rw [upd_ne (ne b _ e), e]; simp⟩) (fun m hm => hm) (fun b u e => ?_) I.bare
  · exact z
  · by_cases hb : b = a
    · subst hb
      rw [upd_same] at e
      cases e
      exact new
    · rw [upd_ne hb] at e
      exact (I.hok b u e).stay (fun _ _ _ q => q) (fun c q => by rw [upd_ne (ne c _ q)]; exact q) fun c xs q => by rw [upd_ne (ne c _ q)]; exact q
end
def SqX (K : PySem.W.Frag) (H : Hp) : Bool → Addr → List V → Prop
  | true, a, xs => SqL K H a xs
  | false, a, xs => SqT K H a xs
def itX (h : Heap) : Bool → Addr → Addr → Nat → Prop
  | true, it, l, k => h.IsListIter it l k
  | false, it, l, k => h.IsTupleIter it l k
def isX (h : Heap) : Bool → Addr → Array Value → Prop
  | true, l, its => h.IsList l its
  | false, l, its => h.IsTuple l its
theorem nx_X {prog : Program} {w : World} {A : Around} (hh : A.handled = none) {it l : Addr} (ne : l ≠ it) (items : Array Value) (b : Bool) : Nx prog w A it l (fun k h => itX h b it l k ∧ isX h b l items) (fun k => items[k]?) := by
  cases b with
  | true => exact nx_list hh ne items
  | false => exact nx_tup hh ne items
theorem Inv.seqX {X : Cx} {pins : List (Addr × Obj)} {σ : St} {H : Hp} {s : Shared} {b : Bool} {a : Addr} {xs : List V} (I : Inv X pins σ H s) (h : SqX X.K H b a xs) : ∃ its : List Value, Vals xs its ∧ isX s.heap b a its.toArray ∧ a < s.heap.objs.size := by
  cases b with
  | true =>
    obtain ⟨its, r, p, _⟩ := I.list h
    refine ⟨its, r, p.isList, ?_⟩
    obtain ⟨_, e, _⟩ := p.isList
    exact Heap.lt_size e
  | false =>
    obtain ⟨its, r, p, _⟩ := I.tuple h
    refine ⟨its, r, p, ?_⟩
    obtain ⟨_, e, _⟩ := p
    exact Heap.lt_size e
theorem Inv.seqX_inj {X : Cx} {pins : List (Addr × Obj)} {σ : St} {H : Hp} {s : Shared} {b : Bool} {a : Addr} {xs ys : List V} (I : Inv X pins σ H s) (h : SqX X.K H b a xs) (h' : SqX X.K H b a ys) : xs = ys := by
  cases b with
  | true => exact I.list_inj h h'
  | false => exact I.tuple_inj h h'
def Itz (K : PySem.W.Frag) (b1 : Bool) (l1 : Addr) (b2 : Bool) (l2 : Addr) : It :=
  ⟨fun i H => ∃ xs ys x y, SqX K H b1 l1 xs ∧ SqX K H b2 l2 ys ∧ xs[i]? = some x ∧ ys[i]? = some y,
   fun i H x H' => ∃ p u v, x = .ref p ∧ H p = none ∧ H' = upd H p (.tup [u, v]) ∧ (∀ xs, SqX K H b1 l1 xs → xs[i]? = some u) ∧ ∀ ys, SqX K H b2 l2 ys → ys[i]? = some v,
   fun i H => ∃ xs ys, SqX K H b1 l1 xs ∧ SqX K H b2 l2 ys ∧ (xs.length ≤ i ∨ ys.length ≤ i)⟩
abbrev zt1 (h : Heap) (l1 : Addr) : Heap := h.push { cls := .type "tuple_iterator", data := .fields #[.ref l1, .int 0 0] }
abbrev zt2 (h : Heap) (l1 l2 : Addr) : Heap := (zt1 h l1).push { cls := .type "tuple_iterator", data := .fields #[.ref l2, .int 0 0] }
abbrev zt3 (h : Heap) (l1 l2 : Addr) : Heap := (zt2 h l1 l2).push { cls := .type "tuple", data := .seq #[.ref h.objs.size, .ref (zt1 h l1).objs.size] }
abbrev zt4 (h : Heap) (l1 l2 : Addr) : Heap := (zt3 h l1 l2).push { cls := .type "tuple", data := .seq #[.none, .none] }
abbrev zt5 (h : Heap) (l1 l2 : Addr) : Heap := (zt4 h l1 l2).push { cls := .type "zip", data := .fields #[.none, .bool false, .bool false, .ref (zt2 h l1 l2).objs.size, .ref (zt3 h l1 l2).objs.size] }
section
variable {prog : Program} {w : World} {A : Around} {E : Value → Shared → Prop} {s : Shared}
end
section
variable {X : Cx}
def iZipX (K : PySem.W.Frag) (ta : TA) : TI := fun σ H R => ta σ H fun vs H1 => ∃ b l1 l2, vs = [.ref l1, .ref l2] ∧ (∃ xs, SqX K H1 b l1 xs) ∧ (∃ ys, SqX K H1 b l2 ys) ∧ R (Itz K b l1 b l2) H1
end
end L2
namespace L2
open PySem PySem.Spec PyProof.Rows
theorem a69 {prog : Program} {w : World} {A : Around} (hh : A.handled = none) {it l : Addr} (ne : l ≠ it) (items : Array Value) : Draws prog w A it [it, l] items.size (fun i v => items[i]? = some v) (fun i h => h.IsTupleIter it l i ∧ h.IsTuple l items) where
  live := fun _ _ st => by obtain ⟨⟨o, e, _⟩, _⟩ := st; exact ⟨o, e⟩
  frame := fun _ _ _ st k => ⟨Heap.IsTupleIter.at st.1 fun o e => k it (by simp) o e, Heap.IsTuple.at st.2 fun o e => k l (by simp) o e⟩
  item := fun i s Q E hi st hQ => a38 st.1 st.2 (Array.getElem?_eq_getElem hi) fun g a b => hQ _ g s.toks (Array.getElem?_eq_getElem hi) ⟨a, st.2.extBut b.extBut ne⟩ b
  done := fun s Q E st hE => a4Z hh st.1 st.2 (by simp) hE
theorem draws_X {prog : Program} {w : World} {A : Around} (hh : A.handled = none) {it l : Addr} (ne : l ≠ it) (items : Array Value) (b : Bool) : Draws prog w A it [it, l] items.size (fun i v => items[i]? = some v) (fun i h => itX h b it l i ∧ isX h b l items) := by
  cases b with
  | true => exact Draws.list hh it l ne items
  | false => exact a69 hh ne items
def Ite (K : PySem.W.Frag) (b : Bool) (l : Addr) : It :=
  ⟨fun i H => ∃ xs x, SqX K H b l xs ∧ xs[i]? = some x,
   fun i H x H' => ∃ p u, x = .ref p ∧ H p = none ∧ H' = upd H p (.tup [.int i, u]) ∧ ∀ xs, SqX K H b l xs → xs[i]? = some u,
   fun i H => ∃ xs, SqX K H b l xs ∧ xs.length ≤ i⟩
theorem itX_rec {h : Heap} {b : Bool} {it l : Addr} {i : Nat} (j : itX h b it l i) : ∃ o, h.get? it = some o ∧ ∀ v, o.data ≠ .cell v := by
  cases b with
  | true => obtain ⟨o, e, _, d⟩ := j; exact ⟨o, e, fun v z => by rw [d] at z; cases z⟩
  | false => obtain ⟨o, e, _, d⟩ := j; exact ⟨o, e, fun v z => by rw [d] at z; cases z⟩
theorem itX_at {h h' : Heap} {b : Bool} {it l : Addr} {i : Nat} (j : itX h b it l i) (k : ∀ o, h.get? it = some o → h'.get? it = some o) : itX h' b it l i := by
  cases b with
  | true => exact Heap.IsListIter.at j k
  | false => exact Heap.IsTupleIter.at j k
theorem a6A {P : Program} {w : World} {K : PySem.W.Frag} {elts : List Expr} {kt : Nat} {tp : Pos} (b : Bool) (e it l : Addr) (hei : e ≠ it) (hle : l ≠ e) (hli : l ≠ it) :
    Turn P w K (.Tuple elts kt tp) (Ite K b l) [e, it] e (fun i h => (∃ old, IsEnum h e it i old) ∧ itX h b it l i) where
  mem := by simp
  obj := fun i h ⟨⟨old, he⟩, j⟩ c hc => by
    rcases List.mem_cons.mp hc with rfl | hc
    · exact ⟨_, he, fun v z => nomatch z⟩
    · rw [List.mem_singleton.mp hc]; exact itX_rec j
  keep := fun i h h' ⟨⟨old, he⟩, j⟩ k => ⟨⟨old, k e (by simp) _ he⟩, itX_at j fun o z => k it (by simp) o z⟩
  item := by
    intro X hP hw hK hc i pins s σ H E I hf ⟨⟨old, he⟩, j⟩ ⟨xs, x, q1, hx⟩
    subst hP hw hK
    obtain ⟨t1, r1, p1, lt1⟩ := I.seqX q1
    obtain ⟨u1, e1, ru1⟩ := r1.get hx
    have hi : i < t1.toArray.size := by
      have := (List.getElem?_eq_some_iff.mp e1).1
      simpa using this
    have W := WalksT.enumerateD (draws_X (prog := X.prog) (w := X.w) (A := X.A.in1) (I.ok.hd hc) hli t1.toArray b) e hei (by simp [hei, Ne.symm hle]) (by simp)
    refine W.item i s _ _ hi ⟨⟨old, he⟩, j, p1⟩ fun T vals h' tk ⟨t, v, hv, ev⟩ hT isT mid kp => ?_
    have ev1 : v = u1 := by
      have : t1[i]? = some v := by simpa using hv
      rw [e1] at this
      exact (Option.some.inj this).symm
    subst ev1
    refine ⟨_, rfl, W.go elts kt tp i T { s with heap := h', toks := tk } _ _ mid fun h2 st2 kp2 => ?_⟩
    have Tn : T ∉ [e, it] := W.apart i T h' mid
    have I1 : Inv X pins σ H { s with heap := h2, toks := tk } := I.turnedN (t' := tk) (ch := [e, it]) (fun c o hc z => kp2 c o hc (kp c o hc z)) hf
    have fT : FpOk X pins H T := I.fpOk hT (I.hok.fresh hT)
    have I2 : Inv X pins σ (upd H T (.tup [.int i, x])) { s with heap := h2, toks := tk } := I1.track fT ⟨by show 2 ≤ sizeLine; decide, [.int i t, v], .cons ⟨t, rfl⟩ (.cons ru1 .nil), by
      rw [ev] at isT
      exact Heap.IsTuple.at isT fun o z => kp2 T o Tn z⟩
    refine ⟨.ref T, _, I2, rfl, ⟨T, x, rfl, fT.1, rfl, fun xs' q => by rw [I.seqX_inj q q1]; exact hx⟩, ⟨st2.1, st2.2.1⟩, fun c hc => ?_⟩
    rw [upd_ne]
    · exact (hf c hc).1
    · intro z; subst z; exact Tn hc
  done := by
    intro X hP hw hK hc i pins s σ H E I hf ⟨⟨old, he⟩, j⟩ ⟨xs, q1, hl⟩
    subst hP hw hK
    obtain ⟨t1, r1, p1, lt1⟩ := I.seqX q1
    have le1 := r1.length
    have hT : s.TypeIs (.ref e) "enumerate" := ⟨_, he, rfl⟩
    have N1 := nx_X (prog := X.prog) (w := X.w) (A := X.A.in1) (I.ok.hd hc) hli t1.toArray b
    unfold pyNext
    refine wpAny_bind (wpAny_attempt (wpAny_callSpecial?_slot (name := Str.ofString "__next__") hT F.slot_enumerate_next (wpAny_call_entry F.slot_enumerate_next hT F.entry_enumerate_next ?_ (F.args_enumerate_next_1 _))))
    show wpAny _ _ (field (.ref e) 2 >>= _) _ _ _
    refine wpAny_bind (wpAny_field he rfl (x := .ref it) rfl (wpAny_bind (N1.stop s i _ _ ⟨j, p1⟩ (by simp; omega) fun g z kg ⟨o, ho, hc⟩ => ?_)))
    refine wpAny_bind (wpAny_isInstance (T := "StopIteration") (b := true) ⟨o, ho, hc⟩ isSubtype_stop (wpAny_pure ⟨rfl, I.turnedN (ch := [e, it]) (t' := s.toks) (fun c o hc z => kg c o ?_ z) hf⟩))
    intro z
    exact hc (by simp [z])
  self := fun A i s Q E st h => by
    obtain ⟨⟨old, he⟩, _⟩ := st
    exact wpAny_pyIter_enum he h
abbrev et1 (h : Heap) (l : Addr) : Heap := h.push { cls := .type "tuple_iterator", data := .fields #[.ref l, .int 0 0] }
abbrev et2 (h : Heap) (l : Addr) : Heap := (et1 h l).push { cls := .type "enumerate", data := .fields #[.none, .bool false, .ref h.objs.size, rawInt 0, .none, .none] }
theorem a3Y (l : Addr) (xs : Array Value) :
    Meets (Builtin.«enumerate.__new__» ⟨[.type "enumerate", .ref l], []⟩) (fun _ R s => s.heap.IsTuple l xs ∧ R (.ok (.ret (.ref (et1 s.heap l).objs.size))) { s with heap := et2 s.heap l }) :=
  .of_wp fun prog w A R s h => by
    obtain ⟨hp, g, d, tk, os⟩ := s
    obtain ⟨hl, h⟩ := h
    have hsub := sub_enumerate
    have q1 : Heap.IsTuple (Shared.heap ⟨hp, g, d, tk, os⟩) l xs := hl
    wp_walk using wpAny_pyIter_tuple q1
    refine wpAny_stack_any fun st => wpAny_pure ?_
    split
    · rename_i c _ _ _ _ _
      cases (c == Value.type "enumerate") <;> (wp_walk using wpAny_pyIter_tuple q1; exact ⟨_, rfl, h⟩)
    · wp_walk using wpAny_pyIter_tuple q1; exact ⟨_, rfl, h⟩
section
variable {prog : Program} {w : World} {A : Around} {E : Value → Shared → Prop} {s : Shared}
theorem a6n {b : Bool} {l : Addr} {xs : Array Value} {Q : Value → Shared → Prop} (h1 : isX s.heap b l xs)
    (h : ∀ h', IsEnum h' (s.heap.objs.size + 1) s.heap.objs.size 0 .none → itX h' b s.heap.objs.size l 0 → (∀ c o, s.heap.get? c = some o → h'.get? c = some o) → Q (.ref (s.heap.objs.size + 1)) { s with heap := h' }) :
    wpAny (model prog w) A (call (.type "enumerate") [.ref l]) Q E s := by
  cases b with
  | true => exact call_enumerate_list h1 fun h' a1 a2 _ a4 => h h' a1 a2 a4
  | false =>
    refine callType_new F.called_enumerate (by decide) (F.typeCall_enumerate_1 _) (F.newCall_enumerate_1 _) (fun obj => F.args_object_init_2 obj _) F.entry_enumerate_new (a3Y l xs) ⟨h1, ?_⟩
    have n1 : (et1 s.heap l).objs.size = s.heap.objs.size + 1 := Heap.size_push ..
    have g2 : (et2 s.heap l).get? (et1 s.heap l).objs.size = some _ := Heap.get?_push_size _ rfl
    have g1 : (et2 s.heap l).get? s.heap.objs.size = some _ := Heap.get?_push_of_some _ (Heap.get?_push_size _ rfl)
    show _ ∧ _
    rw [n1] at g2; rw [n1]
    exact ⟨⟨_, g2, rfl⟩, h _ g2 ⟨_, g1, rfl, rfl⟩ fun c o x => Heap.get?_push_of_some _ (Heap.get?_push_of_some _ x)⟩
end
section
variable {X : Cx}
theorem a7l : bootBuiltins "enumerate" = some (.type "enumerate") := by decide +kernel
def iEnumX (K : PySem.W.Frag) (ta : TA) : TI := fun σ H R => ta σ H fun vs H1 => ∃ b l, vs = [.ref l] ∧ (∃ xs, SqX K H1 b l xs) ∧ R (Ite K b l) H1
theorem pi_enum {a : Expr} {ta : TA} {p pos : Pos} {elts : List Expr} {kt : Nat} {tp : Pos} (hg : Gl X "enumerate") (hm : X.mg "enumerate" = none) (ha : PA X [a] ta) (hs : starEach [a] X.env = [(false, eval a X.env)] := by rfl) :
    PI X (.Tuple elts kt tp) (.Call (.Name "enumerate" p) [a] [] pos) (iEnumX X.K ta) := by
  intro pins s σ H R I h
  refine Call_ (ld_blt I hg hm a7l (PyProof.Rows.callWith_type1 (thn (ha pos pins s σ H _ I h) fun us s1 ⟨vs, H1, I1, r1, b, l, e, ⟨xs, q1⟩, q⟩ => ?_) hs rfl))
  subst e
  obtain ⟨u, rfl, r2⟩ := vals1 r1
  obtain rfl : u = Value.ref l := r2
  obtain ⟨t1, _, p1, lt1⟩ := I1.seqX q1
  refine a6n p1 fun h' z1 j1 kp => ?_
  show wpAny _ _ (pyIter (.ref (s1.heap.objs.size + 1))) _ _ _
  refine wpAny_pyIter_enum z1 ?_
  refine ⟨_, _, _, _, H1, rfl, I1.kept (t' := s1.toks) kp, a6A b (s1.heap.objs.size + 1) s1.heap.objs.size l (Nat.succ_ne_self _) (Nat.ne_of_lt (Nat.lt_succ_of_lt lt1)) (Nat.ne_of_lt lt1), ⟨⟨_, z1⟩, j1⟩, fun c hc => ?_, q⟩
  have hle : s1.heap.objs.size ≤ c := by
    have : c = s1.heap.objs.size + 1 ∨ c = s1.heap.objs.size := by simpa using hc
    rcases this with rfl | rfl
    · exact Nat.le_add_right _ _
    · exact Nat.le_refl _
  exact I1.fpOk hle (I1.hok.fresh hle)
end
end L2
namespace L2
open PySem
abbrev Rise (xs : Array Nat) : Prop := xs.toList.Pairwise (· < ·)
theorem a5l {xs : Array Nat} (h : Rise xs) {i k : Nat} (hik : i < k) (hk : k < xs.size) : xs[i]'(by omega) < xs[k] := by
  have := List.pairwise_iff_getElem.mp h i k (by simpa using (by omega : i < xs.size)) (by simpa using hk) hik
  simpa using this
theorem a4L {xs : Array Nat} (h : Rise xs) (j : Nat) : ∀ (fuel lo hi : Nat), lo ≤ hi → hi ≤ xs.size → hi - lo ≤ fuel → (∀ i (hi' : i < xs.size), i < lo → xs[i] < j) → (∀ i (hi' : i < xs.size), hi ≤ i → j ≤ xs[i]) →
    SetTable.below.go xs j fuel lo hi ≤ xs.size ∧ (∀ i (hi' : i < xs.size), i < SetTable.below.go xs j fuel lo hi → xs[i] < j) ∧ ∀ i (hi' : i < xs.size), SetTable.below.go xs j fuel lo hi ≤ i → j ≤ xs[i]
  | 0, lo, hi, h1, h2, h3, h4, h5 => by
    have e : lo = hi := by omega
    subst e
    exact ⟨h2, h4, h5⟩
  | fuel + 1, lo, hi, h1, h2, h3, h4, h5 => by
    unfold SetTable.below.go
    by_cases hl : lo < hi
    · rw [if_pos hl]
      have hm : (lo + hi) / 2 < xs.size := by omega
      have hg : xs.getD ((lo + hi) / 2) j = xs[(lo + hi) / 2] := by simp [hm]
      dsimp only
      rw [hg]
      by_cases hc : xs[(lo + hi) / 2] < j
      · rw [if_pos hc]
        refine a4L h j fuel _ _ (by omega) h2 (by omega) (fun i hi' hlt => ?_) h5
        by_cases e : i = (lo + hi) / 2
        · subst e; exact hc
        · exact Nat.lt_trans (a5l h (by omega) hm) hc
      · rw [if_neg hc]
        refine a4L h j fuel _ _ (by omega) (by omega) (by omega) h4 (fun i hi' hle => ?_)
        by_cases e : i = (lo + hi) / 2
        · subst e; omega
        · have := a5l h (show (lo + hi) / 2 < i by omega) hi'; omega
    · rw [if_neg hl]
      have e : lo = hi := by omega
      subst e
      exact ⟨h2, h4, h5⟩
theorem a4e {xs : Array Nat} (h : Rise xs) (j : Nat) : SetTable.below xs j ≤ xs.size ∧ (∀ i (hi' : i < xs.size), i < SetTable.below xs j → xs[i] < j) ∧ ∀ i (hi' : i < xs.size), SetTable.below xs j ≤ i → j ≤ xs[i] := by
  unfold SetTable.below
  exact a4L h j xs.size 0 xs.size (Nat.zero_le _) (Nat.le_refl _) (by omega) (fun _ _ z => absurd z (Nat.not_lt_zero _)) (fun i hi' z => absurd hi' (by omega))
theorem a23 {α : Type} (xs : Array α) (p : Nat) (x : α) (hp : p ≤ xs.size) : (SetTable.insertAt xs p x).toList = xs.toList.take p ++ x :: xs.toList.drop p := by
  unfold SetTable.insertAt
  simp [Array.toList_extract]
  rw [List.take_of_length_le (by simp)]
theorem a2t {α : Type} (xs : Array α) (p : Nat) (x : α) (hp : p ≤ xs.size) : (SetTable.insertAt xs p x).toList.Perm (x :: xs.toList) := by
  rw [a23 xs p x hp]
  refine List.perm_middle.trans ?_
  rw [List.take_append_drop]
theorem a22 {α : Type} (xs : Array α) (p : Nat) (x : α) (hp : p ≤ xs.size) : (SetTable.insertAt xs p x).size = xs.size + 1 := by
  rw [← Array.length_toList, (a2t xs p x hp).length_eq]; simp
structure Tb (t : SetTable) (m : Nat) : Prop where
  mask : t.mask = 7
  dum : t.dummies = #[]
  plain : t.plain = true
  size : t.place.size = m
  rise : Rise t.place
  le : ∀ j ∈ t.place.toList, j ≤ 7
theorem Tb.fits {t : SetTable} {m : Nat} (T : Tb t m) (hm : m ≤ 7) : t.fits m = true := by
  unfold SetTable.fits SetTable.fill
  rw [T.size, T.dum, T.mask]
  simp
  omega
theorem Tb.notFull {t : SetTable} {m : Nat} (T : Tb t m) (hm : m ≤ 4) : t.tooFull = false := by
  unfold SetTable.tooFull SetTable.fill
  rw [T.size, T.dum, T.mask]
  simp
  omega
theorem Tb.slot {t : SetTable} {m : Nat} (T : Tb t m) (j : Nat) : (t.slot j = .empty ∧ j ∉ t.place.toList) ∨ (∃ i, t.slot j = .live i) ∧ j ∈ t.place.toList := by
  unfold SetTable.slot
  dsimp only
  by_cases h : (t.place[SetTable.below t.place j]? == some j) = true
  · rw [if_pos h]
    have e : t.place[SetTable.below t.place j]? = some j := eq_of_beq h
    rw [← Array.getElem?_toList] at e
    exact .inr ⟨⟨_, rfl⟩, List.mem_of_getElem? e⟩
  · rw [if_neg h]
    have hd : SetTable.has t.dummies j = false := by rw [T.dum]; rfl
    rw [if_neg (by rw [hd]; exact Bool.false_ne_true)]
    refine .inl ⟨rfl, fun hm => h ?_⟩
    obtain ⟨i, hi, e⟩ := List.getElem_of_mem hm
    have hi' : i < t.place.size := by simpa using hi
    have e' : t.place[i] = j := by simpa using e
    obtain ⟨h1, h2, h3⟩ := a4e T.rise j
    have hb : SetTable.below t.place j = i := by
      by_cases l : SetTable.below t.place j ≤ i
      · by_cases l2 : SetTable.below t.place j = i
        · exact l2
        · have hlt : SetTable.below t.place j < t.place.size := by omega
          have a := h3 _ hlt (Nat.le_refl _)
          have b := a5l T.rise (show SetTable.below t.place j < i by omega) hi'
          omega
      · have := h2 i hi' (by omega); omega
    rw [hb, Array.getElem?_eq_getElem hi', e']
    exact beq_self_eq_true _
theorem a6q {h : Int} (h0 : 0 ≤ h) (h1 : h < 32) : SetTable.bits h = h.toNat := by
  unfold SetTable.bits
  rw [Int.emod_eq_of_lt h0 (by omega)]
theorem four_in {l : List Nat} {a b c d : Nat} (hl : l.length ≤ 3) (h1 : a ∈ l) (h2 : b ∈ l) (h3 : c ∈ l) (h4 : d ∈ l) (n : [a, b, c, d].Nodup) : False := by
  have hs : [a, b, c, d] ⊆ l := by
    intro x hx
    simp at hx
    rcases hx with rfl | rfl | rfl | rfl <;> assumption
  have := List.Nodup.length_le_of_subset n hs
  simp at this
  omega
theorem Tb.free {t : SetTable} {m : Nat} (T : Tb t m) (hm : m ≤ 3) {h : Int} (h0 : 0 ≤ h) (h1 : h < 32) : ∃ j, t.freeSlot h = some (j, false) ∧ j ≤ 7 ∧ j ∉ t.place.toList := by
  obtain ⟨n, rfl⟩ : ∃ n : Nat, h = n := ⟨h.toNat, by omega⟩
  have hb : SetTable.bits (n : Int) = n := by rw [a6q h0 h1]; rfl
  have hn : n < 32 := by omega
  have hl : t.place.toList.length ≤ 3 := by rw [Array.length_toList, T.size]; exact hm
  have run : ∀ (i : Nat), SetTable.runEnd t.mask i = i ∨ 7 < i := fun i => by
    unfold SetTable.runEnd
    rw [T.mask]
    by_cases q : i + 9 ≤ 7
    · omega
    · rw [if_neg q]; exact .inl rfl
  have hrun : ∀ i, SetTable.runEnd t.mask i - i = 0 := fun i => by
    unfold SetTable.runEnd
    rw [T.mask, if_neg (by omega)]
    omega
  have adv : ∀ (i p : Nat), p / 32 = 0 → t.advance ⟨i, 0, i, p, none⟩ = ⟨(i * 5 + 1) % 8, 0, (i * 5 + 1) % 8, 0, none⟩ := fun i p hp => by
    unfold SetTable.advance SetTable.leap
    rw [if_neg (Nat.lt_irrefl 0)]
    dsimp only
    rw [hp, hrun, T.mask]
  have step : ∀ (fuel i p : Nat), p / 32 = 0 → (∃ r, SetTable.probe.go t (fun _ => (n : Int) + 1) n (fuel + 1) ⟨i, 0, i, p, none⟩ = some r ∧ r = .empty i none ∧ i ∉ t.place.toList) ∨ (i ∈ t.place.toList ∧ SetTable.probe.go t (fun _ => (n : Int) + 1) n (fuel + 1) ⟨i, 0, i, p, none⟩ = SetTable.probe.go t (fun _ => (n : Int) + 1) n fuel ⟨(i * 5 + 1) % 8, 0, (i * 5 + 1) % 8, 0, none⟩) := fun fuel i p hp => by
    rcases T.slot i with ⟨e, ni⟩ | ⟨⟨k, e⟩, hi⟩
    · refine .inl ⟨.empty i none, ?_, rfl, ni⟩
      unfold SetTable.probe.go
      dsimp only
      rw [e]
    · refine .inr ⟨hi, ?_⟩
      conv => lhs; unfold SetTable.probe.go
      dsimp only
      rw [e]
      dsimp only
      rw [if_neg (by simp; omega), adv i p hp]
  have hps : t.probeStart (n : Int) = ⟨n % 8, 0, n % 8, n, none⟩ := by
    unfold SetTable.probeStart
    dsimp only
    rw [hb, hrun, T.mask]
  have fin : ∀ {j : Nat} {r : SetTable.Met}, j < 8 → SetTable.probe.go t (fun _ => (n : Int) + 1) n (10 * SetTable.turns t.mask) ⟨n % 8, 0, n % 8, n, none⟩ = some r → r = .empty j none → j ∉ t.place.toList → ∃ j, t.freeSlot (n : Int) = some (j, false) ∧ j ≤ 7 ∧ j ∉ t.place.toList := fun {j r} hj e er nj => by
    refine ⟨j, ?_, by omega, nj⟩
    unfold SetTable.freeSlot SetTable.probe
    rw [hps, e, er]
    rfl
  have hf : 10 * SetTable.turns t.mask = 216 + 1 + 1 + 1 + 1 := by unfold SetTable.turns; rw [T.mask]
  rw [hf] at fin
  have h8 : n % 8 < 8 := Nat.mod_lt _ (by decide)
  rcases step (216 + 1 + 1 + 1) (n % 8) n (by omega) with ⟨r, e, er, nj⟩ | ⟨i1, e1⟩
  · exact fin h8 e er nj
  rcases step (216 + 1 + 1) ((n % 8 * 5 + 1) % 8) 0 rfl with ⟨r, e, er, nj⟩ | ⟨i2, e2⟩
  · exact fin (by omega) (e1.trans e) er nj
  rcases step (216 + 1) (((n % 8 * 5 + 1) % 8 * 5 + 1) % 8) 0 rfl with ⟨r, e, er, nj⟩ | ⟨i3, e3⟩
  · exact fin (by omega) ((e1.trans e2).trans e) er nj
  rcases step 216 ((((n % 8 * 5 + 1) % 8 * 5 + 1) % 8 * 5 + 1) % 8) 0 rfl with ⟨r, e, er, nj⟩ | ⟨i4, e4⟩
  · exact fin (by omega) (((e1.trans e2).trans e3).trans e) er nj
  exact (four_in hl i1 i2 i3 i4 (by
    have : n % 8 = 0 ∨ n % 8 = 1 ∨ n % 8 = 2 ∨ n % 8 = 3 ∨ n % 8 = 4 ∨ n % 8 = 5 ∨ n % 8 = 6 ∨ n % 8 = 7 := by omega
    rcases this with h | h | h | h | h | h | h | h <;> rw [h] <;> decide)).elim
theorem Tb.put {t : SetTable} {m : Nat} (T : Tb t m) {j : Nat} (hj : j ≤ 7) (nj : j ∉ t.place.toList) : Tb (t.put j).1 (m + 1) ∧ (t.put j).2 ≤ m ∧ (t.put j).1.led = t.led := by
  obtain ⟨h1, h2, h3⟩ := a4e T.rise j
  have hd : SetTable.has t.dummies j = false := by rw [T.dum]; rfl
  have hz : SetTable.below t.place j ≤ m := by rw [← T.size]; exact h1
  unfold SetTable.put
  dsimp only
  rw [if_neg (by rw [hd]; exact Bool.false_ne_true)]
  refine ⟨⟨T.mask, T.dum, T.plain, ?_, ?_, fun k hk => ?_⟩, hz, rfl⟩
  · show (SetTable.insertAt t.place (SetTable.below t.place j) j).size = _
    rw [a22 _ _ _ h1, T.size]
  · show (SetTable.insertAt t.place (SetTable.below t.place j) j).toList.Pairwise (· < ·)
    rw [a23 _ _ _ h1]
    refine List.pairwise_append.mpr ⟨List.Pairwise.sublist (List.take_sublist _ _) T.rise, List.pairwise_cons.mpr ⟨fun k hk => ?_, List.Pairwise.sublist (List.drop_sublist _ _) T.rise⟩, fun a ha b hb => ?_⟩
    · obtain ⟨i, hi, e⟩ := List.getElem_of_mem hk
      rw [List.getElem_drop] at e
      rw [List.length_drop, Array.length_toList] at hi
      have a := h3 (SetTable.below t.place j + i) (by omega) (by omega)
      have e' : t.place[SetTable.below t.place j + i]'(by omega) = k := by simpa using e
      have : k ≠ j := fun z => nj (by rw [← z]; exact List.mem_of_mem_drop hk)
      omega
    · obtain ⟨i, hi, e⟩ := List.getElem_of_mem ha
      rw [List.getElem_take] at e
      rw [List.length_take, Array.length_toList] at hi
      have a1 := h2 i (by omega) (by omega)
      have e' : t.place[i]'(by omega) = a := by simpa using e
      rcases List.mem_cons.mp hb with rfl | hb
      · omega
      · obtain ⟨i2, hi2, e2⟩ := List.getElem_of_mem hb
        rw [List.getElem_drop] at e2
        rw [List.length_drop, Array.length_toList] at hi2
        have a2 := h3 (SetTable.below t.place j + i2) (by omega) (by omega)
        have e3 : t.place[SetTable.below t.place j + i2]'(by omega) = b := by simpa using e2
        omega
  · have hk' : k ∈ (SetTable.insertAt t.place (SetTable.below t.place j) j).toList := hk
    have := (a2t _ _ j h1).mem_iff.mp hk'
    rcases List.mem_cons.mp this with rfl | z
    · exact hj
    · exact T.le k z
theorem Tb.lay {t : SetTable} {m : Nat} (T : Tb t m) (hm : m ≤ 3) {h : Int} (h0 : 0 ≤ h) (h1 : h < 32) (es : Array (Int × Value)) (he : es.size = m) (x : Value) : ∃ es' t', layNew t es h x = (es', t', false, false) ∧ Tb t' (m + 1) ∧ t'.led = t.led ∧ es'.toList.Perm ((h, x) :: es.toList) ∧ es'.size = m + 1 := by
  obtain ⟨j, ej, hj, nj⟩ := T.free hm h0 h1
  obtain ⟨T', hp, hled⟩ := T.put hj nj
  have hsz : (SetTable.insertAt es (t.put j).2 (h, x)).size = m + 1 := by rw [a22 _ _ _ (by omega), he]
  have hfit := T'.fits (by omega)
  refine ⟨SetTable.insertAt es (t.put j).2 (h, x), (t.put j).1, ?_, T', hled, a2t _ _ _ (by omega), hsz⟩
  unfold layNew
  rw [ej]
  dsimp only
  rw [hsz, hfit]
  unfold SetTable.orStandIn
  rw [hfit]
  rfl
end L2
namespace L2
open PySem PySem.Spec PyProof.Rows
inductive EsK : List (Int × Value) → List Int → Prop
  | nil : EsK [] []
  | cons (k : Int) (tk : Tok) {es ks} : EsK es ks → EsK ((hashInt k, .int k tk) :: es) (k :: ks)
theorem EsK.length {es : List (Int × Value)} {ks : List Int} (h : EsK es ks) : es.length = ks.length := by
  induction h with
  | nil => rfl
  | cons k tk _ ih => rw [List.length_cons, List.length_cons, ih]
theorem EsK.perm {es es' : List (Int × Value)} (p : es'.Perm es) : ∀ {ks : List Int}, EsK es ks → ∃ ks', EsK es' ks' ∧ ks'.Perm ks := by
  have q := p.symm
  clear p
  induction q with
  | nil => intro ks h; cases h; exact ⟨[], .nil, .refl _⟩
  | cons x _ ih =>
    intro ks h
    cases h with
    | cons k tk t => obtain ⟨ks', e, p⟩ := ih t; exact ⟨k :: ks', .cons k tk e, p.cons k⟩
  | swap x y l =>
    intro ks h
    cases h with
    | cons k tk t => cases t with
      | cons k2 tk2 t2 => exact ⟨k2 :: k :: _, .cons k2 tk2 (.cons k tk t2), List.Perm.swap _ _ _⟩
  | trans _ _ ih1 ih2 =>
    intro ks h
    obtain ⟨k1, e1, p1⟩ := ih1 h
    obtain ⟨k2, e2, p2⟩ := ih2 e1
    exact ⟨k2, e2, p2.trans p1⟩
theorem EsK.elems {prog : Program} {w : World} {es : List (Int × Value)} {ks : List Int} (h : EsK es ks) : ElemsOf (intKind prog w) es := by
  induction h with
  | nil => intro e he; cases he
  | cons k tk _ ih =>
    intro e he
    rcases List.mem_cons.mp he with rfl | he
    · exact ⟨⟨k, by simp [intKind, Value.isInt], rfl⟩, rfl⟩
    · exact ih e he
theorem EsK.find {es : List (Int × Value)} {ks : List Int} (h : EsK es ks) (k : Int) : (es.findIdx? fun e => Value.isInt k e.2).isSome = decide (k ∈ ks) := by
  induction h with
  | nil => rfl
  | cons k' tk _ ih =>
    rw [List.findIdx?_cons]
    by_cases e : k = k'
    · subst e; simp [Value.isInt]
    · have : Value.isInt k (Value.int k' tk) = false := by simp [Value.isInt, Ne.symm e, e]
      simp only [this]
      rw [if_neg Bool.false_ne_true, Option.isSome_map, ih]
      simp [e]
theorem EsK.ints {es : List (Int × Value)} {ks : List Int} (h : EsK es ks) : IntsAre (es.map (·.2)) ks := by
  induction h with
  | nil => exact .nil
  | cons k tk _ ih => exact .cons k tk ih
def SetX (w : World) (h : Heap) (a : Addr) (ks : List Int) : Prop := ∃ o es ep t ks', h.get? a = some o ∧ o.ExactSet ∧ o.data = .set es ep t ∧ EsK es.toList ks' ∧ ks'.Perm ks ∧ Tb t es.size ∧ t.led = !w.params.followText "set-order"
theorem SetX.at {w : World} {h h' : Heap} {a : Addr} {ks : List Int} (S : SetX w h a ks) (k : ∀ o, h.get? a = some o → h'.get? a = some o) : SetX w h' a ks := by
  obtain ⟨o, es, ep, t, ks', ho, r⟩ := S
  exact ⟨o, es, ep, t, ks', k o ho, r⟩
theorem hash_fin : ∀ n : Fin 32, hashInt ((n.val : Nat) : Int) = ((n.val : Nat) : Int) := by decide +kernel
theorem a4c {k : Int} (h0 : 0 ≤ k) (h1 : k < 32) : hashInt k = k := by
  have h := hash_fin ⟨k.toNat, by omega⟩
  rwa [show (((⟨k.toNat, by omega⟩ : Fin 32).val : Nat) : Int) = k from Int.toNat_of_nonneg h0] at h
section
variable {prog : Program} {w : World} {A : Around} {E : Value → Shared → Prop} {s : Shared}
theorem setx_add {a : Addr} {ks : List Int} {k : Int} {tk : Tok} {Q : Bool → Shared → Prop} (S : SetX w s.heap a ks) (h0 : 0 ≤ k) (h1 : k < 32) (hl : ks.length ≤ 4) (hl2 : k ∉ ks → ks.length ≤ 3)
    (h : ∀ h' b, Heap.SameBut a s.heap h' → SetX w h' a (if k ∈ ks then ks else k :: ks) → Q b { s with heap := h', toks := s.toks + 1 }) : wpAny (model prog w) A (setAdd a (.int k tk)) Q E s := by
  obtain ⟨o, es, ep, t, ks', ho, hex, hd, hes, hp, T, hled⟩ := S
  have hsz : es.size = ks.length := by rw [← Array.length_toList, hes.length, hp.length_eq]
  have hf := T.fits (by omega)
  have hel : ElemsOf (intKind prog w) es.toList := hes.elems
  have hkey : (intKind prog w).is k (.int k tk) = true := by simp [intKind, Value.isInt]
  unfold setAdd
  refine wpAny_holding (wpAny_bind ((intKind prog w).pyHash hkey ?_))
  unfold setAddHashed setAddHashedIn
  refine wpAny_holding (wpAny_bind (wpAny_setState_of ho hd hf ?_))
  dsimp only
  rw [byScan_of (knd := intKind prog w) rfl (by unfold scanBound; omega) hel, if_pos rfl]
  unfold setAddByScan
  refine wpAny_bind (wpAny_bind (wpAny_rule (wpAny_bind (wpAny_setScan_of (s := { s with toks := s.toks + 1 }) hkey ho hd hf hel ?_))))
  have hfi := hes.find k
  have hfi' : ∀ r, es.toList.findIdx? (fun e => (intKind prog w).is k e.2) = r → r.isSome = decide (k ∈ ks') := fun r e => by rw [← e]; exact hfi
  have hmem : k ∈ ks' ↔ k ∈ ks := hp.mem_iff
  cases hr : es.toList.findIdx? (fun e => (intKind prog w).is k e.2) with
  | some j =>
    have hk : k ∈ ks := hmem.mp (by have := hfi' _ hr; simpa using this.symm)
    dsimp only
    refine wpAny_pure (wpAny_pure (h s.heap false (Heap.SameBut.refl a s.heap) ?_))
    rw [if_pos hk]
    exact ⟨o, es, ep, t, ks', ho, hex, hd, hes, hp, T, hled⟩
  | none =>
    have hk : k ∉ ks := fun z => by have := hfi' _ hr; rw [decide_eq_true (hmem.mpr z)] at this; cases this
    have h3 := hl2 hk
    obtain ⟨es', t', el, T', hl', hpm, hsz'⟩ := T.lay (by omega) (h := hashInt k) (by rw [a4c h0 h1]; exact h0) (by rw [a4c h0 h1]; exact h1) es rfl (.int k tk)
    have el' : layNew t es ((intKind prog w).hash k) (.int k tk) = (es', t', false, false) := el
    dsimp only
    rw [el']
    dsimp only
    refine wpAny_bind ?_
    show wpAny _ _ (pure ()) _ _ _
    refine wpAny_pure ?_
    rw [T'.plain, if_pos rfl, hashByValue_scannable 8 rfl]
    refine wpAny_bind (wpAny_pure ?_)
    rw [if_pos (show plainKind (Value.int k tk) = true from rfl)]
    refine wpAny_bind (wpAny_storeSet_of (s := { s with toks := s.toks + 1 }) ho hd ?_ (by rw [hsz', sizeLine_eq]; omega))
    rw [T'.notFull (by omega)]
    simp only [Bool.not_false, Bool.and_false, Bool.false_eq_true, if_false]
    refine wpAny_pure (wpAny_pure (h _ true (Heap.SameBut.update s.heap a (Obj.putSet es' t')) ?_))
    rw [if_neg hk]
    obtain ⟨ks2, e2, p2⟩ := EsK.perm hpm (.cons k tk hes)
    have hg : (s.heap.update a (Obj.putSet es' t')).get? a = some { o with data := .set es' (ep + 1) t' } := by
      have z := Heap.get?_update_self (Obj.putSet es' t') ho (by rw [putSet_of es' t' hd]; rfl)
      rw [putSet_of es' t' hd] at z; exact z
    exact ⟨_, es', ep + 1, t', ks2, hg, hex, rfl, e2, p2.trans (hp.cons k), by rw [hsz']; exact T', by rw [hl']; exact hled⟩
end
end L2
namespace L2
open PySem PySem.Spec PyProof.Rows
section
variable {prog : Program} {w : World} {A : Around} {E : Value → Shared → Prop} {s : Shared}
theorem a6G {R : Result → Shared → Prop} {S I l : Addr} {items : Array Value} {ns : List Int} (hh : A.in1.handled = none) (hli : l ≠ I) (hSI : S ≠ I) (hSl : S ≠ l) (hi : IntsAre items.toList ns) (hr : ∀ n ∈ ns, 0 ≤ n ∧ n < 32) (h4 : ns.length ≤ 4) :
    ∀ (k i : Nat) (s : Shared) (ks : List Int), items.size - i = k → i ≤ items.size → s.heap.IsListIter I l i → s.heap.IsList l items → SetX w s.heap S ks → ks.length ≤ i → (∀ n, n ∈ ks ↔ n ∈ ns.take i) → ks.Nodup →
      (∀ h' tk ks', (∀ b o, b ≠ S → b ≠ I → s.heap.get? b = some o → h'.get? b = some o) → SetX w h' S ks' → (∀ n, n ∈ ks' ↔ n ∈ ns) → ks'.Nodup → R (.ok (.ret .none)) { s with heap := h', toks := tk }) →
      codeAny (model prog w) A (.builtin "set.update.loop" ⟨[.ref S, .ref I], []⟩) R s := by
  have hlen : items.size = ns.length := by rw [← Array.length_toList]; exact hi.length
  have W := Walks.list (prog := prog) (w := w) hh I l hli items
  intro k
  induction k with
  | zero =>
    intro i s ks hk hile st hl S1 hkl hm nd hR
    obtain rfl : i = items.size := by omega
    refine codeAny_builtin PyProof.Rows.F.entry_set_update_loop ?_
    rw [Around.under_plainId PyProof.Rows.F.plain_set_update_loop _]
    refine wpAny_bind (m := pyNext (.ref I)) (W.done s _ _ ⟨st, hl⟩ fun h' tk kp => ?_)
    refine wpAny_pure (hR h' tk ks (fun b o _ hb e => kp b o (by simpa using hb) e) (S1.at fun o e => kp S o (by simpa using hSI) e) (fun n => ?_) nd)
    rw [hm n, hlen, List.take_length]
  | succ k ih =>
    intro i s ks hk hile st hl S1 hkl hm nd hR
    have hlt : i < items.size := by omega
    refine codeAny_builtin PyProof.Rows.F.entry_set_update_loop ?_
    rw [Around.under_plainId PyProof.Rows.F.plain_set_update_loop _]
    refine wpAny_bind (m := pyNext (.ref I)) (W.item i s _ _ hlt ⟨st, hl⟩ fun v h' tk hv st' kp => ?_)
    obtain ⟨t, rfl⟩ := PyProof.Rows.IntsAre.int_at hi i v (by rw [Array.getElem?_toList]; exact hv)
    have hmem : ns.getD i 0 ∈ ns := by rw [List.getD_eq_getElem?_getD, List.getElem?_eq_getElem (by omega)]; exact List.getElem_mem _
    have S2 : SetX w h' S ks := S1.at fun o e => kp S o (by simpa using hSI) e
    obtain ⟨r0, r1⟩ := hr _ hmem
    refine wpAny_bind (m := holding _ _) (wpAny_holding (setx_add (s := { s with heap := h', toks := tk }) S2 r0 r1 (by omega) (fun _ => by omega) fun h2 b sb S3 => ?_))
    refine wpAny_pure ⟨plainId_quiet PyProof.Rows.F.plain_set_update_loop _, ih (i + 1) _ _ (by omega) hlt ?_ ?_ S3 ?_ ?_ ?_ fun h3 tk3 ks3 kp3 S4 m4 n4 => ?_⟩
    · exact st'.1.extBut sb.extBut (Ne.symm hSI)
    · exact st'.2.extBut sb.extBut (Ne.symm hSl)
    · split
      · omega
      · rw [List.length_cons]; omega
    · intro n
      have htake : ns.take (i + 1) = ns.take i ++ [ns.getD i 0] := by
        rw [List.take_add_one, List.getElem?_eq_getElem (by omega), List.getD_eq_getElem?_getD, List.getElem?_eq_getElem (by omega)]
        rfl
      rw [htake, List.mem_append, List.mem_singleton, ← hm n]
      split
      · rename_i hin
        constructor
        · exact .inl
        · rintro (z | rfl)
          · exact z
          · exact hin
      · rw [List.mem_cons, or_comm]
    · split
      · exact nd
      · rename_i hin; exact List.nodup_cons.mpr ⟨hin, nd⟩
    · refine hR h3 tk3 ks3 (fun b o hb1 hb2 e => kp3 b o hb1 hb2 (sb.extBut b o hb1 (kp b o (by simpa using hb2) e))) S4 m4 n4
theorem setx_new (a : Value) {Q₁ : Value → Shared → Prop} (h : Q₁ (.ref s.heap.objs.size) { s with heap := s.heap.push { cls := .type "set", dict := none, data := .set #[] 0 (.fresh 0 0 (!w.params.followText "set-order")) } }) :
    codeAny (model prog w) A (.call (.builtin "set.__new__") ⟨[.type "set", a], []⟩) (wants Q₁ E) s := by
  refine codeAny_of_tree (wpAny_bind (m := checkBuiltinCall "set.__new__" ⟨[.type "set", a], []⟩) (wpAny_of_eq (PySem.F.newCall_set_1 a) (wpAny_pure ⟨plainId_quiet PySem.F.plain_set_new _, codeAny_builtin PySem.F.entry_set_new ?_⟩)))
  rw [Around.under_plainId PySem.F.plain_set_new _]; unfold Builtin.«set.__new__» Builtin.Frozenset.newClass; have hsub := sub_set_self
  obtain ⟨hp, g, d, tk, os⟩ := s; dsimp only; wp_walk
  refine wpAny_askSetting (wpAny_pure ?_); dsimp only; simp only [newObj]
  exact wpAny_bind (wpAny_alloc (wpAny_pure (wpAny_pure h)))
theorem a53 {h : Heap} {a : Addr} (e : h.get? a = some { cls := .type "set", dict := none, data := .set #[] 0 (.fresh 0 0 (!w.params.followText "set-order")) }) : SetX w h a [] :=
  ⟨_, #[], 0, _, [], e, ⟨rfl, rfl, rfl⟩, rfl, .nil, .refl _, ⟨rfl, rfl, rfl, rfl, .nil, fun j hj => by cases hj⟩, rfl⟩
set_option maxHeartbeats 4000000 in
theorem call_setx {l : Addr} {items : Array Value} {ns : List Int} {Q : Value → Shared → Prop} (hh : A.handled = none) (hl : s.heap.IsList l items) (hi : IntsAre items.toList ns) (hr : ∀ n ∈ ns, 0 ≤ n ∧ n < 32) (h4 : ns.length ≤ 4)
    (h : ∀ (h' : Heap) (tk : Nat) (ks : List Int), SetX w h' s.heap.objs.size ks → (∀ n, n ∈ ks ↔ n ∈ ns) → ks.Nodup → (∀ b o, s.heap.get? b = some o → h'.get? b = some o) → Q (.ref s.heap.objs.size) { s with heap := h', toks := tk }) :
    wpAny (model prog w) A (call (.type "set") [.ref l]) Q E s := by
  obtain ⟨c, tl, hmro⟩ := PySem.F.called_set.mro; have hmade := PySem.F.called_set.made; have hsub := PySem.F.called_set.sub
  refine wpAny_call (codeAny_of_tree ?_); show wpAny _ _ (callAny (.type "set") _) _ _ _
  refine wpAny_pure ⟨Code.quiet_builtin _ (by decide +kernel), codeAny_builtin PySem.F.entry_type_call ?_⟩
  rw [Around.under_plain (weight_type_call_type "set" [.ref l] []) rfl]
  have h1 := PySem.F.called_set.notType; have h2 := PySem.F.called_set.canCreate; have hct := PySem.F.typeCall_set_1 (.ref l)
  repeat (any_goals (first | assumption | wp_step))
  generalize hO : ({ cls := .type "set", dict := none, data := .set #[] 0 (.fresh 0 0 (!w.params.followText "set-order")) } : Obj) = O0
  refine codeAny_mono (setx_new (.ref l) (E := E) (Q₁ := fun obj s₁ => obj = .ref s.heap.objs.size ∧ s₁ = { s with heap := s.heap.push O0 }) (by rw [hO]; exact ⟨rfl, rfl⟩)) fun r s₁ hr1 => ?_
  cases r with
  | error e => exact hr1
  | ok fl => cases fl with
    | ret obj =>
      obtain ⟨rfl, rfl⟩ := hr1
      have hS : (s.heap.push O0).get? s.heap.objs.size = some O0 := Heap.get?_push_size _ (by rw [← hO]; rfl)
      have hT : Shared.TypeIs { s with heap := s.heap.push O0 } (.ref s.heap.objs.size) "set" := ⟨_, hS, by rw [← hO]⟩
      have hli := PySem.F.called_set.init.lookup; have hbi := PySem.F.called_set.init.bind (.ref s.heap.objs.size)
      repeat (any_goals (first | assumption | wp_step))
      refine codeAny_mono (codeAny_call_builtin (R := wants (fun r s₂ => r = .none ∧ ∃ h' tk ks, s₂ = { s with heap := h', toks := tk } ∧ SetX w h' s.heap.objs.size ks ∧ (∀ n, n ∈ ks ↔ n ∈ ns) ∧ ks.Nodup ∧ ∀ b o, s.heap.get? b = some o → h'.get? b = some o) E) PySem.F.called_set.init.plain PySem.F.entry_set_init (check_set_init_1 hT ?_)) fun r₂ s₂ hr₂ => ?_
      · obtain ⟨⟨oc, od, odt, osl⟩, hol, hcl, nl, hdl⟩ := hl
        replace hcl : oc = .type "list" := hcl
        replace hdl : odt = .seq items nl := hdl
        subst hcl hdl
        have hol' : (s.heap.push O0).get? l = some _ := Heap.get?_push_of_some _ hol
        have hsls := PySem.F.sub_list_set; have hslf := PySem.F.sub_list_frozenset; have hne : (Value.type "list" == Value.type "dict") = false := by decide
        have hl1 : (s.heap.push O0).IsList l items := ⟨_, hol', rfl, nl, rfl⟩
        have hlS : l < s.heap.objs.size := Heap.lt_size hol
        have hS0 : (s.heap.push O0).get? s.heap.objs.size = some { cls := .type "set", dict := none, data := .set #[] 0 (.fresh 0 0 (!w.params.followText "set-order")) } := by rw [hO]; exact hS
        unfold Builtin.«set.__init__» noKeywords Builtin.Frozenset.updateFrom; generalize hPI : pyIter = PI; subst hO; wp_walk; subst hPI
        refine wpAny_pyIter_list hl1 (wpAny_bind (wpAny_runValue ?_))
        have n1 : (s.heap.push { cls := .type "set", dict := none, data := .set #[] 0 (.fresh 0 0 (!w.params.followText "set-order")) }).objs.size = s.heap.objs.size + 1 := Heap.size_push ..
        have hit : ((s.heap.push { cls := .type "set", dict := none, data := .set #[] 0 (.fresh 0 0 (!w.params.followText "set-order")) }).push { cls := .type "list_iterator", data := .fields #[.ref l, .int 0 0] }).get? (s.heap.objs.size + 1) = some { cls := .type "list_iterator", data := .fields #[.ref l, .int 0 0] } := by rw [← n1]; exact Heap.get?_push_size _ rfl
        rw [n1]
        refine a6G (I := s.heap.objs.size + 1) (by simp [hh]) (Nat.ne_of_lt (Nat.lt_succ_of_lt hlS)) (Nat.ne_of_lt (Nat.lt_succ_self _)) (Nat.ne_of_gt hlS) hi hr h4 (items.size - 0) 0 _ [] rfl (Nat.zero_le _) ⟨_, hit, rfl, rfl⟩ (hl1.push _) (a53 (Heap.get?_push_of_some _ hS0)) (Nat.le_refl _) (fun n => by simp) .nil fun h' tk ks kp S1 m1 nd => ?_
        refine wpAny_pure (wpAny_pure ⟨rfl, h', tk, ks, rfl, S1, m1, nd, fun b o e => ?_⟩)
        have hb := Heap.lt_size e
        exact kp b o (Nat.ne_of_lt hb) (Nat.ne_of_lt (Nat.lt_succ_of_lt hb)) (Heap.get?_push_of_some _ (Heap.get?_push_of_some _ e))
      · cases r₂ with
        | error e => exact hr₂
        | ok fl₂ => cases fl₂ with
          | ret r =>
            obtain ⟨rfl, h', tk, ks, rfl, S1, m1, nd, kp⟩ := hr₂
            repeat (any_goals (first | assumption | wp_step))
            exact h _ _ ks S1 m1 nd kp
          | _ => exact hr₂.elim
    | _ => exact hr1.elim
end
end L2
namespace L2
open PySem PySem.Spec PyProof.Rows
def SetE (h : Heap) (a : Addr) (es : Array (Int × Value)) (ep : Nat) (t : SetTable) : Prop := ∃ o, h.get? a = some o ∧ o.ExactSet ∧ o.data = .set es ep t
def ordOf (w : World) (a : Addr) (es : Array (Int × Value)) (ep : Nat) : Array (Int × Value) := if w.params.followText "set-order" = true then pickOrder (w.params.setOrder a ep) es else es
def markOf (w : World) (t : SetTable) (i : Nat) : Nat := if w.params.followText "set-order" = true then 0 else if i = 0 then 0 else t.place.getD (i - 1) 0 + 1
abbrev itObj (a : Addr) (slot i n ep : Nat) : Obj := { cls := .type "set_iterator", dict := none, data := .fields #[rawInt slot, rawInt i, .ref a, rawInt n, rawInt ep], slots := #[] }
section
variable {prog : Program} {w : World} {A : Around} {E : Value → Shared → Prop} {s : Shared} {a it : Addr} {es : Array (Int × Value)} {ep : Nat} {t : SetTable}
theorem SetE.state (S : SetE s.heap a es ep t) (hf : t.fits es.size = true) {Q : (Array (Int × Value) × Nat × SetTable) → Shared → Prop} (h : Q (es, ep, t) s) : wpAny (model prog w) A (setState a) Q E s := by
  obtain ⟨o, ho, _, hd⟩ := S
  exact wpAny_setState_of ho hd hf h
end
end L2
namespace L2
open PySem PySem.Spec PyProof.Rows
section
variable {prog : Program} {w : World} {A : Around} {E : Value → Shared → Prop} {s : Shared} {a : Addr} {es : Array (Int × Value)} {ep : Nat} {t : SetTable}
theorem SetE.at {h h' : Heap} (S : SetE h a es ep t) (k : ∀ o, h.get? a = some o → h'.get? a = some o) : SetE h' a es ep t := by
  obtain ⟨o, ho, r⟩ := S
  exact ⟨o, k o ho, r⟩
end
end L2
namespace L2
open PySem PySem.Spec PyProof.Rows
section
variable {X : Cx}
def few (ns : List Int) : Prop := ns.length ≤ 4 ∧ ∀ n ∈ ns, 0 ≤ n ∧ n < 32
def setO (w : World) (a : Addr) (ks : List Int) : HO := .ext fun h => SetX w h a ks
end
end L2
namespace L2
open PySem PySem.Spec PyProof.Rows PySem.W
section
variable {prog : Program} {w : World} {A : Around} {E : Value → Shared → Prop} {s : Shared} {p q : Addr} {xp xq : List Value} {m n : Int} {t u : Tok}
end
section
variable {X : Cx}
end
end L2
namespace L2
open PySem PySem.Spec PyProof.Rows PySem.W
theorem lri_len : typeLookup (.type "list_reverseiterator") "__len__" = pure none := by rw [typeLookup_type, builtinLookup_eq_fast]; kernel_rfl
theorem lri_hint : typeLookup (.type "list_reverseiterator") "__length_hint__" = pure (some (.builtin "list_reverseiterator.__length_hint__")) := by rw [typeLookup_type, builtinLookup_eq_fast]; kernel_rfl
section
variable {prog : Program} {w : World} {A : Around} {E : Value → Shared → Prop} {s : Shared} {it l : Addr}
theorem hint_lri (hT : s.TypeIs (.ref it) "list_reverseiterator") {Q : Bool → Shared → Prop} (h : Q false s) : wpAny (model prog w) A (Builtin.List.listLengthHint (.ref it)) Q E s := by
  unfold Builtin.List.listLengthHint
  refine wpAny_bind (wpAny_specialOf hT lri_len ?_)
  show wpAny _ A (specialOf (Value.ref it) (Str.ofString "__length_hint__") >>= _) _ _ _
  refine wpAny_bind (wpAny_specialOf hT lri_hint ?_)
  generalize hid : ("list_reverseiterator.__length_hint__" : String) = id0
  wp_delta
  rw [show splitId id0 = some ("list_reverseiterator", "__length_hint__") from by subst hid; decide +kernel]
  subst hid
  refine wpAny_bind (wpAny_isInstance (T := "list_reverseiterator") (b := true) hT (by rw [isSubtype_type]; kernel_rfl) (wpAny_ite_split (fun hab => absurd hab (by decide)) (fun _ => wpAny_ite_split (fun _ => ?_) (fun hab => absurd (by decide +kernel) hab))))
  exact wpAny_ite_split (fun hab => absurd hab (by decide +kernel)) (fun _ => wpAny_pure h)
theorem a6H {items acc : Array Value} (h : ItemsOf (fun i v => items[items.size - 1 - i]? = some v) acc items.size) : acc = items.toList.reverse.toArray := by
  apply Array.toList_inj.mp
  refine List.ext_getElem? fun i => ?_
  show acc.toList[i]? = items.toList.reverse[i]?
  rw [Array.getElem?_toList]
  by_cases hi : i < acc.size
  · have h1 := h.2 i acc[i] (Array.getElem?_eq_getElem hi)
    have hi2 : i < items.toList.length := by rw [Array.length_toList, ← h.1]; exact hi
    rw [Array.getElem?_eq_getElem hi, List.getElem?_reverse hi2, Array.getElem?_toList, Array.length_toList]
    exact h1.symm
  · rw [Array.getElem?_eq_none (Nat.le_of_not_lt hi), List.getElem?_eq_none]
    rw [List.length_reverse, Array.length_toList, ← h.1]
    exact Nat.le_of_not_lt hi
theorem a49 {items : Array Value} {Q : Value → Shared → Prop} (hh : A.handled = none) (hit : s.heap.IsRevIter it l ((items.size : Int) - 1)) (hl : s.heap.IsList l items) (hne : l ≠ it) (hn : items.size ≤ sizeLine)
    (h : ∀ (h' : Heap) (tk : Nat) (c : Nat), (∀ b o, b ≠ it → s.heap.get? b = some o → h'.get? b = some o) → h'.get? s.heap.objs.size = some { cls := .type "list", data := .seq items.toList.reverse.toArray c } → Q (.ref s.heap.objs.size) { s with heap := h', toks := tk }) :
    wpAny (model prog w) A (call (.type "list") [.ref it]) Q E s := by
  have lit : it ≠ s.heap.objs.size := by obtain ⟨o, ho, _⟩ := hit; exact Nat.ne_of_lt (Heap.lt_size ho)
  have ll : l ≠ s.heap.objs.size := Nat.ne_of_lt (by obtain ⟨o, ho, _⟩ := hl; exact Heap.lt_size ho)
  have Wk := (Walks.listRev (prog := prog) (w := w) (A := A.in1.in1) hh it l hne items).toS
  have hSf : s.heap.objs.size ∉ [it, l] := fun z => by
    rcases List.mem_cons.mp z with z | z
    · exact lit z.symm
    · exact ll (List.mem_singleton.mp z).symm
  refine callType_codes (Q₁ := fun ob s1 => ob = .ref s.heap.objs.size ∧ s1 = { s with heap := s.heap.push { cls := .type "list", data := .seq #[] } }) PySem.F.called_list (PySem.F.typeCall_list_1 _) PySem.F.entry_list_init (code_list_new _ ⟨rfl, rfl⟩) fun ob s1 h1 => ?_
  obtain ⟨rfl, rfl⟩ := h1
  have hS0 : (s.heap.push { cls := .type "list", data := .seq #[] }).get? s.heap.objs.size = some { cls := .type "list", data := .seq #[] } := Heap.get?_push_size _ rfl
  refine ⟨⟨_, hS0, rfl⟩, PySem.F.args_list_init_2 _ _, ?_⟩
  have kp : ∀ b o, s.heap.get? b = some o → (s.heap.push { cls := .type "list", data := .seq #[] }).get? b = some o := fun b o e => Heap.get?_push_of_some _ e
  generalize s.heap.push { cls := .type "list", data := .seq #[] } = g at hS0 kp
  have loop : ∀ (h1 : Heap) (c1 : Nat), (∀ b o, b ≠ s.heap.objs.size → g.get? b = some o → h1.get? b = some o) → h1.get? s.heap.objs.size = some { cls := .type "list", data := .seq #[] c1 } →
      codeAny (model prog w) A.in1 (.builtin "list.extend.loop" ⟨[.ref s.heap.objs.size, .ref it, .none], []⟩) (fun r s' => r = .ok (.ret .none) ∧ Q (.ref s.heap.objs.size) s') { s with heap := h1 } := fun h1 c1 k1 e1 => by
    have st : 0 ≤ items.size ∧ h1.IsRevIter it l ((items.size : Int) - 1 - ((0 : Nat) : Int)) ∧ h1.IsList l items := ⟨Nat.zero_le _, by
      rw [show (items.size : Int) - 1 - ((0 : Nat) : Int) = (items.size : Int) - 1 by omega]
      exact hit.at fun o e => k1 _ _ lit (kp _ _ e), hl.at fun o e => k1 _ _ ll (kp _ _ e)⟩
    refine codeAny_extend_loopS Wk hn _ hSf .none items.size 0 { s with heap := h1 } #[] c1 rfl (Nat.zero_le _) st e1 (ItemsOf.nil _) fun s' acc c hm hS hacc => ?_
    rw [Moved.eq_with hm]
    refine ⟨rfl, h s'.heap s'.toks c (fun b o hb e => hm.heap b o (fun z => ?_) (k1 b o (Nat.ne_of_lt (Heap.lt_size e)) (kp b o e))) ?_⟩
    · rcases List.mem_cons.mp z with z | z
      · exact Nat.ne_of_lt (Heap.lt_size e) z
      · exact hb (List.mem_singleton.mp z)
    · rw [hS, a6H hacc]
  show wpAny _ _ (do let old ← Builtin.List.listItems (.ref s.heap.objs.size); Builtin.List.listUpdate (.ref s.heap.objs.size) (fun _ => #[]); letGo old.toList.reverse; Builtin.List.listExtendWith (.ref s.heap.objs.size) (.ref it) .none) _ _ _
  refine wpAny_bind (listItems_at hS0 rfl (wpAny_bind (listUpdate_at hS0 rfl ?_ (Nat.zero_le _) (Nat.zero_le _))))
  have hS1 := Heap.get?_update_self (Obj.mapSeq (fun _ => (#[] : Array Value))) hS0 rfl
  have o1 : ∀ b o, b ≠ s.heap.objs.size → g.get? b = some o → (g.update s.heap.objs.size (Obj.mapSeq (fun _ => (#[] : Array Value)))).get? b = some o := fun b o hb e => (Heap.get?_update_other _ _ (Ne.symm hb)).trans e
  generalize g.update s.heap.objs.size (Obj.mapSeq (fun _ => (#[] : Array Value))) = g1 at hS1 o1
  refine wpAny_bind (wpAny_letGo ?_)
  unfold Builtin.List.listExtendWith
  have hT : Shared.TypeIs { s with heap := g1 } (.ref it) "list_reverseiterator" := (hit.at (h' := g1) fun o e => o1 _ _ lit (kp _ _ e)).typeIs (s := { s with heap := g1 })
  refine wpAny_bind (wpAny_typeOf hT ?_)
  have n1 : Builtin.List.listSameRef (.ref s.heap.objs.size) (.ref it) = false := by simp [Builtin.List.listSameRef, Ne.symm lit]
  have n2 : (Value.type "list_reverseiterator" == Value.type "list") = false := by decide
  have n3 : (Value.type "list_reverseiterator" == Value.type "tuple") = false := by decide
  simp only [n1, n2, n3, Bool.or_false, Bool.false_eq_true, if_false]
  refine wpAny_bind (wpAny_pyIter_revIter (s := { s with heap := g1 }) (hit.at (h' := g1) fun o e => o1 _ _ lit (kp _ _ e)) (wpAny_bind (wpAny_holding (hint_lri hT ?_))))
  refine wpAny_ite_split (fun z => absurd z (by decide)) (fun _ => wpAny_pure ⟨plainId_quiet PySem.F.plain_extend_loop _, ?_⟩)
  exact codeAny_mono (loop g1 _ o1 hS1) fun r s' ⟨er, q⟩ => by subst er; exact ⟨rfl, q⟩
end
def revO (it l : Addr) (n : Nat) : HO := .ext fun h => h.IsRevIter it l ((n : Int) - 1)
section
variable {X : Cx} {pins : List (Addr × Obj)} {σ : St} {s : Shared}
theorem revO_ok {P : Program} {w : World} {H : Hp} {h : Heap} {a l : Addr} {n : Nat} (S : h.IsRevIter a l ((n : Int) - 1)) : ObjOk P w H h a (revO a l n) := by
  refine ⟨S, ?_, fun h1 h2 S1 k => S1.at k⟩
  obtain ⟨o, e, _⟩ := S
  exact ⟨o, e⟩
theorem Inv.drop {H0 : Hp} {it : Addr} {φ : Heap → Prop} (I : Inv X pins σ (upd H0 it (.ext φ)) s) (hn : H0 it = none) : Inv X pins σ H0 s := by
  have ne : ∀ b u, H0 b = some u → b ≠ it := fun b u e z => by rw [z, hn] at e; cases e
  have ne2 : ∀ b u, upd H0 it (.ext φ) b = some u → (∀ ψ, u ≠ .ext ψ) → H0 b = some u := fun b u e hu => by
    by_cases z : b = it
    · subst z; rw [upd_same] at e; cases e; exact absurd rfl (hu φ)
    · rwa [upd_ne z] at e
  refine I.un (h' := s.heap) (t' := s.toks) ⟨fun b o q _ _ _ => q, fun b o q _ _ _ => ⟨o.slots, q⟩, fun b o q n _ => ?_, fun b o q _ => ⟨o, q⟩, fun b xs q => ne2 b _ q (fun ψ z => nomatch z), fun b o u q => ne2 b _ q (fun ψ z => nomatch z), fun b ps q => ⟨#[], by rw [ne2 b _ q (fun ψ z => nomatch z)]; simp⟩⟩ fun b u e => ?_
  · by_cases z : b = it
    · rw [z]; exact hn
    · rwa [upd_ne z] at n
  · have q := I.hok b u (by rw [upd_ne (ne b u e)]; exact e)
    exact q.stay (fun c v _ r => r) (fun c r => ne2 c _ r (fun ψ z => nomatch z)) fun c xs r => ne2 c _ r (fun ψ z => nomatch z)
theorem a7h : CallR X (.type "reversed") (fun xs H Q => ∃ (p : Addr) (vs : List V), xs = [.ref p] ∧ SqL X.K H p vs ∧ ∀ a : Addr, H a = none → X.s₀.heap.objs.size ≤ a → Q (.ref a) (upd H a (revO a p vs.length))) := fun pins s σ H xs us Q I rs ⟨p, vs, ex, sq, q⟩ => by
  subst ex
  obtain ⟨u, rfl, r2⟩ := vals1 rs
  obtain rfl : u = Value.ref p := r2
  obtain ⟨its, rv, pl, hz⟩ := I.list sq
  refine call_reversed_list pl.isList ?_
  have e : ((its.toArray.size : Nat) : Int) - 1 = (vs.length : Int) - 1 := by rw [List.size_toArray, rv.length]
  rw [e]
  have big : X.s₀.heap.objs.size ≤ s.heap.objs.size := by
    obtain ⟨m, ⟨o, es, ep, ho, _⟩, _⟩ := id I.loc
    exact Nat.le_trans I.ok.above (Nat.le_of_lt (Heap.lt_size ho))
  exact ⟨.ref s.heap.objs.size, _, I.laid (o := revO s.heap.objs.size p vs.length) (t' := s.toks) (fun b o q => Heap.get?_push_of_some _ q) (Nat.le_refl _) (revO_ok ⟨_, Heap.get?_push_size _ rfl, rfl, rfl⟩), rfl, q _ (I.hok.fresh (Nat.le_refl _)) big⟩
theorem a7i (hc : X.calm = true) : CallR X (.type "list") (fun xs H Q => ∃ (it p : Addr) (vs : List V) (H0 : Hp), xs = [.ref it] ∧ H0 it = none ∧ X.s₀.heap.objs.size ≤ it ∧ H = upd H0 it (revO it p vs.length) ∧ SqL X.K H0 p vs ∧ ∀ l : Addr, H0 l = none → Q (.ref l) (upd H0 l (.lst vs.reverse))) := fun pins s σ H xs us Q I rs ⟨it, p, vs, H0, ex, hn, big, eH, sq, q⟩ => by
  subst ex eH
  obtain ⟨u, rfl, r2⟩ := vals1 rs
  obtain rfl : u = Value.ref it := r2
  obtain ⟨its, rv, pl, hz⟩ := I.list (Same.seq (fun b u z => by rw [upd_ne (ne_of_none z hn)]; exact z) sq)
  obtain ⟨S, _, _⟩ : s.heap.IsRevIter it p ((vs.length : Int) - 1) ∧ _ := I.hok it _ upd_same
  have e : ((its.toArray.size : Nat) : Int) - 1 = (vs.length : Int) - 1 := by rw [List.size_toArray, rv.length]
  have hpi : p ≠ it := fun z => by
    subst z
    obtain ⟨o, e1, c1, _⟩ := S
    obtain ⟨o2, e2, c2, _⟩ := pl.isList
    rw [e1] at e2; cases e2; rw [c1] at c2; injection c2 with c2; exact absurd c2 (by decide)
  have I0 := I.drop hn
  have fl : ∀ b, H0 b = none → upd H0 it (revO it p vs.length) b = none ∨ b = it := fun b h => by
    by_cases z : b = it
    · exact .inr z
    · exact .inl (by rw [upd_ne z]; exact h)
  have nit : ∀ b, upd H0 it (revO it p vs.length) b = none → b ≠ it := fun b h z => by subst z; rw [upd_same] at h; cases h
  refine a49 (I.ok.hd hc) (by rw [e]; exact S) pl.isList hpi (by rw [List.size_toArray, ← rv.length]; exact hz) fun h' tk c kp hS => ?_
  have hf : H0 s.heap.objs.size = none := I0.hok.fresh (Nat.le_refl _)
  have I1 := I0.laid (a := s.heap.objs.size) (o := .lst vs.reverse) (t' := s.toks) (h' := s.heap.push { cls := .type "list", data := .seq its.reverse.toArray c }) (fun b o q => Heap.get?_push_of_some _ q) (Nat.le_refl _)
    ⟨by rw [List.length_reverse]; exact hz, its.reverse, c, rv.reverse, Heap.get?_push_size _ rfl⟩
  have lt : it ≠ s.heap.objs.size := by obtain ⟨o, ho, _⟩ := S; exact Nat.ne_of_lt (Heap.lt_size ho)
  have I2 := I1.turned (t' := tk) (it := it) (h' := h') (fun b o hb q => by
      by_cases z : b = s.heap.objs.size
      · subst z; rw [Heap.get?_push_size _ rfl] at q; cases q; exact hS
      · exact kp b o hb (by rwa [Heap.get?_push_ne _ _ _ z] at q)) (by rw [upd_ne lt]; exact hn) (fun z => nit _ I.free z.symm) (.inr big) (fun x c hx => nit _ (I.freeC x c hx)) fun p hp => nit _ (I.pin p hp).2.1
  exact ⟨.ref s.heap.objs.size, _, I2, rfl, q _ hf⟩
end
end L2
namespace L3
open PySem PySem.Spec PyProof.Rows L2
structure Ct where
  K : PySem.W.Frag
  cls : String → Addr
mutual
def Rep (Γ : Ct) (H : Hp) : D → V → Prop
  | .non, v => v = .non
  | .bl b, v => v = .bl b
  | .int i, v => v = .int i
  | .str x, v => v = .str x
  | .tup ds, v => ∃ a xs, v = .ref a ∧ SqT Γ.K H a xs ∧ RepL Γ H ds xs
  | .lst ds, v => ∃ a xs, v = .ref a ∧ SqL Γ.K H a xs ∧ RepL Γ H ds xs
  | .obj c ns ds, v => ∃ a dx xs, v = .ref a ∧ H a = some (.ins (Γ.cls c) dx (ns.zip xs)) ∧ RepL Γ H ds xs
def RepL (Γ : Ct) (H : Hp) : List D → List V → Prop
  | [], xs => xs = []
  | d :: ds, xs => ∃ x r, xs = x :: r ∧ Rep Γ H d x ∧ RepL Γ H ds r
end
theorem a0S {K : PySem.W.Frag} {H H' : Hp} {a : Addr} {xs : List V} (e : Same H H') (h : SqT K H a xs) : SqT K H' a xs := by
  rcases h with (h | ⟨o, h⟩) | h
  · exact .inl (.inl (e _ _ h))
  · exact .inl (.inr ⟨o, e _ _ h⟩)
  · exact .inr h
mutual
theorem Rep.mono {Γ : Ct} {H H' : Hp} (e : Same H H') : ∀ {d : D} {v : V}, Rep Γ H d v → Rep Γ H' d v
  | .non, _, r => by unfold Rep at r ⊢; exact r
  | .bl _, _, r => by unfold Rep at r ⊢; exact r
  | .int _, _, r => by unfold Rep at r ⊢; exact r
  | .str _, _, r => by unfold Rep at r ⊢; exact r
  | .tup ds, _, r => by
    unfold Rep at r ⊢
    obtain ⟨a, xs, e1, q, r⟩ := r
    exact ⟨a, xs, e1, a0S e q, RepL.mono e r⟩
  | .lst ds, _, r => by
    unfold Rep at r ⊢
    obtain ⟨a, xs, e1, q, r⟩ := r
    exact ⟨a, xs, e1, Same.seq e q, RepL.mono e r⟩
  | .obj c ns ds, _, r => by
    unfold Rep at r ⊢
    obtain ⟨a, dx, xs, e1, q, r⟩ := r
    exact ⟨a, dx, xs, e1, e _ _ q, RepL.mono e r⟩
theorem RepL.mono {Γ : Ct} {H H' : Hp} (e : Same H H') : ∀ {ds : List D} {xs : List V}, RepL Γ H ds xs → RepL Γ H' ds xs
  | [], _, r => by unfold RepL at r ⊢; exact r
  | d :: ds, _, r => by
    unfold RepL at r ⊢
    obtain ⟨x, r', e1, q, r2⟩ := r
    exact ⟨x, r', e1, Rep.mono e q, RepL.mono e r2⟩
end
section
variable {Γ : Ct} {H H' : Hp}
theorem a1Z {v : V} : Rep Γ H .non v ↔ v = .non := by unfold Rep; exact Iff.rfl
theorem a0x {b : Bool} {v : V} : Rep Γ H (.bl b) v ↔ v = .bl b := by unfold Rep; exact Iff.rfl
theorem a0h {i : Int} {v : V} : Rep Γ H (.int i) v ↔ v = .int i := by unfold Rep; exact Iff.rfl
theorem a0N {x : Str} {v : V} : Rep Γ H (.str x) v ↔ v = .str x := by unfold Rep; exact Iff.rfl
theorem a0G {ds : List D} {v : V} : Rep Γ H (.tup ds) v ↔ ∃ a xs, v = .ref a ∧ SqT Γ.K H a xs ∧ RepL Γ H ds xs := by
  constructor
  · intro h; unfold Rep at h; exact h
  · intro h; unfold Rep; exact h
theorem a0J {ds : List D} {v : V} : Rep Γ H (.lst ds) v ↔ ∃ a xs, v = .ref a ∧ SqL Γ.K H a xs ∧ RepL Γ H ds xs := by
  constructor
  · intro h; unfold Rep at h; exact h
  · intro h; unfold Rep; exact h
theorem a5n {c : String} {ns : List Str} {ds : List D} {v : V} : Rep Γ H (.obj c ns ds) v ↔ ∃ a dx xs, v = .ref a ∧ H a = some (.ins (Γ.cls c) dx (ns.zip xs)) ∧ RepL Γ H ds xs := by
  constructor
  · intro h; unfold Rep at h; exact h
  · intro h; unfold Rep; exact h
theorem a03 {xs : List V} : RepL Γ H [] xs ↔ xs = [] := by unfold RepL; exact Iff.rfl
theorem a0q {d : D} {ds : List D} {xs : List V} : RepL Γ H (d :: ds) xs ↔ ∃ x r, xs = x :: r ∧ Rep Γ H d x ∧ RepL Γ H ds r := by
  constructor
  · intro h; unfold RepL at h; exact h
  · intro h; unfold RepL; exact h
theorem RepL.nil : RepL Γ H [] [] := a03.mpr rfl
theorem RepL.cons {d : D} {ds : List D} {x : V} {xs : List V} (h : Rep Γ H d x) (t : RepL Γ H ds xs) : RepL Γ H (d :: ds) (x :: xs) := a0q.mpr ⟨x, xs, rfl, h, t⟩
theorem RepL.length : ∀ {ds : List D} {xs : List V}, RepL Γ H ds xs → ds.length = xs.length
  | [], xs, h => by rw [a03.mp h]; rfl
  | d :: ds, xs, h => by
    obtain ⟨x, r, e, _, t⟩ := a0q.mp h
    rw [e, List.length_cons, List.length_cons, RepL.length t]
theorem RepL.append : ∀ {ds es : List D} {xs ys : List V}, RepL Γ H ds xs → RepL Γ H es ys → RepL Γ H (ds ++ es) (xs ++ ys)
  | [], es, xs, ys, h, h' => by rw [a03.mp h]; exact h'
  | d :: ds, es, xs, ys, h, h' => by
    obtain ⟨x, r, e, q, t⟩ := a0q.mp h
    rw [e]
    exact .cons q (RepL.append t h')
theorem RepL.get : ∀ {ds : List D} {xs : List V} {i : Nat} {d : D}, RepL Γ H ds xs → ds[i]? = some d → ∃ x, xs[i]? = some x ∧ Rep Γ H d x
  | [], xs, i, d, h, e => by simp at e
  | d :: ds, xs, 0, d', h, e => by
    obtain ⟨x, r, e1, q, t⟩ := a0q.mp h
    simp at e
    subst e e1
    exact ⟨x, rfl, q⟩
  | d :: ds, xs, i + 1, d', h, e => by
    obtain ⟨x, r, e1, q, t⟩ := a0q.mp h
    obtain ⟨y, e2, q2⟩ := RepL.get (i := i) t (by simpa using e)
    subst e1
    exact ⟨y, by simpa using e2, q2⟩
theorem RepL.take : ∀ {ds : List D} {xs : List V} (n : Nat), RepL Γ H ds xs → RepL Γ H (ds.take n) (xs.take n)
  | _, _, 0, _ => .nil
  | [], xs, n + 1, h => by rw [a03.mp h]; exact .nil
  | d :: ds, xs, n + 1, h => by
    obtain ⟨x, r, e, q, t⟩ := a0q.mp h
    subst e
    exact .cons q (RepL.take n t)
theorem RepL.drop : ∀ {ds : List D} {xs : List V} (n : Nat), RepL Γ H ds xs → RepL Γ H (ds.drop n) (xs.drop n)
  | _, _, 0, h => h
  | [], xs, n + 1, h => by rw [a03.mp h]; exact .nil
  | d :: ds, xs, n + 1, h => by
    obtain ⟨x, r, e, q, t⟩ := a0q.mp h
    subst e
    exact RepL.drop n t
theorem RepL.rep {ds : List D} {xs : List V} (h : RepL Γ H ds xs) : ∀ k : Nat, RepL Γ H (List.replicate k ds).flatten (List.replicate k xs).flatten
  | 0 => .nil
  | k + 1 => by
    rw [List.replicate_succ, List.replicate_succ, List.flatten_cons, List.flatten_cons]
    exact h.append (RepL.rep h k)
theorem RepL.set {d : D} {x : V} (q : Rep Γ H d x) : ∀ {ds : List D} {xs : List V} (i : Nat), RepL Γ H ds xs → RepL Γ H (ds.set i d) (xs.set i x)
  | [], xs, i, h => by rw [a03.mp h]; exact .nil
  | e :: ds, xs, 0, h => by
    obtain ⟨y, r, e1, _, t⟩ := a0q.mp h
    subst e1
    exact .cons q t
  | e :: ds, xs, i + 1, h => by
    obtain ⟨y, r, e1, q1, t⟩ := a0q.mp h
    subst e1
    exact .cons q1 (RepL.set q i t)
theorem RepL.ints : ∀ (ns : List Int), RepL Γ H (ns.map D.int) (ns.map V.int)
  | [] => .nil
  | n :: ns => .cons (a0h.mpr rfl) (RepL.ints ns)
theorem RepL.intsOf : ∀ {ds : List D} {xs : List V} {ns : List Int}, RepL Γ H ds xs → intsOf ds = some ns → xs = ns.map V.int
  | [], xs, ns, h, e => by
    cases e
    exact a03.mp h
  | .int i :: ds, xs, ns, h, e => by
    obtain ⟨x, r, e1, q, t⟩ := a0q.mp h
    unfold L3.intsOf at e
    cases e2 : L3.intsOf ds with
    | none => rw [e2] at e; cases e
    | some ms =>
      rw [e2] at e
      cases e
      rw [e1, a0h.mp q, RepL.intsOf t e2, List.map_cons]
  | .non :: ds, xs, ns, h, e => by cases e
  | .bl _ :: ds, xs, ns, h, e => by cases e
  | .str _ :: ds, xs, ns, h, e => by cases e
  | .tup _ :: ds, xs, ns, h, e => by cases e
  | .lst _ :: ds, xs, ns, h, e => by cases e
  | .obj _ _ _ :: ds, xs, ns, h, e => by cases e
theorem RepL.blsOf : ∀ {ds : List D} {xs : List V} {ns : List Bool}, RepL Γ H ds xs → blsOf ds = some ns → xs = ns.map V.bl
  | [], xs, ns, h, e => by
    cases e
    exact a03.mp h
  | .bl i :: ds, xs, ns, h, e => by
    obtain ⟨x, r, e1, q, t⟩ := a0q.mp h
    unfold L3.blsOf at e
    cases e2 : L3.blsOf ds with
    | none => rw [e2] at e; cases e
    | some ms =>
      rw [e2] at e
      cases e
      rw [e1, a0x.mp q, RepL.blsOf t e2, List.map_cons]
  | .non :: ds, xs, ns, h, e => by cases e
  | .int _ :: ds, xs, ns, h, e => by cases e
  | .str _ :: ds, xs, ns, h, e => by cases e
  | .tup _ :: ds, xs, ns, h, e => by cases e
  | .lst _ :: ds, xs, ns, h, e => by cases e
  | .obj _ _ _ :: ds, xs, ns, h, e => by cases e
theorem rep_flat {d : D} {v : V} (h : Rep Γ H d v) (f : flat d = true) : Rep Γ H' d v := by
  cases d with
  | non => exact a1Z.mpr (a1Z.mp h)
  | bl _ => exact a0x.mpr (a0x.mp h)
  | int _ => exact a0h.mpr (a0h.mp h)
  | str _ => exact a0N.mpr (a0N.mp h)
  | tup _ => cases f
  | lst _ => cases f
  | obj _ _ _ => cases f
end
def RepO (Γ : Ct) (Hs : Hp) : O → HO → Prop
  | .lst ds, ho => ∃ xs, ho = .lst xs ∧ RepL Γ Hs ds xs
  | .obj c ns ds, ho => ∃ dx xs, ho = .ins (Γ.cls c) dx (ns.zip xs) ∧ RepL Γ Hs ds xs
  | .dic _, _ => False
def kvT (kvs : List (List Int × Int)) : List (List Key × V) := kvs.map fun p => (p.1.map Sum.inl, V.int p.2)
def RepW (Γ : Ct) (Hs : Hp) : O → HO → Prop
  | .lst ds, ho => ∃ xs, ho = .lst xs ∧ RepL Γ Hs ds xs
  | .obj c ns ds, ho => ∃ dx xs, ho = .ins (Γ.cls c) dx (ns.zip xs) ∧ RepL Γ Hs ds xs
  | .dic kvs, ho => ho = .dT (kvT kvs)
theorem RepO.w {Γ : Ct} {H : Hp} {o : O} {ho : HO} (h : RepO Γ H o ho) : RepW Γ H o ho := by
  cases o with
  | lst ds => exact h
  | obj c ns ds => exact h
  | dic _ => exact h.elim
theorem RepW.o {Γ : Ct} {H : Hp} {o : O} {ho : HO} (h : RepW Γ H o ho) (n : ∀ kvs, o ≠ .dic kvs) : RepO Γ H o ho := by
  cases o with
  | lst ds => exact h
  | obj c ns ds => exact h
  | dic kvs => exact (n kvs rfl).elim
theorem RepW.mono {Γ : Ct} {H H' : Hp} (e : Same H H') {o : O} {ho : HO} (h : RepW Γ H o ho) : RepW Γ H' o ho := by
  cases o with
  | lst ds => obtain ⟨xs, e1, r⟩ := h; exact ⟨xs, e1, r.mono e⟩
  | obj c ns ds => obtain ⟨dx, xs, e1, r⟩ := h; exact ⟨dx, xs, e1, r.mono e⟩
  | dic _ => exact h
theorem RepO.mono {Γ : Ct} {H H' : Hp} (e : Same H H') {o : O} {ho : HO} (h : RepO Γ H o ho) : RepO Γ H' o ho := by
  cases o with
  | dic _ => exact h.elim
  | lst ds => obtain ⟨xs, e1, r⟩ := h; exact ⟨xs, e1, r.mono e⟩
  | obj c ns ds => obtain ⟨dx, xs, e1, r⟩ := h; exact ⟨dx, xs, e1, r.mono e⟩
theorem RepO.val {Γ : Ct} {H : Hp} {o : O} {ho : HO} {a : Addr} (h : RepO Γ H o ho) (e : H a = some ho) : Rep Γ H o.val (.ref a) := by
  cases o with
  | dic _ => exact h.elim
  | lst ds => obtain ⟨xs, e1, r⟩ := h; subst e1; exact a0J.mpr ⟨a, xs, rfl, .of e, r⟩
  | obj c ns ds => obtain ⟨dx, xs, e1, r⟩ := h; subst e1; exact a5n.mpr ⟨a, dx, xs, rfl, e, r⟩
structure Grow (Hs H Hs' H' : Hp) : Prop where
  s : Same Hs Hs'
  h : Same H H'
  i : Same Hs' H'
  n : ∀ b o, Hs' b = some o → Hs b = some o ∨ H b = none
theorem Grow.refl {Hs H : Hp} (e : Same Hs H) : Grow Hs H Hs H := ⟨.refl _, .refl _, e, fun _ _ q => .inl q⟩
theorem Grow.trans {Hs H Hs1 H1 Hs2 H2 : Hp} (a : Grow Hs H Hs1 H1) (b : Grow Hs1 H1 Hs2 H2) : Grow Hs H Hs2 H2 :=
  ⟨a.s.trans b.s, a.h.trans b.h, b.i, fun c o q => (b.n c o q).elim (fun z => a.n c o z) fun z => .inr (a.h.free z)⟩
theorem Grow.only {Hs H H' : Hp} (e : Same Hs H) (k : Same H H') : Grow Hs H Hs H' := ⟨.refl _, k, e.trans k, fun _ _ q => .inl q⟩
theorem a1r {H : Hp} {p : Addr} {o : HO} (h : H p = none) : Same H (upd H p o) := fun b u e => by rw [upd_ne (ne_of_none e h)]; exact e
theorem Grow.new {Hs H : Hp} {p : Addr} {o : HO} (e : Same Hs H) (h : H p = none) : Grow Hs H (upd Hs p o) (upd H p o) :=
  ⟨a1r (e.free h), a1r h, fun b u q => by
    by_cases hb : b = p
    · subst hb; rw [upd_same] at q ⊢; exact q
    · rw [upd_ne hb] at q ⊢; exact e _ _ q, fun b u q => by
    by_cases hb : b = p
    · subst hb; exact .inr h
    · rw [upd_ne hb] at q; exact .inl q⟩
theorem Grow.newOwn {Hs H : Hp} {p : Addr} {o : HO} (e : Same Hs H) (h : H p = none) : Grow Hs H Hs (upd H p o) := .only e (a1r h)
theorem Grow.share {Hs H Hs' H' : Hp} {a : Addr} {ho : HO} (g : Grow Hs H Hs' H') (h0 : H a = none) (h1 : Hs' a = none) (h2 : H' a = some ho) : Grow Hs H (upd Hs' a ho) H' ∧ Same Hs' (upd Hs' a ho) :=
  ⟨⟨g.s.trans (a1r h1), g.h, fun b u q => by
    by_cases hb : b = a
    · subst hb; rw [upd_same] at q; cases q; exact h2
    · rw [upd_ne hb] at q; exact g.i _ _ q, fun b u q => by
    by_cases hb : b = a
    · subst hb; exact .inr h0
    · rw [upd_ne hb] at q; exact g.n _ _ q⟩, a1r h1⟩
inductive RepN (Γ : Ct) (H Hs' H' : Hp) (o : O) (v : V) : Prop
  | mk (a : Addr) (ho : HO) (ev : v = .ref a) (h0 : H a = none) (h1 : Hs' a = none) (h2 : H' a = some ho) (q : RepO Γ Hs' o ho)
def RepS (Γ : Ct) (H Hs' H' : Hp) : S → V → Prop
  | .sh d, v => Rep Γ Hs' d v
  | .own o, v => RepN Γ H Hs' H' o v
theorem RepS.of {Γ : Ct} {H Hs' H' : Hp} {d : D} {v : V} (h : Rep Γ Hs' d v) : RepS Γ H Hs' H' (.sh d) v := h
theorem RepS.share {Γ : Ct} {Hs H Hs' H' : Hp} {s : S} {v : V} (g : Grow Hs H Hs' H') (r : RepS Γ H Hs' H' s v) : ∃ Hs'', Grow Hs H Hs'' H' ∧ Same Hs' Hs'' ∧ Rep Γ Hs'' s.val v := by
  cases s with
  | sh d => exact ⟨Hs', g, .refl _, r⟩
  | own o =>
    obtain ⟨a, ho, rfl, h0, h1, h2, q⟩ := r
    obtain ⟨g', e⟩ := g.share h0 h1 h2
    exact ⟨_, g', e, (q.mono e).val upd_same⟩
theorem RepS.look {Γ : Ct} {Hs H Hs' H' : Hp} {s : S} {v : V} (g : Grow Hs H Hs' H') (r : RepS Γ H Hs' H' s v) : Rep Γ H' s.val v := by
  cases s with
  | sh d => exact Rep.mono g.i r
  | own o =>
    obtain ⟨a, ho, rfl, h0, h1, h2, q⟩ := r
    exact (q.mono g.i).val h2
theorem RepS.back {Γ : Ct} {H H1 Hs' H' : Hp} {s : S} {v : V} (k : Same H H1) (r : RepS Γ H1 Hs' H' s v) : RepS Γ H Hs' H' s v := by
  cases s with
  | sh d => exact r
  | own o =>
    obtain ⟨a, ho, e, h0, h1, h2, q⟩ := r
    exact ⟨a, ho, e, k.free h0, h1, h2, q⟩
inductive OwnAt (Γ : Ct) (B1 Hs H : Hp) (x : Option (Option V)) (o : O) : Prop
  | mk (a : Addr) (ho : HO) (e1 : x = some (some (.ref a))) (e2 : B1 a = none) (e3 : Hs a = none) (e4 : H a = some ho) (q : RepW Γ Hs o ho)
structure RE (Γ : Ct) (B0 B1 Hs H : Hp) (σ : L2.St) (ρ : MEnv) : Prop where
  b : Grow B0 B1 Hs H
  sh : ∀ (i : Nat) (d : D), ρ[i]? = some (some (.sh d)) → ∃ v, σ[i]? = some (some v) ∧ Rep Γ Hs d v
  own : ∀ (i : Nat) (o : O), ρ[i]? = some (some (.own o)) → OwnAt Γ B1 Hs H σ[i]? o
  apart : ∀ (i j : Nat) (o u : O) (a : Addr), i ≠ j → ρ[i]? = some (some (.own o)) → ρ[j]? = some (some (.own u)) → σ[i]? = some (some (.ref a)) → σ[j]? ≠ some (some (.ref a))
  len : ρ.length = σ.length
section
variable {Γ : Ct} {B0 B1 Hs H Hs' H' : Hp} {σ : L2.St} {ρ : MEnv}
theorem RE.grow (r : RE Γ B0 B1 Hs H σ ρ) (g : Grow Hs H Hs' H') : RE Γ B0 B1 Hs' H' σ ρ where
  b := r.b.trans g
  sh := fun i d e => let ⟨v, e1, q⟩ := r.sh i d e; ⟨v, e1, q.mono g.s⟩
  own := fun i o e => by
    obtain ⟨a, ho, e1, e2, e3, e4, q⟩ := r.own i o e
    refine ⟨a, ho, e1, e2, ?_, g.h _ _ e4, q.mono g.s⟩
    cases z : Hs' a with
    | none => rfl
    | some u =>
      rcases g.n a u z with z' | z'
      · rw [e3] at z'; cases z'
      · rw [e4] at z'; cases z'
  apart := r.apart
  len := r.len
theorem RE.setSh (r : RE Γ B0 B1 Hs H σ ρ) {i : Nat} {d : D} {v : V} (hi : i < σ.length) (q : Rep Γ Hs d v) : RE Γ B0 B1 Hs H (σ.set i (some v)) (ρ.set i (some (.sh d))) where
  b := r.b
  sh := fun j e hj => by
    by_cases h : i = j
    · subst h
      rw [List.getElem?_set_self (by rw [r.len]; exact hi)] at hj
      cases hj
      exact ⟨v, List.getElem?_set_self hi, q⟩
    · rw [List.getElem?_set_ne h] at hj ⊢
      exact r.sh j e hj
  own := fun j o hj => by
    by_cases h : i = j
    · subst h
      rw [List.getElem?_set_self (by rw [r.len]; exact hi)] at hj
      cases hj
    · rw [List.getElem?_set_ne h] at hj ⊢
      exact r.own j o hj
  apart := fun j k o u a hjk hj hk ha => by
    have n1 : i ≠ j := fun z => by subst z; rw [List.getElem?_set_self (by rw [r.len]; exact hi)] at hj; cases hj
    have n2 : i ≠ k := fun z => by subst z; rw [List.getElem?_set_self (by rw [r.len]; exact hi)] at hk; cases hk
    rw [List.getElem?_set_ne n1] at hj ha
    rw [List.getElem?_set_ne n2] at hk ⊢
    exact r.apart j k o u a hjk hj hk ha
  len := by rw [List.length_set, List.length_set, r.len]
theorem RE.setOwn (r : RE Γ B0 B1 Hs H σ ρ) {i : Nat} {o : O} {a : Addr} {ho : HO} (hi : i < σ.length) (b1 : B1 a = none) (h1 : Hs a = none) (h2 : H a = some ho) (q : RepW Γ Hs o ho)
    (new : ∀ (j : Nat) (u : O), j ≠ i → ρ[j]? = some (some (.own u)) → σ[j]? ≠ some (some (.ref a))) : RE Γ B0 B1 Hs H (σ.set i (some (.ref a))) (ρ.set i (some (.own o))) where
  b := r.b
  sh := fun j e hj => by
    by_cases h : i = j
    · subst h
      rw [List.getElem?_set_self (by rw [r.len]; exact hi)] at hj
      cases hj
    · rw [List.getElem?_set_ne h] at hj ⊢
      exact r.sh j e hj
  own := fun j u hj => by
    by_cases h : i = j
    · subst h
      rw [List.getElem?_set_self (by rw [r.len]; exact hi)] at hj
      cases hj
      exact ⟨a, ho, List.getElem?_set_self hi, b1, h1, h2, q⟩
    · rw [List.getElem?_set_ne h] at hj ⊢
      exact r.own j u hj
  apart := fun j k u u' c hjk hj hk ha => by
    by_cases hij : i = j
    · subst hij
      rw [List.getElem?_set_self hi] at ha
      cases ha
      rw [List.getElem?_set_ne hjk] at hk ⊢
      exact new k u' (Ne.symm hjk) hk
    · rw [List.getElem?_set_ne hij] at hj ha
      by_cases hik : i = k
      · subst hik
        rw [List.getElem?_set_self hi]
        intro z
        cases z
        exact new j u (Ne.symm hij) hj ha
      · rw [List.getElem?_set_ne hik] at hk ⊢
        exact r.apart j k u u' c hjk hj hk ha
  len := by rw [List.length_set, List.length_set, r.len]
theorem RE.setS (r : RE Γ B0 B1 Hs H σ ρ) (g : Grow Hs H Hs' H') {i : Nat} {s : S} {v : V} (hi : i < σ.length) (q : RepS Γ H Hs' H' s v) : RE Γ B0 B1 Hs' H' (σ.set i (some v)) (ρ.set i (some s)) := by
  cases s with
  | sh d => exact (r.grow g).setSh hi q
  | own o =>
    obtain ⟨a, ho, rfl, h0, h1, h2, q⟩ := q
    refine (r.grow g).setOwn hi (r.b.h.free h0) h1 h2 q.w fun j u _ hj z => ?_
    obtain ⟨c, hc, e1, _, _, e4, _⟩ := r.own j u hj
    rw [z] at e1
    cases e1
    rw [h0] at e4
    cases e4
theorem RE.write (r : RE Γ B0 B1 Hs H σ ρ) {i : Nat} {o o' : O} {a : Addr} {ho' : HO} (e : ρ[i]? = some (some (.own o))) (ea : σ[i]? = some (some (.ref a))) (q : RepW Γ Hs o' ho') : RE Γ B0 B1 Hs (upd H a ho') σ (ρ.set i (some (.own o'))) := by
  obtain ⟨c, ho, e1, e2, e3, e4, _⟩ := r.own i o e
  rw [ea] at e1
  cases e1
  have hi : i < ρ.length := (List.getElem?_eq_some_iff.mp e).1
  refine ⟨⟨r.b.s, fun b u z => ?_, fun b u z => ?_, r.b.n⟩, fun j d hj => ?_, fun j u hj => ?_, fun j k u u' c hjk hj hk ha => ?_, by rw [List.length_set, r.len]⟩
  · rw [upd_ne (ne_of_none z e2)]; exact r.b.h _ _ z
  · rw [upd_ne (ne_of_none z e3)]; exact r.b.i _ _ z
  · by_cases h : i = j
    · subst h
      rw [List.getElem?_set_self hi] at hj
      cases hj
    · rw [List.getElem?_set_ne h] at hj
      exact r.sh j d hj
  · by_cases h : i = j
    · subst h
      rw [List.getElem?_set_self hi] at hj
      cases hj
      exact ⟨a, ho', ea, e2, e3, upd_same, q⟩
    · rw [List.getElem?_set_ne h] at hj
      obtain ⟨c, hc, f1, f2, f3, f4, f5⟩ := r.own j u hj
      refine ⟨c, hc, f1, f2, f3, ?_, f5⟩
      rw [upd_ne]
      · exact f4
      · intro z
        subst z
        exact r.apart i j o u c h e hj ea f1
  · have old : ∀ (m : Nat) (u : O), (ρ.set i (some (.own o')))[m]? = some (some (.own u)) → ∃ u', ρ[m]? = some (some (.own u')) := fun m u hm => by
      by_cases h : i = m
      · subst h; exact ⟨o, e⟩
      · rw [List.getElem?_set_ne h] at hm; exact ⟨u, hm⟩
    obtain ⟨x, hx⟩ := old j u hj
    obtain ⟨y, hy⟩ := old k u' hk
    exact r.apart j k x y c hjk hx hy ha
theorem RE.dem (r : RE Γ B0 B1 Hs H σ ρ) (i : Nat) : ∃ Hs', Same Hs Hs' ∧ RE Γ B0 B1 Hs' H σ (dem i ρ) := by
  unfold L3.dem
  split
  · exact ⟨Hs, .refl _, r⟩
  · rename_i o hno e
    obtain ⟨a, ho, e1, e2, e3, e4, q⟩ := r.own i o e
    have q := q.o fun kvs z => by subst z; exact hno kvs rfl
    have hi : i < ρ.length := (List.getElem?_eq_some_iff.mp e).1
    have sm : Same Hs (upd Hs a ho) := a1r e3
    have sh' : Same (upd Hs a ho) H := fun b u z => by
      by_cases hb : b = a
      · subst hb; rw [upd_same] at z; cases z; exact e4
      · rw [upd_ne hb] at z; exact r.b.i _ _ z
    refine ⟨upd Hs a ho, sm, ⟨⟨r.b.s.trans sm, r.b.h, sh', fun b u z => ?_⟩, fun j d hj => ?_, fun j u hj => ?_, fun j k u u' c hjk hj hk ha => ?_, by rw [List.length_set, r.len]⟩⟩
    · by_cases hb : b = a
      · subst hb; exact .inr e2
      · rw [upd_ne hb] at z; exact r.b.n _ _ z
    · by_cases h : i = j
      · subst h
        rw [List.getElem?_set_self hi] at hj
        cases hj
        exact ⟨.ref a, e1, (q.mono sm).val upd_same⟩
      · rw [List.getElem?_set_ne h] at hj
        obtain ⟨v, f1, f2⟩ := r.sh j d hj
        exact ⟨v, f1, f2.mono sm⟩
    · by_cases h : i = j
      · subst h
        rw [List.getElem?_set_self hi] at hj
        cases hj
      · rw [List.getElem?_set_ne h] at hj
        obtain ⟨c, hc, f1, f2, f3, f4, f5⟩ := r.own j u hj
        refine ⟨c, hc, f1, f2, ?_, f4, f5.mono sm⟩
        rw [upd_ne]
        · exact f3
        · intro z
          subst z
          exact r.apart i j o u c h e hj e1 f1
    · have n1 : i ≠ j := fun z => by subst z; rw [List.getElem?_set_self hi] at hj; cases hj
      have n2 : i ≠ k := fun z => by subst z; rw [List.getElem?_set_self hi] at hk; cases hk
      rw [List.getElem?_set_ne n1] at hj
      rw [List.getElem?_set_ne n2] at hk
      exact r.apart j k u u' c hjk hj hk ha
  · exact ⟨Hs, .refl _, r⟩
end
end L3
namespace L3
open PySem PySem.Spec PyProof.Rows L2
abbrev XW := D → Hp → Hp → Prop
def RQ (Γ : Ct) (W : XW) (Hs H : Hp) (r : R) (Q : VK) : Prop := match r with
  | .ok s => ∀ v Hs' H', Grow Hs H Hs' H' → RepS Γ H Hs' H' s v → Q v H'
  | .exc x => ∀ Hs' H', Grow Hs H Hs' H' → W x Hs' H'
def RL (Γ : Ct) (W : XW) (Hs H : Hp) (r : R) (Q : VK) : Prop := match r with
  | .ok s => ∀ v Hs' H', Grow Hs H Hs' H' → Rep Γ H' s.val v → Q v H'
  | .exc x => ∀ Hs' H', Grow Hs H Hs' H' → W x Hs' H'
def RB (W : XW) (Hs H : Hp) (r : R) (Q : Bool → Hp → Prop) : Prop := match r with
  | .ok s => ∃ b, s.val = .bl b ∧ ∀ Hs' H', Grow Hs H Hs' H' → Q b H'
  | .exc x => ∀ Hs' H', Grow Hs H Hs' H' → W x Hs' H'
section
variable {Γ : Ct} {W : XW} {Hs H Hs1 H1 : Hp} {r : R} {Q Q' : VK}
theorem RQ.grow (q : RQ Γ W Hs H r Q) (g : Grow Hs H Hs1 H1) : RQ Γ W Hs1 H1 r Q := by
  cases r with
  | ok s => exact fun v Hs' H' g' rs => q v Hs' H' (g.trans g') (rs.back g.h)
  | exc x => exact fun Hs' H' g' => q Hs' H' (g.trans g')
theorem RQ.mono (q : RQ Γ W Hs H r Q) (h : ∀ v H, Q v H → Q' v H) : RQ Γ W Hs H r Q' := by
  cases r with
  | ok s => exact fun v Hs' H' g' rs => h _ _ (q v Hs' H' g' rs)
  | exc x => exact q
theorem RL.mono (q : RL Γ W Hs H r Q) (h : ∀ v H, Q v H → Q' v H) : RL Γ W Hs H r Q' := by
  cases r with
  | ok s => exact fun v Hs' H' g' rs => h _ _ (q v Hs' H' g' rs)
  | exc x => exact q
theorem RL.grow (q : RL Γ W Hs H r Q) (g : Grow Hs H Hs1 H1) : RL Γ W Hs1 H1 r Q := by
  cases r with
  | ok s => exact fun v Hs' H' g' rs => q v Hs' H' (g.trans g') rs
  | exc x => exact fun Hs' H' g' => q Hs' H' (g.trans g')
end
inductive tD (Γ : Ct) (W : XW) (g : ME) (σ : L2.St) (H : Hp) (Q : VK) : Prop
  | mk (B0 B1 Hs : Hp) (ρ : MEnv) (r : R) (re : RE Γ B0 B1 Hs H σ ρ) (e : g ρ = some r) (q : RQ Γ W Hs H r Q)
inductive tL (Γ : Ct) (W : XW) (g : ME) (σ : L2.St) (H : Hp) (Q : VK) : Prop
  | mk (B0 B1 Hs : Hp) (ρ : MEnv) (r : R) (re : RE Γ B0 B1 Hs H σ ρ) (e : g ρ = some r) (q : RL Γ W Hs H r Q)
inductive tT (Γ : Ct) (W : XW) (g : ME) (σ : L2.St) (H : Hp) (Q : Bool → Hp → Prop) : Prop
  | mk (B0 B1 Hs : Hp) (ρ : MEnv) (r : R) (re : RE Γ B0 B1 Hs H σ ρ) (e : g ρ = some r) (q : RB W Hs H r Q)
def a6u (Γ : Ct) (W : XW) : List ME → TA
  | [] => tNil
  | g :: gs => tCons (tD Γ W g) (a6u Γ W gs)
def a6v (Γ : Ct) (W : XW) : List ME → TA
  | [] => tNil
  | g :: gs => tCons (tL Γ W g) (a6v Γ W gs)
section
variable {Γ : Ct} {W : XW} {B0 B1 Hs H : Hp} {σ : L2.St} {ρ : MEnv} {r : R} {Q Q' : VK} {g ga : ME} {k : D → Option R}
theorem tD.mono (t : tD Γ W g σ H Q) (h : ∀ v H, Q v H → Q' v H) : tD Γ W g σ H Q' := by
  obtain ⟨B0, B1, Hs, ρ, r, re, e, q⟩ := t
  exact ⟨B0, B1, Hs, ρ, r, re, e, q.mono h⟩
theorem tL.mono (t : tL Γ W g σ H Q) (h : ∀ v H, Q v H → Q' v H) : tL Γ W g σ H Q' := by
  obtain ⟨B0, B1, Hs, ρ, r, re, e, q⟩ := t
  exact ⟨B0, B1, Hs, ρ, r, re, e, q.mono h⟩
theorem tL.toD (t : tL Γ W g σ H Q) : tD Γ W g σ H Q := by
  obtain ⟨B0, B1, Hs, ρ, r, re, e, q⟩ := t
  refine ⟨B0, B1, Hs, ρ, r, re, e, ?_⟩
  cases r with
  | ok s => exact fun v Hs' H' g' rs => q v Hs' H' g' (rs.look g')
  | exc x => exact q
theorem a1q (re : RE Γ B0 B1 Hs H σ ρ) (e : a0Y (ga ρ) k = some r) (q : RQ Γ W Hs H r Q) :
    tD Γ W ga σ H (fun v H1 => ∃ Hs1 d, Grow Hs H Hs1 H1 ∧ RE Γ B0 B1 Hs1 H1 σ ρ ∧ Rep Γ Hs1 d v ∧ k d = some r ∧ RQ Γ W Hs1 H1 r Q) := by
  cases h : ga ρ with
  | none => rw [h] at e; cases e
  | some x =>
    rw [h] at e
    refine ⟨B0, B1, Hs, ρ, x, re, h, ?_⟩
    cases x with
    | exc y => cases e; exact q
    | ok s =>
      intro v Hs' H' g' rs
      obtain ⟨Hs'', g2, _, rp⟩ := rs.share g'
      exact ⟨Hs'', s.val, g2, re.grow g2, rp, e, q.grow g2⟩
theorem a18 : ∀ (gs : List ME) {σ : L2.St} {H : Hp} {Q Q' : List V → Hp → Prop}, (∀ v H, Q v H → Q' v H) → a6u Γ W gs σ H Q → a6u Γ W gs σ H Q'
  | [], _, _, _, _, h, t => h _ _ t
  | g :: gs, _, _, _, _, h, t => tD.mono t fun v H1 t' => a18 gs (fun vs H2 z => h _ _ z) t'
theorem a3h : ∀ (gs : List ME) {σ : L2.St} {H : Hp} {Q Q' : List V → Hp → Prop}, (∀ v H, Q v H → Q' v H) → a6v Γ W gs σ H Q → a6v Γ W gs σ H Q'
  | [], _, _, _, _, h, t => h _ _ t
  | g :: gs, _, _, _, _, h, t => tL.mono t fun v H1 t' => a3h gs (fun vs H2 z => h _ _ z) t'
theorem a3U : ∀ (gs : List ME) {Hs H : Hp} {k : List D → Option R}, RE Γ B0 B1 Hs H σ ρ → a0X gs ρ k = some r → RQ Γ W Hs H r Q →
    a6u Γ W gs σ H (fun vs H1 => ∃ Hs1 ds, Grow Hs H Hs1 H1 ∧ RE Γ B0 B1 Hs1 H1 σ ρ ∧ RepL Γ Hs1 ds vs ∧ k ds = some r ∧ RQ Γ W Hs1 H1 r Q)
  | [], Hs, H, k, re, e, q => ⟨Hs, [], .refl re.b.i, re, .nil, e, q⟩
  | g :: gs, Hs, H, k, re, e, q => by
    refine (a1q re e q).mono fun v H1 ⟨Hs1, d, g1, re1, rp, e1, q1⟩ => ?_
    refine a18 gs (fun vs H2 ⟨Hs2, ds, g2, re2, rps, e2, q2⟩ => ?_) (a3U gs re1 e1 q1)
    exact ⟨Hs2, d :: ds, g1.trans g2, re2, .cons (rp.mono g2.s) rps, e2, q2⟩
theorem a4i : ∀ (gs : List ME) {Hs H : Hp} {k : List D → Option R} {d : D}, RE Γ B0 B1 Hs H σ ρ → a5D (a0X gs ρ k) = some (.ok (.sh d)) → RQ Γ W Hs H (.ok (.sh d)) Q →
    a6v Γ W gs σ H (fun vs H1 => ∃ Hs1 ds, Grow Hs H Hs1 H1 ∧ RE Γ B0 B1 Hs1 H1 σ ρ ∧ RepL Γ H1 ds vs ∧ a5D (k ds) = some (.ok (.sh d)) ∧ RQ Γ W Hs1 H1 (.ok (.sh d)) Q)
  | [], Hs, H, k, d, re, e, q => ⟨Hs, [], .refl re.b.i, re, .nil, e, q⟩
  | g :: gs, Hs, H, k, d, re, e, q => by
    have e' : a5D (a0Y (g ρ) fun x => a0X gs ρ fun ds => k (x :: ds)) = some (.ok (.sh d)) := e
    cases h : g ρ with
    | none => rw [h] at e'; cases e'
    | some x =>
      rw [h] at e'
      cases x with
      | exc y => cases e'
      | ok s =>
        refine ⟨B0, B1, Hs, ρ, .ok s, re, h, fun v Hs1 H1 g1 rp => ?_⟩
        refine a3h gs (fun vs H2 ⟨Hs2, ds, g2, re2, rps, e2, q2⟩ => ?_) (a4i gs (k := fun ds => k (s.val :: ds)) (re.grow g1) e' (q.grow g1))
        exact ⟨Hs2, s.val :: ds, g1.trans g2, re2, .cons (rp.mono g2.h) rps, e2, q2⟩
end
theorem PE.imp {X : Cx} {e : Expr} {t t' : TE} (h : PE X e t) (i : ∀ pins s σ H Q, Inv X pins σ H s → t' σ H Q → t σ H Q) : PE X e t' := fun pins s σ H Q I q => h pins s σ H Q I (i pins s σ H Q I q)
theorem PT.imp {X : Cx} {e : Expr} {t t' : TT} (h : PT X e t) (i : ∀ pins s σ H Q, Inv X pins σ H s → t' σ H Q → t σ H Q) : PT X e t' := fun pins s σ H Q I q => h pins s σ H Q I (i pins s σ H Q I q)
theorem PW.imp {X : Cx} {e : Expr} {t t' : TT} (h : PW X e t) (i : ∀ σ H Q, t' σ H Q → t σ H Q) : PW X e t' := fun w pins s σ H Q I q => h w pins s σ H Q I (i σ H Q q)
theorem PS.imp {X : Cx} {e : Stmt} {t t' : TS} (h : PS X e t) (i : ∀ pins s σ H D, Inv X pins σ H s → t' D σ H → t D σ H) : PS X e t' := fun pins s σ H D I q => h pins s σ H D I (i pins s σ H D I q)
theorem PSs.imp {X : Cx} {e : List Stmt} {t t' : TS} (h : PSs X e t) (i : ∀ D σ H, t' D σ H → t D σ H) : PSs X e t' := fun pins s σ H D I q => h pins s σ H D I (i D σ H q)
abbrev PD (X : Cx) (Γ : Ct) (W : XW) (e : Expr) (g : ME) : Prop := PE X e (tD Γ W g)
abbrev PL (X : Cx) (Γ : Ct) (W : XW) (e : Expr) (g : ME) : Prop := PE X e (tL Γ W g)
abbrev PTD (X : Cx) (Γ : Ct) (W : XW) (e : Expr) (g : ME) : Prop := PT X e (tT Γ W g)
abbrev PWD (X : Cx) (Γ : Ct) (W : XW) (e : Expr) (g : ME) : Prop := PW X e (tT Γ W g)
abbrev PAD (X : Cx) (Γ : Ct) (W : XW) (es : List Expr) (gs : List ME) : Prop := PA X es (a6u Γ W gs)
abbrev PAL (X : Cx) (Γ : Ct) (W : XW) (es : List Expr) (gs : List ME) : Prop := PA X es (a6v Γ W gs)
section
variable {X : Cx} {Γ : Ct} {W : XW} {e a b : Expr} {g ga gb : ME} {pos : Pos}
theorem PD.look (h : PD X Γ W e g) : PL X Γ W e g := PE.imp h fun _ _ _ _ _ _ t => t.toD
theorem a0a {i : Nat} (h : PE X e (tVar i)) : PD X Γ W e (eVar i) := PE.imp h fun _ _ σ H Q _ ⟨B0, B1, Hs, ρ, r, re, e1, q⟩ => by
  unfold eVar at e1
  split at e1
  · rename_i d hd
    cases e1
    obtain ⟨v, e2, rp⟩ := re.sh i d hd
    exact ⟨v, e2, q v Hs H (.refl re.b.i) rp⟩
  · cases e1
theorem a0D {i : Nat} (h : PE X e (tVar i)) : PL X Γ W e (eAny i) := PE.imp h fun _ _ σ H Q _ ⟨B0, B1, Hs, ρ, r, re, e1, q⟩ => by
  unfold eAny at e1
  split at e1
  · cases e1
  · rename_i s hno hd
    cases e1
    cases s with
    | sh d =>
      obtain ⟨v, e2, rp⟩ := re.sh i d hd
      exact ⟨v, e2, q v Hs H (.refl re.b.i) (Rep.mono re.b.i rp)⟩
    | own o =>
      obtain ⟨c, ho, e2, _, _, e4, rp⟩ := re.own i o hd
      exact ⟨.ref c, e2, q (.ref c) Hs H (.refl re.b.i) (((rp.o fun kvs z => by subst z; exact hno kvs rfl).mono re.b.i).val e4)⟩
  · cases e1
theorem a5p {v : V} {d : D} (h : PE X e (tC v)) (rp : ∀ H, Rep Γ H d v) : PD X Γ W e (eC d) := PE.imp h fun _ _ σ H Q _ ⟨B0, B1, Hs, ρ, r, re, e1, q⟩ => by
  cases e1
  exact q v Hs H (.refl re.b.i) (rp Hs)
theorem a0d {i j} : PD X Γ W (.Constant (.int i) j pos) (eC (.int i)) := a5p pe_int fun _ => a0h.mpr rfl
theorem pd_bl {i j} : PD X Γ W (.Constant (.bool i) j pos) (eC (.bl i)) := a5p pe_bl fun _ => a0x.mpr rfl
theorem a2l {i j} : PD X Γ W (.Constant (.str i) j pos) (eC (.str i)) := a5p pe_str fun _ => a0N.mpr rfl
inductive rD (Γ : Ct) (W : XW) (f : D → D → Option R) (x y : V) (H : Hp) (Q : VK) : Prop
  | mk (Hs : Hp) (d1 d2 : D) (r : R) (sm : Same Hs H) (r1 : Rep Γ Hs d1 x) (r2 : Rep Γ Hs d2 y) (e : f d1 d2 = some r) (q : RQ Γ W Hs H r Q)
theorem a5O {f : D → D → Option R} {σ : L2.St} {H : Hp} {Q : VK} (t : tD Γ W (eBin f ga gb) σ H Q) : tOp (rD Γ W f) (tD Γ W ga) (tD Γ W gb) σ H Q := by
  obtain ⟨B0, B1, Hs, ρ, r, re, e, q⟩ := t
  refine (a1q re e q).mono fun v H1 ⟨Hs1, d, g1, re1, rp, e1, q1⟩ => ?_
  refine (a1q re1 e1 q1).mono fun u H2 ⟨Hs2, d2, g2, re2, rp2, e2, q2⟩ => ?_
  exact ⟨Hs2, d, d2, r, re2.b.i, rp.mono g2.s, rp2, e2, q2⟩
theorem a0k {op : Operator} {f : D → D → Option R} (ho : OpR X (binaryOp op) (rD Γ W f)) (ha : PD X Γ W a ga) (hb : PD X Γ W b gb) : PD X Γ W (.BinOp a op b pos) (eBin f ga gb) :=
  PE.imp (pe_op ho ha hb) fun _ _ _ _ _ _ t => a5O t
theorem a6R {op : CmpOp} {f : D → D → Option R} (ho : OpR X (compareOp op) (rD Γ W f)) (ha : PD X Γ W a ga) (hb : PD X Γ W b gb) (hm : behindInMarks op b = false := by first | exact nomark _ | rfl) : PD X Γ W (.Compare a [op] [b] pos) (eBin f ga gb) :=
  PE.imp (pe_cmpR ho ha hb hm) fun _ _ _ _ _ _ t => a5O t
theorem tT_of {σ : L2.St} {H : Hp} {Q : Bool → Hp → Prop} (t : tT Γ W g σ H Q) : tD Γ W g σ H (fun x H' => ∃ k, x = .bl k ∧ Q k H') := by
  obtain ⟨B0, B1, Hs, ρ, r, re, e, q⟩ := t
  refine ⟨B0, B1, Hs, ρ, r, re, e, ?_⟩
  cases r with
  | exc x => exact q
  | ok s =>
    obtain ⟨c, ec, q⟩ := q
    intro v Hs' H' g' rs
    obtain ⟨_, g2, _, rp⟩ := rs.share g'
    rw [ec] at rp
    exact ⟨c, a0x.mp rp, q _ _ g'⟩
theorem a0l {op : CmpOp} {f : D → D → Option R} (ho : OpR X (compareOp op) (rD Γ W f)) (ha : PD X Γ W a ga) (hb : PD X Γ W b gb) (hm : behindInMarks op b = false := by first | exact nomark _ | rfl) : PTD X Γ W (.Compare a [op] [b] pos) (eBin f ga gb) :=
  PT.imp (pt_cmpR ho ha hb hm) fun _ _ _ _ _ _ t => a5O (tT_of t)
theorem a2r (h : PD X Γ W e g) (he : ∀ whole, isTrue e X.env whole = (do let v ← whole; standAt e.pos; holding [v] (truthy v)) := by intro _; rfl) : PTD X Γ W e g :=
  PT.imp (pt_val h he) fun _ _ _ _ _ _ t => tT_of t
section
variable {t u : ME} {rest : List Expr}
theorem tT.mono {σ : L2.St} {H : Hp} {Q Q' : Bool → Hp → Prop} (h : tT Γ W g σ H Q) (k : ∀ b H, Q b H → Q' b H) : tT Γ W g σ H Q' := by
  obtain ⟨B0, B1, Hs, ρ, r, re, e, q⟩ := h
  refine ⟨B0, B1, Hs, ρ, r, re, e, ?_⟩
  cases r with
  | exc x => exact q
  | ok s => obtain ⟨c, ec, q⟩ := q; exact ⟨c, ec, fun Hs' H' g' => k _ _ (q Hs' H' g')⟩
theorem RB.grow {Hs H Hs1 H1 : Hp} {r : R} {Q : Bool → Hp → Prop} (q : RB W Hs H r Q) (g : Grow Hs H Hs1 H1) : RB W Hs1 H1 r Q := by
  cases r with
  | exc x => exact fun Hs' H' g' => q Hs' H' (g.trans g')
  | ok s => obtain ⟨c, ec, q⟩ := q; exact ⟨c, ec, fun Hs' H' g' => q Hs' H' (g.trans g')⟩
theorem a2K {x : D} {k : Bool → Option R} {r : R} (h : asB x k = some r) : ∃ c, x = .bl c ∧ k c = some r := by
  cases x with
  | bl c => exact ⟨c, rfl, h⟩
  | non => cases h
  | int _ => cases h
  | str _ => cases h
  | tup _ => cases h
  | lst _ => cases h
  | obj _ _ _ => cases h
theorem a4o (ha : PTD X Γ W a g) : PTD X Γ W (.UnaryOp .Not a pos) (eNot g) := PT.imp (pt_not ha) fun _ _ σ H Q _ t => by
  obtain ⟨B0, B1, Hs, ρ, r, re, e, q⟩ := t
  have e' : a0Y (g ρ) dNot = some r := e
  cases h : g ρ with
  | none => rw [h] at e'; cases e'
  | some x =>
    rw [h] at e'
    refine ⟨B0, B1, Hs, ρ, x, re, h, ?_⟩
    cases x with
    | exc y => cases e'; exact q
    | ok s =>
      obtain ⟨c, ec, e2⟩ := a2K (show asB s.val (fun c => okB (!c)) = some r from e')
      cases e2
      obtain ⟨c', ec', q⟩ := q
      cases ec'
      exact ⟨c, ec, q⟩
theorem a1c (ha : PTD X Γ W a g) : PWD X Γ W (.BoolOp .And [a] pos) g := pw_and1 ha
theorem a2A (ha : PTD X Γ W a g) : PWD X Γ W (.BoolOp .Or [a] pos) g := pw_or1 ha
theorem a1k (ha : PTD X Γ W a t) (hb : PWD X Γ W (.BoolOp .And (b :: rest) pos) u) : PWD X Γ W (.BoolOp .And (a :: b :: rest) pos) (eAnd t u) := PW.imp (pw_and ha hb) fun σ H Q h => by
  obtain ⟨B0, B1, Hs, ρ, r, re, e, q⟩ := h
  have e' : a0Y (t ρ) (fun x => asB x fun c => if c = true then u ρ else okB false) = some r := e
  cases h : t ρ with
  | none => rw [h] at e'; cases e'
  | some x =>
    rw [h] at e'
    refine ⟨B0, B1, Hs, ρ, x, re, h, ?_⟩
    cases x with
    | exc y => cases e'; exact q
    | ok s =>
      obtain ⟨c, ec, e2⟩ := a2K (show asB s.val _ = some r from e')
      refine ⟨c, ec, fun Hs' H' g' => ?_⟩
      cases c with
      | true => exact ⟨B0, B1, Hs', ρ, r, re.grow g', e2, q.grow g'⟩
      | false =>
        cases e2
        obtain ⟨c', ec', q⟩ := q
        cases ec'
        exact q _ _ g'
theorem a3l (ha : PTD X Γ W a t) (hb : PWD X Γ W (.BoolOp .Or (b :: rest) pos) u) : PWD X Γ W (.BoolOp .Or (a :: b :: rest) pos) (eOr t u) := PW.imp (pw_or ha hb) fun σ H Q h => by
  obtain ⟨B0, B1, Hs, ρ, r, re, e, q⟩ := h
  have e' : a0Y (t ρ) (fun x => asB x fun c => if c = true then okB true else u ρ) = some r := e
  cases h : t ρ with
  | none => rw [h] at e'; cases e'
  | some x =>
    rw [h] at e'
    refine ⟨B0, B1, Hs, ρ, x, re, h, ?_⟩
    cases x with
    | exc y => cases e'; exact q
    | ok s =>
      obtain ⟨c, ec, e2⟩ := a2K (show asB s.val _ = some r from e')
      refine ⟨c, ec, fun Hs' H' g' => ?_⟩
      cases c with
      | false => exact ⟨B0, B1, Hs', ρ, r, re.grow g', e2, q.grow g'⟩
      | true =>
        cases e2
        obtain ⟨c', ec', q⟩ := q
        cases ec'
        exact q _ _ g'
theorem PWD.pt (h : PWD X Γ W e g) : PTD X Γ W e g := PW.pt h
theorem pd_one {op} (h : PD X Γ W a g) : PD X Γ W (.BoolOp op [a] pos) g := pe_one h
theorem a6S (ha : PD X Γ W a t) (hb : PD X Γ W (.BoolOp .And (b :: rest) pos) u) : PD X Γ W (.BoolOp .And (a :: b :: rest) pos) (eAnd t u) := PE.imp (pe_and ha hb) fun _ _ σ H Q _ h => by
  obtain ⟨B0, B1, Hs, ρ, r, re, e, q⟩ := h
  refine (a1q (k := fun x => asB x fun c => if c = true then u ρ else okB false) re e q).mono fun v H1 ⟨Hs1, d, g1, re1, rp, e1, q1⟩ => ?_
  obtain ⟨c, rfl, e2⟩ := a2K e1
  refine ⟨c, a0x.mp rp, ?_⟩
  cases c with
  | true => exact ⟨B0, B1, Hs1, ρ, r, re1, e2, q1⟩
  | false => cases e2; exact q1 _ Hs1 H1 (.refl re1.b.i) (RepS.of (a0x.mpr rfl))
theorem pd_not (ha : PD X Γ W a g) : PD X Γ W (.UnaryOp .Not a pos) (eNot g) := PE.imp (pe_not ha) fun _ _ σ H Q _ h => by
  obtain ⟨B0, B1, Hs, ρ, r, re, e, q⟩ := h
  refine (a1q (k := dNot) re e q).mono fun v H1 ⟨Hs1, d, g1, re1, rp, e1, q1⟩ => ?_
  obtain ⟨c, rfl, e2⟩ := a2K e1
  cases e2
  exact ⟨c, a0x.mp rp, q1 _ Hs1 H1 (.refl re1.b.i) (RepS.of (a0x.mpr rfl))⟩
end
theorem a0f : PAD X Γ W [] [] := pa_nil
theorem a1G {es : List Expr} {gs : List ME} (h : PD X Γ W e g) (t : PAD X Γ W es gs) (hs : starEach (e :: es) X.env = (false, eval e X.env) :: starEach es X.env := by rfl) : PAD X Γ W (e :: es) (g :: gs) := pa_cons h t hs
theorem a0L : PAL X Γ W [] [] := pa_nil
theorem a0w {es : List Expr} {gs : List ME} (h : PL X Γ W e g) (t : PAL X Γ W es gs) (hs : starEach (e :: es) X.env = (false, eval e X.env) :: starEach es X.env := by rfl) : PAL X Γ W (e :: es) (g :: gs) := pa_cons h t hs
inductive spR (Γ : Ct) (W : XW) (F : List D → Option R) (vs : List V) (H : Hp) (Q : VK) : Prop
  | mk (Hs : Hp) (ds : List D) (r : R) (sm : Same Hs H) (rl : RepL Γ Hs ds vs) (e : F ds = some r) (q : RQ Γ W Hs H r Q)
theorem a3y {F : List D → Option R} {gs : List ME} {σ : L2.St} {H : Hp} {Q : VK} (t : tD Γ W (a0g F gs) σ H Q) : a6u Γ W gs σ H fun vs H1 => spR Γ W F vs H1 Q := by
  obtain ⟨B0, B1, Hs, ρ, r, re, e, q⟩ := t
  exact a18 gs (fun vs H1 ⟨Hs1, ds, _, re1, rp, e1, q1⟩ => ⟨Hs1, ds, r, re1.b.i, rp, e1, q1⟩) (a3U gs re e q)
theorem tD_callB {F : List D → Option R} {gs : List ME} {σ : L2.St} {H : Hp} {Q : VK} (t : tD Γ W (a0o F gs) σ H Q) : a6v Γ W gs σ H fun vs H1 => spR Γ W F vs H1 Q := by
  obtain ⟨B0, B1, Hs, ρ, r, re, e, q⟩ := t
  have e' : a5D (a0X gs ρ F) = some r := e
  obtain ⟨d, rfl⟩ : ∃ d, r = .ok (.sh d) := by
    unfold a5D at e'
    split at e'
    · split at e'
      · cases e'; exact ⟨_, rfl⟩
      · cases e'
    · cases e'
  refine a3h gs (fun vs H1 ⟨Hs1, ds, g1, re1, rp, e1, q1⟩ => ?_) (a4i gs re e' q)
  unfold a5D at e1
  split at e1
  · rename_i s hs
    split at e1
    · rename_i hf
      cases e1
      refine ⟨H1, ds, _, .refl _, rp, hs, fun v Hs' H' g' rs => q1 v Hs1 H' (.only re1.b.i g'.h) ?_⟩
      exact rep_flat (rs.look g') hf
    · cases e1
  · cases e1
section
variable {CX : CXT} {k : Nat} {f : Addr} {fd : FuncData} {ps : List Str} {x : Str} {p : Pos} {es : List Expr} {gs : List ME} {F : List D → Option R}
def spD (Γ : Ct) (W : XW) (F : List D → Option R) : Sp := fun vs H Q _ => spR Γ W F vs H Q
theorem pd_call (G : FnOk X.prog X.w X.K X.mg X.base CX0 k f fd ps (spD Γ W F)) (hr : Room k X.A) (hg : Gl X x) (hm : X.mg x = some (.ref f)) (hk : PySem.W.keepIn X.K (.ref f) = true) (hb : Binds X.K fd ps [])
    (ha : PAD X Γ W (e :: es) gs) (hdb : (x == ("__debug__" : Str)) = false := by decide) (he : starEach (e :: es) X.env = (false, eval e X.env) :: starEach es X.env := by rfl) (hpl : (backTo pos (starEach es X.env)).any (·.1) = false := by rfl) :
    PD X Γ W (.Call (.Name x p) (e :: es) [] pos) (a0g F gs) :=
  PE.imp (pe_call (E := E0) (dvs := []) (ds := []) G hr hg hm hk hb .nil pass0 ha hdb he hpl) fun _ _ _ _ _ _ t => a18 gs (fun vs H1 z => by show spR Γ W F (vs ++ []) H1 _; rw [List.append_nil]; exact z) (a3y t)
end
section
variable {x : Str} {p : Pos} {es : List Expr} {gs : List ME} {F : List D → Option R} {id T : String}
theorem pd_blt (hc : CallR X (.builtin id) (spR Γ W F)) (hg : Gl X x) (hm : X.mg x = none) (hv : bootBuiltins x = some (.builtin id)) (ha : PAD X Γ W (e :: es) gs) (hn : x ≠ "__name__" := by decide) (hdb : (x == ("__debug__" : Str)) = false := by decide)
    (he : starEach (e :: es) X.env = (false, eval e X.env) :: starEach es X.env := by rfl) (hpl : (backTo pos (starEach es X.env)).any (·.1) = false := by rfl) : PD X Γ W (.Call (.Name x p) (e :: es) [] pos) (a0g F gs) :=
  PE.imp (pe_callB hc hg hm hv ha hn hdb he hpl) fun _ _ _ _ _ _ t => a3y t
theorem a0K (hc : CallR X (.builtin id) (spR Γ W F)) (hg : Gl X x) (hm : X.mg x = none) (hv : bootBuiltins x = some (.builtin id)) (ha : PAL X Γ W (e :: es) gs) (hn : x ≠ "__name__" := by decide) (hdb : (x == ("__debug__" : Str)) = false := by decide)
    (he : starEach (e :: es) X.env = (false, eval e X.env) :: starEach es X.env := by rfl) (hpl : (backTo pos (starEach es X.env)).any (·.1) = false := by rfl) : PD X Γ W (.Call (.Name x p) (e :: es) [] pos) (a0o F gs) :=
  PE.imp (pe_callB hc hg hm hv ha hn hdb he hpl) fun _ _ _ _ _ _ t => tD_callB t
theorem a3B (hc : CallR X (.type T) (spR Γ W F)) (hg : Gl X x) (hm : X.mg x = none) (hv : bootBuiltins x = some (.type T)) (ha : PAD X Γ W (e :: es) gs) (hn : x ≠ "__name__" := by decide) (hdb : (x == ("__debug__" : Str)) = false := by decide)
    (he : starEach (e :: es) X.env = (false, eval e X.env) :: starEach es X.env := by rfl) (hpl : (backTo pos (starEach es X.env)).any (·.1) = false := by rfl) : PD X Γ W (.Call (.Name x p) (e :: es) [] pos) (a0g F gs) :=
  PE.imp (pe_callTy hc hg hm hv ha hn hdb he hpl) fun _ _ _ _ _ _ t => a3y t
end
theorem a08 {es : List Expr} {gs : List ME} {x1} (ha : PAD X Γ W es gs) : PD X Γ W (.Tuple es x1 pos) (eTup gs) := PE.imp (pe_tup ha) fun _ _ σ H Q _ t => by
  refine a18 gs (fun vs H1 ⟨Hs1, ds, r, sm, rp, e1, q1⟩ => ?_) (a3y t)
  try dsimp only at e1
  split at e1
  · rename_i hl
    cases e1
    refine ⟨by rw [← rp.length]; exact Nat.le_trans hl (by decide), fun p hp => q1 _ (upd Hs1 p (.tup vs)) _ (.new sm hp) ?_⟩
    exact a0G.mpr ⟨p, vs, rfl, .of upd_same, rp.mono (a1r (sm.free hp))⟩
  · cases e1
theorem a1N {es : List Expr} {gs : List ME} (ha : PAD X Γ W es gs) : PD X Γ W (.List es pos) (eLst gs) := PE.imp (pe_lst ha) fun _ _ σ H Q _ t => by
  refine a18 gs (fun vs H1 ⟨Hs1, ds, r, sm, rp, e1, q1⟩ => ?_) (a3y t)
  try dsimp only at e1
  split at e1
  · rename_i hl
    cases e1
    refine ⟨by rw [← rp.length]; exact Nat.le_trans hl (by decide), fun p hp => q1 _ Hs1 _ (.newOwn sm hp) ?_⟩
    exact ⟨p, _, rfl, hp, sm.free hp, upd_same, vs, rfl, rp⟩
  · cases e1
theorem a0s {f : D → D → Option R} (ho : IxR X (rD Γ W f)) (ha : PD X Γ W a ga) (hb : PD X Γ W b gb) (hs : PlainIx b := by exact fun _ _ => rfl) : PD X Γ W (.Subscript a b pos) (eBin f ga gb) :=
  PE.imp (pe_ix ho ha hb hs) fun _ _ _ _ _ _ t => a5O t
end
end L3
namespace L3
open PySem PySem.Spec PyProof.Rows L2
def EQ (Γ : Ct) (W : XW) (B0 B1 Hs : Hp) (D : Ends) : Out → Prop
  | .next ρ' => ∀ σ' Hs' H', Same Hs Hs' → RE Γ B0 B1 Hs' H' σ' ρ' → D.nx σ' H'
  | .brk ρ' => ∀ σ' Hs' H', Same Hs Hs' → RE Γ B0 B1 Hs' H' σ' ρ' → D.bk σ' H'
  | .cont ρ' => ∀ σ' Hs' H', Same Hs Hs' → RE Γ B0 B1 Hs' H' σ' ρ' → D.ct σ' H'
  | .ret s => ∀ v Hs' H', Same Hs Hs' → Grow B0 B1 Hs' H' → RepS Γ B1 Hs' H' s v → D.rt v H'
  | .exc x => ∀ Hs' H', Same Hs Hs' → Grow B0 B1 Hs' H' → W x Hs' H'
theorem EQ.from {Γ : Ct} {W : XW} {B0 B1 Hs Hs1 : Hp} {D : Ends} {o : Out} (q : EQ Γ W B0 B1 Hs D o) (k : Same Hs Hs1) : EQ Γ W B0 B1 Hs1 D o := by
  cases o with
  | next ρ => exact fun σ' Hs' H' h => q σ' Hs' H' (k.trans h)
  | brk ρ => exact fun σ' Hs' H' h => q σ' Hs' H' (k.trans h)
  | cont ρ => exact fun σ' Hs' H' h => q σ' Hs' H' (k.trans h)
  | ret s => exact fun v Hs' H' h => q v Hs' H' (k.trans h)
  | exc x => exact fun Hs' H' h => q Hs' H' (k.trans h)
inductive tS (Γ : Ct) (W : XW) (g : MC) (D : Ends) (σ : L2.St) (H : Hp) : Prop
  | mk (B0 B1 Hs : Hp) (ρ : MEnv) (o : Out) (re : RE Γ B0 B1 Hs H σ ρ) (e : g ρ = some o) (q : EQ Γ W B0 B1 Hs D o)
abbrev PSD (X : Cx) (Γ : Ct) (W : XW) (st : Stmt) (g : MC) : Prop := PS X st (tS Γ W g)
abbrev PSsD (X : Cx) (Γ : Ct) (W : XW) (st : List Stmt) (g : MC) : Prop := PSs X st (tS Γ W g)
section
variable {X : Cx} {Γ : Ct} {W : XW} {st : Stmt} {rest a b : List Stmt} {g g1 g2 : MC} {ge gc : ME} {e c : Expr} {pos : Pos}
theorem a0r : PSsD X Γ W [] a0u := PSs.imp pss_nil fun D σ H ⟨B0, B1, Hs, ρ, o, re, e, q⟩ => by
  cases e
  exact q σ Hs H (.refl _) re
theorem a0c (h1 : PSD X Γ W st g1) (h2 : PSsD X Γ W rest g2) : PSsD X Γ W (st :: rest) (sSeq g1 g2) := PSs.imp (pss_cons h1 h2) fun D σ H ⟨B0, B1, Hs, ρ, o, re, e, q⟩ => by
  unfold sSeq at e
  cases h : g1 ρ with
  | none => rw [h] at e; cases e
  | some u =>
    rw [h] at e
    refine ⟨B0, B1, Hs, ρ, u, re, h, ?_⟩
    cases u with
    | next ρ' => exact fun σ' Hs' H' sm re' => ⟨B0, B1, Hs', ρ', o, re', e, q.from sm⟩
    | brk ρ' => cases e; exact q
    | cont ρ' => cases e; exact q
    | ret s => cases e; exact q
    | exc x => cases e; exact q
theorem a0j (h : PSD X Γ W st g) : PSsD X Γ W [st] g := pss_one h
theorem a0y {i : Nat} (h : PSsD X Γ W rest g) : PSsD X Γ W rest (sDem i g) := PSs.imp h fun D σ H ⟨B0, B1, Hs, ρ, o, re, e, q⟩ => by
  obtain ⟨Hs', sm, re'⟩ := re.dem i
  exact ⟨B0, B1, Hs', dem i ρ, o, re', e, q.from sm⟩
theorem tD_O {B0 B1 Hs H : Hp} {σ : L2.St} {ρ : MEnv} {o : Out} {D : Ends} {k : S → Option Out} (re : RE Γ B0 B1 Hs H σ ρ) (e : a2N (ge ρ) k = some o) (q : EQ Γ W B0 B1 Hs D o) :
    tD Γ W ge σ H (fun v H1 => ∃ Hs1 s, Grow Hs H Hs1 H1 ∧ RepS Γ H Hs1 H1 s v ∧ k s = some o) := by
  cases h : ge ρ with
  | none => rw [h] at e; cases e
  | some x =>
    rw [h] at e
    refine ⟨B0, B1, Hs, ρ, x, re, h, ?_⟩
    cases x with
    | exc y => cases e; exact fun Hs' H' g' => q Hs' H' g'.s (re.b.trans g')
    | ok s => exact fun v Hs' H' g' rs => ⟨Hs', s, g', rs, e⟩
theorem a56 {i : Nat} {t : TE} (h : PS X st (tAsg (tD Γ W ge) (gName i))) (hi : i < X.N.length) : PSD X Γ W st (sSet i ge) := PS.imp h fun pins s σ H D I ⟨B0, B1, Hs, ρ, o, re, e, q⟩ => by
  refine (tD_O re e q).mono fun v H1 ⟨Hs1, s, g1, rs, e1⟩ => ?_
  cases e1
  exact q _ Hs1 H1 g1.s (re.setS g1 (by rw [I.len]; exact hi) rs)
theorem psd_set {i : Nat} {x : Str} {pos' : Pos} (hN : X.N.Nodup) (hi : X.N[i]? = some x) (hx : Loc X.env.scope x) (he : PD X Γ W e ge) (hs : swapsWith e (some (.Name x pos')) pos.line X.env = pure false := by rfl)
    (hf : X.fn x = true ∨ X.env.scope.names.lookup x = some .local := by first | exact .inl rfl | exact .inr rfl | assumption) : PSD X Γ W (.Assign [.Name x pos'] e pos) (sSet i ge) :=
  a56 (t := tD Γ W ge) (ps_set hN hi hx he hs hf) (List.getElem?_eq_some_iff.mp hi).1
theorem a0z (he : PD X Γ W e ge) : PSD X Γ W (.Return (some e) pos) (sRet ge) := PS.imp (ps_ret he) fun pins s σ H D I ⟨B0, B1, Hs, ρ, o, re, e, q⟩ => by
  refine (tD_O re e q).mono fun v H1 ⟨Hs1, s, g1, rs, e1⟩ => ?_
  cases e1
  exact q v Hs1 H1 g1.s (re.b.trans g1) (rs.back re.b.h)
theorem a7s {x : D} {k : Bool → Option Out} {o : Out} (h : asBO x k = some o) : ∃ c, x = .bl c ∧ k c = some o := by
  cases x with
  | bl c => exact ⟨c, rfl, h⟩
  | non => cases h
  | int _ => cases h
  | str _ => cases h
  | tup _ => cases h
  | lst _ => cases h
  | obj _ _ _ => cases h
theorem a0Z (hc : PTD X Γ W c gc) (ha : PSsD X Γ W a g1) (hb : PSsD X Γ W b g2) : PSD X Γ W (.If c a b pos) (sIf gc g1 g2) := PS.imp (ps_if hc ha hb) fun pins s σ H D I ⟨B0, B1, Hs, ρ, o, re, e, q⟩ => by
  have e' : a2N (gc ρ) (fun s => asBO s.val fun t => if t = true then g1 ρ else g2 ρ) = some o := e
  cases h : gc ρ with
  | none => rw [h] at e'; cases e'
  | some x =>
    rw [h] at e'
    refine ⟨B0, B1, Hs, ρ, x, re, h, ?_⟩
    cases x with
    | exc y => cases e'; exact fun Hs' H' g' => q Hs' H' g'.s (re.b.trans g')
    | ok s =>
      obtain ⟨t, et, e2⟩ := a7s (show asBO s.val _ = some o from e')
      refine ⟨t, et, fun Hs' H' g' => ?_⟩
      cases t with
      | true => exact ⟨B0, B1, Hs', ρ, o, re.grow g', e2, q.from g'.s⟩
      | false => exact ⟨B0, B1, Hs', ρ, o, re.grow g', e2, q.from g'.s⟩
structure Walk (Γ : Ct) (Hs0 : Hp) (J : It) (ds : List D) : Prop where
  go : ∀ i Hs H, i < ds.length → Same Hs0 Hs → Same Hs H → J.go i H
  stop : ∀ Hs H, Same Hs0 Hs → Same Hs H → J.stop ds.length H
  yld : ∀ i Hs H x H', i < ds.length → Same Hs0 Hs → Same Hs H → J.yld i H x H' → ∃ d Hs', ds[i]? = some d ∧ Grow Hs H Hs' H' ∧ Rep Γ Hs' d x
def IQ (Γ : Ct) (W : XW) (Hs H : Hp) (r : RI) (Q : It → Hp → Prop) : Prop := match r with
  | .ok ds => ∀ J Hs' H', Grow Hs H Hs' H' → Walk Γ Hs' J ds → Q J H'
  | .exc x => ∀ Hs' H', Grow Hs H Hs' H' → W x Hs' H'
inductive tI (Γ : Ct) (W : XW) (gi : MI) (σ : L2.St) (H : Hp) (Q : It → Hp → Prop) : Prop
  | mk (B0 B1 Hs : Hp) (ρ : MEnv) (r : RI) (re : RE Γ B0 B1 Hs H σ ρ) (e : gi ρ = some r) (q : IQ Γ W Hs H r Q)
abbrev PID (X : Cx) (Γ : Ct) (W : XW) (tg iter : Expr) (gi : MI) : Prop := PI X tg iter (tI Γ W gi)
theorem PI.imp {X : Cx} {tg e : Expr} {t t' : TI} (h : PI X tg e t) (i : ∀ pins s σ H Q, Inv X pins σ H s → t' σ H Q → t σ H Q) : PI X tg e t' := fun pins s σ H Q I q => h pins s σ H Q I (i pins s σ H Q I q)
inductive tB3 (Γ : Ct) (js : List Nat) (bd : MB) (v : V) (σ : L2.St) (H : Hp) (Q : L2.St → Hp → Prop) : Prop
  | mk (B0 B1 Hs : Hp) (ρ : MEnv) (d : D) (ρ' : MEnv) (re : RE Γ B0 B1 Hs H σ ρ) (rp : Rep Γ Hs d v) (e : bd d ρ = some ρ') (q : ∀ σ' : L2.St, RE Γ B0 B1 Hs H σ' ρ' → (∀ j : Nat, j ∉ js → σ'[j]? = σ[j]?) → Q σ' H)
abbrev PBD (X : Cx) (Γ : Ct) (tg : Expr) (js : List Nat) (bd : MB) : Prop := PG X tg (tB3 Γ js bd)
theorem PG.imp {X : Cx} {tg : Expr} {t t' : TG} (h : PG X tg t) (i : ∀ pins s v σ H Q, Inv X pins σ H s → t' v σ H Q → t v σ H Q) : PG X tg t' := fun pins s σ H v u Q I r q => h pins s σ H v u Q I r (i pins s v σ H Q I q)
theorem pbd_name {j : Nat} {x : Str} (hN : X.N.Nodup) (hi : X.N[j]? = some x) (hx : Loc X.env.scope x) (hf : X.fn x = true ∨ X.env.scope.names.lookup x = some .local := by first | exact .inl rfl | exact .inr rfl | assumption) : PBD X Γ (.Name x pos) [j] (a0C j) :=
  PG.imp (pg_name hN hi hx hf) fun pins s v σ H Q I ⟨B0, B1, Hs, ρ, d, ρ', re, rp, e, q⟩ => by
    cases e
    exact q _ (re.setSh (by rw [I.len]; exact (List.getElem?_eq_some_iff.mp hi).1) rp) fun i hi => List.getElem?_set_ne fun z => hi (by simp [z])
theorem a3u {j k : Nat} {x y : Str} {px py : Pos} {kt : Nat} (hK : X.K = Γ.K) (hc : X.calm = true) (hN : X.N.Nodup) (hj : X.N[j]? = some x) (hk : X.N[k]? = some y) (hx : Loc X.env.scope x) (hy : Loc X.env.scope y)
    (fx : X.fn x = true ∨ X.env.scope.names.lookup x = some .local := by first | exact .inl rfl | exact .inr rfl | assumption) (fy : X.fn y = true ∨ X.env.scope.names.lookup y = some .local := by first | exact .inl rfl | exact .inr rfl | assumption)
    (hn : (assignEach [.Name x px, .Name y py] X.env).length = 2 := by rfl) (hst : (assignEach [.Name x px, .Name y py] X.env).findIdx? (·.1) = none := by rfl)
    (hs1 : (assignEach [.Name x px, .Name y py] X.env).map (·.2) = assign (.Name x px) X.env :: (assignEach [.Name y py] X.env).map (·.2) := by rfl) (hs2 : (assignEach [.Name y py] X.env).map (·.2) = assign (.Name y py) X.env :: (assignEach [] X.env).map (·.2) := by rfl) :
    PBD X Γ (.Tuple [.Name x px, .Name y py] kt pos) [j, k] (bTup [j, k]) :=
  PG.imp (pg_tup hc (pgs_cons (pg_name hN hj hx fx) (pgs_cons (pg_name hN hk hy fy) pgs_nil hs2) hs1) hn hst) fun pins s v σ H Q I ⟨B0, B1, Hs, ρ, d, ρ', re, rp, e, q⟩ => by
    have lj : j < σ.length := by rw [I.len]; exact (List.getElem?_eq_some_iff.mp hj).1
    have lk : k < σ.length := by rw [I.len]; exact (List.getElem?_eq_some_iff.mp hk).1
    cases d with
    | tup ds =>
      unfold bTup at e
      dsimp only at e
      split at e
      · rename_i hl
        cases e
        match ds, hl with
        | [d1, d2], _ =>
          obtain ⟨a, xs, rfl, sq, rl⟩ := a0G.mp rp
          obtain ⟨x1, r1, rfl, q1, rl⟩ := a0q.mp rl
          obtain ⟨x2, r2, rfl, q2, rl⟩ := a0q.mp rl
          obtain rfl := a03.mp rl
          refine ⟨a, [x1, x2], rfl, by rw [hK]; exact a0S re.b.i sq, rfl, x1, [x2], rfl, x2, [], rfl, rfl, ?_⟩
          exact q _ ((re.setSh lj q1).setSh (by rw [List.length_set]; exact lk) q2) fun i hi => by
            rw [List.getElem?_set_ne fun z => hi (by simp [z]), List.getElem?_set_ne fun z => hi (by simp [z])]
      · cases e
    | non => cases e
    | bl _ => cases e
    | int _ => cases e
    | str _ => cases e
    | lst _ => cases e
    | obj _ _ _ => cases e
theorem for_walk {js : List Nat} {bd : MB} {body : MC} {ds : List D} {J : It} {D : Ends} {B0 B1 Hs0 : Hp} {o : Out} (w : Walk Γ Hs0 J ds) (q : EQ Γ W B0 B1 Hs0 D o) {σ : L2.St} {H : Hp} {ρ : MEnv} (re : RE Γ B0 B1 Hs0 H σ ρ) (e : forD bd body ds ρ = some o) :
    ∃ Wv : Nat → Nat → L2.St → Hp → Prop, (∃ m, Wv 0 m σ H) ∧ ∀ i m σ H, Wv i m σ H →
      (J.stop i H ∧ D.nx σ H) ∨ (J.go i H ∧ ∃ N : L2.St → Hp → Prop, (∀ σ' H', N σ' H' → ∃ m', m' < m ∧ Wv (i + 1) m' σ' H') ∧ ∀ x H', J.yld i H x H' → tB3 Γ js bd x σ H' fun σ2 H2 => tS Γ W body { D with nx := N, ct := N, bk := D.nx } σ2 H2) := by
  refine ⟨fun i m σ H => m = ds.length - i ∧ i ≤ ds.length ∧ ∃ Hs ρ, Same Hs0 Hs ∧ RE Γ B0 B1 Hs H σ ρ ∧ forD bd body (ds.drop i) ρ = some o, ⟨_, rfl, Nat.zero_le _, Hs0, ρ, .refl _, re, e⟩, ?_⟩
  rintro i m σ H ⟨rfl, hi, Hs, ρ, sm, re, e⟩
  by_cases hlt : i < ds.length
  · refine .inr ⟨w.go i Hs H hlt sm re.b.i, fun σ' H' => ∃ Hs' ρ', Same Hs0 Hs' ∧ RE Γ B0 B1 Hs' H' σ' ρ' ∧ forD bd body (ds.drop (i + 1)) ρ' = some o, fun σ' H' ⟨Hs', ρ', s', r', e'⟩ => ⟨_, by omega, rfl, hlt, Hs', ρ', s', r', e'⟩, fun x H' y => ?_⟩
    obtain ⟨d, Hs', ed, g', rp⟩ := w.yld i Hs H x H' hlt sm re.b.i y
    have hd : ds.drop i = d :: ds.drop (i + 1) := by
      rw [List.drop_eq_getElem_cons hlt]
      congr 1
      rw [List.getElem?_eq_getElem hlt] at ed
      exact Option.some.inj ed
    rw [hd] at e
    unfold forD at e
    cases h : bd d ρ with
    | none => rw [h] at e; cases e
    | some ρ1 =>
      rw [h] at e
      dsimp only at e
      refine ⟨B0, B1, Hs', ρ, d, ρ1, re.grow g', rp, h, fun σ2 re2 _ => ?_⟩
      cases hb : body ρ1 with
      | none => rw [hb] at e; cases e
      | some u =>
        rw [hb] at e
        refine ⟨B0, B1, Hs', ρ1, u, re2, hb, ?_⟩
        have s1 : Same Hs0 Hs' := sm.trans g'.s
        cases u with
        | next ρ2 => exact fun σ' Hs2 H2 s2 re3 => ⟨Hs2, ρ2, s1.trans s2, re3, e⟩
        | cont ρ2 => exact fun σ' Hs2 H2 s2 re3 => ⟨Hs2, ρ2, s1.trans s2, re3, e⟩
        | brk ρ2 => cases e; exact fun σ' Hs2 H2 s2 re3 => q σ' Hs2 H2 (s1.trans s2) re3
        | ret s => cases e; exact fun v Hs2 H2 s2 => q v Hs2 H2 (s1.trans s2)
        | exc x => cases e; exact fun Hs2 H2 s2 => q Hs2 H2 (s1.trans s2)
  · have ei : i = ds.length := by omega
    subst ei
    rw [List.drop_length] at e
    cases e
    exact .inl ⟨w.stop Hs H sm re.b.i, q σ Hs H sm re⟩
theorem a1C {tg iter : Expr} {gi : MI} {js : List Nat} {bd : MB} {body : List Stmt} (hp : PassesOwn (model X.prog X.w) X.A X.env X.xe) (hc : X.calm = true) (hi : PID X Γ W tg iter gi) (hg : PBD X Γ tg js bd) (hb : PSsD X Γ W body g)
    (hs : ∀ x, foldedSetIterable iter X.env x = pure x := by intro _; rfl) : PSD X Γ W (.For tg iter body [] pos) (sFor gi bd g) := PS.imp (ps_for hp hc hi hg hb hs) fun pins s σ H D I ⟨B0, B1, Hs, ρ, o, re, e, q⟩ => by
  unfold sFor at e
  cases h : gi ρ with
  | none => rw [h] at e; cases e
  | some r =>
    rw [h] at e
    refine ⟨B0, B1, Hs, ρ, r, re, h, ?_⟩
    cases r with
    | exc x => cases e; exact fun Hs' H' g' => q Hs' H' g'.s (re.b.trans g')
    | ok ds => exact fun J Hs' H' g' w => for_walk w (q.from g'.s) (re.grow g') e
theorem a6z {Hs0 : Hp} {a : Addr} {xs : List V} {ds : List D} {K : PySem.W.Frag} (h : SqL K Hs0 a xs) (r : RepL Γ Hs0 ds xs) : Walk Γ Hs0 (Itl K a) ds where
  go := fun i Hs H hi s1 s2 => ⟨xs, xs[i]'(by rw [← r.length]; exact hi), Same.seq (s1.trans s2) h, by rw [List.getElem?_eq_getElem]⟩
  stop := fun Hs H s1 s2 => ⟨xs, Same.seq (s1.trans s2) h, Nat.le_of_eq r.length.symm⟩
  yld := fun i Hs H x H' hi s1 s2 ⟨e, y⟩ => by
    subst e
    obtain ⟨z, e1, q⟩ := r.get (List.getElem?_eq_getElem hi)
    have e2 := y xs (Same.seq (s1.trans s2) h)
    rw [e1] at e2
    cases e2
    exact ⟨_, Hs, List.getElem?_eq_getElem hi, .refl s2, q.mono s1⟩
theorem walk_tup {Hs0 : Hp} {a : Addr} {xs : List V} {ds : List D} {K : PySem.W.Frag} (h : SqT K Hs0 a xs) (r : RepL Γ Hs0 ds xs) : Walk Γ Hs0 (Itt K a) ds where
  go := fun i Hs H hi s1 s2 => ⟨xs, xs[i]'(by rw [← r.length]; exact hi), a0S (s1.trans s2) h, by rw [List.getElem?_eq_getElem]⟩
  stop := fun Hs H s1 s2 => ⟨xs, a0S (s1.trans s2) h, Nat.le_of_eq r.length.symm⟩
  yld := fun i Hs H x H' hi s1 s2 ⟨e, y⟩ => by
    subst e
    obtain ⟨z, e1, q⟩ := r.get (List.getElem?_eq_getElem hi)
    have e2 := y xs (a0S (s1.trans s2) h)
    rw [e1] at e2
    cases e2
    exact ⟨_, Hs, List.getElem?_eq_getElem hi, .refl s2, q.mono s1⟩
theorem a5M {Hs0 : Hp} (lo hi : Int) : Walk Γ Hs0 (Itr lo (hi - lo).toNat) (rng lo hi) where
  go := fun i Hs H h s1 s2 => by
    unfold rng at h
    rw [List.length_map, List.length_range] at h
    exact h
  stop := fun Hs H s1 s2 => by
    unfold rng
    rw [List.length_map, List.length_range]
    exact Nat.le_refl _
  yld := fun i Hs H x H' h s1 s2 ⟨e, y⟩ => by
    subst e y
    unfold rng at h ⊢
    rw [List.length_map, List.length_range] at h
    exact ⟨.int (lo + i), Hs, by rw [List.getElem?_map, List.getElem?_range h]; rfl, .refl s2, a0h.mpr rfl⟩
end
end L3
namespace L3
open PySem PySem.Spec PyProof.Rows L2
theorem a4A (js : List Nat) : ∀ ρ : MEnv, (a0R js ρ).length = ρ.length := by
  induction js with
  | nil => intro ρ; rfl
  | cons j js ih => intro ρ; show (a0R js (ρ.set j none)).length = _; rw [ih, List.length_set]
theorem a3d (js : List Nat) : ∀ (ρ : MEnv) (i : Nat) (v : S), (a0R js ρ)[i]? = some (some v) → i ∉ js ∧ ρ[i]? = some (some v) := by
  induction js with
  | nil => intro ρ i v h; exact ⟨by simp, h⟩
  | cons j js ih =>
    intro ρ i v h
    obtain ⟨h1, h2⟩ := ih (ρ.set j none) i v h
    by_cases hj : j = i
    · subst hj
      by_cases hl : j < ρ.length
      · rw [List.getElem?_set_self hl] at h2; cases h2
      · rw [List.getElem?_eq_none (by rw [List.length_set]; omega)] at h2; cases h2
    · rw [List.getElem?_set_ne hj] at h2
      exact ⟨by simp [h1, Ne.symm hj], h2⟩
theorem a5B (js : List Nat) : ∀ (σ : L2.St) (i : Nat), i ∉ js → (a2g js σ)[i]? = σ[i]? := by
  induction js with
  | nil => intro σ i _; rfl
  | cons j js ih =>
    intro σ i h
    have h' : i ≠ j ∧ i ∉ js := by simpa using h
    show (a2g js (σ.set j none))[i]? = _
    rw [ih _ _ h'.2, List.getElem?_set_ne (Ne.symm h'.1)]
section
variable {Γ : Ct} {B0 B1 Hs H : Hp} {σ σ' : L2.St} {ρ ρ' : MEnv}
theorem RE.sub (r : RE Γ B0 B1 Hs H σ ρ) (hl : ρ'.length = σ'.length) (h : ∀ (i : Nat) (s : S), ρ'[i]? = some (some s) → ρ[i]? = some (some s) ∧ σ'[i]? = σ[i]?) : RE Γ B0 B1 Hs H σ' ρ' where
  b := r.b
  sh := fun i d e => by
    obtain ⟨e1, e2⟩ := h i _ e
    obtain ⟨v, e3, q⟩ := r.sh i d e1
    exact ⟨v, e2.trans e3, q⟩
  own := fun i o e => by
    obtain ⟨e1, e2⟩ := h i _ e
    obtain ⟨a, ho, e3, f1, f2, f3, q⟩ := r.own i o e1
    exact ⟨a, ho, e2.trans e3, f1, f2, f3, q⟩
  apart := fun i j o u a hij hi hj ha => by
    obtain ⟨e1, e2⟩ := h i _ hi
    obtain ⟨e3, e4⟩ := h j _ hj
    rw [e4]
    exact r.apart i j o u a hij e1 e3 (e2.symm.trans ha)
  len := hl
theorem RE.other (r : RE Γ B0 B1 Hs H σ ρ) {a : Addr} {ho : HO} (h1 : Hs a = none) (h2 : B1 a = none) (h3 : ∀ (i : Nat) (o : O), ρ[i]? = some (some (.own o)) → σ[i]? ≠ some (some (.ref a))) : RE Γ B0 B1 Hs (upd H a ho) σ ρ where
  b := ⟨r.b.s, fun b u z => by rw [upd_ne (ne_of_none z h2)]; exact r.b.h _ _ z, fun b u z => by rw [upd_ne (ne_of_none z h1)]; exact r.b.i _ _ z, r.b.n⟩
  sh := r.sh
  own := fun i o e => by
    obtain ⟨c, hc, f1, f2, f3, f4, f5⟩ := r.own i o e
    refine ⟨c, hc, f1, f2, f3, ?_, f5⟩
    rw [upd_ne]
    · exact f4
    · intro z
      subst z
      exact h3 i o e f1
  apart := r.apart
  len := r.len
end
theorem Grow.other {Hs H Hs' H' : Hp} {a : Addr} {ho : HO} (g : Grow Hs H Hs' H') (h0 : H a = none) (h1 : Hs' a = none) : Grow Hs H Hs' (upd H' a ho) :=
  ⟨g.s, fun b u z => by rw [upd_ne (ne_of_none z h0)]; exact g.h _ _ z, fun b u z => by rw [upd_ne (ne_of_none z h1)]; exact g.i _ _ z, g.n⟩
theorem Grow.none {Hs H Hs' H' : Hp} {a : Addr} {ho : HO} (g : Grow Hs H Hs' H') (h : Hs a = Option.none) (h' : H a = some ho) : Hs' a = Option.none := by
  cases z : Hs' a with
  | none => rfl
  | some u =>
    rcases g.n a u z with w | w
    · rw [h] at w; cases w
    · rw [h'] at w; cases w
def BdIn (js : List Nat) (bd : MB) : Prop := ∀ d ρ ρ', bd d ρ = some ρ' → ρ'.length = ρ.length ∧ ∀ i : Nat, i ∉ js → ρ'[i]? = ρ[i]?
theorem a16 (j : Nat) : BdIn [j] (a0C j) := fun d ρ ρ' e => by
  cases e
  exact ⟨by rw [List.length_set], fun i hi => List.getElem?_set_ne fun z => hi (by simp [z])⟩
theorem a4R : ∀ (js : List Nat) (ds : List D) (ρ : MEnv), (a5Q js ds ρ).length = ρ.length ∧ ∀ i : Nat, i ∉ js → (a5Q js ds ρ)[i]? = ρ[i]?
  | [], _, _ => ⟨rfl, fun _ _ => rfl⟩
  | _ :: _, [], _ => ⟨rfl, fun _ _ => rfl⟩
  | j :: js, d :: ds, ρ => by
    obtain ⟨h1, h2⟩ := a4R js ds (ρ.set j (some (.sh d)))
    refine ⟨h1.trans List.length_set, fun i hi => ?_⟩
    have h' : i ≠ j ∧ i ∉ js := by simpa using hi
    exact (h2 i h'.2).trans (List.getElem?_set_ne (Ne.symm h'.1))
theorem bdIn_tup (js : List Nat) : BdIn js (bTup js) := fun d ρ ρ' e => by
  cases d with
  | tup ds =>
    unfold bTup at e
    dsimp only at e
    split at e
    · cases e; exact a4R js ds ρ
    · cases e
  | non => cases e
  | bl _ => cases e
  | int _ => cases e
  | str _ => cases e
  | lst _ => cases e
  | obj _ _ _ => cases e
section
variable {Γ : Ct} {W : XW} {js : List Nat} {gi : MI} {bd : MB} {cond elt : ME}
theorem a4n {tt : TT} (ht : ∀ σ H Q, tT Γ W cond σ H Q → tt σ H Q) (hb : BdIn js bd) {σ : L2.St} {H : Hp} {Q : VK} (t : tD Γ W (a07 js gi bd cond elt) σ H Q) :
    tComp js (tI Γ W gi) (tB3 Γ js bd) tt (tD Γ W elt) σ H Q := by
  obtain ⟨B0, B1, Hs, ρ, r, re, e, q⟩ := t
  unfold a07 at e
  cases h : gi ρ with
  | none => rw [h] at e; cases e
  | some x =>
    rw [h] at e
    refine ⟨B0, B1, Hs, ρ, x, re, h, ?_⟩
    cases x with
    | exc y => cases e; exact q
    | ok ds =>
      intro J Hs1 H1 g1 w a ha
      dsimp only at e
      have hlim : ds.length ≤ lim := by
        by_cases z : ds.length ≤ lim
        · exact z
        · rw [if_neg z] at e; cases e
      rw [if_pos hlim] at e
      have hs1 : Hs1 a = none := g1.i.free ha
      have h0 : H a = none := g1.h.free ha
      have hb1 : B1 a = none := re.b.h.free h0
      have re1 : RE Γ B0 B1 Hs1 H1 (a2g js σ) (a0R js ρ) := (re.grow g1).sub (by rw [a4A, a2R, re.len]) fun i s z => by
        obtain ⟨z1, z2⟩ := a3d js ρ i s z
        exact ⟨z2, a5B js σ i z1⟩
      have ap1 : ∀ (i : Nat) (o : O), (a0R js ρ)[i]? = some (some (.own o)) → (a2g js σ)[i]? ≠ some (some (.ref a)) := fun i o z z' => by
        obtain ⟨c, hc, f1, _, _, f4, _⟩ := re1.own i o z
        rw [z'] at f1
        cases f1
        rw [ha] at f4
        cases f4
      refine ⟨fun i m σ2 ys H2 => m = ds.length - i ∧ i ≤ ds.length ∧ ∃ Hs2 acc, Same Hs1 Hs2 ∧ Grow Hs H Hs2 H2 ∧ RE Γ B0 B1 Hs2 H2 σ2 (a0R js ρ) ∧ Hs2 a = none ∧
        (∀ (i : Nat) (o : O), (a0R js ρ)[i]? = some (some (.own o)) → σ2[i]? ≠ some (some (.ref a))) ∧ H2 a = some (.lst ys) ∧ RepL Γ Hs2 acc ys ∧ a25 bd cond elt (a0R js ρ) (ds.drop i) acc = some r ∧ acc.length ≤ i, ⟨_, rfl, Nat.zero_le _, Hs1, [], .refl _, g1.other h0 hs1, re1.other hs1 hb1 ap1, hs1, ap1, upd_same, .nil, e, Nat.zero_le _⟩, ?_⟩
      rintro i m σ2 ys H2 ⟨rfl, hi, Hs2, acc, sm, g2, re2, ha2, ap, hy, rl, ec, hacc⟩
      refine ⟨hy, ?_⟩
      by_cases hlt : i < ds.length
      · refine .inr ⟨w.go i Hs2 H2 hlt sm re2.b.i, fun x H3 y => ?_⟩
        obtain ⟨d, Hs3, ed, g3, rp⟩ := w.yld i Hs2 H2 x H3 hlt sm re2.b.i y
        have hd : ds.drop i = d :: ds.drop (i + 1) := by
          rw [List.drop_eq_getElem_cons hlt]
          congr 1
          rw [List.getElem?_eq_getElem hlt] at ed
          exact Option.some.inj ed
        rw [hd] at ec
        unfold a25 at ec
        cases hbd : bd d (a0R js ρ) with
        | none => rw [hbd] at ec; cases ec
        | some ρ1 =>
          rw [hbd] at ec
          dsimp only at ec
          obtain ⟨bl, bo⟩ := hb d _ ρ1 hbd
          refine ⟨B0, B1, Hs3, a0R js ρ, d, ρ1, re2.grow g3, rp, hbd, fun σ4 re4 hσ => ?_⟩
          have low : ∀ {Hs5 H5 : Hp}, RE Γ B0 B1 Hs5 H5 σ4 ρ1 → RE Γ B0 B1 Hs5 H5 σ4 (a0R js ρ) := fun r5 => r5.sub (by rw [← bl, r5.len]) fun k s z => by
            obtain ⟨z1, _⟩ := a3d js ρ k s z
            exact ⟨(bo k z1).trans z, rfl⟩
          have ap4 : ∀ (k : Nat) (o : O), (a0R js ρ)[k]? = some (some (.own o)) → σ4[k]? ≠ some (some (.ref a)) := fun k o z => by
            obtain ⟨z1, _⟩ := a3d js ρ k _ z
            rw [hσ k z1]
            exact ap k o z
          have ha3 := g3.none ha2 hy
          have hy3 := g3.h _ _ hy
          refine ht _ _ _ ?_
          cases hcv : cond ρ1 with
          | none => rw [hcv] at ec; cases ec
          | some c =>
            rw [hcv] at ec
            refine ⟨B0, B1, Hs3, ρ1, c, re4, hcv, ?_⟩
            cases c with
            | exc x =>
              cases ec
              exact fun Hs' H' g' => q Hs' H' ((g2.trans g3).trans g')
            | ok s =>
              obtain ⟨b, eb, ec2⟩ := a2K (show asB s.val _ = some r from ec)
              refine ⟨b, eb, fun Hs5 H5 g5 => ?_⟩
              have ha5 := g5.none ha3 hy3
              have hy5 := g5.h _ _ hy3
              have re5 := re4.grow g5
              cases b with
              | false =>
                rw [if_neg Bool.false_ne_true] at ec2
                refine iteF ?_
                exact ⟨_, by omega, rfl, hlt, Hs5, acc, (sm.trans g3.s).trans g5.s, (g2.trans g3).trans g5, low re5, ha5, ap4, hy5, rl.mono (g3.s.trans g5.s), ec2, by omega⟩
              | true =>
                rw [if_pos rfl] at ec2
                refine iteT ?_
                refine (a1q (k := fun x => a25 bd cond elt (a0R js ρ) (ds.drop (i + 1)) (acc ++ [x])) re5 ec2 ((q.grow (g2.trans g3)).grow g5)).mono fun v H6 ⟨Hs6, z, g6, re6, rp6, ec6, q6⟩ => ?_
                have ha6 := g6.none ha5 hy5
                have hy6 := g6.h _ _ hy5
                have hlen : acc.length = ys.length := rl.length
                have hbig : ys.length < sizeLine := Nat.lt_of_lt_of_le (by omega : ys.length < lim) (by decide)
                refine ⟨hy6, hbig, _, by omega, rfl, hlt, Hs6, acc ++ [z], ((sm.trans g3.s).trans g5.s).trans g6.s, (((g2.trans g3).trans g5).trans g6).other h0 ha6, (low re6).other ha6 hb1 ap4, ha6, ap4, upd_same, (rl.mono ((g3.s.trans g5.s).trans g6.s)).append (.cons rp6 .nil), ec6, by rw [List.length_append, List.length_singleton]; omega⟩
      · have ei : i = ds.length := by omega
        subst ei
        rw [List.drop_length] at ec
        unfold a25 at ec
        split at ec
        · cases ec
          exact .inl ⟨w.stop Hs2 H2 sm re2.b.i, q _ Hs2 H2 g2 ⟨a, _, rfl, h0, ha2, hy, ys, rfl, rl⟩⟩
        · cases ec
end
section
variable {X : Cx} {Γ : Ct} {W : XW} {scope : Scope} {vars : List Str} {js : List Nat} {elt tg iter c : Expr} {pos : Pos} {gi : MI} {bd : MB} {cond ge : ME}
theorem a6D {σ : L2.St} {H : Hp} {Q : Bool → Hp → Prop} (t : tT Γ W a31 σ H Q) : tTrue σ H Q := by
  obtain ⟨B0, B1, Hs, ρ, r, re, e, q⟩ := t
  cases e
  obtain ⟨b, eb, q⟩ := q
  cases eb
  exact q Hs H (.refl re.b.i)
theorem pd_comp (hb : BdIn js bd) (hc : a1f scope X.env.scope vars = true) (hj : a2y X.N vars js = true) (hcalm : X.calm = true) (hi : PID X Γ W tg iter gi)
    (hg : ∀ fp s H a, PBD (a1e X scope fp s H a) Γ tg js bd) (he : ∀ fp s H a, PD (a1e X scope fp s H a) Γ W elt ge) (hs : ∀ x, foldedSetIterable iter X.env x = pure x := by intro _; rfl) :
    PD X Γ W (.ListComp elt [⟨tg, iter, [], 0⟩] scope pos) (a07 js gi bd a31 ge) :=
  PE.imp (a6P hc hj hcalm hi hg (fun _ _ _ _ => a6O) he hs) fun _ _ _ _ _ _ t => a4n (fun _ _ _ z => a6D z) hb t
theorem a3C (hb : BdIn js bd) (hc : a1f scope X.env.scope vars = true) (hj : a2y X.N vars js = true) (hcalm : X.calm = true) (hi : PID X Γ W tg iter gi)
    (hg : ∀ fp s H a, PBD (a1e X scope fp s H a) Γ tg js bd) (ht : ∀ fp s H a, PTD (a1e X scope fp s H a) Γ W c cond) (he : ∀ fp s H a, PD (a1e X scope fp s H a) Γ W elt ge) (hs : ∀ x, foldedSetIterable iter X.env x = pure x := by intro _; rfl) :
    PD X Γ W (.ListComp elt [⟨tg, iter, [c], 0⟩] scope pos) (a07 js gi bd cond ge) :=
  PE.imp (a6P hc hj hcalm hi hg (fun fp s H a => a6N (ht fp s H a)) he hs) fun _ _ _ _ _ _ t => a4n (fun _ _ _ z => z) hb t
variable {i : Nat} {x : Str} {pos' spos : Pos}
theorem a3A {st : Stmt} {t : TE} {ge : ME} (h : PS X st (tAsg t (gName i))) (ht : ∀ σ H Q, tD Γ W ge σ H Q → t σ H Q) (hi : i < X.N.length) : PSD X Γ W st (sSet i ge) := PS.imp h fun pins s σ H D I ⟨B0, B1, Hs, ρ, o, re, e, q⟩ => by
  refine ht _ _ _ ((tD_O re e q).mono fun v H1 ⟨Hs1, s, g1, rs, e1⟩ => ?_)
  cases e1
  exact q _ Hs1 H1 g1.s (re.setS g1 (by rw [I.len]; exact hi) rs)
theorem psd_comp (hN : X.N.Nodup) (hi' : X.N[i]? = some x) (hx : Loc X.env.scope x) (hb : BdIn js bd) (hc : a1f scope X.env.scope vars = true) (hj : a2y X.N vars js = true) (hcalm : X.calm = true) (hi : PID X Γ W tg iter gi)
    (hg : ∀ fp s H a, PBD (a1e X scope fp s H a) Γ tg js bd) (he : ∀ fp s H a, PD (a1e X scope fp s H a) Γ W elt ge)
    (hsw : swapsWith (.ListComp elt [⟨tg, iter, [], 0⟩] scope pos) (some (.Name x pos')) spos.line X.env = pure true := by rfl) (hs : ∀ x, foldedSetIterable iter X.env x = pure x := by intro _; rfl)
    (hf : X.fn x = true ∨ X.env.scope.names.lookup x = some .local := by first | exact .inl rfl | exact .inr rfl | assumption) :
    PSD X Γ W (.Assign [.Name x pos'] (.ListComp elt [⟨tg, iter, [], 0⟩] scope pos) spos) (sSet i (a07 js gi bd a31 ge)) :=
  a3A (a35 hN hi' hx hc hj hcalm hi hg (fun _ _ _ _ => a6O) he hsw hs hf) (fun _ _ _ t => a4n (fun _ _ _ z => a6D z) hb t) (List.getElem?_eq_some_iff.mp hi').1
theorem a3c (hN : X.N.Nodup) (hi' : X.N[i]? = some x) (hx : Loc X.env.scope x) (hb : BdIn js bd) (hc : a1f scope X.env.scope vars = true) (hj : a2y X.N vars js = true) (hcalm : X.calm = true) (hi : PID X Γ W tg iter gi)
    (hg : ∀ fp s H a, PBD (a1e X scope fp s H a) Γ tg js bd) (ht : ∀ fp s H a, PTD (a1e X scope fp s H a) Γ W c cond) (he : ∀ fp s H a, PD (a1e X scope fp s H a) Γ W elt ge)
    (hsw : swapsWith (.ListComp elt [⟨tg, iter, [c], 0⟩] scope pos) (some (.Name x pos')) spos.line X.env = pure true := by rfl) (hs : ∀ x, foldedSetIterable iter X.env x = pure x := by intro _; rfl)
    (hf : X.fn x = true ∨ X.env.scope.names.lookup x = some .local := by first | exact .inl rfl | exact .inr rfl | assumption) :
    PSD X Γ W (.Assign [.Name x pos'] (.ListComp elt [⟨tg, iter, [c], 0⟩] scope pos) spos) (sSet i (a07 js gi bd cond ge)) :=
  a3A (a35 hN hi' hx hc hj hcalm hi hg (fun fp s H a => a6N (ht fp s H a)) he hsw hs hf) (fun _ _ _ t => a4n (fun _ _ _ z => z) hb t) (List.getElem?_eq_some_iff.mp hi').1
theorem a4p {l : Expr} {g : ME} (hK : X.K = Γ.K) (h : PD X Γ W l g) : PID X Γ W tg l (iSeq g) := PI.imp (pi_seq h) fun _ _ σ H Q _ ⟨B0, B1, Hs, ρ, r, re, e, q⟩ => by
  unfold iSeq at e
  cases hg : g ρ with
  | none => rw [hg] at e; cases e
  | some y =>
    rw [hg] at e
    cases y with
    | exc z =>
      cases e
      exact ⟨B0, B1, Hs, ρ, _, re, hg, q⟩
    | ok s =>
      refine ⟨B0, B1, Hs, ρ, .ok s, re, hg, fun v Hs' H' g' rs => ?_⟩
      obtain ⟨Hs2, g2, _, rp⟩ := rs.share g'
      dsimp only at e
      cases hv : s.val with
      | lst ds =>
        rw [hv] at e rp
        cases e
        obtain ⟨a, xs, rfl, rd, rl⟩ := a0J.mp rp
        rw [← hK] at rd
        exact ⟨a, rfl, .inl ⟨⟨xs, Same.seq g2.i rd⟩, q _ Hs2 H' g2 (a6z rd rl)⟩⟩
      | tup ds =>
        rw [hv] at e rp
        cases e
        obtain ⟨a, xs, rfl, sq, rl⟩ := a0G.mp rp
        rw [← hK] at sq
        exact ⟨a, rfl, .inr ⟨⟨xs, a0S g2.i sq⟩, q _ Hs2 H' g2 (walk_tup sq rl)⟩⟩
      | non => rw [hv] at e; cases e
      | bl _ => rw [hv] at e; cases e
      | int _ => rw [hv] at e; cases e
      | str _ => rw [hv] at e; cases e
      | obj _ _ _ => rw [hv] at e; cases e
theorem tD_I {B0 B1 Hs H : Hp} {σ : L2.St} {ρ : MEnv} {g : ME} {k : D → Option RI} {r : RI} {Q : It → Hp → Prop} (re : RE Γ B0 B1 Hs H σ ρ) (e : iArg g ρ k = some r) (q : IQ Γ W Hs H r Q) :
    tD Γ W g σ H (fun v H1 => ∃ Hs1 d, Grow Hs H Hs1 H1 ∧ RE Γ B0 B1 Hs1 H1 σ ρ ∧ Rep Γ Hs1 d v ∧ k d = some r ∧ IQ Γ W Hs1 H1 r Q) := by
  unfold iArg at e
  cases h : g ρ with
  | none => rw [h] at e; cases e
  | some x =>
    rw [h] at e
    refine ⟨B0, B1, Hs, ρ, x, re, h, ?_⟩
    cases x with
    | exc y => cases e; exact q
    | ok s =>
      intro v Hs' H' g' rs
      obtain ⟨Hs'', g2, _, rp⟩ := rs.share g'
      refine ⟨Hs'', s.val, g2, re.grow g2, rp, e, ?_⟩
      cases r with
      | ok ds => exact fun J Hs3 H3 g3 w => q J Hs3 H3 (g2.trans g3) w
      | exc y => exact fun Hs3 H3 g3 => q Hs3 H3 (g2.trans g3)
theorem a4z {i : Int} (h : a3n i = true) : -(2 ^ 62) ≤ i ∧ i < 2 ^ 62 := by
  unfold a3n at h
  simpa using h
theorem a00 {a : Expr} {g : ME} {p p' : Pos} (hg : Gl X "range") (hm : X.mg "range" = none) (h : PD X Γ W a g) (hst : starEach (a :: []) X.env = (false, eval a X.env) :: starEach [] X.env := by rfl) (hs : starEach [a] X.env = [(false, eval a X.env)] := by rfl) :
    PID X Γ W tg (.Call (.Name "range" p) [a] [] p') (a0O g) := PI.imp (pi_range1 hg hm (pa_cons h pa_nil hst) hs) fun _ _ σ H Q _ ⟨B0, B1, Hs, ρ, r, re, e, q⟩ => by
  refine (tD_I re e q).mono fun v H1 ⟨Hs1, d, g1, re1, rp, e1, q1⟩ => ?_
  cases d with
  | int hi =>
    dsimp only at e1
    split at e1
    · rename_i hr
      cases e1
      obtain ⟨h1, h2⟩ := a4z hr
      refine ⟨hi, by rw [a0h.mp rp], h1, h2, q1 _ Hs1 H1 (.refl re1.b.i) ?_⟩
      have w := a5M (Γ := Γ) (Hs0 := Hs1) 0 hi
      rw [Int.sub_zero] at w
      exact w
    · cases e1
  | non => cases e1
  | bl _ => cases e1
  | str _ => cases e1
  | tup _ => cases e1
  | lst _ => cases e1
  | obj _ _ _ => cases e1
theorem a36 {a b : Expr} {ga gb : ME} {p p' : Pos} (hg : Gl X "range") (hm : X.mg "range" = none) (ha : PD X Γ W a ga) (hb : PD X Γ W b gb) (hst : starEach [a, b] X.env = (false, eval a X.env) :: starEach [b] X.env := by rfl) (hst2 : starEach [b] X.env = (false, eval b X.env) :: starEach [] X.env := by rfl)
    (hs : starEach [a, b] X.env = [(false, eval a X.env), (false, eval b X.env)] := by rfl) (hs2 : starEach [b] X.env = [(false, eval b X.env)] := by rfl) :
    PID X Γ W tg (.Call (.Name "range" p) [a, b] [] p') (a2u ga gb) := PI.imp (pi_range2 hg hm (pa_cons ha (pa_cons hb pa_nil hst2) hst) hs hs2) fun _ _ σ H Q _ ⟨B0, B1, Hs, ρ, r, re, e, q⟩ => by
  refine (tD_I re e q).mono fun v H1 ⟨Hs1, d, g1, re1, rp, e1, q1⟩ => ?_
  refine (tD_I re1 e1 q1).mono fun u H2 ⟨Hs2, d2, g2, re2, rp2, e2, q2⟩ => ?_
  cases d with
  | int lo =>
    cases d2 with
    | int hi =>
      dsimp only at e2
      split at e2
      · rename_i hr
        cases e2
        obtain ⟨h1, h2⟩ := a4z hr.1
        obtain ⟨h3, h4⟩ := a4z hr.2
        exact ⟨lo, hi, by rw [a0h.mp rp, a0h.mp rp2], ⟨h1, h2, h3, h4⟩, q2 _ Hs2 H2 (.refl re2.b.i) (a5M lo hi)⟩
      · cases e2
    | non => cases e2
    | bl _ => cases e2
    | str _ => cases e2
    | tup _ => cases e2
    | lst _ => cases e2
    | obj _ _ _ => cases e2
  | non => cases e2
  | bl _ => cases e2
  | str _ => cases e2
  | tup _ => cases e2
  | lst _ => cases e2
  | obj _ _ _ => cases e2
end
end L3
namespace L3
open PySem PySem.Spec PyProof.Rows L2
section
variable {X : Cx} {Γ : Ct} {W : XW}
theorem retS {Hs H : Hp} {Q : VK} {d : D} (sm : Same Hs H) (q : RQ Γ W Hs H (.ok (.sh d)) Q) {v : V} (rp : Rep Γ Hs d v) : Q v H := q v Hs H (.refl sm) rp
theorem a5m {Hs H : Hp} {Q : VK} {ds : List D} {xs : List V} (sm : Same Hs H) (q : RQ Γ W Hs H (.ok (.sh (.tup ds))) Q) (rl : RepL Γ Hs ds xs) {p : Addr} (hp : H p = none) : Q (.ref p) (upd H p (.tup xs)) :=
  q _ (upd Hs p (.tup xs)) _ (.new sm hp) (RepS.of (a0G.mpr ⟨p, xs, rfl, .of upd_same, rl.mono (a1r (sm.free hp))⟩))
theorem a3z {Hs H : Hp} {Q : VK} {ds : List D} {xs : List V} (sm : Same Hs H) (q : RQ Γ W Hs H (.ok (.own (.lst ds))) Q) (rl : RepL Γ Hs ds xs) {p : Addr} (hp : H p = none) : Q (.ref p) (upd H p (.lst xs)) :=
  q _ Hs _ (.newOwn sm hp) ⟨p, _, rfl, hp, sm.free hp, upd_same, xs, rfl, rl⟩
theorem a3E {n : Nat} (h : n ≤ lim) : n ≤ sizeLine := Nat.le_trans h (by decide)
theorem a04 {α : Type} {c : Prop} [Decidable c] {a r : α} (h : (if c then some a else none) = some r) : c ∧ a = r := by
  by_cases z : c
  · rw [if_pos z] at h; exact ⟨z, Option.some.inj h⟩
  · rw [if_neg z] at h; cases h
theorem a0A (hK : X.K = Γ.K) : OpR X (binaryOp .Add) (rD Γ W dAdd) := fun pins s σ H x y v u Q I rx ry ⟨Hs, d1, d2, r, sm, r1, r2, e, q⟩ => by
  cases d1 with
  | int i =>
    cases d2 with
    | int j => cases e; exact op_add pins s σ H x y v u Q I rx ry ⟨i, j, a0h.mp r1, a0h.mp r2, retS sm q (a0h.mpr rfl)⟩
    | non => cases e
    | bl _ => cases e
    | str _ => cases e
    | tup _ => cases e
    | lst _ => cases e
    | obj _ _ _ => cases e
  | str i =>
    cases d2 with
    | str j =>
      obtain ⟨hl, rfl⟩ := a04 (c := i.length + j.length ≤ lim) e
      exact op_add_str pins s σ H x y v u Q I rx ry ⟨i, j, a0N.mp r1, a0N.mp r2, a3E hl, retS sm q (a0N.mpr rfl)⟩
    | non => cases e
    | bl _ => cases e
    | int _ => cases e
    | tup _ => cases e
    | lst _ => cases e
    | obj _ _ _ => cases e
  | tup ds =>
    cases d2 with
    | tup es =>
      obtain ⟨hl, rfl⟩ := a04 (c := ds.length + es.length ≤ lim) e
      obtain ⟨a, xs, rfl, qa, la⟩ := a0G.mp r1
      obtain ⟨b, ys, rfl, qb, lb⟩ := a0G.mp r2
      have qa' : SqT X.K H a xs := by rw [hK]; exact a0S sm qa
      have qb' : SqT X.K H b ys := by rw [hK]; exact a0S sm qb
      by_cases h0 : xs = []
      · subst h0
        have e0 : ds = [] := List.length_eq_zero_iff.mp la.length
        subst e0
        exact op_catT0 pins s σ H _ _ v u Q I rx ry ⟨a, b, ys, rfl, rfl, qa', qb', retS sm q (a0G.mpr ⟨b, ys, rfl, qb, lb⟩)⟩
      · refine op_catT pins s σ H _ _ v u Q I rx ry ⟨a, b, xs, ys, rfl, rfl, qa', qb', h0, by rw [← la.length, ← lb.length]; exact a3E hl, fun z => ?_, fun z p hp => a5m sm q (la.append lb) hp⟩
        subst z
        have e0 : es = [] := List.length_eq_zero_iff.mp lb.length
        subst e0
        rw [List.append_nil] at q
        exact retS sm q (a0G.mpr ⟨a, xs, rfl, qa, la⟩)
    | non => cases e
    | bl _ => cases e
    | int _ => cases e
    | str _ => cases e
    | lst _ => cases e
    | obj _ _ _ => cases e
  | lst ds =>
    cases d2 with
    | lst es =>
      obtain ⟨hl, rfl⟩ := a04 (c := ds.length + es.length ≤ lim) e
      obtain ⟨a, xs, rfl, qa, la⟩ := a0J.mp r1
      obtain ⟨b, ys, rfl, qb, lb⟩ := a0J.mp r2
      exact op_catR pins s σ H _ _ v u Q I rx ry ⟨a, b, xs, ys, rfl, rfl, by rw [hK]; exact Same.seq sm qa, by rw [hK]; exact Same.seq sm qb, by rw [← la.length, ← lb.length]; exact a3E hl, fun p hp => a3z sm q (la.append lb) hp⟩
    | non => cases e
    | bl _ => cases e
    | int _ => cases e
    | str _ => cases e
    | tup _ => cases e
    | obj _ _ _ => cases e
  | non => cases e
  | bl _ => cases e
  | obj _ _ _ => cases e
theorem a1H {f : Int → Int → Option R} {g : D → D → Option R} (hg : ∀ d1 d2, g d1 d2 = match d1, d2 with | .int i, .int j => f i j | _, _ => none) {d1 d2 : D} {r : R} (e : g d1 d2 = some r) : ∃ i j, d1 = .int i ∧ d2 = .int j ∧ f i j = some r := by
  rw [hg] at e
  cases d1 with
  | int i =>
    cases d2 with
    | int j => exact ⟨i, j, rfl, rfl, e⟩
    | non => cases e
    | bl _ => cases e
    | str _ => cases e
    | tup _ => cases e
    | lst _ => cases e
    | obj _ _ _ => cases e
  | non => cases e
  | bl _ => cases e
  | str _ => cases e
  | tup _ => cases e
  | lst _ => cases e
  | obj _ _ _ => cases e
theorem a4q : OpR X (binaryOp .Sub) (rD Γ W dSub) := fun pins s σ H x y v u Q I rx ry ⟨Hs, d1, d2, r, sm, r1, r2, e, q⟩ => by
  obtain ⟨i, j, rfl, rfl, e⟩ := a1H (f := fun i j => okI (i - j)) (fun _ _ => rfl) e
  cases e
  exact op_sub pins s σ H x y v u Q I rx ry ⟨i, j, a0h.mp r1, a0h.mp r2, retS sm q (a0h.mpr rfl)⟩
theorem a4Q {i : Int} (h : a2O i = true) : -(2 ^ 64) < i ∧ i < 2 ^ 64 := by
  unfold a2O at h
  simpa using h
theorem a0v : OpR X (binaryOp .Mod) (rD Γ W dMod) := fun pins s σ H x y v u Q I rx ry ⟨Hs, d1, d2, r, sm, r1, r2, e, q⟩ => by
  obtain ⟨i, j, rfl, rfl, e⟩ := a1H (f := fun i j => if 0 < j then okI (i % j) else none) (fun _ _ => rfl) e
  obtain ⟨h, rfl⟩ := a04 e
  exact op_mod pins s σ H x y v u Q I rx ry ⟨i, j, a0h.mp r1, a0h.mp r2, h, retS sm q (a0h.mpr rfl)⟩
theorem a2s : OpR X (binaryOp .FloorDiv) (rD Γ W a2b) := fun pins s σ H x y v u Q I rx ry ⟨Hs, d1, d2, r, sm, r1, r2, e, q⟩ => by
  obtain ⟨i, j, rfl, rfl, e⟩ := a1H (f := fun i j => if 0 < j ∧ j < 1073741824 then okI (i / j) else none) (fun _ _ => rfl) e
  obtain ⟨h, rfl⟩ := a04 e
  exact op_fdiv pins s σ H x y v u Q I rx ry ⟨i, j, a0h.mp r1, a0h.mp r2, h, retS sm q (a0h.mpr rfl)⟩
theorem opd_le : OpR X (compareOp .LtE) (rD Γ W dLe) := fun pins s σ H x y v u Q I rx ry ⟨Hs, d1, d2, r, sm, r1, r2, e, q⟩ => by
  obtain ⟨i, j, rfl, rfl, e⟩ := a1H (f := fun i j => okB (decide (i ≤ j))) (fun _ _ => rfl) e
  cases e
  exact op_le pins s σ H x y v u Q I rx ry ⟨i, j, a0h.mp r1, a0h.mp r2, retS sm q (a0x.mpr rfl)⟩
theorem a2Z : OpR X (compareOp .Gt) (rD Γ W dGt) := fun pins s σ H x y v u Q I rx ry ⟨Hs, d1, d2, r, sm, r1, r2, e, q⟩ => by
  obtain ⟨i, j, rfl, rfl, e⟩ := a1H (f := fun i j => okB (decide (j < i))) (fun _ _ => rfl) e
  cases e
  exact op_gt pins s σ H x y v u Q I rx ry ⟨i, j, a0h.mp r1, a0h.mp r2, retS sm q (a0x.mpr rfl)⟩
theorem a14 : OpR X (binaryOp .Mult) (rD Γ W dMul) := fun pins s σ H x y v u Q I rx ry ⟨Hs, d1, d2, r, sm, r1, r2, e, q⟩ => by
  cases d1 with
  | int i =>
    cases d2 with
    | int j =>
      obtain ⟨hl, rfl⟩ := a04 (c := (a2O i || a2O j) = true) e
      refine op_mul pins s σ H x y v u Q I rx ry ⟨i, j, a0h.mp r1, a0h.mp r2, ?_, retS sm q (a0h.mpr rfl)⟩
      rcases Bool.or_eq_true_iff.mp hl with h | h
      · exact .inl (a4Q h)
      · exact .inr (a4Q h)
    | non => cases e
    | bl _ => cases e
    | str _ => cases e
    | tup _ => cases e
    | lst _ => cases e
    | obj _ _ _ => cases e
  | lst _ => cases e
  | non => cases e
  | bl _ => cases e
  | str _ => cases e
  | tup _ => cases e
  | obj _ _ _ => cases e
theorem a5Y {d1 d2 : D} {b : Bool} {x y : V} {H : Hp} (e : eqF d1 d2 = some b) (r1 : Rep Γ H d1 x) (r2 : Rep Γ H d2 y) : scal x y = true ∧ decide (x = y) = b := by
  cases d1 with
  | non =>
    rw [a1Z.mp r1]
    cases d2 with
    | non => rw [a1Z.mp r2]; cases e; exact ⟨rfl, rfl⟩
    | bl _ => rw [a0x.mp r2]; cases e; exact ⟨rfl, rfl⟩
    | int _ => rw [a0h.mp r2]; cases e; exact ⟨rfl, rfl⟩
    | str _ => rw [a0N.mp r2]; cases e; exact ⟨rfl, rfl⟩
    | tup _ => cases e
    | lst _ => cases e
    | obj _ _ _ => cases e
  | bl c =>
    rw [a0x.mp r1]
    cases d2 with
    | non => rw [a1Z.mp r2]; cases e; exact ⟨rfl, rfl⟩
    | bl c' => rw [a0x.mp r2]; cases e; exact ⟨rfl, by rw [Bool.eq_iff_iff]; simp⟩
    | int _ => cases e
    | str _ => rw [a0N.mp r2]; cases e; exact ⟨rfl, rfl⟩
    | tup _ => cases e
    | lst _ => cases e
    | obj _ _ _ => cases e
  | int c =>
    rw [a0h.mp r1]
    cases d2 with
    | non => rw [a1Z.mp r2]; cases e; exact ⟨rfl, rfl⟩
    | bl _ => cases e
    | int c' => rw [a0h.mp r2]; cases e; exact ⟨rfl, by rw [Bool.eq_iff_iff]; simp⟩
    | str _ => rw [a0N.mp r2]; cases e; exact ⟨rfl, rfl⟩
    | tup _ => cases e
    | lst _ => cases e
    | obj _ _ _ => cases e
  | str c =>
    rw [a0N.mp r1]
    cases d2 with
    | non => rw [a1Z.mp r2]; cases e; exact ⟨rfl, rfl⟩
    | bl _ => rw [a0x.mp r2]; cases e; exact ⟨rfl, rfl⟩
    | int _ => rw [a0h.mp r2]; cases e; exact ⟨rfl, rfl⟩
    | str c' => rw [a0N.mp r2]; cases e; exact ⟨rfl, by rw [Bool.eq_iff_iff]; simp⟩
    | tup _ => cases e
    | lst _ => cases e
    | obj _ _ _ => cases e
  | tup _ => cases e
  | lst _ => cases e
  | obj _ _ _ => cases e
theorem a0M : OpR X (compareOp .Eq) (rD Γ W dEq) := fun pins s σ H x y v u Q I rx ry ⟨Hs, d1, d2, r, sm, r1, r2, e, q⟩ => by
  unfold dEq at e
  cases h : eqF d1 d2 with
  | none => rw [h] at e; cases e
  | some b =>
    rw [h] at e
    cases e
    obtain ⟨h1, h2⟩ := a5Y h r1 r2
    exact op_eq pins s σ H x y v u Q I rx ry ⟨h1, by rw [h2]; exact retS sm q (a0x.mpr rfl)⟩
theorem a37 : OpR X (compareOp .NotEq) (rD Γ W dNe) := fun pins s σ H x y v u Q I rx ry ⟨Hs, d1, d2, r, sm, r1, r2, e, q⟩ => by
  unfold dNe at e
  cases h : eqF d1 d2 with
  | none => rw [h] at e; cases e
  | some b =>
    rw [h] at e
    cases e
    obtain ⟨h1, h2⟩ := a5Y h r1 r2
    exact op_ne pins s σ H x y v u Q I rx ry ⟨h1, by rw [h2]; exact retS sm q (a0x.mpr rfl)⟩
theorem a7r {H : Hp} {ds : List D} {xs : List V} {i : Int} {d : D} (rl : RepL Γ H ds xs) (e : atD ds i = some d) : ∃ x, atI xs i = some x ∧ Rep Γ H d x := by
  unfold atD at e
  unfold atI
  have hl := rl.length
  have e0 : ixN xs.length i = ixD ds.length i := by rw [hl]; rfl
  rw [e0]
  cases h : ixD ds.length i with
  | none => rw [h] at e; cases e
  | some j =>
    rw [h] at e
    exact rl.get e
theorem ixd (hK : X.K = Γ.K) : IxR X (rD Γ W dIx) := fun value slice pins s σ H x y v u Q I rx ry ⟨Hs, d1, d2, r, sm, r1, r2, e, q⟩ hs => by
  cases d2 with
  | int i =>
    have ey := a0h.mp r2
    cases d1 with
    | tup ds =>
      have e : (atD ds i).bind okD = some r := e
      cases h : atD ds i with
      | none => rw [h] at e; cases e
      | some d =>
        rw [h] at e
        cases e
        obtain ⟨a, xs, rfl, qa, la⟩ := a0G.mp r1
        obtain ⟨z, ez, rz⟩ := a7r la h
        exact ix_tup value slice pins s σ H _ _ v u Q I rx ry ⟨a, xs, i, z, rfl, ey, by rw [hK]; exact a0S sm qa, ez, retS sm q rz⟩ hs
    | lst ds =>
      have e : (atD ds i).bind okD = some r := e
      cases h : atD ds i with
      | none => rw [h] at e; cases e
      | some d =>
        rw [h] at e
        cases e
        obtain ⟨a, xs, rfl, qa, la⟩ := a0J.mp r1
        obtain ⟨z, ez, rz⟩ := a7r la h
        exact ix_list value slice pins s σ H _ _ v u Q I rx ry ⟨a, xs, i, z, rfl, ey, by rw [hK]; exact Same.seq sm qa, ez, retS sm q rz⟩ hs
    | str z =>
      have e' : (if z.length ≤ lim then (atD z.cps.toList i).bind (fun c => okD (.str ⟨#[c]⟩)) else none) = some r := e
      by_cases hl : z.length ≤ lim
      · rw [if_pos hl] at e'
        cases h : atD z.cps.toList i with
        | none => rw [h] at e'; cases e'
        | some c =>
          rw [h] at e'
          cases e'
          exact ix_str value slice pins s σ H _ _ v u Q I rx ry ⟨z, i, c, a0N.mp r1, ey, a3E hl, h, retS sm q (a0N.mpr rfl)⟩ hs
      · rw [if_neg hl] at e'; cases e'
    | non => cases e
    | bl _ => cases e
    | int _ => cases e
    | obj _ _ _ => cases e
  | non => cases d1 <;> cases e
  | bl _ => cases d1 <;> cases e
  | str _ => cases d1 <;> cases e
  | tup _ => cases d1 <;> cases e
  | lst _ => cases d1 <;> cases e
  | obj _ _ _ => cases d1 <;> cases e
theorem a3f {F : D → Option R} {ds : List D} {r : R} (h : f1 F ds = some r) : ∃ d, ds = [d] ∧ F d = some r := by
  match ds, h with
  | [d], h => exact ⟨d, rfl, h⟩
theorem a55 {H : Hp} {d : D} {xs : List V} (h : RepL Γ H [d] xs) : ∃ x, xs = [x] ∧ Rep Γ H d x := by
  obtain ⟨x, r, e, q, t⟩ := a0q.mp h
  rw [a03.mp t] at e
  exact ⟨x, e, q⟩
theorem a09 (hK : X.K = Γ.K) : CallR X (.builtin "len") (spR Γ W (f1 dLen)) := fun pins s σ H xs us Q I rs ⟨Hs, ds, r, sm, rl, e, q⟩ => by
  obtain ⟨d, rfl, e⟩ := a3f e
  obtain ⟨x, rfl, rp⟩ := a55 rl
  cases d with
  | tup ds =>
    cases e
    obtain ⟨a, ys, rfl, qa, la⟩ := a0G.mp rp
    exact call_len_seq pins s σ H _ us Q I rs ⟨a, ys, rfl, .inr (by rw [hK]; exact a0S sm qa), by rw [← la.length]; exact retS sm q (a0h.mpr rfl)⟩
  | lst ds =>
    cases e
    obtain ⟨a, ys, rfl, qa, la⟩ := a0J.mp rp
    exact call_len_seq pins s σ H _ us Q I rs ⟨a, ys, rfl, .inl (by rw [hK]; exact Same.seq sm qa), by rw [← la.length]; exact retS sm q (a0h.mpr rfl)⟩
  | str z =>
    obtain ⟨hl, rfl⟩ := a04 (c := z.length ≤ lim) e
    rw [a0N.mp rp] at rs
    exact call_len_str pins s σ H _ us Q I rs ⟨z, rfl, a3E hl, retS sm q (a0h.mpr rfl)⟩
  | non => cases e
  | bl _ => cases e
  | int _ => cases e
  | obj _ _ _ => cases e
theorem cd_all (hK : X.K = Γ.K) (hc : X.calm = true) : CallR X (.builtin "all") (spR Γ W (f1 dAll)) := fun pins s σ H xs us Q I rs ⟨Hs, ds, r, sm, rl, e, q⟩ => by
  obtain ⟨d, rfl, e⟩ := a3f e
  obtain ⟨x, rfl, rp⟩ := a55 rl
  cases d with
  | lst ds =>
    have e : (blsOf ds).bind (fun bs => okB (bs.all id)) = some r := e
    cases h : blsOf ds with
    | none => rw [h] at e; cases e
    | some ns =>
      rw [h] at e
      cases e
      obtain ⟨a, ys, rfl, qa, la⟩ := a0J.mp rp
      have ey := la.blsOf h
      subst ey
      exact a7j hc pins s σ H _ us Q I rs ⟨a, ns, rfl, by rw [hK]; exact Same.seq sm qa, retS sm q (a0x.mpr rfl)⟩
  | tup _ => cases e
  | str _ => cases e
  | non => cases e
  | bl _ => cases e
  | int _ => cases e
  | obj _ _ _ => cases e
theorem a2e (hK : X.K = Γ.K) : CallR X (.type "tuple") (spR Γ W (f1 a2p)) := fun pins s σ H xs us Q I rs ⟨Hs, ds, r, sm, rl, e, q⟩ => by
  obtain ⟨d, rfl, e⟩ := a3f e
  obtain ⟨x, rfl, rp⟩ := a55 rl
  cases d with
  | tup ds =>
    cases e
    obtain ⟨a, ys, rfl, qa, la⟩ := a0G.mp rp
    exact call_tuple_of pins s σ H _ us Q I rs ⟨a, ys, rfl, .inr ⟨by rw [hK]; exact a0S sm qa, retS sm q rp⟩⟩
  | lst ds =>
    cases e
    obtain ⟨a, ys, rfl, qa, la⟩ := a0J.mp rp
    exact call_tuple_of pins s σ H _ us Q I rs ⟨a, ys, rfl, .inl ⟨by rw [hK]; exact Same.seq sm qa, fun p hp => a5m sm q la hp⟩⟩
  | str _ => cases e
  | non => cases e
  | bl _ => cases e
  | int _ => cases e
  | obj _ _ _ => cases e
theorem a7g (hK : X.K = Γ.K) : CallR X (.type "list") (spR Γ W (f1 a30)) := fun pins s σ H xs us Q I rs ⟨Hs, ds, r, sm, rl, e, q⟩ => by
  obtain ⟨d, rfl, e⟩ := a3f e
  obtain ⟨x, rfl, rp⟩ := a55 rl
  cases d with
  | tup ds =>
    cases e
    obtain ⟨a, ys, rfl, qa, la⟩ := a0G.mp rp
    exact call_list_of pins s σ H _ us Q I rs ⟨a, ys, rfl, .inr (by rw [hK]; exact a0S sm qa), fun p hp => a3z sm q la hp⟩
  | lst ds =>
    cases e
    obtain ⟨a, ys, rfl, qa, la⟩ := a0J.mp rp
    exact call_list_of pins s σ H _ us Q I rs ⟨a, ys, rfl, .inl (by rw [hK]; exact Same.seq sm qa), fun p hp => a3z sm q la hp⟩
  | str _ => cases e
  | non => cases e
  | bl _ => cases e
  | int _ => cases e
  | obj _ _ _ => cases e
theorem pd_isN {a : Expr} {g : ME} {j pos pos'} (h : PD X Γ W a g) : PD X Γ W (.Compare a [.Is] [.Constant .none j pos'] pos) (eUn dIsN g) := PE.imp (pe_cmp (pc_isN h)) fun _ _ σ H Q _ ⟨B0, B1, Hs, ρ, r, re, e, q⟩ => by
  refine (a1q re e q).mono fun v H1 ⟨Hs1, d, g1, re1, rp, e1, q1⟩ => ?_
  cases d with
  | non => cases e1; rw [a1Z.mp rp]; exact q1 _ Hs1 H1 (.refl re1.b.i) (RepS.of (a0x.mpr rfl))
  | bl _ => cases e1; rw [a0x.mp rp]; exact q1 _ Hs1 H1 (.refl re1.b.i) (RepS.of (a0x.mpr rfl))
  | int _ => cases e1; rw [a0h.mp rp]; exact q1 _ Hs1 H1 (.refl re1.b.i) (RepS.of (a0x.mpr rfl))
  | str _ => cases e1; rw [a0N.mp rp]; exact q1 _ Hs1 H1 (.refl re1.b.i) (RepS.of (a0x.mpr rfl))
  | tup _ => cases e1; obtain ⟨a, _, rfl, _⟩ := a0G.mp rp; exact q1 _ Hs1 H1 (.refl re1.b.i) (RepS.of (a0x.mpr rfl))
  | lst _ => cases e1; obtain ⟨a, _, rfl, _⟩ := a0J.mp rp; exact q1 _ Hs1 H1 (.refl re1.b.i) (RepS.of (a0x.mpr rfl))
  | obj _ _ _ => cases e1; obtain ⟨a, _, _, rfl, _⟩ := a5n.mp rp; exact q1 _ Hs1 H1 (.refl re1.b.i) (RepS.of (a0x.mpr rfl))
theorem ptd_isN {a : Expr} {g : ME} {j pos pos'} (h : PD X Γ W a g) : PTD X Γ W (.Compare a [.Is] [.Constant .none j pos'] pos) (eUn dIsN g) := PT.imp (pt_cmp (pc_isN h)) fun _ _ σ H Q _ t => by
  have t' := tT_of t
  obtain ⟨B0, B1, Hs, ρ, r, re, e, q⟩ := t'
  refine (a1q re e q).mono fun v H1 ⟨Hs1, d, g1, re1, rp, e1, q1⟩ => ?_
  cases d with
  | non => cases e1; rw [a1Z.mp rp]; exact q1 _ Hs1 H1 (.refl re1.b.i) (RepS.of (a0x.mpr rfl))
  | bl _ => cases e1; rw [a0x.mp rp]; exact q1 _ Hs1 H1 (.refl re1.b.i) (RepS.of (a0x.mpr rfl))
  | int _ => cases e1; rw [a0h.mp rp]; exact q1 _ Hs1 H1 (.refl re1.b.i) (RepS.of (a0x.mpr rfl))
  | str _ => cases e1; rw [a0N.mp rp]; exact q1 _ Hs1 H1 (.refl re1.b.i) (RepS.of (a0x.mpr rfl))
  | tup _ => cases e1; obtain ⟨a, _, rfl, _⟩ := a0G.mp rp; exact q1 _ Hs1 H1 (.refl re1.b.i) (RepS.of (a0x.mpr rfl))
  | lst _ => cases e1; obtain ⟨a, _, rfl, _⟩ := a0J.mp rp; exact q1 _ Hs1 H1 (.refl re1.b.i) (RepS.of (a0x.mpr rfl))
  | obj _ _ _ => cases e1; obtain ⟨a, _, _, rfl, _⟩ := a5n.mp rp; exact q1 _ Hs1 H1 (.refl re1.b.i) (RepS.of (a0x.mpr rfl))
def a3o (K : PySem.W.Frag) (T : String) : Prop := ∀ t ∈ ["NoneType", "bool", "int", "str", "tuple", "list"], PySem.W.kitOne K (.type t) (.type T) = some (t == T || (t == "bool" && T == "int"))
theorem tD_isT {T : String} {g : ME} (hK : X.K = Γ.K) (h : a3o X.K T) {σ : L2.St} {H : Hp} {Q : VK} (t : tD Γ W (eUn (dIsT T) g) σ H Q) :
    tD Γ W g σ H fun x H1 => ∃ y t U b, [x, V.ty T] = [y, V.ty U] ∧ (TyOf X.K H1 y (.type t) ∨ (t = "tuple" ∧ ∃ a xs, y = .ref a ∧ SqT X.K H1 a xs) ∨ (t = "list" ∧ ∃ a xs, y = .ref a ∧ SqL X.K H1 a xs)) ∧ PySem.W.kitOne X.K (.type t) (.type U) = some b ∧ Q (.bl b) H1 := by
  obtain ⟨B0, B1, Hs, ρ, r, re, e, q⟩ := t
  refine (a1q re e q).mono fun v H1 ⟨Hs1, d, g1, re1, rp, e1, q1⟩ => ?_
  have fin : ∀ t : String, dIsT T d = okB (t == T || (t == "bool" && T == "int")) → Q (.bl (t == T || (t == "bool" && T == "int"))) H1 := fun t z => by
    rw [z] at e1
    cases e1
    exact q1 _ Hs1 H1 (.refl re1.b.i) (RepS.of (a0x.mpr rfl))
  cases d with
  | non => rw [a1Z.mp rp]; exact ⟨_, "NoneType", T, _, rfl, .inl .non, h _ (by simp), fin _ rfl⟩
  | bl _ => rw [a0x.mp rp]; exact ⟨_, "bool", T, _, rfl, .inl (.bl _), h _ (by simp), fin _ rfl⟩
  | int _ => rw [a0h.mp rp]; exact ⟨_, "int", T, _, rfl, .inl (.int _), h _ (by simp), fin _ rfl⟩
  | str _ => rw [a0N.mp rp]; exact ⟨_, "str", T, _, rfl, .inl (.str _), h _ (by simp), fin _ rfl⟩
  | tup _ => obtain ⟨a, xs, rfl, qa, _⟩ := a0G.mp rp; exact ⟨_, "tuple", T, _, rfl, .inr (.inl ⟨rfl, a, xs, rfl, by rw [hK]; exact a0S re1.b.i qa⟩), h _ (by simp), fin _ rfl⟩
  | lst _ =>
    obtain ⟨a, xs, rfl, qa, _⟩ := a0J.mp rp
    exact ⟨_, "list", T, _, rfl, .inr (.inr ⟨rfl, a, xs, rfl, by rw [hK]; exact Same.seq re1.b.i qa⟩), h _ (by simp), fin _ rfl⟩
  | obj _ _ _ => cases e1
theorem a2Q {a : Expr} {g : ME} {T : String} {tn : Str} {p p' pos : Pos} (hK : X.K = Γ.K) (hk : a3o X.K T) (hg : Gl X "isinstance") (hm : X.mg "isinstance" = none) (hg2 : Gl X tn) (hm2 : X.mg tn = none) (hb : bootBuiltins tn = some (.type T)) (h : PD X Γ W a g)
    (hn : tn ≠ "__name__" := by decide) (hdb : (tn == ("__debug__" : Str)) = false := by decide) (hs1 : starEach [a, .Name tn p'] X.env = (false, eval a X.env) :: starEach [.Name tn p'] X.env := by rfl) (hs2 : starEach [.Name tn p'] X.env = (false, eval (.Name tn p') X.env) :: starEach [] X.env := by rfl)
    (hpl : (backTo pos (starEach [.Name tn p'] X.env)).any (·.1) = false := by rfl) : PD X Γ W (.Call (.Name "isinstance" p) [a, .Name tn p'] [] pos) (eUn (dIsT T) g) :=
  PE.imp (pe_callB a5H hg hm boot_isinstance (pa_cons h (pa_cons (pe_bltn (v := .ty T) hg2 hm2 hb rfl hn hdb) pa_nil hs2) hs1) (by decide) (by decide) hs1 hpl) fun _ _ _ _ _ _ t => tD_isT hK hk t
end
end L3
namespace L3
open PySem PySem.Spec PyProof.Rows L2
section
variable {X : Cx} {Γ : Ct} {W : XW} {i : Nat} {x : Str} {e ex : Expr} {ge gx : ME} {px apos cpos pos : Pos}
theorem a4U {i : Nat} {ρ : MEnv} {k : List D → Option Out} {o : Out} (h : ownL i ρ k = some o) : ∃ ds, ρ[i]? = some (some (.own (.lst ds))) ∧ k ds = some o := by
  unfold ownL at h
  split at h
  · rename_i ds hd; exact ⟨ds, hd, h⟩
  · cases h
theorem a1o (hv : PE X (.Name x px) (tVar i)) (he : PD X Γ W e ge) (hs : starEach [e] X.env = (false, eval e X.env) :: starEach [] X.env := by rfl)
    (hbase : attributeBase (.Name x px) "append" X.env (eval (.Name x px) X.env) = eval (.Name x px) X.env := by rfl)
    (hfew : ((backTo cpos (starEach [e] X.env)).all (fun x => !x.1) && (backToKw cpos (keywordEach [] X.env)).all (fun x => x.1.isSome) && decide ([e].length + ([] : List Keyword).length + (if ([] : List Keyword).isEmpty then 0 else 1) < 30)) = true := by rfl)
    (hline : (apos.endLine == cpos.line) = true := by rfl) (hplain : (backTo cpos (starEach [] X.env)).any (·.1) = false := by rfl) (hsw : swapsWith (.Call (.Attribute (.Name x px) "append" apos) [e] [] cpos) none pos.line X.env = pure false := by rfl) :
    PSD X Γ W (.Expr (.Call (.Attribute (.Name x px) "append" apos) [e] [] cpos) pos) (a0I i ge) :=
  PS.imp (ps_expr (pe_bm PySem.F.plainAttrs_list PySem.F.slot_list_append PySem.F.type_list_append mt_append hv (pa_cons he pa_nil hs) hbase hfew hline hs hplain) hsw) fun pins s σ H En I ⟨B0, B1, Hs, ρ, o, re, eo, q⟩ => by
    obtain ⟨ds, hd, eo⟩ := a4U eo
    obtain ⟨a, ho, e1, e2, e3, e4, xs, rfl, rl⟩ := re.own i _ hd
    refine ⟨.ref a, e1, .inl ⟨rfl, xs, .of e4⟩, (tD_O re eo q).mono fun y H1 ⟨Hs1, s, g1, rs, e5⟩ => ?_⟩
    obtain ⟨hl, rfl⟩ := a04 e5
    obtain ⟨Hs2, g2, _, rp⟩ := rs.share g1
    refine ⟨a, xs, y, rfl, rfl, g2.h _ _ e4, by rw [← rl.length]; exact Nat.lt_of_lt_of_le hl (by decide), q σ Hs2 _ g2.s ((re.grow g2).write hd e1 ⟨_, rfl, (rl.mono g2.s).append (.cons rp .nil)⟩)⟩
theorem a57 (hK : X.K = Γ.K) (hv : PE X (.Name x px) (tVar i)) (he : PD X Γ W e ge) (hs : starEach [e] X.env = (false, eval e X.env) :: starEach [] X.env := by rfl)
    (hbase : attributeBase (.Name x px) "extend" X.env (eval (.Name x px) X.env) = eval (.Name x px) X.env := by rfl)
    (hfew : ((backTo cpos (starEach [e] X.env)).all (fun x => !x.1) && (backToKw cpos (keywordEach [] X.env)).all (fun x => x.1.isSome) && decide ([e].length + ([] : List Keyword).length + (if ([] : List Keyword).isEmpty then 0 else 1) < 30)) = true := by rfl)
    (hline : (apos.endLine == cpos.line) = true := by rfl) (hplain : (backTo cpos (starEach [] X.env)).any (·.1) = false := by rfl) (hsw : swapsWith (.Call (.Attribute (.Name x px) "extend" apos) [e] [] cpos) none pos.line X.env = pure false := by rfl) :
    PSD X Γ W (.Expr (.Call (.Attribute (.Name x px) "extend" apos) [e] [] cpos) pos) (a3b i ge) :=
  PS.imp (ps_expr (pe_bm PySem.F.plainAttrs_list PySem.F.slot_list_extend PySem.F.type_list_extend (MtR.or a6g a6f) hv (pa_cons he pa_nil hs) hbase hfew hline hs hplain) hsw) fun pins s σ H En I ⟨B0, B1, Hs, ρ, o, re, eo, q⟩ => by
    obtain ⟨ds, hd, eo⟩ := a4U eo
    obtain ⟨a, ho, e1, e2, e3, e4, xs, rfl, rl⟩ := re.own i _ hd
    refine ⟨.ref a, e1, .inl ⟨rfl, xs, .of e4⟩, (tD_O re eo q).mono fun y H1 ⟨Hs1, s, g1, rs, e5⟩ => ?_⟩
    obtain ⟨Hs2, g2, _, rp⟩ := rs.share g1
    have wr : ∀ {es : List D} {ys : List V}, RepL Γ Hs2 es ys → o = .next (ρ.set i (some (.own (.lst (ds ++ es))))) → En.nx σ (upd H1 a (.lst (xs ++ ys))) := fun {es ys} rl2 eo => by
      subst eo
      exact q σ Hs2 _ g2.s ((re.grow g2).write hd e1 ⟨_, rfl, (rl.mono g2.s).append rl2⟩)
    cases hv : s.val with
    | lst es =>
      rw [hv] at e5 rp
      obtain ⟨hl, eo⟩ := a04 (c := ds.length + es.length ≤ lim) e5
      obtain ⟨b, ys, rfl, rd, rl2⟩ := a0J.mp rp
      exact .inl ⟨a, b, xs, ys, rfl, rfl, g2.h _ _ e4, by rw [hK]; exact Same.seq g2.i rd, by rw [← rl.length, ← rl2.length]; exact a3E hl, wr rl2 eo.symm⟩
    | tup es =>
      rw [hv] at e5 rp
      obtain ⟨hl, eo⟩ := a04 (c := ds.length + es.length ≤ lim) e5
      obtain ⟨b, ys, rfl, sq, rl2⟩ := a0G.mp rp
      exact .inr ⟨a, b, xs, ys, rfl, rfl, g2.h _ _ e4, by rw [hK]; exact a0S g2.i sq, by rw [← rl.length, ← rl2.length]; exact a3E hl, wr rl2 eo.symm⟩
    | non => rw [hv] at e5; cases e5
    | bl _ => rw [hv] at e5; cases e5
    | int _ => rw [hv] at e5; cases e5
    | str _ => rw [hv] at e5; cases e5
    | obj _ _ _ => rw [hv] at e5; cases e5
end
def W0 : XW := fun _ _ _ => False
theorem re_start {Γ : Ct} {Hs H : Hp} (sm : Same Hs H) {N : List Str} {ds : List D} {vs : List V} (rl : RepL Γ Hs ds vs) : RE Γ Hs H Hs H (L2.start N vs) (a2c N.length ds) := by
  have hl := rl.length
  have at' : ∀ (i : Nat) (s : S), (a2c N.length ds)[i]? = some (some s) → ∃ d, s = .sh d ∧ ds[i]? = some d := fun i s e => by
    unfold a2c at e
    by_cases hi : i < ds.length
    · rw [List.getElem?_append_left (by simpa using hi), List.getElem?_map, List.getElem?_eq_getElem hi] at e
      cases e
      exact ⟨ds[i], rfl, List.getElem?_eq_getElem hi⟩
    · rw [List.getElem?_append_right (by simpa using hi), List.getElem?_replicate] at e
      split at e <;> cases e
  refine ⟨.refl sm, fun i d e => ?_, fun i o e => ?_, fun i j o u a _ e => ?_, ?_⟩
  · obtain ⟨d', e1, e2⟩ := at' i _ e
    cases e1
    obtain ⟨v, e3, q⟩ := rl.get e2
    refine ⟨v, ?_, q⟩
    have hi : i < vs.length := (List.getElem?_eq_some_iff.mp e3).1
    unfold L2.start
    rw [List.getElem?_append_left (by simpa using hi), List.getElem?_map, e3]
    rfl
  · obtain ⟨_, e1, _⟩ := at' i _ e; cases e1
  · obtain ⟨_, e1, _⟩ := at' i _ e; cases e1
  · unfold a2c L2.start
    rw [List.length_append, List.length_append, List.length_map, List.length_map, List.length_replicate, List.length_replicate, hl]
section
variable {P : Program} {w : World} {K : PySem.W.Frag} {mg : Str → Option Value} {base : Heap} {Γ : Ct}
theorem a5W {np n : Nat} {g : MC} {ds : List D} {r : R} (h : fnD np n g ds = some r) : ds.length = np ∧ outR (g (a2c n ds)) = some r := by
  unfold fnD at h
  by_cases z : ds.length = np
  · rw [if_pos z] at h; exact ⟨z, h⟩
  · rw [if_neg z] at h; cases h
theorem fn_D {x qual : Str} {st : Stmt} {f : Addr} {fd : FuncData} {N ps : List Str} {k : Nat} {g : MC} (F : Fun K x qual st f fd) (S : FnScope N ps (defScope st))
    (body : ∀ (cdv : Value) (A : Around) (outer : List PySem.Env) (s : Shared) (H : Hp) (E : XK), Room k (A.deeper (envOfC qual (defScope st) s.heap.objs.size f cdv)) → PSsD (cxOf CX0 P w K mg base N qual (defScope st) f cdv A outer s H E).nox Γ W0 (defBody st) g) :
    FnOk P w K mg base CX0 (k + 1) f fd ps (spD Γ W0 (fnD ps.length N.length g)) := by
  refine F.ok S (fun vs H Q E ⟨Hs, ds, r, sm, rl, e, q⟩ => ?_) (fun cdv A outer s H vs Q E hr ⟨Hs, ds, r, sm, rl, e, q⟩ => ?_)
  · rw [← rl.length]; exact (a5W e).1
  · obtain ⟨_, e⟩ := a5W e
    refine ⟨tS Γ W0 g, body cdv A outer s H E hr, ?_⟩
    cases h : g (a2c N.length ds) with
    | none => rw [h] at e; cases e
    | some o =>
      rw [h] at e
      refine ⟨Hs, H, Hs, a2c N.length ds, o, re_start sm rl, h, ?_⟩
      cases o with
      | next ρ' => cases e; exact fun σ' Hs' H' _ re => q .non Hs' H' re.b (RepS.of (a1Z.mpr rfl))
      | brk ρ' => cases e
      | cont ρ' => cases e
      | ret s => cases e; exact fun v Hs' H' _ g' rs => q v Hs' H' g' rs
      | exc x => cases e; exact fun Hs' H' _ g' => q Hs' H' g'
theorem fn_rec {x qual : Str} {st : Stmt} {f : Addr} {fd : FuncData} {N ps : List Str} {k : Nat} {g : (List D → Option R) → MC} (F : Fun K x qual st f fd) (S : FnScope N ps (defScope st))
    (body : ∀ (G : List D → Option R) (j : Nat), k ≤ j → FnOk P w K mg base CX0 j f fd ps (spD Γ W0 G) → ∀ (cdv : Value) (A : Around) (outer : List PySem.Env) (s : Shared) (H : Hp) (E : XK), Room j (A.deeper (envOfC qual (defScope st) s.heap.objs.size f cdv)) → PSsD (cxOf CX0 P w K mg base N qual (defScope st) f cdv A outer s H E).nox Γ W0 (defBody st) (g G)) :
    ∀ n, FnOk P w K mg base CX0 (k + n) f fd ps (spD Γ W0 (n.rec (fun _ => none) fun _ G => fnD ps.length N.length (g G)))
  | 0 => ⟨fun vs H Q E ⟨Hs, ds, r, _, _, e, _⟩ => (nomatch e), fun A outer s H args us vs Q E _ _ _ _ ⟨Hs, ds, r, _, _, e, _⟩ => (nomatch e)⟩
  | n + 1 => fn_D F S (body _ (k + n) (Nat.le_add_right _ _) (fn_rec F S body n))
theorem FnOk.le {f : Addr} {fd : FuncData} {ps : List Str} {k : Nat} {F G : List D → Option R} (h : FnOk P w K mg base CX0 k f fd ps (spD Γ W0 F)) (l : ∀ ds r, G ds = some r → F ds = some r) : FnOk P w K mg base CX0 k f fd ps (spD Γ W0 G) :=
  h.imp fun vs H Q E ⟨Hs, ds, r, sm, rl, e, q⟩ => ⟨Hs, ds, r, sm, rl, l _ _ e, q⟩
end
theorem a43 (K : PySem.W.Frag) : a3o K "tuple" ∧ a3o K "list" ∧ a3o K "bool" ∧ a3o K "int" ∧ a3o K "str" := by
  refine ⟨?_, ?_, ?_, ?_, ?_⟩ <;>
  · intro t ht
    have : t = "NoneType" ∨ t = "bool" ∨ t = "int" ∨ t = "str" ∨ t = "tuple" ∨ t = "list" := by simpa using ht
    rcases this with rfl | rfl | rfl | rfl | rfl | rfl <;> rfl
end L3
namespace L3
open PySem PySem.Spec PyProof.Rows L2
def FnN (P : Program) (w : World) (K : PySem.W.Frag) (mg : Str → Option Value) (base : Heap) (Γ : Ct) (k : Nat) (x : Str) (ps : List Str) (F : List D → Option R) : Prop :=
  ∃ f fd, FnOk P w K mg base CX0 k f fd ps (spD Γ W0 F) ∧ mg x = some (.ref f) ∧ PySem.W.keepIn K (.ref f) = true ∧ Binds K fd ps []
section
variable {X : Cx} {Γ : Ct} {k : Nat} {ps : List Str} {x : Str} {p pos : Pos} {e : Expr} {es : List Expr} {gs : List ME} {F : List D → Option R}
theorem a1d (h : FnN X.prog X.w X.K X.mg X.base Γ k x ps F) (hr : Room k X.A) (hg : Gl X x) (ha : PAD X Γ W0 (e :: es) gs) (hdb : (x == ("__debug__" : Str)) = false := by decide) (he : starEach (e :: es) X.env = (false, eval e X.env) :: starEach es X.env := by rfl) (hpl : (backTo pos (starEach es X.env)).any (·.1) = false := by rfl) :
    PD X Γ W0 (.Call (.Name x p) (e :: es) [] pos) (a0g F gs) := by
  obtain ⟨f, fd, G, hm, hk, hb⟩ := h
  exact pd_call G hr hg hm hk hb ha hdb he hpl
end
structure Laid (K : PySem.W.Frag) (mg : Str → Option Value) (x : Str) (st : Stmt) (ps : List Str) : Prop where
  ex : ∃ f fd, Fun K x x st f fd ∧ mg x = some (.ref f) ∧ Binds K fd ps []
section
variable {P : Program} {w : World} {K : PySem.W.Frag} {mg : Str → Option Value} {base : Heap} {Γ : Ct}
theorem a2h {x : Str} {st : Stmt} {N ps : List Str} {k : Nat} {g : MC} (L : Laid K mg x st ps) (S : FnScope N ps (defScope st))
    (body : ∀ (f : Addr) (cdv : Value) (A : Around) (outer : List PySem.Env) (s : Shared) (H : Hp) (E : XK), Room k (A.deeper (envOfC x (defScope st) s.heap.objs.size f cdv)) → PSsD (cxOf CX0 P w K mg base N x (defScope st) f cdv A outer s H E).nox Γ W0 (defBody st) g) :
    FnN P w K mg base Γ (k + 1) x ps (fnD ps.length N.length g) := by
  obtain ⟨f, fd, F, hm, hb⟩ := L.ex
  exact ⟨f, fd, fn_D F S (body f), hm, F.kp, hb⟩
theorem a6m {x : Str} {st : Stmt} {N ps : List Str} {k : Nat} {g : (List D → Option R) → MC} (L : Laid K mg x st ps) (S : FnScope N ps (defScope st))
    (body : ∀ (f : Addr) (G : List D → Option R) (j : Nat), k ≤ j → FnN P w K mg base Γ j x ps G → ∀ (cdv : Value) (A : Around) (outer : List PySem.Env) (s : Shared) (H : Hp) (E : XK), Room j (A.deeper (envOfC x (defScope st) s.heap.objs.size f cdv)) → PSsD (cxOf CX0 P w K mg base N x (defScope st) f cdv A outer s H E).nox Γ W0 (defBody st) (g G)) (n : Nat) :
    FnN P w K mg base Γ (k + n) x ps (n.rec (fun _ => none) fun _ G => fnD ps.length N.length (g G)) := by
  obtain ⟨f, fd, F, hm, hb⟩ := L.ex
  exact ⟨f, fd, fn_rec F S (fun G j hj ok => body f G j hj ⟨f, fd, ok, hm, F.kp, hb⟩) n, hm, F.kp, hb⟩
theorem FnN.mono {j k : Nat} {x : Str} {ps : List Str} {F : List D → Option R} (h : FnN P w K mg base Γ j x ps F) (l : j ≤ k) : FnN P w K mg base Γ k x ps F := by
  obtain ⟨f, fd, G, r⟩ := h
  exact ⟨f, fd, G.mono l, r⟩
theorem FnN.le {k : Nat} {x : Str} {ps : List Str} {F G : List D → Option R} (h : FnN P w K mg base Γ k x ps F) (l : ∀ ds r, G ds = some r → F ds = some r) : FnN P w K mg base Γ k x ps G := by
  obtain ⟨f, fd, o, r⟩ := h
  exact ⟨f, fd, FnOk.le o l, r⟩
theorem a1M {h : Heap} (X : K.In h) (G : h.Ns mainGlobals mg) {x : Str} {st : Stmt} {ps : List Str} {f : Addr} {oc : Value} {od an : Option Addr} {osl : Array (Option Value)} {kV doc pm cdv ct : Value} (a : PySem.W.nsIn K mainGlobals x = some (some (.ref f)))
    (l : K.lookup f = some ⟨oc, od, .func (PySem.W.fnOf x x (defArgs st) (defBody st) (defScope st) .none kV doc pm an cdv ct), osl⟩) (c : PySem.W.codeIn K cdv x = true) (k : PySem.W.keepIn K (.ref f) = true)
    (hb : ∀ (kV doc pm : Value) (an : Option Addr) (cdv ct : Value) (us : List Value), us.length = ps.length → bindArgs (PySem.W.fnOf x x (defArgs st) (defBody st) (defScope st) .none kV doc pm an cdv ct) ⟨us, []⟩ = pure (ps.zip us)) : Laid K mg x st ps :=
  ⟨f, _, fun_mk l c k, PySem.W.mg_of X G a, (fun_mk l c k).binds hb⟩
end
theorem a3I (K : PySem.W.Frag) : a3o K "tuple" := (a43 K).1
theorem a4x (K : PySem.W.Frag) : a3o K "list" := (a43 K).2.1
theorem kit_bool (K : PySem.W.Frag) : a3o K "bool" := (a43 K).2.2.1
theorem kit_int (K : PySem.W.Frag) : a3o K "int" := (a43 K).2.2.2.1
theorem a61 (K : PySem.W.Frag) : a3o K "str" := (a43 K).2.2.2.2
theorem a1w : bootBuiltins "tuple" = some (.type "tuple") := by decide +kernel
theorem a3Q : bootBuiltins "list" = some (.type "list") := by decide +kernel
theorem bt_bool : bootBuiltins "bool" = some (.type "bool") := by decide +kernel
theorem bt_int : bootBuiltins "int" = some (.type "int") := by decide +kernel
theorem bt_str : bootBuiltins "str" = some (.type "str") := by decide +kernel
theorem bt_all : bootBuiltins "all" = some (.builtin "all") := by decide +kernel
def spLaw (K : PySem.W.Frag) : Sp := fun vs H Q _ => ∃ (a : Addr) (ns : List Int), vs = [.ref a] ∧ SqL K H a (ns.map V.int) ∧ ns.length ≤ 63 ∧ ∀ H', Q (.bl true) H'
theorem law_sp {P : Program} {w : World} {K : PySem.W.Frag} {mg : Str → Option Value} {base : Heap} {cls : String → Addr} {k : Nat} {f : Addr} {fd : FuncData} {x : Str} {F : List D → Option R} (h : FnOk P w K mg base CX0 k f fd [x] (spD ⟨K, cls⟩ W0 F))
    (T : ∀ ns : List Int, ns.length ≤ 63 → F [.lst (ns.map D.int)] = some (.ok (.sh (.bl true)))) : FnOk P w K mg base CX0 k f fd [x] (spLaw K) :=
  h.imp fun vs H Q E ⟨a, ns, ev, hS, hl, q⟩ => by
    subst ev
    refine ⟨H, [.lst (ns.map D.int)], _, .refl _, .cons (a0J.mpr ⟨a, _, rfl, hS, RepL.ints ns⟩) .nil, T ns hl, fun v Hs' H' g rs => ?_⟩
    have rs' : Rep ⟨K, cls⟩ Hs' (.bl true) v := rs
    rw [a0x.mp rs']
    exact q H'
theorem law_walk {l : PySem.W.OpenLaw} {q : Program} {loose : List Str} {XP : (Str → Option Value) → Heap → Prop} {YP : World → Heap → Prop} {d : DefRec} {K : Params → PySem.W.Frag} {k : Nat} {x : Str} (hk : k ≤ 60) (hn : l.most = some 63) (hdf : d.params.defaults = [])
    (hY : ∀ (w : World) (h : Heap), YP w h → (K w.params).In h)
    (F : ∀ (w : World) (mg : Str → Option Value) (fa : Addr) (h : Heap), (K w.params).In h → h.Ns mainGlobals mg → mg d.name = some (.ref fa) →
      ∃ fd : FuncData, (∀ (s : Shared) (u : Value), BindsTo s fd ⟨[u], []⟩ [(x, u)]) ∧ ∀ base : Heap, FnOk l.prog w (K w.params) mg base CX0 k fa fd [x] (spLaw (K w.params))) :
    PySem.W.WalkO q loose XP YP l.row.toRowW d [] (fun f vs => PySem.call f vs) :=
  L2.walk_of (n := 63) (k := k) (x := x) (CX := fun _ => CX0) (sp := fun w => spLaw (K w.params)) hn (by decide) hdf (Room.mono (k := 60) ⟨rfl, by decide, by decide⟩ hk) hY (fun w mg fa h KX G hm => by
    obtain ⟨fd, hb, ok⟩ := F w mg fa h KX G hm
    exact ⟨fd, hb, fun base _ _ => ok base⟩) (fun _ _ a ns hl _ hS => ⟨a, ns, rfl, hS, hl, fun _ => rfl⟩) fun _ _ _ _ _ z => z
end L3
namespace L3
open PySem PySem.Spec PyProof.Rows L2
section
variable {X : Cx} {Γ : Ct} {W : XW}
theorem a4r : OpR X (binaryOp .LShift) (rD Γ W dShl) := fun pins s σ H x y v u Q I rx ry ⟨Hs, d1, d2, r, sm, r1, r2, e, q⟩ => by
  obtain ⟨i, j, rfl, rfl, e⟩ := a1H (f := fun i j => if 0 ≤ j ∧ j ≤ 1000000 ∧ i.natAbs < 2 ^ 64 then okI (i * 2 ^ j.toNat) else none) (fun _ _ => rfl) e
  obtain ⟨h, rfl⟩ := a04 e
  exact op_shl pins s σ H x y v u Q I rx ry ⟨i, j, a0h.mp r1, a0h.mp r2, h, retS sm q (a0h.mpr rfl)⟩
theorem opd_shr : OpR X (binaryOp .RShift) (rD Γ W dShr) := fun pins s σ H x y v u Q I rx ry ⟨Hs, d1, d2, r, sm, r1, r2, e, q⟩ => by
  obtain ⟨i, j, rfl, rfl, e⟩ := a1H (f := fun i j => if 0 ≤ j then okI (i / 2 ^ j.toNat) else none) (fun _ _ => rfl) e
  obtain ⟨h, rfl⟩ := a04 e
  exact op_shr pins s σ H x y v u Q I rx ry ⟨i, j, a0h.mp r1, a0h.mp r2, h, retS sm q (a0h.mpr rfl)⟩
theorem a5q : OpR X (binaryOp .Pow) (rD Γ W dPow) := fun pins s σ H x y v u Q I rx ry ⟨Hs, d1, d2, r, sm, r1, r2, e, q⟩ => by
  obtain ⟨i, j, rfl, rfl, e⟩ := a1H (f := fun i j => if 0 ≤ j ∧ j ≤ 1000000 ∧ i.natAbs < 2 ^ 64 then okI (i ^ j.toNat) else none) (fun _ _ => rfl) e
  obtain ⟨h, rfl⟩ := a04 e
  exact op_pow pins s σ H x y v u Q I rx ry ⟨i, j, a0h.mp r1, a0h.mp r2, h, retS sm q (a0h.mpr rfl)⟩
theorem bAnd_pp {x y : Int} (hx : 0 ≤ x) (hy : 0 ≤ y) : Builtin.bitAnd x y = ((x.toNat &&& y.toNat : Nat) : Int) := by simp [Builtin.bitAnd, hx, hy]
theorem bOr_pp {x y : Int} (hx : 0 ≤ x) (hy : 0 ≤ y) : Builtin.bitOr x y = ((x.toNat ||| y.toNat : Nat) : Int) := by
  obtain ⟨a, rfl⟩ : ∃ a : Nat, x = a := ⟨x.toNat, by omega⟩
  obtain ⟨b, rfl⟩ : ∃ b : Nat, y = b := ⟨y.toNat, by omega⟩
  have h1 : ¬ (0 : Int) ≤ Builtin.bitNot (a : Int) := by unfold Builtin.bitNot; omega
  have h2 : ¬ (0 : Int) ≤ Builtin.bitNot (b : Int) := by unfold Builtin.bitNot; omega
  unfold Builtin.bitOr Builtin.bitAnd
  rw [decide_eq_false h1, decide_eq_false h2]
  dsimp only
  have e1 : Builtin.bitNot (Builtin.bitNot (a : Int)) = a := by unfold Builtin.bitNot; omega
  have e2 : Builtin.bitNot (Builtin.bitNot (b : Int)) = b := by unfold Builtin.bitNot; omega
  rw [e1, e2]
  simp only [Int.toNat_natCast]
  unfold Builtin.bitNot
  omega
theorem opd_band : OpR X (binaryOp .BitAnd) (rD Γ W a47) := fun pins s σ H x y v u Q I rx ry ⟨Hs, d1, d2, r, sm, r1, r2, e, q⟩ => by
  obtain ⟨i, j, rfl, rfl, e⟩ := a1H (f := fun i j => if 0 ≤ i ∧ 0 ≤ j then okI ((i.toNat &&& j.toNat : Nat) : Int) else none) (fun _ _ => rfl) e
  obtain ⟨h, rfl⟩ := a04 e
  exact op_and pins s σ H x y v u Q I rx ry ⟨i, j, a0h.mp r1, a0h.mp r2, by dsimp only; rw [bAnd_pp h.1 h.2]; exact retS sm q (a0h.mpr rfl)⟩
theorem a5r : OpR X (binaryOp .BitOr) (rD Γ W dBor) := fun pins s σ H x y v u Q I rx ry ⟨Hs, d1, d2, r, sm, r1, r2, e, q⟩ => by
  obtain ⟨i, j, rfl, rfl, e⟩ := a1H (f := fun i j => if 0 ≤ i ∧ 0 ≤ j then okI ((i.toNat ||| j.toNat : Nat) : Int) else none) (fun _ _ => rfl) e
  obtain ⟨h, rfl⟩ := a04 e
  exact op_or pins s σ H x y v u Q I rx ry ⟨i, j, a0h.mp r1, a0h.mp r2, by dsimp only; rw [bOr_pp h.1 h.2]; exact retS sm q (a0h.mpr rfl)⟩
section
variable {a b c : Expr} {ga gb gc : ME} {pos : Pos}
theorem pd_un {op : UnaryOp} {f : D → Option R} {rr : V → Hp → VK → Prop} (ho : UnR X (unaryOp op) rr) (hf : ∀ d v Hs H r Q, Same Hs H → Rep Γ Hs d v → f d = some r → RQ Γ W Hs H r Q → rr v H Q) (ha : PD X Γ W a ga) : PD X Γ W (.UnaryOp op a pos) (eUn f ga) :=
  PE.imp (pe_un ho ha) fun _ _ σ H Q _ t => by
    obtain ⟨B0, B1, Hs, ρ, r, re, e, q⟩ := t
    exact (a1q re e q).mono fun v H1 ⟨Hs1, d, g1, re1, rp, e1, q1⟩ => hf d v Hs1 H1 r Q re1.b.i rp e1 q1
theorem pd_usub (ha : PD X Γ W a ga) : PD X Γ W (.UnaryOp .USub a pos) (eUn dNeg ga) := pd_un un_neg (fun d v Hs H r Q sm rp e q => by
  cases d with
  | int i => cases e; exact ⟨i, a0h.mp rp, retS sm q (a0h.mpr rfl)⟩
  | non => cases e
  | bl _ => cases e
  | str _ => cases e
  | tup _ => cases e
  | lst _ => cases e
  | obj _ _ _ => cases e) ha
end
theorem cd_abs : CallR X (.builtin "abs") (spR Γ W (f1 dAbs)) := fun pins s σ H xs us Q I rs ⟨Hs, ds, r, sm, rl, e, q⟩ => by
  obtain ⟨d, rfl, e⟩ := a3f e
  obtain ⟨x, rfl, rp⟩ := a55 rl
  cases d with
  | int i => cases e; exact call_abs pins s σ H _ us Q I rs ⟨i, by rw [a0h.mp rp], retS sm q (a0h.mpr rfl)⟩
  | non => cases e
  | bl _ => cases e
  | str _ => cases e
  | tup _ => cases e
  | lst _ => cases e
  | obj _ _ _ => cases e
theorem cd_int : CallR X (.type "int") (spR Γ W (f1 dInt)) := fun pins s σ H xs us Q I rs ⟨Hs, ds, r, sm, rl, e, q⟩ => by
  obtain ⟨d, rfl, e⟩ := a3f e
  obtain ⟨x, rfl, rp⟩ := a55 rl
  cases d with
  | int i => cases e; exact call_int1 pins s σ H _ us Q I rs (.inl ⟨i, by rw [a0h.mp rp], retS sm q (a0h.mpr rfl)⟩)
  | bl b => cases e; exact call_int1 pins s σ H _ us Q I rs (.inr ⟨b, by rw [a0x.mp rp], retS sm q (a0h.mpr rfl)⟩)
  | non => cases e
  | str _ => cases e
  | tup _ => cases e
  | lst _ => cases e
  | obj _ _ _ => cases e
theorem bt_abs : bootBuiltins "abs" = some (.builtin "abs") := by decide +kernel
end
end L3
namespace L3
open PySem PySem.Spec PyProof.Rows L2
section
variable {X : Cx} {Γ : Ct} {W : XW}
theorem a3q {K : PySem.W.Frag} {Hx Hy : Hp} {bb : Bool} {l : Addr} {zs : List V} (k : Same Hx Hy) (s : SqX K Hx bb l zs) : SqX K Hy bb l zs := by
  cases bb with
  | true => exact Same.seq k s
  | false => exact a0S k s
theorem a3t {a : Expr} {ga : ME} {p pos tp : Pos} {elts : List Expr} {kt : Nat} (hK : X.K = Γ.K) (hg : Gl X "enumerate") (hm : X.mg "enumerate" = none) (ha : PD X Γ W a ga) (hs1 : starEach [a] X.env = (false, eval a X.env) :: starEach [] X.env := by rfl) (hs3 : starEach [a] X.env = [(false, eval a X.env)] := by rfl) :
    PID X Γ W (.Tuple elts kt tp) (.Call (.Name "enumerate" p) [a] [] pos) (a3Z ga) := PI.imp (pi_enum hg hm (pa_cons ha pa_nil hs1) hs3) fun _ _ σ H Q _ ⟨B0, B1, Hs, ρ, r, re, e, q⟩ => by
  refine (tD_I re e q).mono fun v H1 ⟨Hs1, d, g1, re1, rp, e1, q1⟩ => ?_
  have sm := re1.b.i
  have step : ∀ (bb : Bool) (l : Addr) (xs : List V) (ds : List D), v = .ref l → SqX X.K Hs1 bb l xs → RepL Γ Hs1 ds xs → r = .ok ((List.range ds.length).zipWith (fun (i : Nat) d => D.tup [.int i, d]) ds) → ∃ b l, [v] = [V.ref l] ∧ (∃ xs, SqX X.K H1 b l xs) ∧ Q (Ite X.K b l) H1 := fun bb l xs ds ev s1 rl er => by
    subst ev er
    have hlen : ((List.range ds.length).zipWith (fun (i : Nat) d => D.tup [.int i, d]) ds).length = ds.length := by rw [List.length_zipWith, List.length_range, Nat.min_self]
    refine ⟨bb, l, rfl, ⟨xs, a3q sm s1⟩, q1 _ Hs1 H1 (.refl sm) ⟨fun i Hs3 H3 hi k1 k2 => ?_, fun Hs3 H3 k1 k2 => ?_, fun i Hs3 H3 x H4 hi k1 k2 y => ?_⟩⟩
    · rw [hlen] at hi
      have i1 : i < xs.length := by rw [← rl.length]; omega
      exact ⟨xs, xs[i], a3q (k1.trans k2) s1, List.getElem?_eq_getElem i1⟩
    · exact ⟨xs, a3q (k1.trans k2) s1, by rw [hlen, rl.length]; exact Nat.le_refl _⟩
    · rw [hlen] at hi
      obtain ⟨p, u, rfl, hp, rfl, f1⟩ := y
      obtain ⟨x1, e1, q1'⟩ := rl.get (List.getElem?_eq_getElem hi)
      have z1 := f1 xs (a3q (k1.trans k2) s1)
      rw [e1] at z1
      cases z1
      refine ⟨.tup [.int i, ds[i]], upd Hs3 p (.tup [.int i, u]), ?_, .new k2 hp, ?_⟩
      · rw [List.getElem?_zipWith, List.getElem?_range hi, List.getElem?_eq_getElem hi]
      · have k3 : Same Hs3 (upd Hs3 p (.tup [.int i, u])) := a1r (k2.free hp)
        exact a0G.mpr ⟨p, [.int i, u], rfl, .of upd_same, .cons (a0h.mpr rfl) (.cons ((q1'.mono k1).mono k3) .nil)⟩
  cases d with
  | lst ds =>
    cases e1
    obtain ⟨l, xs, ev, s1, rl⟩ := a0J.mp rp
    rw [← hK] at s1
    exact step true l xs ds ev s1 rl rfl
  | tup ds =>
    cases e1
    obtain ⟨l, xs, ev, s1, rl⟩ := a0G.mp rp
    rw [← hK] at s1
    exact step false l xs ds ev s1 rl rfl
  | non => cases e1
  | bl _ => cases e1
  | int _ => cases e1
  | str _ => cases e1
  | obj _ _ _ => cases e1
theorem a3a (n d : Nat) (o : Option Int) : HT.sIx n d o = sIxD n d o := by cases o <;> rfl
theorem a4H {H : Hp} {ds : List D} {xs : List V} (rl : RepL Γ H ds xs) (lo hi : Option Int) : RepL Γ H (cutD ds lo hi) (cutV xs lo hi) := by
  unfold cutD cutV
  rw [a3a, a3a, ← rl.length]
  exact (rl.drop _).take _
def rSlice (Γ : Ct) (W : XW) : V → Option Int → Option Int → Hp → VK → Prop := fun v lo hi H Q => ∃ Hs d r, Same Hs H ∧ Rep Γ Hs d v ∧ dSlice d lo hi = some r ∧ RQ Γ W Hs H r Q
theorem sld (hK : X.K = Γ.K) : SlR X (rSlice Γ W) := fun pins s σ H x v vl vu lo hi sl Q I rx hs pl pu ⟨Hs, d, r, sm, rp, e, q⟩ => by
  cases d with
  | tup ds =>
    obtain ⟨a, xs, rfl, sq, rl⟩ := a0G.mp rp
    have e' : (if sIxD ds.length 0 lo = 0 ∧ sIxD ds.length ds.length hi = ds.length then none else okD (.tup (cutD ds lo hi))) = some r := e
    by_cases hw : sIxD ds.length 0 lo = 0 ∧ sIxD ds.length ds.length hi = ds.length
    · rw [if_pos hw] at e'; cases e'
    · rw [if_neg hw] at e'
      cases e'
      exact sl_tup pins s σ H _ v vl vu lo hi sl Q I rx hs pl pu ⟨a, xs, rfl, by rw [hK]; exact a0S sm sq, by rw [a3a, a3a, ← rl.length]; exact hw, fun p hp => a5m sm q (a4H rl lo hi) hp⟩
  | lst ds =>
    obtain ⟨a, xs, rfl, sq, rl⟩ := a0J.mp rp
    cases e
    exact sl_list pins s σ H _ v vl vu lo hi sl Q I rx hs pl pu ⟨a, xs, rfl, by rw [hK]; exact Same.seq sm sq, fun p hp => a3z sm q (a4H rl lo hi) hp⟩
  | non => cases e
  | bl _ => cases e
  | int _ => cases e
  | str _ => cases e
  | obj _ _ _ => cases e
def tP (Γ : Ct) (W : XW) (o : Option ME) : TO := match o with
  | none => tNoPart
  | some g => tPart (tD Γ W g)
abbrev POD (X : Cx) (Γ : Ct) (W : XW) (e : Option Expr) (o : Option ME) : Prop := PO X e (tP Γ W o)
theorem a3s : POD X Γ W none none := po_none
theorem a3r {e : Expr} {g : ME} (h : PD X Γ W e g) : POD X Γ W (some e) (some g) := po_some h
theorem a2X {o : Option ME} {B0 B1 Hs H : Hp} {σ : L2.St} {ρ : MEnv} {k : Option Int → Option R} {r : R} {Q : VK} (re : RE Γ B0 B1 Hs H σ ρ) (e : partD o ρ k = some r) (q : RQ Γ W Hs H r Q) {Q' : Option Int → Hp → Prop}
    (h : ∀ i H1 Hs1, Grow Hs H Hs1 H1 → RE Γ B0 B1 Hs1 H1 σ ρ → k i = some r → RQ Γ W Hs1 H1 r Q → Q' i H1) : tP Γ W o σ H Q' := by
  cases o with
  | none => exact h none H Hs (.refl re.b.i) re e q
  | some g =>
    have e' : a0Y (g ρ) (fun d => match d with | .int i => k (some i) | _ => none) = some r := e
    refine (a1q re e' q).mono fun v H1 ⟨Hs1, d, g1, re1, rp, e1, q1⟩ => ?_
    cases d with
    | int i => exact ⟨i, a0h.mp rp, h (some i) H1 Hs1 g1 re1 e1 q1⟩
    | non => cases e1
    | bl _ => cases e1
    | str _ => cases e1
    | tup _ => cases e1
    | lst _ => cases e1
    | obj _ _ _ => cases e1
theorem a5T {e : Expr} {g : ME} {lo hi : Option Expr} {gl gh : Option ME} {pos p2 : Pos} (hK : X.K = Γ.K) (he : PD X Γ W e g) (hl : POD X Γ W lo gl) (hh : POD X Γ W hi gh) : PD X Γ W (.Subscript e (.Slice lo hi none p2) pos) (a15 g gl gh) :=
  PE.imp (pe_slice (sld hK) he hl hh) fun _ _ σ H Q _ ⟨B0, B1, Hs, ρ, r, re, e, q⟩ => by
    refine (a1q re e q).mono fun v H1 ⟨Hs1, d, g1, re1, rp, e1, q1⟩ => ?_
    refine a2X re1 e1 q1 fun l H2 Hs2 g2 re2 e2 q2 => ?_
    refine a2X re2 e2 q2 fun u H3 Hs3 g3 re3 e3 q3 => ?_
    exact ⟨Hs3, d, r, re3.b.i, (rp.mono g2.s).mono g3.s, e3, q3⟩
end
end L3
namespace L3
open PySem PySem.Spec PyProof.Rows L2
section
variable {X : Cx} {Γ : Ct} {W : XW}
end
end L3
namespace L3
open PySem PySem.Spec PyProof.Rows L2
section
variable {X : Cx} {Γ : Ct} {W : XW} {e o : Expr} {es : List Expr} {g go : ME} {gs : List ME} {f m x : Str} {p pos apos : Pos}
end
def MethN (P : Program) (w : World) (K : PySem.W.Frag) (mg : Str → Option Value) (base : Heap) (Γ : Ct) (k : Nat) (m : Str) (ps : List Str) (F : List D → Option R) (cs : List String) : Prop :=
  ∃ f fd, FnOk P w K mg base CX0 k f fd ps (spD Γ W0 F) ∧ Binds K fd ps [] ∧ ∀ c ∈ cs, Cls K (Γ.cls c) ∧ Meth K (Γ.cls c) m f
def TabOk (X : Cx) (Γ : Ct) (m : Str) (tb : String → Option (List D → Option R)) : Prop :=
  ∀ c F, tb c = some F → ∃ k ps cs, c ∈ cs ∧ MethN X.prog X.w X.K X.mg X.base Γ k m ps F cs ∧ Room k X.A
def tbNil : String → Option (List D → Option R) := fun _ => none
def tbG (cs : List String) (F : List D → Option R) (t : String → Option (List D → Option R)) : String → Option (List D → Option R) := fun c => if cs.contains c = true then some F else t c
section
variable {X : Cx} {Γ : Ct} {e o : Expr} {es : List Expr} {g go : ME} {gs : List ME} {f m x : Str} {p pos apos : Pos} {tb : String → Option (List D → Option R)}
end
structure a4N (a : Addr) (Hs H Hs' H' : Hp) : Prop where
  s : Same Hs Hs'
  h : ∀ b o, b ≠ a → H b = some o → H' b = some o
  i : Same Hs' H'
  n : ∀ b o, Hs' b = some o → Hs b = some o ∨ H b = none
theorem Grow.x {a : Addr} {Hs H Hs' H' : Hp} (g : Grow Hs H Hs' H') : a4N a Hs H Hs' H' := ⟨g.s, fun b o _ e => g.h b o e, g.i, g.n⟩
theorem a4N.trans {a : Addr} {Hs H Hs1 H1 Hs2 H2 : Hp} (x : a4N a Hs H Hs1 H1) (y : a4N a Hs1 H1 Hs2 H2) (ha : Hs1 a = none) (hb : ∃ o, H1 a = some o) : a4N a Hs H Hs2 H2 :=
  ⟨x.s.trans y.s, fun b o hb e => y.h b o hb (x.h b o hb e), y.i, fun b o e => by
    rcases y.n b o e with z | z
    · exact x.n b o z
    · by_cases hba : b = a
      · subst hba
        obtain ⟨o', ho'⟩ := hb
        rw [ho'] at z; cases z
      · right
        cases q : H b with
        | none => rfl
        | some u => rw [x.h b u hba q] at z; cases z⟩
theorem a4N.none {a : Addr} {Hs H Hs' H' : Hp} (g : a4N a Hs H Hs' H') {ho : HO} (h : Hs a = Option.none) (h' : H a = some ho) : Hs' a = Option.none := by
  cases q : Hs' a with
  | none => rfl
  | some u =>
    rcases g.n a u q with z | z
    · rw [h] at z; cases z
    · rw [h'] at z; cases z
inductive spI (Γ : Ct) (F : a5h) (vs : List V) (H : Hp) (Q : VK) (E : XK) : Prop
  | mk (a : Addr) (xs : List V) (Hs : Hp) (o : O) (ho : HO) (ds : List D) (o' : O) (ev : vs = .ref a :: xs) (sm : Same Hs H) (hs : Hs a = none) (hh : H a = some ho) (ro : RepO Γ Hs o ho) (rl : RepL Γ Hs ds xs) (e : F o ds = some o')
    (q : ∀ Hs' H' ho', a4N a Hs H Hs' H' → H' a = some ho' → RepO Γ Hs' o' ho' → Q .non H')
structure InitN (P : Program) (w : World) (K : PySem.W.Frag) (mg : Str → Option Value) (base : Heap) (Γ : Ct) (k : Nat) (c : String) (x : Str) (ps : List Str) (F : a5h) : Prop where
  ex : ∃ f fd, FnOk P w K mg base CX0 k f fd ps (spI Γ F) ∧ Binds K fd ps [] ∧ PySem.W.keepIn K (.ref f) = true ∧ Mk K (Γ.cls c) f ∧ PySem.W.findCls K (.ref (Γ.cls c)) (.type "type") "__init__" = some (.val (.ref f))
  at_ : mg x = some (.ref (Γ.cls c))
  sp : PySem.W.specialIn K (.ref (Γ.cls c)) "__getattribute__" = some (some (.builtin "type.__getattribute__"))
  rd : PySem.W.readsIn K (Γ.cls c) (.type "type") = true
section
variable {X : Cx} {Γ : Ct} {e o : Expr} {es : List Expr} {g go : ME} {gs : List ME} {f m x : Str} {p pos apos : Pos} {k : Nat} {c : String} {ps : List Str} {F : a5h}
end
inductive tX (Γ : Ct) (g : MG) (D : Ends) (σ : L2.St) (H : Hp) : Prop
  | mk (a : Addr) (B0 B1 Hs : Hp) (ρ : MEnv) (o : O) (ho : HO) (o' : O) (re : RE Γ B0 B1 Hs H σ ρ) (hb : B1 a = none) (no : ∀ (i : Nat) (u : O), ρ[i]? ≠ some (some (.own u))) (h0 : σ[0]? = some (some (.ref a))) (hs : Hs a = none) (hh : H a = some ho) (ro : RepO Γ Hs o ho) (e : g ρ o = some o')
    (q : ∀ Hs' H' ho', a4N a Hs H Hs' H' → H' a = some ho' → RepO Γ Hs' o' ho' → D.nx σ H')
abbrev PXD (X : Cx) (Γ : Ct) (st : Stmt) (g : MG) : Prop := PS X st (tX Γ g)
abbrev PXsD (X : Cx) (Γ : Ct) (st : List Stmt) (g : MG) : Prop := PSs X st (tX Γ g)
section
variable {X : Cx} {Γ : Ct} {st : Stmt} {rest : List Stmt} {g h : MG} {e o : Expr} {es : List Expr} {ge : ME} {gs : List ME} {f m x y : Str} {p px pos pos' apos cpos : Pos} {k : Nat} {c : String} {ps : List Str} {F : a5h}
end
end L3
namespace L3
open PySem PySem.Spec PyProof.Rows L2
section
variable {X : Cx} {Γ : Ct} {W : XW} {i : Nat} {x : Str} {e ek : Expr} {ge gk : ME} {px tpos pos : Pos}
end
end L3
namespace L3
open PySem PySem.Spec PyProof.Rows L2
structure LaidM (K : PySem.W.Frag) (cls : String → Addr) (m qual : Str) (st : Stmt) (ps : List Str) (cs : List String) : Prop where
  ex : ∃ f fd, Fun K m qual st f fd ∧ Binds K fd ps [] ∧ ∀ c ∈ cs, Cls K (cls c) ∧ Meth K (cls c) m f
structure LaidI (K : PySem.W.Frag) (mg : Str → Option Value) (cls : String → Addr) (c : String) (x qual : Str) (st : Stmt) (ps : List Str) : Prop where
  ex : ∃ f fd, Fun K "__init__" qual st f fd ∧ Binds K fd ps [] ∧ Mk K (cls c) f ∧ PySem.W.findCls K (.ref (cls c)) (.type "type") "__init__" = some (.val (.ref f))
  at_ : mg x = some (.ref (cls c))
  sp : PySem.W.specialIn K (.ref (cls c)) "__getattribute__" = some (some (.builtin "type.__getattribute__"))
  rd : PySem.W.readsIn K (cls c) (.type "type") = true
section
variable {P : Program} {w : World} {K : PySem.W.Frag} {mg : Str → Option Value} {base : Heap} {Γ : Ct}
end
theorem all_cons {α : Type} {p : α → Prop} {a : α} {l : List α} (h : p a) (t : ∀ c ∈ l, p c) : ∀ c ∈ a :: l, p c := fun c hc => by
  rcases List.mem_cons.mp hc with rfl | h'
  · exact h
  · exact t c h'
def clsF : List (String × Addr) → String → Addr
  | [], _ => 0
  | (c, a) :: r, s => if s = c then a else clsF r s
end L3
namespace L3
open PySem PySem.Spec PyProof.Rows L2
structure IsTab (K : PySem.W.Frag) (cls : String → Addr) (C : Addr) (mg : Str → Option Value) (x : Str) (tb : String → Option Bool) : Prop where
  ok : ∀ c b, tb c = some b → Cls K (cls c) ∧ (PySem.W.findIn K (.ref (cls c)) "__class__" = some (some (.builtin "object.__class__")) ∧ PySem.W.specialIn K (.builtin "object.__class__") "__get__" = some (some (.builtin "getset_descriptor.__get__")) ∧ PySem.W.takesIn K (.builtin "object.__class__") = some true ∧ PySem.W.mroIn K (cls c) (.type "object") = some true) ∧ PySem.W.kitOne K (.ref (cls c)) (.ref C) = some b
  at_ : mg x = some (.ref C)
section
variable {X : Cx} {Γ : Ct} {W : XW}
end
end L3
namespace L3
open PySem PySem.Spec PyProof.Rows L2
section
variable {X : Cx} {Γ : Ct} {W : XW}
end
end L3
namespace L3
open PySem PySem.Spec PyProof.Rows L2
end L3
namespace L3
open PySem PySem.Spec PyProof.Rows L2
section
variable {X : Cx} {Γ : Ct} {W : XW} {es : List Expr} {gs : List ME} {g : ME} {pos : Pos}
theorem padC {c j} (h : PD X Γ W (.Constant c j pos) g) (t : PAD X Γ W es gs) : PAD X Γ W (.Constant c j pos :: es) (g :: gs) := a1G h t rfl
theorem padN {x} (h : PD X Γ W (.Name x pos) g) (t : PAD X Γ W es gs) : PAD X Γ W (.Name x pos :: es) (g :: gs) := a1G h t rfl
theorem padB {a op b} (h : PD X Γ W (.BinOp a op b pos) g) (t : PAD X Γ W es gs) : PAD X Γ W (.BinOp a op b pos :: es) (g :: gs) := a1G h t rfl
theorem padS {a b} (h : PD X Γ W (.Subscript a b pos) g) (t : PAD X Γ W es gs) : PAD X Γ W (.Subscript a b pos :: es) (g :: gs) := a1G h t rfl
theorem padK {f as ks} (h : PD X Γ W (.Call f as ks pos) g) (t : PAD X Γ W es gs) : PAD X Γ W (.Call f as ks pos :: es) (g :: gs) := a1G h t rfl
theorem padT {xs c} (h : PD X Γ W (.Tuple xs c pos) g) (t : PAD X Γ W es gs) : PAD X Γ W (.Tuple xs c pos :: es) (g :: gs) := a1G h t rfl
theorem padU {op a} (h : PD X Γ W (.UnaryOp op a pos) g) (t : PAD X Γ W es gs) : PAD X Γ W (.UnaryOp op a pos :: es) (g :: gs) := a1G h t rfl
end
end L3
namespace L3
open PySem PySem.Spec PyProof.Rows L2
def constD : PySem.Expr → Option D
  | .Constant (.str s) _ _ => some (.str s)
  | .Constant (.int i) _ _ => some (.int i)
  | _ => none
def dsOf : List PySem.Expr → Option (List D)
  | [] => some []
  | e :: es => match constD e, dsOf es with
    | some d, some ds => some (d :: ds)
    | _, _ => none
end L3
namespace L3
open PySem PySem.Spec PyProof.Rows L2
section
variable {X : Cx} {Γ : Ct} {W : XW} {a b : Expr} {ga gb : ME} {pos : Pos}
end
end L3
namespace L3
open PySem PySem.Spec PyProof.Rows L2
section
variable {X : Cx} {Γ : Ct} {W : XW}
theorem psS {i : Nat} {x : Str} {pos' pos : Pos} {e : Expr} {ge : ME} (hN : X.N.Nodup) (hi : X.N[i]? = some x) (he : PD X Γ W e ge) (hx : Loc X.env.scope x := by first | exact Or.inl rfl | exact Or.inr rfl) (hs : swapsWith e (some (.Name x pos')) pos.line X.env = pure false := by rfl)
    (hf : X.fn x = true ∨ X.env.scope.names.lookup x = some .local := by first | exact .inl rfl | exact .inr rfl | assumption) : PSD X Γ W (.Assign [.Name x pos'] e pos) (sSet i ge) := psd_set hN hi hx he hs hf
theorem pbN {j : Nat} {x : Str} {pos : Pos} (hN : X.N.Nodup) (hi : X.N[j]? = some x) (hx : Loc X.env.scope x := by first | exact Or.inl rfl | exact Or.inr rfl) (hf : X.fn x = true ∨ X.env.scope.names.lookup x = some .local := by first | exact .inl rfl | exact .inr rfl | assumption) : PBD X Γ (.Name x pos) [j] (a0C j) := pbd_name hN hi hx hf
end
end L3
namespace L3
open PySem PySem.Spec PyProof.Rows L2 PySem.SeqAt
section
variable {X : Cx} {Γ : Ct} {W : XW} {pins : List (Addr × Obj)} {σ : L2.St} {H : Hp} {s : Shared}
theorem a3M (n : Nat) (ih : ∀ (d1 d2 : D) (b : Bool) (v : V), eqX n d1 d2 = some b → Rep Γ H d1 v → Rep Γ H d2 v → b = true) : ∀ (xs ys : List D) (vs : List V) (b : Bool), eqXs (eqX n) xs ys = some b → RepL Γ H xs vs → RepL Γ H ys vs → b = true
  | [], [], vs, b, h, _, _ => by cases h; rfl
  | [], y :: ys, vs, b, h, r1, r2 => by
    obtain ⟨z, r, e, _, _⟩ := a0q.mp r2
    rw [a03.mp r1] at e; cases e
  | x :: xs, [], vs, b, h, r1, r2 => by
    obtain ⟨z, r, e, _, _⟩ := a0q.mp r1
    rw [a03.mp r2] at e; cases e
  | x :: xs, y :: ys, vs, b, h, r1, r2 => by
    obtain ⟨z, r, e, p1, t1⟩ := a0q.mp r1
    obtain ⟨z', r', e', p2, t2⟩ := a0q.mp r2
    rw [e] at e'
    cases e'
    have h : (eqX n x y).bind (fun b => (eqXs (eqX n) xs ys).bind fun c => some (b && c)) = some b := h
    cases h1 : eqX n x y with
    | none => rw [h1] at h; cases h
    | some b1 =>
      rw [h1] at h
      cases h2 : eqXs (eqX n) xs ys with
      | none => rw [h2] at h; cases h
      | some b2 =>
        rw [h2] at h
        cases h
        rw [ih x y b1 z h1 p1 p2, a3M n ih xs ys r b2 h2 t1 t2]
        rfl
theorem a4G (hK : X.K = Γ.K) (I : Inv X pins σ H s) : ∀ (n : Nat) (d1 d2 : D) (b : Bool) (v : V), eqX n d1 d2 = some b → Rep Γ H d1 v → Rep Γ H d2 v → b = true
  | 0, _, _, _, _, h, _, _ => by cases h
  | n + 1, d1, d2, b, v, h, r1, r2 => by
    have ih := a4G hK I n
    cases d1 with
    | int i =>
      cases d2 with
      | int j =>
        cases h
        have := (a0h.mp r1).symm.trans (a0h.mp r2)
        cases this
        exact beq_self_eq_true _
      | _ => cases h
    | str x =>
      cases d2 with
      | str y =>
        cases h
        have := (a0N.mp r1).symm.trans (a0N.mp r2)
        cases this
        exact beq_self_eq_true _
      | _ => cases h
    | tup xs =>
      cases d2 with
      | tup ys =>
        obtain ⟨a, vs, rfl, q1, l1⟩ := a0G.mp r1
        obtain ⟨a', ws, e, q2, l2⟩ := a0G.mp r2
        cases e
        have e := I.seqX_inj (b := false) (show SqX X.K H false a vs by rw [hK]; exact q1) (show SqX X.K H false a ws by rw [hK]; exact q2)
        subst e
        exact a3M n ih xs ys vs b h l1 l2
      | _ => cases h
    | lst xs =>
      cases d2 with
      | lst ys =>
        obtain ⟨a, vs, rfl, q1, l1⟩ := a0J.mp r1
        obtain ⟨a', ws, e, q2, l2⟩ := a0J.mp r2
        cases e
        have e := I.seqX_inj (b := true) (show SqX X.K H true a vs by rw [hK]; exact q1) (show SqX X.K H true a ws by rw [hK]; exact q2)
        subst e
        have h : (if xs.length = ys.length then eqXs (eqX n) xs ys else some false) = some b := h
        rw [if_pos (l1.length.trans l2.length.symm)] at h
        exact a3M n ih xs ys vs b h l1 l2
      | _ => cases h
    | non => cases d2 <;> cases h
    | bl _ => cases d2 <;> cases h
    | obj _ _ _ => cases d2 <;> cases h
theorem a4d (n : Nat) {A : Around} (ih : ∀ (d1 d2 : D) (b : Bool) (x y : V) (v u : Value), eqX n d1 d2 = some b → Rep Γ H d1 x → Rep Γ H d2 y → RelV x v → RelV y u → EqAt A s v u b) {xs ys : List D} {vs ws : List V} {its its2 : List Value} {b : Bool} (h : eqXs (eqX n) xs ys = some b) (l1 : RepL Γ H xs vs) (l2 : RepL Γ H ys ws) (r1 : Vals vs its) (r2 : Vals ws its2) :
    ∀ j (h1 : j < its.toArray.size) (h2 : j < its2.toArray.size), EqAt A s its.toArray[j] its2.toArray[j] (((xs[j]?).bind fun x => (ys[j]?).bind fun y => eqX n x y) == some true) := by
  intro j h1 h2
  have e1 := l1.length; have e2 := l2.length; have e3 := r1.length; have e4 := r2.length
  rw [List.size_toArray] at h1 h2
  have hx : xs[j]? = some xs[j] := List.getElem?_eq_getElem (by omega)
  have hy : ys[j]? = some ys[j] := List.getElem?_eq_getElem (by omega)
  obtain ⟨c, hc⟩ := a65 _ xs ys b h j _ _ hx hy
  obtain ⟨x, ex, rx⟩ := l1.get hx
  obtain ⟨y, ey, ry⟩ := l2.get hy
  obtain ⟨v, ev, rv⟩ := r1.get ex
  obtain ⟨u, eu, ru⟩ := r2.get ey
  have ev' : its[j] = v := by rw [List.getElem?_eq_getElem h1] at ev; exact Option.some.inj ev
  have eu' : its2[j] = u := by rw [List.getElem?_eq_getElem h2] at eu; exact Option.some.inj eu
  rw [hx, hy]
  show EqAt A s its[j] its2[j] (eqX n xs[j] ys[j] == some true)
  rw [hc, ev', eu', show (some c == some true) = c by cases c <;> rfl]
  exact ih _ _ c x y v u hc rx ry rv ru
theorem a5Z (hK : X.K = Γ.K) (I : Inv X pins σ H s) : ∀ (n : Nat) (A : Around), A.units + n < cLine → ∀ (d1 d2 : D) (b : Bool) (x y : V) (v u : Value), eqX n d1 d2 = some b → Rep Γ H d1 x → Rep Γ H d2 y → RelV x v → RelV y u → EqAt A s v u b
  | 0, _, _, _, _, _, _, _, _, _, h, _, _, _, _ => by cases h
  | n + 1, A, hu, d1, d2, b, x, y, v, u, h, r1, r2, rx, ry => by
    have ih := a5Z hK I n A.in1 (by show A.units + 1 + n < cLine; omega)
    cases d1 with
    | int i =>
      cases d2 with
      | int j =>
        cases h
        rw [a0h.mp r1] at rx; rw [a0h.mp r2] at ry
        obtain ⟨t, rfl⟩ := rx; obtain ⟨t', rfl⟩ := ry
        exact EqAt.int_int i t j t'
      | _ => cases h
    | str z =>
      cases d2 with
      | str z' =>
        cases h
        rw [a0N.mp r1] at rx; rw [a0N.mp r2] at ry
        obtain ⟨t, rfl⟩ := rx; obtain ⟨t', rfl⟩ := ry
        exact EqAt.str_str z t z' t'
      | _ => cases h
    | tup xs =>
      cases d2 with
      | tup ys =>
        obtain ⟨a, vs, rfl, q1, l1⟩ := a0G.mp r1
        obtain ⟨a', ws, rfl, q2, l2⟩ := a0G.mp r2
        cases rx; cases ry
        by_cases c : a = a'
        · subst c
          rw [a4G hK I (n + 1) (.tup xs) (.tup ys) b (.ref a) h r1 r2]
          exact EqAt.same _
        · obtain ⟨its, v1, p1, _⟩ := I.tuple (by rw [hK]; exact q1)
          obtain ⟨its2, v2, p2, _⟩ := I.tuple (by rw [hK]; exact q2)
          have e := RcAt.tuples p1 p2 (A := A) (by omega) (a4d n ih h l1 l2 v1 v2)
          rw [List.size_toArray, List.size_toArray, ← v1.length, ← v2.length, ← l1.length, ← l2.length, ← a4F _ xs ys b h] at e
          exact EqAt.of_refs c e
      | _ => cases h
    | lst xs =>
      cases d2 with
      | lst ys =>
        obtain ⟨a, vs, rfl, q1, l1⟩ := a0J.mp r1
        obtain ⟨a', ws, rfl, q2, l2⟩ := a0J.mp r2
        cases rx; cases ry
        by_cases c : a = a'
        · subst c
          rw [a4G hK I (n + 1) (.lst xs) (.lst ys) b (.ref a) h r1 r2]
          exact EqAt.same _
        · obtain ⟨its, v1, p1, _⟩ := I.list (by rw [hK]; exact q1)
          obtain ⟨its2, v2, p2, _⟩ := I.list (by rw [hK]; exact q2)
          have h : (if xs.length = ys.length then eqXs (eqX n) xs ys else some false) = some b := h
          have s1 : its.toArray.size = xs.length := by rw [List.size_toArray, ← v1.length, ← l1.length]
          have s2 : its2.toArray.size = ys.length := by rw [List.size_toArray, ← v2.length, ← l2.length]
          by_cases hl : xs.length = ys.length
          · rw [if_pos hl] at h
            have e := RcAt.lists p1.isList p2.isList (A := A) (by rw [s1, s2, hl]) (by omega) (a4d n ih h l1 l2 v1 v2)
            have ea := a4F _ xs ys b h
            rw [hl, Nat.min_self, beq_self_eq_true, Bool.and_true] at ea
            rw [s1, hl, ← ea] at e
            exact EqAt.of_refs c e
          · rw [if_neg hl] at h
            cases h
            exact EqAt.of_refs c (RcAt.lists_lengths p1.isList p2.isList (by rw [s1, s2]; simpa using hl) (by omega))
      | _ => cases h
    | non => cases d2 <;> cases h
    | bl _ => cases d2 <;> cases h
    | obj _ _ _ => cases d2 <;> cases h
end
end L3
namespace L3
open PySem PySem.Spec PyProof.Rows L2 PySem.SeqAt
section
variable {X : Cx} {Γ : Ct} {W : XW} {pins : List (Addr × Obj)} {σ : L2.St} {H : Hp} {s : Shared}
theorem a4E (n : Nat) (ih : ∀ (d1 d2 y : D) (b c : Bool) (v : V), eqX n d1 y = some b → eqX n d2 y = some c → Rep Γ H d1 v → Rep Γ H d2 v → b = c) : ∀ (xs zs ys : List D) (vs : List V) (b c : Bool), eqXs (eqX n) xs ys = some b → eqXs (eqX n) zs ys = some c → RepL Γ H xs vs → RepL Γ H zs vs → b = c
  | [], z :: zs, ys, vs, b, c, _, _, r1, r2 => by
    obtain ⟨_, _, e, _, _⟩ := a0q.mp r2
    rw [a03.mp r1] at e; cases e
  | x :: xs, [], ys, vs, b, c, _, _, r1, r2 => by
    obtain ⟨_, _, e, _, _⟩ := a0q.mp r1
    rw [a03.mp r2] at e; cases e
  | [], [], ys, vs, b, c, h1, h2, _, _ => by rw [h1] at h2; exact Option.some.inj h2
  | x :: xs, z :: zs, [], vs, b, c, h1, h2, _, _ => by cases h1; cases h2; rfl
  | x :: xs, z :: zs, y :: ys, vs, b, c, h1, h2, r1, r2 => by
    obtain ⟨v, r, e, p1, t1⟩ := a0q.mp r1
    obtain ⟨v', r', e', p2, t2⟩ := a0q.mp r2
    rw [e] at e'
    cases e'
    have h1 : (eqX n x y).bind (fun b => (eqXs (eqX n) xs ys).bind fun c => some (b && c)) = some b := h1
    have h2 : (eqX n z y).bind (fun b => (eqXs (eqX n) zs ys).bind fun c => some (b && c)) = some c := h2
    cases e1 : eqX n x y with
    | none => rw [e1] at h1; cases h1
    | some b1 =>
      rw [e1] at h1
      cases e2 : eqXs (eqX n) xs ys with
      | none => rw [e2] at h1; cases h1
      | some b2 =>
        rw [e2] at h1
        cases h1
        cases e3 : eqX n z y with
        | none => rw [e3] at h2; cases h2
        | some c1 =>
          rw [e3] at h2
          cases e4 : eqXs (eqX n) zs ys with
          | none => rw [e4] at h2; cases h2
          | some c2 =>
            rw [e4] at h2
            cases h2
            rw [ih x z y b1 c1 v e1 e3 p1 p2, a4E n ih xs zs ys r b2 c2 e2 e4 t1 t2]
theorem a66 (hK : X.K = Γ.K) (I : Inv X pins σ H s) : ∀ (n : Nat) (d1 d2 y : D) (b c : Bool) (v : V), eqX n d1 y = some b → eqX n d2 y = some c → Rep Γ H d1 v → Rep Γ H d2 v → b = c
  | 0, _, _, _, _, _, _, h, _, _, _ => by cases h
  | n + 1, d1, d2, y, b, c, v, h1, h2, r1, r2 => by
    have ih := a66 hK I n
    cases y with
    | int j =>
      cases d1 with
      | int i =>
        cases d2 with
        | int k =>
          have := (a0h.mp r1).symm.trans (a0h.mp r2)
          cases this
          rw [h1] at h2; exact Option.some.inj h2
        | _ => cases h2
      | _ => cases h1
    | str j =>
      cases d1 with
      | str i =>
        cases d2 with
        | str k =>
          have := (a0N.mp r1).symm.trans (a0N.mp r2)
          cases this
          rw [h1] at h2; exact Option.some.inj h2
        | _ => cases h2
      | _ => cases h1
    | tup ys =>
      cases d1 with
      | tup xs =>
        cases d2 with
        | tup zs =>
          obtain ⟨a, vs, rfl, q1, l1⟩ := a0G.mp r1
          obtain ⟨a', ws, e, q2, l2⟩ := a0G.mp r2
          cases e
          have e := I.seqX_inj (b := false) (show SqX X.K H false a vs by rw [hK]; exact q1) (show SqX X.K H false a ws by rw [hK]; exact q2)
          subst e
          exact a4E n ih xs zs ys vs b c h1 h2 l1 l2
        | _ => cases h2
      | _ => cases h1
    | lst ys =>
      cases d1 with
      | lst xs =>
        cases d2 with
        | lst zs =>
          obtain ⟨a, vs, rfl, q1, l1⟩ := a0J.mp r1
          obtain ⟨a', ws, e, q2, l2⟩ := a0J.mp r2
          cases e
          have e := I.seqX_inj (b := true) (show SqX X.K H true a vs by rw [hK]; exact q1) (show SqX X.K H true a ws by rw [hK]; exact q2)
          subst e
          have h1 : (if xs.length = ys.length then eqXs (eqX n) xs ys else some false) = some b := h1
          have h2 : (if zs.length = ys.length then eqXs (eqX n) zs ys else some false) = some c := h2
          rw [show zs.length = xs.length from l2.length.trans l1.length.symm] at h2
          by_cases hl : xs.length = ys.length
          · rw [if_pos hl] at h1 h2
            exact a4E n ih xs zs ys vs b c h1 h2 l1 l2
          · rw [if_neg hl] at h1 h2
            cases h1; cases h2; rfl
        | _ => cases h2
      | _ => cases h1
    | non => cases d1 <;> cases h1
    | bl _ => cases d1 <;> cases h1
    | obj _ _ _ => cases d1 <;> cases h1
end
section
variable {X : Cx} {Γ : Ct} {W : XW}
theorem hu9_of {A : Around} {k n : Nat} (hr : Room k A) (hn : n ≤ 9 := by decide) : A.units + n < cLine := by
  have := hr.un
  omega
theorem inX_at {n : Nat} {x : D} : ∀ {ds : List D} {b : Bool}, inX n x ds = some b → (∀ (j : Nat) (d : D), ds[j]? = some d → ∃ c, eqX n d x = some c) ∧ (b = true ↔ ∃ (j : Nat) (d : D), ds[j]? = some d ∧ eqX n d x = some true)
  | [], b, h => by
    cases h
    exact ⟨fun j d h => (by cases h), ⟨fun h => (by cases h), fun ⟨j, d, h, _⟩ => (by cases h)⟩⟩
  | y :: ys, b, h => by
    have h : (eqX n y x).bind (fun b => (inX n x ys).bind fun c => some (b || c)) = some b := h
    cases h1 : eqX n y x with
    | none => rw [h1] at h; cases h
    | some b1 =>
      rw [h1] at h
      cases h2 : inX n x ys with
      | none => rw [h2] at h; cases h
      | some b2 =>
        rw [h2] at h
        cases h
        obtain ⟨g1, g2⟩ := inX_at h2
        refine ⟨fun j d e => ?_, ⟨fun e => ?_, fun ⟨j, d, e, e'⟩ => ?_⟩⟩
        · cases j with
          | zero => cases e; exact ⟨b1, h1⟩
          | succ j => exact g1 j d e
        · cases hb : b1 with
          | true => exact ⟨0, y, rfl, by rw [h1, hb]⟩
          | false =>
            rw [hb, Bool.false_or] at e
            obtain ⟨j, d, e1, e2⟩ := g2.mp e
            exact ⟨j + 1, d, e1, e2⟩
        · cases j with
          | zero => cases e; rw [h1] at e'; cases e'; rfl
          | succ j => rw [g2.mpr ⟨j, d, e, e'⟩, Bool.or_true]
theorem valsAt : ∀ {xs : List V} {us : List Value} {i : Nat} {u : Value}, Vals xs us → us[i]? = some u → ∃ x, xs[i]? = some x ∧ RelV x u := fun {xs us i u} r e => by
  have hi : i < us.length := (List.getElem?_eq_some_iff.mp e).1
  have hi' : i < xs.length := by rw [r.length]; exact hi
  have hx : xs[i]? = some xs[i] := List.getElem?_eq_getElem hi'
  obtain ⟨u', e', q⟩ := r.get hx
  rw [e] at e'
  cases e'
  exact ⟨_, hx, q⟩
theorem inX_list {n : Nat} (hK : X.K = Γ.K) {pins : List (Addr × Obj)} {s : Shared} {σ : L2.St} {H : Hp} (I : Inv X pins σ H s) (hu : X.A.units + 1 + n < cLine) {d1 : D} {ds : List D} {b : Bool} {x : V} {v : Value} {vs : List V} {its : List Value} (h : inX n d1 ds = some b) (r1 : Rep Γ H d1 x) (rx : RelV x v) (l : RepL Γ H ds vs) (va : Vals vs its) :
    ∃ e : Value → Bool, (∀ y, y ∈ its.toArray → EqAt X.A.in1 s y v (e y)) ∧ its.toArray.any e = b := by
  obtain ⟨g1, g2⟩ := inX_at h
  have res : ∀ (j : Nat) (y : Value), its[j]? = some y → ∃ d c z, ds[j]? = some d ∧ eqX n d d1 = some c ∧ Rep Γ H d z ∧ RelV z y := fun j y e => by
    obtain ⟨z, ez, rz⟩ := valsAt va e
    have hj : j < ds.length := by rw [l.length]; exact (List.getElem?_eq_some_iff.mp ez).1
    have hd : ds[j]? = some ds[j] := List.getElem?_eq_getElem hj
    obtain ⟨z', ez', rd⟩ := l.get hd
    rw [ez] at ez'
    cases ez'
    obtain ⟨c, hc⟩ := g1 j _ hd
    exact ⟨_, c, z, hd, hc, rd, rz⟩
  classical
  refine ⟨fun y => decide (∃ (j : Nat) (d : D), its[j]? = some y ∧ ds[j]? = some d ∧ eqX n d d1 = some true), fun y hy => ?_, ?_⟩
  · obtain ⟨j, ej⟩ := List.getElem?_of_mem (by simpa using hy : y ∈ its)
    obtain ⟨d, c, z, hd, hc, rd, rz⟩ := res j y ej
    have key := a5Z hK I n X.A.in1 hu d d1 c z x y v hc rd r1 rz rx
    have : decide (∃ (j : Nat) (d : D), its[j]? = some y ∧ ds[j]? = some d ∧ eqX n d d1 = some true) = c := by
      cases c with
      | true => exact decide_eq_true ⟨j, d, ej, hd, hc⟩
      | false =>
        refine decide_eq_false fun ⟨k, d', ek, hd', hc'⟩ => ?_
        obtain ⟨d2, c2, z2, hd2, hc2, rd2, rz2⟩ := res k y ek
        rw [hd'] at hd2
        cases hd2
        rw [hc'] at hc2
        cases hc2
        have := a66 hK I n d d' d1 false true z hc hc' rd (by rw [rz.inj rz2]; exact rd2)
        cases this
    dsimp only
    rw [this]
    exact key
  · rw [Bool.eq_iff_iff, g2, List.any_toArray, List.any_eq_true]
    constructor
    · rintro ⟨y, _, hy⟩
      obtain ⟨j, d, _, e2, e3⟩ := of_decide_eq_true hy
      exact ⟨j, d, e2, e3⟩
    · rintro ⟨j, d, e2, e3⟩
      obtain ⟨z, ez, _⟩ := l.get e2
      obtain ⟨y, ey, _⟩ := va.get ez
      exact ⟨y, List.mem_of_getElem? ey, decide_eq_true ⟨j, d, ey, e2, e3⟩⟩
theorem a6a {n : Nat} (hK : X.K = Γ.K) (hu : X.A.units + (n + 1) < cLine) : OpR X (compareOp .NotIn) (rD Γ W (dInX true n)) := fun pins s σ H x y v u Q I rx ry ⟨Hs, d1, d2, r, sm, r1, r2, e, q⟩ => by
  cases d2 with
  | lst ds =>
    have e : (inX n d1 ds).bind (fun b => okB (!b)) = some r := e
    cases h : inX n d1 ds with
    | none => rw [h] at e; cases e
    | some b =>
      rw [h] at e
      cases e
      obtain ⟨a, vs, rfl, q2, l2⟩ := a0J.mp (r2.mono sm)
      cases ry
      obtain ⟨its, va, p, _⟩ := I.list (by rw [hK]; exact q2)
      obtain ⟨f, h1, h2⟩ := inX_list hK I (by omega) h (r1.mono sm) rx l2 va
      exact notIn_listAt f p.isList h1 (by rw [h2]; exact ⟨.bl (!b), H, I, rfl, retS sm q (a0x.mpr rfl)⟩)
  | _ => cases e
variable {i : Nat} {x : Str} {px apos cpos pos : Pos}
end
end L3
namespace L3
open PySem PySem.Spec PyProof.Rows L2
section
variable {Γ : Ct} {W : XW} {js : List Nat} {gi : MI} {bd : MB} {elt : ME}
end
section
variable {X : Cx} {Γ : Ct} {W : XW} {scope : Scope} {vars : List Str} {js : List Nat} {elt tg iter c : Expr} {pos pos' spos px p0 sp apos cpos p1 epos : Pos} {gi : MI} {bd : MB} {ge : ME} {i : Nat} {x : Str} {rest : List Stmt} {g2 : MC} {n : Int}
end
end L3
namespace L3
open PySem PySem.Spec PyProof.Rows L2
section
variable {X : Cx} {Γ : Ct} {W : XW}
end
end L3
namespace L3
open PySem PySem.Spec PyProof.Rows L2
theorem a4K : bootBuiltins "reversed" = some (.type "reversed") := by decide +kernel
section
variable {X : Cx} {Γ : Ct} {W : XW}
theorem RepL.reverse {H : Hp} : ∀ {ds : List D} {xs : List V}, RepL Γ H ds xs → RepL Γ H ds.reverse xs.reverse
  | [], xs, h => by rw [a03.mp h]; exact .nil
  | d :: ds, xs, h => by
    obtain ⟨x, r, rfl, q, t⟩ := a0q.mp h
    rw [List.reverse_cons, List.reverse_cons]
    exact (RepL.reverse t).append (.cons q .nil)
theorem a59 {a : Expr} {g : ME} {p p' pos' pos : Pos} (hK : X.K = Γ.K) (hc : X.calm = true) (hg : Gl X "list") (hm : X.mg "list" = none) (hg2 : Gl X "reversed") (hm2 : X.mg "reversed" = none) (ha : PD X Γ W a g)
    (hs1 : starEach [a] X.env = (false, eval a X.env) :: starEach [] X.env := by rfl) (hpl : (backTo pos' (starEach [] X.env)).any (·.1) = false := by rfl)
    (hs3 : starEach [.Call (.Name "reversed" p') [a] [] pos'] X.env = (false, eval (.Call (.Name "reversed" p') [a] [] pos') X.env) :: starEach [] X.env := by rfl) (hpl2 : (backTo pos (starEach [] X.env)).any (·.1) = false := by rfl) :
    PD X Γ W (.Call (.Name "list" p) [.Call (.Name "reversed" p') [a] [] pos'] [] pos) (eUn a7d g) :=
  PE.imp (pe_callTy (a7i hc) hg hm boot_list (pa_cons (pe_callTy a7h hg2 hm2 a4K (pa_cons ha pa_nil hs1) (by decide) (by decide) hs1 hpl) pa_nil hs3) (by decide) (by decide) hs3 hpl2) fun _ _ σ H Q _ ⟨B0, B1, Hs, ρ, r, re, e, q⟩ => by
    refine (a1q re e q).mono fun v H1 ⟨Hs1, d, g1, re1, rp, e1, q1⟩ => ?_
    cases d with
    | lst ds =>
      cases e1
      obtain ⟨b, xs, rfl, sq, rl⟩ := a0J.mp rp
      have sm := re1.b.i
      refine ⟨b, xs, rfl, by rw [hK]; exact Same.seq sm sq, fun a hn big => ⟨a, b, xs, H1, rfl, hn, big, rfl, by rw [hK]; exact Same.seq sm sq, fun l hl => ?_⟩⟩
      exact a3z sm q1 rl.reverse hl
    | non => cases e1
    | bl _ => cases e1
    | int _ => cases e1
    | str _ => cases e1
    | tup _ => cases e1
    | obj _ _ _ => cases e1
inductive tK (Γ : Ct) (g : ME) (σ : L2.St) (H : Hp) (Q : VK) : Prop
  | mk (B0 B1 Hs : Hp) (ρ : MEnv) (ks : List Int) (re : RE Γ B0 B1 Hs H σ ρ) (e : g ρ = okD (.tup (ks.map D.int))) (q : ∀ b H', Same H H' → H' b = some (.tup (ks.map V.int)) → Q (.ref b) H')
abbrev PK (X : Cx) (Γ : Ct) (e : Expr) (g : ME) : Prop := PE X e (tK Γ g)
theorem pk_tup {es : List Expr} {gs : List ME} {x1} {pos : Pos} (ha : PAD X Γ W es gs) : PK X Γ (.Tuple es x1 pos) (eTup gs) := PE.imp (pe_tup ha) fun _ _ σ H Q _ ⟨B0, B1, Hs, ρ, ks, re, e, q⟩ => by
  refine a18 gs (fun vs H1 ⟨Hs1, ds, g1, re1, rp, e1, _⟩ => ?_) (a3U (W := W) (Q := fun _ _ => True) gs re e (fun _ _ _ _ _ => trivial))
  try dsimp only at e1
  split at e1
  · rename_i hl
    cases e1
    refine ⟨by rw [← rp.length]; exact Nat.le_trans hl (by decide), fun p hp => q p _ (g1.h.trans (a1r hp)) ?_⟩
    rw [upd_same, rp.intsOf (show intsOf (ks.map D.int) = some ks from a2I ks)]
  · cases e1
theorem a5S {e : Expr} {g : ME} {lo hi : Option Expr} {gl gh : Option ME} {pos p2 : Pos} (hK : X.K = Γ.K) (he : PD X Γ W e g) (hl : POD X Γ W lo gl) (hh : POD X Γ W hi gh) : PK X Γ (.Subscript e (.Slice lo hi none p2) pos) (a15 g gl gh) :=
  PE.imp (pe_slice sl_tup he hl hh) fun _ _ σ H Q _ ⟨B0, B1, Hs, ρ, ks, re, e, q⟩ => by
    refine (a1q (W := W) (Q := fun _ _ => True) re e (fun _ _ _ _ _ => trivial)).mono fun v H1 ⟨Hs1, d, g1, re1, rp, e1, q1⟩ => ?_
    refine a2X re1 e1 q1 fun l H2 Hs2 g2 re2 e2 q2 => ?_
    refine a2X re2 e2 q2 fun u H3 Hs3 g3 re3 e3 _ => ?_
    cases d with
    | tup ds =>
      obtain ⟨a, xs, rfl, sq, rl⟩ := a0G.mp ((rp.mono g2.s).mono g3.s)
      have e' : (if sIxD ds.length 0 l = 0 ∧ sIxD ds.length ds.length u = ds.length then none else okD (.tup (cutD ds l u))) = _ := e3
      by_cases hw : sIxD ds.length 0 l = 0 ∧ sIxD ds.length ds.length u = ds.length
      · rw [if_pos hw] at e'; cases e'
      · rw [if_neg hw] at e'
        have ec : cutD ds l u = ks.map D.int := by injection e' with e'; injection e' with e'; injection e' with e'; injection e'
        refine ⟨a, xs, rfl, by rw [hK]; exact a0S re3.b.i sq, by rw [a3a, a3a, ← rl.length]; exact hw, fun p hp => q p _ (((g1.h.trans g2.h).trans g3.h).trans (a1r hp)) ?_⟩
        have rc := a4H rl l u
        rw [ec] at rc
        rw [upd_same, rc.intsOf (show intsOf (ks.map D.int) = some ks from a2I ks)]
    | lst ds => cases e3
    | non => cases e3
    | bl _ => cases e3
    | int _ => cases e3
    | str _ => cases e3
    | obj _ _ _ => cases e3
theorem a3L : ∀ {a b : List Int}, a.map (Sum.inl : Int → Key) = b.map Sum.inl → a = b
  | [], [], _ => rfl
  | [], _ :: _, h => nomatch h
  | _ :: _, [], h => nomatch h
  | x :: a, y :: b, h => by
    rw [List.map_cons, List.map_cons] at h
    injection h with h1 h2
    injection h1 with h1
    rw [h1, a3L h2]
theorem a4k (ks : List Int) : ∀ kvs : Tb, valV (kvT kvs) (ks.map Sum.inl) = (getI kvs ks).map V.int
  | [] => rfl
  | p :: r => by
    have ih := a4k ks r
    by_cases h : p.1 = ks
    · have : (p.1.map (Sum.inl : Int → Key)) = ks.map Sum.inl := by rw [h]
      rw [show kvT (p :: r) = (p.1.map Sum.inl, V.int p.2) :: kvT r from rfl, a1g (p := (p.1.map Sum.inl, V.int p.2)) this]
      unfold getI; rw [List.find?_cons, decide_eq_true h]; rfl
    · have : ¬ (p.1.map (Sum.inl : Int → Key)) = ks.map Sum.inl := fun z => h (a3L z)
      rw [show kvT (p :: r) = (p.1.map Sum.inl, V.int p.2) :: kvT r from rfl, a1h (p := (p.1.map Sum.inl, V.int p.2)) this, ih]
      unfold getI; rw [List.find?_cons, decide_eq_false h]
theorem a7t (ks : List Int) : ∀ kvs : Tb, ((kvT kvs).any fun kv => decide (kv.1 = ks.map Sum.inl)) = kvs.any fun p => decide (p.1 = ks)
  | [] => rfl
  | p :: r => by
    have ih := a7t ks r
    rw [show kvT (p :: r) = (p.1.map Sum.inl, V.int p.2) :: kvT r from rfl, List.any_cons, List.any_cons, ih]
    congr 1
    exact decide_eq_decide.mpr ⟨fun z => a3L z, fun z => by rw [z]⟩
theorem a6K (kvs : Tb) (ks : List Int) (v : Int) : putK (kvT kvs) (ks.map Sum.inl) (V.int v) = kvT (putI kvs ks v) := by
  unfold putK putI
  rw [a7t]
  split
  · unfold kvT
    rw [List.map_map, List.map_map]
    refine List.map_congr_left fun p _ => ?_
    show (if p.1.map (Sum.inl : Int → Key) = ks.map Sum.inl then (p.1.map Sum.inl, V.int v) else (p.1.map Sum.inl, V.int p.2)) = ((if p.1 = ks then (p.1, v) else p).1.map Sum.inl, V.int (if p.1 = ks then (p.1, v) else p).2)
    by_cases h : p.1 = ks
    · rw [if_pos h, if_pos (by rw [h])]
    · rw [if_neg h, if_neg (fun z => h (a3L z))]
  · unfold kvT; rw [List.map_append]; rfl
theorem kV_map (ks : List Int) : (ks.map (Sum.inl : Int → Key)).map kV = ks.map V.int := by rw [List.map_map]; rfl
variable {i : Nat} {x : Str} {px apos cpos pos pos' zpos : Pos} {k : Expr} {gk : ME}
theorem a6Q {z : Int} {jz : Nat} (hu : X.A.units + 1 < cLine) (hv : PE X (.Name x px) (tVar i)) (hk : PK X Γ k gk) (m : M2 X (.Name x px) "get" apos k (.Constant (.int z) jz zpos) cpos := by exact ⟨rfl, rfl, rfl, rfl⟩) :
    PD X Γ W (.Call (.Attribute (.Name x px) "get" apos) [k, .Constant (.int z) jz zpos] [] cpos) (eGet i gk z) :=
  PE.imp (pe_dget2 hu hv hk pe_int m) fun _ _ σ H Q _ ⟨B0, B1, Hs, ρ, r, re, e, q⟩ => by
    obtain ⟨kvs, ks, hd, eg, rfl⟩ := a67 e
    obtain ⟨a, ho, e1, e2, e3, e4, hq⟩ := re.own i _ hd
    have hq : ho = .dT (kvT kvs) := hq
    subst hq
    refine ⟨.ref a, e1, a, rfl, .inr ⟨_, .inl e4⟩, B0, B1, Hs, ρ, ks, re, eg, fun b H' sm eb => ?_⟩
    refine ⟨valV (kvT kvs) (ks.map Sum.inl), .t (sm _ _ e4) (by rw [kV_map]; exact eb), ?_⟩
    rw [a4k]
    have ev : ((getI kvs ks).map V.int).getD (V.int z) = V.int ((getI kvs ks).getD z) := by cases getI kvs ks <;> rfl
    rw [ev]
    exact q _ Hs H' (.only re.b.i sm) (RepS.of (a0h.mpr rfl))
theorem psd_dput {e : Expr} {ge : ME} (hu : X.A.units + 1 < cLine) (hv : PE X (.Name x px) (tVar i)) (hk : PK X Γ k gk) (he : PD X Γ W e ge) (hs : swapsWith e (some (.Subscript (.Name x px) k pos')) pos.line X.env = pure false := by rfl) :
    PSD X Γ W (.Assign [.Subscript (.Name x px) k pos'] e pos) (a5j i gk ge) :=
  PS.imp (ps_dput hu hv hk he hs) fun pins s σ H En I ⟨B0, B1, Hs, ρ, o, re, eo, q⟩ => by
    obtain ⟨v, kvs, ks, hge, hd, hgk, hl, rfl⟩ := a54 eo
    obtain ⟨a, ho, e1, e2, e3, e4, hq⟩ := re.own i _ hd
    have hq : ho = .dT (kvT kvs) := hq
    subst hq
    refine ⟨B0, B1, Hs, ρ, .ok (.sh (.int v)), re, hge, fun y Hs1 H1 g1 rs => ?_⟩
    obtain rfl : y = .int v := a0h.mp (show Rep Γ Hs1 (.int v) y from rs)
    have re1 := re.grow g1
    refine ⟨.ref a, e1, B0, B1, Hs1, ρ, ks, re1, hgk, fun b H3 sm eb => ?_⟩
    refine ⟨a, _, rfl, .t (sm _ _ (g1.h _ _ e4)) (by rw [kV_map]; exact eb) (by unfold kvT; rw [List.length_map]; exact Nat.lt_of_lt_of_le hl (by decide)), ?_⟩
    refine q σ Hs1 _ g1.s ((re1.grow (.only re1.b.i sm)).write hd e1 ?_)
    show HO.dT _ = HO.dT _
    rw [a6K]
theorem psd_dnew (hN : X.N.Nodup) (hi : X.N[i]? = some x) (hx : Loc X.env.scope x) (hs : swapsWith (.Dict [] [] zpos) (some (.Name x pos')) pos.line X.env = pure false := by rfl)
    (hf : X.fn x = true ∨ X.env.scope.names.lookup x = some .local := by first | exact .inl rfl | exact .inr rfl | assumption) : PSD X Γ W (.Assign [.Name x pos'] (.Dict [] [] zpos) pos) (sNewT i) :=
  PS.imp (ps_set hN hi hx pe_dnewT hs hf) fun pins s σ H En I ⟨B0, B1, Hs, ρ, o, re, eo, q⟩ => by
    cases eo
    intro p hp
    refine q _ Hs _ (.refl _) ((re.grow (.newOwn re.b.i hp)).setOwn (by rw [I.len]; exact (List.getElem?_eq_some_iff.mp hi).1) (re.b.h.free hp) (re.b.i.free hp) upd_same rfl fun j u _ hj z => ?_)
    obtain ⟨c, hc, f1, _, _, f4, _⟩ := re.own j u hj
    rw [z] at f1
    cases f1
    rw [hp] at f4
    cases f4
end
end L3
namespace L3
open PySem
section
variable {ρ ρ' ρ1 : MEnv} {a b c : ME} {x y : MC} {o : Option Out} {s t : S} {r : Option R}
theorem a1i (h : x ρ = some (.ret s)) : sSeq x y ρ = some (.ret s) := by unfold sSeq; rw [h]
theorem a0b (h : x ρ = some (.next ρ')) (h2 : y ρ' = o) : sSeq x y ρ = o := by unfold sSeq; rw [h]; exact h2
theorem if_t {u v : MC} (h : c ρ = okB true) (h2 : u ρ = o) : sIf c u v ρ = o := by unfold sIf; rw [h]; exact h2
theorem if_f {u v : MC} (h : c ρ = okB false) (h2 : v ρ = o) : sIf c u v ρ = o := by unfold sIf; rw [h]; exact h2
theorem a0t {i : Nat} (h : a ρ = some (.ok s)) : sSet i a ρ = some (.next (ρ.set i (some s))) := by unfold sSet; rw [h]; rfl
theorem a1P (h : a ρ = some (.ok s)) : sRet a ρ = some (.ret s) := by unfold sRet; rw [h]; rfl
theorem a1K {i : Nat} (h : x (dem i ρ) = o) : sDem i x ρ = o := h
theorem a2f {i : Nat} {ds : List D} (h0 : ρ[i]? = some (some (.own (.lst ds)))) (h : a ρ = some (.ok s)) (hl : ds.length < lim) : a0I i a ρ = some (.next (ρ.set i (some (.own (.lst (ds ++ [s.val])))))) := by
  unfold a0I ownL; rw [h0]; dsimp only; rw [h]; dsimp only [a2N]; rw [if_pos hl]
theorem a5X {i : Nat} {ds es : List D} (h0 : ρ[i]? = some (some (.own (.lst ds)))) (h : a ρ = some (.ok s)) (hi : a3K s.val = some es) (hl : ds.length + es.length ≤ lim) : a3b i a ρ = some (.next (ρ.set i (some (.own (.lst (ds ++ es)))))) := by
  unfold a3b ownL; rw [h0]; dsimp only; rw [h]; dsimp only [a2N]; rw [hi]; dsimp only; rw [if_pos hl]
theorem a3e {it : MI} {bd : MB} {body : MC} {ds : List D} (h : it ρ = some (.ok ds)) (h2 : forD bd body ds ρ = o) : sFor it bd body ρ = o := by unfold sFor; rw [h]; exact h2
theorem a1O {np n : Nat} {g : MC} {ds : List D} (hl : ds.length = np) (h : g (a2c n ds) = some (.ret s)) : fnD np n g ds = some (.ok s) := by unfold fnD; rw [if_pos hl, h]; rfl
theorem a0e {f : D → D → Option R} (h1 : a ρ = some (.ok s)) (h2 : b ρ = some (.ok t)) (h3 : f s.val t.val = r) : eBin f a b ρ = r := by unfold eBin; rw [h1]; dsimp only [a0Y]; rw [h2]; exact h3
theorem un_e {f : D → Option R} (h1 : a ρ = some (.ok s)) (h3 : f s.val = r) : eUn f a ρ = r := by unfold eUn; rw [h1]; exact h3
theorem a2G (h : a ρ = okB true) (h2 : b ρ = r) : eAnd a b ρ = r := by unfold eAnd; rw [h]; exact h2
theorem a3V (h : a ρ = okB false) : eAnd a b ρ = okB false := by unfold eAnd; rw [h]; rfl
theorem or_t (h : a ρ = okB true) : eOr a b ρ = okB true := by unfold eOr; rw [h]; rfl
theorem or_f (h : a ρ = okB false) (h2 : b ρ = r) : eOr a b ρ = r := by unfold eOr; rw [h]; exact h2
theorem not_e {z : Bool} (h : a ρ = okB z) : eNot a ρ = okB (!z) := by unfold eNot eUn; rw [h]; rfl
theorem not_t (h : a ρ = okB true) : eNot a ρ = okB false := not_e h
theorem a1T {F : List D → Option R} {e1 : ME} {s1 : S} (h1 : e1 ρ = some (.ok s1)) (h : F [s1.val] = r) : a0g F [e1] ρ = r := by unfold a0g a0X; rw [h1]; exact h
theorem a05 {F : List D → Option R} {e1 e2 : ME} {s1 s2 : S} (h1 : e1 ρ = some (.ok s1)) (h2 : e2 ρ = some (.ok s2)) (h : F [s1.val, s2.val] = r) : a0g F [e1, e2] ρ = r := by
  unfold a0g a0X; rw [h1]; dsimp only [a0Y]; unfold a0X; rw [h2]; exact h
theorem a3P {F : List D → Option R} {e1 e2 e3 : ME} {s1 s2 s3 : S} (h1 : e1 ρ = some (.ok s1)) (h2 : e2 ρ = some (.ok s2)) (h3 : e3 ρ = some (.ok s3)) (h : F [s1.val, s2.val, s3.val] = r) : a0g F [e1, e2, e3] ρ = r := by
  unfold a0g a0X; rw [h1]; dsimp only [a0Y]; unfold a0X; rw [h2]; dsimp only [a0Y]; unfold a0X; rw [h3]; exact h
theorem tup2 {e1 e2 : ME} {s1 s2 : S} (h1 : e1 ρ = some (.ok s1)) (h2 : e2 ρ = some (.ok s2)) : eTup [e1, e2] ρ = okD (.tup [s1.val, s2.val]) := a05 h1 h2 rfl
theorem lenB {e1 : ME} {s1 : S} {n : Int} (h1 : e1 ρ = some (.ok s1)) (h : dLen s1.val = okI n) : a0o (f1 dLen) [e1] ρ = okI n := by
  have : a0X [e1] ρ (f1 dLen) = okI n := a1T (F := f1 dLen) h1 h
  unfold a0o; rw [this]; rfl
theorem a2x {i : Nat} {d : D} (h : ρ[i]? = some (some (.sh d))) : eVar i ρ = okD d := by unfold eVar; rw [h]
theorem a6w {i : Nat} (h : ρ[i]? = some (some s)) (hn : s.nd = true := by rfl) : eAny i ρ = okD s.val := by
  unfold eAny; rw [h]
  cases s with
  | sh d => rfl
  | own o => cases o with
    | lst _ => rfl
    | obj _ _ _ => rfl
    | dic _ => cases hn
theorem a64 {ds : List D} (h : a ρ = some (.ok s)) (hi : a3K s.val = some ds) : iSeq a ρ = some (.ok ds) := by unfold iSeq; rw [h]; dsimp only; rw [hi]; rfl
theorem a1s {i : Int} (h : a ρ = okI i) (hr : a3n i = true) : a0O a ρ = some (.ok (rng 0 i)) := by unfold a0O iArg; rw [h]; dsimp only [S.val]; rw [if_pos hr]
theorem add_int (i j : Int) : dAdd (.int i) (.int j) = okI (i + j) := rfl
theorem sub_int (i j : Int) : dSub (.int i) (.int j) = okI (i - j) := rfl
theorem mul_int {i j : Int} (h : (a2O i || a2O j) = true) : dMul (.int i) (.int j) = okI (i * j) := by unfold dMul; exact if_pos h
theorem a0p {i j : Int} (h : 0 < j) : dMod (.int i) (.int j) = okI (i % j) := by unfold dMod; exact if_pos h
theorem a5P {i : Int} (h1 : -(2 ^ 60) ≤ i) (h2 : i ≤ 2 ^ 60) : a2O i = true := by unfold a2O; simp; omega
theorem mulL {i j : Int} (h1 : -(2 ^ 60) ≤ i) (h2 : i ≤ 2 ^ 60) : dMul (.int i) (.int j) = okI (i * j) := mul_int (by rw [a5P h1 h2]; rfl)
theorem mulR {i j : Int} (h1 : -(2 ^ 60) ≤ j) (h2 : j ≤ 2 ^ 60) : dMul (.int i) (.int j) = okI (i * j) := mul_int (by rw [a5P h1 h2, Bool.or_true])
theorem ix_tup {ds : List D} {d : D} {n : Nat} (h : ds[n]? = some d) : dIx (.tup ds) (.int n) = okD d := by
  have hn : n < ds.length := (List.getElem?_eq_some_iff.mp h).1
  show (atD ds (n : Int)).bind okD = _
  unfold atD ixD
  rw [if_pos (by omega), if_pos (by omega)]
  simp [h]
theorem a3J {ds : List D} {d : D} {n : Nat} (h : ds[n]? = some d) : dIx (.lst ds) (.int n) = okD d := ix_tup h
theorem rng0 (n : Nat) : rng 0 n = (List.range n).map fun k : Nat => D.int k := by
  unfold rng
  rw [Int.sub_zero, Int.toNat_natCast]
  exact List.map_congr_left fun k _ => by rw [Int.zero_add]
theorem a01 {n : Nat} (h : n ≤ 1000000) : a3n (n : Int) = true := by unfold a3n; simp; omega
theorem a4C {bd : MB} {body : MC} (Iv : Nat → MEnv → Prop) : ∀ (ds : List D) (i : Nat) (ρ : MEnv), Iv i ρ → (∀ (k : Nat) (ρ : MEnv) (d : D), ds[k]? = some d → Iv (i + k) ρ → ∃ ρ1 ρ2, bd d ρ = some ρ1 ∧ body ρ1 = some (.next ρ2) ∧ Iv (i + k + 1) ρ2) →
    ∃ ρ', forD bd body ds ρ = some (.next ρ') ∧ Iv (i + ds.length) ρ'
  | [], i, ρ, h, _ => ⟨ρ, rfl, h⟩
  | d :: ds, i, ρ, h, hs => by
    obtain ⟨ρ1, ρ2, e1, e2, h2⟩ := hs 0 ρ d rfl h
    obtain ⟨ρ', e3, h3⟩ := a4C Iv ds (i + 1) ρ2 h2 fun k ρ d' e hk => by
      obtain ⟨r1, r2, f1, f2, f3⟩ := hs (k + 1) ρ d' (by simpa using e) (by rw [show i + (k + 1) = i + 1 + k by omega]; exact hk)
      exact ⟨r1, r2, f1, f2, by rw [show i + 1 + k + 1 = i + (k + 1) + 1 by omega]; exact f3⟩
    refine ⟨ρ', ?_, by rw [List.length_cons, show i + (ds.length + 1) = i + 1 + ds.length by omega]; exact h3⟩
    unfold forD
    rw [e1]
    dsimp only
    rw [e2]
    exact e3
theorem a1E {bd : MB} {body : MC} (Iv : Nat → MEnv → Prop) (n : Nat) (h0 : Iv 0 ρ) (hs : ∀ (k : Nat) (ρ : MEnv), k < n → Iv k ρ → ∃ ρ1 ρ2, bd (.int k) ρ = some ρ1 ∧ body ρ1 = some (.next ρ2) ∧ Iv (k + 1) ρ2) :
    ∃ ρ', forD bd body (rng 0 n) ρ = some (.next ρ') ∧ Iv n ρ' := by
  obtain ⟨ρ', e, h⟩ := a4C (bd := bd) (body := body) Iv (rng 0 n) 0 ρ h0 fun k ρ d e hk => by
    rw [rng0, List.getElem?_map] at e
    have hk' : k < n := by
      by_cases z : k < n
      · exact z
      · rw [List.getElem?_eq_none (by rw [List.length_range]; omega)] at e; cases e
    rw [List.getElem?_range hk'] at e
    cases e
    rw [Nat.zero_add] at hk ⊢
    exact hs k ρ hk' hk
  rw [Nat.zero_add, rng0, List.length_map, List.length_range] at h
  exact ⟨ρ', e, h⟩
end
inductive a3W : Nat → D → Prop
  | non (n) : a3W n .non
  | bl (n b) : a3W n (.bl b)
  | int (n i) : a3W n (.int i)
  | str (n x) : a3W n (.str x)
  | tup (n ds) : (∀ d ∈ ds, a3W n d) → ds.length ≤ lim → a3W (n + 1) (.tup ds)
  | lst (n ds) : (∀ d ∈ ds, a3W n d) → ds.length ≤ lim → a3W (n + 1) (.lst ds)
theorem a3W.mono : ∀ {n m : Nat} {d : D}, a3W n d → n ≤ m → a3W m d := by
  intro n m d h
  induction h generalizing m with
  | non n => exact fun _ => .non m
  | bl n b => exact fun _ => .bl m b
  | int n i => exact fun _ => .int m i
  | str n x => exact fun _ => .str m x
  | tup n ds hd hl ih =>
    intro hm
    obtain ⟨k, rfl⟩ : ∃ k, m = k + 1 := ⟨m - 1, by omega⟩
    exact .tup k ds (fun d hd => ih d hd (by omega)) hl
  | lst n ds hd hl ih =>
    intro hm
    obtain ⟨k, rfl⟩ : ∃ k, m = k + 1 := ⟨m - 1, by omega⟩
    exact .lst k ds (fun d hd => ih d hd (by omega)) hl
theorem a5F (i : Int) : dEq (.int i) (.int i) = okB true := by unfold dEq eqF; simp
theorem a5E (i : Str) : dEq (.str i) (.str i) = okB true := by unfold dEq eqF; simp
end L3
namespace L3
open PySem
section
variable {ρ ρ' ρ1 : MEnv} {a b c : ME}
theorem a4I {α : Type} {bd : MB} {cond elt : ME} {g : α → D} {f : α → D} {p : α → Bool} : ∀ (xs : List α) (acc : List D), (∀ x ∈ xs, ∃ ρ1, bd (g x) ρ = some ρ1 ∧ cond ρ1 = okB (p x) ∧ (p x = true → ∃ s, elt ρ1 = some (.ok s) ∧ s.val = f x)) → acc.length + xs.length ≤ lim → a25 bd cond elt ρ (xs.map g) acc = okL (acc ++ (xs.filter p).map f)
  | [], acc, _, hl => by
    rw [List.map_nil]
    unfold a25
    rw [if_pos (by simpa using hl)]
    simp
  | x :: xs, acc, h, hl => by
    obtain ⟨ρ1, e1, e2, e3⟩ := h x List.mem_cons_self
    rw [List.map_cons]
    unfold a25
    rw [e1]
    dsimp only
    rw [e2]
    show (if p x = true then (a0Y (elt ρ1) fun y => a25 bd cond elt ρ (xs.map g) (acc ++ [y])) else a25 bd cond elt ρ (xs.map g) acc) = _
    rw [List.length_cons] at hl
    by_cases hp : p x = true
    · obtain ⟨s, e4, e5⟩ := e3 hp
      rw [if_pos hp, e4]
      show a25 bd cond elt ρ (xs.map g) (acc ++ [s.val]) = _
      rw [e5, a4I xs (acc ++ [f x]) (fun y hy => h y (List.mem_cons_of_mem _ hy)) (by rw [List.length_append, List.length_singleton]; omega)]
      simp [hp]
    · rw [if_neg hp, a4I xs acc (fun y hy => h y (List.mem_cons_of_mem _ hy)) (by omega)]
      simp [hp]
theorem a2U {α : Type} {js : List Nat} {it : MI} {bd : MB} {cond elt : ME} (xs : List α) (g : α → D) (p : α → Bool) (f : α → D) (hi : it ρ = some (.ok (xs.map g))) (hl : xs.length ≤ lim)
    (h : ∀ x ∈ xs, ∃ ρ1, bd (g x) (a0R js ρ) = some ρ1 ∧ cond ρ1 = okB (p x) ∧ (p x = true → ∃ s, elt ρ1 = some (.ok s) ∧ s.val = f x)) : a07 js it bd cond elt ρ = okL ((xs.filter p).map f) := by
  unfold a07
  rw [hi]
  dsimp only
  rw [if_pos (by rw [List.length_map]; exact hl), a4I xs [] h (by simpa using hl)]
  rfl
theorem a51 {α : Type} {js : List Nat} {it : MI} {bd : MB} {elt : ME} (xs : List α) (g : α → D) (f : α → D) (hi : it ρ = some (.ok (xs.map g))) (hl : xs.length ≤ lim)
    (h : ∀ x ∈ xs, ∃ ρ1, bd (g x) (a0R js ρ) = some ρ1 ∧ ∃ s, elt ρ1 = some (.ok s) ∧ s.val = f x) : a07 js it bd a31 elt ρ = okL (xs.map f) := by
  rw [a2U xs g (fun _ => true) f hi hl fun x hx => ?_]
  · rw [List.filter_eq_self.mpr (fun _ _ => rfl)]
  · obtain ⟨ρ1, e1, e2⟩ := h x hx
    exact ⟨ρ1, e1, rfl, fun _ => e2⟩
theorem rngN (lo : Nat) (hi : Nat) : rng lo hi = (List.range (hi - lo)).map fun k : Nat => D.int (lo + k : Nat) := by
  unfold rng
  have : ((hi : Int) - (lo : Int)).toNat = hi - lo := by omega
  rw [this]
  exact List.map_congr_left fun k _ => by congr 1
theorem shl_int {i j : Int} (h0 : 0 ≤ j) (h1 : j ≤ 1000000) (h2 : i.natAbs < 2 ^ 64) : dShl (.int i) (.int j) = okI (i * 2 ^ j.toNat) := by unfold dShl; exact if_pos ⟨h0, h1, h2⟩
theorem shr_nat (i j : Nat) : dShr (.int i) (.int j) = okI ((i >>> j : Nat) : Int) := by
  show (if (0 : Int) ≤ (j : Int) then okI ((i : Int) / 2 ^ (j : Int).toNat) else none) = _
  rw [if_pos (by omega), Int.toNat_natCast, Nat.shiftRight_eq_div_pow, Int.natCast_ediv, Int.natCast_pow]
  rfl
theorem band_nat (i j : Nat) : a47 (.int i) (.int j) = okI ((i &&& j : Nat) : Int) := by
  show (if 0 ≤ (i : Int) ∧ 0 ≤ (j : Int) then okI (((i : Int).toNat &&& (j : Int).toNat : Nat) : Int) else none) = _
  rw [if_pos (by omega), Int.toNat_natCast, Int.toNat_natCast]
theorem a5I (i j : Nat) : dBor (.int i) (.int j) = okI ((i ||| j : Nat) : Int) := by
  show (if 0 ≤ (i : Int) ∧ 0 ≤ (j : Int) then okI (((i : Int).toNat ||| (j : Int).toNat : Nat) : Int) else none) = _
  rw [if_pos (by omega), Int.toNat_natCast, Int.toNat_natCast]
theorem and1 (w k : Nat) : (w >>> k &&& 1) = (w.testBit k).toNat := by
  unfold Nat.testBit
  rw [Nat.and_comm]
  have h : 1 &&& w >>> k = (w >>> k) % 2 := by rw [Nat.and_comm, Nat.and_one_is_mod]
  rw [h]
  have : (w >>> k) % 2 = 0 ∨ (w >>> k) % 2 = 1 := by omega
  rcases this with e | e <;> rw [e] <;> rfl
theorem bit_e {w k : Nat} {a b : ME} (h1 : a ρ = okI w) (h2 : b ρ = okI k) : eBin a47 (eBin dShr a b) (eC (.int 1)) ρ = okI ((w.testBit k).toNat : Int) := by
  rw [← and1]
  exact a0e (a0e h1 h2 (shr_nat w k)) rfl (band_nat _ 1)
theorem bit_eq0 {w k : Nat} {a b : ME} (h1 : a ρ = okI w) (h2 : b ρ = okI k) : eBin dEq (eBin a47 (eBin dShr a b) (eC (.int 1))) (eC (.int 0)) ρ = okB (!w.testBit k) := by
  refine a0e (bit_e h1 h2) rfl ?_
  cases w.testBit k <;> rfl
theorem le_d (i j : Int) : dLe (.int i) (.int j) = okB (decide (i ≤ j)) := rfl
theorem gt_d (i j : Int) : dGt (.int i) (.int j) = okB (decide (j < i)) := rfl
theorem eq_d (i j : Int) : dEq (.int i) (.int j) = okB (decide (i = j)) := rfl
theorem ne_d (i j : Int) : dNe (.int i) (.int j) = okB (!decide (i = j)) := rfl
theorem le_t {i j : Int} (h : i ≤ j) : dLe (.int i) (.int j) = okB true := by rw [le_d, decide_eq_true h]
theorem le_f {i j : Int} (h : ¬ i ≤ j) : dLe (.int i) (.int j) = okB false := by rw [le_d, decide_eq_false h]
theorem gt_t {i j : Int} (h : j < i) : dGt (.int i) (.int j) = okB true := by rw [gt_d, decide_eq_true h]
theorem gt_f {i j : Int} (h : ¬ j < i) : dGt (.int i) (.int j) = okB false := by rw [gt_d, decide_eq_false h]
theorem eq_t {i j : Int} (h : i = j) : dEq (.int i) (.int j) = okB true := by rw [eq_d, decide_eq_true h]
theorem eq_f {i j : Int} (h : ¬ i = j) : dEq (.int i) (.int j) = okB false := by rw [eq_d, decide_eq_false h]
theorem ne_t {i j : Int} (h : ¬ i = j) : dNe (.int i) (.int j) = okB true := by rw [ne_d, decide_eq_false h]; rfl
theorem ne_f {i j : Int} (h : i = j) : dNe (.int i) (.int j) = okB false := by rw [ne_d, decide_eq_true h]; rfl
theorem a7k {F : List D → Option R} {e1 e2 e3 e4 : ME} {s1 s2 s3 s4 : S} {r : Option R} (h1 : e1 ρ = some (.ok s1)) (h2 : e2 ρ = some (.ok s2)) (h3 : e3 ρ = some (.ok s3)) (h4 : e4 ρ = some (.ok s4)) (h : F [s1.val, s2.val, s3.val, s4.val] = r) : a0g F [e1, e2, e3, e4] ρ = r := by
  unfold a0g a0X; rw [h1]; dsimp only [a0Y]; unfold a0X; rw [h2]; dsimp only [a0Y]; unfold a0X; rw [h3]; dsimp only [a0Y]; unfold a0X; rw [h4]; exact h
theorem call6 {F : List D → Option R} {e1 e2 e3 e4 e5 e6 : ME} {s1 s2 s3 s4 s5 s6 : S} {r : Option R} (h1 : e1 ρ = some (.ok s1)) (h2 : e2 ρ = some (.ok s2)) (h3 : e3 ρ = some (.ok s3)) (h4 : e4 ρ = some (.ok s4)) (h5 : e5 ρ = some (.ok s5)) (h6 : e6 ρ = some (.ok s6)) (h : F [s1.val, s2.val, s3.val, s4.val, s5.val, s6.val] = r) : a0g F [e1, e2, e3, e4, e5, e6] ρ = r := by
  unfold a0g a0X; rw [h1]; dsimp only [a0Y]; unfold a0X; rw [h2]; dsimp only [a0Y]; unfold a0X; rw [h3]; dsimp only [a0Y]; unfold a0X; rw [h4]; dsimp only [a0Y]; unfold a0X; rw [h5]; dsimp only [a0Y]; unfold a0X; rw [h6]; exact h
theorem a1v {f : D → D → Option R} {a b : ME} {ρ : MEnv} : eBin f a b ρ = a0Y (a ρ) (fun x => a0Y (b ρ) (f x)) := rfl
theorem a1Q {i j : Int} (h : 0 < j) (h2 : j < 1073741824) : a2b (.int i) (.int j) = okI (i / j) := by unfold a2b; exact if_pos ⟨h, h2⟩
theorem neg_d (i : Int) : dNeg (.int i) = okI (-i) := rfl
theorem int_t : dInt (.bl true) = okI 1 := rfl
theorem int_f : dInt (.bl false) = okI 0 := rfl
theorem a2T : lim = 1000000 := rfl
theorem a6k {d : D} {ds : List D} : dIx (.lst (d :: ds)) (.int 0) = okD d := a3J (n := 0) rfl
theorem a6j {d e : D} {ds : List D} : dIx (.lst (d :: e :: ds)) (.int 1) = okD e := a3J (n := 1) rfl
theorem ix_l2 {d e f : D} {ds : List D} : dIx (.lst (d :: e :: f :: ds)) (.int 2) = okD f := a3J (n := 2) rfl
theorem a5A {d : D} {ds : List D} : dIx (.tup (d :: ds)) (.int 0) = okD d := ix_tup (n := 0) rfl
theorem a2M {d e : D} {ds : List D} : dIx (.tup (d :: e :: ds)) (.int 1) = okD e := ix_tup (n := 1) rfl
theorem a44 {d e f : D} {ds : List D} : dIx (.tup (d :: e :: f :: ds)) (.int 2) = okD f := ix_tup (n := 2) rfl
theorem a4D {bd : MB} {body : MC} (g : Nat → D) (Iv : Nat → MEnv → Prop) (n : Nat) {ρ : MEnv} (h0 : Iv 0 ρ) (hs : ∀ (k : Nat) (ρ : MEnv), k < n → Iv k ρ → ∃ ρ1 ρ2, bd (g k) ρ = some ρ1 ∧ body ρ1 = some (.next ρ2) ∧ Iv (k + 1) ρ2) :
    ∃ ρ', forD bd body ((List.range n).map g) ρ = some (.next ρ') ∧ Iv n ρ' := by
  obtain ⟨ρ', e, h⟩ := a4C (bd := bd) (body := body) Iv ((List.range n).map g) 0 ρ h0 fun k ρ d e hk => by
    rw [List.getElem?_map] at e
    have hk' : k < n := by
      by_cases z : k < n
      · exact z
      · rw [List.getElem?_eq_none (by rw [List.length_range]; omega)] at e; cases e
    rw [List.getElem?_range hk'] at e
    cases e
    rw [Nat.zero_add] at hk ⊢
    exact hs k ρ hk' hk
  rw [Nat.zero_add, List.length_map, List.length_range] at h
  exact ⟨ρ', e, h⟩
theorem a50 {α : Type} (xs : List α) (g : α → D) (z : α) {a : ME} {ρ : MEnv} {s : S} (h : a ρ = some (.ok s)) (hs : s.val = .lst (xs.map g) ∨ s.val = .tup (xs.map g)) : a3Z a ρ = some (.ok ((List.range xs.length).map fun i : Nat => D.tup [.int i, g (xs.getD i z)])) := by
  have e : (List.range (xs.map g).length).zipWith (fun (i : Nat) d => D.tup [.int i, d]) (xs.map g) = (List.range xs.length).map fun i : Nat => D.tup [.int i, g (xs.getD i z)] := by
    refine List.ext_getElem? fun i => ?_
    rw [List.getElem?_zipWith, List.length_map]
    by_cases hi : i < xs.length
    · rw [List.getElem?_range hi, List.getElem?_map, List.getElem?_eq_getElem hi, List.getElem?_map, List.getElem?_range hi]
      simp only [Option.map_some, List.getD_eq_getElem?_getD, List.getElem?_eq_getElem hi, Option.getD_some]
    · rw [List.getElem?_eq_none (l := List.range xs.length) (by rw [List.length_range]; omega), List.getElem?_eq_none (l := (List.range xs.length).map fun i : Nat => D.tup [.int i, g (xs.getD i z)]) (by rw [List.length_map, List.length_range]; omega)]
  unfold a3Z iArg
  rw [h]
  dsimp only
  rcases hs with hs | hs
  · rw [hs]; show some (RI.ok _) = _; rw [e]
  · rw [hs]; show some (RI.ok _) = _; rw [e]
theorem a5R {a b : ME} {ρ : MEnv} {i j : Int} (h : a ρ = okI i) (h2 : b ρ = okI j) (hr : a3n i = true) (hr2 : a3n j = true) : a2u a b ρ = some (.ok (rng i j)) := by
  unfold a2u iArg
  rw [h]; dsimp only [S.val]; rw [h2]; dsimp only [S.val]; rw [if_pos ⟨hr, hr2⟩]
theorem a46 {α : Type} {bd : MB} {body : MC} (g : α → D) (Iv : List α → MEnv → Prop) : ∀ (xs pre : List α) (ρ : MEnv), Iv pre ρ → (∀ (q : List α) (x : α) (post : List α) (ρ : MEnv), pre ++ xs = q ++ x :: post → Iv q ρ → ∃ ρ1 ρ2, bd (g x) ρ = some ρ1 ∧ (body ρ1 = some (.next ρ2) ∨ body ρ1 = some (.cont ρ2)) ∧ Iv (q ++ [x]) ρ2) →
    ∃ ρ', forD bd body (xs.map g) ρ = some (.next ρ') ∧ Iv (pre ++ xs) ρ'
  | [], pre, ρ, h, _ => ⟨ρ, rfl, by simpa using h⟩
  | x :: xs, pre, ρ, h, hs => by
    obtain ⟨ρ1, ρ2, e1, e2, h2⟩ := hs pre x xs ρ rfl h
    obtain ⟨ρ', e3, h3⟩ := a46 g Iv xs (pre ++ [x]) ρ2 h2 fun q y post ρ hy hi => hs q y post ρ (by rw [← hy]; simp) hi
    refine ⟨ρ', ?_, by simpa using h3⟩
    rw [List.map_cons]
    unfold forD
    rw [e1]
    dsimp only
    rcases e2 with e2 | e2 <;> rw [e2] <;> exact e3
theorem a4B {α : Type} {bd : MB} {body : MC} (g : α → D) (Iv : List α → MEnv → Prop) (xs : List α) {ρ : MEnv} (h0 : Iv [] ρ) (hs : ∀ (q : List α) (x : α) (post : List α) (ρ : MEnv), xs = q ++ x :: post → Iv q ρ → ∃ ρ1 ρ2, bd (g x) ρ = some ρ1 ∧ (body ρ1 = some (.next ρ2) ∨ body ρ1 = some (.cont ρ2)) ∧ Iv (q ++ [x]) ρ2) :
    ∃ ρ', forD bd body (xs.map g) ρ = some (.next ρ') ∧ Iv xs ρ' := by
  have := a46 (bd := bd) (body := body) g Iv xs [] ρ h0 (by simpa using hs)
  simpa using this
end
end L3
namespace L3
open PySem
section
variable {ρ : MEnv} {a b e1 e2 e3 e4 : ME} {s s1 s2 s3 s4 : S} {o o1 : O} {r : Option O} {q : Option R} {F : a5h} {c : String} {f m : Str} {ns : List Str} {ds : List D} {cs : List String}
end
end L3
namespace Bell
open PySem L3
def a2S (G : List D → Option R) : MC :=
 (sSeq (sIf (eOr (eUn (dIsT "tuple") (eVar 1)) (eUn (dIsT "list") (eVar 1))) (sSeq (sIf (eAnd (eUn (dIsT "tuple") (eVar 1)) (eNot (eUn (dIsT "tuple") (eVar 0)))) (sRet (eC (.bl false))) a0u) (sSeq (sIf (eAnd (eUn (dIsT "list") (eVar 1)) (eNot (eUn (dIsT "list") (eVar 0)))) (sRet (eC (.bl false))) a0u) (sSeq (sIf (eBin dNe (a0o (f1 dLen) [(eAny 0)]) (a0o (f1 dLen) [(eAny 1)])) (sRet (eC (.bl false))) a0u) (sRet (a0g (f1 dAll) [(a07 [2] (a0O (a0o (f1 dLen) [(eAny 1)])) (a0C 2) a31 (a0g G [(eBin dIx (eVar 0) (eVar 2)), (eBin dIx (eVar 1) (eVar 2))]))]))))) a0u) (sSeq (sIf (eUn dIsN (eVar 1)) (sRet (eUn dIsN (eVar 0))) a0u) (sSeq (sIf (eUn (dIsT "str") (eVar 1)) (sRet (eAnd (eUn (dIsT "str") (eVar 0)) (eBin dEq (eVar 0) (eVar 1)))) a0u) (sRet (eAnd (eUn (dIsT "int") (eVar 0)) (eAnd (eNot (eUn (dIsT "bool") (eVar 0))) (eBin dEq (eVar 0) (eVar 1))))))))
def a0m : List D → Option R := Nat.rec (motive := fun _ => List D → Option R) (fun _ => none) (fun _ G => fnD 2 3 (a2S G)) 8
def a42 : MC :=
 (sSeq (sSet 2 (eLst [])) (sSeq (sFor (a0O (a0o (f1 dLen) [(eBin dIx (eVar 0) (eC (.int 1)))])) (a0C 3) (sSeq (sSet 4 (eBin dIx (eBin dIx (eVar 0) (eC (.int 1))) (eVar 3))) (sSeq (sSet 5 (eLst [])) (sSeq (sFor (a0O (a0o (f1 dLen) [(eBin dIx (eVar 4) (eC (.int 2)))])) (a0C 6) (sSeq (sSet 7 (eBin dIx (eBin dIx (eBin dIx (eVar 4) (eC (.int 2))) (eVar 6)) (eC (.int 1)))) (sSeq (sFor (iSeq (eVar 1)) (a0C 8) (sIf (eAnd (eBin dEq (eBin dIx (eVar 8) (eC (.int 0))) (eVar 3)) (eBin dEq (eBin dIx (eVar 8) (eC (.int 1))) (eVar 6))) (sSet 7 (eBin dBor (eVar 7) (eBin dShl (eC (.int 1)) (eBin dIx (eVar 8) (eC (.int 2)))))) a0u)) (a0I 5 (eTup [(eBin dIx (eBin dIx (eBin dIx (eVar 4) (eC (.int 2))) (eVar 6)) (eC (.int 0))), (eVar 7)]))))) (sDem 5 (a0I 2 (eTup [(eBin dIx (eVar 4) (eC (.int 0))), (eBin dIx (eVar 4) (eC (.int 1))), (a0g (f1 a2p) [(eVar 5)])]))))))) (sDem 2 (sRet (eTup [(eBin dIx (eVar 0) (eC (.int 0))), (a0g (f1 a2p) [(eVar 2)])])))))
def a0U : List D → Option R := fnD 2 9 a42
def a6i : MC :=
 (sSeq (sSet 1 (eBin dIx (eVar 0) (eC (.int 1)))) (sSeq (sSet 2 (eLst [])) (sSeq (sFor (a0O (a0o (f1 dLen) [(eAny 1)])) (a0C 3) (sFor (a0O (a0o (f1 dLen) [(eBin dIx (eBin dIx (eVar 1) (eVar 3)) (eC (.int 2)))])) (a0C 4) (sSeq (sSet 5 (eBin dIx (eBin dIx (eBin dIx (eBin dIx (eVar 1) (eVar 3)) (eC (.int 2))) (eVar 4)) (eC (.int 1)))) (sFor (a2u (eC (.int 1)) (a0o (f1 dLen) [(eAny 1)])) (a0C 6) (sIf (eAnd (eBin dGt (eBin dIx (eBin dIx (eVar 1) (eVar 6)) (eC (.int 1))) (eBin dIx (eBin dIx (eVar 1) (eVar 3)) (eC (.int 1)))) (eBin dEq (eBin dMod (eBin a2b (eVar 5) (eBin dShl (eC (.int 1)) (eVar 6))) (eC (.int 2))) (eC (.int 0)))) (a0I 2 (eTup [(eVar 3), (eVar 4), (eVar 6)])) a0u))))) (sDem 2 (sRet (eVar 2))))))
def a02 : List D → Option R := fnD 1 7 a6i
def a5x : MC :=
 (sSeq (sSet 2 (eC (.int 0))) (sSeq (sIf (eBin dGt (a0o (f1 dLen) [(eAny 0)]) (eC (.int 0))) (sSet 2 (eBin dIx (eVar 0) (eBin dMod (eVar 1) (a0o (f1 dLen) [(eAny 0)])))) a0u) (sSeq (sSet 3 (eBin dMod (eBin dAdd (eBin dAdd (eBin dMul (eBin dMod (eVar 2) (eC (.int 1000003))) (eC (.int 48271))) (eBin dMul (eBin dMul (eVar 1) (eVar 1)) (eC (.int 7919)))) (eC (.int 1))) (eC (.int 65521)))) (sRet (eBin dMod (eBin dMul (eVar 3) (eVar 3)) (eC (.int 65519)))))))
def a0i : List D → Option R := fnD 2 4 a5x
def a1J : MC :=
 (sSeq (sSet 2 (a0g a0i [(eVar 0), (eVar 1)])) (sSeq (sSet 3 (a0g a0i [(eVar 0), (eBin dAdd (eVar 1) (eC (.int 1)))])) (sSeq (sIf (eBin dEq (eBin dMod (eVar 2) (eC (.int 3))) (eC (.int 0))) (sRet (eBin dSub (eBin dMod (eVar 3) (eC (.int 5))) (eC (.int 2)))) a0u) (sSeq (sIf (eBin dEq (eBin dMod (eVar 2) (eC (.int 17))) (eC (.int 1))) (sRet (eBin dIx (eLst [(eBin dPow (eC (.int 10)) (eC (.int 9))), (eUn dNeg (eBin dPow (eC (.int 10)) (eC (.int 9))))]) (eBin dMod (eVar 3) (eC (.int 2))))) a0u) (sRet (eBin dSub (eBin dMod (eBin dAdd (eBin dMul (eVar 2) (eC (.int 65519))) (eVar 3)) (eC (.int 2000000001))) (eC (.int 1000000000))))))))
def a0n : List D → Option R := fnD 2 4 a1J
def a5y : MC :=
 (sSeq (sSet 1 (eBin dAdd (eC (.int 1)) (eBin dMod (a0g a0i [(eVar 0), (eC (.int 3))]) (eC (.int 2))))) (sSeq (sSet 2 (a0g a0i [(eVar 0), (eC (.int 2))])) (sSeq (sSet 2 (eBin dIx (eLst [(eBin dMod (eBin a2b (eVar 2) (eC (.int 16))) (eC (.int 4))), (eBin dAdd (eC (.int 4)) (eBin dMod (eBin a2b (eVar 2) (eC (.int 16))) (eC (.int 5))))]) (a0g (f1 dInt) [(eBin dEq (eBin dMod (eVar 2) (eC (.int 8))) (eC (.int 0)))]))) (sSeq (sSet 3 (eLst [])) (sSeq (sFor (a0O (eVar 2)) (a0C 4) (sSeq (sSet 5 (eBin dAdd (eBin dAdd (eC (.int 4)) (eBin dMul (eC (.int 5)) (eVar 4))) (eBin dMul (eC (.int 400)) (eBin a2b (eVar 4) (eC (.int 3)))))) (sSeq (sSet 6 (eLst [(a0g a0n [(eVar 0), (eVar 5)])])) (sSeq (sSet 7 (eBin dMod (a0g a0i [(eVar 0), (eBin dAdd (eVar 5) (eC (.int 2)))]) (eC (.int 5)))) (sSeq (sIf (eOr (eAnd (eBin dEq (eVar 1) (eC (.int 2))) (eBin dGt (eVar 7) (eBin dIx (eLst [(eC (.int 0)), (eC (.int 0)), (eC (.int 2))]) (eBin dMod (eVar 4) (eC (.int 3)))))) (eAnd (eBin dEq (eVar 1) (eC (.int 1))) (eBin dEq (eVar 7) (eC (.int 0))))) (a0I 6 (a0g a0n [(eVar 0), (eBin dAdd (eVar 5) (eC (.int 3)))])) a0u) (sDem 6 (a0I 3 (eTup [(eBin dIx (eC (.str "abcdefgh")) (eVar 4)), (a0g (f1 a2p) [(eVar 6)])])))))))) (sDem 3 (sRet (a0g (f1 a2p) [(eVar 3)]))))))))
def a2v : List D → Option R := fnD 1 8 a5y
def a6h : MC :=
 (sSeq (sSet 4 (eBin dMod (a0g a0i [(eVar 0), (eVar 1)]) (eC (.int 11)))) (sSeq (sSet 5 (a0g a0i [(eVar 0), (eBin dAdd (eVar 1) (eC (.int 1)))])) (sSeq (sSet 6 (a0g a0n [(eVar 0), (eBin dAdd (eVar 1) (eC (.int 2)))])) (sSeq (sIf (eOr (eBin dEq (a0o (f1 dLen) [(eAny 2)]) (eC (.int 0))) (eBin dEq (eVar 4) (eC (.int 4)))) (sRet (eTup [(eC (.str "still")), (eBin dAdd (eC (.int 1)) (eBin dMod (eVar 5) (eVar 3)))])) a0u) (sSeq (sSet 7 (eBin dMod (eVar 5) (a0o (f1 dLen) [(eAny 2)]))) (sSeq (sSet 8 (a0o (f1 dLen) [(eBin dIx (eBin dIx (eVar 2) (eVar 7)) (eC (.int 1)))])) (sSeq (sSet 9 (a07 [13] (a0O (a0o (f1 dLen) [(eAny 2)])) (a0C 13) (eAnd (eBin dNe (eVar 13) (eVar 7)) (eBin dEq (a0o (f1 dLen) [(eBin dIx (eBin dIx (eVar 2) (eVar 13)) (eC (.int 1)))]) (eVar 8))) (eVar 13))) (sDem 9 (sSeq (sSet 10 (eBin dIx (eBin dAdd (eVar 9) (eLst [(eVar 7)])) (eBin dMod (a0g a0i [(eVar 0), (eBin dAdd (eVar 1) (eC (.int 4)))]) (eBin dAdd (a0o (f1 dLen) [(eAny 9)]) (eC (.int 1)))))) (sSeq (sIf (eOr (eBin dEq (eVar 4) (eC (.int 5))) (eBin dEq (eVar 4) (eC (.int 6)))) (sSeq (sSet 12 (eBin dSub (eBin dIx (eBin dIx (eBin dIx (eVar 2) (eVar 7)) (eC (.int 1))) (eC (.int 0))) (eBin dIx (eBin dIx (eBin dIx (eVar 2) (eVar 10)) (eC (.int 1))) (eC (.int 0))))) (sSeq (sIf (eAnd (eBin dGt (eBin dMod (eBin a2b (eVar 5) (eC (.int 7))) (eC (.int 3))) (eC (.int 0))) (eBin dLe (a0g (f1 dAbs) [(eVar 12)]) (eBin dPow (eC (.int 10)) (eC (.int 9))))) (sSet 6 (eVar 12)) a0u) (sRet (eTup [(eBin dIx (eLst [(eC (.str "is")), (eC (.str "most"))]) (eBin dSub (eVar 4) (eC (.int 5)))), (eVar 7), (eVar 10), (eVar 6)])))) a0u) (sSeq (sIf (eAnd (eBin dEq (eVar 4) (eC (.int 1))) (eBin dNe (eVar 10) (eVar 7))) (sRet (eTup [(eC (.str "copy")), (eVar 7), (eVar 10)])) a0u) (sSeq (sIf (eOr (eBin dEq (eVar 4) (eC (.int 2))) (eAnd (eBin dEq (eVar 4) (eC (.int 3))) (eBin dEq (eVar 8) (eC (.int 2))))) (sRet (eTup [(eC (.str "grow")), (eVar 7), (eVar 6)])) a0u) (sSeq (sIf (eBin dEq (eVar 4) (eC (.int 3))) (sRet (eTup [(eC (.str "tick")), (eVar 7)])) a0u) (sSeq (sIf (eOr (eBin dEq (eVar 4) (eC (.int 7))) (eBin dEq (eVar 4) (eC (.int 10)))) (sRet (eTup [(eC (.str "none")), (eVar 7)])) a0u) (sSeq (sSet 11 (a07 [14] (a0O (a0o (f1 dLen) [(eAny 2)])) (a0C 14) (eAnd (eBin dNe (eVar 14) (eVar 7)) (eAnd (eBin dNe (eVar 14) (eVar 10)) (eBin dEq (a0o (f1 dLen) [(eBin dIx (eBin dIx (eVar 2) (eVar 14)) (eC (.int 1)))]) (eC (.int 1))))) (eVar 14))) (sSeq (sIf (eAnd (eBin dEq (eVar 4) (eC (.int 8))) (eAnd (eBin dNe (eVar 10) (eVar 7)) (eBin dGt (a0o (f1 dLen) [(eAny 11)]) (eC (.int 0))))) (sDem 11 (sRet (eTup [(eC (.str "anew")), (eVar 7), (eVar 10), (eBin dIx (eVar 11) (eBin dMod (eBin a2b (eVar 5) (eC (.int 5))) (a0o (f1 dLen) [(eAny 11)])))]))) a0u) (sSeq (sIf (eBin dEq (eVar 8) (eC (.int 1))) (sRet (eTup [(eC (.str "put")), (eVar 7), (eTup [(eVar 6)])])) a0u) (sRet (eTup [(eC (.str "put")), (eVar 7), (eTup [(eVar 6), (a0g a0n [(eVar 0), (eBin dAdd (eVar 1) (eC (.int 5)))])])])))))))))))))))))))
def a1F : List D → Option R := fnD 4 15 a6h
def a6Y : MC :=
 (sSeq (sSet 6 (eLst [])) (sSeq (sFor (a0O (eBin dAdd (eC (.int 1)) (eBin dMod (a0g a0i [(eVar 0), (eVar 1)]) (eVar 4)))) (a0C 7) (sSeq (sSet 8 (eBin dAdd (eBin dAdd (eVar 1) (eC (.int 3))) (eBin dMul (eC (.int 8)) (eVar 7)))) (sSeq (sSet 9 (eC (.int 0))) (sSeq (sSet 10 (a0g a0i [(eVar 0), (eBin dAdd (eVar 8) (eC (.int 7)))])) (sSeq (sIf (eBin dEq (eBin dMod (eVar 10) (eC (.int 2))) (eC (.int 1))) (sSet 9 (eBin dMul (eC (.int 2)) (eBin dMod (eBin a2b (eVar 10) (eC (.int 2))) (eBin dShl (eC (.int 1)) (eVar 3))))) a0u) (a0I 6 (eTup [(a0g a1F [(eVar 0), (eVar 8), (eVar 2), (eVar 5)]), (eVar 9)]))))))) (sDem 6 (sRet (a0g (f1 a2p) [(eVar 6)])))))
def a2o : List D → Option R := fnD 6 11 a6Y
def a4v : MC :=
 (sSeq (sSet 4 (a0g a2v [(eVar 0)])) (sSeq (sSet 5 (eLst [(eTup [(eC (.str "main")), (eC (.int 0)), (a0g a2o [(eVar 0), (eC (.int 20)), (eVar 4), (eVar 1), (eVar 2), (eVar 3)])])])) (sSeq (sFor (a0O (eVar 1)) (a0C 6) (sSeq (sSet 7 (eBin dAdd (eC (.int 20)) (eBin dMul (eBin dAdd (eC (.int 3)) (eBin dMul (eC (.int 8)) (eVar 2))) (eBin dAdd (eVar 6) (eC (.int 1)))))) (sSeq (sSet 8 (eBin dAdd (eC (.int 1)) (eBin dMod (a0g a0i [(eVar 0), (eBin dAdd (eVar 7) (eC (.int 1)))]) (eBin dIx (eLst [(eC (.int 3)), (eC (.int 9))]) (eBin dMod (a0g a0i [(eVar 0), (eBin dAdd (eVar 7) (eC (.int 2)))]) (eC (.int 2))))))) (a0I 5 (eTup [(eBin dIx (eC (.str "pqrstu")) (eVar 6)), (eVar 8), (a0g a2o [(eVar 0), (eVar 7), (eVar 4), (eVar 1), (eVar 2), (eVar 3)])]))))) (sDem 5 (sRet (eTup [(eVar 4), (a0g (f1 a2p) [(eVar 5)])]))))))
def a1R : List D → Option R := fnD 4 9 a4v
def m_barred : MC :=
 (sSeq (sNewT 2) (sSeq (sFor (iSeq (eVar 1)) (a0C 3) (a5j 2 (a15 (eVar 3) none (some (eC (.int 2)))) (eBin dBor (eGet 2 (a15 (eVar 3) none (some (eC (.int 2)))) 0) (eBin dShl (eC (.int 1)) (eBin dIx (eVar 3) (eC (.int 2))))))) (sSeq (sSet 4 (eLst [])) (sSeq (sFor (a3Z (eBin dIx (eVar 0) (eC (.int 1)))) (bTup [5, 6]) (sSeq (sSet 7 (a07 [8, 9] (a3Z (eBin dIx (eVar 6) (eC (.int 2)))) (bTup [8, 9]) a31 (eTup [(eBin dIx (eVar 9) (eC (.int 0))), (eBin dBor (eBin dIx (eVar 9) (eC (.int 1))) (eGet 2 (eTup [(eVar 5), (eVar 8)]) 0))]))) (sDem 7 (a0I 4 (eTup [(eBin dIx (eVar 6) (eC (.int 0))), (eBin dIx (eVar 6) (eC (.int 1))), (a0g (f1 a2p) [(eVar 7)])]))))) (sDem 4 (sRet (eTup [(eBin dIx (eVar 0) (eC (.int 0))), (a0g (f1 a2p) [(eVar 4)])])))))))
def a1S : List D → Option R := fnD 2 10 m_barred
def a6Z : MC :=
 (sSeq (sSet 1 (eBin dIx (eVar 0) (eC (.int 1)))) (sSeq (sSet 2 (eLst [])) (sSeq (sFor (a3Z (eVar 1)) (bTup [3, 4]) (sSeq (sSet 5 (a07 [8] (a2u (eC (.int 1)) (a0o (f1 dLen) [(eAny 1)])) (a0C 8) (eBin dGt (eBin dIx (eBin dIx (eVar 1) (eVar 8)) (eC (.int 1))) (eBin dIx (eVar 4) (eC (.int 1)))) (eVar 8))) (sFor (a3Z (eBin dIx (eVar 4) (eC (.int 2)))) (bTup [6, 7]) (sDem 5 (a3b 2 (a07 [8] (iSeq (eVar 5)) (a0C 8) (eBin dEq (eBin a47 (eBin dShr (eBin dIx (eVar 7) (eC (.int 1))) (eVar 8)) (eC (.int 1))) (eC (.int 0))) (eTup [(eVar 3), (eVar 6), (eVar 8)]))))))) (sDem 2 (sRet (eVar 2))))))
def a1u : List D → Option R := fnD 1 9 a6Z
def m_law : MC :=
 (sSeq (sSet 1 (a0g a1R [(eVar 0), (eBin dMod (a0g a0i [(eVar 0), (eC (.int 1))]) (eC (.int 7))), (eC (.int 5)), (eC (.int 9))])) (sSeq (sSet 2 (a0g a02 [(eVar 1)])) (sSeq (sSet 3 (eBin dMod (a0g a0i [(eVar 0), (eC (.int 0))]) (eC (.int 5)))) (sSeq (sIf (eBin dEq (eVar 3) (eC (.int 0))) (sSet 2 (eLst [])) a0u) (sSeq (sIf (eBin dGt (eVar 3) (eC (.int 1))) (sDem 2 (sSet 2 (a07 [9] (a0O (a0o (f1 dLen) [(eAny 2)])) (a0C 9) (eBin dGt (eBin dMod (a0g a0i [(eVar 0), (eBin dAdd (eC (.int 300)) (eVar 9))]) (eC (.int 3))) (eC (.int 0))) (eBin dIx (eVar 2) (eVar 9))))) a0u) (sDem 2 (sSeq (sSet 4 (a0g (f1 a30) [(eVar 2)])) (sSeq (sIf (eOr (eBin dEq (eVar 3) (eC (.int 2))) (eBin dEq (eVar 3) (eC (.int 1)))) (sDem 2 (sSet 4 (eUn a7d (eVar 2)))) a0u) (sSeq (sIf (eAnd (eBin dEq (eVar 3) (eC (.int 3))) (eBin dGt (a0o (f1 dLen) [(eAny 2)]) (eC (.int 0)))) (sSeq (sSet 8 (eBin dMod (a0g a0i [(eVar 0), (eC (.int 299))]) (a0o (f1 dLen) [(eAny 2)]))) (sDem 2 (sSet 4 (eBin dAdd (a15 (eVar 2) (some (eVar 8)) none) (a15 (eVar 2) none (some (eVar 8))))))) a0u) (sDem 4 (sSeq (sSet 5 (a0g (f1 a30) [(eVar 4)])) (sDem 5 (sSeq (sSet 6 (a0g a1S [(eVar 1), (eVar 5)])) (sDem 2 (sSeq (sSet 7 (a0g a0U [(eVar 1), (eVar 2)])) (sDem 5 (sDem 4 (sSeq (sIf (eOr (eNot (a0g a0m [(eVar 6), (eVar 7)])) (eNot (a0g a0m [(eVar 5), (eVar 4)]))) (sRet (eC (.bl false))) a0u) (sDem 2 (sRet (a0g a0m [(a0g a1u [(eVar 6)]), (a07 [10] (iSeq (a0g a02 [(eVar 1)])) (a0C 10) (eBin (dInX true 2) (eVar 10) (eVar 2)) (eVar 10))])))))))))))))))))))))
def f_law : List D → Option R := fnD 1 11 m_law
end Bell
namespace Bell
open PySem L3
def a34 : MC := (sIf (eAnd (eBin dEq (eBin dIx (eVar 8) (eC (.int 0))) (eVar 3)) (eBin dEq (eBin dIx (eVar 8) (eC (.int 1))) (eVar 6))) (sSet 7 (eBin dBor (eVar 7) (eBin dShl (eC (.int 1)) (eBin dIx (eVar 8) (eC (.int 2)))))) a0u)
def a33 : MC := (sSeq (sSet 7 (eBin dIx (eBin dIx (eBin dIx (eVar 4) (eC (.int 2))) (eVar 6)) (eC (.int 1)))) (sSeq (sFor (iSeq (eVar 1)) (a0C 8) (sIf (eAnd (eBin dEq (eBin dIx (eVar 8) (eC (.int 0))) (eVar 3)) (eBin dEq (eBin dIx (eVar 8) (eC (.int 1))) (eVar 6))) (sSet 7 (eBin dBor (eVar 7) (eBin dShl (eC (.int 1)) (eBin dIx (eVar 8) (eC (.int 2)))))) a0u)) (a0I 5 (eTup [(eBin dIx (eBin dIx (eBin dIx (eVar 4) (eC (.int 2))) (eVar 6)) (eC (.int 0))), (eVar 7)]))))
def a32 : MC := (sSeq (sSet 4 (eBin dIx (eBin dIx (eVar 0) (eC (.int 1))) (eVar 3))) (sSeq (sSet 5 (eLst [])) (sSeq (sFor (a0O (a0o (f1 dLen) [(eBin dIx (eVar 4) (eC (.int 2)))])) (a0C 6) (sSeq (sSet 7 (eBin dIx (eBin dIx (eBin dIx (eVar 4) (eC (.int 2))) (eVar 6)) (eC (.int 1)))) (sSeq (sFor (iSeq (eVar 1)) (a0C 8) (sIf (eAnd (eBin dEq (eBin dIx (eVar 8) (eC (.int 0))) (eVar 3)) (eBin dEq (eBin dIx (eVar 8) (eC (.int 1))) (eVar 6))) (sSet 7 (eBin dBor (eVar 7) (eBin dShl (eC (.int 1)) (eBin dIx (eVar 8) (eC (.int 2)))))) a0u)) (a0I 5 (eTup [(eBin dIx (eBin dIx (eBin dIx (eVar 4) (eC (.int 2))) (eVar 6)) (eC (.int 0))), (eVar 7)]))))) (sDem 5 (a0I 2 (eTup [(eBin dIx (eVar 4) (eC (.int 0))), (eBin dIx (eVar 4) (eC (.int 1))), (a0g (f1 a2p) [(eVar 5)])]))))))
def a5c : MC := (sIf (eAnd (eBin dGt (eBin dIx (eBin dIx (eVar 1) (eVar 6)) (eC (.int 1))) (eBin dIx (eBin dIx (eVar 1) (eVar 3)) (eC (.int 1)))) (eBin dEq (eBin dMod (eBin a2b (eVar 5) (eBin dShl (eC (.int 1)) (eVar 6))) (eC (.int 2))) (eC (.int 0)))) (a0I 2 (eTup [(eVar 3), (eVar 4), (eVar 6)])) a0u)
def a5b : MC := (sSeq (sSet 5 (eBin dIx (eBin dIx (eBin dIx (eBin dIx (eVar 1) (eVar 3)) (eC (.int 2))) (eVar 4)) (eC (.int 1)))) (sFor (a2u (eC (.int 1)) (a0o (f1 dLen) [(eAny 1)])) (a0C 6) (sIf (eAnd (eBin dGt (eBin dIx (eBin dIx (eVar 1) (eVar 6)) (eC (.int 1))) (eBin dIx (eBin dIx (eVar 1) (eVar 3)) (eC (.int 1)))) (eBin dEq (eBin dMod (eBin a2b (eVar 5) (eBin dShl (eC (.int 1)) (eVar 6))) (eC (.int 2))) (eC (.int 0)))) (a0I 2 (eTup [(eVar 3), (eVar 4), (eVar 6)])) a0u)))
def a3m : MC := (sFor (a0O (a0o (f1 dLen) [(eBin dIx (eBin dIx (eVar 1) (eVar 3)) (eC (.int 2)))])) (a0C 4) (sSeq (sSet 5 (eBin dIx (eBin dIx (eBin dIx (eBin dIx (eVar 1) (eVar 3)) (eC (.int 2))) (eVar 4)) (eC (.int 1)))) (sFor (a2u (eC (.int 1)) (a0o (f1 dLen) [(eAny 1)])) (a0C 6) (sIf (eAnd (eBin dGt (eBin dIx (eBin dIx (eVar 1) (eVar 6)) (eC (.int 1))) (eBin dIx (eBin dIx (eVar 1) (eVar 3)) (eC (.int 1)))) (eBin dEq (eBin dMod (eBin a2b (eVar 5) (eBin dShl (eC (.int 1)) (eVar 6))) (eC (.int 2))) (eC (.int 0)))) (a0I 2 (eTup [(eVar 3), (eVar 4), (eVar 6)])) a0u))))
def a2W : MC := (sSeq (sSet 3 (eBin dMod (eBin dAdd (eBin dAdd (eBin dMul (eBin dMod (eVar 2) (eC (.int 1000003))) (eC (.int 48271))) (eBin dMul (eBin dMul (eVar 1) (eVar 1)) (eC (.int 7919)))) (eC (.int 1))) (eC (.int 65521)))) (sRet (eBin dMod (eBin dMul (eVar 3) (eVar 3)) (eC (.int 65519)))))
def a27 : MC := (sSeq (sSet 5 (eBin dAdd (eBin dAdd (eC (.int 4)) (eBin dMul (eC (.int 5)) (eVar 4))) (eBin dMul (eC (.int 400)) (eBin a2b (eVar 4) (eC (.int 3)))))) (sSeq (sSet 6 (eLst [(a0g a0n [(eVar 0), (eVar 5)])])) (sSeq (sSet 7 (eBin dMod (a0g a0i [(eVar 0), (eBin dAdd (eVar 5) (eC (.int 2)))]) (eC (.int 5)))) (sSeq (sIf (eOr (eAnd (eBin dEq (eVar 1) (eC (.int 2))) (eBin dGt (eVar 7) (eBin dIx (eLst [(eC (.int 0)), (eC (.int 0)), (eC (.int 2))]) (eBin dMod (eVar 4) (eC (.int 3)))))) (eAnd (eBin dEq (eVar 1) (eC (.int 1))) (eBin dEq (eVar 7) (eC (.int 0))))) (a0I 6 (a0g a0n [(eVar 0), (eBin dAdd (eVar 5) (eC (.int 3)))])) a0u) (sDem 6 (a0I 3 (eTup [(eBin dIx (eC (.str "abcdefgh")) (eVar 4)), (a0g (f1 a2p) [(eVar 6)])])))))))
def a3S : MC := (sDem 6 (a0I 3 (eTup [(eBin dIx (eC (.str "abcdefgh")) (eVar 4)), (a0g (f1 a2p) [(eVar 6)])])))
def a3j : MC := (sSeq (sIf (eOr (eBin dEq (eVar 4) (eC (.int 5))) (eBin dEq (eVar 4) (eC (.int 6)))) (sSeq (sSet 12 (eBin dSub (eBin dIx (eBin dIx (eBin dIx (eVar 2) (eVar 7)) (eC (.int 1))) (eC (.int 0))) (eBin dIx (eBin dIx (eBin dIx (eVar 2) (eVar 10)) (eC (.int 1))) (eC (.int 0))))) (sSeq (sIf (eAnd (eBin dGt (eBin dMod (eBin a2b (eVar 5) (eC (.int 7))) (eC (.int 3))) (eC (.int 0))) (eBin dLe (a0g (f1 dAbs) [(eVar 12)]) (eBin dPow (eC (.int 10)) (eC (.int 9))))) (sSet 6 (eVar 12)) a0u) (sRet (eTup [(eBin dIx (eLst [(eC (.str "is")), (eC (.str "most"))]) (eBin dSub (eVar 4) (eC (.int 5)))), (eVar 7), (eVar 10), (eVar 6)])))) a0u) (sSeq (sIf (eAnd (eBin dEq (eVar 4) (eC (.int 1))) (eBin dNe (eVar 10) (eVar 7))) (sRet (eTup [(eC (.str "copy")), (eVar 7), (eVar 10)])) a0u) (sSeq (sIf (eOr (eBin dEq (eVar 4) (eC (.int 2))) (eAnd (eBin dEq (eVar 4) (eC (.int 3))) (eBin dEq (eVar 8) (eC (.int 2))))) (sRet (eTup [(eC (.str "grow")), (eVar 7), (eVar 6)])) a0u) (sSeq (sIf (eBin dEq (eVar 4) (eC (.int 3))) (sRet (eTup [(eC (.str "tick")), (eVar 7)])) a0u) (sSeq (sIf (eOr (eBin dEq (eVar 4) (eC (.int 7))) (eBin dEq (eVar 4) (eC (.int 10)))) (sRet (eTup [(eC (.str "none")), (eVar 7)])) a0u) (sSeq (sSet 11 (a07 [14] (a0O (a0o (f1 dLen) [(eAny 2)])) (a0C 14) (eAnd (eBin dNe (eVar 14) (eVar 7)) (eAnd (eBin dNe (eVar 14) (eVar 10)) (eBin dEq (a0o (f1 dLen) [(eBin dIx (eBin dIx (eVar 2) (eVar 14)) (eC (.int 1)))]) (eC (.int 1))))) (eVar 14))) (sSeq (sIf (eAnd (eBin dEq (eVar 4) (eC (.int 8))) (eAnd (eBin dNe (eVar 10) (eVar 7)) (eBin dGt (a0o (f1 dLen) [(eAny 11)]) (eC (.int 0))))) (sDem 11 (sRet (eTup [(eC (.str "anew")), (eVar 7), (eVar 10), (eBin dIx (eVar 11) (eBin dMod (eBin a2b (eVar 5) (eC (.int 5))) (a0o (f1 dLen) [(eAny 11)])))]))) a0u) (sSeq (sIf (eBin dEq (eVar 8) (eC (.int 1))) (sRet (eTup [(eC (.str "put")), (eVar 7), (eTup [(eVar 6)])])) a0u) (sRet (eTup [(eC (.str "put")), (eVar 7), (eTup [(eVar 6), (a0g a0n [(eVar 0), (eBin dAdd (eVar 1) (eC (.int 5)))])])]))))))))))
def a4m : MC := (sSeq (sSet 11 (a07 [14] (a0O (a0o (f1 dLen) [(eAny 2)])) (a0C 14) (eAnd (eBin dNe (eVar 14) (eVar 7)) (eAnd (eBin dNe (eVar 14) (eVar 10)) (eBin dEq (a0o (f1 dLen) [(eBin dIx (eBin dIx (eVar 2) (eVar 14)) (eC (.int 1)))]) (eC (.int 1))))) (eVar 14))) (sSeq (sIf (eAnd (eBin dEq (eVar 4) (eC (.int 8))) (eAnd (eBin dNe (eVar 10) (eVar 7)) (eBin dGt (a0o (f1 dLen) [(eAny 11)]) (eC (.int 0))))) (sDem 11 (sRet (eTup [(eC (.str "anew")), (eVar 7), (eVar 10), (eBin dIx (eVar 11) (eBin dMod (eBin a2b (eVar 5) (eC (.int 5))) (a0o (f1 dLen) [(eAny 11)])))]))) a0u) (sSeq (sIf (eBin dEq (eVar 8) (eC (.int 1))) (sRet (eTup [(eC (.str "put")), (eVar 7), (eTup [(eVar 6)])])) a0u) (sRet (eTup [(eC (.str "put")), (eVar 7), (eTup [(eVar 6), (a0g a0n [(eVar 0), (eBin dAdd (eVar 1) (eC (.int 5)))])])])))))
def a4l : MC := (sSeq (sIf (eBin dEq (eVar 8) (eC (.int 1))) (sRet (eTup [(eC (.str "put")), (eVar 7), (eTup [(eVar 6)])])) a0u) (sRet (eTup [(eC (.str "put")), (eVar 7), (eTup [(eVar 6), (a0g a0n [(eVar 0), (eBin dAdd (eVar 1) (eC (.int 5)))])])])))
def a5J : MC := (sSeq (sSet 8 (eBin dAdd (eBin dAdd (eVar 1) (eC (.int 3))) (eBin dMul (eC (.int 8)) (eVar 7)))) (sSeq (sSet 9 (eC (.int 0))) (sSeq (sSet 10 (a0g a0i [(eVar 0), (eBin dAdd (eVar 8) (eC (.int 7)))])) (sSeq (sIf (eBin dEq (eBin dMod (eVar 10) (eC (.int 2))) (eC (.int 1))) (sSet 9 (eBin dMul (eC (.int 2)) (eBin dMod (eBin a2b (eVar 10) (eC (.int 2))) (eBin dShl (eC (.int 1)) (eVar 3))))) a0u) (a0I 6 (eTup [(a0g a1F [(eVar 0), (eVar 8), (eVar 2), (eVar 5)]), (eVar 9)]))))))
def a4M : MC := (a0I 6 (eTup [(a0g a1F [(eVar 0), (eVar 8), (eVar 2), (eVar 5)]), (eVar 9)]))
def a3R : MC := (sSeq (sSet 7 (eBin dAdd (eC (.int 20)) (eBin dMul (eBin dAdd (eC (.int 3)) (eBin dMul (eC (.int 8)) (eVar 2))) (eBin dAdd (eVar 6) (eC (.int 1)))))) (sSeq (sSet 8 (eBin dAdd (eC (.int 1)) (eBin dMod (a0g a0i [(eVar 0), (eBin dAdd (eVar 7) (eC (.int 1)))]) (eBin dIx (eLst [(eC (.int 3)), (eC (.int 9))]) (eBin dMod (a0g a0i [(eVar 0), (eBin dAdd (eVar 7) (eC (.int 2)))]) (eC (.int 2))))))) (a0I 5 (eTup [(eBin dIx (eC (.str "pqrstu")) (eVar 6)), (eVar 8), (a0g a2o [(eVar 0), (eVar 7), (eVar 4), (eVar 1), (eVar 2), (eVar 3)])]))))
def a4h : MC := (a5j 2 (a15 (eVar 3) none (some (eC (.int 2)))) (eBin dBor (eGet 2 (a15 (eVar 3) none (some (eC (.int 2)))) 0) (eBin dShl (eC (.int 1)) (eBin dIx (eVar 3) (eC (.int 2))))))
def a6t : MC := (sSeq (sSet 7 (a07 [8, 9] (a3Z (eBin dIx (eVar 6) (eC (.int 2)))) (bTup [8, 9]) a31 (eTup [(eBin dIx (eVar 9) (eC (.int 0))), (eBin dBor (eBin dIx (eVar 9) (eC (.int 1))) (eGet 2 (eTup [(eVar 5), (eVar 8)]) 0))]))) (sDem 7 (a0I 4 (eTup [(eBin dIx (eVar 6) (eC (.int 0))), (eBin dIx (eVar 6) (eC (.int 1))), (a0g (f1 a2p) [(eVar 7)])]))))
def a5K : MC := (sDem 5 (a3b 2 (a07 [8] (iSeq (eVar 5)) (a0C 8) (eBin dEq (eBin a47 (eBin dShr (eBin dIx (eVar 7) (eC (.int 1))) (eVar 8)) (eC (.int 1))) (eC (.int 0))) (eTup [(eVar 3), (eVar 6), (eVar 8)]))))
def a3T : MC := (sSeq (sSet 5 (a07 [8] (a2u (eC (.int 1)) (a0o (f1 dLen) [(eAny 1)])) (a0C 8) (eBin dGt (eBin dIx (eBin dIx (eVar 1) (eVar 8)) (eC (.int 1))) (eBin dIx (eVar 4) (eC (.int 1)))) (eVar 8))) (sFor (a3Z (eBin dIx (eVar 4) (eC (.int 2)))) (bTup [6, 7]) (sDem 5 (a3b 2 (a07 [8] (iSeq (eVar 5)) (a0C 8) (eBin dEq (eBin a47 (eBin dShr (eBin dIx (eVar 7) (eC (.int 1))) (eVar 8)) (eC (.int 1))) (eC (.int 0))) (eTup [(eVar 3), (eVar 6), (eVar 8)]))))))
def t_law_3 : MC := (sSeq (sIf (eBin dEq (eVar 3) (eC (.int 0))) (sSet 2 (eLst [])) a0u) (sSeq (sIf (eBin dGt (eVar 3) (eC (.int 1))) (sDem 2 (sSet 2 (a07 [9] (a0O (a0o (f1 dLen) [(eAny 2)])) (a0C 9) (eBin dGt (eBin dMod (a0g a0i [(eVar 0), (eBin dAdd (eC (.int 300)) (eVar 9))]) (eC (.int 3))) (eC (.int 0))) (eBin dIx (eVar 2) (eVar 9))))) a0u) (sDem 2 (sSeq (sSet 4 (a0g (f1 a30) [(eVar 2)])) (sSeq (sIf (eOr (eBin dEq (eVar 3) (eC (.int 2))) (eBin dEq (eVar 3) (eC (.int 1)))) (sDem 2 (sSet 4 (eUn a7d (eVar 2)))) a0u) (sSeq (sIf (eAnd (eBin dEq (eVar 3) (eC (.int 3))) (eBin dGt (a0o (f1 dLen) [(eAny 2)]) (eC (.int 0)))) (sSeq (sSet 8 (eBin dMod (a0g a0i [(eVar 0), (eC (.int 299))]) (a0o (f1 dLen) [(eAny 2)]))) (sDem 2 (sSet 4 (eBin dAdd (a15 (eVar 2) (some (eVar 8)) none) (a15 (eVar 2) none (some (eVar 8))))))) a0u) (sDem 4 (sSeq (sSet 5 (a0g (f1 a30) [(eVar 4)])) (sDem 5 (sSeq (sSet 6 (a0g a1S [(eVar 1), (eVar 5)])) (sDem 2 (sSeq (sSet 7 (a0g a0U [(eVar 1), (eVar 2)])) (sDem 5 (sDem 4 (sSeq (sIf (eOr (eNot (a0g a0m [(eVar 6), (eVar 7)])) (eNot (a0g a0m [(eVar 5), (eVar 4)]))) (sRet (eC (.bl false))) a0u) (sDem 2 (sRet (a0g a0m [(a0g a1u [(eVar 6)]), (a07 [10] (iSeq (a0g a02 [(eVar 1)])) (a0C 10) (eBin (dInX true 2) (eVar 10) (eVar 2)) (eVar 10))]))))))))))))))))))
def a6C : MC := (sDem 2 (sSeq (sSet 4 (a0g (f1 a30) [(eVar 2)])) (sSeq (sIf (eOr (eBin dEq (eVar 3) (eC (.int 2))) (eBin dEq (eVar 3) (eC (.int 1)))) (sDem 2 (sSet 4 (eUn a7d (eVar 2)))) a0u) (sSeq (sIf (eAnd (eBin dEq (eVar 3) (eC (.int 3))) (eBin dGt (a0o (f1 dLen) [(eAny 2)]) (eC (.int 0)))) (sSeq (sSet 8 (eBin dMod (a0g a0i [(eVar 0), (eC (.int 299))]) (a0o (f1 dLen) [(eAny 2)]))) (sDem 2 (sSet 4 (eBin dAdd (a15 (eVar 2) (some (eVar 8)) none) (a15 (eVar 2) none (some (eVar 8))))))) a0u) (sDem 4 (sSeq (sSet 5 (a0g (f1 a30) [(eVar 4)])) (sDem 5 (sSeq (sSet 6 (a0g a1S [(eVar 1), (eVar 5)])) (sDem 2 (sSeq (sSet 7 (a0g a0U [(eVar 1), (eVar 2)])) (sDem 5 (sDem 4 (sSeq (sIf (eOr (eNot (a0g a0m [(eVar 6), (eVar 7)])) (eNot (a0g a0m [(eVar 5), (eVar 4)]))) (sRet (eC (.bl false))) a0u) (sDem 2 (sRet (a0g a0m [(a0g a1u [(eVar 6)]), (a07 [10] (iSeq (a0g a02 [(eVar 1)])) (a0C 10) (eBin (dInX true 2) (eVar 10) (eVar 2)) (eVar 10))]))))))))))))))))
def t_law_6 : MC := (sSeq (sIf (eOr (eBin dEq (eVar 3) (eC (.int 2))) (eBin dEq (eVar 3) (eC (.int 1)))) (sDem 2 (sSet 4 (eUn a7d (eVar 2)))) a0u) (sSeq (sIf (eAnd (eBin dEq (eVar 3) (eC (.int 3))) (eBin dGt (a0o (f1 dLen) [(eAny 2)]) (eC (.int 0)))) (sSeq (sSet 8 (eBin dMod (a0g a0i [(eVar 0), (eC (.int 299))]) (a0o (f1 dLen) [(eAny 2)]))) (sDem 2 (sSet 4 (eBin dAdd (a15 (eVar 2) (some (eVar 8)) none) (a15 (eVar 2) none (some (eVar 8))))))) a0u) (sDem 4 (sSeq (sSet 5 (a0g (f1 a30) [(eVar 4)])) (sDem 5 (sSeq (sSet 6 (a0g a1S [(eVar 1), (eVar 5)])) (sDem 2 (sSeq (sSet 7 (a0g a0U [(eVar 1), (eVar 2)])) (sDem 5 (sDem 4 (sSeq (sIf (eOr (eNot (a0g a0m [(eVar 6), (eVar 7)])) (eNot (a0g a0m [(eVar 5), (eVar 4)]))) (sRet (eC (.bl false))) a0u) (sDem 2 (sRet (a0g a0m [(a0g a1u [(eVar 6)]), (a07 [10] (iSeq (a0g a02 [(eVar 1)])) (a0C 10) (eBin (dInX true 2) (eVar 10) (eVar 2)) (eVar 10))]))))))))))))))
def a6B : MC := (sDem 4 (sSeq (sSet 5 (a0g (f1 a30) [(eVar 4)])) (sDem 5 (sSeq (sSet 6 (a0g a1S [(eVar 1), (eVar 5)])) (sDem 2 (sSeq (sSet 7 (a0g a0U [(eVar 1), (eVar 2)])) (sDem 5 (sDem 4 (sSeq (sIf (eOr (eNot (a0g a0m [(eVar 6), (eVar 7)])) (eNot (a0g a0m [(eVar 5), (eVar 4)]))) (sRet (eC (.bl false))) a0u) (sDem 2 (sRet (a0g a0m [(a0g a1u [(eVar 6)]), (a07 [10] (iSeq (a0g a02 [(eVar 1)])) (a0C 10) (eBin (dInX true 2) (eVar 10) (eVar 2)) (eVar 10))]))))))))))))
def t_law_9 : MC := (sDem 5 (sSeq (sSet 6 (a0g a1S [(eVar 1), (eVar 5)])) (sDem 2 (sSeq (sSet 7 (a0g a0U [(eVar 1), (eVar 2)])) (sDem 5 (sDem 4 (sSeq (sIf (eOr (eNot (a0g a0m [(eVar 6), (eVar 7)])) (eNot (a0g a0m [(eVar 5), (eVar 4)]))) (sRet (eC (.bl false))) a0u) (sDem 2 (sRet (a0g a0m [(a0g a1u [(eVar 6)]), (a07 [10] (iSeq (a0g a02 [(eVar 1)])) (a0C 10) (eBin (dInX true 2) (eVar 10) (eVar 2)) (eVar 10))]))))))))))
end Bell
namespace Bell
open PySem L3
abbrev Bx := Str × List Int
def bD (b : Bx) : D := .tup [.str b.1, .tup (b.2.map D.int)]
def a0E (bs : List Bx) : D := .tup (bs.map bD)
def a5g (i : Int) : Prop := -1000000000 ≤ i ∧ i ≤ 1000000000
def BxOk (b : Bx) : Prop := 1 ≤ b.2.length ∧ b.2.length ≤ 2 ∧ ∀ i ∈ b.2, a5g i
def a28 (bs : List Bx) : Prop := bs.length ≤ 8 ∧ ∀ b ∈ bs, BxOk b
def szB (bs : List Bx) (x : Nat) : Nat := (bs.getD x (Str.empty, [])).2.length
inductive Deed where
  | put (x : Nat) (ns : List Int) | copy (x y : Nat) | grow (x : Nat) (n : Int) | tick (x : Nat) | still (n : Nat)
  | iz (x y : Nat) (n : Int) | most (x y : Nat) (n : Int) | non (x : Nat) | anew (x y t : Nat)
def natD (n : Nat) : D := .int n
def Deed.d : Deed → D
  | .put x ns => .tup [.str (Str.ofString "put"), .int x, .tup (ns.map D.int)]
  | .copy x y => .tup [.str (Str.ofString "copy"), .int x, .int y]
  | .grow x n => .tup [.str (Str.ofString "grow"), .int x, .int n]
  | .tick x => .tup [.str (Str.ofString "tick"), .int x]
  | .still n => .tup [.str (Str.ofString "still"), .int n]
  | .iz x y n => .tup [.str (Str.ofString "is"), .int x, .int y, .int n]
  | .most x y n => .tup [.str (Str.ofString "most"), .int x, .int y, .int n]
  | .non x => .tup [.str (Str.ofString "none"), .int x]
  | .anew x y t => .tup [.str (Str.ofString "anew"), .int x, .int y, .int t]
def Deed.Ok (bs : List Bx) : Deed → Prop
  | .put x ns => x < bs.length ∧ ns.length = szB bs x ∧ ∀ i ∈ ns, a5g i
  | .copy x y => x < bs.length ∧ y < bs.length ∧ x ≠ y ∧ szB bs y = szB bs x
  | .grow x n => x < bs.length ∧ a5g n
  | .tick x => x < bs.length ∧ szB bs x = 1
  | .still n => 1 ≤ n ∧ n ≤ 9
  | .iz x y n => x < bs.length ∧ y < bs.length ∧ szB bs y = szB bs x ∧ a5g n
  | .most x y n => x < bs.length ∧ y < bs.length ∧ szB bs y = szB bs x ∧ a5g n
  | .non x => x < bs.length
  | .anew x y t => x < bs.length ∧ y < bs.length ∧ t < bs.length ∧ x ≠ y ∧ x ≠ t ∧ y ≠ t ∧ szB bs y = szB bs x ∧ szB bs t = 1
abbrev Pl := Deed × Nat
structure Rw where
  nm : Str
  rk : Nat
  pl : List Pl
def plD (p : Pl) : D := .tup [p.1.d, .int p.2]
def Rw.d (r : Rw) : D := .tup [.str r.nm, .int r.rk, .tup (r.pl.map plD)]
def a0W (bs : List Bx) (rs : List Rw) : D := .tup [a0E bs, .tup (rs.map Rw.d)]
def PlOk (bs : List Bx) (bells : Nat) (p : Pl) : Prop := p.1.Ok bs ∧ p.2 < 2 ^ (bells + 1) ∧ p.2 % 2 = 0
def RwOk (bs : List Bx) (bells most : Nat) (r : Rw) : Prop := 1 ≤ r.pl.length ∧ r.pl.length ≤ most ∧ (∀ p ∈ r.pl, PlOk bs bells p)
structure a5f (bs : List Bx) (rs : List Rw) (bells most : Nat) : Prop where
  box : a28 bs
  len : rs.length = bells + 1
  row : ∀ r ∈ rs, RwOk bs bells most r
  main : (rs.getD 0 ⟨Str.empty, 1, []⟩).rk = 0
  rank : ∀ k r, rs[k]? = some r → k ≠ 0 → 1 ≤ r.rk ∧ r.rk ≤ 9
theorem a24 (ds : List D) : dLen (.tup ds) = okI (ds.length : Int) := rfl
theorem a3v (ds : List D) : dLen (.lst ds) = okI (ds.length : Int) := rfl
theorem a5V {bs : List Bx} {x : Nat} (h : x < bs.length) : dIx (a0E bs) (.int x) = okD (bD bs[x]) := ix_tup (by rw [List.getElem?_map, List.getElem?_eq_getElem h]; rfl)
theorem a3G (bs : List Bx) : dLen (a0E bs) = okI (bs.length : Int) := by show okI ((bs.map bD).length : Int) = _; rw [List.length_map]
theorem szB_eq {bs : List Bx} {x : Nat} (h : x < bs.length) : szB bs x = bs[x].2.length := by
  unfold szB
  rw [List.getD_eq_getElem?_getD, List.getElem?_eq_getElem h]
  rfl
theorem len_ints (ns : List Int) : dLen (.tup (ns.map D.int)) = okI (ns.length : Int) := by show okI ((ns.map D.int).length : Int) = _; rw [List.length_map]
theorem ix_bD1 (b : Bx) : dIx (bD b) (.int 1) = okD (.tup (b.2.map D.int)) := a2M
end Bell
namespace Bell
open PySem L3
def mixC (ns : List Int) (k : Int) : Int := if ns = [] then 0 else (ns.getD (k % ns.length).toNat 0)
def mixW (ns : List Int) (k : Int) : Int := (mixC ns k % 1000003 * 48271 + k * k * 7919 + 1) % 65521
def mixV (ns : List Int) (k : Int) : Int := mixW ns k * mixW ns k % 65519
theorem a2D {ns : List Int} {k : Int} : 0 ≤ mixV ns k ∧ mixV ns k < 65519 := by
  unfold mixV
  exact ⟨Int.emod_nonneg _ (by omega), Int.emod_lt_of_pos _ (by omega)⟩
theorem mixW_lt {ns : List Int} {k : Int} : 0 ≤ mixW ns k ∧ mixW ns k < 65521 := by
  unfold mixW
  exact ⟨Int.emod_nonneg _ (by omega), Int.emod_lt_of_pos _ (by omega)⟩
theorem a5U {ns : List Int} {k : Int} (h0 : 0 ≤ k) (h1 : k ≤ 100000) : a2W [some (.sh (.lst (ns.map D.int))), some (.sh (.int k)), some (.sh (.int (mixC ns k))), none] = some (.ret (.sh (.int (mixV ns k)))) := by
  have hw := mixW_lt (ns := ns) (k := k)
  have hc : 0 ≤ mixC ns k % 1000003 ∧ mixC ns k % 1000003 < 1000003 := ⟨Int.emod_nonneg _ (by omega), Int.emod_lt_of_pos _ (by omega)⟩
  have e : (mixC ns k % 1000003 * 48271 + k * k * 7919 + 1) % 65521 = mixW ns k := rfl
  have e2 : mixW ns k * mixW ns k % 65519 = mixV ns k := rfl
  unfold a2W
  simp (disch := omega) only [sSeq, sSet, a1v, eVar, List.getElem?_cons_succ, List.getElem?_cons_zero, okD, eC, bindV_ok, S.val_sh, a0p, okI, mulL, mulR, add_int, e, List.set_cons_succ, List.set_cons_zero, bindO_ok, sRet, e2]
theorem ix_ns {ns : List Int} {k : Int} (h : ns ≠ []) : dIx (.lst (ns.map D.int)) (.int (k % ns.length)) = okI (mixC ns k) := by
  have hl : 0 < ns.length := List.length_pos_iff.mpr h
  have hp : 0 ≤ k % (ns.length : Int) := Int.emod_nonneg _ (by omega)
  have hq : k % (ns.length : Int) < (ns.length : Int) := Int.emod_lt_of_pos _ (by omega)
  have e : (ns.map D.int)[(k % (ns.length : Int)).toNat]? = some (.int (ns.getD (k % (ns.length : Int)).toNat 0)) := by
    have hi : (k % (ns.length : Int)).toNat < ns.length := by omega
    rw [List.getElem?_map, List.getD_eq_getElem?_getD, List.getElem?_eq_getElem hi]
    rfl
  have z := a3J e
  rw [Int.toNat_of_nonneg hp] at z
  rw [z]
  unfold mixC
  rw [if_neg h]
theorem a0Q {ns : List Int} {k : Int} (h0 : 0 ≤ k) (h1 : k ≤ 100000) : a0i [.lst (ns.map D.int), .int k] = okI (mixV ns k) := by
  have hlen : dLen (.lst (ns.map D.int)) = okI (ns.length : Int) := by show okI ((ns.map D.int).length : Int) = _; rw [List.length_map]
  by_cases h : ns = []
  · refine a1O rfl (a0b (a0t rfl) (a0b (if_f (a0e (lenB rfl hlen) rfl (gt_f (by subst h; simp))) rfl) ?_))
    have : mixC ns k = 0 := by unfold mixC; rw [if_pos h]
    have z := a5U (ns := ns) h0 h1
    rw [this] at z
    exact z
  · have hl : 0 < ns.length := List.length_pos_iff.mpr h
    exact a1O rfl (a0b (a0t rfl) (a0b (if_t (a0e (lenB rfl hlen) rfl (gt_t (by omega))) (a0t (a0e rfl (a0e rfl (lenB rfl hlen) (a0p (by omega))) (ix_ns h)))) (a5U h0 h1)))
theorem mix2 {ns : List Int} {k : Int} : mixV ns k % 2 = 0 ∨ mixV ns k % 2 = 1 := by omega
theorem a4Y {ns : List Int} {k : Int} (h0 : 0 ≤ k) (h1 : k ≤ 90000) : ∃ i, a0n [.lst (ns.map D.int), .int k] = okI i ∧ -1000000000 ≤ i ∧ i ≤ 1000000000 := by
  have hp : dPow (.int 10) (.int 9) = okI 1000000000 := rfl
  have b1 := a2D (ns := ns) (k := k)
  have b2 := a2D (ns := ns) (k := k + 1)
  by_cases c1 : mixV ns k % 3 = 0
  · refine ⟨mixV ns (k + 1) % 5 - 2, ?_, by omega, by omega⟩
    simp (disch := omega) only [a0n, fnD, List.length_cons, List.length_nil, Nat.reduceAdd, outR, a1J, sSeq, sSet, a0g, a0X, eVar, a2c, List.map_cons, List.map_nil, Nat.reduceSub, List.replicate_succ, List.replicate_zero, List.cons_append, List.nil_append, List.getElem?_cons_zero, okD, List.getElem?_cons_succ, bindV_ok, S.val_sh, a0Q, okI, List.set_cons_succ, List.set_cons_zero, bindO_ok, a1v, eC, add_int, sIf, a0p, c1, eq_d, okB, decide_true, asBO, sRet, sub_int, a0u, ite_true]
  · by_cases c2 : mixV ns k % 17 = 1
    · rcases mix2 (ns := ns) (k := k + 1) with c3 | c3
      · refine ⟨1000000000, ?_, by omega, by omega⟩
        simp (disch := omega) only [a0n, fnD, List.length_cons, List.length_nil, Nat.reduceAdd, outR, a1J, sSeq, sSet, a0g, a0X, eVar, a2c, List.map_cons, List.map_nil, Nat.reduceSub, List.replicate_succ, List.replicate_zero, List.cons_append, List.nil_append, List.getElem?_cons_zero, okD, List.getElem?_cons_succ, bindV_ok, S.val_sh, a0Q, okI, List.set_cons_succ, List.set_cons_zero, bindO_ok, a1v, eC, add_int, sIf, a0p, eq_d, okB, c1, decide_false, asBO, sRet, sub_int, a0u, Bool.false_eq_true, ite_false, c2, decide_true, eLst, a2T, okL, hp, eUn, neg_d, Int.reduceNeg, Nat.reduceLeDiff, ite_true, c3, S.val_own, O.val_lst, a6k]
      · refine ⟨-1000000000, ?_, by omega, by omega⟩
        simp (disch := omega) only [a0n, fnD, List.length_cons, List.length_nil, Nat.reduceAdd, outR, a1J, sSeq, sSet, a0g, a0X, eVar, a2c, List.map_cons, List.map_nil, Nat.reduceSub, List.replicate_succ, List.replicate_zero, List.cons_append, List.nil_append, List.getElem?_cons_zero, okD, List.getElem?_cons_succ, bindV_ok, S.val_sh, a0Q, okI, List.set_cons_succ, List.set_cons_zero, bindO_ok, a1v, eC, add_int, sIf, a0p, eq_d, okB, c1, decide_false, asBO, sRet, sub_int, a0u, Bool.false_eq_true, ite_false, c2, decide_true, eLst, a2T, okL, hp, eUn, neg_d, Int.reduceNeg, Nat.reduceLeDiff, ite_true, c3, S.val_own, O.val_lst, a6j]
    · refine ⟨(mixV ns k * 65519 + mixV ns (k + 1)) % 2000000001 - 1000000000, ?_, by omega, by omega⟩
      simp (disch := omega) only [a0n, fnD, List.length_cons, List.length_nil, Nat.reduceAdd, outR, a1J, sSeq, sSet, a0g, a0X, eVar, a2c, List.map_cons, List.map_nil, Nat.reduceSub, List.replicate_succ, List.replicate_zero, List.cons_append, List.nil_append, List.getElem?_cons_zero, okD, List.getElem?_cons_succ, bindV_ok, S.val_sh, a0Q, okI, List.set_cons_succ, List.set_cons_zero, bindO_ok, a1v, eC, add_int, sIf, a0p, eq_d, okB, c1, decide_false, asBO, sRet, sub_int, a0u, Bool.false_eq_true, ite_false, c2, eLst, a2T, okL, eUn, Nat.reduceLeDiff, ite_true, mulL]
def numV (ns : List Int) (k : Int) : Int := match a0n [.lst (ns.map D.int), .int k] with
  | some (.ok (.sh (.int i))) => i
  | _ => 0
theorem a21 {ns : List Int} {k : Int} (h0 : 0 ≤ k) (h1 : k ≤ 90000) : a0n [.lst (ns.map D.int), .int k] = okI (numV ns k) := by
  obtain ⟨i, e, _⟩ := a4Y (ns := ns) h0 h1
  unfold numV
  rw [e]
theorem a20 {ns : List Int} {k : Int} (h0 : 0 ≤ k) (h1 : k ≤ 90000) : -1000000000 ≤ numV ns k ∧ numV ns k ≤ 1000000000 := by
  obtain ⟨i, e, h⟩ := a4Y (ns := ns) h0 h1
  unfold numV
  rw [e]
  exact h
end Bell
namespace Bell
open PySem L3
theorem letter8 {k : Nat} (h : k < 8) : ∃ c, dIx (.str (Str.ofString "abcdefgh")) (.int k) = okD (.str ⟨#[c]⟩) := by
  have hk : k = 0 ∨ k = 1 ∨ k = 2 ∨ k = 3 ∨ k = 4 ∨ k = 5 ∨ k = 6 ∨ k = 7 := by omega
  rcases hk with rfl | rfl | rfl | rfl | rfl | rfl | rfl | rfl <;> exact ⟨_, rfl⟩
def a4J (ns : List Int) (sz many : Int) (k : Nat) (ρ : MEnv) : Prop := ∃ (bs : List Bx) (e4 e5 e6 e7 : Option S), bs.length = k ∧ (∀ b ∈ bs, BxOk b) ∧
  ρ = [some (.sh (.lst (ns.map D.int))), some (.sh (.int sz)), some (.sh (.int many)), some (.own (.lst (bs.map bD))), e4, e5, e6, e7]
theorem a6o {ns : List Int} {sz many : Int} (hs : sz = 1 ∨ sz = 2) {k : Nat} (hk : k < 8) {ρ : MEnv} (I : a4J ns sz many k ρ) : ∃ ρ1 ρ2, a0C 4 (.int k) ρ = some ρ1 ∧ a27 ρ1 = some (.next ρ2) ∧ a4J ns sz many (k + 1) ρ2 := by
  obtain ⟨bs, e4, e5, e6, e7, hl, hb, rfl⟩ := I
  obtain ⟨c, hc⟩ := letter8 hk
  obtain ⟨at', hat⟩ : ∃ a : Int, a = 4 + 5 * (k : Int) + 400 * ((k : Int) / 3) := ⟨_, rfl⟩
  have ha : 0 ≤ at' ∧ at' ≤ 10000 := by omega
  have n1 := a21 (ns := ns) (k := at') (by omega) (by omega)
  have n2 := a21 (ns := ns) (k := at' + 3) (by omega) (by omega)
  have l1 := a20 (ns := ns) (k := at') (by omega) (by omega)
  have l2 := a20 (ns := ns) (k := at' + 3) (by omega) (by omega)
  have m1 := a0Q (ns := ns) (k := at' + 2) (by omega) (by omega)
  have lb : (bs.map bD).length < lim := by rw [List.length_map, hl]; exact Nat.lt_of_lt_of_le hk (by decide)
  have fin : ∀ (q : List Int), BxOk (Str.mk #[c], q) → ∀ e7 : Option S, ∃ ρ2, a3S [some (.sh (.lst (ns.map D.int))), some (.sh (.int sz)), some (.sh (.int many)), some (.own (.lst (bs.map bD))), some (.sh (.int k)), some (.sh (.int at')), some (.own (.lst (q.map D.int))), e7] = some (.next ρ2) ∧ a4J ns sz many (k + 1) ρ2 := fun q hq e7 => by
    refine ⟨_, a1K (a2f rfl (tup2 (a0e rfl rfl hc) (a1T rfl rfl)) lb), bs ++ [(Str.mk #[c], q)], some (.sh (.int k)), some (.sh (.int at')), some (.sh (.lst (q.map D.int))), e7, by simp [hl], ?_, ?_⟩
    · intro b hb'
      rcases List.mem_append.mp hb' with h | h
      · exact hb b h
      · rw [List.mem_singleton.mp h]; exact hq
    · rw [List.map_append]; rfl
  obtain ⟨cc, hcc⟩ : ∃ cc : Bool, eOr (eAnd (eBin dEq (eVar 1) (eC (.int 2))) (eBin dGt (eVar 7) (eBin dIx (eLst [(eC (.int 0)), (eC (.int 0)), (eC (.int 2))]) (eBin dMod (eVar 4) (eC (.int 3)))))) (eAnd (eBin dEq (eVar 1) (eC (.int 1))) (eBin dEq (eVar 7) (eC (.int 0))))
      [some (.sh (.lst (ns.map D.int))), some (.sh (.int sz)), some (.sh (.int many)), some (.own (.lst (bs.map bD))), some (.sh (.int k)), some (.sh (.int at')), some (.own (.lst [.int (numV ns at')])), some (.sh (.int (mixV ns (at' + 2) % 5)))] = okB cc := by
    rcases hs with rfl | rfl
    · by_cases h : mixV ns (at' + 2) % 5 = 0
      · exact ⟨true, by simp (disch := omega) only [eOr, eAnd, h, a1v, eVar, List.getElem?_cons_succ, List.getElem?_cons_zero, okD, eC, bindV_ok, S.val_sh, eq_d, okB, Int.reduceEq, decide_false, asB, eLst, a2T, okL, a0g, a0X, List.length_cons, List.length_nil, Nat.reduceAdd, Nat.reduceLeDiff, ite_true, a0p, okI, S.val_own, O.val_lst, Bool.false_eq_true, ite_false, decide_true]⟩
      · exact ⟨false, by simp (disch := omega) only [eOr, eAnd, a1v, eVar, List.getElem?_cons_succ, List.getElem?_cons_zero, okD, eC, bindV_ok, S.val_sh, eq_d, okB, Int.reduceEq, decide_false, asB, eLst, a2T, okL, a0g, a0X, List.length_cons, List.length_nil, Nat.reduceAdd, Nat.reduceLeDiff, ite_true, a0p, okI, S.val_own, O.val_lst, Bool.false_eq_true, ite_false, decide_true, h]⟩
    · have h3 : (k : Int) % 3 = 0 ∨ (k : Int) % 3 = 1 ∨ (k : Int) % 3 = 2 := by omega
      rcases h3 with h3 | h3 | h3
      · by_cases h : 0 < mixV ns (at' + 2) % 5
        · exact ⟨true, by simp (disch := omega) only [eOr, eAnd, a1v, eVar, List.getElem?_cons_succ, List.getElem?_cons_zero, okD, eC, bindV_ok, S.val_sh, eq_d, okB, decide_true, asB, eLst, a2T, okL, a0g, a0X, List.length_cons, List.length_nil, Nat.reduceAdd, Nat.reduceLeDiff, ite_true, a0p, okI, h3, S.val_own, O.val_lst, a6k, gt_d, h, Int.reduceEq, decide_false, Bool.false_eq_true, ite_false]⟩
        · exact ⟨false, by simp (disch := omega) only [eOr, eAnd, a1v, eVar, List.getElem?_cons_succ, List.getElem?_cons_zero, okD, eC, bindV_ok, S.val_sh, eq_d, okB, decide_true, asB, eLst, a2T, okL, a0g, a0X, List.length_cons, List.length_nil, Nat.reduceAdd, Nat.reduceLeDiff, ite_true, a0p, okI, h3, S.val_own, O.val_lst, a6k, gt_d, h, decide_false, Int.reduceEq, Bool.false_eq_true, ite_false]⟩
      · by_cases h : 0 < mixV ns (at' + 2) % 5
        · exact ⟨true, by simp (disch := omega) only [eOr, eAnd, a1v, eVar, List.getElem?_cons_succ, List.getElem?_cons_zero, okD, eC, bindV_ok, S.val_sh, eq_d, okB, decide_true, asB, eLst, a2T, okL, a0g, a0X, List.length_cons, List.length_nil, Nat.reduceAdd, Nat.reduceLeDiff, ite_true, a0p, okI, h3, S.val_own, O.val_lst, a6j, gt_d, h, Int.reduceEq, decide_false, Bool.false_eq_true, ite_false]⟩
        · exact ⟨false, by simp (disch := omega) only [eOr, eAnd, a1v, eVar, List.getElem?_cons_succ, List.getElem?_cons_zero, okD, eC, bindV_ok, S.val_sh, eq_d, okB, decide_true, asB, eLst, a2T, okL, a0g, a0X, List.length_cons, List.length_nil, Nat.reduceAdd, Nat.reduceLeDiff, ite_true, a0p, okI, h3, S.val_own, O.val_lst, a6j, gt_d, h, decide_false, Int.reduceEq, Bool.false_eq_true, ite_false]⟩
      · by_cases h : 2 < mixV ns (at' + 2) % 5
        · exact ⟨true, by simp (disch := omega) only [eOr, eAnd, a1v, eVar, List.getElem?_cons_succ, List.getElem?_cons_zero, okD, eC, bindV_ok, S.val_sh, eq_d, okB, decide_true, asB, eLst, a2T, okL, a0g, a0X, List.length_cons, List.length_nil, Nat.reduceAdd, Nat.reduceLeDiff, ite_true, a0p, okI, h3, S.val_own, O.val_lst, ix_l2, gt_d, h, Int.reduceEq, decide_false, Bool.false_eq_true, ite_false]⟩
        · exact ⟨false, by simp (disch := omega) only [eOr, eAnd, a1v, eVar, List.getElem?_cons_succ, List.getElem?_cons_zero, okD, eC, bindV_ok, S.val_sh, eq_d, okB, decide_true, asB, eLst, a2T, okL, a0g, a0X, List.length_cons, List.length_nil, Nat.reduceAdd, Nat.reduceLeDiff, ite_true, a0p, okI, h3, S.val_own, O.val_lst, ix_l2, gt_d, h, decide_false, Int.reduceEq, Bool.false_eq_true, ite_false]⟩
  have s1 : (sSet 5 (eBin dAdd (eBin dAdd (eC (.int 4)) (eBin dMul (eC (.int 5)) (eVar 4))) (eBin dMul (eC (.int 400)) (eBin a2b (eVar 4) (eC (.int 3)))))) [some (.sh (.lst (ns.map D.int))), some (.sh (.int sz)), some (.sh (.int many)), some (.own (.lst (bs.map bD))), some (.sh (.int k)), e5, e6, e7]
      = some (.next [some (.sh (.lst (ns.map D.int))), some (.sh (.int sz)), some (.sh (.int many)), some (.own (.lst (bs.map bD))), some (.sh (.int k)), some (.sh (.int at')), e6, e7]) := by
    simp (disch := omega) only [sSet, a1v, eC, okD, eVar, List.getElem?_cons_succ, List.getElem?_cons_zero, bindV_ok, S.val_sh, mulL, okI, add_int, a1Q, List.set_cons_succ, List.set_cons_zero, bindO_ok]
    rw [hat]
  cases cc with
  | true =>
    obtain ⟨ρ2, h1, h2⟩ := fin [numV ns at', numV ns (at' + 3)] ⟨by simp, by simp, by intro i hi; simp at hi; rcases hi with rfl | rfl <;> assumption⟩ (some (.sh (.int (mixV ns (at' + 2) % 5))))
    exact ⟨_, ρ2, rfl, a0b s1 (a0b (a0t (a1T (a05 rfl rfl n1) rfl)) (a0b (a0t (a0e (a05 rfl (a0e rfl rfl rfl) m1) rfl (a0p (by decide)))) (a0b (if_t hcc (a2f rfl (a05 rfl (a0e rfl rfl rfl) n2) (by show 1 < lim; decide))) h1))), h2⟩
  | false =>
    obtain ⟨ρ2, h1, h2⟩ := fin [numV ns at'] ⟨by simp, by simp, by intro i hi; simp at hi; subst hi; assumption⟩ (some (.sh (.int (mixV ns (at' + 2) % 5))))
    exact ⟨_, ρ2, rfl, a0b s1 (a0b (a0t (a1T (a05 rfl rfl n1) rfl)) (a0b (a0t (a0e (a05 rfl (a0e rfl rfl rfl) m1) rfl (a0p (by decide)))) (a0b (if_f hcc rfl) h1))), h2⟩
theorem boxes_ok (ns : List Int) : ∃ bs : List Bx, a2v [.lst (ns.map D.int)] = okD (a0E bs) ∧ a28 bs := by
  have m3 := a0Q (ns := ns) (k := 3) (by decide) (by decide)
  have m2 := a0Q (ns := ns) (k := 2) (by decide) (by decide)
  have b2 := a2D (ns := ns) (k := 2)
  obtain ⟨many, hm, hm8⟩ : ∃ many : Nat, eBin dIx (eLst [(eBin dMod (eBin a2b (eVar 2) (eC (.int 16))) (eC (.int 4))), (eBin dAdd (eC (.int 4)) (eBin dMod (eBin a2b (eVar 2) (eC (.int 16))) (eC (.int 5))))]) (a0g (f1 dInt) [(eBin dEq (eBin dMod (eVar 2) (eC (.int 8))) (eC (.int 0)))])
      [some (.sh (.lst (ns.map D.int))), some (.sh (.int (1 + mixV ns 3 % 2))), some (.sh (.int (mixV ns 2))), none, none, none, none, none] = okI (many : Int) ∧ many ≤ 8 := by
    by_cases h : mixV ns 2 % 8 = 0
    · refine ⟨(4 + mixV ns 2 / 16 % 5).toNat, ?_, by omega⟩
      have : ((4 + mixV ns 2 / 16 % 5).toNat : Int) = 4 + mixV ns 2 / 16 % 5 := by omega
      rw [this]
      simp (disch := omega) only [eLst, a2T, okL, a1v, a0g, a0X, eVar, List.getElem?_cons_succ, List.getElem?_cons_zero, okD, eC, bindV_ok, S.val_sh, a1Q, okI, a0p, add_int, List.length_cons, List.length_nil, Nat.reduceAdd, Nat.reduceLeDiff, ite_true, h, eq_d, okB, decide_true, f1, int_t, S.val_own, O.val_lst, a6j]
    · refine ⟨(mixV ns 2 / 16 % 4).toNat, ?_, by omega⟩
      have : ((mixV ns 2 / 16 % 4).toNat : Int) = mixV ns 2 / 16 % 4 := by omega
      rw [this]
      simp (disch := omega) only [eLst, a2T, okL, a1v, a0g, a0X, eVar, List.getElem?_cons_succ, List.getElem?_cons_zero, okD, eC, bindV_ok, S.val_sh, a1Q, okI, a0p, add_int, List.length_cons, List.length_nil, Nat.reduceAdd, Nat.reduceLeDiff, ite_true, eq_d, okB, h, decide_false, f1, int_f, S.val_own, O.val_lst, a6k]
  obtain ⟨ρ', e, bs, e4, e5, e6, e7, hl, hb, rfl⟩ := a1E (bd := a0C 4) (body := a27) (ρ := [some (.sh (.lst (ns.map D.int))), some (.sh (.int (1 + mixV ns 3 % 2))), some (.sh (.int many)), some (.own (.lst [])), none, none, none, none]) (a4J ns (1 + mixV ns 3 % 2) many) many
    ⟨[], none, none, none, none, rfl, fun _ h => (nomatch h), rfl⟩ (fun k ρ hk I => a6o (by omega) (by omega) I)
  exact ⟨bs, a1O rfl (a0b (a0t (a0e rfl (a0e (a05 rfl rfl m3) rfl (a0p (by decide))) rfl)) (a0b (a0t (a05 rfl rfl m2)) (a0b (a0t hm) (a0b (a0t rfl) (a0b (a3e (a1s rfl (a01 (by omega))) e) (a1K (a1P (a1T rfl rfl)))))))), by omega, hb⟩
end Bell
namespace Bell
open PySem L3
def st0 (bs : List Bx) (x : Nat) : Int := (bs.getD x (Str.empty, [])).2.getD 0 0
theorem st0_e {bs : List Bx} (hb : a28 bs) {x : Nat} (h : x < bs.length) {ρ : MEnv} {i j : Nat} (hi : ρ[i]? = some (some (.sh (a0E bs)))) (hj : ρ[j]? = some (some (.sh (.int x)))) : eBin dIx (eBin dIx (eBin dIx (eVar i) (eVar j)) (eC (.int 1))) (eC (.int 0)) ρ = okI (st0 bs x) := by
  have hl := (hb.2 bs[x] (List.getElem_mem h)).1
  refine a0e (a0e (a0e (a2x hi) (a2x hj) (a5V h)) rfl (ix_bD1 _)) rfl ?_
  have : (bs[x].2.map D.int)[0]? = some (.int (st0 bs x)) := by
    unfold st0
    rw [List.getD_eq_getElem?_getD (l := bs), List.getElem?_eq_getElem h, Option.getD_some, List.getElem?_map, List.getD_eq_getElem?_getD, List.getElem?_eq_getElem (by omega)]
    rfl
  exact ix_tup this
theorem a6F {bs : List Bx} {x : Nat} (h : x < bs.length) {ρ : MEnv} {i j : Nat} (hi : ρ[i]? = some (some (.sh (a0E bs)))) (hj : ρ[j]? = some (some (.sh (.int x)))) : a0o (f1 dLen) [eBin dIx (eBin dIx (eVar i) (eVar j)) (eC (.int 1))] ρ = okI (szB bs x : Nat) := by
  rw [szB_eq h]
  exact lenB (a0e (a0e (a2x hi) (a2x hj) (a5V h)) rfl (ix_bD1 _)) (len_ints _)
theorem szB_12 {bs : List Bx} (hb : a28 bs) {x : Nat} (h : x < bs.length) : szB bs x = 1 ∨ szB bs x = 2 := by
  have hx := hb.2 bs[x] (List.getElem_mem h)
  rw [szB_eq h]
  have := hx.1; have := hx.2.1
  omega
abbrev intD (k : Nat) : D := .int k
def a2L (bs : List Bx) (x : Nat) : List Nat := (List.range bs.length).filter fun y => !decide (y = x) && decide (szB bs y = szB bs x)
def ones (bs : List Bx) (x y : Nat) : List Nat := (List.range bs.length).filter fun t => !decide (t = x) && (!decide (t = y) && decide (szB bs t = 1))
theorem a6W {bs : List Bx} {x y : Nat} : y ∈ a2L bs x ↔ y < bs.length ∧ y ≠ x ∧ szB bs y = szB bs x := by
  unfold a2L; rw [List.mem_filter, List.mem_range]; simp
theorem ones_mem {bs : List Bx} {x y t : Nat} : t ∈ ones bs x y ↔ t < bs.length ∧ t ≠ x ∧ t ≠ y ∧ szB bs t = 1 := by
  unfold ones; rw [List.mem_filter, List.mem_range]; simp
theorem a6X {bs : List Bx} {x : Nat} : (a2L bs x).length ≤ bs.length := by
  unfold a2L; refine Nat.le_trans (List.length_filter_le _ _) ?_; rw [List.length_range]; exact Nat.le_refl _
theorem eqN (i j : Nat) : dEq (.int i) (.int j) = okB (decide (i = j)) := by rw [eq_d, show decide ((i : Int) = (j : Int)) = decide (i = j) from decide_eq_decide.mpr (by omega)]
theorem neN (i j : Nat) : dNe (.int i) (.int j) = okB (!decide (i = j)) := by rw [ne_d, show decide ((i : Int) = (j : Int)) = decide (i = j) from decide_eq_decide.mpr (by omega)]
theorem gtN (i j : Nat) : dGt (.int i) (.int j) = okB (decide (j < i)) := by rw [gt_d, show decide ((j : Int) < (i : Int)) = decide (j < i) from decide_eq_decide.mpr (by omega)]
theorem a5L {ρ : MEnv} {a b : ME} {p q : Bool} (h1 : a ρ = okB p) (h2 : b ρ = okB q) : eAnd a b ρ = okB (p && q) := by
  cases p with
  | true => exact a2G h1 h2
  | false => exact a3V h1
theorem mates_e {bs : List Bx} (hb : a28 bs) {x : Nat} {sz : Int} (hs : sz = (szB bs x : Nat)) {ρ : MEnv} {js : List Nat} {i j s v : Nat} (h0 : ρ[i]? = some (some (.sh (a0E bs)))) (hi : (a0R js ρ)[i]? = some (some (.sh (a0E bs)))) (hj : (a0R js ρ)[j]? = some (some (.sh (.int x)))) (hz : (a0R js ρ)[s]? = some (some (.sh (.int sz)))) (hv : v < ρ.length) (n1 : v ≠ i) (n2 : v ≠ j) (n3 : v ≠ s) (hjs : (a0R js ρ).length = ρ.length) :
    a07 js (a0O (a0o (f1 dLen) [eAny i])) (a0C v) (eAnd (eBin dNe (eVar v) (eVar j)) (eBin dEq (a0o (f1 dLen) [eBin dIx (eBin dIx (eVar i) (eVar v)) (eC (.int 1))]) (eVar s))) (eVar v) ρ = okL ((a2L bs x).map intD) := by
  unfold a2L
  refine a2U (List.range bs.length) intD (fun y => !decide (y = x) && decide (szB bs y = szB bs x)) intD ?_ ?_ fun y hy => ?_
  · rw [← rng0]
    exact a1s (lenB (a6w h0) (a3G bs)) (a01 (by have := hb.1; omega))
  · rw [List.length_range]; exact Nat.le_trans hb.1 (by decide)
  · have hy' := List.mem_range.mp hy
    have hself : ((a0R js ρ).set v (some (.sh (intD y))))[v]? = some (some (.sh (intD y))) := List.getElem?_set_self (by omega)
    refine ⟨_, rfl, a5L (a0e (a2x hself) (a2x (by rw [List.getElem?_set_ne n2]; exact hj)) (neN y x)) (a0e (a6F hy' (by rw [List.getElem?_set_ne n1]; exact hi) hself) (a2x (by rw [List.getElem?_set_ne n3]; exact hz)) (by rw [hs]; exact eqN _ _)), fun _ => ⟨_, a2x hself, rfl⟩⟩
theorem ones_e {bs : List Bx} (hb : a28 bs) {x y : Nat} {ρ : MEnv} {js : List Nat} {i j s v : Nat} (h0 : ρ[i]? = some (some (.sh (a0E bs)))) (hi : (a0R js ρ)[i]? = some (some (.sh (a0E bs)))) (hj : (a0R js ρ)[j]? = some (some (.sh (.int x)))) (hz : (a0R js ρ)[s]? = some (some (.sh (.int y)))) (hv : v < ρ.length) (n1 : v ≠ i) (n2 : v ≠ j) (n3 : v ≠ s) (hjs : (a0R js ρ).length = ρ.length) :
    a07 js (a0O (a0o (f1 dLen) [eAny i])) (a0C v) (eAnd (eBin dNe (eVar v) (eVar j)) (eAnd (eBin dNe (eVar v) (eVar s)) (eBin dEq (a0o (f1 dLen) [eBin dIx (eBin dIx (eVar i) (eVar v)) (eC (.int 1))]) (eC (.int 1))))) (eVar v) ρ = okL ((ones bs x y).map intD) := by
  unfold ones
  refine a2U (List.range bs.length) intD (fun t => !decide (t = x) && (!decide (t = y) && decide (szB bs t = 1))) intD ?_ ?_ fun t ht => ?_
  · rw [← rng0]
    exact a1s (lenB (a6w h0) (a3G bs)) (a01 (by have := hb.1; omega))
  · rw [List.length_range]; exact Nat.le_trans hb.1 (by decide)
  · have ht' := List.mem_range.mp ht
    have hself : ((a0R js ρ).set v (some (.sh (intD t))))[v]? = some (some (.sh (intD t))) := List.getElem?_set_self (by omega)
    refine ⟨_, rfl, a5L (a0e (a2x hself) (a2x (by rw [List.getElem?_set_ne n2]; exact hj)) (neN t x)) (a5L (a0e (a2x hself) (a2x (by rw [List.getElem?_set_ne n3]; exact hz)) (neN t y)) (a0e (a6F ht' (by rw [List.getElem?_set_ne n1]; exact hi) hself) rfl (eqN _ 1))), fun _ => ⟨_, a2x hself, rfl⟩⟩
theorem ix_nat {l : List Nat} {j : Nat} (h : j < l.length) : dIx (.lst (l.map intD)) (.int j) = okI (l[j] : Nat) := a3J (by rw [List.getElem?_map, List.getElem?_eq_getElem h]; rfl)
theorem a7a {ns : List Int} {bs : List Bx} (hb : a28 bs) {k rest kind pick n : Int} {x m : Nat} {ms : D} (hk0 : 0 ≤ k) (hk1 : k ≤ 80000) (hkind : 0 ≤ kind ∧ kind < 11) (hk4 : kind ≠ 4) (hp : 0 ≤ pick ∧ pick < 65519) (hn : a5g n) (hx : x < bs.length) (hm : m < bs.length) (hms : szB bs m = szB bs x) :
    ∃ dd : Deed, dd.Ok bs ∧ a3j [some (.sh (.lst (ns.map D.int))), some (.sh (.int k)), some (.sh (a0E bs)), some (.sh (.int rest)), some (.sh (.int kind)), some (.sh (.int pick)), some (.sh (.int n)), some (.sh (.int x)), some (.sh (.int (szB bs x : Nat))), some (.sh ms), some (.sh (.int m)), none, none, none, none] = some (.ret (.sh dd.d)) := by
  have h12 := szB_12 hb hx
  have hn2 := a21 (ns := ns) (k := k + 5) (by omega) (by omega)
  have hl2 := a20 (ns := ns) (k := k + 5) (by omega) (by omega)
  have hone := ones_e (x := x) (y := m) hb (ρ := [some (.sh (.lst (ns.map D.int))), some (.sh (.int k)), some (.sh (a0E bs)), some (.sh (.int rest)), some (.sh (.int kind)), some (.sh (.int pick)), some (.sh (.int n)), some (.sh (.int x)), some (.sh (.int (szB bs x : Nat))), some (.sh ms), some (.sh (.int m)), none, none, none, none]) (js := [14]) (i := 2) (j := 7) (s := 10) (v := 14) rfl rfl rfl rfl (by show 14 < 15; decide) (by decide) (by decide) (by decide) rfl
  have late : (kind = 0 ∨ kind = 1 ∨ kind = 8 ∨ kind = 9) → ∃ dd : Deed, dd.Ok bs ∧ a4m [some (.sh (.lst (ns.map D.int))), some (.sh (.int k)), some (.sh (a0E bs)), some (.sh (.int rest)), some (.sh (.int kind)), some (.sh (.int pick)), some (.sh (.int n)), some (.sh (.int x)), some (.sh (.int (szB bs x : Nat))), some (.sh ms), some (.sh (.int m)), none, none, none, none] = some (.ret (.sh dd.d)) := fun hkk => by
    have put : ∃ dd : Deed, dd.Ok bs ∧ a4l [some (.sh (.lst (ns.map D.int))), some (.sh (.int k)), some (.sh (a0E bs)), some (.sh (.int rest)), some (.sh (.int kind)), some (.sh (.int pick)), some (.sh (.int n)), some (.sh (.int x)), some (.sh (.int (szB bs x : Nat))), some (.sh ms), some (.sh (.int m)), some (.own (.lst ((ones bs x m).map intD))), none, none, none] = some (.ret (.sh dd.d)) := by
      rcases h12 with h | h
      · refine ⟨.put x [n], ⟨hx, by rw [h]; rfl, by intro i hi; simp at hi; subst hi; exact hn⟩, ?_⟩
        rw [h]
        exact a1i (if_t rfl (a1P (a3P rfl rfl (a1T rfl rfl) rfl)))
      · refine ⟨.put x [n, numV ns (k + 5)], ⟨hx, by rw [h]; rfl, by intro i hi; simp at hi; rcases hi with rfl | rfl <;> assumption⟩, ?_⟩
        rw [h]
        exact a0b (if_f rfl rfl) (a1P (a3P rfl rfl (a05 rfl (a05 rfl (a0e rfl rfl rfl) hn2) rfl) rfl))
    obtain ⟨dd, hd, he⟩ := put
    have hlen : dLen (.lst ((ones bs x m).map intD)) = okI ((ones bs x m).length : Int) := by rw [a3v, List.length_map]
    by_cases c8 : kind = 8
    · by_cases cm : m = x
      · exact ⟨dd, hd, a0b (a0t hone) (a0b (if_f (a2G (a0e rfl rfl (eq_t c8)) (a3V (a0e rfl rfl (ne_f (by omega))))) rfl) he)⟩
      · by_cases cl : 0 < (ones bs x m).length
        · obtain ⟨j, hj⟩ : ∃ j : Nat, pick / 5 % ((ones bs x m).length : Int) = j := ⟨(pick / 5 % ((ones bs x m).length : Int)).toNat, by have := Int.emod_nonneg (pick / 5) (b := ((ones bs x m).length : Int)) (by omega); omega⟩
          have hjl : j < (ones bs x m).length := by have := Int.emod_lt_of_pos (pick / 5) (b := ((ones bs x m).length : Int)) (by omega); omega
          have hmem := ones_mem.mp (List.getElem_mem hjl)
          refine ⟨.anew x m ((ones bs x m)[j]), ⟨hx, hm, hmem.1, fun z => cm z.symm, fun z => hmem.2.1 z.symm, fun z => hmem.2.2.1 z.symm, hms, hmem.2.2.2⟩, a0b (a0t hone) (a1i (if_t (a2G (a0e rfl rfl (eq_t c8)) (a2G (a0e rfl rfl (ne_t (by omega))) (a0e (lenB rfl hlen) rfl (gt_t (by omega))))) (a1K (a1P (a7k (s4 := .sh (.int ((ones bs x m)[j] : Nat))) rfl rfl rfl (a0e rfl (a0e (a0e rfl rfl (a1Q (by decide) (by decide))) (lenB rfl hlen) (a0p (by omega))) ?_) rfl)))))⟩
          rw [S.val_sh, hj]
          exact ix_nat hjl
        · exact ⟨dd, hd, a0b (a0t hone) (a0b (if_f (a2G (a0e rfl rfl (eq_t c8)) (a2G (a0e rfl rfl (ne_t (by omega))) (a0e (lenB rfl hlen) rfl (gt_f (by omega))))) rfl) he)⟩
    · exact ⟨dd, hd, a0b (a0t hone) (a0b (if_f (a3V (a0e rfl rfl (eq_f c8))) rfl) he)⟩
  have hkk : kind = 0 ∨ kind = 1 ∨ kind = 2 ∨ kind = 3 ∨ kind = 4 ∨ kind = 5 ∨ kind = 6 ∨ kind = 7 ∨ kind = 8 ∨ kind = 9 ∨ kind = 10 := by omega
  have tl : (kind = 0 ∨ kind = 8 ∨ kind = 9 ∨ (kind = 1 ∧ m = x)) → ∃ dd : Deed, dd.Ok bs ∧ a3j [some (.sh (.lst (ns.map D.int))), some (.sh (.int k)), some (.sh (a0E bs)), some (.sh (.int rest)), some (.sh (.int kind)), some (.sh (.int pick)), some (.sh (.int n)), some (.sh (.int x)), some (.sh (.int (szB bs x : Nat))), some (.sh ms), some (.sh (.int m)), none, none, none, none] = some (.ret (.sh dd.d)) := fun hw => by
    obtain ⟨dd, hd, he⟩ := late (by omega)
    refine ⟨dd, hd, a0b (if_f (or_f (a0e rfl rfl (eq_f (by omega))) (a0e rfl rfl (eq_f (by omega)))) rfl) (a0b (if_f ?_ rfl) (a0b (if_f (or_f (a0e rfl rfl (eq_f (by omega))) (a3V (a0e rfl rfl (eq_f (by omega))))) rfl) (a0b (if_f (a0e rfl rfl (eq_f (by omega))) rfl) (a0b (if_f (or_f (a0e rfl rfl (eq_f (by omega))) (a0e rfl rfl (eq_f (by omega)))) rfl) he))))⟩
    by_cases h1 : kind = 1
    · exact a2G (a0e rfl rfl (eq_t h1)) (a0e rfl rfl (ne_f (by omega)))
    · exact a3V (a0e rfl rfl (eq_f h1))
  have i5 : ∀ c, (kind = c ∧ c ≠ 5 ∧ c ≠ 6) → eOr (eBin dEq (eVar 4) (eC (.int 5))) (eBin dEq (eVar 4) (eC (.int 6))) [some (.sh (.lst (ns.map D.int))), some (.sh (.int k)), some (.sh (a0E bs)), some (.sh (.int rest)), some (.sh (.int kind)), some (.sh (.int pick)), some (.sh (.int n)), some (.sh (.int x)), some (.sh (.int (szB bs x : Nat))), some (.sh ms), some (.sh (.int m)), none, none, none, none] = okB false := fun c ⟨h1, h2, h3⟩ => or_f (a0e rfl rfl (eq_f (by omega))) (a0e rfl rfl (eq_f (by omega)))
  by_cases c56 : kind = 5 ∨ kind = 6
  ·
    have t5 : eOr (eBin dEq (eVar 4) (eC (.int 5))) (eBin dEq (eVar 4) (eC (.int 6))) [some (.sh (.lst (ns.map D.int))), some (.sh (.int k)), some (.sh (a0E bs)), some (.sh (.int rest)), some (.sh (.int kind)), some (.sh (.int pick)), some (.sh (.int n)), some (.sh (.int x)), some (.sh (.int (szB bs x : Nat))), some (.sh ms), some (.sh (.int m)), none, none, none, none] = okB true := by
      rcases c56 with h | h
      · exact or_t (a0e rfl rfl (eq_t h))
      · exact or_f (a0e rfl rfl (eq_f (by omega))) (a0e rfl rfl (eq_t h))
    have gx := st0_e hb hx (ρ := [some (.sh (.lst (ns.map D.int))), some (.sh (.int k)), some (.sh (a0E bs)), some (.sh (.int rest)), some (.sh (.int kind)), some (.sh (.int pick)), some (.sh (.int n)), some (.sh (.int x)), some (.sh (.int (szB bs x : Nat))), some (.sh ms), some (.sh (.int m)), none, none, none, none]) (i := 2) (j := 7) rfl rfl
    have gm := st0_e hb hm (ρ := [some (.sh (.lst (ns.map D.int))), some (.sh (.int k)), some (.sh (a0E bs)), some (.sh (.int rest)), some (.sh (.int kind)), some (.sh (.int pick)), some (.sh (.int n)), some (.sh (.int x)), some (.sh (.int (szB bs x : Nat))), some (.sh ms), some (.sh (.int m)), none, none, none, none]) (i := 2) (j := 10) rfl rfl
    have last : ∀ (n' : Int), a5g n' → ∃ dd : Deed, dd.Ok bs ∧ (sRet (eTup [(eBin dIx (eLst [(eC (.str (Str.ofString "is"))), (eC (.str (Str.ofString "most")))]) (eBin dSub (eVar 4) (eC (.int 5)))), (eVar 7), (eVar 10), (eVar 6)])) [some (.sh (.lst (ns.map D.int))), some (.sh (.int k)), some (.sh (a0E bs)), some (.sh (.int rest)), some (.sh (.int kind)), some (.sh (.int pick)), some (.sh (.int n')), some (.sh (.int x)), some (.sh (.int (szB bs x : Nat))), some (.sh ms), some (.sh (.int m)), none, some (.sh (.int (st0 bs x - st0 bs m))), none, none] = some (.ret (.sh dd.d)) := fun n' hn' => by
      rcases c56 with rfl | rfl
      · exact ⟨.iz x m n', ⟨hx, hm, hms, hn'⟩, a1P (a7k (a0e rfl (a0e rfl rfl rfl) a6k) rfl rfl rfl rfl)⟩
      · exact ⟨.most x m n', ⟨hx, hm, hms, hn'⟩, a1P (a7k (a0e rfl (a0e rfl rfl rfl) a6j) rfl rfl rfl rfl)⟩
    by_cases q1 : 0 < pick / 7 % 3
    · by_cases q2 : (if st0 bs x - st0 bs m < 0 then -(st0 bs x - st0 bs m) else st0 bs x - st0 bs m) ≤ 1000000000
      · obtain ⟨dd, hd, he⟩ := last (st0 bs x - st0 bs m) (by unfold a5g; split at q2 <;> omega)
        exact ⟨dd, hd, a1i (if_t t5 (a0b (a0t (a0e gx gm rfl)) (a0b (if_t (a2G (a0e (a0e (a0e rfl rfl (a1Q (by decide) (by decide))) rfl (a0p (by decide))) rfl (gt_t q1)) (a0e (a1T rfl rfl) (a0e rfl rfl rfl) (le_t q2))) (a0t rfl)) he)))⟩
      · obtain ⟨dd, hd, he⟩ := last n hn
        exact ⟨dd, hd, a1i (if_t t5 (a0b (a0t (a0e gx gm rfl)) (a0b (if_f (a2G (a0e (a0e (a0e rfl rfl (a1Q (by decide) (by decide))) rfl (a0p (by decide))) rfl (gt_t q1)) (a0e (a1T rfl rfl) (a0e rfl rfl rfl) (le_f q2))) rfl) he)))⟩
    · obtain ⟨dd, hd, he⟩ := last n hn
      exact ⟨dd, hd, a1i (if_t t5 (a0b (a0t (a0e gx gm rfl)) (a0b (if_f (a3V (a0e (a0e (a0e rfl rfl (a1Q (by decide) (by decide))) rfl (a0p (by decide))) rfl (gt_f q1))) rfl) he)))⟩
  · have e56 := i5 kind ⟨rfl, by omega, by omega⟩
    by_cases c1 : kind = 1 ∧ m ≠ x
    · exact ⟨.copy x m, ⟨hx, hm, fun z => c1.2 z.symm, hms⟩, a0b (if_f e56 rfl) (a1i (if_t (a2G (a0e rfl rfl (eq_t c1.1)) (a0e rfl rfl (ne_t (by omega)))) (a1P (a3P rfl rfl rfl rfl))))⟩
    · by_cases cl : kind = 0 ∨ kind = 8 ∨ kind = 9 ∨ (kind = 1 ∧ m = x)
      · exact tl cl
      · have nc : eAnd (eBin dEq (eVar 4) (eC (.int 1))) (eBin dNe (eVar 10) (eVar 7)) [some (.sh (.lst (ns.map D.int))), some (.sh (.int k)), some (.sh (a0E bs)), some (.sh (.int rest)), some (.sh (.int kind)), some (.sh (.int pick)), some (.sh (.int n)), some (.sh (.int x)), some (.sh (.int (szB bs x : Nat))), some (.sh ms), some (.sh (.int m)), none, none, none, none] = okB false := a3V (a0e rfl rfl (eq_f (by omega)))
        by_cases c2 : kind = 2
        · exact ⟨.grow x n, ⟨hx, hn⟩, a0b (if_f e56 rfl) (a0b (if_f nc rfl) (a1i (if_t (or_t (a0e rfl rfl (eq_t c2))) (a1P (a3P rfl rfl rfl rfl)))))⟩
        · by_cases c3 : kind = 3
          · by_cases c4 : szB bs x = 2
            · exact ⟨.grow x n, ⟨hx, hn⟩, a0b (if_f e56 rfl) (a0b (if_f nc rfl) (a1i (if_t (or_f (a0e rfl rfl (eq_f c2)) (a2G (a0e rfl rfl (eq_t c3)) (a0e rfl rfl (eq_t (by omega))))) (a1P (a3P rfl rfl rfl rfl)))))⟩
            · exact ⟨.tick x, ⟨hx, by omega⟩, a0b (if_f e56 rfl) (a0b (if_f nc rfl) (a0b (if_f (or_f (a0e rfl rfl (eq_f c2)) (a2G (a0e rfl rfl (eq_t c3)) (a0e rfl rfl (eq_f (by omega))))) rfl) (a1i (if_t (a0e rfl rfl (eq_t c3)) (a1P (a05 rfl rfl rfl))))))⟩
          · by_cases c7 : kind = 7
            · exact ⟨.non x, hx, a0b (if_f e56 rfl) (a0b (if_f nc rfl) (a0b (if_f (or_f (a0e rfl rfl (eq_f c2)) (a3V (a0e rfl rfl (eq_f c3)))) rfl) (a0b (if_f (a0e rfl rfl (eq_f c3)) rfl) (a1i (if_t (or_t (a0e rfl rfl (eq_t c7))) (a1P (a05 rfl rfl rfl)))))))⟩
            · by_cases c10 : kind = 10
              · exact ⟨.non x, hx, a0b (if_f e56 rfl) (a0b (if_f nc rfl) (a0b (if_f (or_f (a0e rfl rfl (eq_f c2)) (a3V (a0e rfl rfl (eq_f c3)))) rfl) (a0b (if_f (a0e rfl rfl (eq_f c3)) rfl) (a1i (if_t (or_f (a0e rfl rfl (eq_f c7)) (a0e rfl rfl (eq_t c10))) (a1P (a05 rfl rfl rfl)))))))⟩
              · exfalso; omega
end Bell
namespace Bell
open PySem L3
theorem a60 {xs ys : List D} (h : xs.length + ys.length ≤ lim) : dAdd (.lst xs) (.lst ys) = okL (xs ++ ys) := by show (if _ then _ else _) = _; exact if_pos h
theorem deed_ok {ns : List Int} {bs : List Bx} (hb : a28 bs) {k : Int} {rest : Nat} (hk0 : 0 ≤ k) (hk1 : k ≤ 80000) (hr : 1 ≤ rest ∧ rest ≤ 9) : ∃ dd : Deed, dd.Ok bs ∧ a1F [.lst (ns.map D.int), .int k, a0E bs, .int rest] = okD dd.d := by
  have m0 := a0Q (ns := ns) (k := k) (by omega) (by omega)
  have m1 := a0Q (ns := ns) (k := k + 1) (by omega) (by omega)
  have m4 := a0Q (ns := ns) (k := k + 4) (by omega) (by omega)
  have n2 := a21 (ns := ns) (k := k + 2) (by omega) (by omega)
  have l2 := a20 (ns := ns) (k := k + 2) (by omega) (by omega)
  have b0 := a2D (ns := ns) (k := k)
  have b1 := a2D (ns := ns) (k := k + 1)
  have h8 := hb.1
  have hlen := a3G bs
  have still : eOr (eBin dEq (a0o (f1 dLen) [(eAny 2)]) (eC (.int 0))) (eBin dEq (eVar 4) (eC (.int 4))) [some (.sh (.lst (ns.map D.int))), some (.sh (.int k)), some (.sh (a0E bs)), some (.sh (.int rest)), some (.sh (.int (mixV ns k % 11))), some (.sh (.int (mixV ns (k + 1)))), some (.sh (.int (numV ns (k + 2)))), none, none, none, none, none, none, none, none] = okB true →
      ∃ dd : Deed, dd.Ok bs ∧ a1F [.lst (ns.map D.int), .int k, a0E bs, .int rest] = okD dd.d := fun h => by
    obtain ⟨q, hq⟩ : ∃ q : Nat, 1 + mixV ns (k + 1) % (rest : Int) = q := ⟨(1 + mixV ns (k + 1) % (rest : Int)).toNat, by have := Int.emod_nonneg (mixV ns (k + 1)) (b := (rest : Int)) (by omega); omega⟩
    have hq2 := Int.emod_lt_of_pos (mixV ns (k + 1)) (b := (rest : Int)) (by omega)
    have hq3 := Int.emod_nonneg (mixV ns (k + 1)) (b := (rest : Int)) (by omega)
    refine ⟨.still q, ⟨by omega, by omega⟩, a1O rfl (a0b (a0t (a0e (a05 rfl rfl m0) rfl (a0p (by decide)))) (a0b (a0t (a05 rfl (a0e rfl rfl rfl) m1)) (a0b (a0t (a05 rfl (a0e rfl rfl rfl) n2)) (a1i (if_t h (a1P (a05 (s2 := .sh (.int q)) rfl (a0e rfl (a0e rfl rfl (a0p (by omega))) ?_) rfl)))))))⟩
    rw [S.val_sh, S.val_sh, add_int, hq]
  by_cases e0 : bs.length = 0
  · exact still (or_t (a0e (lenB rfl hlen) rfl (eq_t (by omega))))
  by_cases e4 : mixV ns k % 11 = 4
  · exact still (or_f (a0e (lenB rfl hlen) rfl (eq_f (by omega))) (a0e rfl rfl (eq_t e4)))
  have nst : eOr (eBin dEq (a0o (f1 dLen) [(eAny 2)]) (eC (.int 0))) (eBin dEq (eVar 4) (eC (.int 4))) [some (.sh (.lst (ns.map D.int))), some (.sh (.int k)), some (.sh (a0E bs)), some (.sh (.int rest)), some (.sh (.int (mixV ns k % 11))), some (.sh (.int (mixV ns (k + 1)))), some (.sh (.int (numV ns (k + 2)))), none, none, none, none, none, none, none, none] = okB false :=
    or_f (a0e (lenB rfl hlen) rfl (eq_f (by omega))) (a0e rfl rfl (eq_f e4))
  obtain ⟨x, hx⟩ : ∃ x : Nat, mixV ns (k + 1) % (bs.length : Int) = x := ⟨(mixV ns (k + 1) % (bs.length : Int)).toNat, by have := Int.emod_nonneg (mixV ns (k + 1)) (b := (bs.length : Int)) (by omega); omega⟩
  have hxl : x < bs.length := by have := Int.emod_lt_of_pos (mixV ns (k + 1)) (b := (bs.length : Int)) (by omega); omega
  have hmt := mates_e (x := x) (sz := (szB bs x : Nat)) hb rfl (ρ := [some (.sh (.lst (ns.map D.int))), some (.sh (.int k)), some (.sh (a0E bs)), some (.sh (.int rest)), some (.sh (.int (mixV ns k % 11))), some (.sh (.int (mixV ns (k + 1)))), some (.sh (.int (numV ns (k + 2)))), some (.sh (.int x)), some (.sh (.int (szB bs x : Nat))), none, none, none, none, none, none]) (js := [13]) (i := 2) (j := 7) (s := 8) (v := 13) rfl rfl rfl rfl (by show 13 < 15; decide) (by decide) (by decide) (by decide) rfl
  obtain ⟨j, hj⟩ : ∃ j : Nat, mixV ns (k + 4) % (((a2L bs x).length : Int) + 1) = j := ⟨(mixV ns (k + 4) % (((a2L bs x).length : Int) + 1)).toNat, by have := Int.emod_nonneg (mixV ns (k + 4)) (b := (((a2L bs x).length : Int) + 1)) (by omega); omega⟩
  have hjl : j < (a2L bs x ++ [x]).length := by have := Int.emod_lt_of_pos (mixV ns (k + 4)) (b := (((a2L bs x).length : Int) + 1)) (by omega); rw [List.length_append, List.length_singleton]; omega
  obtain ⟨m, hm⟩ : ∃ m, m = (a2L bs x ++ [x])[j] := ⟨_, rfl⟩
  have hmm : m < bs.length ∧ szB bs m = szB bs x := by
    have : m ∈ a2L bs x ++ [x] := by rw [hm]; exact List.getElem_mem hjl
    rcases List.mem_append.mp this with h | h
    · have := a6W.mp h; exact ⟨this.1, this.2.2⟩
    · rw [List.mem_singleton.mp h]; exact ⟨hxl, rfl⟩
  have hml := a6X (bs := bs) (x := x)
  have hmlen : dLen (.lst ((a2L bs x).map intD)) = okI ((a2L bs x).length : Int) := by rw [a3v, List.length_map]
  obtain ⟨dd, hd, he⟩ := a7a (ns := ns) (rest := rest) (ms := .lst ((a2L bs x).map intD)) hb hk0 hk1 (kind := mixV ns k % 11) ⟨by omega, by omega⟩ e4 b1 l2 hxl hmm.1 hmm.2
  refine ⟨dd, hd, a1O rfl (a0b (a0t (a0e (a05 rfl rfl m0) rfl (a0p (by decide)))) (a0b (a0t (a05 rfl (a0e rfl rfl rfl) m1)) (a0b (a0t (a05 rfl (a0e rfl rfl rfl) n2)) (a0b (if_f nst rfl) (a0b (a0t (s := .sh (.int x)) (a0e rfl (lenB rfl hlen) ?_)) (a0b (a0t (a6F hxl rfl rfl)) (a0b (a0t hmt) (a1K (a0b (a0t (s := .sh (.int m)) (a0e (a0e rfl (a1T rfl rfl) (a60 ?_)) (a0e (a05 rfl (a0e rfl rfl rfl) m4) (a0e (lenB rfl hmlen) rfl rfl) (a0p (by omega))) ?_)) he)))))))))⟩
  · rw [S.val_sh, S.val_sh, a0p (by omega), hx]
  · rw [List.length_map]; exact Nat.le_trans (by show _ + 1 ≤ 10; omega) (by decide)
  · rw [S.val_sh, hj, hm]
    have := ix_nat hjl
    rw [List.map_append] at this
    exact this
theorem shl1 {b : Nat} (hb : b ≤ 100) : dShl (.int 1) (.int (b : Int)) = okI ((2 ^ b : Nat) : Int) := by rw [shl_int (by omega) (by omega) (by decide), Int.toNat_natCast, Int.one_mul, Int.natCast_pow]; rfl
def rowIv (ns : List Int) (k : Int) (bs : List Bx) (bells longest rest q : Nat) (ρ : MEnv) : Prop := ∃ (ps : List Pl) (e7 e8 e9 e10 : Option S), ps.length = q ∧ (∀ p ∈ ps, PlOk bs bells p) ∧
  ρ = [some (.sh (.lst (ns.map D.int))), some (.sh (.int k)), some (.sh (a0E bs)), some (.sh (.int bells)), some (.sh (.int longest)), some (.sh (.int rest)), some (.own (.lst (ps.map plD))), e7, e8, e9, e10]
theorem row_ok {ns : List Int} {bs : List Bx} (hb : a28 bs) {k : Int} {bells longest rest : Nat} (hk0 : 0 ≤ k) (hk1 : k ≤ 70000) (hbl : bells ≤ 6) (hlo : 1 ≤ longest ∧ longest ≤ 12) (hr : 1 ≤ rest ∧ rest ≤ 9) :
    ∃ ps : List Pl, a2o [.lst (ns.map D.int), .int k, a0E bs, .int bells, .int longest, .int rest] = okD (.tup (ps.map plD)) ∧ 1 ≤ ps.length ∧ ps.length ≤ longest ∧ ∀ p ∈ ps, PlOk bs bells p := by
  have m0 := a0Q (ns := ns) (k := k) (by omega) (by omega)
  have b0 := a2D (ns := ns) (k := k)
  obtain ⟨many, hm⟩ : ∃ many : Nat, 1 + mixV ns k % (longest : Int) = many := ⟨(1 + mixV ns k % (longest : Int)).toNat, by have := Int.emod_nonneg (mixV ns k) (b := (longest : Int)) (by omega); omega⟩
  have hm2 := Int.emod_lt_of_pos (mixV ns k) (b := (longest : Int)) (by omega)
  have hm3 := Int.emod_nonneg (mixV ns k) (b := (longest : Int)) (by omega)
  have h2b := Nat.two_pow_pos bells
  obtain ⟨ρ', e, ps, e7, e8, e9, e10, hl, hp, rfl⟩ := a1E (bd := a0C 7) (body := a5J) (ρ := [some (.sh (.lst (ns.map D.int))), some (.sh (.int k)), some (.sh (a0E bs)), some (.sh (.int bells)), some (.sh (.int longest)), some (.sh (.int rest)), some (.own (.lst [])), none, none, none, none]) (rowIv ns k bs bells longest rest) many
    ⟨[], none, none, none, none, rfl, fun _ h => (nomatch h), rfl⟩ (by
    rintro p ρ hp ⟨ps, e7, e8, e9, e10, hl, hps, rfl⟩
    have m7 := a0Q (ns := ns) (k := k + 3 + 8 * (p : Int) + 7) (by omega) (by omega)
    have b7 := a2D (ns := ns) (k := k + 3 + 8 * (p : Int) + 7)
    obtain ⟨dd, hd, he⟩ := deed_ok (ns := ns) hb (k := k + 3 + 8 * (p : Int)) (rest := rest) (by omega) (by omega) hr
    have fin : ∀ wd : Nat, wd < 2 ^ (bells + 1) → wd % 2 = 0 → ∃ ρ2, a4M [some (.sh (.lst (ns.map D.int))), some (.sh (.int k)), some (.sh (a0E bs)), some (.sh (.int bells)), some (.sh (.int longest)), some (.sh (.int rest)), some (.own (.lst (ps.map plD))), some (.sh (.int p)), some (.sh (.int (k + 3 + 8 * (p : Int)))), some (.sh (.int wd)), some (.sh (.int (mixV ns (k + 3 + 8 * (p : Int) + 7))))] = some (.next ρ2) ∧ rowIv ns k bs bells longest rest (p + 1) ρ2 := fun wd h1 h2 => by
      refine ⟨_, a2f rfl (tup2 (a7k rfl rfl rfl rfl he) rfl) ?_, ps ++ [(dd, wd)], some (.sh (.int p)), some (.sh (.int (k + 3 + 8 * (p : Int)))), some (.sh (.int wd)), some (.sh (.int (mixV ns (k + 3 + 8 * (p : Int) + 7)))), by simp [hl], ?_, ?_⟩
      · rw [List.length_map, hl]; exact Nat.lt_of_lt_of_le (by omega : p < 13) (by decide)
      · intro q hq
        rcases List.mem_append.mp hq with h | h
        · exact hps q h
        · rw [List.mem_singleton.mp h]; exact ⟨hd, h1, h2⟩
      · rw [List.map_append]; rfl
    have hs1 : (sSet 8 (eBin dAdd (eBin dAdd (eVar 1) (eC (.int 3))) (eBin dMul (eC (.int 8)) (eVar 7)))) [some (.sh (.lst (ns.map D.int))), some (.sh (.int k)), some (.sh (a0E bs)), some (.sh (.int bells)), some (.sh (.int longest)), some (.sh (.int rest)), some (.own (.lst (ps.map plD))), some (.sh (.int p)), e8, e9, e10]
        = some (.next [some (.sh (.lst (ns.map D.int))), some (.sh (.int k)), some (.sh (a0E bs)), some (.sh (.int bells)), some (.sh (.int longest)), some (.sh (.int rest)), some (.own (.lst (ps.map plD))), some (.sh (.int p)), some (.sh (.int (k + 3 + 8 * (p : Int)))), e9, e10]) := by simp (disch := omega) only [sSet, a1v, eVar, List.getElem?_cons_succ, List.getElem?_cons_zero, okD, eC, bindV_ok, S.val_sh, add_int, okI, mulL, List.set_cons_succ, List.set_cons_zero, bindO_ok]
    rcases mix2 (ns := ns) (k := k + 3 + 8 * (p : Int) + 7) with c | c
    · obtain ⟨ρ2, h1, h2⟩ := fin 0 (Nat.two_pow_pos _) rfl
      exact ⟨_, ρ2, rfl, a0b hs1 (a0b (a0t rfl) (a0b (a0t (a05 rfl (a0e rfl rfl rfl) m7)) (a0b (if_f (a0e (a0e rfl rfl (a0p (by decide))) rfl (eq_f (by omega))) rfl) h1))), h2⟩
    · obtain ⟨wd, hw⟩ : ∃ wd : Nat, mixV ns (k + 3 + 8 * (p : Int) + 7) / 2 % ((2 ^ bells : Nat) : Int) = wd := ⟨(mixV ns (k + 3 + 8 * (p : Int) + 7) / 2 % ((2 ^ bells : Nat) : Int)).toNat, by have := Int.emod_nonneg (mixV ns (k + 3 + 8 * (p : Int) + 7) / 2) (b := ((2 ^ bells : Nat) : Int)) (by omega); omega⟩
      have hwl : wd < 2 ^ bells := by have := Int.emod_lt_of_pos (mixV ns (k + 3 + 8 * (p : Int) + 7) / 2) (b := ((2 ^ bells : Nat) : Int)) (by omega); omega
      obtain ⟨ρ2, h1, h2⟩ := fin (2 * wd) (by rw [Nat.pow_succ]; omega) (by omega)
      refine ⟨_, ρ2, rfl, a0b hs1 (a0b (a0t rfl) (a0b (a0t (a05 rfl (a0e rfl rfl rfl) m7)) (a0b (if_t (a0e (a0e rfl rfl (a0p (by decide))) rfl (eq_t c)) (a0t (s := .sh (.int (2 * wd : Nat))) (a0e rfl (a0e (a0e rfl rfl (a1Q (by decide) (by decide))) (a0e rfl rfl (shl1 (by omega))) (a0p (by omega))) ?_))) h1))), h2⟩
      rw [S.val_sh, S.val_sh, hw, mulL (by decide) (by decide)]
      rfl)
  refine ⟨ps, a1O rfl (a0b (a0t rfl) (a0b (a3e (a1s (i := many) (a0e rfl (a0e (a05 rfl rfl m0) rfl (a0p (by omega))) ?_) (a01 (by omega))) e) (a1K (a1P (a1T rfl rfl))))), by omega, by omega, hp⟩
  rw [S.val_sh, S.val_sh, add_int, hm]
theorem letter6 {k : Nat} (h : k < 6) : ∃ c, dIx (.str (Str.ofString "pqrstu")) (.int k) = okD (.str ⟨#[c]⟩) := by
  have hk : k = 0 ∨ k = 1 ∨ k = 2 ∨ k = 3 ∨ k = 4 ∨ k = 5 := by omega
  rcases hk with rfl | rfl | rfl | rfl | rfl | rfl <;> exact ⟨_, rfl⟩
def progIv (ns : List Int) (bs : List Bx) (bells longest rest q : Nat) (ρ : MEnv) : Prop := ∃ (rs : List Rw) (e6 e7 e8 : Option S), rs.length = q + 1 ∧ (∀ r ∈ rs, RwOk bs bells longest r) ∧ (rs.getD 0 ⟨Str.empty, 1, []⟩).rk = 0 ∧ (∀ k r, rs[k]? = some r → k ≠ 0 → 1 ≤ r.rk ∧ r.rk ≤ 9) ∧
  ρ = [some (.sh (.lst (ns.map D.int))), some (.sh (.int bells)), some (.sh (.int longest)), some (.sh (.int rest)), some (.sh (a0E bs)), some (.own (.lst (rs.map Rw.d))), e6, e7, e8]
theorem a58 (ns : List Int) {bells longest rest : Nat} (hbl : bells ≤ 6) (hlo : 1 ≤ longest ∧ longest ≤ 12) (hr : 1 ≤ rest ∧ rest ≤ 9) :
    ∃ (bs : List Bx) (rs : List Rw), a1R [.lst (ns.map D.int), .int bells, .int longest, .int rest] = okD (a0W bs rs) ∧ a5f bs rs bells longest := by
  obtain ⟨bs, hbe, hb⟩ := boxes_ok ns
  obtain ⟨p0, hp0, l1, l2, ok0⟩ := row_ok (ns := ns) hb (k := 20) (bells := bells) (longest := longest) (rest := rest) (by decide) (by decide) hbl hlo hr
  obtain ⟨ρ', e, rs, e6, e7, e8, hl, hrs, hmain, hrank, rfl⟩ := a1E (bd := a0C 6) (body := a3R) (ρ := [some (.sh (.lst (ns.map D.int))), some (.sh (.int bells)), some (.sh (.int longest)), some (.sh (.int rest)), some (.sh (a0E bs)), some (.own (.lst ([⟨Str.ofString "main", 0, p0⟩].map Rw.d))), none, none, none]) (progIv ns bs bells longest rest) bells
    ⟨[⟨Str.ofString "main", 0, p0⟩], none, none, none, rfl, by intro r h; rw [List.mem_singleton.mp h]; exact ⟨l1, l2, ok0⟩, rfl, by intro k r h hk; cases k with
      | zero => exact absurd rfl hk
      | succ k => simp at h, rfl⟩ (by
    rintro b ρ hbk ⟨rs, e6, e7, e8, hl, hrs, hmain, hrank, rfl⟩
    obtain ⟨at', hat⟩ : ∃ a : Int, a = 20 + (3 + 8 * (longest : Int)) * ((b : Int) + 1) := ⟨_, rfl⟩
    have ha : 0 ≤ at' ∧ at' ≤ 1000 := by
      have h1 : 0 ≤ (3 + 8 * (longest : Int)) * ((b : Int) + 1) := Int.mul_nonneg (by omega) (by omega)
      have h2 : (3 + 8 * (longest : Int)) * ((b : Int) + 1) ≤ 99 * ((b : Int) + 1) := Int.mul_le_mul_of_nonneg_right (by omega) (by omega)
      omega
    have m1 := a0Q (ns := ns) (k := at' + 1) (by omega) (by omega)
    have m2 := a0Q (ns := ns) (k := at' + 2) (by omega) (by omega)
    have b1 := a2D (ns := ns) (k := at' + 1)
    obtain ⟨ps, hpe, q1, q2, okp⟩ := row_ok (ns := ns) hb (k := at') (bells := bells) (longest := longest) (rest := rest) (by omega) (by omega) hbl hlo hr
    obtain ⟨c, hc⟩ := letter6 (k := b) (by omega)
    obtain ⟨rk, hrk, r1, r9⟩ : ∃ rk : Nat, eBin dAdd (eC (.int 1)) (eBin dMod (a0g a0i [(eVar 0), (eBin dAdd (eVar 7) (eC (.int 1)))]) (eBin dIx (eLst [(eC (.int 3)), (eC (.int 9))]) (eBin dMod (a0g a0i [(eVar 0), (eBin dAdd (eVar 7) (eC (.int 2)))]) (eC (.int 2))))) [some (.sh (.lst (ns.map D.int))), some (.sh (.int bells)), some (.sh (.int longest)), some (.sh (.int rest)), some (.sh (a0E bs)), some (.own (.lst (rs.map Rw.d))), some (.sh (.int b)), some (.sh (.int at')), e8] = okI (rk : Int) ∧ 1 ≤ rk ∧ rk ≤ 9 := by
      rcases mix2 (ns := ns) (k := at' + 2) with h | h
      · refine ⟨(1 + mixV ns (at' + 1) % 3).toNat, ?_, by omega, by omega⟩
        rw [show ((1 + mixV ns (at' + 1) % 3).toNat : Int) = 1 + mixV ns (at' + 1) % 3 by omega]
        simp (disch := omega) only [eLst, a2T, okL, a1v, eC, okD, a0g, a0X, eVar, List.getElem?_cons_zero, List.getElem?_cons_succ, bindV_ok, S.val_sh, add_int, okI, m1, List.length_cons, List.length_nil, Nat.reduceAdd, Nat.reduceLeDiff, ite_true, m2, a0p, h, S.val_own, O.val_lst, a6k]
      · refine ⟨(1 + mixV ns (at' + 1) % 9).toNat, ?_, by omega, by omega⟩
        rw [show ((1 + mixV ns (at' + 1) % 9).toNat : Int) = 1 + mixV ns (at' + 1) % 9 by omega]
        simp (disch := omega) only [eLst, a2T, okL, a1v, eC, okD, a0g, a0X, eVar, List.getElem?_cons_zero, List.getElem?_cons_succ, bindV_ok, S.val_sh, add_int, okI, m1, List.length_cons, List.length_nil, Nat.reduceAdd, Nat.reduceLeDiff, ite_true, m2, a0p, h, S.val_own, O.val_lst, a6j]
    have hmul : dMul (.int (3 + 8 * (longest : Int))) (.int ((b : Int) + 1)) = okI ((3 + 8 * (longest : Int)) * ((b : Int) + 1)) := mulL (by omega) (by omega)
    refine ⟨_, _, rfl, a0b (a0t (s := .sh (.int at')) (a0e rfl (a0e (a0e rfl (a0e rfl rfl (mulL (by decide) (by decide))) rfl) (a0e rfl rfl rfl) hmul) ?_)) (a0b (a0t hrk) (a2f rfl (a3P (a0e rfl rfl hc) rfl (call6 rfl rfl rfl rfl rfl rfl hpe) rfl) ?_)), rs ++ [⟨Str.mk #[c], rk, ps⟩], some (.sh (.int b)), some (.sh (.int at')), some (.sh (.int rk)), by simp [hl], ?_, ?_, ?_, ?_⟩
    · rw [S.val_sh, S.val_sh, add_int, hat]
    · rw [List.length_map, hl]; exact Nat.lt_of_lt_of_le (by omega : b + 1 < 8) (by decide)
    · intro r hr'
      rcases List.mem_append.mp hr' with h | h
      · exact hrs r h
      · rw [List.mem_singleton.mp h]; exact ⟨q1, q2, okp⟩
    · rw [List.getD_eq_getElem?_getD, List.getElem?_append_left (by omega), ← List.getD_eq_getElem?_getD]; exact hmain
    · intro k r h hk
      by_cases hkl : k < rs.length
      · rw [List.getElem?_append_left hkl] at h; exact hrank k r h hk
      · rw [List.getElem?_append_right (by omega)] at h
        have : k - rs.length = 0 := by
          by_cases z : k - rs.length = 0
          · exact z
          · rw [List.getElem?_eq_none (by simp; omega)] at h; cases h
        rw [this] at h
        cases h
        exact ⟨r1, r9⟩
    · rw [List.map_append]; rfl)
  refine ⟨bs, rs, a1O rfl (a0b (a0t (a1T rfl hbe)) (a0b (a0t (a1T (a3P rfl rfl (call6 rfl rfl rfl rfl rfl rfl hp0) rfl) rfl)) (a0b (a3e (a1s rfl (a01 (by omega))) e) (a1K (a1P (tup2 (s1 := .sh (a0E bs)) (s2 := .sh (.tup (rs.map Rw.d))) rfl (a1T rfl rfl))))))), ⟨hb, hl, hrs, hmain, hrank⟩⟩
end Bell
namespace Bell
open PySem L3
inductive Pn : Nat → D → Prop
  | non (n) : Pn n .non
  | int (n i) : Pn n (.int i)
  | str (n x) : Pn n (.str x)
  | tup (n ds) : (∀ d ∈ ds, Pn n d) → ds.length ≤ lim → Pn (n + 1) (.tup ds)
  | lst (n ds) : (∀ d ∈ ds, Pn n d) → ds.length ≤ lim → Pn (n + 1) (.lst ds)
theorem Pn.mono : ∀ {n m : Nat} {d : D}, Pn n d → n ≤ m → Pn m d := by
  intro n m d h
  induction h generalizing m with
  | non n => exact fun _ => .non m
  | int n i => exact fun _ => .int m i
  | str n x => exact fun _ => .str m x
  | tup n ds hd hl ih =>
    intro hm
    obtain ⟨k, rfl⟩ : ∃ k, m = k + 1 := ⟨m - 1, by omega⟩
    exact .tup k ds (fun d hd => ih d hd (by omega)) hl
  | lst n ds hd hl ih =>
    intro hm
    obtain ⟨k, rfl⟩ : ∃ k, m = k + 1 := ⟨m - 1, by omega⟩
    exact .lst k ds (fun d hd => ih d hd (by omega)) hl
def a5e (n : Nat) : List D → Option R := Nat.rec (motive := fun _ => List D → Option R) (fun _ => none) (fun _ G => fnD 2 3 (a2S G)) n
theorem a19 (n : Nat) : a5e (n + 1) = fnD 2 3 (a2S (a5e n)) := rfl
theorem ix_mk {mk : List D → D} (hmk : mk = D.tup ∨ mk = D.lst) {ds : List D} {k : Nat} {d : D} (h : ds[k]? = some d) : dIx (mk ds) (.int k) = okD d := by
  rcases hmk with rfl | rfl
  · exact ix_tup h
  · exact a3J h
theorem blsAll {α : Type} (xs : List α) : dAll (.lst (xs.map fun _ => D.bl true)) = okB true := by
  have h : ∀ l : List α, blsOf (l.map fun _ => D.bl true) = some (l.map fun _ => true) := fun l => by
    induction l with
    | nil => rfl
    | cons a l ih => rw [List.map_cons, List.map_cons]; unfold blsOf; rw [ih]; rfl
  show (blsOf (xs.map fun _ => D.bl true)).bind (fun bs => okB (bs.all id)) = _
  rw [h]
  simp
theorem a5d (G : List D → Option R) (ds : List D) (mk : List D → D) (hmk : mk = D.tup ∨ mk = D.lst) (hl : ds.length ≤ lim) (h : ∀ d ∈ ds, G [d, d] = okB true) (e2 : Option S) :
    a0g (f1 dAll) [a07 [2] (a0O (a0o (f1 dLen) [eAny 1])) (a0C 2) a31 (a0g G [(eBin dIx (eVar 0) (eVar 2)), (eBin dIx (eVar 1) (eVar 2))])] [some (.sh (mk ds)), some (.sh (mk ds)), e2] = okB true := by
  have hlen : dLen (mk ds) = okI (ds.length : Int) := by rcases hmk with rfl | rfl <;> rfl
  refine a1T (a51 (List.range ds.length) (fun k : Nat => D.int k) (fun _ => .bl true) ?_ (by rw [List.length_range]; exact hl) fun k hk => ?_) (blsAll _)
  · rw [← rng0]
    exact a1s (lenB rfl hlen) (a01 (Nat.le_trans hl (by decide)))
  · have hk' := List.mem_range.mp hk
    have e := List.getElem?_eq_getElem hk'
    exact ⟨_, rfl, _, a05 (a0e rfl rfl (ix_mk hmk e)) (a0e rfl rfl (ix_mk hmk e)) (h _ (List.getElem_mem hk')), rfl⟩
theorem a6x : ∀ (n : Nat) (d : D), Pn n d → a5e (n + 1) [d, d] = okB true := by
  intro n d h
  induction h with
  | non n => rw [a19]; rfl
  | int n i =>
    rw [a19]
    exact a1O rfl (a0b (if_f rfl rfl) (a0b (if_f rfl rfl) (a0b (if_f rfl rfl) (a1P (a2G rfl (a2G rfl (a0e rfl rfl (a5F i))))))))
  | str n x =>
    rw [a19]
    exact a1O rfl (a0b (if_f rfl rfl) (a0b (if_f rfl rfl) (a1i (if_t rfl (a1P (a2G rfl (a0e rfl rfl (a5E x))))))))
  | tup n ds hd hl ih =>
    rw [a19]
    exact a1O rfl (a1i (if_t rfl (a0b (if_f rfl rfl) (a0b (if_f rfl rfl) (a0b (if_f (a0e rfl rfl (ne_f rfl)) rfl) (a1P (a5d (a5e (n + 1)) ds D.tup (.inl rfl) hl ih none)))))))
  | lst n ds hd hl ih =>
    rw [a19]
    exact a1O rfl (a1i (if_t rfl (a0b (if_f rfl rfl) (a0b (if_f rfl rfl) (a0b (if_f (a0e rfl rfl (ne_f rfl)) rfl) (a1P (a5d (a5e (n + 1)) ds D.lst (.inr rfl) hl ih none)))))))
theorem a3i {n : Nat} {d : D} (h : Pn n d) (hn : n ≤ 7) : a0m [d, d] = okB true := a6x 7 d (h.mono hn)
end Bell
namespace Bell
open PySem L3
abbrev r0 : Rw := ⟨Str.empty, 0, []⟩
abbrev p0' : Pl := (.still 1, 0)
def rkOf (rs : List Rw) (i : Nat) : Nat := (rs.getD i r0).rk
def plOf (rs : List Rw) (i : Nat) : List Pl := (rs.getD i r0).pl
def wdOf (rs : List Rw) (i p : Nat) : Nat := ((plOf rs i).getD p p0').2
def a2E (n : Nat) : List Nat := (List.range (n - 1)).map fun k => 1 + k
def a2a (rs : List Rw) (i : Nat) : List Nat := (a2E rs.length).filter fun b => decide (rkOf rs i < rkOf rs b)
abbrev barD (b : Nat × Nat × Nat) : D := .tup [.int b.1, .int b.2.1, .int b.2.2]
def a2w (rs : List Rw) (i p : Nat) : List (Nat × Nat × Nat) := ((a2a rs i).filter fun b => !(wdOf rs i p).testBit b).map fun b => (i, p, b)
def a0B (rs : List Rw) (i n : Nat) : List (Nat × Nat × Nat) := (List.range n).flatMap fun p => a2w rs i p
def a0P (rs : List Rw) (n : Nat) : List (Nat × Nat × Nat) := (List.range n).flatMap fun i => a0B rs i (plOf rs i).length
def a1x (rs : List Rw) : List (Nat × Nat × Nat) := a0P rs rs.length
theorem a1L (rs : List Rw) (i n : Nat) : a0B rs i (n + 1) = a0B rs i n ++ a2w rs i n := by unfold a0B; rw [List.range_succ, List.flatMap_append]; simp
theorem a17 (rs : List Rw) (n : Nat) : a0P rs (n + 1) = a0P rs n ++ a0B rs n (plOf rs n).length := by unfold a0P; rw [List.range_succ, List.flatMap_append]; simp
theorem a3g (n : Nat) : (a2E n).length = n - 1 := by unfold a2E; rw [List.length_map, List.length_range]
theorem a2J {n b : Nat} : b ∈ a2E n ↔ 1 ≤ b ∧ b < n := by
  unfold a2E
  rw [List.mem_map]
  constructor
  · rintro ⟨k, hk, rfl⟩; have := List.mem_range.mp hk; omega
  · rintro ⟨h1, h2⟩; exact ⟨b - 1, List.mem_range.mpr (by omega), by omega⟩
theorem a4S (n : Nat) (hn : 1 ≤ n) : rng 1 (n : Int) = (a2E n).map intD := by
  unfold a2E
  rw [List.map_map]
  exact rngN 1 n
theorem a4j (rs : List Rw) (i : Nat) : (a2a rs i).length ≤ rs.length := by
  unfold a2a; refine Nat.le_trans (List.length_filter_le _ _) ?_; rw [a3g]; omega
theorem a4g (rs : List Rw) (i p : Nat) : (a2w rs i p).length ≤ rs.length := by
  unfold a2w; rw [List.length_map]; exact Nat.le_trans (List.length_filter_le _ _) (a4j rs i)
theorem a2V (rs : List Rw) (i : Nat) : ∀ n, (a0B rs i n).length ≤ n * rs.length
  | 0 => by simp [a0B]
  | n + 1 => by rw [a1L, List.length_append, Nat.succ_mul]; have := a2V rs i n; have := a4g rs i n; omega
theorem a4f {rs : List Rw} {m : Nat} (h : ∀ i, i < rs.length → (plOf rs i).length ≤ m) : ∀ n, n ≤ rs.length → (a0P rs n).length ≤ n * (m * rs.length)
  | 0, _ => by simp [a0P]
  | n + 1, hn => by
    rw [a17, List.length_append, Nat.succ_mul]
    have h1 := a4f h n (by omega)
    have h2 := a2V rs n (plOf rs n).length
    have h3 : (plOf rs n).length * rs.length ≤ m * rs.length := Nat.mul_le_mul_right _ (h n (by omega))
    omega
theorem row_at {rs : List Rw} {i : Nat} (h : i < rs.length) : (rs.map Rw.d)[i]? = some (.tup [.str (rs.getD i r0).nm, .int (rkOf rs i), .tup ((plOf rs i).map plD)]) := by
  unfold rkOf plOf
  rw [List.getElem?_map, List.getElem?_eq_getElem h, List.getD_eq_getElem?_getD, List.getElem?_eq_getElem h]
  rfl
theorem a5k (rs : List Rw) (i : Nat) : (rs.getD i r0).d = .tup [.str (rs.getD i r0).nm, .int (rkOf rs i), .tup ((plOf rs i).map plD)] := rfl
theorem row1 (rs : List Rw) (i : Nat) : dIx (rs.getD i r0).d (.int 1) = okI (rkOf rs i : Nat) := by rw [a5k]; exact a2M
theorem row2 (rs : List Rw) (i : Nat) : dIx (rs.getD i r0).d (.int 2) = okD (.tup ((plOf rs i).map plD)) := by rw [a5k]; exact a44
theorem place_at {rs : List Rw} {i p : Nat} (h : p < (plOf rs i).length) : ((plOf rs i).map plD)[p]? = some (.tup [((plOf rs i).getD p p0').1.d, .int (wdOf rs i p)]) := by
  unfold wdOf
  rw [List.getElem?_map, List.getElem?_eq_getElem h, List.getD_eq_getElem?_getD, List.getElem?_eq_getElem h]
  rfl
theorem a4a {rs : List Rw} {i : Nat} (h : i < rs.length) : dIx (.tup (rs.map Rw.d)) (.int i) = okD (.tup [.str (rs.getD i r0).nm, .int (rkOf rs i), .tup ((plOf rs i).map plD)]) := ix_tup (row_at h)
theorem a4y {rs : List Rw} {i p : Nat} (h : p < (plOf rs i).length) : dIx (.tup ((plOf rs i).map plD)) (.int p) = okD (.tup [((plOf rs i).getD p p0').1.d, .int (wdOf rs i p)]) := ix_tup (place_at h)
structure Few (rs : List Rw) : Prop where
  len : 1 ≤ rs.length ∧ rs.length ≤ 7
  pl : ∀ i, i < rs.length → (plOf rs i).length ≤ 12
theorem Few.lim {rs : List Rw} (F : Few rs) {n : Nat} (h : n ≤ rs.length) : (a0P rs n).length ≤ 588 := by
  have h1 := a4f F.pl n h
  have h2 : n * (12 * rs.length) ≤ 7 * (12 * 7) := Nat.mul_le_mul (by have := F.len; omega) (Nat.mul_le_mul_left _ F.len.2)
  omega
theorem Few.lim2 {rs : List Rw} (F : Few rs) {n p : Nat} (h : n < rs.length) (hp : p ≤ (plOf rs n).length) : (a0P rs n ++ a0B rs n p).length ≤ 672 := by
  have h1 := F.lim (n := n) (by omega)
  have h2 := a2V rs n p
  have h3 : p * rs.length ≤ 12 * 7 := Nat.mul_le_mul (by have := F.pl n h; omega) F.len.2
  rw [List.length_append]
  omega
theorem a5f.few {bs : List Bx} {rs : List Rw} {bells most : Nat} (P : a5f bs rs bells most) (hb : bells ≤ 6) (hm : most ≤ 12) : Few rs := by
  refine ⟨⟨by rw [P.len]; omega, by rw [P.len]; omega⟩, fun i hi => ?_⟩
  unfold plOf
  rw [List.getD_eq_getElem?_getD, List.getElem?_eq_getElem hi, Option.getD_some]
  exact Nat.le_trans (P.row _ (List.getElem_mem hi)).2.1 hm
theorem a6r {bs : List Bx} {rs : List Rw} (F : Few rs) : a1u [a0W bs rs] = okD (.lst ((a1x rs).map barD)) := by
  have hlen : dLen (.tup (rs.map Rw.d)) = okI (rs.length : Int) := by rw [a24, List.length_map]
  have outer : ∀ (k : Nat) (ρ : MEnv), k < rs.length → (∃ e3 e4 e5 e6 e7 : Option S, ρ = [some (.sh (a0W bs rs)), some (.sh (.tup (rs.map Rw.d))), some (.own (.lst ((a0P rs k).map barD))), e3, e4, e5, e6, e7, none]) →
      ∃ ρ1 ρ2, bTup [3, 4] (D.tup [.int k, (rs.getD k r0).d]) ρ = some ρ1 ∧ a3T ρ1 = some (.next ρ2) ∧ (∃ e3 e4 e5 e6 e7 : Option S, ρ2 = [some (.sh (a0W bs rs)), some (.sh (.tup (rs.map Rw.d))), some (.own (.lst ((a0P rs (k + 1)).map barD))), e3, e4, e5, e6, e7, none]) := by
    rintro k ρ hk ⟨e3, e4, e5, e6, e7, rfl⟩
    have habove : a07 [8] (a2u (eC (.int 1)) (a0o (f1 dLen) [(eAny 1)])) (a0C 8) (eBin dGt (eBin dIx (eBin dIx (eVar 1) (eVar 8)) (eC (.int 1))) (eBin dIx (eVar 4) (eC (.int 1)))) (eVar 8)
        [some (.sh (a0W bs rs)), some (.sh (.tup (rs.map Rw.d))), some (.own (.lst ((a0P rs k).map barD))), some (.sh (.int k)), some (.sh (rs.getD k r0).d), e5, e6, e7, none] = okL ((a2a rs k).map intD) := by
      refine a2U (a2E rs.length) intD (fun b => decide (rkOf rs k < rkOf rs b)) intD ?_ ?_ fun b hb => ?_
      · rw [← a4S _ F.len.1]
        exact a5R rfl (lenB rfl hlen) rfl (a01 (by have := F.len; omega))
      · rw [a3g]; exact Nat.le_trans (by have := F.len; omega : _ ≤ 7) (by decide)
      · have hb' := a2J.mp hb
        exact ⟨_, rfl, a0e (a0e (a0e rfl rfl (a4a hb'.2)) rfl a2M) (a0e rfl rfl (row1 rs k)) (gtN _ _), fun _ => ⟨_, rfl, rfl⟩⟩
    obtain ⟨ρ', e, f5, f6, f7, h5, rfl⟩ := a4D (bd := bTup [6, 7]) (body := a5K) (fun p => D.tup [.int p, plD ((plOf rs k).getD p p0')]) (fun p ρ => ∃ f5 f6 f7 : Option S, (f5 = some (.own (.lst ((a2a rs k).map intD))) ∨ f5 = some (.sh (.lst ((a2a rs k).map intD)))) ∧ ρ = [some (.sh (a0W bs rs)), some (.sh (.tup (rs.map Rw.d))), some (.own (.lst ((a0P rs k ++ a0B rs k p).map barD))), some (.sh (.int k)), some (.sh (rs.getD k r0).d), f5, f6, f7, none]) (plOf rs k).length
      (ρ := [some (.sh (a0W bs rs)), some (.sh (.tup (rs.map Rw.d))), some (.own (.lst ((a0P rs k).map barD))), some (.sh (.int k)), some (.sh (rs.getD k r0).d), some (.own (.lst ((a2a rs k).map intD))), e6, e7, none]) ⟨_, e6, e7, .inl rfl, by simp [a0B]⟩ (by
      rintro p ρ hp ⟨f5, f6, f7, h5, rfl⟩
      have hcomp : a07 [8] (iSeq (eVar 5)) (a0C 8) (eBin dEq (eBin a47 (eBin dShr (eBin dIx (eVar 7) (eC (.int 1))) (eVar 8)) (eC (.int 1))) (eC (.int 0))) (eTup [(eVar 3), (eVar 6), (eVar 8)])
          [some (.sh (a0W bs rs)), some (.sh (.tup (rs.map Rw.d))), some (.own (.lst ((a0P rs k ++ a0B rs k p).map barD))), some (.sh (.int k)), some (.sh (rs.getD k r0).d), some (.sh (.lst ((a2a rs k).map intD))), some (.sh (.int p)), some (.sh (plD ((plOf rs k).getD p p0'))), none] = okL ((a2w rs k p).map barD) := by
        unfold a2w
        rw [List.map_map]
        refine a2U (a2a rs k) intD (fun b => !(wdOf rs k p).testBit b) (barD ∘ fun b => (k, p, b)) rfl (Nat.le_trans (a4j rs k) (Nat.le_trans F.len.2 (by decide))) fun b hb => ?_
        exact ⟨_, rfl, bit_eq0 (a0e rfl rfl a2M) rfl, fun _ => ⟨_, a3P rfl rfl rfl rfl, rfl⟩⟩
      have hl2 := F.lim2 (p := p) hk (by omega)
      have hl3 := a4g rs k p
      have hext : ((a0P rs k ++ a0B rs k p).map barD).length + ((a2w rs k p).map barD).length ≤ lim := by
        rw [List.length_map, List.length_map]
        exact Nat.le_trans (by have := F.len; omega : _ ≤ 700) (by decide)
      have hfin : (a0P rs k ++ a0B rs k p).map barD ++ (a2w rs k p).map barD = (a0P rs k ++ a0B rs k (p + 1)).map barD := by rw [a1L, ← List.append_assoc, List.map_append (l₁ := a0P rs k ++ a0B rs k p)]
      rcases h5 with rfl | rfl
      · refine ⟨_, _, rfl, a1K (a5X rfl hcomp rfl hext), some (.sh (.lst ((a2a rs k).map intD))), some (.sh (.int p)), some (.sh (plD ((plOf rs k).getD p p0'))), .inr rfl, ?_⟩
        rw [hfin]
        rfl
      · refine ⟨_, _, rfl, a1K (a5X rfl hcomp rfl hext), some (.sh (.lst ((a2a rs k).map intD))), some (.sh (.int p)), some (.sh (plD ((plOf rs k).getD p p0'))), .inr rfl, ?_⟩
        rw [hfin]
        rfl)
    refine ⟨_, _, rfl, a0b (a0t habove) (a3e (a50 (plOf rs k) plD p0' (a0e rfl rfl (row2 rs k)) (.inr rfl)) e), some (.sh (.int k)), some (.sh (rs.getD k r0).d), f5, f6, f7, ?_⟩
    rw [a17]
  obtain ⟨ρ', e, e3, e4, e5, e6, e7, rfl⟩ := a4D (bd := bTup [3, 4]) (body := a3T) (fun i => D.tup [.int i, (rs.getD i r0).d]) _ rs.length (ρ := [some (.sh (a0W bs rs)), some (.sh (.tup (rs.map Rw.d))), some (.own (.lst [])), none, none, none, none, none, none]) ⟨none, none, none, none, none, rfl⟩ outer
  exact a1O rfl (a0b (a0t (a0e rfl rfl a2M)) (a0b (a0t rfl) (a0b (a3e (a50 rs Rw.d r0 rfl (.inr rfl)) e) (a1K (a1P rfl)))))
theorem div_bit (w b : Nat) : decide (((w : Int) / ((2 ^ b : Nat) : Int)) % 2 = 0) = !w.testBit b := by
  rw [show ((w : Int) / ((2 ^ b : Nat) : Int)) % 2 = ((w / 2 ^ b % 2 : Nat) : Int) by rw [Int.natCast_emod, Int.natCast_ediv]; rfl]
  rw [Nat.testBit_eq_decide_div_mod_eq]
  by_cases h : w / 2 ^ b % 2 = 1
  · rw [decide_eq_true h, decide_eq_false (by omega)]; rfl
  · rw [decide_eq_false h, decide_eq_true (by omega)]; rfl
def a1a (rs : List Rw) (i p : Nat) (pre : List Nat) : List (Nat × Nat × Nat) := ((pre.filter fun b => decide (rkOf rs i < rkOf rs b)).filter fun b => !(wdOf rs i p).testBit b).map fun b => (i, p, b)
theorem a3H {bs : List Bx} {rs : List Rw} (F : Few rs) : a02 [a0W bs rs] = okD (.lst ((a1x rs).map barD)) := by
  have hlen : dLen (.tup (rs.map Rw.d)) = okI (rs.length : Int) := by rw [a24, List.length_map]
  have h7 := F.len
  have outer : ∀ (k : Nat) (ρ : MEnv), k < rs.length → (∃ e3 e4 e5 e6 : Option S, ρ = [some (.sh (a0W bs rs)), some (.sh (.tup (rs.map Rw.d))), some (.own (.lst ((a0P rs k).map barD))), e3, e4, e5, e6]) →
      ∃ ρ1 ρ2, a0C 3 (.int k) ρ = some ρ1 ∧ a3m ρ1 = some (.next ρ2) ∧ (∃ e3 e4 e5 e6 : Option S, ρ2 = [some (.sh (a0W bs rs)), some (.sh (.tup (rs.map Rw.d))), some (.own (.lst ((a0P rs (k + 1)).map barD))), e3, e4, e5, e6]) := by
    rintro k ρ hk ⟨e3, e4, e5, e6, rfl⟩
    have hplen : dLen (.tup ((plOf rs k).map plD)) = okI ((plOf rs k).length : Int) := by rw [a24, List.length_map]
    have hp12 := F.pl k hk
    obtain ⟨ρ', e, f4, f5, f6, rfl⟩ := a1E (bd := a0C 4) (body := a5b) (fun p ρ => ∃ f4 f5 f6 : Option S, ρ = [some (.sh (a0W bs rs)), some (.sh (.tup (rs.map Rw.d))), some (.own (.lst ((a0P rs k ++ a0B rs k p).map barD))), some (.sh (.int k)), f4, f5, f6]) (plOf rs k).length
      (ρ := [some (.sh (a0W bs rs)), some (.sh (.tup (rs.map Rw.d))), some (.own (.lst ((a0P rs k).map barD))), some (.sh (.int k)), e4, e5, e6]) ⟨e4, e5, e6, by simp [a0B]⟩ (by
      rintro p ρ hp ⟨f4, f5, f6, rfl⟩
      obtain ⟨ρ', e, g6, rfl⟩ := a4B (bd := a0C 6) (body := a5c) intD (fun pre ρ => ∃ g6 : Option S, ρ = [some (.sh (a0W bs rs)), some (.sh (.tup (rs.map Rw.d))), some (.own (.lst ((a0P rs k ++ a0B rs k p ++ a1a rs k p pre).map barD))), some (.sh (.int k)), some (.sh (.int p)), some (.sh (.int (wdOf rs k p))), g6]) (a2E rs.length)
        (ρ := [some (.sh (a0W bs rs)), some (.sh (.tup (rs.map Rw.d))), some (.own (.lst ((a0P rs k ++ a0B rs k p).map barD))), some (.sh (.int k)), some (.sh (.int p)), some (.sh (.int (wdOf rs k p))), f6]) ⟨f6, by simp [a1a]⟩ (by
        rintro pre b post ρ hpre ⟨g6, rfl⟩
        have hb : b ∈ a2E rs.length := by rw [hpre]; simp
        have hb' := a2J.mp hb
        have hlp : pre.length ≤ 6 := by
          have := a3g rs.length
          rw [hpre, List.length_append, List.length_cons] at this
          omega
        have hl2 := F.lim2 (p := p) hk (by omega)
        have hl3 : (a1a rs k p pre).length ≤ 6 := by
          unfold a1a
          rw [List.length_map]
          exact Nat.le_trans (List.length_filter_le _ _) (Nat.le_trans (List.length_filter_le _ _) hlp)
        have c1 := a0e (f := dGt) (a := eBin dIx (eBin dIx (eVar 1) (eVar 6)) (eC (.int 1))) (b := eBin dIx (eBin dIx (eVar 1) (eVar 3)) (eC (.int 1))) (ρ := [some (.sh (a0W bs rs)), some (.sh (.tup (rs.map Rw.d))), some (.own (.lst ((a0P rs k ++ a0B rs k p ++ a1a rs k p pre).map barD))), some (.sh (.int k)), some (.sh (.int p)), some (.sh (.int (wdOf rs k p))), some (.sh (intD b))]) (a0e (a0e rfl rfl (a4a hb'.2)) rfl a2M) (a0e (a0e rfl rfl (a4a hk)) rfl a2M) (gtN _ _)
        have c2 : eBin dEq (eBin dMod (eBin a2b (eVar 5) (eBin dShl (eC (.int 1)) (eVar 6))) (eC (.int 2))) (eC (.int 0)) [some (.sh (a0W bs rs)), some (.sh (.tup (rs.map Rw.d))), some (.own (.lst ((a0P rs k ++ a0B rs k p ++ a1a rs k p pre).map barD))), some (.sh (.int k)), some (.sh (.int p)), some (.sh (.int (wdOf rs k p))), some (.sh (intD b))] = okB (!(wdOf rs k p).testBit b) := by
          have hp2 := Nat.two_pow_pos b
          have hp3 : 2 ^ b ≤ 2 ^ 7 := Nat.pow_le_pow_right (by decide) (by omega)
          rw [← div_bit]
          exact a0e (a0e (a0e rfl (a0e rfl rfl (shl1 (by omega))) (a1Q (by omega) (by omega))) rfl (a0p (by decide))) rfl (eq_d _ _)
        by_cases q1 : rkOf rs k < rkOf rs b
        · by_cases q2 : (wdOf rs k p).testBit b = true
          · refine ⟨_, _, rfl, .inl (if_f ((a5L c1 c2).trans (by rw [q2]; simp)) rfl), some (.sh (intD b)), ?_⟩
            have : a1a rs k p (pre ++ [b]) = a1a rs k p pre := by unfold a1a; simp [q1, q2]
            rw [this]
            rfl
          · refine ⟨_, _, rfl, .inl (if_t ((a5L c1 c2).trans (by simp [q1, q2])) (a2f rfl (a3P rfl rfl rfl rfl) ?_)), some (.sh (intD b)), ?_⟩
            · rw [List.length_map, List.length_append]
              exact Nat.lt_of_lt_of_le (by omega : _ < 700) (by decide)
            · have : a1a rs k p (pre ++ [b]) = a1a rs k p pre ++ [(k, p, b)] := by unfold a1a; simp [q1, q2]
              rw [this, ← List.append_assoc, List.map_append (l₁ := a0P rs k ++ a0B rs k p ++ a1a rs k p pre)]
              rfl
        · refine ⟨_, _, rfl, .inl (if_f ((a5L c1 c2).trans (by simp [q1])) rfl), some (.sh (intD b)), ?_⟩
          have : a1a rs k p (pre ++ [b]) = a1a rs k p pre := by unfold a1a; simp [q1]
          rw [this]
          rfl)
      refine ⟨_, _, rfl, a0b (a0t (a0e (a0e (a0e (a0e rfl rfl (a4a hk)) rfl a44) rfl (a4y hp)) rfl a2M)) (a3e (a5R rfl (lenB rfl hlen) rfl (a01 (by omega))) (by rw [a4S _ h7.1]; exact e)), some (.sh (.int p)), some (.sh (.int (wdOf rs k p))), g6, ?_⟩
      have : a0B rs k (p + 1) = a0B rs k p ++ a1a rs k p (a2E rs.length) := by rw [a1L]; rfl
      rw [this, ← List.append_assoc])
    refine ⟨_, _, rfl, a3e (a1s (lenB (a0e (a0e rfl rfl (a4a hk)) rfl a44) hplen) (a01 (by omega))) e, some (.sh (.int k)), f4, f5, f6, ?_⟩
    rw [a17]
  obtain ⟨ρ', e, e3, e4, e5, e6, rfl⟩ := a1E (bd := a0C 3) (body := a3m) _ rs.length (ρ := [some (.sh (a0W bs rs)), some (.sh (.tup (rs.map Rw.d))), some (.own (.lst [])), none, none, none, none]) ⟨none, none, none, none, rfl⟩ outer
  exact a1O rfl (a0b (a0t (a0e rfl rfl a2M)) (a0b (a0t rfl) (a0b (a3e (a1s (lenB rfl hlen) (a01 (by omega))) e) (a1K (a1P rfl)))))
theorem bars_pn {rs : List Rw} (F : Few rs) : Pn 2 (.lst ((a1x rs).map barD)) := by
  refine .lst 1 _ (fun d hd => ?_) ?_
  · obtain ⟨b, _, rfl⟩ := List.mem_map.mp hd
    refine .tup 0 _ (fun d hd => ?_) (by show 3 ≤ lim; decide)
    have : d = .int b.1 ∨ d = .int b.2.1 ∨ d = .int b.2.2 := by simpa using hd
    rcases this with rfl | rfl | rfl <;> exact .int 0 _
  · rw [List.length_map]
    exact Nat.le_trans (F.lim (Nat.le_refl _)) (by decide)
end Bell
namespace Bell
open PySem L3
abbrev T3 := Nat × Nat × Nat
def wFrom (l : List T3) (i p : Nat) (w : Nat) : Nat := l.foldl (fun w b => if b.1 = i ∧ b.2.1 = p then w ||| 2 ^ b.2.2 else w) w
theorem a29 (l : List T3) (b : T3) (i p w : Nat) : wFrom (l ++ [b]) i p w = if b.1 = i ∧ b.2.1 = p then wFrom l i p w ||| 2 ^ b.2.2 else wFrom l i p w := by
  unfold wFrom; rw [List.foldl_append]; rfl
theorem a2i (i p c : Nat) : ∀ (l : List T3) (w : Nat), (wFrom l i p w).testBit c = (w.testBit c || l.any fun b => decide (b = (i, p, c)))
  | [], w => by simp [wFrom]
  | b :: l, w => by
    show (wFrom l i p (if b.1 = i ∧ b.2.1 = p then w ||| 2 ^ b.2.2 else w)).testBit c = _
    rw [a2i i p c l, List.any_cons]
    obtain ⟨b1, b2, b3⟩ := b
    by_cases h : b1 = i ∧ b2 = p
    · rw [if_pos h, Nat.testBit_or, Nat.testBit_two_pow, Bool.or_assoc]
      obtain ⟨rfl, rfl⟩ := h
      have : decide (b3 = c) = decide ((b1, b2, b3) = (b1, b2, c)) := decide_eq_decide.mpr ⟨fun z => by rw [z], fun z => by injection z with _ z; injection z⟩
      rw [this]
    · rw [if_neg h]
      have : decide ((b1, b2, b3) = (i, p, c)) = false := decide_eq_false fun z => h (by injection z with z1 z; injection z with z2 _; exact ⟨z1, z2⟩)
      rw [this, Bool.false_or]
theorem wFrom_or (l : List T3) (i p w : Nat) : wFrom l i p w = w ||| wFrom l i p 0 := by
  refine Nat.eq_of_testBit_eq fun c => ?_
  rw [Nat.testBit_or, a2i, a2i, Nat.zero_testBit, Bool.false_or]
theorem a52 {l l' : List T3} (h : ∀ b, b ∈ l ↔ b ∈ l') (i p w : Nat) : wFrom l i p w = wFrom l' i p w := by
  refine Nat.eq_of_testBit_eq fun c => ?_
  rw [a2i, a2i]
  congr 1
  rw [Bool.eq_iff_iff, List.any_eq_true, List.any_eq_true]
  exact ⟨fun ⟨b, hb, e⟩ => ⟨b, (h b).mp hb, e⟩, fun ⟨b, hb, e⟩ => ⟨b, (h b).mpr hb, e⟩⟩
def barP (rs : List Rw) (l : List T3) (i p : Nat) : Pl := (((plOf rs i).getD p p0').1, wFrom l i p (wdOf rs i p))
def barR (rs : List Rw) (l : List T3) (i : Nat) : Rw := ⟨(rs.getD i r0).nm, rkOf rs i, (List.range (plOf rs i).length).map (barP rs l i)⟩
def a1U (rs : List Rw) (l : List T3) : List Rw := (List.range rs.length).map (barR rs l)
theorem a6s {l l' : List T3} (h : ∀ b, b ∈ l ↔ b ∈ l') (rs : List Rw) : a1U rs l = a1U rs l' := by
  unfold a1U
  refine List.map_congr_left fun i _ => ?_
  unfold barR
  congr 1
  refine List.map_congr_left fun p _ => ?_
  unfold barP
  rw [a52 h]
theorem get_put (kvs : Tb) (k j : List Int) (v : Int) : getI (putI kvs k v) j = if j = k then some v else getI kvs j := by
  have h := L2.valV_put (kvT kvs) (k.map Sum.inl) (j.map (Sum.inl : Int → L2.Key)) (L2.V.int v)
  rw [a6K, a4k, a4k] at h
  by_cases c : j = k
  · rw [if_pos (by rw [c])] at h
    rw [if_pos c]
    cases e : getI (putI kvs k v) j with
    | none => rw [e] at h; cases h
    | some x => rw [e] at h; injection h with h; injection h with h; rw [h]
  · rw [if_neg (fun z => c (a3L z))] at h
    rw [if_neg c]
    cases e : getI (putI kvs k v) j with
    | none =>
      rw [e] at h
      cases e2 : getI kvs j with
      | none => rfl
      | some y => rw [e2] at h; cases h
    | some x =>
      rw [e] at h
      cases e2 : getI kvs j with
      | none => rw [e2] at h; cases h
      | some y => rw [e2] at h; injection h with h; injection h with h; rw [h]
theorem put_len (kvs : Tb) (k : List Int) (v : Int) : (putI kvs k v).length ≤ kvs.length + 1 := by
  unfold putI
  split
  · rw [List.length_map]; omega
  · rw [List.length_append]; exact Nat.le_refl _
def kij (i p : Nat) : List Int := [(i : Int), (p : Int)]
theorem a62 {i p j q : Nat} : kij i p = kij j q ↔ (i = j ∧ p = q) := by
  unfold kij
  constructor
  · intro h
    injection h with h1 h
    injection h with h2 _
    exact ⟨by omega, by omega⟩
  · rintro ⟨rfl, rfl⟩; rfl
def Tbl (kvs : Tb) (l : List T3) : Prop := kvs.length ≤ l.length ∧ ∀ i p : Nat, (getI kvs (kij i p)).getD 0 = ((wFrom l i p 0 : Nat) : Int)
theorem Tbl.snoc {kvs : Tb} {l : List T3} (t : Tbl kvs l) (b : T3) : Tbl (putI kvs (kij b.1 b.2.1) ((wFrom l b.1 b.2.1 0 ||| 2 ^ b.2.2 : Nat) : Int)) (l ++ [b]) := by
  refine ⟨?_, fun i p => ?_⟩
  · rw [List.length_append, List.length_singleton]
    exact Nat.le_trans (put_len _ _ _) (Nat.succ_le_succ t.1)
  · rw [get_put, a29]
    by_cases c : b.1 = i ∧ b.2.1 = p
    · rw [if_pos (a62.mpr ⟨c.1.symm, c.2.symm⟩), if_pos c, ← c.1, ← c.2]; rfl
    · rw [if_neg (fun z => c (by have := a62.mp z; exact ⟨this.1.symm, this.2.symm⟩)), if_neg c]
      exact t.2 i p
def FewB (l : List T3) : Prop := l.length ≤ 1000 ∧ ∀ b ∈ l, b.2.2 ≤ 100
theorem words_eq {l : List T3} (hl : FewB l) {d0 : D} (e3 e4 e5 e6 e7 e8 e9 : Option S) : ∃ kvs e3', Tbl kvs l ∧ forD (a0C 3) a4h (l.map barD) [some (.sh d0), some (.sh (.lst (l.map barD))), some (.own (.dic [])), e3, e4, e5, e6, e7, e8, e9] = some (.next [some (.sh d0), some (.sh (.lst (l.map barD))), some (.own (.dic kvs)), e3', e4, e5, e6, e7, e8, e9]) := by
  obtain ⟨ρ', e, kvs, e3', t, rfl⟩ := a4B (bd := a0C 3) (body := a4h) barD (fun q ρ => ∃ (kvs : Tb) (e3 : Option S), Tbl kvs q ∧ ρ = [some (.sh d0), some (.sh (.lst (l.map barD))), some (.own (.dic kvs)), e3, e4, e5, e6, e7, e8, e9]) l
    (ρ := [some (.sh d0), some (.sh (.lst (l.map barD))), some (.own (.dic [])), e3, e4, e5, e6, e7, e8, e9]) ⟨[], e3, ⟨Nat.le_refl _, fun i p => rfl⟩, rfl⟩ (by
    rintro q b post ρ hq ⟨kvs, e3, t, rfl⟩
    have hb : b ∈ l := by rw [hq]; simp
    have hk : ∀ ρ : MEnv, ρ[3]? = some (some (.sh (barD b))) → a15 (eVar 3) none (some (eC (.int 2))) ρ = okD (.tup ((kij b.1 b.2.1).map D.int)) := fun ρ h => by
      show a0Y (eVar 3 ρ) _ = _
      rw [a2x h]; rfl
    have hlen : kvs.length < lim := Nat.lt_of_le_of_lt (by have := t.1; have := hl.1; rw [hq, List.length_append] at this; omega : kvs.length ≤ 1000) (by decide)
    refine ⟨_, _, rfl, .inl (put_s (ks := kij b.1 b.2.1) (v := ((wFrom q b.1 b.2.1 0 ||| 2 ^ b.2.2 : Nat) : Int)) rfl (hk _ rfl) (a0e (get_e (ks := kij b.1 b.2.1) rfl (hk _ rfl)) (a0e rfl (a0e rfl rfl a44) (shl1 (hl.2 b hb))) ?_) hlen), _, some (.sh (barD b)), t.snoc b, rfl⟩
    show dBor (.int ((getI kvs (kij b.1 b.2.1)).getD 0)) (.int ((2 ^ b.2.2 : Nat) : Int)) = _
    rw [t.2, a5I])
  exact ⟨kvs, e3', t, e⟩
theorem a7m {bs : List Bx} {rs : List Rw} (F : Few rs) {l : List T3} (hl : FewB l) : a1S [a0W bs rs, .lst (l.map barD)] = okD (a0W bs (a1U rs l)) := by
  obtain ⟨kvs, e3, t, ew⟩ := words_eq hl (d0 := a0W bs rs) none none none none none none none
  have h7 := F.len
  obtain ⟨ρ', e, f5, f6, f7, rfl⟩ := a4D (bd := bTup [5, 6]) (body := a6t) (fun i => D.tup [.int i, (rs.getD i r0).d]) (fun k ρ => ∃ e5 e6 e7 : Option S, ρ = [some (.sh (a0W bs rs)), some (.sh (.lst (l.map barD))), some (.own (.dic kvs)), e3, some (.own (.lst (((List.range k).map (barR rs l)).map Rw.d))), e5, e6, e7, none, none]) rs.length
    (ρ := [some (.sh (a0W bs rs)), some (.sh (.lst (l.map barD))), some (.own (.dic kvs)), e3, some (.own (.lst [])), none, none, none, none, none]) ⟨none, none, none, rfl⟩ (by
    rintro k ρ hk ⟨e5, e6, e7, rfl⟩
    have hp12 := F.pl k hk
    have hc : a07 [8, 9] (a3Z (eBin dIx (eVar 6) (eC (.int 2)))) (bTup [8, 9]) a31 (eTup [(eBin dIx (eVar 9) (eC (.int 0))), (eBin dBor (eBin dIx (eVar 9) (eC (.int 1))) (eGet 2 (eTup [(eVar 5), (eVar 8)]) 0))])
        [some (.sh (a0W bs rs)), some (.sh (.lst (l.map barD))), some (.own (.dic kvs)), e3, some (.own (.lst (((List.range k).map (barR rs l)).map Rw.d))), some (.sh (.int k)), some (.sh (rs.getD k r0).d), e7, none, none] = okL ((List.range (plOf rs k).length).map fun p => plD (barP rs l k p)) := by
      refine a51 (List.range (plOf rs k).length) (fun p => D.tup [.int p, plD ((plOf rs k).getD p p0')]) (fun p => plD (barP rs l k p)) (a50 (plOf rs k) plD p0' (a0e rfl rfl (row2 rs k)) (.inr rfl)) (by rw [List.length_range]; exact Nat.le_trans hp12 (by decide)) fun p _ => ⟨_, rfl, .sh (plD (barP rs l k p)), a05 (s2 := .sh (.int ((wFrom l k p (wdOf rs k p) : Nat) : Int))) (a0e rfl rfl a5A) (a0e (a0e rfl rfl a2M) (get_e (ks := kij k p) rfl (a05 rfl rfl rfl)) ?_) rfl, rfl⟩
      show dBor (.int ((((plOf rs k).getD p p0').2 : Nat) : Int)) (.int ((getI kvs (kij k p)).getD 0)) = okI ((wFrom l k p (wdOf rs k p) : Nat) : Int)
      rw [t.2, a5I, wFrom_or l k p (wdOf rs k p)]; rfl
    refine ⟨_, _, rfl, a0b (a0t hc) (a1K ((a2f (s := .sh (barR rs l k).d) rfl (a3P (a0e rfl rfl (by rw [a5k]; exact a5A)) (a0e rfl rfl (row1 rs k)) (a1T rfl rfl) ?_) ?_))), some (.sh (.int k)), some (.sh (rs.getD k r0).d), some (.sh (.lst ((List.range (plOf rs k).length).map fun p => plD (barP rs l k p)))), ?_⟩
    · show okD (D.tup [.str (rs.getD k r0).nm, .int (rkOf rs k), .tup ((List.range (plOf rs k).length).map fun p => plD (barP rs l k p))]) = okD (barR rs l k).d
      unfold barR Rw.d
      rw [List.map_map]; rfl
    · rw [List.length_map, List.length_map, List.length_range]; exact Nat.lt_of_le_of_lt (by omega : k ≤ 7) (by decide)
    · rw [List.range_succ, List.map_append (l₁ := List.range k), List.map_append (l₁ := (List.range k).map (barR rs l))]; rfl)
  exact a1O rfl (a0b rfl (a0b (a3e (a64 rfl rfl) ew) (a0b (a0t rfl) (a0b (a3e (a50 rs Rw.d r0 (a0e rfl rfl a2M) (.inr rfl)) e) (a1K (a1P (a05 (a0e rfl rfl a5A) (a1T rfl rfl) rfl)))))))
end Bell
namespace Bell
open PySem L3
theorem a4w {bs : List Bx} {rs : List Rw} (F : Few rs) {l : List T3} (hl : FewB l) : a0U [a0W bs rs, .lst (l.map barD)] = okD (a0W bs (a1U rs l)) := by
  have h7 := F.len
  have hlen : dLen (.tup (rs.map Rw.d)) = okI (rs.length : Int) := by rw [a24, List.length_map]
  have hrow : ∀ k, (rs.getD k r0).d = .tup [.str (rs.getD k r0).nm, .int (rkOf rs k), .tup ((plOf rs k).map plD)] := fun k => rfl
  obtain ⟨ρ', e, f3, f4, f5, f6, f7, f8, rfl⟩ := a1E (bd := a0C 3) (body := a32) (fun k ρ => ∃ e3 e4 e5 e6 e7 e8 : Option S, ρ = [some (.sh (a0W bs rs)), some (.sh (.lst (l.map barD))), some (.own (.lst (((List.range k).map (barR rs l)).map Rw.d))), e3, e4, e5, e6, e7, e8]) rs.length
    (ρ := [some (.sh (a0W bs rs)), some (.sh (.lst (l.map barD))), some (.own (.lst [])), none, none, none, none, none, none]) ⟨none, none, none, none, none, none, rfl⟩ (by
    rintro k ρ hk ⟨e3, e4, e5, e6, e7, e8, rfl⟩
    have hp12 := F.pl k hk
    have hplen : dLen (.tup ((plOf rs k).map plD)) = okI ((plOf rs k).length : Int) := by rw [a24, List.length_map]
    obtain ⟨ρ', e, g6, g7, g8, rfl⟩ := a1E (bd := a0C 6) (body := a33) (fun p ρ => ∃ e6 e7 e8 : Option S, ρ = [some (.sh (a0W bs rs)), some (.sh (.lst (l.map barD))), some (.own (.lst (((List.range k).map (barR rs l)).map Rw.d))), some (.sh (.int k)), some (.sh (.tup [.str (rs.getD k r0).nm, .int (rkOf rs k), .tup ((plOf rs k).map plD)])), some (.own (.lst (((List.range p).map (barP rs l k)).map plD))), e6, e7, e8]) (plOf rs k).length
      (ρ := [some (.sh (a0W bs rs)), some (.sh (.lst (l.map barD))), some (.own (.lst (((List.range k).map (barR rs l)).map Rw.d))), some (.sh (.int k)), some (.sh (.tup [.str (rs.getD k r0).nm, .int (rkOf rs k), .tup ((plOf rs k).map plD)])), some (.own (.lst [])), e6, e7, e8]) ⟨e6, e7, e8, rfl⟩ (by
      rintro p ρ hp ⟨e6, e7, e8, rfl⟩
      obtain ⟨ρ', e, g8, rfl⟩ := a4B (bd := a0C 8) (body := a34) barD (fun q ρ => ∃ e8 : Option S, ρ = [some (.sh (a0W bs rs)), some (.sh (.lst (l.map barD))), some (.own (.lst (((List.range k).map (barR rs l)).map Rw.d))), some (.sh (.int k)), some (.sh (.tup [.str (rs.getD k r0).nm, .int (rkOf rs k), .tup ((plOf rs k).map plD)])), some (.own (.lst (((List.range p).map (barP rs l k)).map plD))), some (.sh (.int p)), some (.sh (.int ((wFrom q k p (wdOf rs k p) : Nat) : Int))), e8]) l
        (ρ := [some (.sh (a0W bs rs)), some (.sh (.lst (l.map barD))), some (.own (.lst (((List.range k).map (barR rs l)).map Rw.d))), some (.sh (.int k)), some (.sh (.tup [.str (rs.getD k r0).nm, .int (rkOf rs k), .tup ((plOf rs k).map plD)])), some (.own (.lst (((List.range p).map (barP rs l k)).map plD))), some (.sh (.int p)), some (.sh (.int ((wdOf rs k p : Nat) : Int))), e8]) ⟨e8, rfl⟩ (by
        rintro q b post ρ hq ⟨e8, rfl⟩
        have hb : b ∈ l := by rw [hq]; simp
        have hc := a5L (a := eBin dEq (eBin dIx (eVar 8) (eC (.int 0))) (eVar 3)) (b := eBin dEq (eBin dIx (eVar 8) (eC (.int 1))) (eVar 6)) (ρ := [some (.sh (a0W bs rs)), some (.sh (.lst (l.map barD))), some (.own (.lst (((List.range k).map (barR rs l)).map Rw.d))), some (.sh (.int k)), some (.sh (.tup [.str (rs.getD k r0).nm, .int (rkOf rs k), .tup ((plOf rs k).map plD)])), some (.own (.lst (((List.range p).map (barP rs l k)).map plD))), some (.sh (.int p)), some (.sh (.int ((wFrom q k p (wdOf rs k p) : Nat) : Int))), some (.sh (barD b))]) (a0e (a0e rfl rfl a5A) rfl (eqN _ _)) (a0e (a0e rfl rfl a2M) rfl (eqN _ _))
        by_cases c : b.1 = k ∧ b.2.1 = p
        · refine ⟨_, _, rfl, .inl (if_t (hc.trans (by rw [decide_eq_true c.1, decide_eq_true c.2]; rfl)) (a0t (a0e rfl (a0e rfl (a0e rfl rfl a44) (shl1 (hl.2 b hb))) (a5I _ _)))), some (.sh (barD b)), ?_⟩
          rw [a29, if_pos c]; rfl
        · refine ⟨_, _, rfl, .inl (if_f (hc.trans ?_) rfl), some (.sh (barD b)), ?_⟩
          · congr 4
            rw [Bool.and_eq_false_iff, decide_eq_false_iff_not, decide_eq_false_iff_not]
            by_cases c1 : b.1 = k
            · exact .inr fun z => c ⟨c1, z⟩
            · exact .inl c1
          · rw [a29, if_neg c]; rfl)
      refine ⟨_, _, rfl, a0b (a0t (a0e (a0e (a0e rfl rfl a44) rfl (a4y hp)) rfl a2M)) (a0b (a3e (a64 rfl rfl) e) (a2f (s := .sh (plD (barP rs l k p))) rfl (a05 (a0e (a0e (a0e rfl rfl a44) rfl (a4y hp)) rfl a5A) rfl rfl) ?_)), some (.sh (.int p)), some (.sh (.int ((wFrom l k p (wdOf rs k p) : Nat) : Int))), g8, ?_⟩
      · rw [List.length_map, List.length_map, List.length_range]; exact Nat.lt_of_le_of_lt (by omega : p ≤ 12) (by decide)
      · rw [List.range_succ, List.map_append (l₁ := List.range p), List.map_append (l₁ := (List.range p).map (barP rs l k))]; rfl)
    refine ⟨_, _, rfl, a0b (a0t (a0e (a0e rfl rfl a2M) rfl (a4a hk))) (a0b (a0t rfl) (a0b (a3e (a1s (lenB (a0e rfl rfl a44) hplen) (a01 (by omega))) e) (a1K (a2f (s := .sh (barR rs l k).d) rfl (a3P (a0e rfl rfl a5A) (a0e rfl rfl a2M) (a1T rfl rfl) rfl) ?_)))), some (.sh (.int k)), some (.sh (.tup [.str (rs.getD k r0).nm, .int (rkOf rs k), .tup ((plOf rs k).map plD)])), some (.sh (.lst (((List.range (plOf rs k).length).map (barP rs l k)).map plD))), g6, g7, g8, ?_⟩
    · rw [List.length_map, List.length_map, List.length_range]; exact Nat.lt_of_le_of_lt (by omega : k ≤ 7) (by decide)
    · rw [List.range_succ, List.map_append (l₁ := List.range k), List.map_append (l₁ := (List.range k).map (barR rs l))]; rfl)
  exact a1O rfl (a0b (a0t rfl) (a0b (a3e (a1s (lenB (a0e rfl rfl a2M) hlen) (a01 (by omega))) e) (a1K (a1P (a05 (a0e rfl rfl a5A) (a1T rfl rfl) rfl)))))
section
variable {rs : List Rw} {l : List T3}
theorem a2F : (a1U rs l).length = rs.length := by unfold a1U; rw [List.length_map, List.length_range]
theorem a5a {i : Nat} (h : i < rs.length) : (a1U rs l).getD i r0 = barR rs l i := by
  unfold a1U
  rw [List.getD_eq_getElem?_getD, List.getElem?_map, List.getElem?_range h]; rfl
theorem bar_rk {i : Nat} (h : i < rs.length) : rkOf (a1U rs l) i = rkOf rs i := by show ((a1U rs l).getD i r0).rk = _; rw [a5a h]; rfl
theorem a7o {i : Nat} (h : i < rs.length) : plOf (a1U rs l) i = (List.range (plOf rs i).length).map (barP rs l i) := by show ((a1U rs l).getD i r0).pl = _; rw [a5a h]; rfl
theorem bar_wd {i p : Nat} (h : i < rs.length) (hp : p < (plOf rs i).length) : wdOf (a1U rs l) i p = wFrom l i p (wdOf rs i p) := by
  show ((plOf (a1U rs l) i).getD p p0').2 = _
  rw [a7o h, List.getD_eq_getElem?_getD, List.getElem?_map, List.getElem?_range hp]; rfl
theorem a7q {i : Nat} (h : i < rs.length) : a2a (a1U rs l) i = a2a rs i := by
  unfold a2a
  rw [a2F]
  refine List.filter_congr fun b hb => ?_
  rw [bar_rk h, bar_rk (a2J.mp hb).2]
theorem bar_at {i p : Nat} (h : i < rs.length) (hp : p < (plOf rs i).length) : a2w (a1U rs l) i p = (a2w rs i p).filter fun b => !l.any fun c => decide (c = b) := by
  unfold a2w
  rw [a7q h, bar_wd h hp, List.filter_map, List.filter_filter]
  congr 1
  refine List.filter_congr fun b _ => ?_
  rw [a2i, Bool.not_or, Bool.and_comm]; rfl
theorem a7n {i : Nat} (h : i < rs.length) : ∀ n, n ≤ (plOf rs i).length → a0B (a1U rs l) i n = (a0B rs i n).filter fun b => !l.any fun c => decide (c = b)
  | 0, _ => by simp [a0B]
  | n + 1, hn => by rw [a1L, a1L, List.filter_append, a7n h n (by omega), bar_at h (by omega)]
theorem bar_to : ∀ n, n ≤ rs.length → a0P (a1U rs l) n = (a0P rs n).filter fun b => !l.any fun c => decide (c = b)
  | 0, _ => by simp [a0P]
  | n + 1, hn => by
    have e : (plOf (a1U rs l) n).length = (plOf rs n).length := by rw [a7o (by omega), List.length_map, List.length_range]
    rw [a17, a17, List.filter_append, bar_to n (by omega), e, a7n (by omega) _ (Nat.le_refl _)]
theorem bar_v : a1x (a1U rs l) = (a1x rs).filter fun b => !l.any fun c => decide (c = b) := by
  unfold a1x; rw [a2F]; exact bar_to _ (Nat.le_refl _)
theorem a7p (F : Few rs) : Few (a1U rs l) := ⟨by rw [a2F]; exact F.len, fun i hi => by rw [a2F] at hi; rw [a7o hi, List.length_map, List.length_range]; exact F.pl i hi⟩
end
theorem bX (a b : T3) : eqX 2 (barD a) (barD b) = some (decide (a = b)) := by
  obtain ⟨a1, a2, a3⟩ := a
  obtain ⟨b1, b2, b3⟩ := b
  show (some ((a1 : Int) == (b1 : Int))).bind (fun b => ((some ((a2 : Int) == (b2 : Int))).bind fun b' => ((some ((a3 : Int) == (b3 : Int))).bind fun b2 => (some true).bind fun c => some (b2 && c)).bind fun c => some (b' && c)).bind fun c => some (b && c)) = _
  simp only [Option.bind_some, Bool.and_true]
  congr 1
  rw [Bool.eq_iff_iff, decide_eq_true_iff, Bool.and_eq_true, Bool.and_eq_true, beq_iff_eq, beq_iff_eq, beq_iff_eq]
  constructor
  · rintro ⟨h1, h2, h3⟩
    rw [show a1 = b1 by omega, show a2 = b2 by omega, show a3 = b3 by omega]
  · intro h
    injection h with h1 h
    injection h with h2 h3
    exact ⟨by omega, by omega, by omega⟩
theorem inXb (a : T3) : ∀ l : List T3, inX 2 (barD a) (l.map barD) = some (l.any fun c => decide (c = a))
  | [] => rfl
  | b :: l => by
    show (eqX 2 (barD b) (barD a)).bind (fun x => (inX 2 (barD a) (l.map barD)).bind fun c => some (x || c)) = _
    rw [bX, inXb a l]; rfl
theorem notin_e (a : T3) (l : List T3) : dInX true 2 (barD a) (.lst (l.map barD)) = okB (!l.any fun c => decide (c = a)) := by
  show (inX 2 (barD a) (l.map barD)).bind _ = _
  rw [inXb]; rfl
end Bell
namespace Bell
open PySem L3
theorem bars_mem {rs : List Rw} {b : T3} (h : b ∈ a1x rs) : b.2.2 < rs.length := by
  unfold a1x a0P a0B a2w a2a at h
  obtain ⟨i, _, h⟩ := List.mem_flatMap.mp h
  obtain ⟨p, _, h⟩ := List.mem_flatMap.mp h
  obtain ⟨c, hc, rfl⟩ := List.mem_map.mp h
  exact (a2J.mp (List.mem_filter.mp (List.mem_filter.mp hc).1).1).2
theorem pn_list {l : List T3} (h : l.length ≤ 1000) : Pn 2 (.lst (l.map barD)) := by
  refine .lst 1 _ (fun d hd => ?_) (by rw [List.length_map]; exact Nat.le_trans h (by decide))
  obtain ⟨b, _, rfl⟩ := List.mem_map.mp hd
  refine .tup 0 _ (fun d hd => ?_) (by show 3 ≤ lim; decide)
  have : d = .int b.1 ∨ d = .int b.2.1 ∨ d = .int b.2.2 := by simpa using hd
  rcases this with rfl | rfl | rfl <;> exact .int 0 _
theorem a6L {n : Nat} (vs : List Int) (h : vs.length ≤ 1000) : Pn (n + 1) (.tup (vs.map D.int)) := .tup n _ (fun d hd => by obtain ⟨i, _, rfl⟩ := List.mem_map.mp hd; exact .int n i) (by rw [List.length_map]; exact Nat.le_trans h (by decide))
theorem pn_deed {bs : List Bx} (hb : a28 bs) {dd : Deed} (ok : dd.Ok bs) : Pn 2 dd.d := by
  have three : ∀ {a b c : D}, Pn 1 a → Pn 1 b → Pn 1 c → Pn 2 (.tup [a, b, c]) := fun h1 h2 h3 => .tup 1 _ (fun d hd => by
    rcases List.mem_cons.mp hd with rfl | hd
    · exact h1
    · rcases List.mem_cons.mp hd with rfl | hd
      · exact h2
      · rw [List.mem_singleton.mp hd]; exact h3) (by show 3 ≤ lim; decide)
  have four : ∀ {a b c e : D}, Pn 1 a → Pn 1 b → Pn 1 c → Pn 1 e → Pn 2 (.tup [a, b, c, e]) := fun h1 h2 h3 h4 => .tup 1 _ (fun d hd => by
    rcases List.mem_cons.mp hd with rfl | hd
    · exact h1
    · rcases List.mem_cons.mp hd with rfl | hd
      · exact h2
      · rcases List.mem_cons.mp hd with rfl | hd
        · exact h3
        · rw [List.mem_singleton.mp hd]; exact h4) (by show 4 ≤ lim; decide)
  have two : ∀ {a b : D}, Pn 1 a → Pn 1 b → Pn 2 (.tup [a, b]) := fun h1 h2 => .tup 1 _ (fun d hd => by
    rcases List.mem_cons.mp hd with rfl | hd
    · exact h1
    · rw [List.mem_singleton.mp hd]; exact h2) (by show 2 ≤ lim; decide)
  cases dd with
  | put x ns => exact three (.str _ _) (.int _ _) (a6L ns (by rw [ok.2.1]; have := szB_12 hb ok.1; omega))
  | copy x y => exact three (.str _ _) (.int _ _) (.int _ _)
  | grow x n => exact three (.str _ _) (.int _ _) (.int _ _)
  | tick x => exact two (.str _ _) (.int _ _)
  | still n => exact two (.str _ _) (.int _ _)
  | iz x y n => exact four (.str _ _) (.int _ _) (.int _ _) (.int _ _)
  | most x y n => exact four (.str _ _) (.int _ _) (.int _ _) (.int _ _)
  | non x => exact two (.str _ _) (.int _ _)
  | anew x y t => exact four (.str _ _) (.int _ _) (.int _ _) (.int _ _)
theorem pn_pl {bs : List Bx} (hb : a28 bs) {p : Pl} (ok : p.1.Ok bs) : Pn 3 (plD p) := .tup 2 _ (fun d hd => by
    rcases List.mem_cons.mp hd with rfl | hd
    · exact pn_deed hb ok
    · rw [List.mem_singleton.mp hd]; exact .int _ _) (by show 2 ≤ lim; decide)
theorem pn_row {bs : List Bx} (hb : a28 bs) {r : Rw} (hl : r.pl.length ≤ 1000) (ok : ∀ p ∈ r.pl, p.1.Ok bs) : Pn 5 r.d := .tup 4 _ (fun d hd => by
    rcases List.mem_cons.mp hd with rfl | hd
    · exact .str _ _
    · rcases List.mem_cons.mp hd with rfl | hd
      · exact .int _ _
      · rw [List.mem_singleton.mp hd]
        exact .tup 3 _ (fun d hd => by obtain ⟨p, hp, rfl⟩ := List.mem_map.mp hd; exact pn_pl hb (ok p hp)) (by rw [List.length_map]; exact Nat.le_trans hl (by decide))) (by show 3 ≤ lim; decide)
theorem pn_boxes {bs : List Bx} (hb : a28 bs) : Pn 3 (a0E bs) := .tup 2 _ (fun d hd => by
    obtain ⟨b, h, rfl⟩ := List.mem_map.mp hd
    refine .tup 1 _ (fun d hd => ?_) (by show 2 ≤ lim; decide)
    rcases List.mem_cons.mp hd with rfl | hd
    · exact .str _ _
    · rw [List.mem_singleton.mp hd]; exact a6L _ (by have := (hb.2 b h).2.1; omega)) (by rw [List.length_map]; exact Nat.le_trans hb.1 (by decide))
theorem pn_prog {bs : List Bx} (hb : a28 bs) {rs : List Rw} (hn : rs.length ≤ 1000) (ok : ∀ r ∈ rs, r.pl.length ≤ 1000 ∧ ∀ p ∈ r.pl, p.1.Ok bs) : Pn 7 (a0W bs rs) := .tup 6 _ (fun d hd => by
    rcases List.mem_cons.mp hd with rfl | hd
    · exact (pn_boxes hb).mono (by decide)
    · rw [List.mem_singleton.mp hd]
      exact .tup 5 _ (fun d hd => by obtain ⟨r, hr, rfl⟩ := List.mem_map.mp hd; exact pn_row hb (ok r hr).1 (ok r hr).2) (by rw [List.length_map]; exact Nat.le_trans hn (by decide))) (by show 2 ≤ lim; decide)
theorem a6M {bs : List Bx} {rs : List Rw} {bells : Nat} (P : a5f bs rs bells 5) (F : Few rs) (l : List T3) : Pn 7 (a0W bs (a1U rs l)) := by
  refine pn_prog P.box (by rw [a2F]; have := F.len; omega) fun r hr => ?_
  obtain ⟨i, hi, rfl⟩ := List.mem_map.mp hr
  have hi := List.mem_range.mp hi
  refine ⟨?_, fun p hp => ?_⟩
  · show ((List.range (plOf rs i).length).map _).length ≤ 1000
    rw [List.length_map, List.length_range]; have := F.pl i hi; omega
  · obtain ⟨j, hj, rfl⟩ := List.mem_map.mp hp
    have hj := List.mem_range.mp hj
    show ((plOf rs i).getD j p0').1.Ok bs
    rw [List.getD_eq_getElem?_getD, List.getElem?_eq_getElem hj, Option.getD_some]
    have hm : (plOf rs i)[j] ∈ plOf rs i := List.getElem_mem hj
    have hr : rs.getD i r0 ∈ rs := by rw [List.getD_eq_getElem?_getD, List.getElem?_eq_getElem hi, Option.getD_some]; exact List.getElem_mem hi
    exact ((P.row _ hr).2.2 _ hm).1
theorem sIx_nat (n d i : Nat) (h : i ≤ n) : sIxD n d (some (i : Int)) = i := by
  show (if (i : Int) < 0 then ((i : Int) + (n : Int)).toNat else min (i : Int).toNat n) = i
  rw [if_neg (by omega), Int.toNat_natCast]; omega
theorem cut_drop (ds : List D) (i : Nat) (h : i ≤ ds.length) : cutD ds (some (i : Int)) none = ds.drop i := by
  unfold cutD
  rw [sIx_nat _ _ _ h]
  show (ds.drop i).take (ds.length - i) = _
  rw [List.take_of_length_le (by rw [List.length_drop]; exact Nat.le_refl _)]
theorem cut_take (ds : List D) (i : Nat) (h : i ≤ ds.length) : cutD ds none (some (i : Int)) = ds.take i := by
  unfold cutD
  rw [sIx_nat _ _ _ h]
  show (ds.drop 0).take (i - 0) = _
  rw [List.drop_zero, Nat.sub_zero]
theorem some_ok {ns : List Int} {rs : List Rw} (F : Few rs) {y : Nat} (hy : y < 5) {p : D} : ∃ (l : List T3) (s2 : S), (s2 = .own (.lst (l.map barD)) ∨ s2 = .sh (.lst (l.map barD))) ∧ (∀ b ∈ l, b ∈ a1x rs) ∧ l.length ≤ 1000 ∧
    t_law_3 [some (.sh (.lst (ns.map D.int))), some (.sh p), some (.sh (.lst ((a1x rs).map barD))), some (.sh (.int y)), none, none, none, none, none, none, none] = a6C [some (.sh (.lst (ns.map D.int))), some (.sh p), some s2, some (.sh (.int y)), none, none, none, none, none, none, none] := by
  have h588 := F.lim (Nat.le_refl _)
  have h588 : (a1x rs).length ≤ 588 := h588
  by_cases c0 : y = 0
  · exact ⟨[], .own (.lst []), .inl rfl, fun b hb => (nomatch hb), Nat.zero_le _, a0b (if_t (a0e rfl rfl (eq_t (by omega))) (a0t rfl)) (a0b (if_f (a0e rfl rfl (gt_f (by omega))) rfl) rfl)⟩
  · by_cases c1 : y = 1
    · exact ⟨a1x rs, .sh (.lst ((a1x rs).map barD)), .inr rfl, fun b hb => hb, by omega, a0b (if_f (a0e rfl rfl (eq_f (by omega))) rfl) (a0b (if_f (a0e rfl rfl (gt_f (by omega))) rfl) rfl)⟩
    · have hlen : dLen (.lst ((a1x rs).map barD)) = okI ((a1x rs).length : Int) := by rw [a3v, List.length_map]
      have hc : a07 [9] (a0O (a0o (f1 dLen) [(eAny 2)])) (a0C 9) (eBin dGt (eBin dMod (a0g a0i [(eVar 0), (eBin dAdd (eC (.int 300)) (eVar 9))]) (eC (.int 3))) (eC (.int 0))) (eBin dIx (eVar 2) (eVar 9)) [some (.sh (.lst (ns.map D.int))), some (.sh p), some (.sh (.lst ((a1x rs).map barD))), some (.sh (.int y)), none, none, none, none, none, none, none] =
          okL (((List.range (a1x rs).length).filter fun k : Nat => decide (0 < mixV ns (300 + (k : Int)) % 3)).map fun k => barD ((a1x rs).getD k (0, 0, 0))) := by
        refine a2U (List.range (a1x rs).length) (fun k : Nat => D.int k) _ _ ?_ (by rw [List.length_range]; exact Nat.le_trans h588 (by decide)) fun k hk => ?_
        · rw [← rng0]; exact a1s (lenB (a6w rfl) hlen) (a01 (by omega))
        · have hk := List.mem_range.mp hk
          refine ⟨_, rfl, a0e (a0e (a05 rfl (a0e rfl rfl rfl) (a0Q (by omega) (by omega))) rfl (a0p (by decide))) rfl (gt_d _ _), fun _ => ⟨.sh (barD ((a1x rs).getD k (0, 0, 0))), a0e rfl rfl (a3J ?_), rfl⟩⟩
          rw [List.getElem?_map, List.getElem?_eq_getElem hk, List.getD_eq_getElem?_getD, List.getElem?_eq_getElem hk]; rfl
      refine ⟨((List.range (a1x rs).length).filter fun k : Nat => decide (0 < mixV ns (300 + (k : Int)) % 3)).map fun k => (a1x rs).getD k (0, 0, 0), .own (.lst (((List.range (a1x rs).length).filter fun k : Nat => decide (0 < mixV ns (300 + (k : Int)) % 3)).map fun k => barD ((a1x rs).getD k (0, 0, 0)))), .inl (by rw [List.map_map]; rfl), fun b hb => ?_, ?_, a0b (if_f (a0e rfl rfl (eq_f (by omega))) rfl) (a0b (if_t (a0e rfl rfl (gt_t (by omega))) (a1K (a0t hc))) rfl)⟩
      · obtain ⟨k, hk, rfl⟩ := List.mem_map.mp hb
        have hk := List.mem_range.mp (List.mem_filter.mp hk).1
        rw [List.getD_eq_getElem?_getD, List.getElem?_eq_getElem hk, Option.getD_some]
        exact List.getElem_mem hk
      · rw [List.length_map]
        refine Nat.le_trans (List.length_filter_le _ _) ?_
        rw [List.length_range]; omega
theorem order_ok {ns : List Int} {l : List T3} (hl : l.length ≤ 1000) {y : Nat} (hy : y < 5) {p : D} : ∃ (l' : List T3) (s4 : S) (e8 : Option S), (s4 = .own (.lst (l'.map barD)) ∨ s4 = .sh (.lst (l'.map barD))) ∧ (∀ b, b ∈ l' ↔ b ∈ l) ∧ l'.length ≤ 1000 ∧
    t_law_6 [some (.sh (.lst (ns.map D.int))), some (.sh p), some (.sh (.lst (l.map barD))), some (.sh (.int y)), some (.own (.lst (l.map barD))), none, none, none, none, none, none] = a6B [some (.sh (.lst (ns.map D.int))), some (.sh p), some (.sh (.lst (l.map barD))), some (.sh (.int y)), some s4, none, none, none, e8, none, none] := by
  have hlen : dLen (.lst (l.map barD)) = okI (l.length : Int) := by rw [a3v, List.length_map]
  by_cases c : y = 2 ∨ y = 1
  · refine ⟨l.reverse, .own (.lst (l.map barD).reverse), none, .inl (by rw [List.map_reverse]), fun b => List.mem_reverse, by rw [List.length_reverse]; exact hl, a0b (if_t ?_ (a1K (a0t (un_e rfl rfl)))) (a0b (if_f (a3V (a0e rfl rfl (eq_f (by omega)))) rfl) rfl)⟩
    by_cases c2 : y = 2
    · exact or_t (a0e rfl rfl (eq_t (by omega)))
    · exact or_f (a0e rfl rfl (eq_f (by omega))) (a0e rfl rfl (eq_t (by omega)))
  · have hf := or_f (a := eBin dEq (eVar 3) (eC (.int 2))) (b := eBin dEq (eVar 3) (eC (.int 1))) (ρ := [some (.sh (.lst (ns.map D.int))), some (.sh p), some (.sh (.lst (l.map barD))), some (.sh (.int y)), some (.own (.lst (l.map barD))), none, none, none, none, none, none]) (a0e rfl rfl (eq_f (by omega))) (a0e rfl rfl (eq_f (by omega)))
    by_cases c3 : y = 3 ∧ 0 < l.length
    · have m := a0Q (ns := ns) (k := 299) (by decide) (by decide)
      have b := a2D (ns := ns) (k := 299)
      obtain ⟨i, hi⟩ : ∃ i : Nat, mixV ns 299 % (l.length : Int) = i := ⟨(mixV ns 299 % (l.length : Int)).toNat, by have := Int.emod_nonneg (mixV ns 299) (b := (l.length : Int)) (by omega); omega⟩
      have hil : i < l.length := by have := Int.emod_lt_of_pos (mixV ns 299) (b := (l.length : Int)) (by omega); omega
      have hmod : dMod (.int (mixV ns 299)) (.int (l.length : Int)) = okI (i : Int) := by rw [a0p (by omega), hi]
      refine ⟨l.drop i ++ l.take i, .own (.lst ((l.map barD).drop i ++ (l.map barD).take i)), some (.sh (.int i)), .inl (by rw [List.map_append, List.map_drop, List.map_take]), fun b => ?_, ?_, a0b (if_f hf rfl) (a0b (if_t (a2G (a0e rfl rfl (eq_t (by omega))) (a0e (lenB (a6w rfl) hlen) rfl (gt_t (by omega)))) (a0b (a0t (a0e (a05 rfl rfl m) (lenB (a6w rfl) hlen) hmod)) (a1K (a0t (a0e (s := .own (.lst ((l.map barD).drop i))) (t := .own (.lst ((l.map barD).take i))) ?_ ?_ (a60 ?_)))))) rfl)⟩
      · rw [List.mem_append]
        constructor
        · rintro (h | h)
          · exact List.mem_of_mem_drop h
          · exact List.mem_of_mem_take h
        · intro h
          rw [← List.take_append_drop i l] at h
          exact (List.mem_append.mp h).symm
      · rw [List.length_append, List.length_drop, List.length_take]; omega
      · show okL (cutD (l.map barD) (some (i : Int)) none) = _
        rw [cut_drop _ _ (by rw [List.length_map]; omega)]
      · show okL (cutD (l.map barD) none (some (i : Int))) = _
        rw [cut_take _ _ (by rw [List.length_map]; omega)]
      · rw [List.length_drop, List.length_take, List.length_map]; exact Nat.le_trans (by omega : _ ≤ 1000) (by decide)
    · refine ⟨l, .own (.lst (l.map barD)), none, .inl rfl, fun b => Iff.rfl, hl, a0b (if_f hf rfl) (a0b (if_f ?_ rfl) rfl)⟩
      by_cases c4 : y = 3
      · exact a2G (a0e rfl rfl (eq_t (by omega))) (a0e (lenB (a6w rfl) hlen) rfl (gt_f (by omega)))
      · exact a3V (a0e rfl rfl (eq_f (by omega)))
theorem a6J {ns : List Int} {bs : List Bx} {rs : List Rw} (F : Few rs) (l : List T3) {ρ : MEnv} (h1 : ρ[1]? = some (some (.sh (a0W bs rs)))) (h2 : (a0R [10] ρ)[2]? = some (some (.sh (.lst (l.map barD))))) (hl : 10 < (a0R [10] ρ).length) :
    a07 [10] (iSeq (a0g a02 [(eVar 1)])) (a0C 10) (eBin (dInX true 2) (eVar 10) (eVar 2)) (eVar 10) ρ = okL (((a1x rs).filter fun b => !l.any fun c => decide (c = b)).map barD) :=
  a2U (a1x rs) barD (fun b => !l.any fun c => decide (c = b)) barD (a64 (a1T (a2x h1) (a3H F)) rfl) (Nat.le_trans (F.lim (Nat.le_refl _)) (by decide)) fun b _ =>
    ⟨_, rfl, a0e (a2x (List.getElem?_set_self hl)) (a2x (by rw [List.getElem?_set_ne (by decide)]; exact h2)) (notin_e b l), fun _ => ⟨_, a2x (List.getElem?_set_self hl), rfl⟩⟩
theorem a6I {ns : List Int} {bs : List Bx} {rs : List Rw} {bells : Nat} (P : a5f bs rs bells 5) (F : Few rs) {l l' : List T3} (fb : FewB l) (fb' : FewB l') (lsame : ∀ b, b ∈ l' ↔ b ∈ l) {y : Nat} {e8 : Option S} :
    (sSeq (sSet 5 (a0g (f1 a30) [(eVar 4)])) t_law_9) [some (.sh (.lst (ns.map D.int))), some (.sh (a0W bs rs)), some (.sh (.lst (l.map barD))), some (.sh (.int y)), some (.sh (.lst (l'.map barD))), none, none, none, e8, none, none] = some (.ret (.sh (.bl true))) := by
  have eb' := a7m (bs := bs) F fb'
  rw [a6s lsame] at eb'
  have eb := a4w (bs := bs) F fb
  have al1 := a3i (a6M P F l) (by decide)
  have al2 := a3i (pn_list fb'.1) (by decide)
  have ebo := a6r (bs := bs) (a7p (l := l) F)
  have al3 : a0m [.lst ((a1x (a1U rs l)).map barD), .lst (((a1x rs).filter fun b => !l.any fun c => decide (c = b)).map barD)] = okB true := by
    rw [← bar_v]
    exact a3i (bars_pn (a7p F)) (by decide)
  refine a0b (a0t (a1T rfl rfl)) (a1K (a0b (a0t (a05 rfl rfl eb')) (a1K (a0b (a0t (a05 rfl rfl eb)) (a1K (a1K (a0b (if_f (or_f (not_t (a05 rfl rfl al1)) (not_t (a05 rfl rfl al2))) rfl) (a1K (a1P (a05 (a1T rfl ebo) (a6J (ns := ns) F l rfl rfl (by show 10 < 11; decide)) al3))))))))))
theorem law_true (ns : List Int) (_ : ns.length ≤ 63) : f_law [.lst (ns.map D.int)] = some (.ok (.sh (.bl true))) := by
  have m1 := a0Q (ns := ns) (k := 1) (by decide) (by decide)
  have b1 := a2D (ns := ns) (k := 1)
  have m0 := a0Q (ns := ns) (k := 0) (by decide) (by decide)
  have b0 := a2D (ns := ns) (k := 0)
  obtain ⟨bells, hb⟩ : ∃ b : Nat, mixV ns 1 % 7 = b := ⟨(mixV ns 1 % 7).toNat, by omega⟩
  obtain ⟨y, hy⟩ : ∃ b : Nat, mixV ns 0 % 5 = b := ⟨(mixV ns 0 % 5).toNat, by omega⟩
  obtain ⟨bs, rs, hp, P⟩ := a58 ns (bells := bells) (longest := 5) (rest := 9) (by omega) (by decide) (by decide)
  have F := P.few (by omega) (by decide)
  have h7 := F.len
  obtain ⟨l, s2, h2, lsub, lle, et3⟩ := some_ok (ns := ns) F (y := y) (by omega) (p := a0W bs rs)
  obtain ⟨l', s4, e8, h4, lsame, lle', et6⟩ := order_ok (ns := ns) lle (y := y) (by omega) (p := a0W bs rs)
  have fb : FewB l := ⟨lle, fun b hb => by have := bars_mem (lsub b hb); omega⟩
  have fb' : FewB l' := ⟨lle', fun b hb => fb.2 b ((lsame b).mp hb)⟩
  have e8' : a6B [some (.sh (.lst (ns.map D.int))), some (.sh (a0W bs rs)), some (.sh (.lst (l.map barD))), some (.sh (.int y)), some s4, none, none, none, e8, none, none] = some (.ret (.sh (.bl true))) := by
    rcases h4 with rfl | rfl
    · exact a1K (a6I P F fb fb' lsame)
    · exact a1K (a6I P F fb fb' lsame)
  have e5 : a6C [some (.sh (.lst (ns.map D.int))), some (.sh (a0W bs rs)), some s2, some (.sh (.int y)), none, none, none, none, none, none, none] = some (.ret (.sh (.bl true))) := by
    rcases h2 with rfl | rfl
    · exact a1K (a0b (a0t (a1T rfl rfl)) (et6.trans e8'))
    · exact a1K (a0b (a0t (a1T rfl rfl)) (et6.trans e8'))
  refine a1O rfl (a0b (a0t (a7k (s2 := .sh (.int bells)) rfl (a0e (a05 rfl rfl m1) rfl ?_) rfl rfl hp)) (a0b (a0t (a1T rfl (a3H F))) (a0b (a0t (s := .sh (.int y)) (a0e (a05 rfl rfl m0) rfl ?_)) (et3.trans e5))))
  · rw [S.val_sh, S.val_sh, a0p (by decide), hb]
  · rw [S.val_sh, S.val_sh, a0p (by decide), hy]
end Bell
set_option maxHeartbeats 8000000
namespace Bell
open PySem PySem.Spec PyProof.Rows L2 L3
def top (i : Nat) : Stmt := PySem.Challenge.pw_bellnest_k71_barred.main.body.getD i (.Pass ⟨0, 0, 0, 0⟩)
abbrev a1B : Stmt := top 10
def a5w : List Str := ["_law_found", "_law_due", "_law_k"]
def a13 : List Str := ["_law_found", "_law_due"]
abbrev a1n : Stmt := top 12
def a41 : List Str := ["_law_program_here", "_law_bars_here", "_law_rows", "_law_at", "_law_row_here", "_law_places", "_law_place", "_law_word", "_law_bar"]
def a1I : List Str := ["_law_program_here", "_law_bars_here"]
abbrev a1W : Stmt := top 11
def a6e : List Str := ["_law_program_here", "_law_rows", "_law_bars_here", "_law_row_here", "_law_place", "_law_word", "_law_bell"]
def a2n : List Str := ["_law_program_here"]
abbrev a1z : Stmt := top 4
def a5u : List Str := ["_law_script", "_law_k", "_law_cell", "_law_v"]
def a0V : List Str := ["_law_script", "_law_k"]
abbrev a1m : Stmt := top 5
def a40 : List Str := ["_law_script", "_law_k", "_law_a", "_law_b"]
def a1p : List Str := ["_law_script", "_law_k"]
abbrev a1A : Stmt := top 6
def a5v : List Str := ["_law_script", "_law_size", "_law_many", "_law_boxes_here", "_law_x", "_law_at", "_law_starts", "_law_other"]
def a12 : List Str := ["_law_script"]
abbrev a1V : Stmt := top 7
def a6d : List Str := ["_law_script", "_law_k", "_law_boxes_here", "_law_rest", "_law_kind", "_law_pick", "_law_n", "_law_x", "_law_size", "_law_mates", "_law_mate", "_law_tallies", "_law_gap", "_law_y", "_law_t"]
def a2m : List Str := ["_law_script", "_law_k", "_law_boxes_here", "_law_rest"]
abbrev a2j : Stmt := top 8
def a6U : List Str := ["_law_script", "_law_k", "_law_boxes_here", "_law_bells", "_law_longest", "_law_rest", "_law_places", "_law_p", "_law_at", "_law_word", "_law_shut"]
def a2B : List Str := ["_law_script", "_law_k", "_law_boxes_here", "_law_bells", "_law_longest", "_law_rest"]
abbrev a1b : Stmt := top 9
def a4u : List Str := ["_law_script", "_law_bells", "_law_longest", "_law_rest", "_law_boxes_here", "_law_rows", "_law_b", "_law_at", "_law_rank"]
def a1t : List Str := ["_law_script", "_law_bells", "_law_longest", "_law_rest"]
abbrev a2H : Stmt := top 2
def n_barred : List Str := ["program", "bars", "words", "bar", "rows", "number", "row", "places", "place", "told"]
def a2Y : List Str := ["program", "bars"]
abbrev a2k : Stmt := top 1
def a6V : List Str := ["program", "rows", "found", "number", "row", "above", "place", "told", "bell"]
def a2C : List Str := ["program"]
abbrev a5i : Stmt := top 13
def n_law : List Str := ["_law_script", "_law_program_here", "_law_some", "_law_way", "_law_order", "_law_handed", "_law_found", "_law_due", "_law_first", "_law_k", "_law_bar"]
def p_law : List Str := ["_law_script"]
structure Blt (mg : Str → Option Value) : Prop where
  abs : mg "abs" = none
  all : mg "all" = none
  bool : mg "bool" = none
  enumerate : mg "enumerate" = none
  int : mg "int" = none
  isinstance : mg "isinstance" = none
  len : mg "len" = none
  list : mg "list" = none
  range : mg "range" = none
  reversed : mg "reversed" = none
  str : mg "str" = none
  tuple : mg "tuple" = none
structure Defs (K : PySem.W.Frag) (mg : Str → Option Value) (cls : String → Addr) : Prop where
  L_law_alike : Laid K mg "_law_alike" a1B a13
  L_law_barred : Laid K mg "_law_barred" a1n a1I
  L_law_bars : Laid K mg "_law_bars" a1W a2n
  L_law_mixed : Laid K mg "_law_mixed" a1z a0V
  L_law_number : Laid K mg "_law_number" a1m a1p
  L_law_boxes : Laid K mg "_law_boxes" a1A a12
  L_law_deed : Laid K mg "_law_deed" a1V a2m
  L_law_row : Laid K mg "_law_row" a2j a2B
  L_law_program : Laid K mg "_law_program" a1b a1t
  L_barred : Laid K mg "barred" a2H a2Y
  L_bars_of : Laid K mg "bars_of" a2k a2C
  L_law : Laid K mg "law" a5i p_law
seal PySem.wpAny
section
variable {P : Program} {w : World} {K : PySem.W.Frag} {mg : Str → Option Value} {base : Heap} {cls : String → Addr}
theorem a3k : FnScope a5w a13 (defScope a1B) := ⟨rfl, rfl, rfl, by decide +kernel, rfl, by decide +kernel, by decide +kernel⟩
theorem a4X (L : Laid K mg "_law_alike" a1B a13) (Z : Blt mg)  : FnN P w K mg base ⟨K, cls⟩ 9 "_law_alike" a13 a0m :=
  a6m (k := 1) L a3k (fun f G j hj hG cdv A outer s H E hr =>
 (a0c (a0Z (PWD.pt (a3l (a2r (a2Q rfl (a3I _) rfl Z.isinstance rfl Z.tuple L3.a1w (a0a (pv 1)))) (a2A (a2r (a2Q rfl (a4x _) rfl Z.isinstance rfl Z.list L3.a3Q (a0a (pv 1)))))))
 (a0c (a0Z (PWD.pt (a1k (a2r (a2Q rfl (a3I _) rfl Z.isinstance rfl Z.tuple L3.a1w (a0a (pv 1)))) (a1c (a4o (a2r (a2Q rfl (a3I _) rfl Z.isinstance rfl Z.tuple L3.a1w (a0a (pv 0))))))))
 (a0j (a0z pd_bl))
 a0r)
 (a0c (a0Z (PWD.pt (a1k (a2r (a2Q rfl (a4x _) rfl Z.isinstance rfl Z.list L3.a3Q (a0a (pv 1)))) (a1c (a4o (a2r (a2Q rfl (a4x _) rfl Z.isinstance rfl Z.list L3.a3Q (a0a (pv 0))))))))
 (a0j (a0z pd_bl))
 a0r)
 (a0c (a0Z (a0l a37 (a0K (a09 rfl) rfl Z.len PySem.boot_len (a0w (a0D (pv 0)) a0L)) (a0K (a09 rfl) rfl Z.len PySem.boot_len (a0w (a0D (pv 1)) a0L)))
 (a0j (a0z pd_bl))
 a0r)
 (a0j (a0z (pd_blt (cd_all rfl rfl) rfl Z.all L3.bt_all (a1G (pd_comp (js := [2]) (vars := [".0", "_law_k"]) (a16 2) (by rfl) (by rfl) rfl (a00 rfl Z.range (a0K (a09 rfl) rfl Z.len PySem.boot_len (a0w (a0D (pv 1)) a0L))) (fun _ _ _ _ => (pbN a3k.nd rfl)) (fun _ _ _ _ => (a1d hG hr rfl (padS (a0s (ixd rfl) (a0a (pv 0)) (a0a (pv 2))) (padS (a0s (ixd rfl) (a0a (pv 1)) (a0a (pv 2))) a0f))))) a0f)))))))
 a0r)
 (a0c (a0Z (ptd_isN (a0a (pv 1)))
 (a0j (a0z (pd_isN (a0a (pv 0)))))
 a0r)
 (a0c (a0Z (a2r (a2Q rfl (a61 _) rfl Z.isinstance rfl Z.str L3.bt_str (a0a (pv 1))))
 (a0j (a0z (a6S (a2Q rfl (a61 _) rfl Z.isinstance rfl Z.str L3.bt_str (a0a (pv 0))) (pd_one (a6R a0M (a0a (pv 0)) (a0a (pv 1)))))))
 a0r)
 (a0j (a0z (a6S (a2Q rfl (kit_int _) rfl Z.isinstance rfl Z.int L3.bt_int (a0a (pv 0))) (a6S (pd_not (a2Q rfl (kit_bool _) rfl Z.isinstance rfl Z.bool L3.bt_bool (a0a (pv 0)))) (pd_one (a6R a0M (a0a (pv 0)) (a0a (pv 1)))))))))))) 8
theorem a0H : FnScope a41 a1I (defScope a1n) := ⟨rfl, rfl, rfl, by decide +kernel, rfl, by decide +kernel, by decide +kernel⟩
theorem a4t (L : Laid K mg "_law_barred" a1n a1I) (Z : Blt mg)  : FnN P w K mg base ⟨K, cls⟩ 1 "_law_barred" a1I a0U :=
  a2h (k := 0) L a0H fun f cdv A outer s H E hr =>
 (a0c (psS (i := 2) a0H.nd rfl (a1N a0f))
 (a0c (a1C PassesOwn.never rfl (a00 rfl Z.range (a0K (a09 rfl) rfl Z.len PySem.boot_len (a0w (PD.look (a0s (ixd rfl) (a0a (pv 0)) a0d)) a0L))) (pbN a0H.nd rfl)
 (a0c (psS (i := 4) a0H.nd rfl (a0s (ixd rfl) (a0s (ixd rfl) (a0a (pv 0)) a0d) (a0a (pv 3))))
 (a0c (psS (i := 5) a0H.nd rfl (a1N a0f))
 (a0c (a1C PassesOwn.never rfl (a00 rfl Z.range (a0K (a09 rfl) rfl Z.len PySem.boot_len (a0w (PD.look (a0s (ixd rfl) (a0a (pv 4)) a0d)) a0L))) (pbN a0H.nd rfl)
 (a0c (psS (i := 7) a0H.nd rfl (a0s (ixd rfl) (a0s (ixd rfl) (a0s (ixd rfl) (a0a (pv 4)) a0d) (a0a (pv 6))) a0d))
 (a0c (a1C PassesOwn.never rfl (a4p rfl (a0a (pv 1))) (pbN a0H.nd rfl)
 (a0j (a0Z (PWD.pt (a1k (a0l a0M (a0s (ixd rfl) (a0a (pv 8)) a0d) (a0a (pv 3))) (a1c (a0l a0M (a0s (ixd rfl) (a0a (pv 8)) a0d) (a0a (pv 6))))))
 (a0j (psS (i := 7) a0H.nd rfl (a0k a5r (a0a (pv 7)) (a0k a4r a0d (a0s (ixd rfl) (a0a (pv 8)) a0d)))))
 a0r)))
 (a0j (a1o (i := 5) (pv 5) (a08 (padS (a0s (ixd rfl) (a0s (ixd rfl) (a0s (ixd rfl) (a0a (pv 4)) a0d) (a0a (pv 6))) a0d) (padN (a0a (pv 7)) a0f))))))))
 (a0y (i := 5) (a0j (a1o (i := 2) (pv 2) (a08 (padS (a0s (ixd rfl) (a0a (pv 4)) a0d) (padS (a0s (ixd rfl) (a0a (pv 4)) a0d) (padK (a3B (a2e rfl) rfl Z.tuple L3.a1w (padN (a0a (pv 5)) a0f)) a0f)))))))))))
 (a0y (i := 2) (a0j (a0z (a08 (padS (a0s (ixd rfl) (a0a (pv 0)) a0d) (padK (a3B (a2e rfl) rfl Z.tuple L3.a1w (padN (a0a (pv 2)) a0f)) a0f))))))))
theorem a1j : FnScope a6e a2n (defScope a1W) := ⟨rfl, rfl, rfl, by decide +kernel, rfl, by decide +kernel, by decide +kernel⟩
theorem a5t (L : Laid K mg "_law_bars" a1W a2n) (Z : Blt mg)  : FnN P w K mg base ⟨K, cls⟩ 1 "_law_bars" a2n a02 :=
  a2h (k := 0) L a1j fun f cdv A outer s H E hr =>
 (a0c (psS (i := 1) a1j.nd rfl (a0s (ixd rfl) (a0a (pv 0)) a0d))
 (a0c (psS (i := 2) a1j.nd rfl (a1N a0f))
 (a0c (a1C PassesOwn.never rfl (a00 rfl Z.range (a0K (a09 rfl) rfl Z.len PySem.boot_len (a0w (a0D (pv 1)) a0L))) (pbN a1j.nd rfl)
 (a0j (a1C PassesOwn.never rfl (a00 rfl Z.range (a0K (a09 rfl) rfl Z.len PySem.boot_len (a0w (PD.look (a0s (ixd rfl) (a0s (ixd rfl) (a0a (pv 1)) (a0a (pv 3))) a0d)) a0L))) (pbN a1j.nd rfl)
 (a0c (psS (i := 5) a1j.nd rfl (a0s (ixd rfl) (a0s (ixd rfl) (a0s (ixd rfl) (a0s (ixd rfl) (a0a (pv 1)) (a0a (pv 3))) a0d) (a0a (pv 4))) a0d))
 (a0j (a1C PassesOwn.never rfl (a36 rfl Z.range a0d (a0K (a09 rfl) rfl Z.len PySem.boot_len (a0w (a0D (pv 1)) a0L))) (pbN a1j.nd rfl)
 (a0j (a0Z (PWD.pt (a1k (a0l a2Z (a0s (ixd rfl) (a0s (ixd rfl) (a0a (pv 1)) (a0a (pv 6))) a0d) (a0s (ixd rfl) (a0s (ixd rfl) (a0a (pv 1)) (a0a (pv 3))) a0d)) (a1c (a0l a0M (a0k a0v (a0k a2s (a0a (pv 5)) (a0k a4r a0d (a0a (pv 6)))) a0d) a0d))))
 (a0j (a1o (i := 2) (pv 2) (a08 (padN (a0a (pv 3)) (padN (a0a (pv 4)) (padN (a0a (pv 6)) a0f))))))
 a0r))))))))
 (a0y (i := 2) (a0j (a0z (a0a (pv 2))))))))
theorem a2d : FnScope a5u a0V (defScope a1z) := ⟨rfl, rfl, rfl, by decide +kernel, rfl, by decide +kernel, by decide +kernel⟩
theorem a4V (L : Laid K mg "_law_mixed" a1z a0V) (Z : Blt mg)  : FnN P w K mg base ⟨K, cls⟩ 1 "_law_mixed" a0V a0i :=
  a2h (k := 0) L a2d fun f cdv A outer s H E hr =>
 (a0c (psS (i := 2) a2d.nd rfl a0d)
 (a0c (a0Z (a0l a2Z (a0K (a09 rfl) rfl Z.len PySem.boot_len (a0w (a0D (pv 0)) a0L)) a0d)
 (a0j (psS (i := 2) a2d.nd rfl (a0s (ixd rfl) (a0a (pv 0)) (a0k a0v (a0a (pv 1)) (a0K (a09 rfl) rfl Z.len PySem.boot_len (a0w (a0D (pv 0)) a0L))))))
 a0r)
 (a0c (psS (i := 3) a2d.nd rfl (a0k a0v (a0k (a0A rfl) (a0k (a0A rfl) (a0k a14 (a0k a0v (a0a (pv 2)) a0d) a0d) (a0k a14 (a0k a14 (a0a (pv 1)) (a0a (pv 1))) a0d)) a0d) a0d))
 (a0j (a0z (a0k a0v (a0k a14 (a0a (pv 3)) (a0a (pv 3))) a0d))))))
theorem a2q : FnScope a40 a1p (defScope a1m) := ⟨rfl, rfl, rfl, by decide +kernel, rfl, by decide +kernel, by decide +kernel⟩
theorem a4s (L : Laid K mg "_law_number" a1m a1p) (Z : Blt mg) (H_law_mixed : FnN P w K mg base ⟨K, cls⟩ 1 "_law_mixed" a0V a0i) : FnN P w K mg base ⟨K, cls⟩ 2 "_law_number" a1p a0n :=
  a2h (k := 1) L a2q fun f cdv A outer s H E hr =>
 (a0c (psS (i := 2) a2q.nd rfl (a1d H_law_mixed (hr.mono (by first | decide | omega)) rfl (padN (a0a (pv 0)) (padN (a0a (pv 1)) a0f))))
 (a0c (psS (i := 3) a2q.nd rfl (a1d H_law_mixed (hr.mono (by first | decide | omega)) rfl (padN (a0a (pv 0)) (padB (a0k (a0A rfl) (a0a (pv 1)) a0d) a0f))))
 (a0c (a0Z (a0l a0M (a0k a0v (a0a (pv 2)) a0d) a0d)
 (a0j (a0z (a0k a4q (a0k a0v (a0a (pv 3)) a0d) a0d)))
 a0r)
 (a0c (a0Z (a0l a0M (a0k a0v (a0a (pv 2)) a0d) a0d)
 (a0j (a0z (a0s (ixd rfl) (a1N (padB (a0k a5q a0d a0d) (padU (pd_usub (a0k a5q a0d a0d)) a0f))) (a0k a0v (a0a (pv 3)) a0d))))
 a0r)
 (a0j (a0z (a0k a4q (a0k a0v (a0k (a0A rfl) (a0k a14 (a0a (pv 2)) a0d) (a0a (pv 3))) a0d) a0d)))))))
theorem a0T : FnScope a5v a12 (defScope a1A) := ⟨rfl, rfl, rfl, by decide +kernel, rfl, by decide +kernel, by decide +kernel⟩
theorem a4W (L : Laid K mg "_law_boxes" a1A a12) (Z : Blt mg) (H_law_mixed : FnN P w K mg base ⟨K, cls⟩ 1 "_law_mixed" a0V a0i) (H_law_number : FnN P w K mg base ⟨K, cls⟩ 2 "_law_number" a1p a0n) : FnN P w K mg base ⟨K, cls⟩ 3 "_law_boxes" a12 a2v :=
  a2h (k := 2) L a0T fun f cdv A outer s H E hr =>
 (a0c (psS (i := 1) a0T.nd rfl (a0k (a0A rfl) a0d (a0k a0v (a1d H_law_mixed (hr.mono (by first | decide | omega)) rfl (padN (a0a (pv 0)) (padC a0d a0f))) a0d)))
 (a0c (psS (i := 2) a0T.nd rfl (a1d H_law_mixed (hr.mono (by first | decide | omega)) rfl (padN (a0a (pv 0)) (padC a0d a0f))))
 (a0c (psS (i := 2) a0T.nd rfl (a0s (ixd rfl) (a1N (padB (a0k a0v (a0k a2s (a0a (pv 2)) a0d) a0d) (padB (a0k (a0A rfl) a0d (a0k a0v (a0k a2s (a0a (pv 2)) a0d) a0d)) a0f))) (a3B cd_int rfl Z.int L3.bt_int (a1G (a6R a0M (a0k a0v (a0a (pv 2)) a0d) a0d) a0f))))
 (a0c (psS (i := 3) a0T.nd rfl (a1N a0f))
 (a0c (a1C PassesOwn.never rfl (a00 rfl Z.range (a0a (pv 2))) (pbN a0T.nd rfl)
 (a0c (psS (i := 5) a0T.nd rfl (a0k (a0A rfl) (a0k (a0A rfl) a0d (a0k a14 a0d (a0a (pv 4)))) (a0k a14 a0d (a0k a2s (a0a (pv 4)) a0d))))
 (a0c (psS (i := 6) a0T.nd rfl (a1N (padK (a1d H_law_number (hr.mono (by first | decide | omega)) rfl (padN (a0a (pv 0)) (padN (a0a (pv 5)) a0f))) a0f)))
 (a0c (psS (i := 7) a0T.nd rfl (a0k a0v (a1d H_law_mixed (hr.mono (by first | decide | omega)) rfl (padN (a0a (pv 0)) (padB (a0k (a0A rfl) (a0a (pv 5)) a0d) a0f))) a0d))
 (a0c (a0Z (PWD.pt (a3l (PWD.pt (a1k (a0l a0M (a0a (pv 1)) a0d) (a1c (a0l a2Z (a0a (pv 7)) (a0s (ixd rfl) (a1N (padC a0d (padC a0d (padC a0d a0f)))) (a0k a0v (a0a (pv 4)) a0d)))))) (a2A (PWD.pt (a1k (a0l a0M (a0a (pv 1)) a0d) (a1c (a0l a0M (a0a (pv 7)) a0d)))))))
 (a0j (a1o (i := 6) (pv 6) (a1d H_law_number (hr.mono (by first | decide | omega)) rfl (padN (a0a (pv 0)) (padB (a0k (a0A rfl) (a0a (pv 5)) a0d) a0f)))))
 a0r)
 (a0y (i := 6) (a0j (a1o (i := 3) (pv 3) (a08 (padS (a0s (ixd rfl) a2l (a0a (pv 4))) (padK (a3B (a2e rfl) rfl Z.tuple L3.a1w (padN (a0a (pv 6)) a0f)) a0f)))))))))))
 (a0y (i := 3) (a0j (a0z (a3B (a2e rfl) rfl Z.tuple L3.a1w (padN (a0a (pv 3)) a0f))))))))))
theorem a0F : FnScope a6d a2m (defScope a1V) := ⟨rfl, rfl, rfl, by decide +kernel, rfl, by decide +kernel, by decide +kernel⟩
theorem a5s (L : Laid K mg "_law_deed" a1V a2m) (Z : Blt mg) (H_law_mixed : FnN P w K mg base ⟨K, cls⟩ 1 "_law_mixed" a0V a0i) (H_law_number : FnN P w K mg base ⟨K, cls⟩ 2 "_law_number" a1p a0n) : FnN P w K mg base ⟨K, cls⟩ 3 "_law_deed" a2m a1F :=
  a2h (k := 2) L a0F fun f cdv A outer s H E hr =>
 (a0c (psS (i := 4) a0F.nd rfl (a0k a0v (a1d H_law_mixed (hr.mono (by first | decide | omega)) rfl (padN (a0a (pv 0)) (padN (a0a (pv 1)) a0f))) a0d))
 (a0c (psS (i := 5) a0F.nd rfl (a1d H_law_mixed (hr.mono (by first | decide | omega)) rfl (padN (a0a (pv 0)) (padB (a0k (a0A rfl) (a0a (pv 1)) a0d) a0f))))
 (a0c (psS (i := 6) a0F.nd rfl (a1d H_law_number (hr.mono (by first | decide | omega)) rfl (padN (a0a (pv 0)) (padB (a0k (a0A rfl) (a0a (pv 1)) a0d) a0f))))
 (a0c (a0Z (PWD.pt (a3l (a0l a0M (a0K (a09 rfl) rfl Z.len PySem.boot_len (a0w (a0D (pv 2)) a0L)) a0d) (a2A (a0l a0M (a0a (pv 4)) a0d))))
 (a0j (a0z (a08 (padC a2l (padB (a0k (a0A rfl) a0d (a0k a0v (a0a (pv 5)) (a0a (pv 3)))) a0f)))))
 a0r)
 (a0c (psS (i := 7) a0F.nd rfl (a0k a0v (a0a (pv 5)) (a0K (a09 rfl) rfl Z.len PySem.boot_len (a0w (a0D (pv 2)) a0L))))
 (a0c (psS (i := 8) a0F.nd rfl (a0K (a09 rfl) rfl Z.len PySem.boot_len (a0w (PD.look (a0s (ixd rfl) (a0s (ixd rfl) (a0a (pv 2)) (a0a (pv 7))) a0d)) a0L)))
 (a0c (a3c (i := 9) a0F.nd rfl (by first | exact Or.inl rfl | exact Or.inr rfl) (js := [13]) (vars := [".0", "_law_y"]) (a16 13) (by rfl) (by rfl) rfl (a00 rfl Z.range (a0K (a09 rfl) rfl Z.len PySem.boot_len (a0w (a0D (pv 2)) a0L))) (fun _ _ _ _ => (pbN a0F.nd rfl)) (fun _ _ _ _ => (PWD.pt (a1k (a0l a37 (a0a (pv 13)) (a0a (pv 7))) (a1c (a0l a0M (a0K (a09 rfl) rfl Z.len PySem.boot_len (a0w (PD.look (a0s (ixd rfl) (a0s (ixd rfl) (a0a (pv 2)) (a0a (pv 13))) a0d)) a0L)) (a0a (pv 8))))))) (fun _ _ _ _ => (a0a (pv 13))))
 (a0y (i := 9) (a0c (psS (i := 10) a0F.nd rfl (a0s (ixd rfl) (a0k (a0A rfl) (a0a (pv 9)) (a1N (padN (a0a (pv 7)) a0f))) (a0k a0v (a1d H_law_mixed (hr.mono (by first | decide | omega)) rfl (padN (a0a (pv 0)) (padB (a0k (a0A rfl) (a0a (pv 1)) a0d) a0f))) (a0k (a0A rfl) (a0K (a09 rfl) rfl Z.len PySem.boot_len (a0w (a0D (pv 9)) a0L)) a0d))))
 (a0c (a0Z (PWD.pt (a3l (a0l a0M (a0a (pv 4)) a0d) (a2A (a0l a0M (a0a (pv 4)) a0d))))
 (a0c (psS (i := 12) a0F.nd rfl (a0k a4q (a0s (ixd rfl) (a0s (ixd rfl) (a0s (ixd rfl) (a0a (pv 2)) (a0a (pv 7))) a0d) a0d) (a0s (ixd rfl) (a0s (ixd rfl) (a0s (ixd rfl) (a0a (pv 2)) (a0a (pv 10))) a0d) a0d)))
 (a0c (a0Z (PWD.pt (a1k (a0l a2Z (a0k a0v (a0k a2s (a0a (pv 5)) a0d) a0d) a0d) (a1c (a0l opd_le (pd_blt cd_abs rfl Z.abs L3.bt_abs (padN (a0a (pv 12)) a0f)) (a0k a5q a0d a0d)))))
 (a0j (psS (i := 6) a0F.nd rfl (a0a (pv 12))))
 a0r)
 (a0j (a0z (a08 (padS (a0s (ixd rfl) (a1N (padC a2l (padC a2l a0f))) (a0k a4q (a0a (pv 4)) a0d)) (padN (a0a (pv 7)) (padN (a0a (pv 10)) (padN (a0a (pv 6)) a0f)))))))))
 a0r)
 (a0c (a0Z (PWD.pt (a1k (a0l a0M (a0a (pv 4)) a0d) (a1c (a0l a37 (a0a (pv 10)) (a0a (pv 7))))))
 (a0j (a0z (a08 (padC a2l (padN (a0a (pv 7)) (padN (a0a (pv 10)) a0f))))))
 a0r)
 (a0c (a0Z (PWD.pt (a3l (a0l a0M (a0a (pv 4)) a0d) (a2A (PWD.pt (a1k (a0l a0M (a0a (pv 4)) a0d) (a1c (a0l a0M (a0a (pv 8)) a0d)))))))
 (a0j (a0z (a08 (padC a2l (padN (a0a (pv 7)) (padN (a0a (pv 6)) a0f))))))
 a0r)
 (a0c (a0Z (a0l a0M (a0a (pv 4)) a0d)
 (a0j (a0z (a08 (padC a2l (padN (a0a (pv 7)) a0f)))))
 a0r)
 (a0c (a0Z (PWD.pt (a3l (a0l a0M (a0a (pv 4)) a0d) (a2A (a0l a0M (a0a (pv 4)) a0d))))
 (a0j (a0z (a08 (padC a2l (padN (a0a (pv 7)) a0f)))))
 a0r)
 (a0c (a3c (i := 11) a0F.nd rfl (by first | exact Or.inl rfl | exact Or.inr rfl) (js := [14]) (vars := [".0", "_law_t"]) (a16 14) (by rfl) (by rfl) rfl (a00 rfl Z.range (a0K (a09 rfl) rfl Z.len PySem.boot_len (a0w (a0D (pv 2)) a0L))) (fun _ _ _ _ => (pbN a0F.nd rfl)) (fun _ _ _ _ => (PWD.pt (a1k (a0l a37 (a0a (pv 14)) (a0a (pv 7))) (a1k (a0l a37 (a0a (pv 14)) (a0a (pv 10))) (a1c (a0l a0M (a0K (a09 rfl) rfl Z.len PySem.boot_len (a0w (PD.look (a0s (ixd rfl) (a0s (ixd rfl) (a0a (pv 2)) (a0a (pv 14))) a0d)) a0L)) a0d)))))) (fun _ _ _ _ => (a0a (pv 14))))
 (a0c (a0Z (PWD.pt (a1k (a0l a0M (a0a (pv 4)) a0d) (a1k (a0l a37 (a0a (pv 10)) (a0a (pv 7))) (a1c (a0l a2Z (a0K (a09 rfl) rfl Z.len PySem.boot_len (a0w (a0D (pv 11)) a0L)) a0d)))))
 (a0y (i := 11) (a0j (a0z (a08 (padC a2l (padN (a0a (pv 7)) (padN (a0a (pv 10)) (padS (a0s (ixd rfl) (a0a (pv 11)) (a0k a0v (a0k a2s (a0a (pv 5)) a0d) (a0K (a09 rfl) rfl Z.len PySem.boot_len (a0w (a0D (pv 11)) a0L)))) a0f))))))))
 a0r)
 (a0c (a0Z (a0l a0M (a0a (pv 8)) a0d)
 (a0j (a0z (a08 (padC a2l (padN (a0a (pv 7)) (padT (a08 (padN (a0a (pv 6)) a0f)) a0f))))))
 a0r)
 (a0j (a0z (a08 (padC a2l (padN (a0a (pv 7)) (padT (a08 (padN (a0a (pv 6)) (padK (a1d H_law_number (hr.mono (by first | decide | omega)) rfl (padN (a0a (pv 0)) (padB (a0k (a0A rfl) (a0a (pv 1)) a0d) a0f))) a0f))) a0f)))))))))))))))))))))))
theorem a1y : FnScope a6U a2B (defScope a2j) := ⟨rfl, rfl, rfl, by decide +kernel, rfl, by decide +kernel, by decide +kernel⟩
theorem a6b (L : Laid K mg "_law_row" a2j a2B) (Z : Blt mg) (H_law_deed : FnN P w K mg base ⟨K, cls⟩ 3 "_law_deed" a2m a1F) (H_law_mixed : FnN P w K mg base ⟨K, cls⟩ 1 "_law_mixed" a0V a0i) : FnN P w K mg base ⟨K, cls⟩ 4 "_law_row" a2B a2o :=
  a2h (k := 3) L a1y fun f cdv A outer s H E hr =>
 (a0c (psS (i := 6) a1y.nd rfl (a1N a0f))
 (a0c (a1C PassesOwn.never rfl (a00 rfl Z.range (a0k (a0A rfl) a0d (a0k a0v (a1d H_law_mixed (hr.mono (by first | decide | omega)) rfl (padN (a0a (pv 0)) (padN (a0a (pv 1)) a0f))) (a0a (pv 4))))) (pbN a1y.nd rfl)
 (a0c (psS (i := 8) a1y.nd rfl (a0k (a0A rfl) (a0k (a0A rfl) (a0a (pv 1)) a0d) (a0k a14 a0d (a0a (pv 7)))))
 (a0c (psS (i := 9) a1y.nd rfl a0d)
 (a0c (psS (i := 10) a1y.nd rfl (a1d H_law_mixed (hr.mono (by first | decide | omega)) rfl (padN (a0a (pv 0)) (padB (a0k (a0A rfl) (a0a (pv 8)) a0d) a0f))))
 (a0c (a0Z (a0l a0M (a0k a0v (a0a (pv 10)) a0d) a0d)
 (a0j (psS (i := 9) a1y.nd rfl (a0k a14 a0d (a0k a0v (a0k a2s (a0a (pv 10)) a0d) (a0k a4r a0d (a0a (pv 3)))))))
 a0r)
 (a0j (a1o (i := 6) (pv 6) (a08 (padK (a1d H_law_deed (hr.mono (by first | decide | omega)) rfl (padN (a0a (pv 0)) (padN (a0a (pv 8)) (padN (a0a (pv 2)) (padN (a0a (pv 5)) a0f))))) (padN (a0a (pv 9)) a0f))))))))))
 (a0y (i := 6) (a0j (a0z (a3B (a2e rfl) rfl Z.tuple L3.a1w (padN (a0a (pv 6)) a0f)))))))
theorem a06 : FnScope a4u a1t (defScope a1b) := ⟨rfl, rfl, rfl, by decide +kernel, rfl, by decide +kernel, by decide +kernel⟩
theorem a3X (L : Laid K mg "_law_program" a1b a1t) (Z : Blt mg) (H_law_boxes : FnN P w K mg base ⟨K, cls⟩ 3 "_law_boxes" a12 a2v) (H_law_mixed : FnN P w K mg base ⟨K, cls⟩ 1 "_law_mixed" a0V a0i) (H_law_row : FnN P w K mg base ⟨K, cls⟩ 4 "_law_row" a2B a2o) : FnN P w K mg base ⟨K, cls⟩ 5 "_law_program" a1t a1R :=
  a2h (k := 4) L a06 fun f cdv A outer s H E hr =>
 (a0c (psS (i := 4) a06.nd rfl (a1d H_law_boxes (hr.mono (by first | decide | omega)) rfl (padN (a0a (pv 0)) a0f)))
 (a0c (psS (i := 5) a06.nd rfl (a1N (padT (a08 (padC a2l (padC a0d (padK (a1d H_law_row (hr.mono (by first | decide | omega)) rfl (padN (a0a (pv 0)) (padC a0d (padN (a0a (pv 4)) (padN (a0a (pv 1)) (padN (a0a (pv 2)) (padN (a0a (pv 3)) a0f))))))) a0f)))) a0f)))
 (a0c (a1C PassesOwn.never rfl (a00 rfl Z.range (a0a (pv 1))) (pbN a06.nd rfl)
 (a0c (psS (i := 7) a06.nd rfl (a0k (a0A rfl) a0d (a0k a14 (a0k (a0A rfl) a0d (a0k a14 a0d (a0a (pv 2)))) (a0k (a0A rfl) (a0a (pv 6)) a0d))))
 (a0c (psS (i := 8) a06.nd rfl (a0k (a0A rfl) a0d (a0k a0v (a1d H_law_mixed (hr.mono (by first | decide | omega)) rfl (padN (a0a (pv 0)) (padB (a0k (a0A rfl) (a0a (pv 7)) a0d) a0f))) (a0s (ixd rfl) (a1N (padC a0d (padC a0d a0f))) (a0k a0v (a1d H_law_mixed (hr.mono (by first | decide | omega)) rfl (padN (a0a (pv 0)) (padB (a0k (a0A rfl) (a0a (pv 7)) a0d) a0f))) a0d)))))
 (a0j (a1o (i := 5) (pv 5) (a08 (padS (a0s (ixd rfl) a2l (a0a (pv 6))) (padN (a0a (pv 8)) (padK (a1d H_law_row (hr.mono (by first | decide | omega)) rfl (padN (a0a (pv 0)) (padN (a0a (pv 7)) (padN (a0a (pv 4)) (padN (a0a (pv 1)) (padN (a0a (pv 2)) (padN (a0a (pv 3)) a0f))))))) a0f)))))))))
 (a0y (i := 5) (a0j (a0z (a08 (padN (a0a (pv 4)) (padK (a3B (a2e rfl) rfl Z.tuple L3.a1w (padN (a0a (pv 5)) a0f)) a0f)))))))))
theorem a1Y : FnScope n_barred a2Y (defScope a2H) := ⟨rfl, rfl, rfl, by decide +kernel, rfl, by decide +kernel, by decide +kernel⟩
theorem a6T (L : Laid K mg "barred" a2H a2Y) (Z : Blt mg)  : FnN P w K mg base ⟨K, cls⟩ 1 "barred" a2Y a1S :=
  a2h (k := 0) L a1Y fun f cdv A outer s H E hr =>
 (a0c (psd_dnew (i := 2) a1Y.nd rfl (by first | exact Or.inl rfl | exact Or.inr rfl))
 (a0c (a1C PassesOwn.never rfl (a4p rfl (a0a (pv 1))) (pbN a1Y.nd rfl)
 (a0j (psd_dput (i := 2) (hu_of hr) (pv 2) (a5S (W := W0) rfl (a0a (pv 3)) a3s (a3r a0d)) (a0k a5r (a6Q (i := 2) (hu_of hr) (pv 2) (a5S (W := W0) rfl (a0a (pv 3)) a3s (a3r a0d))) (a0k a4r a0d (a0s (ixd rfl) (a0a (pv 3)) a0d))))))
 (a0c (psS (i := 4) a1Y.nd rfl (a1N a0f))
 (a0c (a1C PassesOwn.never rfl (a3t rfl rfl Z.enumerate (a0s (ixd rfl) (a0a (pv 0)) a0d)) (a3u rfl rfl a1Y.nd rfl rfl (by first | exact Or.inl rfl | exact Or.inr rfl) (by first | exact Or.inl rfl | exact Or.inr rfl))
 (a0c (psd_comp (i := 7) a1Y.nd rfl (by first | exact Or.inl rfl | exact Or.inr rfl) (js := [8, 9]) (vars := [".0", "place", "told"]) (bdIn_tup [8, 9]) (by rfl) (by rfl) rfl (a3t rfl rfl Z.enumerate (a0s (ixd rfl) (a0a (pv 6)) a0d)) (fun _ _ _ _ => (a3u rfl rfl a1Y.nd rfl rfl (by first | exact Or.inl rfl | exact Or.inr rfl) (by first | exact Or.inl rfl | exact Or.inr rfl))) (fun _ _ _ _ => (a08 (padS (a0s (ixd rfl) (a0a (pv 9)) a0d) (padB (a0k a5r (a0s (ixd rfl) (a0a (pv 9)) a0d) (a6Q (i := 2) (hu_of hr) (pv 2) (pk_tup (W := W0) (padN (a0a (pv 5)) (padN (a0a (pv 8)) a0f))))) a0f)))))
 (a0y (i := 7) (a0j (a1o (i := 4) (pv 4) (a08 (padS (a0s (ixd rfl) (a0a (pv 6)) a0d) (padS (a0s (ixd rfl) (a0a (pv 6)) a0d) (padK (a3B (a2e rfl) rfl Z.tuple L3.a1w (padN (a0a (pv 7)) a0f)) a0f)))))))))
 (a0y (i := 4) (a0j (a0z (a08 (padS (a0s (ixd rfl) (a0a (pv 0)) a0d) (padK (a3B (a2e rfl) rfl Z.tuple L3.a1w (padN (a0a (pv 4)) a0f)) a0f))))))))))
theorem a1l : FnScope a6V a2C (defScope a2k) := ⟨rfl, rfl, rfl, by decide +kernel, rfl, by decide +kernel, by decide +kernel⟩
theorem a6c (L : Laid K mg "bars_of" a2k a2C) (Z : Blt mg)  : FnN P w K mg base ⟨K, cls⟩ 1 "bars_of" a2C a1u :=
  a2h (k := 0) L a1l fun f cdv A outer s H E hr =>
 (a0c (psS (i := 1) a1l.nd rfl (a0s (ixd rfl) (a0a (pv 0)) a0d))
 (a0c (psS (i := 2) a1l.nd rfl (a1N a0f))
 (a0c (a1C PassesOwn.never rfl (a3t rfl rfl Z.enumerate (a0a (pv 1))) (a3u rfl rfl a1l.nd rfl rfl (by first | exact Or.inl rfl | exact Or.inr rfl) (by first | exact Or.inl rfl | exact Or.inr rfl))
 (a0c (a3c (i := 5) a1l.nd rfl (by first | exact Or.inl rfl | exact Or.inr rfl) (js := [8]) (vars := [".0", "bell"]) (a16 8) (by rfl) (by rfl) rfl (a36 rfl Z.range a0d (a0K (a09 rfl) rfl Z.len PySem.boot_len (a0w (a0D (pv 1)) a0L))) (fun _ _ _ _ => (pbN a1l.nd rfl)) (fun _ _ _ _ => (a0l a2Z (a0s (ixd rfl) (a0s (ixd rfl) (a0a (pv 1)) (a0a (pv 8))) a0d) (a0s (ixd rfl) (a0a (pv 4)) a0d))) (fun _ _ _ _ => (a0a (pv 8))))
 (a0j (a1C PassesOwn.never rfl (a3t rfl rfl Z.enumerate (a0s (ixd rfl) (a0a (pv 4)) a0d)) (a3u rfl rfl a1l.nd rfl rfl (by first | exact Or.inl rfl | exact Or.inr rfl) (by first | exact Or.inl rfl | exact Or.inr rfl))
 (a0y (i := 5) (a0j (a57 (i := 2) rfl (pv 2) (a3C (js := [8]) (vars := [".0", "bell"]) (a16 8) (by rfl) (by rfl) rfl (a4p rfl (a0a (pv 5))) (fun _ _ _ _ => (pbN a1l.nd rfl)) (fun _ _ _ _ => (a0l a0M (a0k opd_band (a0k opd_shr (a0s (ixd rfl) (a0a (pv 7)) a0d) (a0a (pv 8))) a0d) a0d)) (fun _ _ _ _ => (a08 (padN (a0a (pv 3)) (padN (a0a (pv 6)) (padN (a0a (pv 8)) a0f)))))))))))))
 (a0y (i := 2) (a0j (a0z (a0a (pv 2))))))))
theorem a1X : FnScope n_law p_law (defScope a5i) := ⟨rfl, rfl, rfl, by decide +kernel, rfl, by decide +kernel, by decide +kernel⟩
theorem ok_law {f : Addr} {fd : FuncData} (L : Fun K "law" "law" a5i f fd) (Z : Blt mg) (H_law_alike : FnN P w K mg base ⟨K, cls⟩ 9 "_law_alike" a13 a0m) (H_law_barred : FnN P w K mg base ⟨K, cls⟩ 1 "_law_barred" a1I a0U) (H_law_bars : FnN P w K mg base ⟨K, cls⟩ 1 "_law_bars" a2n a02) (H_law_mixed : FnN P w K mg base ⟨K, cls⟩ 1 "_law_mixed" a0V a0i) (H_law_program : FnN P w K mg base ⟨K, cls⟩ 5 "_law_program" a1t a1R) (H_barred : FnN P w K mg base ⟨K, cls⟩ 1 "barred" a2Y a1S) (H_bars_of : FnN P w K mg base ⟨K, cls⟩ 1 "bars_of" a2C a1u) : FnOk P w K mg base CX0 10 f fd p_law (spD ⟨K, cls⟩ W0 f_law) :=
  fn_D (k := 9) L a1X fun cdv A outer s H E hr =>
 (a0c (psS (i := 1) a1X.nd rfl (a1d H_law_program (hr.mono (by first | decide | omega)) rfl (padN (a0a (pv 0)) (padB (a0k a0v (a1d H_law_mixed (hr.mono (by first | decide | omega)) rfl (padN (a0a (pv 0)) (padC a0d a0f))) a0d) (padC a0d (padC a0d a0f))))))
 (a0c (psS (i := 2) a1X.nd rfl (a1d H_law_bars (hr.mono (by first | decide | omega)) rfl (padN (a0a (pv 1)) a0f)))
 (a0c (psS (i := 3) a1X.nd rfl (a0k a0v (a1d H_law_mixed (hr.mono (by first | decide | omega)) rfl (padN (a0a (pv 0)) (padC a0d a0f))) a0d))
 (a0c (a0Z (a0l a0M (a0a (pv 3)) a0d)
 (a0j (psS (i := 2) a1X.nd rfl (a1N a0f)))
 a0r)
 (a0c (a0Z (a0l a2Z (a0a (pv 3)) a0d)
 (a0y (i := 2) (a0j (psS (i := 2) a1X.nd rfl (a3C (js := [9]) (vars := [".0", "_law_k"]) (a16 9) (by rfl) (by rfl) rfl (a00 rfl Z.range (a0K (a09 rfl) rfl Z.len PySem.boot_len (a0w (a0D (pv 2)) a0L))) (fun _ _ _ _ => (pbN a1X.nd rfl)) (fun _ _ _ _ => (a0l a2Z (a0k a0v (a1d H_law_mixed (hr.mono (by first | decide | omega)) rfl (padN (a0a (pv 0)) (padB (a0k (a0A rfl) a0d (a0a (pv 9))) a0f))) a0d) a0d)) (fun _ _ _ _ => (a0s (ixd rfl) (a0a (pv 2)) (a0a (pv 9))))))))
 a0r)
 (a0y (i := 2) (a0c (psS (i := 4) a1X.nd rfl (a3B (a7g rfl) rfl Z.list L3.a3Q (padN (a0a (pv 2)) a0f)))
 (a0c (a0Z (PWD.pt (a3l (a0l a0M (a0a (pv 3)) a0d) (a2A (a0l a0M (a0a (pv 3)) a0d))))
 (a0y (i := 2) (a0j (psS (i := 4) a1X.nd rfl (a59 rfl rfl rfl Z.list rfl Z.reversed (a0a (pv 2))))))
 a0r)
 (a0c (a0Z (PWD.pt (a1k (a0l a0M (a0a (pv 3)) a0d) (a1c (a0l a2Z (a0K (a09 rfl) rfl Z.len PySem.boot_len (a0w (a0D (pv 2)) a0L)) a0d))))
 (a0c (psS (i := 8) a1X.nd rfl (a0k a0v (a1d H_law_mixed (hr.mono (by first | decide | omega)) rfl (padN (a0a (pv 0)) (padC a0d a0f))) (a0K (a09 rfl) rfl Z.len PySem.boot_len (a0w (a0D (pv 2)) a0L))))
 (a0y (i := 2) (a0j (psS (i := 4) a1X.nd rfl (a0k (a0A rfl) (a5T rfl (a0a (pv 2)) (a3r (a0a (pv 8))) a3s) (a5T rfl (a0a (pv 2)) a3s (a3r (a0a (pv 8)))))))))
 a0r)
 (a0y (i := 4) (a0c (psS (i := 5) a1X.nd rfl (a3B (a7g rfl) rfl Z.list L3.a3Q (padN (a0a (pv 4)) a0f)))
 (a0y (i := 5) (a0c (psS (i := 6) a1X.nd rfl (a1d H_barred (hr.mono (by first | decide | omega)) rfl (padN (a0a (pv 1)) (padN (a0a (pv 5)) a0f))))
 (a0y (i := 2) (a0c (psS (i := 7) a1X.nd rfl (a1d H_law_barred (hr.mono (by first | decide | omega)) rfl (padN (a0a (pv 1)) (padN (a0a (pv 2)) a0f))))
 (a0y (i := 5) (a0y (i := 4) (a0c (a0Z (PWD.pt (a3l (a4o (a2r (a1d H_law_alike (hr.mono (by first | decide | omega)) rfl (padN (a0a (pv 6)) (padN (a0a (pv 7)) a0f))))) (a2A (a4o (a2r (a1d H_law_alike (hr.mono (by first | decide | omega)) rfl (padN (a0a (pv 5)) (padN (a0a (pv 4)) a0f))))))))
 (a0j (a0z pd_bl))
 a0r)
 (a0y (i := 2) (a0j (a0z (a1d H_law_alike (hr.mono (by first | decide | omega)) rfl (padK (a1d H_bars_of (hr.mono (by first | decide | omega)) rfl (padN (a0a (pv 6)) a0f)) (a1G (a3C (js := [10]) (vars := [".0", "_law_bar"]) (a16 10) (by rfl) (by rfl) rfl (a4p rfl (a1d H_law_bars (hr.mono (by first | decide | omega)) rfl (padN (a0a (pv 1)) a0f))) (fun _ _ _ _ => (pbN a1X.nd rfl)) (fun _ _ _ _ => (a0l (a6a (n := 2) rfl (hu9_of hr)) (a0a (pv 10)) (a0a (pv 2)) (by with_unfolding_all rfl))) (fun _ _ _ _ => (a0a (pv 10)))) a0f))))))))))))))))))))))))
theorem ok_all (T : Defs K mg cls) (Z : Blt mg) {f : Addr} {fd : FuncData} (L : Fun K "law" "law" a5i f fd) : FnOk P w K mg base CX0 10 f fd p_law (spD ⟨K, cls⟩ W0 f_law) := by
  have h_law_alike := @a4X P w K mg base cls T.L_law_alike Z
  have h_law_barred := @a4t P w K mg base cls T.L_law_barred Z
  have h_law_bars := @a5t P w K mg base cls T.L_law_bars Z
  have h_law_mixed := @a4V P w K mg base cls T.L_law_mixed Z
  have h_law_number := @a4s P w K mg base cls T.L_law_number Z h_law_mixed
  have h_law_boxes := @a4W P w K mg base cls T.L_law_boxes Z h_law_mixed h_law_number
  have h_law_deed := @a5s P w K mg base cls T.L_law_deed Z h_law_mixed h_law_number
  have h_law_row := @a6b P w K mg base cls T.L_law_row Z h_law_deed h_law_mixed
  have h_law_program := @a3X P w K mg base cls T.L_law_program Z h_law_boxes h_law_mixed h_law_row
  have h_barred := @a6T P w K mg base cls T.L_barred Z
  have h_bars_of := @a6c P w K mg base cls T.L_bars_of Z
  exact ok_law L Z h_law_alike h_law_barred h_law_bars h_law_mixed h_law_program h_barred h_bars_of
end
unseal PySem.wpAny
theorem walk {l : PySem.W.OpenLaw} {q : Program} {loose : List Str} {XP : (Str → Option Value) → Heap → Prop} {YP : World → Heap → Prop} {d : DefRec} {K : Params → PySem.W.Frag} (T : ∀ ns : List Int, ns.length ≤ 63 → f_law [.lst (ns.map D.int)] = some (.ok (.sh (.bl true)))) (hn : l.most = some 63) (hdf : d.params.defaults = []) (hdn : d.name = "law")
    (hY : ∀ (w : World) (h : Heap), YP w h → (K w.params).In h) (F : ∀ (w : World) (mg : Str → Option Value) (h : Heap), (K w.params).In h → h.Ns mainGlobals mg → (∃ cls, Defs (K w.params) mg cls) ∧ Blt mg) : PySem.W.WalkO q loose XP YP l.row.toRowW d [] (fun f vs => PySem.call f vs) :=
  law_walk (k := 10) (x := "_law_script") (by decide) hn hdf hY fun w mg fa h KX G hm => by
    obtain ⟨⟨cls, T1⟩, Z⟩ := F w mg h KX G
    obtain ⟨f, fd, Fl, hm2, _⟩ := T1.L_law.ex
    rw [hdn, hm2] at hm
    cases hm
    obtain ⟨oc, od, kV, doc, pm, an, cdv, ct, osl, e, _⟩ := id Fl.ex
    exact ⟨fd, fun s u => by rw [e]; exact .of_eq rfl, fun base => law_sp (cls := cls) (ok_all T1 Z Fl) T⟩
set_option maxHeartbeats 0 in
theorem defs_mk {K : PySem.W.Frag} {h : Heap} {mg : Str → Option Value} (X : K.In h) (G : h.Ns mainGlobals mg)
    {g0 : Addr} {oc0 : Value} {od0 an0 : Option Addr} {sl0 : Array (Option Value)} {kV0 dc0 pm0 cd0 ct0 : Value}
    {g1 : Addr} {oc1 : Value} {od1 an1 : Option Addr} {sl1 : Array (Option Value)} {kV1 dc1 pm1 cd1 ct1 : Value}
    {g2 : Addr} {oc2 : Value} {od2 an2 : Option Addr} {sl2 : Array (Option Value)} {kV2 dc2 pm2 cd2 ct2 : Value}
    {g3 : Addr} {oc3 : Value} {od3 an3 : Option Addr} {sl3 : Array (Option Value)} {kV3 dc3 pm3 cd3 ct3 : Value}
    {g4 : Addr} {oc4 : Value} {od4 an4 : Option Addr} {sl4 : Array (Option Value)} {kV4 dc4 pm4 cd4 ct4 : Value}
    {g5 : Addr} {oc5 : Value} {od5 an5 : Option Addr} {sl5 : Array (Option Value)} {kV5 dc5 pm5 cd5 ct5 : Value}
    {g6 : Addr} {oc6 : Value} {od6 an6 : Option Addr} {sl6 : Array (Option Value)} {kV6 dc6 pm6 cd6 ct6 : Value}
    {g7 : Addr} {oc7 : Value} {od7 an7 : Option Addr} {sl7 : Array (Option Value)} {kV7 dc7 pm7 cd7 ct7 : Value}
    {g8 : Addr} {oc8 : Value} {od8 an8 : Option Addr} {sl8 : Array (Option Value)} {kV8 dc8 pm8 cd8 ct8 : Value}
    {g9 : Addr} {oc9 : Value} {od9 an9 : Option Addr} {sl9 : Array (Option Value)} {kV9 dc9 pm9 cd9 ct9 : Value}
    {g10 : Addr} {oc10 : Value} {od10 an10 : Option Addr} {sl10 : Array (Option Value)} {kV10 dc10 pm10 cd10 ct10 : Value}
    {g11 : Addr} {oc11 : Value} {od11 an11 : Option Addr} {sl11 : Array (Option Value)} {kV11 dc11 pm11 cd11 ct11 : Value}
    (a0 : PySem.W.nsIn K mainGlobals "_law_alike" = some (some (.ref g0)))
    (l0 : K.lookup g0 = some ⟨oc0, od0, .func (PySem.W.fnOf "_law_alike" "_law_alike" (defArgs a1B) (defBody a1B) (defScope a1B) .none kV0 dc0 pm0 an0 cd0 ct0), sl0⟩)
    (c0 : PySem.W.codeIn K cd0 "_law_alike" = true)
    (k0 : PySem.W.keepIn K (.ref g0) = true)
    (a1 : PySem.W.nsIn K mainGlobals "_law_barred" = some (some (.ref g1)))
    (l1 : K.lookup g1 = some ⟨oc1, od1, .func (PySem.W.fnOf "_law_barred" "_law_barred" (defArgs a1n) (defBody a1n) (defScope a1n) .none kV1 dc1 pm1 an1 cd1 ct1), sl1⟩)
    (c1 : PySem.W.codeIn K cd1 "_law_barred" = true)
    (k1 : PySem.W.keepIn K (.ref g1) = true)
    (a2 : PySem.W.nsIn K mainGlobals "_law_bars" = some (some (.ref g2)))
    (l2 : K.lookup g2 = some ⟨oc2, od2, .func (PySem.W.fnOf "_law_bars" "_law_bars" (defArgs a1W) (defBody a1W) (defScope a1W) .none kV2 dc2 pm2 an2 cd2 ct2), sl2⟩)
    (c2 : PySem.W.codeIn K cd2 "_law_bars" = true)
    (k2 : PySem.W.keepIn K (.ref g2) = true)
    (a3 : PySem.W.nsIn K mainGlobals "_law_mixed" = some (some (.ref g3)))
    (l3 : K.lookup g3 = some ⟨oc3, od3, .func (PySem.W.fnOf "_law_mixed" "_law_mixed" (defArgs a1z) (defBody a1z) (defScope a1z) .none kV3 dc3 pm3 an3 cd3 ct3), sl3⟩)
    (c3 : PySem.W.codeIn K cd3 "_law_mixed" = true)
    (k3 : PySem.W.keepIn K (.ref g3) = true)
    (a4 : PySem.W.nsIn K mainGlobals "_law_number" = some (some (.ref g4)))
    (l4 : K.lookup g4 = some ⟨oc4, od4, .func (PySem.W.fnOf "_law_number" "_law_number" (defArgs a1m) (defBody a1m) (defScope a1m) .none kV4 dc4 pm4 an4 cd4 ct4), sl4⟩)
    (c4 : PySem.W.codeIn K cd4 "_law_number" = true)
    (k4 : PySem.W.keepIn K (.ref g4) = true)
    (a5 : PySem.W.nsIn K mainGlobals "_law_boxes" = some (some (.ref g5)))
    (l5 : K.lookup g5 = some ⟨oc5, od5, .func (PySem.W.fnOf "_law_boxes" "_law_boxes" (defArgs a1A) (defBody a1A) (defScope a1A) .none kV5 dc5 pm5 an5 cd5 ct5), sl5⟩)
    (c5 : PySem.W.codeIn K cd5 "_law_boxes" = true)
    (k5 : PySem.W.keepIn K (.ref g5) = true)
    (a6 : PySem.W.nsIn K mainGlobals "_law_deed" = some (some (.ref g6)))
    (l6 : K.lookup g6 = some ⟨oc6, od6, .func (PySem.W.fnOf "_law_deed" "_law_deed" (defArgs a1V) (defBody a1V) (defScope a1V) .none kV6 dc6 pm6 an6 cd6 ct6), sl6⟩)
    (c6 : PySem.W.codeIn K cd6 "_law_deed" = true)
    (k6 : PySem.W.keepIn K (.ref g6) = true)
    (a7 : PySem.W.nsIn K mainGlobals "_law_row" = some (some (.ref g7)))
    (l7 : K.lookup g7 = some ⟨oc7, od7, .func (PySem.W.fnOf "_law_row" "_law_row" (defArgs a2j) (defBody a2j) (defScope a2j) .none kV7 dc7 pm7 an7 cd7 ct7), sl7⟩)
    (c7 : PySem.W.codeIn K cd7 "_law_row" = true)
    (k7 : PySem.W.keepIn K (.ref g7) = true)
    (a8 : PySem.W.nsIn K mainGlobals "_law_program" = some (some (.ref g8)))
    (l8 : K.lookup g8 = some ⟨oc8, od8, .func (PySem.W.fnOf "_law_program" "_law_program" (defArgs a1b) (defBody a1b) (defScope a1b) .none kV8 dc8 pm8 an8 cd8 ct8), sl8⟩)
    (c8 : PySem.W.codeIn K cd8 "_law_program" = true)
    (k8 : PySem.W.keepIn K (.ref g8) = true)
    (a9 : PySem.W.nsIn K mainGlobals "barred" = some (some (.ref g9)))
    (l9 : K.lookup g9 = some ⟨oc9, od9, .func (PySem.W.fnOf "barred" "barred" (defArgs a2H) (defBody a2H) (defScope a2H) .none kV9 dc9 pm9 an9 cd9 ct9), sl9⟩)
    (c9 : PySem.W.codeIn K cd9 "barred" = true)
    (k9 : PySem.W.keepIn K (.ref g9) = true)
    (a10 : PySem.W.nsIn K mainGlobals "bars_of" = some (some (.ref g10)))
    (l10 : K.lookup g10 = some ⟨oc10, od10, .func (PySem.W.fnOf "bars_of" "bars_of" (defArgs a2k) (defBody a2k) (defScope a2k) .none kV10 dc10 pm10 an10 cd10 ct10), sl10⟩)
    (c10 : PySem.W.codeIn K cd10 "bars_of" = true)
    (k10 : PySem.W.keepIn K (.ref g10) = true)
    (a11 : PySem.W.nsIn K mainGlobals "law" = some (some (.ref g11)))
    (l11 : K.lookup g11 = some ⟨oc11, od11, .func (PySem.W.fnOf "law" "law" (defArgs a5i) (defBody a5i) (defScope a5i) .none kV11 dc11 pm11 an11 cd11 ct11), sl11⟩)
    (c11 : PySem.W.codeIn K cd11 "law" = true)
    (k11 : PySem.W.keepIn K (.ref g11) = true)
    (z_abs : PySem.W.nsIn K mainGlobals "abs" = some none)
    (z_all : PySem.W.nsIn K mainGlobals "all" = some none)
    (z_bool : PySem.W.nsIn K mainGlobals "bool" = some none)
    (z_enumerate : PySem.W.nsIn K mainGlobals "enumerate" = some none)
    (z_int : PySem.W.nsIn K mainGlobals "int" = some none)
    (z_isinstance : PySem.W.nsIn K mainGlobals "isinstance" = some none)
    (z_len : PySem.W.nsIn K mainGlobals "len" = some none)
    (z_list : PySem.W.nsIn K mainGlobals "list" = some none)
    (z_range : PySem.W.nsIn K mainGlobals "range" = some none)
    (z_reversed : PySem.W.nsIn K mainGlobals "reversed" = some none)
    (z_str : PySem.W.nsIn K mainGlobals "str" = some none)
    (z_tuple : PySem.W.nsIn K mainGlobals "tuple" = some none) :
    (∃ cls, Defs K mg cls) ∧ Blt mg := by
  let cls : String → Addr := fun _ => 0
  exact ⟨⟨cls, ⟨a1M X G a0 l0 c0 k0 fun _ _ _ _ _ _ us hl => match us, hl with | [_, _], _ => rfl,
    a1M X G a1 l1 c1 k1 fun _ _ _ _ _ _ us hl => match us, hl with | [_, _], _ => rfl,
    a1M X G a2 l2 c2 k2 fun _ _ _ _ _ _ us hl => match us, hl with | [_], _ => rfl,
    a1M X G a3 l3 c3 k3 fun _ _ _ _ _ _ us hl => match us, hl with | [_, _], _ => rfl,
    a1M X G a4 l4 c4 k4 fun _ _ _ _ _ _ us hl => match us, hl with | [_, _], _ => rfl,
    a1M X G a5 l5 c5 k5 fun _ _ _ _ _ _ us hl => match us, hl with | [_], _ => rfl,
    a1M X G a6 l6 c6 k6 fun _ _ _ _ _ _ us hl => match us, hl with | [_, _, _, _], _ => rfl,
    a1M X G a7 l7 c7 k7 fun _ _ _ _ _ _ us hl => match us, hl with | [_, _, _, _, _, _], _ => rfl,
    a1M X G a8 l8 c8 k8 fun _ _ _ _ _ _ us hl => match us, hl with | [_, _, _, _], _ => rfl,
    a1M X G a9 l9 c9 k9 fun _ _ _ _ _ _ us hl => match us, hl with | [_, _], _ => rfl,
    a1M X G a10 l10 c10 k10 fun _ _ _ _ _ _ us hl => match us, hl with | [_], _ => rfl,
    a1M X G a11 l11 c11 k11 fun _ _ _ _ _ _ us hl => match us, hl with | [_], _ => rfl⟩⟩, ⟨PySem.W.mg_none_of X G z_abs, PySem.W.mg_none_of X G z_all, PySem.W.mg_none_of X G z_bool, PySem.W.mg_none_of X G z_enumerate, PySem.W.mg_none_of X G z_int, PySem.W.mg_none_of X G z_isinstance, PySem.W.mg_none_of X G z_len, PySem.W.mg_none_of X G z_list, PySem.W.mg_none_of X G z_range, PySem.W.mg_none_of X G z_reversed, PySem.W.mg_none_of X G z_str, PySem.W.mg_none_of X G z_tuple⟩⟩
end Bell
open PySem PySem.W PyProof.Rows
set_option maxRecDepth 100000 in
set_option maxHeartbeats 0 in
theorem PySem.Challenge.cw_bellnest_k71_barred_holds : PySem.Challenge.rw_bellnest_k71_barred.Holds := by
  w_on; o_law; k_head; (case hw => w_witness2)
  k_fill
  refine Bell.walk (l := PySem.Challenge.rw_bellnest_k71_barred) Bell.law_true rfl rfl rfl (fun w h Y => PySem.W.kIn_of Y) ?F
  case F =>
    intro w mg h KX G
    refine' Bell.defs_mk KX G ?a0 ?l0 ?c0 ?k0 ?a1 ?l1 ?c1 ?k1 ?a2 ?l2 ?c2 ?k2 ?a3 ?l3 ?c3 ?k3 ?a4 ?l4 ?c4 ?k4 ?a5 ?l5 ?c5 ?k5 ?a6 ?l6 ?c6 ?k6 ?a7 ?l7 ?c7 ?k7 ?a8 ?l8 ?c8 ?k8 ?a9 ?l9 ?c9 ?k9 ?a10 ?l10 ?c10 ?k10 ?a11 ?l11 ?c11 ?k11 ?z_abs ?z_all ?z_bool ?z_enumerate ?z_int ?z_isinstance ?z_len ?z_list ?z_range ?z_reversed ?z_str ?z_tuple
    (case a0 => k_is); (case l0 => k_is); (case c0 => k_is); (case k0 => k_is); (case a1 => k_is); (case l1 => k_is)
    (case c1 => k_is); (case k1 => k_is); (case a2 => k_is); (case l2 => k_is); (case c2 => k_is); (case k2 => k_is)
    (case a3 => k_is); (case l3 => k_is); (case c3 => k_is); (case k3 => k_is); (case a4 => k_is); (case l4 => k_is)
    (case c4 => k_is); (case k4 => k_is); (case a5 => k_is); (case l5 => k_is); (case c5 => k_is); (case k5 => k_is)
    (case a6 => k_is); (case l6 => k_is); (case c6 => k_is); (case k6 => k_is); (case a7 => k_is); (case l7 => k_is)
    (case c7 => k_is); (case k7 => k_is); (case a8 => k_is); (case l8 => k_is); (case c8 => k_is); (case k8 => k_is)
    (case a9 => k_is); (case l9 => k_is); (case c9 => k_is); (case k9 => k_is); (case a10 => k_is); (case l10 => k_is)
    (case c10 => k_is); (case k10 => k_is); (case a11 => k_is); (case l11 => k_is); (case c11 => k_is); (case k11 => k_is)
    (case z_abs => k_is); (case z_all => k_is); (case z_bool => k_is); (case z_enumerate => k_is); (case z_int => k_is); (case z_isinstance => k_is)
    (case z_len => k_is); (case z_list => k_is); (case z_range => k_is); (case z_reversed => k_is); (case z_str => k_is); (case z_tuple => k_is)
