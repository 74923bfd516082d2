import PyProof.Rows.All
import Wide.All
import OpenK.AllK
import Wide.FinOn
import Lean
import PyProof.EqAt
import PyProof.EqKinds
import PyProof.TupleCall
import PySem.SetOps
import PySem.Challenge.RW_bellnest_k33_a_paper_is_closed
set_option Elab.async false
set_option linter.all false
set_option maxRecDepth 100000
namespace L2
open PySem PySem.Spec PyProof.Rows
abbrev Key := Sum Int Str
def keyIs : Key → Value → Bool
  | .inl k, v => Value.isInt k v
  | .inr x, v => Value.isStrOf x v
def keyH (w : World) : Key → Int
  | .inl k => hashInt k
  | .inr x => hashStr w x
theorem keyIs_shape : ∀ {k : Key} {v : Value}, keyIs k v = true → (∃ i t, k = Sum.inl i ∧ v = Value.int i t) ∨ (∃ x t, k = Sum.inr x ∧ v = Value.str x t)
  | .inl i, v, h => by
    obtain ⟨t, e⟩ := Value.isInt_shape (k := i) (v := v) h
    exact .inl ⟨i, t, rfl, e⟩
  | .inr x, v, h => by
    obtain ⟨t, e⟩ := Value.isStrOf_shape (x := x) (v := v) h
    exact .inr ⟨x, t, rfl, e⟩
theorem keyIs_int (i : Int) (t : Tok) : keyIs (.inl i) (.int i t) = true := by simp [keyIs, Value.isInt]
theorem keyIs_str (x : Str) (t : Tok) : keyIs (.inr x) (.str x t) = true := by simp [keyIs, Value.isStrOf]
theorem key_ll (a b : Int) : decide ((Sum.inl a : Key) = Sum.inl b) = (a == b) := by
  by_cases e : a = b
  · subst e; simp
  · have h : ¬ (Sum.inl a : Key) = Sum.inl b := fun q => e (Sum.inl.inj q)
    rw [decide_eq_false h]
    exact (beq_eq_false_iff_ne.mpr e).symm
theorem key_rr (a b : Str) : decide ((Sum.inr a : Key) = Sum.inr b) = decide (a = b) := by
  by_cases e : a = b
  · subst e; simp
  · have h : ¬ (Sum.inr a : Key) = Sum.inr b := fun q => e (Sum.inr.inj q)
    rw [decide_eq_false h, decide_eq_false e]
theorem key_lr (a : Int) (b : Str) : decide ((Sum.inl a : Key) = Sum.inr b) = false := decide_eq_false (fun q => nomatch q)
theorem key_rl (a : Str) (b : Int) : decide ((Sum.inr a : Key) = Sum.inl b) = false := decide_eq_false (fun q => nomatch q)
def mixKind (prog : Program) (w : World) : PySem.KeyKind prog w Key where
  is := keyIs
  hash := keyH w
  inj := fun v a b ha hb => by
    rcases keyIs_shape ha with ⟨i, t, rfl, rfl⟩ | ⟨x, t, rfl, rfl⟩
    · rcases keyIs_shape hb with ⟨j, u, rfl, e⟩ | ⟨y, u, rfl, e⟩
      · injection e with e1 _; rw [e1]
      · exact nomatch e
    · rcases keyIs_shape hb with ⟨j, u, rfl, e⟩ | ⟨y, u, rfl, e⟩
      · exact nomatch e
      · injection e with e1 _; rw [e1]
  byValue := fun k v h => by
    rcases keyIs_shape h with ⟨i, t, rfl, rfl⟩ | ⟨x, t, rfl, rfl⟩ <;> rfl
  pyHash := fun hv h => by
    rcases keyIs_shape hv with ⟨i, t, rfl, rfl⟩ | ⟨x, t, rfl, rfl⟩
    · exact wpAny_pyHash_int h
    · exact wpAny_pyHash_str h
  eqBool := fun hu hv h => by
    rcases keyIs_shape hu with ⟨i, t, rfl, rfl⟩ | ⟨x, t, rfl, rfl⟩
    · rcases keyIs_shape hv with ⟨j, u, rfl, rfl⟩ | ⟨y, u, rfl, rfl⟩
      · rw [key_ll] at h; exact wpAny_eqBool_int h
      · rw [key_lr] at h; exact SeqAt.EqAt.int_str i t y u _ _ _ _ h
    · rcases keyIs_shape hv with ⟨j, u, rfl, rfl⟩ | ⟨y, u, rfl, rfl⟩
      · rw [key_rl] at h; exact SeqAt.EqAt.str_int x t j u _ _ _ _ h
      · rw [key_rr] at h; exact wpAny_eqBool_str h
  «strs» := fun k x t v h => by
    rcases keyIs_shape h with ⟨i, u, rfl, e⟩ | ⟨y, u, rfl, e⟩
    · exact nomatch e
    · injection e with e1 _
      subst e1
      cases v <;> rfl
theorem mixKind_int (prog : Program) (w : World) (i : Int) (t : Tok) : (mixKind prog w).is (.inl i) (.int i t) = true := keyIs_int i t
theorem mixKind_str (prog : Program) (w : World) (x : Str) (t : Tok) : (mixKind prog w).is (.inr x) (.str x t) = true := keyIs_str x t
end L2
namespace L2
open PySem PySem.Spec PyProof.Rows
inductive V where
  | non | bl (b : Bool) | int (i : Int) | str (x : Str) | byt (b : Array UInt8) | flt (b : UInt64) | ref (a : Addr) | ty (n : String)
  deriving DecidableEq
def RelV : V → Value → Prop
  | .non, u => u = Value.none
  | .bl b, u => u = Value.bool b
  | .int i, u => ∃ t, u = Value.int i t
  | .str x, u => ∃ t, u = Value.str x t
  | .byt b, u => ∃ t, u = Value.bytes b t
  | .flt b, u => ∃ t, u = Value.float b t
  | .ref a, u => u = Value.ref a
  | .ty n, u => u = Value.type n
abbrev Vals : List V → List Value → Prop := Paired RelV
theorem Vals.length {xs : List V} {us : List Value} (r : Vals xs us) : xs.length = us.length := Paired.length r
theorem Vals.get : ∀ {xs : List V} {us : List Value} {i : Nat} {x : V}, Vals xs us → xs[i]? = some x → ∃ u, us[i]? = some u ∧ RelV x u
  | _, _, _, _, .nil, e => by simp at e
  | _, _, 0, _, .cons r _, e => by simp at e; subst e; exact ⟨_, rfl, r⟩
  | _, _, i + 1, x, .cons _ t, e => by
    obtain ⟨u, h1, h2⟩ := Vals.get (i := i) (x := x) t (by simpa using e)
    exact ⟨u, by simpa using h1, h2⟩
theorem Vals.set {x : V} {u : Value} (r : RelV x u) : ∀ {xs : List V} {us : List Value} (i : Nat), Vals xs us → Vals (xs.set i x) (us.set i u)
  | _, _, _, .nil => .nil
  | _, _, 0, .cons _ t => .cons r t
  | _, _, i + 1, .cons q t => .cons q (Vals.set r i t)
theorem Vals.append : ∀ {xs ys : List V} {us ws : List Value}, Vals xs us → Vals ys ws → Vals (xs ++ ys) (us ++ ws)
  | _, _, _, _, .nil, s => s
  | _, _, _, _, .cons r t, s => .cons r (Vals.append t s)
theorem Vals.take : ∀ {xs : List V} {us : List Value} (n : Nat), Vals xs us → Vals (xs.take n) (us.take n)
  | _, _, 0, _ => .nil
  | _, _, _ + 1, .nil => .nil
  | _, _, n + 1, .cons r t => .cons r (Vals.take n t)
theorem Vals.drop : ∀ {xs : List V} {us : List Value} (n : Nat), Vals xs us → Vals (xs.drop n) (us.drop n)
  | _, _, 0, r => r
  | _, _, _ + 1, .nil => .nil
  | _, _, n + 1, .cons _ t => Vals.drop n t
theorem Vals.none_of : ∀ {xs : List V} {us : List Value} {i : Nat}, Vals xs us → xs[i]? = none → us[i]? = none := fun {xs us i} r e => by
  have h1 := r.length
  have h2 : xs.length ≤ i := List.getElem?_eq_none_iff.mp e
  exact List.getElem?_eq_none_iff.mpr (by omega)
def RelO : Option V → Option Value → Prop
  | some v, some u => RelV v u
  | none, none => True
  | _, _ => False
def KV {κ : Type} : List (κ × V) → List (κ × Value) → Prop := Paired fun (p : κ × V) (q : κ × Value) => p.1 = q.1 ∧ RelV p.2 q.2
def kV : Key → V
  | .inl i => .int i
  | .inr x => .str x
inductive HO where
  | lst (xs : List V)
  | tup (xs : List V)
  | dK (kvs : List (Key × V)) | dT (kvs : List (List Key × V))
  | set (S : Int → Bool) (n : Nat)
  | ins (C dx : Addr) (fs : List (Str × V))
  | own (x : Addr)
  | xd (fs : List (Str × V))
  | met (f x : Addr)
  | rng (lo hi : Int)
  | frz (o : Obj) (u : HO)
  | tbl (ps : Array Value)
  | tab (good : Pos → Option Str)
  | fnc (c : Addr) (q : Str)
  | ext (φ : Heap → Prop)
abbrev Hp := Addr → Option HO
def upd (H : Hp) (a : Addr) (o : HO) : Hp := fun b => if b = a then some o else H b
theorem upd_same {H : Hp} {a : Addr} {o : HO} : upd H a o a = some o := by unfold upd; rw [if_pos rfl]
theorem upd_ne {H : Hp} {a b : Addr} {o : HO} (h : b ≠ a) : upd H a o b = H b := by unfold upd; rw [if_neg h]
theorem ne_of {H : Hp} {a b : Addr} {o u : HO} (h : H a = some o) (h' : H b = some u) (d : o ≠ u) : a ≠ b := by
  intro e; subst e; rw [h] at h'; exact d (Option.some.inj h')
theorem ne_of_none {H : Hp} {a b : Addr} {o : HO} (h : H a = some o) (h' : H b = none) : a ≠ b := by
  intro e; subst e; rw [h] at h'; cases h'
section
variable (P : Program) (w : World)
def ObjOk (H : Hp) (h : Heap) (a : Addr) : HO → Prop
  | .lst xs => xs.length ≤ sizeLine ∧ ∃ (its : List Value) (n : Nat), Vals xs its ∧ h.get? a = some { cls := .type "list", data := .seq its.toArray n }
  | .tup xs => xs.length ≤ sizeLine ∧ ∃ its : List Value, Vals xs its ∧ IsTup h a its.toArray
  | .dK kvs => kvs.length ≤ sizeLine ∧ (a == sysModules) = false ∧ ∃ vs, KV kvs vs ∧ h.DictOf (mixKind P w) a vs
  | .dT kvs => kvs.length ≤ sizeLine ∧ (a == sysModules) = false ∧ ∃ xs : List (List Key × Addr × Value),
      Paired (fun (p : List Key × V) (q : List Key × Addr × Value) => p.1 = q.1 ∧ H q.2.1 = some (.tup (p.1.map kV)) ∧ RelV p.2 q.2.2) kvs xs ∧
      ∃ o es ep, h.get? a = some o ∧ o.ExactDict ∧ o.data = .dict es ep ∧ es.toList = xs.map (entryOfKey (tupleKind (mixKind P w))) ∧ (xs.map (·.1)).Nodup
  | .set S n => h.SetOf (intKind P w) a S n
  | .ins C dx fs => H dx = some (.own a) ∧ fs.length ≤ 1000 ∧ dx ≠ a ∧ h.get? a = some (PySem.W.instObj C dx) ∧
      ∃ mA, h.Ns1 dx mA ∧ (∀ f, RelO (fs.lookup f) (mA f)) ∧ PySem.Within mA (fs.map (·.1))
  | .own _ => ∃ o, h.get? a = some o
  | .xd fs => ∃ mA, h.Ns1 a mA ∧ ∀ f, RelO (fs.lookup f) (mA f)
  | .rng lo hi => ∃ t u v, h.get? a = some { cls := .type "range", data := .fields #[.int lo t, .int hi u, .int 1 v] }
  | .frz o u => h.get? a = some o ∧ ObjOk H h a u
  | .tbl ps => h.get? a = some { cls := .none, data := .fields ps }
  | .tab good => ∃ ps : Array Value, h.get? a = some { cls := .none, data := .fields ps } ∧ TriplesOk ps.toList ∧ ∀ p cv, (good p).isSome = true → codeAmong p ps.toList = some cv → ∃ (c : Addr) (oc : Obj) (q : Str) (vs : Array Value) (t : Tok), cv = .ref c ∧ H c = some (.frz oc (.own c)) ∧ good p = some q ∧ oc.data = .fields vs ∧ vs[1]? = some (.str q t)
  | .fnc c q => (∃ o, h.get? a = some o) ∧ ∃ (oc : Obj) (vs : Array Value) (t : Tok), H c = some (.frz oc (.own c)) ∧ oc.data = .fields vs ∧ vs[1]? = some (.str q t)
  | .met f x => h.get? a = some (PySem.W.methodObj (.ref f) (.ref x))
  | .ext φ => φ h ∧ (∃ o, h.get? a = some o) ∧ ∀ h1 h2 : Heap, φ h1 → (∀ o, h1.get? a = some o → h2.get? a = some o) → φ h2
def HOk (H : Hp) (h : Heap) : Prop := ∀ a o, H a = some o → ObjOk P w H h a o
end
section
variable {P : Program} {w : World} {H H' : Hp} {h h' : Heap} {a : Addr} {o : HO}
theorem ObjOk.lt (x : ObjOk P w H h a o) : a < h.objs.size := by
  cases o with
  | lst xs => obtain ⟨_, _, _, _, e⟩ := x; exact Heap.lt_size e
  | tup xs => obtain ⟨_, _, _, p⟩ := x; exact p.lt
  | dK kvs => obtain ⟨_, _, _, _, o, _, _, e, _⟩ := x; exact Heap.lt_size e
  | dT kvs => obtain ⟨_, _, _, _, o, _, _, e, _⟩ := x; exact Heap.lt_size e
  | set S n => obtain ⟨o, _, _, _, e, _⟩ := x; exact Heap.lt_size e
  | ins C dx fs => obtain ⟨_, _, _, e, _⟩ := x; exact Heap.lt_size e
  | own y => obtain ⟨_, e⟩ := x; exact Heap.lt_size e
  | xd fs => obtain ⟨_, ⟨_, _, _, e, _⟩, _⟩ := x; exact Heap.lt_size e
  | rng lo hi => obtain ⟨_, _, _, e⟩ := x; exact Heap.lt_size e
  | frz ob u => obtain ⟨e, _⟩ := x; exact Heap.lt_size e
  | tbl ps => exact Heap.lt_size (show h.get? a = some _ from x)
  | tab good => obtain ⟨_, e, _⟩ := x; exact Heap.lt_size e
  | fnc c q => obtain ⟨⟨_, e⟩, _⟩ := x; exact Heap.lt_size e
  | met f y => exact Heap.lt_size (show h.get? a = some _ from x)
  | ext φ => obtain ⟨_, ⟨_, e⟩, _⟩ := x; exact Heap.lt_size e
theorem Paired.mapP {α β : Type} {F G : α → β → Prop} : ∀ {l₁ : List α} {l₂ : List β}, Paired F l₁ l₂ → (∀ a b, F a b → G a b) → Paired G l₁ l₂
  | _, _, .nil, _ => .nil
  | _, _, .cons r t, f => .cons (f _ _ r) (Paired.mapP t f)
theorem ObjOk.stay (x : ObjOk P w H h a o) (k : ∀ b u, (b = a ∨ H b = some (.own a)) → h.get? b = some u → h'.get? b = some u)
    (ho : ∀ b, H b = some (.own a) → H' b = some (.own a)) (ht : ∀ b xs, H b = some (.tup xs) → H' b = some (.tup xs)) (hf : ∀ b ob y, H b = some (.frz ob (.own y)) → H' b = some (.frz ob (.own y))) : ObjOk P w H' h' a o := by
  induction o with
  | lst xs => obtain ⟨z, its, n, r, e⟩ := x; exact ⟨z, its, n, r, k _ _ (.inl rfl) e⟩
  | tup xs => obtain ⟨z, its, r, ob, e, c⟩ := x; exact ⟨z, its, r, ob, k _ _ (.inl rfl) e, c⟩
  | dK kvs => obtain ⟨z, y, vs, r, ob, es, ep, e, c⟩ := x; exact ⟨z, y, vs, r, ob, es, ep, k _ _ (.inl rfl) e, c⟩
  | dT kvs =>
    obtain ⟨z, y, xs, r, ob, es, ep, e, c⟩ := x
    exact ⟨z, y, xs, Paired.mapP r fun p q z => ⟨z.1, ht _ _ z.2.1, z.2.2⟩, ob, es, ep, k _ _ (.inl rfl) e, c⟩
  | set S n => obtain ⟨ob, es, ep, t, e, c⟩ := x; exact ⟨ob, es, ep, t, k _ _ (.inl rfl) e, c⟩
  | ins C dx fs =>
    obtain ⟨d, z, ne, e, mA, ⟨od, es, ep, e2, c⟩, r⟩ := x
    exact ⟨ho _ d, z, ne, k _ _ (.inl rfl) e, mA, ⟨od, es, ep, k _ _ (.inr d) e2, c⟩, r⟩
  | own y => obtain ⟨ob, e⟩ := x; exact ⟨ob, k _ _ (.inl rfl) e⟩
  | xd fs => obtain ⟨mA, ⟨od, es, ep, e, c⟩, r⟩ := x; exact ⟨mA, ⟨od, es, ep, k _ _ (.inl rfl) e, c⟩, r⟩
  | rng lo hi => obtain ⟨t, u, v, e⟩ := x; exact ⟨t, u, v, k _ _ (.inl rfl) e⟩
  | frz ob u ih => obtain ⟨e, q⟩ := x; exact ⟨k _ _ (.inl rfl) e, ih q⟩
  | tbl ps =>
    have e : h.get? a = some { cls := .none, data := .fields ps } := x
    show h'.get? a = some { cls := .none, data := .fields ps }
    exact k a _ (.inl rfl) e
  | tab good =>
    obtain ⟨ps, e, tr, q⟩ := x
    refine ⟨ps, k a _ (.inl rfl) e, tr, fun p cv hg hc => ?_⟩
    obtain ⟨c, oc, qq, vs, t, e1, e2, e3⟩ := q p cv hg hc
    exact ⟨c, oc, qq, vs, t, e1, hf _ _ _ e2, e3⟩
  | fnc c q =>
    obtain ⟨⟨ob, e⟩, oc, vs, t, e1, e2⟩ := x
    exact ⟨⟨ob, k _ _ (.inl rfl) e⟩, oc, vs, t, hf _ _ _ e1, e2⟩
  | met f y =>
    have e : h.get? a = some (PySem.W.methodObj (.ref f) (.ref y)) := x
    show h'.get? a = some (PySem.W.methodObj (.ref f) (.ref y))
    exact k a _ (.inl rfl) e
  | ext φ => obtain ⟨p, ⟨o, e⟩, st⟩ := x; exact ⟨st _ _ p fun o q => k _ _ (.inl rfl) q, ⟨o, k _ _ (.inl rfl) e⟩, st⟩
theorem HOk.lt (x : HOk P w H h) (e : H a = some o) : a < h.objs.size := (x a o e).lt
theorem HOk.fresh (x : HOk P w H h) (e : h.objs.size ≤ a) : H a = none := by
  cases q : H a with
  | none => rfl
  | some u => exact absurd (Nat.lt_of_lt_of_le (x.lt q) e) (Nat.lt_irrefl _)
theorem HOk.kept (x : HOk P w H h) (k : ∀ b u, h.get? b = some u → h'.get? b = some u) : HOk P w H h' := fun a o e =>
  (x a o e).stay (fun b u _ q => k b u q) (fun _ q => q) (fun _ _ q => q) fun _ _ _ q => q
theorem HOk.laid (x : HOk P w H h) (k : ∀ b u, h.get? b = some u → h'.get? b = some u) (hp : h.objs.size ≤ a) (new : ObjOk P w (upd H a o) h' a o) : HOk P w (upd H a o) h' := fun b u e => by
  have hn := x.fresh hp
  by_cases hb : b = a
  · subst hb; rw [upd_same] at e; cases e; exact new
  · rw [upd_ne hb] at e
    exact (x b u e).stay (fun c v _ q => k c v q) (fun c q => by rw [upd_ne (ne_of_none q hn)]; exact q) (fun c xs q => by rw [upd_ne (ne_of_none q hn)]; exact q) fun c ob u q => by rw [upd_ne (ne_of_none q hn)]; exact q
end
def Rd (H : Hp) (a : Addr) (u : HO) : Prop := H a = some u ∨ ∃ o, H a = some (.frz o u)
theorem Rd.of {H : Hp} {a : Addr} {u : HO} (h : H a = some u) : Rd H a u := .inl h
theorem Rd.ok {P : Program} {w : World} {H : Hp} {h : Heap} {a : Addr} {u : HO} (r : Rd H a u) (x : HOk P w H h) : ObjOk P w H h a u := by
  rcases r with r | ⟨o, r⟩
  · exact x a u r
  · obtain ⟨_, q⟩ := x a _ r
    exact q
def Mut : Option HO → Prop
  | some (.lst _) => True
  | some (.dK _) => True
  | some (.dT _) => True
  | some (.set _ _) => True
  | some (.ins _ _ _) => True
  | some (.ext _) => True
  | _ => False
section
variable {P : Program} {w : World} {H : Hp} {h h' : Heap} {x e : Addr} {o' : HO}
theorem HOk.write (ok : HOk P w H h) (mu : Mut (H x)) (he : e = x ∨ H e = some (.own x)) (k : ∀ b u, b ≠ e → h.get? b = some u → h'.get? b = some u) (heo : ∃ u, h'.get? e = some u)
    (new : ObjOk P w (upd H x o') h' x o') : HOk P w (upd H x o') h' := fun b u q => by
  have nown : ∀ c y, H c = some (.own y) → c ≠ x := fun c y r z => by subst z; rw [r] at mu; exact mu
  have ntup : ∀ c xs, H c = some (.tup xs) → c ≠ x := fun c xs r z => by subst z; rw [r] at mu; exact mu
  have nfrz : ∀ c ob u, H c = some (.frz ob u) → c ≠ x := fun c ob u r z => by subst z; rw [r] at mu; exact mu
  by_cases hb : b = x
  · subst hb; rw [upd_same] at q; cases q; exact new
  · rw [upd_ne hb] at q
    by_cases hbe : b = e
    · have q' : H b = some (.own x) := by
        rcases he with z | z
        · exact absurd (hbe.trans z) hb
        · rw [hbe]; exact z
      rw [q] at q'; cases q'
      obtain ⟨v, hv⟩ := heo
      exact ⟨v, by rw [hbe]; exact hv⟩
    · refine (ok b u q).stay (fun c v hc r => k c v ?_ r) (fun c r => by rw [upd_ne (nown c b r)]; exact r) (fun c xs r => by rw [upd_ne (ntup c xs r)]; exact r) fun c ob v r => by rw [upd_ne (nfrz c ob _ r)]; exact r
      rcases hc with rfl | hc
      · exact hbe
      · rintro rfl
        rcases he with z | z
        · exact nown c b hc z
        · rw [hc] at z; cases z; exact hb rfl
end
structure Un (fs ex : List Addr) (H H' : Hp) (h h' : Heap) : Prop where
  keep : ∀ b o, h.get? b = some o → H b = none → b ∉ fs → b ∉ ex → h'.get? b = some o
  slot : ∀ b o, h.get? b = some o → H b = none → b ∈ fs → b ∉ ex → ∃ sl, h'.get? b = some { o with slots := sl }
  free : ∀ b o, h.get? b = some o → H b = none → b ∉ ex → H' b = none
  there : ∀ b o, h.get? b = some o → b ∉ ex → ∃ o', h'.get? b = some o'
  tups : ∀ b xs, H b = some (.tup xs) → H' b = some (.tup xs)
  frzs : ∀ b o u, H b = some (.frz o u) → H' b = some (.frz o u)
  tbls : ∀ b ps, H b = some (.tbl ps) → ∃ more, H' b = some (.tbl (ps ++ more))
section
variable {fs fs' ex ex' : List Addr} {H H1 H2 : Hp} {h h1 h2 h' : Heap} {a x e : Addr} {o : HO}
theorem Un.any (u : Un fs ex H H1 h h1) {b : Addr} {ob : Obj} (q : h.get? b = some ob) (n : H b = none) (hx : b ∉ ex) : ∃ sl, h1.get? b = some { ob with slots := sl } := by
  by_cases hb : b ∈ fs
  · exact u.slot b ob q n hb hx
  · exact ⟨ob.slots, u.keep b ob q n hb hx⟩
theorem Un.trans (a : Un fs ex H H1 h h1) (b : Un fs ex H1 H2 h1 h2) : Un fs ex H H2 h h2 where
  keep := fun c ob q n hc hx => b.keep c ob (a.keep c ob q n hc hx) (a.free c ob q n hx) hc hx
  slot := fun c ob q n hc hx => by
    obtain ⟨sl, e1⟩ := a.slot c ob q n hc hx
    obtain ⟨sl', e2⟩ := b.slot c _ e1 (a.free c ob q n hx) hc hx
    exact ⟨sl', e2⟩
  free := fun c ob q n hx => by
    obtain ⟨o', e1⟩ := a.there c ob q hx
    exact b.free c o' e1 (a.free c ob q n hx) hx
  there := fun c ob q hx => by
    obtain ⟨o', e1⟩ := a.there c ob q hx
    exact b.there c o' e1 hx
  tups := fun c xs q => b.tups c xs (a.tups c xs q)
  frzs := fun c ob xs q => b.frzs c ob xs (a.frzs c ob xs q)
  tbls := fun c ps q => by
    obtain ⟨m1, e1⟩ := a.tbls c ps q
    obtain ⟨m2, e2⟩ := b.tbls c _ e1
    exact ⟨m1 ++ m2, by rw [e2, Array.append_assoc]⟩
theorem Un.kept (k : ∀ b u, h.get? b = some u → h'.get? b = some u) : Un fs ex H H h h' :=
  ⟨fun b ob q _ _ _ => k b ob q, fun b ob q _ _ _ => ⟨ob.slots, k b ob q⟩, fun _ _ _ n _ => n, fun b ob q _ => ⟨ob, k b ob q⟩, fun _ _ q => q, fun _ _ _ q => q, fun _ ps q => ⟨#[], by rw [q]; simp⟩⟩
theorem Un.refl : Un fs ex H H h h := Un.kept fun _ _ q => q
theorem Un.laid (k : ∀ b u, h.get? b = some u → h'.get? b = some u) (hp : h.objs.size ≤ a) (hn : H a = none) : Un fs ex H (upd H a o) h h' where
  keep := fun b u q _ _ _ => k b u q
  slot := fun b u q _ _ _ => ⟨u.slots, k b u q⟩
  free := fun b u q n _ => by rw [upd_ne (Nat.ne_of_lt (Nat.lt_of_lt_of_le (Heap.lt_size q) hp))]; exact n
  there := fun b u q _ => ⟨u, k b u q⟩
  tups := fun b xs q => by rw [upd_ne (ne_of_none q hn)]; exact q
  frzs := fun b u xs q => by rw [upd_ne (ne_of_none q hn)]; exact q
  tbls := fun b ps q => ⟨#[], by rw [upd_ne (ne_of_none q hn), q]; simp⟩
theorem Un.write (mu : Mut (H x)) (he : e = x ∨ H e = some (.own x)) (k : ∀ b u, b ≠ e → h.get? b = some u → h'.get? b = some u) (heo : ∃ u, h'.get? e = some u) : Un fs ex H (upd H x o) h h' := by
  have hx : ∀ b, H b = none → b ≠ x := fun b n z => by subst z; rw [n] at mu; exact mu
  have hb : ∀ b, H b = none → b ≠ e := fun b n z => by
    subst z
    rcases he with r | r
    · exact hx b n r
    · rw [n] at r; cases r
  have hm : ∀ b u, H b = some u → ¬ Mut (some u) → b ≠ x := fun b u q nm z => by subst z; rw [q] at mu; exact nm mu
  refine ⟨fun b u q n _ _ => k b u (hb b n) q, fun b u q n _ _ => ⟨u.slots, k b u (hb b n) q⟩, fun b u q n _ => by rw [upd_ne (hx b n)]; exact n, fun b u q _ => ?_,
    fun b xs q => by rw [upd_ne (hm b _ q fun z => z)]; exact q, fun b u xs q => by rw [upd_ne (hm b _ q fun z => z)]; exact q, fun b ps q => ⟨#[], by rw [upd_ne (hm b _ q fun z => z), q]; simp⟩⟩
  by_cases hbe : b = e
  · subst hbe; exact heo
  · exact ⟨u, k b u hbe q⟩
theorem Un.mono (u : Un fs ex H H1 h h1) (hs : ∀ b ∈ fs, b ∈ fs') (hx : ∀ b ∈ ex, b ∈ ex') : Un fs' ex' H H1 h h1 :=
  ⟨fun b ob q n hb he => u.keep b ob q n (fun z => hb (hs b z)) fun z => he (hx b z), fun _ _ q n _ he => u.any q n fun z => he (hx _ z), fun b ob q n he => u.free b ob q n fun z => he (hx b z), fun b ob q he => u.there b ob q fun z => he (hx b z), u.tups, u.frzs, u.tbls⟩
end
def trk (h : Heap) (H : Hp) : List Addr := (List.range h.objs.size).filter fun a => (H a).isSome
def hidT (h : Heap) (H : Hp) : Heap := PySem.W.hideAll h (trk h H)
theorem hidT_size (h : Heap) (H : Hp) : (hidT h H).objs.size = h.objs.size := PySem.W.hideAll_size _ _
theorem hidT_get {h : Heap} {H : Hp} {b : Addr} {o : Obj} (e : h.get? b = some o) (n : H b = none) : (hidT h H).get? b = some o :=
  PySem.W.hideAll_get _ e fun hm => by
    have q : (H b).isSome = true := (List.mem_filter.mp hm).2
    rw [n] at q; simp at q
theorem of_hidT {h : Heap} {H : Hp} {b : Addr} {o : Obj} (e : (hidT h H).get? b = some o) : h.get? b = some o ∧ H b = none := by
  have e' : h.get? b = some o := PySem.W.of_hideAll (trk h H) e
  refine ⟨e', ?_⟩
  cases q : H b with
  | none => rfl
  | some x =>
    have hm : b ∈ trk h H := List.mem_filter.mpr ⟨List.mem_range.mpr (Heap.lt_size e'), by simp [q]⟩
    have z : (hidT h H).get? b = none := PySem.W.hideAll_none (trk h H) hm
    rw [z] at e; cases e
def allNews (g h : Heap) (L : Addr) : List (Addr × Obj) := (List.range h.objs.size).filterMap fun a => if a = L ∨ (g.get? a).isSome = true then none else (h.get? a).map fun o => (a, o)
def rest (g h : Heap) (L d : Addr) : List (Addr × Obj) := (allNews g h L).filter fun p => decide (p.1 ≠ d)
end L2
namespace L2
open PySem PySem.Spec PyProof.Rows
structure Mod (K : PySem.W.Frag) (mg : Str → Option Value) (base : Heap) : Prop where
  kin : K.In base
  glob : base.Ns mainGlobals mg
  blt : ∃ mb, base.Ns builtinsNs mb ∧ ∀ x : Str, x ≠ "__name__" → mb x = bootBuiltins x
  nolimit : base.NoLimit
structure Cx where
  prog : Program
  w : World
  K : PySem.W.Frag
  mg : Str → Option Value
  base : Heap
  A : Around
  N : List Str
  s₀ : Shared
  H₀ : Hp
  env : Env
  outer : List Env
  stack : List Env
  ex : List Addr
  fn : Str → Bool
  calm : Bool
  pn : List (Addr × Obj)
  xe : Value → Shared → Prop
def frs (l : List Env) : List Addr := l.filterMap (·.frame)
abbrev Cx.fs (X : Cx) : List Addr := frs X.outer
def Vis (sc : Scope) (x : Str) : Prop := sc.names.lookup x = some .local ∨ sc.names.lookup x = some .cell ∨ sc.names.lookup x = some .free
def Loc (sc : Scope) (x : Str) : Prop := sc.names.lookup x = some .local ∨ sc.names.lookup x = some .cell
def Look (env : Env) (h : Heap) (m : Str → Option Value) (x : Str) (u : Value) : Prop :=
  (env.kindOf x = some .local ∧ m x = some u) ∨ ((env.kindOf x = some .cell ∨ env.kindOf x = some .free) ∧ ∃ c, env.cells.lookup x = some c ∧ h.IsCell c (some u))
structure Cx.Ok (X : Cx) : Prop where
  mod : Mod X.K X.mg X.base
  kind : X.env.scope.kind = .function
  glob : X.env.globals = mainGlobals
  blt : X.env.builtins = builtinsNs
  above : X.s₀.heap.objs.size ≤ X.env.locals
  inj : ∀ x y c, X.env.cells.lookup x = some c → X.env.cells.lookup y = some c → x = y
  has : ∀ x, (X.env.kindOf x = some .cell ∨ X.env.kindOf x = some .free) → ∃ c, X.env.cells.lookup x = some c
  cab : ∀ x c, X.fn x = true → X.env.cells.lookup x = some c → X.s₀.heap.objs.size ≤ c
  hd : X.calm = true → X.A.handled = none
  frames : X.A.frames = some X.stack
  stk : X.stack = X.outer ∨ (X.stack = X.env :: X.outer ∧ X.env.frame = some X.env.locals)
  exf : ∀ b ∈ X.ex, b ≠ X.env.locals ∧ ∀ x c, X.env.cells.lookup x = some c → c ≠ b
  bs : ∀ b o, X.base.get? b = some o → X.s₀.heap.get? b = some o ∧ X.H₀ b = none
  bsz : X.base.objs.size ≤ X.s₀.heap.objs.size
  noex : ∀ b o, X.base.get? b = some o → b ∉ X.ex
  exfs : ∀ b ∈ X.ex, b ∉ X.fs
  funs : X.s₀.heap.FunFrames X.base X.outer
  frf : ∀ b ∈ X.fs, X.H₀ b = none
structure Inv (X : Cx) (pins : List (Addr × Obj)) (σ : List (Option V)) (H : Hp) (s : Shared) : Prop where
  ok : X.Ok
  os : s.os = X.s₀.os
  bare : AllBare s.gens
  base : Un X.fs X.ex X.H₀ H X.s₀.heap s.heap
  loc : ∃ m, s.heap.Ns X.env.locals m ∧ ∀ (i : Nat) (x : Str) (v : V), X.N[i]? = some x → σ[i]? = some (some v) → Vis X.env.scope x → ∃ u, RelV v u ∧ Look X.env s.heap m x u
  cell : ∀ x c, X.env.cells.lookup x = some c → ∃ v, s.heap.IsCell c v
  free : H X.env.locals = none
  freeC : ∀ x c, X.env.cells.lookup x = some c → H c = none
  pin : ∀ p ∈ X.pn ++ pins, s.heap.get? p.1 = some p.2 ∧ H p.1 = none ∧ p.1 ≠ X.env.locals ∧ p.1 ∉ X.fs ∧ ∀ v, p.2.data ≠ .cell v
  hok : HOk X.prog X.w H s.heap
  len : σ.length = X.N.length
section
variable {X : Cx} {pins : List (Addr × Obj)} {σ : List (Option V)} {H H' : Hp} {s : Shared} {h' : Heap}
theorem Cx.Ok.nofr (ok : X.Ok) {b : Addr} {o : Obj} (e : X.base.get? b = some o) : b ∉ X.fs := fun hb => by
  have := (ok.funs.mem hb).1
  rw [e] at this; cases this
theorem Inv.bs (I : Inv X pins σ H s) : ∀ b o, X.base.get? b = some o → s.heap.get? b = some o ∧ H b = none := fun b o e =>
  ⟨I.base.keep b o (I.ok.bs b o e).1 (I.ok.bs b o e).2 (I.ok.nofr e) (I.ok.noex b o e), I.base.free b o (I.ok.bs b o e).1 (I.ok.bs b o e).2 (I.ok.noex b o e)⟩
theorem Inv.bk (I : Inv X pins σ H s) : ∀ b o, X.base.get? b = some o → s.heap.get? b = some o := fun b o e => (I.bs b o e).1
theorem Inv.mod (I : Inv X pins σ H s) : Mod X.K X.mg X.base := I.ok.mod
theorem Inv.kIn (I : Inv X pins σ H s) : X.K.In s.heap := I.ok.mod.kin.keeps I.bk
theorem Inv.nolimit (I : Inv X pins σ H s) : s.heap.NoLimit := I.ok.mod.nolimit.keeps I.bk
theorem Inv.lt (I : Inv X pins σ H s) : X.env.locals < s.heap.objs.size := let ⟨_, hn, _⟩ := I.loc; hn.lt
theorem Inv.sz (I : Inv X pins σ H s) : X.s₀.heap.objs.size ≤ s.heap.objs.size := Nat.le_trans I.ok.above (Nat.le_of_lt I.lt)
theorem Inv.nofs (I : Inv X pins σ H s) {a : Addr} (h : s.heap.objs.size ≤ a) : a ∉ X.fs := fun hb => by
  obtain ⟨_, o, ho, _⟩ := I.ok.funs.mem hb
  exact absurd (Nat.lt_of_lt_of_le (Heap.lt_size ho) (Nat.le_trans I.sz h)) (Nat.lt_irrefl _)
theorem Inv.cne (I : Inv X pins σ H s) : ∀ x c, X.env.cells.lookup x = some c → c ≠ X.env.locals := fun x c e z => by
  obtain ⟨v, o, ho, hd⟩ := I.cell x c e
  obtain ⟨m, ⟨o', es, ep, ho', hd', _⟩, _⟩ := I.loc
  rw [z, ho'] at ho; cases ho; rw [hd'] at hd; cases hd
theorem Inv.funs (I : Inv X pins σ H s) : s.heap.FunFrames X.base X.outer := by
  have all : ∀ (l : List Env), (∀ b ∈ frs l, b ∈ X.fs) → X.s₀.heap.FunFrames X.base l → s.heap.FunFrames X.base l := by
    intro l
    induction l with
    | nil => intro _ _; trivial
    | cons env r ih =>
      intro hs hl
      obtain ⟨hk, ⟨L, o, hf, hn, ho, hd⟩, hr⟩ := hl
      have hL : L ∈ X.fs := hs L (by unfold frs; rw [List.filterMap_cons, hf]; exact List.mem_cons_self)
      obtain ⟨sl, e⟩ := I.base.slot L o ho (I.ok.frf L hL) hL fun z => I.ok.exfs L z hL
      exact ⟨hk, ⟨L, _, hf, hn, e, hd⟩, ih (fun b hb => hs b (by unfold frs; rw [List.filterMap_cons, hf]; exact List.mem_cons_of_mem _ hb)) hr⟩
  exact all X.outer (fun _ hb => hb) I.ok.funs
theorem Inv.stack (I : Inv X pins σ H s) : s.heap.FunFrames X.base X.stack := by
  rcases I.ok.stk with e | ⟨e, hf⟩
  · rw [e]; exact I.funs
  · rw [e]
    obtain ⟨m, hn, _⟩ := I.loc
    refine .cons (by rw [I.ok.kind]; decide) hf hn ?_ I.funs
    exact Heap.get?_none_of_le (Nat.le_trans I.ok.bsz I.ok.above)
theorem Inv.stkSub (I : Inv X pins σ H s) : ∀ b ∈ frs X.stack, b ∈ X.env.locals :: X.fs := fun b hb => by
  rcases I.ok.stk with e | ⟨e, hf⟩
  · rw [e] at hb; exact List.mem_cons_of_mem _ hb
  · rw [e] at hb
    unfold frs at hb
    rw [List.filterMap_cons, hf] at hb
    exact hb
theorem Inv.stkFree (I : Inv X pins σ H s) : ∀ b ∈ frs X.stack, H b = none := fun b hb => by
  rcases List.mem_cons.mp (I.stkSub b hb) with e | hb
  · rw [e]; exact I.free
  · obtain ⟨_, o, ho, _⟩ := I.ok.funs.mem hb
    exact I.base.free b o ho (I.ok.frf b hb) fun z => I.ok.exfs b z hb
theorem Inv.step {g' : Array GenState} {t' : Nat} {d' : Drawn} {ch : List Addr} (I : Inv X pins σ H s)
    (hch : ∀ b ∈ ch, (b ∈ X.ex ∨ X.s₀.heap.objs.size ≤ b) ∧ b ≠ X.env.locals ∧ (∀ x c, X.env.cells.lookup x = some c → c ≠ b) ∧ ∀ p ∈ X.pn ++ pins, p.1 ≠ b)
    (keep : ∀ b o, b ≠ X.env.locals → b ∉ X.fs → b ∉ ch → s.heap.get? b = some o → H b = none → h'.get? b = some o)
    (slot : ∀ b o, b ≠ X.env.locals → b ∈ X.fs → b ∉ ch → s.heap.get? b = some o → H b = none → ∃ sl, h'.get? b = some { o with slots := sl }) (free : ∀ b o, b ∉ ch → s.heap.get? b = some o → H b = none → H' b = none)
    (there : ∀ b o, b ∉ ch → s.heap.get? b = some o → ∃ o', h'.get? b = some o')
    (tups : ∀ b xs, H b = some (.tup xs) → H' b = some (.tup xs)) (frzs : ∀ b o u, H b = some (.frz o u) → H' b = some (.frz o u)) (tbls : ∀ b ps, H b = some (.tbl ps) → ∃ more, H' b = some (.tbl (ps ++ more)))
    (ns : ∀ m, s.heap.Ns X.env.locals m → h'.Ns X.env.locals m) (hok : HOk X.prog X.w H' h') (hg : AllBare g') :
    Inv X pins σ H' { s with heap := h', gens := g', drawn := d', toks := t' } := by
  have neL : ∀ b o, X.s₀.heap.get? b = some o → b ≠ X.env.locals := fun b o e => Nat.ne_of_lt (Nat.lt_of_lt_of_le (Heap.lt_size e) I.ok.above)
  have neC : ∀ b o, X.s₀.heap.get? b = some o → b ∉ X.ex → b ∉ ch := fun b o e hx hb => by
    rcases (hch b hb).1 with z | z
    · exact hx z
    · exact absurd (Nat.lt_of_lt_of_le (Heap.lt_size e) z) (Nat.lt_irrefl _)
  have cellK : ∀ x c, X.env.cells.lookup x = some c → ∀ v, s.heap.IsCell c v → h'.IsCell c v := fun x c e v ⟨o, ho, hd⟩ => by
    have nch : c ∉ ch := fun z => (hch c z).2.2.1 x c e rfl
    by_cases hc : c ∈ X.fs
    · obtain ⟨sl, q⟩ := slot c o (I.cne x c e) hc nch ho (I.freeC x c e)
      exact ⟨_, q, hd⟩
    · exact ⟨o, keep c o (I.cne x c e) hc nch ho (I.freeC x c e), hd⟩
  refine ⟨I.ok, I.os, hg, ⟨fun b o e n hb hx => ?_, fun b o e n hb hx => ?_, fun b o e n hx => ?_, fun b o e hx => ?_, fun b xs e => tups b xs (I.base.tups b xs e), fun b o xs e => frzs b o xs (I.base.frzs b o xs e), fun b ps e => ?_⟩, ?_, fun x c e => ?_, ?_, fun x c e => ?_, fun p hp => ?_, hok, I.len⟩
  · exact keep b o (neL b o e) hb (neC b o e hx) (I.base.keep b o e n hb hx) (I.base.free b o e n hx)
  · obtain ⟨sl, e1⟩ := I.base.slot b o e n hb hx
    obtain ⟨sl', e2⟩ := slot b _ (neL b o e) hb (neC b o e hx) e1 (I.base.free b o e n hx)
    exact ⟨sl', e2⟩
  · obtain ⟨o', e1⟩ := I.base.there b o e hx
    exact free b o' (neC b o e hx) e1 (I.base.free b o e n hx)
  · obtain ⟨o', e1⟩ := I.base.there b o e hx
    exact there b o' (neC b o e hx) e1
  · obtain ⟨m1, e1⟩ := I.base.tbls b ps e
    obtain ⟨m2, e2⟩ := tbls b _ e1
    exact ⟨m1 ++ m2, by rw [e2, Array.append_assoc]⟩
  · obtain ⟨m, hn, hl⟩ := I.loc
    refine ⟨m, ns m hn, fun i x v e1 e2 e3 => ?_⟩
    obtain ⟨u, r, l⟩ := hl i x v e1 e2 e3
    refine ⟨u, r, ?_⟩
    rcases l with l | ⟨k, c, e, z⟩
    · exact .inl l
    · exact .inr ⟨k, c, e, cellK x c e _ z⟩
  · obtain ⟨v, z⟩ := I.cell x c e
    exact ⟨v, cellK x c e v z⟩
  · obtain ⟨m, ⟨o, _, _, ho, _⟩, _⟩ := I.loc
    exact free _ o (fun z => (hch _ z).2.1 rfl) ho I.free
  · obtain ⟨v, o, ho, hd⟩ := I.cell x c e
    exact free c o (fun z => (hch c z).2.2.1 x c e rfl) ho (I.freeC x c e)
  · obtain ⟨e, n, ne, nf, d⟩ := I.pin p hp
    have nch : p.1 ∉ ch := fun z => (hch p.1 z).2.2.2 p hp rfl
    exact ⟨keep p.1 p.2 ne nf nch e n, free p.1 p.2 nch e n, ne, nf, d⟩
theorem Inv.un {t' : Nat} (I : Inv X pins σ H s) (u : Un X.fs [] H H' s.heap h') (hok : HOk X.prog X.w H' h') : Inv X pins σ H' { s with heap := h', toks := t' } := by
  obtain ⟨m, ⟨o, es, ep, ho, r⟩, _⟩ := id I.loc
  obtain ⟨sl, hL⟩ := u.any ho I.free (by simp)
  exact I.step (g' := s.gens) (d' := s.drawn) (ch := []) (fun _ z => nomatch z) (fun b o _ hb _ e n => u.keep b o e n hb (by simp)) (fun b o _ hb _ e n => u.slot b o e n hb (by simp)) (fun b o _ e n => u.free b o e n (by simp)) (fun b o _ e => u.there b o e (by simp)) u.tups u.frzs u.tbls (fun m' hm => by
    obtain ⟨o', es', ep', ho', r'⟩ := hm
    rw [ho] at ho'; cases ho'
    exact ⟨_, es', ep', hL, r'⟩) hok I.bare
theorem Inv.call {g' : Array GenState} {t' : Nat} {d' : Drawn} {ch : List Addr} (I : Inv X pins σ H s) (u : Un (frs X.stack) ch H H' s.heap h') (hok : HOk X.prog X.w H' h') (hg : AllBare g')
    (hch : ∀ b ∈ ch, (b ∈ X.ex ∨ X.s₀.heap.objs.size ≤ b) ∧ b ≠ X.env.locals ∧ (∀ x c, X.env.cells.lookup x = some c → c ≠ b) ∧ ∀ p ∈ X.pn ++ pins, p.1 ≠ b) :
    Inv X pins σ H' { s with heap := h', gens := g', drawn := d', toks := t' } := by
  obtain ⟨m, ⟨o, es, ep, ho, r⟩, _⟩ := id I.loc
  obtain ⟨sl, hL⟩ := u.any ho I.free fun z => (hch _ z).2.1 rfl
  exact I.step (ch := ch) hch (fun b o hL hb hc e n => u.keep b o e n (fun z => (List.mem_cons.mp (I.stkSub b z)).elim hL hb) hc) (fun b o _ _ hc e n => u.any e n hc) (fun b o hc e n => u.free b o e n hc) (fun b o hc e => u.there b o e hc) u.tups u.frzs u.tbls (fun m' hm => by
    obtain ⟨o', es', ep', ho', r'⟩ := hm
    rw [ho] at ho'; cases ho'
    exact ⟨_, es', ep', hL, r'⟩) hok hg
theorem Inv.turned {t' : Nat} {it : Addr} (I : Inv X pins σ H s) (k : ∀ b o, b ≠ it → s.heap.get? b = some o → h'.get? b = some o) (hn : H it = none) (hL : it ≠ X.env.locals)
    (h1 : it ∈ X.ex ∨ X.s₀.heap.objs.size ≤ it) (h2 : ∀ x c, X.env.cells.lookup x = some c → c ≠ it) (h3 : ∀ p ∈ X.pn ++ pins, p.1 ≠ it) : Inv X pins σ H { s with heap := h', toks := t' } := by
  have nit : ∀ b u, H b = some u → b ≠ it := fun b u e z => by rw [z, hn] at e; cases e
  refine I.step (g' := s.gens) (d' := s.drawn) (ch := [it]) (fun b hb => ?_) (fun b o _ _ hc e _ => k b o (fun z => hc (by simp [z])) e) (fun b o _ _ hc e _ => ⟨o.slots, k b o (fun z => hc (by simp [z])) e⟩) (fun _ _ _ _ n => n)
    (fun b o hc e => ⟨o, k b o (fun z => hc (by simp [z])) e⟩) (fun _ _ e => e) (fun _ _ _ e => e) (fun b ps e => ⟨#[], by rw [e]; simp⟩) (fun m hm => ?_) (fun b u e => ?_) I.bare
  · have e : b = it := by simpa using hb
    subst e
    exact ⟨h1, hL, h2, h3⟩
  · obtain ⟨o, es, ep, ho, r⟩ := hm
    exact ⟨o, es, ep, k _ o (Ne.symm hL) ho, r⟩
  · refine (I.hok b u e).stay (fun c v hc q => k c v ?_ q) (fun _ q => q) (fun _ _ q => q) fun _ _ _ q => q
    rcases hc with z | z
    · rw [z]; exact nit b u e
    · exact nit c _ z
theorem Inv.tok (I : Inv X pins σ H s) (t : Nat) : Inv X pins σ H { s with toks := t } := I.un (h' := s.heap) (t' := t) Un.refl I.hok
theorem Inv.kept {t' : Nat} (I : Inv X pins σ H s) (k : ∀ b u, s.heap.get? b = some u → h'.get? b = some u) : Inv X pins σ H { s with heap := h', toks := t' } := I.un (Un.kept k) (I.hok.kept k)
theorem Inv.laid {a : Addr} {o : HO} {t' : Nat} (I : Inv X pins σ H s) (k : ∀ b u, s.heap.get? b = some u → h'.get? b = some u) (hp : s.heap.objs.size ≤ a) (new : ObjOk X.prog X.w (upd H a o) h' a o) :
    Inv X pins σ (upd H a o) { s with heap := h', toks := t' } := I.un (Un.laid k hp (I.hok.fresh hp)) (I.hok.laid k hp new)
theorem Inv.write {x e : Addr} {o : HO} {t' : Nat} (I : Inv X pins σ H s) (mu : Mut (H x)) (he : e = x ∨ H e = some (.own x)) (k : ∀ b u, b ≠ e → s.heap.get? b = some u → h'.get? b = some u) (heo : ∃ u, h'.get? e = some u)
    (new : ObjOk X.prog X.w (upd H x o) h' x o) : Inv X pins σ (upd H x o) { s with heap := h', toks := t' } := I.un (Un.write mu he k heo) (I.hok.write mu he k heo new)
theorem Inv.pins_of {pins' : List (Addr × Obj)} (I : Inv X pins σ H s) (h : ∀ p ∈ pins', s.heap.get? p.1 = some p.2 ∧ H p.1 = none ∧ p.1 ≠ X.env.locals ∧ p.1 ∉ X.fs ∧ ∀ v, p.2.data ≠ .cell v) : Inv X pins' σ H s :=
  ⟨I.ok, I.os, I.bare, I.base, I.loc, I.cell, I.free, I.freeC, fun p hp => (List.mem_append.mp hp).elim (fun z => I.pin p (List.mem_append_left _ z)) (h p), I.hok, I.len⟩
theorem nodup_ix {N : List Str} (hN : N.Nodup) {i j : Nat} {x : Str} (a : N[i]? = some x) (b : N[j]? = some x) : i = j := by
  obtain ⟨h1, e1⟩ := List.getElem?_eq_some_iff.mp a
  obtain ⟨h2, e2⟩ := List.getElem?_eq_some_iff.mp b
  exact (List.getElem_inj hN).mp (e1.trans e2.symm)
theorem store_ok2 {M : Model} {A : Around} {E : Value → Shared → Prop} {i : Nat} {x : Str} {v : V} {u : Value} {Q : Unit → Shared → Prop} (I : Inv X pins σ H s) (hN : X.N.Nodup) (hi : X.N[i]? = some x) (hx : Loc X.env.scope x) (r : RelV v u)
    (h : ∀ s', Inv X pins (σ.set i (some v)) H s' → (∃ a, Heap.SameBut a s.heap s'.heap ∧ (a = X.env.locals ∨ X.env.cells.lookup x = some a)) → Q () s') (hf : X.fn x = true ∨ X.env.scope.names.lookup x = some .local := by first | exact .inl rfl | exact .inr rfl | assumption) : wpAny M A (storeName X.env x u) Q E s := by
  obtain ⟨m, hn, hl⟩ := id I.loc
  have hcls : (X.env.scope.kind == .class || (X.env.scope.kind == .module && X.env.locals != X.env.globals)) = false := by rw [I.ok.kind]; rfl
  have hiσ : i < σ.length := by rw [I.len]; exact (List.getElem?_eq_some_iff.mp hi).1
  have cne := I.cne
  have tracked : ∀ {a : Addr} {h' : Heap}, (∃ o, s.heap.get? a = some o ∧ H a = none) → Heap.SameBut a s.heap h' → HOk X.prog X.w H h' := fun {a h'} ha hs b ob e => by
    obtain ⟨_, _, hfree⟩ := ha
    refine (I.hok b ob e).stay (fun c w' hc q => (hs.2 c ?_).trans q) (fun _ q => q) (fun _ _ q => q) fun _ _ _ q => q
    rintro rfl
    rcases hc with rfl | hc
    · rw [hfree] at e; cases e
    · rw [hfree] at hc; cases hc
  rcases hx with hk | hk
  · refine wpAny_storeName_local hk hn (fun h' hn' hs => ?_) hcls
    obtain ⟨oL, _, _, hoL, _⟩ := id hn
    refine h _ ⟨I.ok, I.os, I.bare, ⟨fun b o e n hb hx => ?_, fun b o e n hb hx => ?_, I.base.free, fun b o e hx => ?_, I.base.tups, I.base.frzs, I.base.tbls⟩, ⟨_, hn', fun j y v' e1 e2 e3 => ?_⟩, fun y c e => ?_, I.free, I.freeC, fun p hp => ?_, tracked ⟨oL, hoL, I.free⟩ hs, by simpa using I.len⟩ ⟨_, hs, .inl rfl⟩
    · exact (hs.2 b (Nat.ne_of_lt (Nat.lt_of_lt_of_le (Heap.lt_size e) I.ok.above))).trans (I.base.keep b o e n hb hx)
    · obtain ⟨sl, e1⟩ := I.base.slot b o e n hb hx
      exact ⟨sl, (hs.2 b (Nat.ne_of_lt (Nat.lt_of_lt_of_le (Heap.lt_size e) I.ok.above))).trans e1⟩
    · obtain ⟨o', e1⟩ := I.base.there b o e hx
      exact ⟨o', (hs.2 b (Nat.ne_of_lt (Nat.lt_of_lt_of_le (Heap.lt_size e) I.ok.above))).trans e1⟩
    · by_cases hj : j = i
      · subst hj
        rw [hi] at e1; cases e1
        rw [List.getElem?_set_self hiσ] at e2
        cases e2
        exact ⟨u, r, .inl ⟨hk, by simp⟩⟩
      · rw [List.getElem?_set_ne (Ne.symm hj)] at e2
        obtain ⟨u', r', q⟩ := hl j y v' e1 e2 e3
        refine ⟨u', r', ?_⟩
        rcases q with ⟨k, e⟩ | ⟨k, c, e, z⟩
        · refine .inl ⟨k, ?_⟩
          have : y ≠ x := fun e => hj (nodup_ix hN e1 (e ▸ hi))
          simp [this, e]
        · exact .inr ⟨k, c, e, z.sameBut hs (cne y c e)⟩
    · obtain ⟨w', z⟩ := I.cell y c e
      exact ⟨w', z.sameBut hs (cne y c e)⟩
    · obtain ⟨e, n, ne, nf, d⟩ := I.pin p hp
      exact ⟨(hs.2 p.1 ne).trans e, n, ne, nf, d⟩
  · have hfn : X.fn x = true := by
      rcases hf with z | z
      · exact z
      · rw [z] at hk; cases hk
    obtain ⟨c, hc⟩ := I.ok.has x (.inl hk)
    obtain ⟨w', z⟩ := I.cell x c hc
    refine wpAny_storeName_cell I.ok.kind hk hc z (fun h' hc' hs => ?_)
    obtain ⟨oc, hoc, hocd⟩ := id z
    refine h { s with heap := h' } ⟨I.ok, I.os, I.bare, ⟨fun b o e n hb hx => ?_, fun b o e n hb hx => ?_, I.base.free, fun b o e hx => ?_, I.base.tups, I.base.frzs, I.base.tbls⟩, ⟨m, hn.sameBut hs (Ne.symm (cne x c hc)), fun j y v' e1 e2 e3 => ?_⟩, fun y c' e => ?_, I.free, I.freeC, fun p hp => ?_, tracked ⟨oc, hoc, I.freeC x c hc⟩ hs, by simpa using I.len⟩ ⟨c, hs, .inr hc⟩
    · exact (hs.2 b (Nat.ne_of_lt (Nat.lt_of_lt_of_le (Heap.lt_size e) (I.ok.cab x c hfn hc)))).trans (I.base.keep b o e n hb hx)
    · obtain ⟨sl, e1⟩ := I.base.slot b o e n hb hx
      exact ⟨sl, (hs.2 b (Nat.ne_of_lt (Nat.lt_of_lt_of_le (Heap.lt_size e) (I.ok.cab x c hfn hc)))).trans e1⟩
    · obtain ⟨o', e1⟩ := I.base.there b o e hx
      exact ⟨o', (hs.2 b (Nat.ne_of_lt (Nat.lt_of_lt_of_le (Heap.lt_size e) (I.ok.cab x c hfn hc)))).trans e1⟩
    · by_cases hj : j = i
      · subst hj
        rw [hi] at e1; cases e1
        rw [List.getElem?_set_self hiσ] at e2
        cases e2
        exact ⟨u, r, .inr ⟨.inl hk, c, hc, hc'⟩⟩
      · rw [List.getElem?_set_ne (Ne.symm hj)] at e2
        obtain ⟨u', r', q⟩ := hl j y v' e1 e2 e3
        refine ⟨u', r', ?_⟩
        rcases q with q | ⟨k, c', e, z'⟩
        · exact .inl q
        · refine .inr ⟨k, c', e, z'.sameBut hs ?_⟩
          rintro rfl
          exact hj (nodup_ix hN e1 (I.ok.inj _ _ _ e hc ▸ hi))
    · by_cases hcc : c' = c
      · subst hcc; exact ⟨_, hc'⟩
      · obtain ⟨w2, z2⟩ := I.cell y c' e
        exact ⟨w2, z2.sameBut hs hcc⟩
    · obtain ⟨e, n, ne, nf, d⟩ := I.pin p hp
      refine ⟨(hs.2 p.1 ?_).trans e, n, ne, nf, d⟩
      intro q
      rw [q, hoc] at e
      have q' : oc = p.2 := Option.some.inj e
      exact d w' (by rw [← q']; exact hocd)
theorem store_ok {M : Model} {A : Around} {E : Value → Shared → Prop} {i : Nat} {x : Str} {v : V} {u : Value} {Q : Unit → Shared → Prop} (I : Inv X pins σ H s) (hN : X.N.Nodup) (hi : X.N[i]? = some x) (hx : Loc X.env.scope x) (r : RelV v u)
    (h : ∀ s', Inv X pins (σ.set i (some v)) H s' → Q () s') (hf : X.fn x = true ∨ X.env.scope.names.lookup x = some .local := by first | exact .inl rfl | exact .inr rfl | assumption) : wpAny M A (storeName X.env x u) Q E s :=
  store_ok2 I hN hi hx r (fun s' I' _ => h s' I') hf
theorem Inv.call' {s' : Shared} {ch : List Addr} (I : Inv X pins σ H s) (ho : s'.os = s.os) (u : Un (frs X.stack) ch H H' s.heap s'.heap) (hok : HOk X.prog X.w H' s'.heap) (hg : AllBare s'.gens)
    (hch : ∀ b ∈ ch, (b ∈ X.ex ∨ X.s₀.heap.objs.size ≤ b) ∧ b ≠ X.env.locals ∧ (∀ x c, X.env.cells.lookup x = some c → c ≠ b) ∧ ∀ p ∈ X.pn ++ pins, p.1 ≠ b) : Inv X pins σ H' s' := by
  obtain ⟨h', g', d', t', o'⟩ := s'
  have e : o' = s.os := ho
  subst e
  exact I.call (g' := g') (t' := t') (d' := d') u hok hg hch
end
abbrev XK := Value → Option Addr → Hp → Prop
abbrev St := List (Option V)
abbrev VK := V → Hp → Prop
abbrev TE := St → Hp → VK → Prop
abbrev TT := St → Hp → (Bool → Hp → Prop) → Prop
abbrev TA := St → Hp → (List V → Hp → Prop) → Prop
structure Ends where
  nx : St → Hp → Prop
  rt : VK
  bk : St → Hp → Prop := fun _ _ => False
  ct : St → Hp → Prop := fun _ _ => False
abbrev TS := Ends → St → Hp → Prop
def EP (X : Cx) (pins : List (Addr × Obj)) (σ : St) (Q : VK) (u : Value) (s' : Shared) : Prop := ∃ v H', Inv X pins σ H' s' ∧ RelV v u ∧ Q v H'
def TP (X : Cx) (pins : List (Addr × Obj)) (σ : St) (Q : Bool → Hp → Prop) (b : Bool) (s' : Shared) : Prop := ∃ H', Inv X pins σ H' s' ∧ Q b H'
def AP (X : Cx) (pins : List (Addr × Obj)) (σ : St) (Q : List V → Hp → Prop) (us : List Value) (s' : Shared) : Prop := ∃ vs H', Inv X pins σ H' s' ∧ Vals vs us ∧ Q vs H'
def SP (X : Cx) (pins : List (Addr × Obj)) (D : Ends) (f : Flow) (s' : Shared) : Prop :=
  match f with
  | .next => ∃ σ' H', Inv X pins σ' H' s' ∧ D.nx σ' H'
  | .brk => ∃ σ' H', Inv X pins σ' H' s' ∧ D.bk σ' H'
  | .cont => ∃ σ' H', Inv X pins σ' H' s' ∧ D.ct σ' H'
  | .ret u => ∃ v σ' H', Inv X pins σ' H' s' ∧ RelV v u ∧ D.rt v H'
def PE (X : Cx) (e : Expr) (t : TE) : Prop :=
  ∀ (pins : List (Addr × Obj)) (s : Shared) (σ : St) (H : Hp) (Q : VK), Inv X pins σ H s → t σ H Q → wpAny (model X.prog X.w) X.A (eval e X.env) (EP X pins σ Q) X.xe s
def PT (X : Cx) (e : Expr) (t : TT) : Prop :=
  ∀ (pins : List (Addr × Obj)) (s : Shared) (σ : St) (H : Hp) (Q : Bool → Hp → Prop), Inv X pins σ H s → t σ H Q → wpAny (model X.prog X.w) X.A (isTrue e X.env (eval e X.env)) (TP X pins σ Q) X.xe s
def PW (X : Cx) (e : Expr) (t : TT) : Prop :=
  ∀ (whole : Sem Value) (pins : List (Addr × Obj)) (s : Shared) (σ : St) (H : Hp) (Q : Bool → Hp → Prop), Inv X pins σ H s → t σ H Q → wpAny (model X.prog X.w) X.A (isTrue e X.env whole) (TP X pins σ Q) X.xe s
theorem PW.pt {X : Cx} {e : Expr} {t : TT} (h : PW X e t) : PT X e t := h _
def PA (X : Cx) (es : List Expr) (t : TA) : Prop :=
  ∀ (pos : Pos) (pins : List (Addr × Obj)) (s : Shared) (σ : St) (H : Hp) (Q : List V → Hp → Prop), Inv X pins σ H s → t σ H Q → wpAny (model X.prog X.w) X.A (spliced (backTo pos (starEach es X.env))) (AP X pins σ Q) X.xe s
def PS (X : Cx) (st : Stmt) (t : TS) : Prop :=
  ∀ (pins : List (Addr × Obj)) (s : Shared) (σ : St) (H : Hp) (D : Ends), Inv X pins σ H s → t D σ H → wpAny (model X.prog X.w) X.A (exec st X.env) (SP X pins D) X.xe s
def PSs (X : Cx) (st : List Stmt) (t : TS) : Prop :=
  ∀ (pins : List (Addr × Obj)) (s : Shared) (σ : St) (H : Hp) (D : Ends), Inv X pins σ H s → t D σ H → wpAny (model X.prog X.w) X.A (execs st X.env) (SP X pins D) X.xe s
theorem thn {α : Type} {t : Sem α} {Q Q' : α → Shared → Prop} {M : Model} {A : Around} {E : Value → Shared → Prop} {s : Shared} (h : wpAny M A t Q E s) (hQ : ∀ a s, Q a s → Q' a s) : wpAny M A t Q' E s := wpAny_mono h hQ fun _ _ x => x
end L2
namespace L2
open PySem PySem.Spec PyProof.Rows
section
variable {X : Cx}
def tVar (i : Nat) : TE := fun σ H Q => ∃ v, σ[i]? = some (some v) ∧ Q v H
def tC (v : V) : TE := fun _ H Q => Q v H
theorem pe_var {i : Nat} {x : Str} {pos : Pos} (hN : X.N[i]? = some x) (hv : Vis X.env.scope x) (hd : (x == ("__debug__" : Str)) = false := by decide) (hcd : (x == ("__classdict__" : Str)) = false := by decide) : PE X (.Name x pos) (tVar i) := by
  intro pins s σ H Q I h
  obtain ⟨v, e, h⟩ := h
  obtain ⟨m, hn, hl⟩ := I.loc
  obtain ⟨u, r, l⟩ := hl i x v hN e hv
  have fin : EP X pins σ Q u s := ⟨v, H, I, r, h⟩
  rcases l with ⟨hk, hm⟩ | ⟨hk, c, hc, hcell⟩
  · exact wpAny_Name (wpAny_loadName_local I.ok.kind hk hn hm fin) hd
  · rcases hk with hk | hk
    · exact wpAny_Name (wpAny_loadName_cell I.ok.kind hk hc hcell fin) hd
    · exact wpAny_Name (wpAny_loadName_free I.ok.kind hk hc hcell fin hcd) hd
theorem pe_int {i j pos} : PE X (.Constant (.int i) j pos) (tC (.int i)) := fun _ _ _ H _ I h => wpAny_Constant_int ⟨.int i, H, I.tok _, ⟨_, rfl⟩, h⟩
theorem pe_bl {b j pos} : PE X (.Constant (.bool b) j pos) (tC (.bl b)) := fun _ _ _ H _ I h => Constant_bool ⟨.bl b, H, I, rfl, h⟩
theorem pe_str {x j pos} : PE X (.Constant (.str x) j pos) (tC (.str x)) := fun _ _ _ H _ I h => Calls.Constant_str ⟨.str x, H, I.tok _, ⟨_, rfl⟩, h⟩
def Gl (X : Cx) (x : Str) : Prop := X.env.kindOf x = some .globalImplicit
theorem ld_glob {E : Value → Shared → Prop} {pins : List (Addr × Obj)} {s : Shared} {σ : St} {H : Hp} {x : Str} {u : Value} {pos : Pos} {Q : Value → Shared → Prop} (I : Inv X pins σ H s) (hg : Gl X x) (hm : X.mg x = some u) (h : Q u s)
    (hd : (x == ("__debug__" : Str)) = false := by decide) : wpAny (model X.prog X.w) X.A (eval (.Name x pos) X.env) Q E s :=
  Calls.Name_function_global I.ok.kind hg (Calls.loadGlobal_global (by rw [I.ok.glob]; exact I.mod.glob.keeps I.bk) hm h) hd
theorem ld_blt {E : Value → Shared → Prop} {pins : List (Addr × Obj)} {s : Shared} {σ : St} {H : Hp} {x : Str} {u : Value} {pos : Pos} {Q : Value → Shared → Prop} (I : Inv X pins σ H s) (hg : Gl X x) (hm : X.mg x = none) (hv : bootBuiltins x = some u) (h : Q u s)
    (hn : x ≠ "__name__" := by decide) (hd : (x == ("__debug__" : Str)) = false := by decide) : wpAny (model X.prog X.w) X.A (eval (.Name x pos) X.env) Q E s := by
  obtain ⟨mb, h1, h2⟩ := I.mod.blt
  exact Calls.Name_function_global I.ok.kind hg (Calls.loadGlobal_builtin (by rw [I.ok.glob]; exact I.mod.glob.keeps I.bk) hm (by rw [I.ok.blt]; exact h1.keeps I.bk) ((h2 x hn).trans hv) h) hd
theorem pe_bltn {x : Str} {v : V} {u : Value} {pos : Pos} (hg : Gl X x) (hm : X.mg x = none) (hv : bootBuiltins x = some u) (r : RelV v u) (hn : x ≠ "__name__" := by decide) (hd : (x == ("__debug__" : Str)) = false := by decide) : PE X (.Name x pos) (tC v) :=
  fun _ _ _ H _ I h => ld_blt I hg hm hv ⟨v, H, I, r, h⟩ hn hd
def t2I (ta tb : TE) (k : Int → Int → Hp → Prop) : St → Hp → Prop := fun σ H => ta σ H fun x H1 => tb σ H1 fun y H2 => ∃ i j, x = .int i ∧ y = .int j ∧ k i j H2
def tAdd (ta tb : TE) : TE := fun σ H Q => t2I ta tb (fun i j H2 => Q (.int (i + j)) H2) σ H
def tSub (ta tb : TE) : TE := fun σ H Q => t2I ta tb (fun i j H2 => Q (.int (i - j)) H2) σ H
def tMul (ta tb : TE) : TE := fun σ H Q => t2I ta tb (fun i j H2 => (-(2 ^ 64) < i ∧ i < 2 ^ 64) ∧ Q (.int (i * j)) H2) σ H
variable {a b : Expr} {ta tb : TE} {pos : Pos}
def PC (X : Cx) (op : CmpOp) (a b : Expr) (t : TE) : Prop :=
  ∀ (pins : List (Addr × Obj)) (s : Shared) (σ : St) (H : Hp) (Q : VK), Inv X pins σ H s → t σ H Q →
    wpAny (model X.prog X.w) X.A (eval a X.env) (fun v s₁ => wpAny (model X.prog X.w) X.A (eval b X.env) (fun u s₂ => wpAny (model X.prog X.w) X.A (compareOp op v u) (EP X pins σ Q) X.xe s₂) X.xe s₁) X.xe s
theorem nobehind (b : Expr) {op : CmpOp} (h : op ≠ .In) (h2 : op ≠ .NotIn) : behindInMarks op b = false := by
  have e1 : (op == CmpOp.In) = false := by cases op <;> first | rfl | exact absurd rfl h
  have e2 : (op == CmpOp.NotIn) = false := by cases op <;> first | rfl | exact absurd rfl h2
  cases b <;> simp [behindInMarks, e1, e2]
def tCmp (p : Int → Int → Bool) (ta tb : TE) : TE := fun σ H Q => t2I ta tb (fun i j H2 => Q (.bl (p i j)) H2) σ H
abbrev tLt : TE → TE → TE := tCmp fun i j => decide (i < j)
abbrev tLe : TE → TE → TE := tCmp fun i j => decide (i ≤ j)
abbrev tGt : TE → TE → TE := tCmp fun i j => decide (j < i)
abbrev tGe : TE → TE → TE := tCmp fun i j => decide (j ≤ i)
abbrev tEqI : TE → TE → TE := tCmp fun i j => decide (i = j)
abbrev tNeI : TE → TE → TE := tCmp fun i j => !decide (i = j)
def tIsN (ta : TE) : TE := fun σ H Q => ta σ H fun x H1 => Q (.bl (decide (x = .non))) H1
def tNotN (ta : TE) : TE := fun σ H Q => ta σ H fun x H1 => Q (.bl (!decide (x = .non))) H1
def tB (t : TE) : TT := fun σ H Q => t σ H fun x H1 => ∃ c, x = .bl c ∧ Q c H1
theorem pt_cmp {op : CmpOp} {t : TE} (h : PC X op a b t) (h1 : behindInMarks op b = false := by first | exact nobehind _ (by decide) (by decide) | rfl) : PT X (.Compare a [op] [b] pos) (tB t) := by
  intro pins s σ H Q I hw
  refine wpAny_isTrue_Compare1 (thn (h pins s σ H _ I hw) fun v s1 h1 => thn h1 fun u s2 h2 => thn h2 fun c s3 ⟨x, H1, I1, r1, q1⟩ => ?_) h1
  obtain ⟨d, rfl, q⟩ := q1
  cases r1
  exact wpAny_truthy_bool ⟨H1, I1, q⟩
theorem pt_val {e : Expr} {t : TE} (h : PE X e t) (he : ∀ whole, isTrue e X.env whole = (do let v ← whole; standAt e.pos; holding [v] (truthy v)) := by intro _; rfl) : PT X e (tB t) := by
  intro pins s σ H Q I hw
  refine isTrue_plain (thn (h pins s σ H _ I hw) fun v s1 ⟨x, H1, I1, r1, q1⟩ => ?_) (he _)
  obtain ⟨d, rfl, q⟩ := q1
  cases r1
  exact wpAny_truthy_bool ⟨H1, I1, q⟩
variable {tA tB' : TT} {rest : List Expr}
def tAnd (t u : TT) : TT := fun σ H Q => t σ H fun c H1 => if c = true then u σ H1 Q else Q false H1
def tOr (t u : TT) : TT := fun σ H Q => t σ H fun c H1 => if c = true then Q true H1 else u σ H1 Q
def tNot (t : TT) : TT := fun σ H Q => t σ H fun c H1 => Q (!c) H1
theorem pw_and1 (ha : PT X a tA) : PW X (.BoolOp .And [a] pos) tA := by
  intro wh pins s σ H Q I h
  refine isTrue_and (thn (ha pins s σ H Q I h) fun c s1 e => ?_)
  cases c with
  | true => exact isTrue_and_nil e
  | false => exact e
theorem pw_or1 (ha : PT X a tA) : PW X (.BoolOp .Or [a] pos) tA := by
  intro wh pins s σ H Q I h
  refine isTrue_or (thn (ha pins s σ H Q I h) fun c s1 e => ?_)
  cases c with
  | false => exact isTrue_or_nil e
  | true => exact e
theorem pw_and (ha : PT X a tA) (hb : PW X (.BoolOp .And (b :: rest) pos) tB') : PW X (.BoolOp .And (a :: b :: rest) pos) (tAnd tA tB') := by
  intro wh pins s σ H Q I h
  refine isTrue_and (thn (ha pins s σ H _ I h) fun c s1 ⟨H1, I1, q1⟩ => ?_)
  cases c with
  | true => exact hb wh pins s1 σ H1 Q I1 q1
  | false => exact ⟨H1, I1, q1⟩
theorem pw_or (ha : PT X a tA) (hb : PW X (.BoolOp .Or (b :: rest) pos) tB') : PW X (.BoolOp .Or (a :: b :: rest) pos) (tOr tA tB') := by
  intro wh pins s σ H Q I h
  refine isTrue_or (thn (ha pins s σ H _ I h) fun c s1 ⟨H1, I1, q1⟩ => ?_)
  cases c with
  | true => exact ⟨H1, I1, q1⟩
  | false => exact hb wh pins s1 σ H1 Q I1 q1
theorem pt_not (ha : PT X a tA) : PT X (.UnaryOp .Not a pos) (tNot tA) := by
  intro pins s σ H Q I h
  exact isTrue_not (ha pins s σ H (fun c H1 => Q (!c) H1) I h)
def tAndV (ta tb : TE) : TE := fun σ H Q => ta σ H fun x H1 => ∃ c, x = .bl c ∧ if c = true then tb σ H1 Q else Q (.bl false) H1
def tOrV (ta tb : TE) : TE := fun σ H Q => ta σ H fun x H1 => ∃ c, x = .bl c ∧ if c = true then Q (.bl true) H1 else tb σ H1 Q
def tNotV (ta : TE) : TE := fun σ H Q => ta σ H fun x H1 => ∃ c, x = .bl c ∧ Q (.bl (!c)) H1
theorem pe_one {op} {t : TE} (h : PE X a t) : PE X (.BoolOp op [a] pos) t := fun pins s σ H Q I hw => BoolOp_one (h pins s σ H Q I hw)
theorem pe_and (ha : PE X a ta) (hb : PE X (.BoolOp .And (b :: rest) pos) tb) : PE X (.BoolOp .And (a :: b :: rest) pos) (tAndV ta tb) := by
  intro pins s σ H Q I h
  refine BoolOp_and (thn (ha pins s σ H _ I h) fun v s1 ⟨x, H1, I1, r1, q1⟩ => ?_)
  obtain ⟨c, rfl, q1⟩ := q1
  cases r1
  refine wpAny_truthy_bool ?_
  cases c with
  | true => exact hb pins s1 σ H1 Q I1 q1
  | false => exact ⟨.bl false, H1, I1, rfl, q1⟩
theorem pe_not (ha : PE X a ta) : PE X (.UnaryOp .Not a pos) (tNotV ta) := by
  intro pins s σ H Q I h
  refine UnaryOp_ (thn (ha pins s σ H _ I h) fun v s1 ⟨x, H1, I1, r1, q1⟩ => ?_)
  obtain ⟨c, rfl, q1⟩ := q1
  cases r1
  exact not_of (wpAny_truthy_bool ⟨.bl (!c), H1, I1, rfl, q1⟩)
def tIf (t : TT) (ta tb : TE) : TE := fun σ H Q => t σ H fun c H1 => if c = true then ta σ H1 Q else tb σ H1 Q
theorem pe_ifExp {c : Expr} (hc : PT X c tA) (ha : PE X a ta) (hb : PE X b tb) : PE X (.IfExp c a b pos) (tIf tA ta tb) := by
  intro pins s σ H Q I h
  refine wpAny_IfExp (thn (hc pins s σ H _ I h) fun d s1 ⟨H1, I1, q1⟩ => ?_)
  cases d with
  | true => exact ha pins s1 σ H1 Q I1 q1
  | false => exact hb pins s1 σ H1 Q I1 q1
end
end L2
namespace L2
open PySem PySem.Spec PyProof.Rows
def SqL (K : PySem.W.Frag) (H : Hp) (a : Addr) (xs : List V) : Prop :=
  Rd H a (.lst xs) ∨
    ∃ (o : Obj) (its : Array Value) (n : Nat), K.lookup a = some o ∧ o.cls = .type "list" ∧ o.dict = none ∧ o.data = .seq its n ∧ its.size ≤ sizeLine ∧ Vals xs its.toList
def SqT (K : PySem.W.Frag) (H : Hp) (a : Addr) (xs : List V) : Prop :=
  Rd H a (.tup xs) ∨
    ∃ (o : Obj) (its : Array Value) (n : Nat), K.lookup a = some o ∧ o.cls = .type "tuple" ∧ o.data = .seq its n ∧ its.size ≤ sizeLine ∧ Vals xs its.toList
def absV : Value → Option V
  | .none => some .non
  | .bool b => some (.bl b)
  | .int i _ => some (.int i)
  | .str x _ => some (.str x)
  | .bytes b _ => some (.byt b)
  | .float b _ => some (.flt b)
  | .ref a => some (.ref a)
  | .type n => some (.ty n)
  | _ => none
theorem RelV.abs {x : V} {u : Value} (r : RelV x u) : absV u = some x := by
  cases x with
  | non => cases r; rfl
  | bl _ => cases r; rfl
  | int _ => obtain ⟨t, rfl⟩ := r; rfl
  | str _ => obtain ⟨t, rfl⟩ := r; rfl
  | byt _ => obtain ⟨t, rfl⟩ := r; rfl
  | flt _ => obtain ⟨t, rfl⟩ := r; rfl
  | ref _ => cases r; rfl
  | ty _ => cases r; rfl
theorem RelV.inj {x y : V} {u : Value} (r : RelV x u) (q : RelV y u) : x = y := Option.some.inj (r.abs.symm.trans q.abs)
theorem Vals.inj : ∀ {xs ys : List V} {us : List Value}, Vals xs us → Vals ys us → xs = ys
  | _, _, _, .nil, .nil => rfl
  | _, _, _, .cons r t, .cons r' t' => by rw [r.inj r', Vals.inj t t']
section
variable {X : Cx} {pins : List (Addr × Obj)} {σ : St} {H : Hp} {s : Shared} {a : Addr} {xs ys : List V}
theorem SqL.of {K : PySem.W.Frag} (h : H a = some (.lst xs)) : SqL K H a xs := .inl (.inl h)
theorem SqT.of {K : PySem.W.Frag} (h : H a = some (.tup xs)) : SqT K H a xs := .inl (.inl h)
theorem Inv.list (I : Inv X pins σ H s) (h : SqL X.K H a xs) : ∃ its : List Value, Vals xs its ∧ PlainL s.heap a its.toArray ∧ xs.length ≤ sizeLine := by
  rcases h with h | ⟨o, its, n, hk, hc, hd, hs, hz, r⟩
  · obtain ⟨z, its, n, r, e⟩ := h.ok I.hok
    exact ⟨its, r, ⟨_, n, e, rfl, rfl, rfl⟩, z⟩
  · refine ⟨its.toList, r, ⟨o, n, I.kIn a o hk, hc, hd, by simpa using hs⟩, ?_⟩
    have e := r.length
    simp only [Array.length_toList] at e
    omega
theorem Inv.tuple (I : Inv X pins σ H s) (h : SqT X.K H a xs) : ∃ its : List Value, Vals xs its ∧ IsTup s.heap a its.toArray ∧ xs.length ≤ sizeLine := by
  rcases h with h | ⟨o, its, n, hk, hc, hs, hz, r⟩
  · obtain ⟨z, its, r, p⟩ := h.ok I.hok
    exact ⟨its, r, p, z⟩
  · refine ⟨its.toList, r, ⟨o, I.kIn a o hk, hc, n, by simpa using hs⟩, ?_⟩
    have e := r.length
    simp only [Array.length_toList] at e
    omega
theorem Inv.list_inj (I : Inv X pins σ H s) (h : SqL X.K H a xs) (h' : SqL X.K H a ys) : xs = ys := by
  obtain ⟨its, r, ⟨o, n, e, _, _, d⟩, _⟩ := I.list h
  obtain ⟨its', r', ⟨o', n', e', _, _, d'⟩, _⟩ := I.list h'
  rw [e] at e'; cases e'
  rw [d] at d'
  injection d' with d1 _
  have : its = its' := by simpa using congrArg Array.toList d1
  subst this
  exact r.inj r'
theorem Inv.tuple_inj (I : Inv X pins σ H s) (h : SqT X.K H a xs) (h' : SqT X.K H a ys) : xs = ys := by
  obtain ⟨its, r, ⟨o, e, _, n, d⟩, _⟩ := I.tuple h
  obtain ⟨its', r', ⟨o', e', _, n', d'⟩, _⟩ := I.tuple h'
  rw [e] at e'; cases e'
  rw [d] at d'
  injection d' with d1 _
  have : its = its' := by simpa using congrArg Array.toList d1
  subst this
  exact r.inj r'
end
abbrev Cx.wish (X : Cx) (E : Value → Shared → Prop) : Cx := { X with xe := E }
abbrev Cx.nox (X : Cx) : Cx := X.wish fun _ _ => False
theorem Cx.Ok.wish {X : Cx} (ok : X.Ok) (E : Value → Shared → Prop) : (X.wish E).Ok :=
  ⟨ok.mod, ok.kind, ok.glob, ok.blt, ok.above, ok.inj, ok.has, ok.cab, ok.hd, ok.frames, ok.stk, ok.exf, ok.bs, ok.bsz, ok.noex, ok.exfs, ok.funs, ok.frf⟩
theorem Cx.Ok.unwish {X : Cx} {E : Value → Shared → Prop} (ok : (X.wish E).Ok) : X.Ok :=
  ⟨ok.mod, ok.kind, ok.glob, ok.blt, ok.above, ok.inj, ok.has, ok.cab, ok.hd, ok.frames, ok.stk, ok.exf, ok.bs, ok.bsz, ok.noex, ok.exfs, ok.funs, ok.frf⟩
section
variable {X : Cx} {pins : List (Addr × Obj)} {σ : St} {H : Hp} {s : Shared} {E : Value → Shared → Prop}
theorem Inv.wish (I : Inv X pins σ H s) (E : Value → Shared → Prop) : Inv (X.wish E) pins σ H s := ⟨I.ok.wish E, I.os, I.bare, I.base, I.loc, I.cell, I.free, I.freeC, I.pin, I.hok, I.len⟩
theorem Inv.unwish (I : Inv (X.wish E) pins σ H s) : Inv X pins σ H s := ⟨I.ok.unwish, I.os, I.bare, I.base, I.loc, I.cell, I.free, I.freeC, I.pin, I.hok, I.len⟩
theorem SP.unwish {D : Ends} {f : Flow} {s' : Shared} (h : SP (X.wish E) pins D f s') : SP X pins D f s' := by
  cases f with
  | next => obtain ⟨σ', H', I, q⟩ := h; exact ⟨σ', H', I.unwish, q⟩
  | brk => obtain ⟨σ', H', I, q⟩ := h; exact ⟨σ', H', I.unwish, q⟩
  | cont => obtain ⟨σ', H', I, q⟩ := h; exact ⟨σ', H', I.unwish, q⟩
  | ret u => obtain ⟨v, σ', H', I, r, q⟩ := h; exact ⟨v, σ', H', I.unwish, r, q⟩
theorem PE.nox {e : Expr} {t : TE} (h : PE X.nox e t) : PE X e t := fun pins s σ H Q I hw =>
  wpAny_mono (h pins s σ H Q (I.wish _) hw) (fun _ _ ⟨v, H', I', r, q⟩ => ⟨v, H', I'.unwish, r, q⟩) fun _ _ z => False.elim z
theorem PT.nox {e : Expr} {t : TT} (h : PT X.nox e t) : PT X e t := fun pins s σ H Q I hw =>
  wpAny_mono (h pins s σ H Q (I.wish _) hw) (fun _ _ ⟨H', I', q⟩ => ⟨H', I'.unwish, q⟩) fun _ _ z => False.elim z
theorem PSs.nox {st : List Stmt} {t : TS} (h : PSs X.nox st t) : PSs X st t := fun pins s σ H D I hw =>
  wpAny_mono (h pins s σ H D (I.wish _) hw) (fun _ _ q => q.unwish) fun _ _ z => False.elim z
end
section
variable {X : Cx} {st : Stmt} {rest : List Stmt} {t u : TS} {e : Expr} {te : TE} {pos : Pos}
def tNext : TS := fun D σ H => D.nx σ H
def tSeq (t u : TS) : TS := fun D σ H => t { D with nx := u D } σ H
theorem pss_nil : PSs X [] tNext := fun _ _ σ H _ I h => wpAny_execs_nil ⟨σ, H, I, h⟩
theorem pss_cons (h1 : PS X st t) (h2 : PSs X rest u) : PSs X (st :: rest) (tSeq t u) := by
  intro pins s σ H D I h
  refine wpAny_execs_cons (thn (h1 pins s σ H { D with nx := u D } I h) fun f s1 q => ?_)
  cases f with
  | next =>
    obtain ⟨σ', H', I', q⟩ := q
    exact h2 pins s1 σ' H' D I' q
  | ret v => exact q
  | brk => exact q
  | cont => exact q
theorem pss_one (h1 : PS X st t) : PSs X [st] t := by
  intro pins s σ H D I h
  refine wpAny_execs_cons (thn (h1 pins s σ H D I h) fun f s1 q => ?_)
  cases f with
  | next => exact wpAny_execs_nil q
  | ret v => exact q
  | brk => exact q
  | cont => exact q
def tBreak : TS := fun D σ H => D.bk σ H
def tCont : TS := fun D σ H => D.ct σ H
theorem Inv.quiet {pins : List (Addr × Obj)} {σ : St} {H : Hp} {s : Shared} (I : Inv X pins σ H s) : interactive X.env = false := by simp [interactive, I.ok.kind]
def tDrop (te : TE) : TS := fun D σ H => te σ H fun _ H1 => D.nx σ H1
theorem ps_expr (he : PE X e te) (hs : swapsWith e none pos.line X.env = pure false := by rfl) : PS X (.Expr e pos) (tDrop te) := by
  intro pins s σ H D I h
  exact wpAny_Expr_any (thn (he pins s σ H _ I h) fun v s1 ⟨x, H1, I1, r1, q1⟩ => ⟨σ, H1, I1, q1⟩) I.quiet hs
def tRet (te : TE) : TS := fun D σ H => te σ H D.rt
theorem ps_ret (he : PE X e te) : PS X (.Return (some e) pos) (tRet te) := by
  intro pins s σ H D I h
  exact wpAny_Return_some (thn (he pins s σ H _ I h) fun v s1 ⟨x, H1, I1, r1, q1⟩ => ⟨x, σ, H1, I1, r1, q1⟩)
def tRetN : TS := fun D _ H => D.rt .non H
def tIfS (c : TT) (t u : TS) : TS := fun D σ H => c σ H fun b H1 => if b = true then t D σ H1 else u D σ H1
theorem ps_if {c : Expr} {a b : List Stmt} {tc : TT} (hc : PT X c tc) (ha : PSs X a t) (hb : PSs X b u) : PS X (.If c a b pos) (tIfS tc t u) := by
  intro pins s σ H D I h
  refine wpAny_If (thn (hc pins s σ H _ I h) fun d s1 ⟨H1, I1, q1⟩ => ?_)
  cases d with
  | true => exact ha pins s1 σ H1 D I1 q1
  | false => exact hb pins s1 σ H1 D I1 q1
def tNever : TS := fun _ _ _ => False
end
abbrev TG := V → St → Hp → (St → Hp → Prop) → Prop
abbrev TGs := List V → St → Hp → (St → Hp → Prop) → Prop
def PG (X : Cx) (target : Expr) (t : TG) : Prop :=
  ∀ (pins : List (Addr × Obj)) (s : Shared) (σ : St) (H : Hp) (v : V) (u : Value) (Q : St → Hp → Prop), Inv X pins σ H s → RelV v u → t v σ H Q →
    wpAny (model X.prog X.w) X.A (assign target X.env u) (fun _ s' => ∃ σ' H', Inv X pins σ' H' s' ∧ Q σ' H') X.xe s
def PGs (X : Cx) (ts : List Expr) (t : TGs) : Prop :=
  ∀ (pins : List (Addr × Obj)) (s : Shared) (σ : St) (H : Hp) (vs : List V) (us : List Value) (Q : St → Hp → Prop), Inv X pins σ H s → Vals vs us → t vs σ H Q →
    wpAny (model X.prog X.w) X.A (assignInOrder ((assignEach ts X.env).map (·.2)) us) (fun _ s' => ∃ σ' H', Inv X pins σ' H' s' ∧ Q σ' H') X.xe s
abbrev TSet := V → V → V → Hp → (Hp → Prop) → Prop
def PSet (X : Cx) (t : TSet) : Prop :=
  ∀ (pins : List (Addr × Obj)) (s : Shared) (σ : St) (H : Hp) (o i v : V) (ov iv u : Value) (Q : Hp → Prop), Inv X pins σ H s → RelV o ov → RelV i iv → RelV v u → t o i v H Q →
    wpAny (model X.prog X.w) X.A (setItem ov iv u) (fun _ s' => ∃ H', Inv X pins σ H' s' ∧ Q H') X.xe s
abbrev TIp := V → V → Hp → VK → Prop
def PIp (X : Cx) (op : Operator) (t : TIp) : Prop :=
  ∀ (pins : List (Addr × Obj)) (s : Shared) (σ : St) (H : Hp) (x y : V) (v u : Value) (Q : VK), Inv X pins σ H s → RelV x v → RelV y u → t x y H Q →
    wpAny (model X.prog X.w) X.A (inplaceOp op v u) (EP X pins σ Q) X.xe s
section
variable {X : Cx} {pos : Pos}
def gName (i : Nat) : TG := fun v σ H Q => Q (σ.set i (some v)) H
theorem pg_name {i : Nat} {x : Str} (hN : X.N.Nodup) (hi : X.N[i]? = some x) (hx : Loc X.env.scope x) (hf : X.fn x = true ∨ X.env.scope.names.lookup x = some .local := by first | exact .inl rfl | exact .inr rfl | assumption) : PG X (.Name x pos) (gName i) := by
  intro pins s σ H v u Q I r h
  exact wpAny_assign_Name (store_ok I hN hi hx r (fun s' I' => ⟨_, H, I', h⟩) hf)
def gNil : TGs := fun vs σ H Q => vs = [] ∧ Q σ H
def gCons (t : TG) (u : TGs) : TGs := fun vs σ H Q => ∃ v r, vs = v :: r ∧ t v σ H fun σ' H' => u r σ' H' Q
theorem pgs_nil : PGs X [] gNil := by
  intro pins s σ H vs us Q I r h
  obtain ⟨e, h⟩ := h
  subst e
  cases r
  exact assignInOrder_nil ⟨σ, H, I, h⟩
theorem pgs_cons {e : Expr} {es : List Expr} {t : TG} {u : TGs} (h1 : PG X e t) (h2 : PGs X es u)
    (hs : (assignEach (e :: es) X.env).map (·.2) = assign e X.env :: (assignEach es X.env).map (·.2) := by rfl) : PGs X (e :: es) (gCons t u) := by
  intro pins s σ H vs us Q I r h
  obtain ⟨v, vr, e1, h⟩ := h
  subst e1
  cases r with
  | cons r rr =>
    rw [hs]
    refine assignInOrder_cons (thn (h1 pins s σ H _ _ _ I r h) fun _ s1 ⟨σ1, H1, I1, q1⟩ => ?_)
    exact h2 pins s1 σ1 H1 _ _ Q I1 rr q1
def gTup (K : PySem.W.Frag) (n : Nat) (t : TGs) : TG := fun v σ H Q => ∃ a xs, v = .ref a ∧ SqT K H a xs ∧ xs.length = n ∧ t xs σ H Q
theorem pg_tup {es : List Expr} {k : Nat} {t : TGs} {n : Nat} (hc : X.calm = true) (h : PGs X es t)
    (hn : (assignEach es X.env).length = n := by rfl) (hst : (assignEach es X.env).findIdx? (·.1) = none := by rfl) : PG X (.Tuple es k pos) (gTup X.K n t) := by
  intro pins s σ H v u Q I r hw
  obtain ⟨a, xs, e1, hq, hl, hw⟩ := hw
  subst e1
  cases r
  obtain ⟨its, rv, ht, hz⟩ := I.tuple hq
  refine assign_Tuple_tuple (I.ok.hd hc) ht (by simp [hn, ← hl, rv.length]) hst fun h' hx => ?_
  have I1 : Inv X pins σ H { s with heap := h' } := I.kept (t' := s.toks) fun b o e => hx b o (Nat.ne_of_lt (Heap.lt_size e)) e
  exact h pins _ σ H xs _ Q I1 (by simpa using rv) hw
def gSub (to ti : TE) (t : TSet) : TG := fun v σ H Q => to σ H fun o H1 => ti σ H1 fun i H2 => t o i v H2 fun H3 => Q σ H3
def tAsg (te : TE) (g : TG) : TS := fun D σ H => te σ H fun x H1 => g x σ H1 D.nx
theorem ps_set {i : Nat} {x : Str} {e : Expr} {te : TE} {pos' : Pos} (hN : X.N.Nodup) (hi : X.N[i]? = some x) (hx : Loc X.env.scope x) (he : PE X e te) (hs : swapsWith e (some (.Name x pos')) pos.line X.env = pure false := by rfl) (hf : X.fn x = true ∨ X.env.scope.names.lookup x = some .local := by first | exact .inl rfl | exact .inr rfl | assumption) :
    PS X (.Assign [.Name x pos'] e pos) (tAsg te (gName i)) := by
  intro pins s σ H D I h
  refine wpAny_Assign_Name (thn (he pins s σ H _ I h) fun v s1 ⟨y, H1, I1, r1, q1⟩ => ?_) hs
  exact store_ok I1 hN hi hx r1 (fun s2 I2 => ⟨_, H1, I2, q1⟩) hf
def tPar (i j : Nat) (ta : TA) : TS := fun D σ H => ta σ H fun vs H1 => ∃ v w, vs = [v, w] ∧ D.nx ((σ.set i (some v)).set j (some w)) H1
def tAug (i : Nat) (te : TE) (ti : TIp) : TS := fun D σ H => ∃ x, σ[i]? = some (some x) ∧ te σ H fun y H1 => ti x y H1 fun z H2 => D.nx (σ.set i (some z)) H2
def tAugS (to ti te : TE) (tget : V → V → Hp → VK → Prop) (tip : TIp) (tset : TSet) : TS := fun D σ H => to σ H fun o H1 => ti σ H1 fun i H2 => tget o i H2 fun x H3 => te σ H3 fun y H4 => tip x y H4 fun z H5 => tset o i z H5 fun H6 => D.nx σ H6
def PGet (X : Cx) (t : V → V → Hp → VK → Prop) : Prop :=
  ∀ (pins : List (Addr × Obj)) (s : Shared) (σ : St) (H : Hp) (o i : V) (ov iv : Value) (Q : VK), Inv X pins σ H s → RelV o ov → RelV i iv → t o i H Q →
    wpAny (model X.prog X.w) X.A (getItem ov iv) (EP X pins σ Q) X.xe s
def ipI (f : Int → Int → Int) : TIp := fun x y H Q => ∃ i j, x = .int i ∧ y = .int j ∧ Q (.int (f i j)) H
end
section
variable {X : Cx} {pos : Pos}
def tWhile (c : TT) (tb : TS) : TS := fun D σ H => ∃ W : Nat → St → Hp → Prop, (∃ m, W m σ H) ∧ ∀ m σ H, W m σ H →
  c σ H fun b H1 => if b = true then ∃ N : St → Hp → Prop, (∀ σ' H', N σ' H' → ∃ m', m' < m ∧ W m' σ' H') ∧ tb { D with nx := N, ct := N, bk := D.nx } σ H1 else D.nx σ H1
end
structure It where
  go : Nat → Hp → Prop
  yld : Nat → Hp → V → Hp → Prop
  stop : Nat → Hp → Prop
def FpOk (X : Cx) (pins : List (Addr × Obj)) (H : Hp) (b : Addr) : Prop :=
  H b = none ∧ b ≠ X.env.locals ∧ b ∉ X.fs ∧ (b ∈ X.ex ∨ X.s₀.heap.objs.size ≤ b) ∧ (∀ x c, X.env.cells.lookup x = some c → c ≠ b) ∧ ∀ p ∈ X.pn ++ pins, p.1 ≠ b
theorem Inv.fpOk {X : Cx} {pins : List (Addr × Obj)} {σ : St} {H H' : Hp} {s : Shared} {b : Addr} (I : Inv X pins σ H s) (hb : s.heap.objs.size ≤ b) (hn : H' b = none) : FpOk X pins H' b := by
  refine ⟨hn, Nat.ne_of_gt (Nat.lt_of_lt_of_le I.lt hb), I.nofs hb, .inr (Nat.le_trans I.sz hb), fun x c e z => ?_, fun p hp z => ?_⟩
  · obtain ⟨v, q⟩ := I.cell x c e
    exact absurd (Nat.lt_of_lt_of_le q.lt (by rw [z]; exact hb)) (Nat.lt_irrefl _)
  · exact absurd (Nat.lt_of_lt_of_le (Heap.lt_size (I.pin p hp).1) (by rw [z]; exact hb)) (Nat.lt_irrefl _)
structure Turn (P : Program) (w : World) (K : PySem.W.Frag) (tg : Expr) (J : It) (fp : List Addr) (it : Addr) (tn : Nat → Heap → Prop) : Prop where
  mem : it ∈ fp
  obj : ∀ i h, tn i h → ∀ b ∈ fp, ∃ o, h.get? b = some o ∧ ∀ v, o.data ≠ .cell v
  keep : ∀ i h h', tn i h → (∀ b ∈ fp, ∀ o, h.get? b = some o → h'.get? b = some o) → tn i h'
  item : ∀ (X : Cx), X.prog = P → X.w = w → X.K = K → X.calm = true → ∀ (i : Nat) (pins : List (Addr × Obj)) (s : Shared) (σ : St) (H : Hp) (E : Value → Shared → Prop), Inv X pins σ H s → (∀ b ∈ fp, FpOk X pins H b) → tn i s.heap → J.go i H →
    wpAny (model P w) X.A (pyNext (.ref it)) (fun r s1 => ∃ u, r = some u ∧
      wpAny (model P w) X.A (letOwnedTupleGo tg (.ref it) u) (fun _ s2 => ∃ x H', Inv X pins σ H' s2 ∧ RelV x u ∧ J.yld i H x H' ∧ tn (i + 1) s2.heap ∧ ∀ b ∈ fp, H' b = none) E s1) E s
  done : ∀ (X : Cx), X.prog = P → X.w = w → X.K = K → X.calm = true → ∀ (i : Nat) (pins : List (Addr × Obj)) (s : Shared) (σ : St) (H : Hp) (E : Value → Shared → Prop), Inv X pins σ H s → (∀ b ∈ fp, FpOk X pins H b) → tn i s.heap → J.stop i H →
    wpAny (model P w) X.A (pyNext (.ref it)) (fun r s1 => r = none ∧ Inv X pins σ H s1) E s
  self : ∀ (A : Around) (i : Nat) (s : Shared) (Q : Value → Shared → Prop) (E : Value → Shared → Prop), tn i s.heap → Q (.ref it) s → wpAny (model P w) A (pyIter (.ref it)) Q E s
abbrev TI := St → Hp → (It → Hp → Prop) → Prop
def PIE (X : Cx) (pins : List (Addr × Obj)) (σ : St) (tg : Expr) (R : It → Hp → Prop) (itv : Value) (s2 : Shared) : Prop :=
  ∃ (it : Addr) (fp : List Addr) (tn : Nat → Heap → Prop) (J : It) (H' : Hp), itv = .ref it ∧ Inv X pins σ H' s2 ∧ Turn X.prog X.w X.K tg J fp it tn ∧ tn 0 s2.heap ∧ (∀ b ∈ fp, FpOk X pins H' b) ∧ R J H'
def PI (X : Cx) (tg iter : Expr) (wi : TI) : Prop :=
  ∀ (pins : List (Addr × Obj)) (s : Shared) (σ : St) (H : Hp) (R : It → Hp → Prop), Inv X pins σ H s → wi σ H R →
    wpAny (model X.prog X.w) X.A (eval iter X.env) (fun v s1 => wpAny (model X.prog X.w) X.A (pyIter v) (PIE X pins σ tg R) X.xe s1) X.xe s
theorem go_of {M : Model} {A : Around} {E : Value → Shared → Prop} {s : Shared} {tg : Expr} {it : Addr} {u : Value} {o : Obj} {n : String} {vs : Array Value} {Q : Unit → Shared → Prop} (ho : s.heap.get? it = some o) (hc : o.cls = .type n) (hd : o.data = .fields vs)
    (hn : ["enumerate", "zip", "dict_itemiterator", "dict_reverseitemiterator", "odict_iterator", "itertools.zip_longest", "itertools.pairwise"].contains n = false) (hQ : Q () s) : wpAny M A (letOwnedTupleGo tg (.ref it) u) Q E s := by
  unfold letOwnedTupleGo
  cases tg <;> first
    | exact wpAny_pure hQ
    | (cases u <;> first
        | exact wpAny_pure hQ
        | (refine wpAny_bind (wpAny_load ho ?_)
           rw [hc, hd]
           show wpAny M A (if (["enumerate", "zip", "dict_itemiterator", "dict_reverseitemiterator", "odict_iterator", "itertools.zip_longest", "itertools.pairwise"].contains n && vs[0]? == some (rawInt _)) = true then _ else _) Q E s
           rw [if_neg (by intro h; rw [hn, Bool.false_and] at h; cases h)]
           exact wpAny_pure hQ))
def Itl (K : PySem.W.Frag) (a : Addr) : It :=
  ⟨fun i H => ∃ xs x, SqL K H a xs ∧ xs[i]? = some x, fun i H x H' => H' = H ∧ ∀ xs, SqL K H a xs → xs[i]? = some x, fun i H => ∃ xs, SqL K H a xs ∧ xs.length ≤ i⟩
def Itt (K : PySem.W.Frag) (a : Addr) : It :=
  ⟨fun i H => ∃ xs x, SqT K H a xs ∧ xs[i]? = some x, fun i H x H' => H' = H ∧ ∀ xs, SqT K H a xs → xs[i]? = some x, fun i H => ∃ xs, SqT K H a xs ∧ xs.length ≤ i⟩
def Itr (lo : Int) (n : Nat) : It := ⟨fun i _ => i < n, fun i H x H' => H' = H ∧ x = .int (lo + i), fun i _ => n ≤ i⟩
theorem turn_list {P : Program} {w : World} {K : PySem.W.Frag} {tg : Expr} (a it : Addr) : Turn P w K tg (Itl K a) [it] it (fun i h => h.IsListIter it a i) where
  mem := by simp
  obj := fun i h st b hb => by
    have e : b = it := by simpa using hb
    subst e
    obtain ⟨o, e, c, d⟩ := st
    exact ⟨o, e, fun v z => by rw [d] at z; cases z⟩
  keep := fun i h h' st k => st.at fun o e => k it (by simp) o e
  item := by
    intro X hP hw hK hc i pins s σ H E I hf st hg
    subst hP hw hK
    obtain ⟨xs, x, hq, hx⟩ := hg
    obtain ⟨its, rv, p, hz⟩ := I.list hq
    obtain ⟨u, hu, ru⟩ := rv.get hx
    obtain ⟨f0, f1, f2, f3, f4, f5⟩ := hf it (by simp)
    refine wpAny_pyNext_list_item st p.isList (x := u) (by simpa using hu) fun h' st' sb => ?_
    have I1 : Inv X pins σ H { s with heap := h' } := I.turned (t' := s.toks) (fun b o hb e => (sb.2 b hb).trans e) f0 f1 f3 f4 f5
    obtain ⟨o, e, c, d⟩ := id st'
    exact ⟨u, rfl, go_of (s := { s with heap := h' }) e c d (by decide) ⟨x, H, I1, ru, ⟨rfl, fun ys hy => by rw [I.list_inj hy hq]; exact hx⟩, st', fun b hb => (hf b hb).1⟩⟩
  done := by
    intro X hP hw hK hc i pins s σ H E I hf st hg
    subst hP hw hK
    obtain ⟨xs, hq, hx⟩ := hg
    obtain ⟨its, rv, p, hz⟩ := I.list hq
    obtain ⟨f0, f1, f2, f3, f4, f5⟩ := hf it (by simp)
    have hl := rv.length
    exact wpAny_pyNext_list_end (I.ok.hd hc) st p.isList (by simp; omega) fun h' eb => ⟨rfl, I.turned (t' := s.toks) (fun b o hb e => eb b o hb e) f0 f1 f3 f4 f5⟩
  self := fun _ _ _ _ _ st h => wpAny_pyIter_listiter st h
theorem turn_tuple {P : Program} {w : World} {K : PySem.W.Frag} {tg : Expr} (a it : Addr) : Turn P w K tg (Itt K a) [it] it (fun i h => h.IsTupleIter it a i) where
  mem := by simp
  obj := fun i h st b hb => by
    have e : b = it := by simpa using hb
    subst e
    obtain ⟨o, e, c, d⟩ := st
    exact ⟨o, e, fun v z => by rw [d] at z; cases z⟩
  keep := fun i h h' st k => st.at fun o e => k it (by simp) o e
  item := by
    intro X hP hw hK hc i pins s σ H E I hf st hg
    subst hP hw hK
    obtain ⟨xs, x, hq, hx⟩ := hg
    obtain ⟨its, rv, p, hz⟩ := I.tuple hq
    obtain ⟨u, hu, ru⟩ := rv.get hx
    obtain ⟨f0, f1, f2, f3, f4, f5⟩ := hf it (by simp)
    refine wpAny_pyNext_tuple_item st (show s.heap.IsTuple a its.toArray from p) (x := u) (by simpa using hu) fun h' st' sb => ?_
    have I1 : Inv X pins σ H { s with heap := h' } := I.turned (t' := s.toks) (fun b o hb e => (sb.2 b hb).trans e) f0 f1 f3 f4 f5
    obtain ⟨o, e, c, d⟩ := id st'
    exact ⟨u, rfl, go_of (s := { s with heap := h' }) e c d (by decide) ⟨x, H, I1, ru, ⟨rfl, fun ys hy => by rw [I.tuple_inj hy hq]; exact hx⟩, st', fun b hb => (hf b hb).1⟩⟩
  done := by
    intro X hP hw hK hc i pins s σ H E I hf st hg
    subst hP hw hK
    obtain ⟨xs, hq, hx⟩ := hg
    obtain ⟨its, rv, p, hz⟩ := I.tuple hq
    obtain ⟨f0, f1, f2, f3, f4, f5⟩ := hf it (by simp)
    have hl := rv.length
    exact wpAny_pyNext_tuple_end (I.ok.hd hc) st (show s.heap.IsTuple a its.toArray from p) (by simp; omega) fun h' eb => ⟨rfl, I.turned (t' := s.toks) (fun b o hb e => eb b o hb e) f0 f1 f3 f4 f5⟩
  self := fun _ _ _ _ _ st h => wpAny_pyIter_tupleiter st h
theorem turn_range {P : Program} {w : World} {K : PySem.W.Frag} {tg : Expr} (it : Addr) (lo : Int) (n : Nat) : Turn P w K tg (Itr lo n) [it] it (fun i h => IsRangeIter h it (lo + (i : Nat) * 1) ((n : Int) - (i : Nat)) 1) where
  mem := by simp
  obj := fun i h st b hb => by
    have e : b = it := by simpa using hb
    subst e
    exact ⟨_, st, fun v z => by
      have z' : Data.fields _ = Data.cell v := z
      cases z'⟩
  keep := fun i h h' st k => k it (by simp) _ st
  item := by
    intro X hP hw hK hc i pins s σ H E I hf st hg
    subst hP hw hK
    obtain ⟨f0, f1, f2, f3, f4, f5⟩ := hf it (by simp)
    have W := Walks.range (prog := X.prog) (w := X.w) (I.ok.hd hc) it lo 1 n
    refine W.item i s _ _ hg st fun v h' tk hv st' kk => ?_
    obtain ⟨t, rfl⟩ := hv
    have I1 : Inv X pins σ H { s with heap := h', toks := tk } := I.turned (fun b o hb e => kk b o (by simpa using hb) e) f0 f1 f3 f4 f5
    refine ⟨_, rfl, go_of (s := { s with heap := h', toks := tk }) (n := "range_iterator") st' rfl rfl (by decide) ⟨.int (lo + i), H, I1, ⟨t, ?_⟩, ⟨rfl, rfl⟩, st', fun b hb => (hf b hb).1⟩⟩
    rw [Int.mul_one]
  done := by
    intro X hP hw hK hc i pins s σ H E I hf st hg
    subst hP hw hK
    obtain ⟨f0, f1, f2, f3, f4, f5⟩ := hf it (by simp)
    exact wpAny_pyNext_range_end (I.ok.hd hc) st (by have : n ≤ i := hg; omega) fun h' eb => ⟨rfl, I.turned (t' := s.toks) (fun b o hb e => eb b o hb e) f0 f1 f3 f4 f5⟩
  self := fun _ _ _ _ _ st h => wpAny_pyIter_rangeiter st h
end L2
namespace L2
open PySem PySem.Spec PyProof.Rows
section
variable {X : Cx} {tg : Expr}
def iList (K : PySem.W.Frag) (tl : TE) : TI := fun σ H R => tl σ H fun x H1 => ∃ a, x = .ref a ∧ (∃ xs, SqL K H1 a xs) ∧ R (Itl K a) H1
def iTup (K : PySem.W.Frag) (tl : TE) : TI := fun σ H R => tl σ H fun x H1 => ∃ a, x = .ref a ∧ (∃ xs, SqT K H1 a xs) ∧ R (Itt K a) H1
theorem range_it {pins : List (Addr × Obj)} {σ : St} {H : Hp} {s : Shared} {R : It → Hp → Prop} {E : Value → Shared → Prop} {lo hi : Int} {t u v : Tok} {tk : Nat} (I : Inv X pins σ H s) (h1 : -(2 ^ 62) ≤ lo) (h2 : lo < 2 ^ 62) (h3 : -(2 ^ 62) ≤ hi) (h4 : hi < 2 ^ 62)
    (q : R (Itr lo (hi - lo).toNat) H) : wpAny (model X.prog X.w) X.A (pyIter (.ref s.heap.objs.size)) (PIE X pins σ tg R) E { s with heap := s.heap.push { cls := .type "range", data := .fields #[.int lo t, .int hi u, .int 1 v] }, toks := tk } := by
  refine wpAny_pyIter_range (IsRange.new ..) (small_one h1 h2 h3 h4) ?_
  have I1 : Inv X pins σ H { s with heap := s.heap.push { cls := .type "range", data := .fields #[.int lo t, .int hi u, .int 1 v] }, toks := tk } := I.kept fun b o e => Heap.get?_push_of_some _ e
  refine ⟨(s.heap.push { cls := .type "range", data := .fields #[.int lo t, .int hi u, .int 1 v] }).objs.size, [(s.heap.push { cls := .type "range", data := .fields #[.int lo t, .int hi u, .int 1 v] }).objs.size], _, _, H, rfl,
    I1.kept (t' := tk) fun b o e => Heap.get?_push_of_some _ e, turn_range _ lo (hi - lo).toNat, ?_, fun b hb => ?_, q⟩
  · have e1 : lo + ((0 : Nat) : Int) * 1 = lo := by simp
    have e2 : (((hi - lo).toNat : Nat) : Int) - ((0 : Nat) : Int) = Builtin.Range.rangeSize lo hi 1 := by rw [rangeSize_one]; split <;> omega
    show IsRangeIter _ _ (lo + ((0 : Nat) : Int) * 1) ((((hi - lo).toNat : Nat) : Int) - ((0 : Nat) : Int)) 1
    rw [e1, e2]
    exact Heap.get?_push_size _ rfl
  · have e : b = (s.heap.push { cls := .type "range", data := .fields #[.int lo t, .int hi u, .int 1 v] }).objs.size := by simpa using hb
    subst e
    exact I1.fpOk (Nat.le_refl _) (I1.hok.fresh (Nat.le_refl _))
def iRng1 (ta : TA) : TI := fun σ H R => ta σ H fun vs H1 => ∃ j : Int, vs = [.int j] ∧ -(2 ^ 62) ≤ j ∧ j < 2 ^ 62 ∧ R (Itr 0 j.toNat) H1
def iRng2 (ta : TA) : TI := fun σ H R => ta σ H fun vs H1 => ∃ i j : Int, vs = [.int i, .int j] ∧ (-(2 ^ 62) ≤ i ∧ i < 2 ^ 62 ∧ -(2 ^ 62) ≤ j ∧ j < 2 ^ 62) ∧ R (Itr i (j - i).toNat) H1
theorem pi_range1 {a : Expr} {ta : TA} {p pos : Pos} (hg : Gl X "range") (hm : X.mg "range" = none) (ha : PA X [a] ta) (hs : starEach [a] X.env = [(false, eval a X.env)] := by rfl) : PI X tg (.Call (.Name "range" p) [a] [] pos) (iRng1 ta) := by
  intro pins s σ H R I h
  refine Call_ (ld_blt I hg hm boot_range (PyProof.Rows.callWith_type1 (thn (ha pos pins s σ H _ I h) fun us s1 ⟨vs, H1, I1, r1, q1⟩ => ?_) hs rfl))
  obtain ⟨j, e, q1, q2, q⟩ := q1
  subst e
  cases r1 with
  | cons r rr =>
    cases rr
    obtain ⟨t, rfl⟩ := r
    exact call_range_1 (range_it I1 (by omega) (by omega) q1 q2 (by simpa using q))
theorem pi_range2 {a b : Expr} {ta : TA} {p pos : Pos} (hg : Gl X "range") (hm : X.mg "range" = none) (ha : PA X [a, b] ta) (hs : starEach [a, b] X.env = [(false, eval a X.env), (false, eval b X.env)] := by rfl) (hs2 : starEach [b] X.env = [(false, eval b X.env)] := by rfl) :
    PI X tg (.Call (.Name "range" p) [a, b] [] pos) (iRng2 ta) := by
  intro pins s σ H R I h
  refine Call_ (ld_blt I hg hm boot_range (PyProof.Rows.callWith_type1 (thn (ha pos pins s σ H _ I h) fun us s1 ⟨vs, H1, I1, r1, q1⟩ => ?_) (by rw [hs, hs2]) (by rw [hs2]; rfl)))
  obtain ⟨i, j, e, ⟨q1, q2, q3, q4⟩, q⟩ := q1
  subst e
  cases r1 with
  | cons r rr =>
    cases rr with
    | cons r' rr =>
      cases rr
      obtain ⟨t, rfl⟩ := r
      obtain ⟨t', rfl⟩ := r'
      exact call_range_2 (range_it I1 q1 q2 q3 q4 q)
def tFor (wi : TI) (g : TG) (tb : TS) : TS := fun D σ H => wi σ H fun J H1 => ∃ W : Nat → Nat → St → Hp → Prop, (∃ m, W 0 m σ H1) ∧ ∀ i m σ H, W i m σ H →
  (J.stop i H ∧ D.nx σ H) ∨ (J.go i H ∧ ∃ N : St → Hp → Prop, (∀ σ' H', N σ' H' → ∃ m', m' < m ∧ W (i + 1) m' σ' H') ∧ ∀ x H', J.yld i H x H' → g x σ H' fun σ2 H2 => tb { D with nx := N, ct := N, bk := D.nx } σ2 H2)
def pinsAt (fp : List Addr) (h : Heap) : List (Addr × Obj) := fp.filterMap fun b => (h.get? b).map fun o => (b, o)
theorem mem_pinsAt {fp : List Addr} {h : Heap} {b : Addr} {o : Obj} (hb : b ∈ fp) (e : h.get? b = some o) : (b, o) ∈ pinsAt fp h := List.mem_filterMap.mpr ⟨b, hb, by rw [e]; rfl⟩
theorem of_pinsAt {fp : List Addr} {h : Heap} {p : Addr × Obj} (hp : p ∈ pinsAt fp h) : p.1 ∈ fp ∧ h.get? p.1 = some p.2 := by
  obtain ⟨b, hb, e⟩ := List.mem_filterMap.mp hp
  cases q : h.get? b with
  | none => rw [q] at e; cases e
  | some o =>
    rw [q] at e
    have e' : (b, o) = p := Option.some.inj e
    subst e'
    exact ⟨hb, q⟩
theorem Inv.pinned {pins : List (Addr × Obj)} {σ : St} {H : Hp} {s : Shared} {fp : List Addr} (I : Inv X pins σ H s) (hf : ∀ b ∈ fp, FpOk X pins H b) (ho : ∀ b ∈ fp, ∃ o, s.heap.get? b = some o ∧ ∀ v, o.data ≠ .cell v) : Inv X (pins ++ pinsAt fp s.heap) σ H s :=
  I.pins_of fun p hp => (List.mem_append.mp hp).elim (fun z => I.pin p (List.mem_append_right _ z)) fun z => by
    obtain ⟨hb, e⟩ := of_pinsAt z
    obtain ⟨f0, f1, f2, _⟩ := hf p.1 hb
    obtain ⟨o, e', d⟩ := ho p.1 hb
    rw [e] at e'; cases e'
    exact ⟨e, f0, f1, f2, d⟩
theorem Inv.unpinned {pins pl : List (Addr × Obj)} {σ : St} {H : Hp} {s : Shared} (I : Inv X (pins ++ pl) σ H s) : Inv X pins σ H s := I.pins_of fun p hp => I.pin p (List.mem_append_right _ (List.mem_append_left _ hp))
theorem ps_for {iter : Expr} {body : List Stmt} {wi : TI} {g : TG} {tb : TS} {pos : Pos} (hp : PassesOwn (model X.prog X.w) X.A X.env X.xe) (hc : X.calm = true) (hi : PI X tg iter wi) (hg : PG X tg g) (hb : PSs X body tb)
    (hs : ∀ x, foldedSetIterable iter X.env x = pure x := by intro _; rfl) : PS X (.For tg iter body [] pos) (tFor wi g tb) := by
  intro pins s σ H D I h
  refine wpAny_For (thn (hi pins s σ H _ I h) fun v s1 h1 => thn h1 fun itv s2 h2 => ?_) hs
  obtain ⟨it, fp, tn, J, H2, e, I2, T, st2, f2, W, ⟨m0, w0⟩, turn⟩ := h2
  subst e
  have stat : ∀ {H' : Hp}, (∀ b ∈ fp, H' b = none) → ∀ b ∈ fp, FpOk X pins H' b := fun hn b hb => ⟨hn b hb, (f2 b hb).2⟩
  refine codeAny_forLoop_any (fun n s' => ∃ i σ' H', Inv X pins σ' H' s' ∧ tn i s'.heap ∧ (∀ b ∈ fp, H' b = none) ∧ W i n σ' H') ?_ m0 ⟨0, σ, H2, I2, st2, fun b hb => (f2 b hb).1, w0⟩
  rintro n s3 ⟨i, σ3, H3, I3, st3, fr3, w3⟩
  rcases turn i n σ3 H3 w3 with ⟨stop, qn⟩ | ⟨go, N, hN, step⟩
  · refine wpAny_passesOwn hp (thn (T.done X rfl rfl rfl hc i pins s3 σ3 H3 X.xe I3 (stat fr3) st3 stop) fun r s4 ⟨hr, I4⟩ => ?_)
    subst hr
    exact wpAny_execs_nil ⟨σ3, H3, I4, qn⟩
  · refine wpAny_passesOwn hp (thn (T.item X rfl rfl rfl hc i pins s3 σ3 H3 X.xe I3 (stat fr3) st3 go) fun r s4 ⟨u, hr, h4⟩ => ?_)
    subst hr
    refine wpAny_passesOwn hp (thn h4 fun _ s5 ⟨x, H5, I5, r5, y5, st5, fr5⟩ => ?_)
    have I5' := I5.pinned (stat fr5) (T.obj _ _ st5)
    refine wpAny_passesOwn hp (thn (hg _ s5 σ3 H5 x u _ I5' r5 (step x H5 y5)) fun _ s6 ⟨σ6, H6, I6, q6⟩ => ?_)
    refine wpAny_passesOwn hp (thn (hb _ s6 σ6 H6 _ I6 q6) fun f s7 q7 => ?_)
    have again : ∀ {σ7 : St} {H7 : Hp}, Inv X (pins ++ pinsAt fp s5.heap) σ7 H7 s7 → N σ7 H7 → ∃ m, m < n ∧ ∃ i σ' H', Inv X pins σ' H' s7 ∧ tn i s7.heap ∧ (∀ b ∈ fp, H' b = none) ∧ W i m σ' H' := fun {σ7 H7} I7 n7 => by
      obtain ⟨m', hm, w7⟩ := hN σ7 H7 n7
      refine ⟨m', hm, i + 1, σ7, H7, I7.unpinned, T.keep _ _ _ st5 fun b hb o e => (I7.pin (b, o) (List.mem_append_right _ (List.mem_append_right _ (mem_pinsAt hb e)))).1, fun b hb => ?_, w7⟩
      obtain ⟨o, e, d⟩ := T.obj _ _ st5 b hb
      exact (I7.pin (b, o) (List.mem_append_right _ (List.mem_append_right _ (mem_pinsAt hb e)))).2.1
    cases f with
    | next => obtain ⟨σ7, H7, I7, n7⟩ := q7; exact again I7 n7
    | cont => obtain ⟨σ7, H7, I7, n7⟩ := q7; exact again I7 n7
    | brk => obtain ⟨σ7, H7, I7, q7⟩ := q7; exact ⟨σ7, H7, I7.unpinned, q7⟩
    | ret v => obtain ⟨x7, σ7, H7, I7, r7, q7⟩ := q7; exact ⟨x7, σ7, H7, I7.unpinned, r7, q7⟩
end
end L2
namespace L2
open PySem PySem.Spec PyProof.Rows
abbrev R2 := V → V → Hp → VK → Prop
def OpR (X : Cx) (f : Value → Value → Sem Value) (r : R2) : Prop :=
  ∀ (pins : List (Addr × Obj)) (s : Shared) (σ : St) (H : Hp) (x y : V) (v u : Value) (Q : VK), Inv X pins σ H s → RelV x v → RelV y u → r x y H Q →
    wpAny (model X.prog X.w) X.A (f v u) (EP X pins σ Q) X.xe s
def UnR (X : Cx) (f : Value → Sem Value) (r : V → Hp → VK → Prop) : Prop :=
  ∀ (pins : List (Addr × Obj)) (s : Shared) (σ : St) (H : Hp) (x : V) (v : Value) (Q : VK), Inv X pins σ H s → RelV x v → r x H Q →
    wpAny (model X.prog X.w) X.A (f v) (EP X pins σ Q) X.xe s
def CallR (X : Cx) (f : Value) (r : List V → Hp → VK → Prop) : Prop :=
  ∀ (pins : List (Addr × Obj)) (s : Shared) (σ : St) (H : Hp) (xs : List V) (us : List Value) (Q : VK), Inv X pins σ H s → Vals xs us → r xs H Q →
    wpAny (model X.prog X.w) X.A (call f us) (EP X pins σ Q) X.xe s
def TruR (X : Cx) (r : V → Hp → (Bool → Hp → Prop) → Prop) : Prop :=
  ∀ (pins : List (Addr × Obj)) (s : Shared) (σ : St) (H : Hp) (x : V) (v : Value) (Q : Bool → Hp → Prop), Inv X pins σ H s → RelV x v → r x H Q →
    wpAny (model X.prog X.w) X.A (truthy v) (TP X pins σ Q) X.xe s
def tOp (r : R2) (ta tb : TE) : TE := fun σ H Q => ta σ H fun x H1 => tb σ H1 fun y H2 => r x y H2 Q
def tUn (r : V → Hp → VK → Prop) (ta : TE) : TE := fun σ H Q => ta σ H fun x H1 => r x H1 Q
def rI (C : Int → Int → Prop) (g : Int → Int → V) : R2 := fun x y H Q => ∃ i j, x = .int i ∧ y = .int j ∧ C i j ∧ Q (g i j) H
def rI0 (g : Int → Int → V) : R2 := fun x y H Q => ∃ i j, x = .int i ∧ y = .int j ∧ Q (g i j) H
def rU (g : Int → V) : V → Hp → VK → Prop := fun x H Q => ∃ i, x = .int i ∧ Q (g i) H
section
variable {X : Cx} {a b c : Expr} {ta tb tc : TE} {pos : Pos}
theorem binT (ha : PE X a ta) (hb : PE X b tb) {pins : List (Addr × Obj)} {s : Shared} {σ : St} {H : Hp} {R : V → V → Hp → Prop} (I : Inv X pins σ H s)
    (h : ta σ H fun x H1 => tb σ H1 fun y H2 => R x y H2) {Q : Value → Shared → Prop} {f : Value → Value → Sem Value}
    (hf : ∀ v u s2 x y H2, Inv X pins σ H2 s2 → RelV x v → RelV y u → R x y H2 → wpAny (model X.prog X.w) X.A (f v u) Q X.xe s2) :
    wpAny (model X.prog X.w) X.A (eval a X.env) (fun v s₁ => wpAny (model X.prog X.w) X.A (eval b X.env) (fun u s₂ => wpAny (model X.prog X.w) X.A (f v u) Q X.xe s₂) X.xe s₁) X.xe s := by
  refine thn (ha pins s σ H _ I h) fun v s1 ⟨x, H1, I1, r1, q1⟩ => ?_
  refine thn (hb pins s1 σ H1 _ I1 q1) fun u s2 ⟨y, H2, I2, r2, q2⟩ => ?_
  exact hf v u s2 x y H2 I2 r1 r2 q2
theorem pe_op {op : Operator} {r : R2} (ho : OpR X (binaryOp op) r) (ha : PE X a ta) (hb : PE X b tb) : PE X (.BinOp a op b pos) (tOp r ta tb) := by
  intro pins s σ H Q I h
  exact wpAny_BinOp (binT ha hb I h fun v u s2 x y H2 I2 rx ry q => ho pins s2 σ H2 x y v u Q I2 rx ry q)
theorem pe_un {op : UnaryOp} {r : V → Hp → VK → Prop} (ho : UnR X (unaryOp op) r) (ha : PE X a ta) : PE X (.UnaryOp op a pos) (tUn r ta) := by
  intro pins s σ H Q I h
  exact UnaryOp_ (thn (ha pins s σ H _ I h) fun v s1 ⟨x, H1, I1, r1, q1⟩ => ho pins s1 σ H1 x v Q I1 r1 q1)
theorem opI {f : Value → Value → Sem Value} {C : Int → Int → Prop} {g : Int → Int → Int}
    (rule : ∀ (i j : Int) (t u : Tok) (s : Shared) (Q : Value → Shared → Prop) (E : Value → Shared → Prop), C i j → Q (.int (g i j) s.toks) { s with toks := s.toks + 1 } → wpAny (model X.prog X.w) X.A (f (.int i t) (.int j u)) Q E s) :
    OpR X f (rI C fun i j => .int (g i j)) := by
  intro pins s σ H x y v u Q I rx ry h
  obtain ⟨i, j, rfl, rfl, hc, q⟩ := h
  obtain ⟨t, rfl⟩ := rx
  obtain ⟨t', rfl⟩ := ry
  exact rule i j t t' s _ _ hc ⟨.int (g i j), H, I.tok _, ⟨_, rfl⟩, q⟩
theorem opI0 {f : Value → Value → Sem Value} {g : Int → Int → Int}
    (rule : ∀ (i j : Int) (t u : Tok) (s : Shared) (Q : Value → Shared → Prop) (E : Value → Shared → Prop), Q (.int (g i j) s.toks) { s with toks := s.toks + 1 } → wpAny (model X.prog X.w) X.A (f (.int i t) (.int j u)) Q E s) :
    OpR X f (rI0 fun i j => .int (g i j)) := by
  intro pins s σ H x y v u Q I rx ry h
  obtain ⟨i, j, rfl, rfl, q⟩ := h
  obtain ⟨t, rfl⟩ := rx
  obtain ⟨t', rfl⟩ := ry
  exact rule i j t t' s _ _ ⟨.int (g i j), H, I.tok _, ⟨_, rfl⟩, q⟩
theorem opB0 {f : Value → Value → Sem Value} {g : Int → Int → Bool}
    (rule : ∀ (i j : Int) (t u : Tok) (s : Shared) (Q : Value → Shared → Prop) (E : Value → Shared → Prop), Q (.bool (g i j)) s → wpAny (model X.prog X.w) X.A (f (.int i t) (.int j u)) Q E s) :
    OpR X f (rI0 fun i j => .bl (g i j)) := by
  intro pins s σ H x y v u Q I rx ry h
  obtain ⟨i, j, rfl, rfl, q⟩ := h
  obtain ⟨t, rfl⟩ := rx
  obtain ⟨t', rfl⟩ := ry
  exact rule i j t t' s _ _ ⟨.bl (g i j), H, I, rfl, q⟩
def CDiv (i j : Int) : Prop := 0 < j ∧ j < 1073741824
def CDivN (i j : Int) : Prop := j ≠ 0 ∧ j.natAbs < 1073741824
def CPow (i j : Int) : Prop := 0 ≤ j ∧ j ≤ 1000000 ∧ i.natAbs < 2 ^ 64
def CMul (i j : Int) : Prop := (-(2 ^ 64) < i ∧ i < 2 ^ 64) ∨ (-(2 ^ 64) < j ∧ j < 2 ^ 64)
theorem CMul.ok {i j : Int} (h : CMul i j) : IntMulOk i j := by
  rcases h with ⟨h1, h2⟩ | ⟨h1, h2⟩
  · exact .of_left (intBits_le_64 h1 h2)
  · exact .of_right (intBits_le_64 h1 h2)
theorem two_pow_nn (k : Nat) : (0 : Int) ≤ 2 ^ k := by
  rw [two_pow_cast]
  exact Int.natCast_nonneg _
theorem op_add : OpR X (binaryOp .Add) (rI0 fun i j => .int (i + j)) := opI0 fun _ _ _ _ _ _ _ q => add_int q
theorem op_sub : OpR X (binaryOp .Sub) (rI0 fun i j => .int (i - j)) := opI0 fun _ _ _ _ _ _ _ q => sub_int q
theorem op_mul : OpR X (binaryOp .Mult) (rI CMul fun i j => .int (i * j)) := opI fun _ _ _ _ _ _ _ hc q => mul_int q hc.ok
theorem op_fdiv : OpR X (binaryOp .FloorDiv) (rI CDiv fun i j => .int (i / j)) := opI fun i j _ _ _ _ _ hc q => by
  have h1 : (0 : Int) < j := hc.1
  have h2 : j < 1073741824 := hc.2
  exact floordiv_int (by omega) (by rw [Int.fdiv_eq_ediv_of_nonneg i (by omega)]; exact q) (.inl (PyProof.noPylong_small (by omega)))
theorem op_mod : OpR X (binaryOp .Mod) (rI (fun _ j => 0 < j) fun i j => .int (i % j)) := opI fun i j _ _ _ _ _ hc q => by
  have h1 : (0 : Int) < j := hc
  exact mod_int' (by omega) (by rw [Int.fmod_eq_emod_of_nonneg i (by omega)]; exact q)
theorem op_pow : OpR X (binaryOp .Pow) (rI CPow fun i j => .int (i ^ j.toNat)) := opI fun _ _ _ _ _ _ _ hc q => pow_int_small hc.1 hc.2.1 hc.2.2 q
theorem op_shl : OpR X (binaryOp .LShift) (rI CPow fun i j => .int (i * 2 ^ j.toNat)) := opI fun _ _ _ _ _ _ _ hc q => lshift_int_small hc.1 hc.2.1 hc.2.2 q
theorem op_shr : OpR X (binaryOp .RShift) (rI (fun _ j => 0 ≤ j) fun i j => .int (i / 2 ^ j.toNat)) := opI fun i j _ _ _ _ _ hc q =>
  rshift_int hc (by rw [Int.fdiv_eq_ediv_of_nonneg i (two_pow_nn _)]; exact q)
theorem op_and : OpR X (binaryOp .BitAnd) (rI0 fun i j => .int (Builtin.bitAnd i j)) := opI0 fun _ _ _ _ _ _ _ q => and_int q
theorem op_or : OpR X (binaryOp .BitOr) (rI0 fun i j => .int (Builtin.bitOr i j)) := opI0 fun _ _ _ _ _ _ _ q => or_int q
theorem unI {f : Value → Sem Value} {g : Int → Int}
    (rule : ∀ (i : Int) (t : Tok) (s : Shared) (Q : Value → Shared → Prop) (E : Value → Shared → Prop), Q (.int (g i) s.toks) { s with toks := s.toks + 1 } → wpAny (model X.prog X.w) X.A (f (.int i t)) Q E s) :
    UnR X f (rU fun i => .int (g i)) := by
  intro pins s σ H x v Q I rx h
  obtain ⟨i, rfl, q⟩ := h
  obtain ⟨t, rfl⟩ := rx
  exact rule i t s _ _ ⟨.int (g i), H, I.tok _, ⟨_, rfl⟩, q⟩
theorem un_neg : UnR X (unaryOp .USub) (rU fun i => .int (-i)) := unI fun _ _ _ _ _ q => neg_int q
end
def scal : V → V → Bool
  | .non, .non => true | .non, .int _ => true | .int _, .non => true | .non, .bl _ => true | .bl _, .non => true | .non, .str _ => true | .str _, .non => true
  | .int _, .int _ => true | .bl _, .bl _ => true | .str _, .str _ => true | .byt _, .byt _ => true
  | .int _, .str _ => true | .str _, .int _ => true | .bl _, .str _ => true | .str _, .bl _ => true
  | _, _ => false
def rEq : R2 := fun x y H Q => scal x y = true ∧ Q (.bl (decide (x = y))) H
def rNe : R2 := fun x y H Q => scal x y = true ∧ Q (.bl (!decide (x = y))) H
theorem dec_int {i j : Int} : decide (V.int i = V.int j) = (i == j) := by
  rw [Bool.eq_iff_iff]
  simp
theorem dec_bl {i j : Bool} : decide (V.bl i = V.bl j) = (i == j) := by
  rw [Bool.eq_iff_iff]
  simp
theorem dec_str {i j : Str} : decide (V.str i = V.str j) = (i == j) := by
  rw [Bool.eq_iff_iff]
  simp
theorem dec_byt {i j : Array UInt8} : decide (V.byt i = V.byt j) = (i.toList == j.toList) := by
  rw [Bool.eq_iff_iff]
  cases i
  cases j
  simp
section
variable {X : Cx} {a b c : Expr} {ta tb tc : TE} {pos : Pos}
theorem fin_bl {pins : List (Addr × Obj)} {σ : St} {H : Hp} {s : Shared} {Q : VK} {k k' : Bool} (I : Inv X pins σ H s) (q : Q (.bl k) H) (e : k = k') : EP X pins σ Q (.bool k') s := by
  subst e
  exact ⟨.bl k, H, I, rfl, q⟩
theorem op_eq : OpR X (compareOp .Eq) rEq := by
  intro pins s σ H x y v u Q I rx ry h
  obtain ⟨hs, q⟩ := h
  cases x with
  | non =>
    cases rx
    cases y with
    | non => cases ry; exact PySem.EqNone.eq_none_none (fin_bl I q (by simp))
    | bl j => cases ry; exact PySem.EqNone.eq_none_bool (fin_bl I q (by simp))
    | int j => obtain ⟨t', rfl⟩ := ry; exact PySem.EqNone.eq_none_int (fin_bl I q (by simp))
    | str j => obtain ⟨t', rfl⟩ := ry; exact PySem.EqNone.eq_none_str (fin_bl I q (by simp))
    | _ => exact absurd (show false = true from hs) Bool.false_ne_true
  | bl i =>
    cases rx
    cases y with
    | non => cases ry; exact PySem.EqNone.eq_bool_none (fin_bl I q (by simp))
    | bl j => cases ry; exact eq_bool (fin_bl I q dec_bl)
    | str j => obtain ⟨t', rfl⟩ := ry; exact PySem.EqMixed.eq_bool_str (fin_bl I q (by simp))
    | _ => exact absurd (show false = true from hs) Bool.false_ne_true
  | int i =>
    obtain ⟨t, rfl⟩ := rx
    cases y with
    | non => cases ry; exact PySem.EqNone.eq_int_none (fin_bl I q (by simp))
    | int j => obtain ⟨t', rfl⟩ := ry; exact eq_int (fin_bl I q dec_int)
    | str j => obtain ⟨t', rfl⟩ := ry; exact PySem.EqMixed.eq_int_str (fin_bl I q (by simp))
    | _ => exact absurd (show false = true from hs) Bool.false_ne_true
  | str i =>
    obtain ⟨t, rfl⟩ := rx
    cases y with
    | non => cases ry; exact PySem.EqNone.eq_str_none (fin_bl I q (by simp))
    | bl j => cases ry; exact PySem.EqMixed.eq_str_bool (fin_bl I q (by simp))
    | int j => obtain ⟨t', rfl⟩ := ry; exact PySem.EqMixed.eq_str_int (fin_bl I q (by simp))
    | str j => obtain ⟨t', rfl⟩ := ry; exact eq_str (fin_bl I q dec_str)
    | _ => exact absurd (show false = true from hs) Bool.false_ne_true
  | byt i =>
    obtain ⟨t, rfl⟩ := rx
    cases y with
    | byt j => obtain ⟨t', rfl⟩ := ry; exact PySem.W.eq_bytes (fin_bl I q dec_byt)
    | _ => exact absurd (show false = true from hs) Bool.false_ne_true
  | _ => cases y <;> exact absurd (show false = true from hs) Bool.false_ne_true
theorem op_ne : OpR X (compareOp .NotEq) rNe := by
  intro pins s σ H x y v u Q I rx ry h
  obtain ⟨hs, q⟩ := h
  cases x with
  | non =>
    cases rx
    cases y with
    | non => cases ry; exact PySem.EqNone.ne_none_none (fin_bl I q (by simp))
    | bl j => cases ry; exact PySem.EqNone.ne_none_bool (fin_bl I q (by simp))
    | int j => obtain ⟨t', rfl⟩ := ry; exact PySem.EqNone.ne_none_int (fin_bl I q (by simp))
    | str j => obtain ⟨t', rfl⟩ := ry; exact PySem.EqNone.ne_none_str (fin_bl I q (by simp))
    | _ => exact absurd (show false = true from hs) Bool.false_ne_true
  | bl i =>
    cases rx
    cases y with
    | non => cases ry; exact PySem.EqNone.ne_bool_none (fin_bl I q (by simp))
    | bl j => cases ry; exact ne_bool (fin_bl I q (congrArg not dec_bl))
    | str j => obtain ⟨t', rfl⟩ := ry; exact PySem.EqMixed.ne_bool_str (fin_bl I q (by simp))
    | _ => exact absurd (show false = true from hs) Bool.false_ne_true
  | int i =>
    obtain ⟨t, rfl⟩ := rx
    cases y with
    | non => cases ry; exact PySem.EqNone.ne_int_none (fin_bl I q (by simp))
    | int j => obtain ⟨t', rfl⟩ := ry; exact ne_int (fin_bl I q (congrArg not dec_int))
    | str j => obtain ⟨t', rfl⟩ := ry; exact PySem.EqMixed.ne_int_str (fin_bl I q (by simp))
    | _ => exact absurd (show false = true from hs) Bool.false_ne_true
  | str i =>
    obtain ⟨t, rfl⟩ := rx
    cases y with
    | non => cases ry; exact PySem.EqNone.ne_str_none (fin_bl I q (by simp))
    | bl j => cases ry; exact PySem.EqMixed.ne_str_bool (fin_bl I q (by simp))
    | int j => obtain ⟨t', rfl⟩ := ry; exact PySem.EqMixed.ne_str_int (fin_bl I q (by simp))
    | str j => obtain ⟨t', rfl⟩ := ry; exact ne_str (fin_bl I q (congrArg not dec_str))
    | _ => exact absurd (show false = true from hs) Bool.false_ne_true
  | byt i =>
    obtain ⟨t, rfl⟩ := rx
    cases y with
    | byt j => obtain ⟨t', rfl⟩ := ry; exact PySem.W.ne_bytes (fin_bl I q (congrArg not dec_byt))
    | _ => exact absurd (show false = true from hs) Bool.false_ne_true
  | _ => cases y <;> exact absurd (show false = true from hs) Bool.false_ne_true
theorem op_lt : OpR X (compareOp .Lt) (rI0 fun i j => .bl (decide (i < j))) := opB0 fun _ _ _ _ _ _ _ q => lt_int q
theorem op_gt : OpR X (compareOp .Gt) (rI0 fun i j => .bl (decide (j < i))) := opB0 fun _ _ _ _ _ _ _ q => gt_int q
theorem op_ge : OpR X (compareOp .GtE) (rI0 fun i j => .bl (decide (j ≤ i))) := opB0 fun _ _ _ _ _ _ _ q => ge_int q
def isObj : HO → Bool
  | .lst _ => true
  | .ins _ _ _ => true
  | _ => false
theorem OpR.or {f : Value → Value → Sem Value} {r r' : R2} (h : OpR X f r) (h' : OpR X f r') : OpR X f (fun x y H Q => r x y H Q ∨ r' x y H Q) := by
  intro pins s σ H x y v u Q I rx ry q
  rcases q with q | q
  · exact h pins s σ H x y v u Q I rx ry q
  · exact h' pins s σ H x y v u Q I rx ry q
theorem nomark (b : Expr) {op : CmpOp} (h : op ≠ .In := by decide) (h2 : op ≠ .NotIn := by decide) : behindInMarks op b = false := by
  have e1 : (op == CmpOp.In) = false := by cases op <;> first | rfl | exact absurd rfl h
  have e2 : (op == CmpOp.NotIn) = false := by cases op <;> first | rfl | exact absurd rfl h2
  cases b <;> simp [behindInMarks, e1, e2]
def tTest (t : TE) : TT := fun σ H Q => t σ H fun x H' => ∃ k, x = .bl k ∧ Q k H'
theorem pt_cmpR {op : CmpOp} {r : R2} (ho : OpR X (compareOp op) r) (ha : PE X a ta) (hb : PE X b tb) (hm : behindInMarks op b = false) : PT X (.Compare a [op] [b] pos) (tTest (tOp r ta tb)) := by
  intro pins s σ H Q I h
  refine wpAny_isTrue_Compare1 (thn (ha pins s σ H _ I h) fun v s1 ⟨x, H1, I1, r1, q1⟩ => thn (hb pins s1 σ H1 _ I1 q1) fun u s2 ⟨y, H2, I2, r2, q2⟩ =>
    thn (ho pins s2 σ H2 x y v u _ I2 r1 r2 q2) fun c s3 ⟨z, H3, I3, r3, k, e, q3⟩ => ?_) hm
  subst e
  cases r3
  exact wpAny_truthy_bool ⟨H3, I3, q3⟩
def tChain (r r' : R2) (ta tb tc : TE) : TE := fun σ H Q => ta σ H fun x H1 => tb σ H1 fun y H2 => r x y H2 fun z H3 => ∃ k, z = .bl k ∧
  (if k = true then tc σ H3 fun w' H4 => r' y w' H4 Q else Q (.bl false) H3)
def TruV (K : PySem.W.Frag) (x : V) (H : Hp) (k : Bool) : Prop :=
  match x with
  | .non => k = false
  | .bl b => k = b
  | .int i => k = (i != 0)
  | .str y => y.length ≤ sizeLine ∧ k = ((y.length : Int) != 0)
  | .byt y => y.size ≤ sizeLine ∧ k = ((y.size : Int) != 0)
  | .ref p => (∃ xs, SqL K H p xs ∧ k = !xs.isEmpty) ∨ (∃ xs, SqT K H p xs ∧ k = !xs.isEmpty) ∨ ∃ kvs, H p = some (.dK kvs) ∧ k = !kvs.isEmpty
  | _ => False
theorem line63 : (sizeLine : Nat) < 2 ^ 63 := by rw [sizeLine_eq]; decide
theorem op_add_str : OpR X (binaryOp .Add) (fun x y H Q => ∃ i j, x = .str i ∧ y = .str j ∧ i.length + j.length ≤ sizeLine ∧ Q (.str (i ++ j)) H) := by
  intro pins s σ H x y v u Q I rx ry h
  obtain ⟨i, j, rfl, rfl, hz, q⟩ := h
  obtain ⟨t, rfl⟩ := rx
  obtain ⟨t', rfl⟩ := ry
  exact add_str (fun t' tk => ⟨.str (i ++ j), H, I.tok _, ⟨_, rfl⟩, q⟩) hz
def PlainIxT (b : Expr) : Prop := ∀ o i, subscripted b false o i = operate [o, i] (getItem o i)
theorem vals1 {x : V} {us : List Value} (r : Vals [x] us) : ∃ u, us = [u] ∧ RelV x u := by
  cases r with
  | cons r1 r2 => cases r2; exact ⟨_, rfl, r1⟩
theorem vals2 {x y : V} {us : List Value} (r : Vals [x, y] us) : ∃ u w', us = [u, w'] ∧ RelV x u ∧ RelV y w' := by
  cases r with
  | cons r1 r2 =>
    cases r2 with
    | cons r3 r4 => cases r4; exact ⟨_, _, rfl, r1, r3⟩
def LenV (K : PySem.W.Frag) (x : V) (H : Hp) (n : Nat) : Prop :=
  match x with
  | .str y => y.length ≤ sizeLine ∧ n = y.length
  | .byt y => y.size ≤ sizeLine ∧ n = y.size
  | .ref p => (∃ xs, SqL K H p xs ∧ n = xs.length) ∨ ∃ xs, SqT K H p xs ∧ n = xs.length
  | _ => False
end
end L2
namespace L2
open PySem PySem.Spec PyProof.Rows
structure ObjM (h : Heap) (x dx C : Addr) (mA : Str → Option Value) : Prop where
  obj : h.get? x = some (PySem.W.instObj C dx)
  ns : h.Ns1 dx mA
  ne : dx ≠ x
theorem lookIn_ns {h : Heap} {dx : Addr} {mA : Str → Option Value} (n : h.Ns1 dx mA) : ∃ od, h.get? dx = some od ∧ ∀ name, PySem.W.lookIn name od = some (mA name) := by
  obtain ⟨o, es, ep, ho, hd, hk, _, hm⟩ := n
  refine ⟨o, ho, fun name => ?_⟩
  have e := hm name
  unfold nsFind findBy at e
  rw [← Array.find?_toList] at e
  unfold PySem.W.lookIn
  rw [hd]
  dsimp only
  split
  · rename_i y q
    rw [q] at e
    exact congrArg some e
  · rename_i q
    rw [q] at e
    have a : es.toList.any (·.refKey) = false := by
      rw [List.any_eq_false]
      intro y hy
      obtain ⟨z, t, hkey⟩ := hk y (Array.mem_toList_iff.mp hy)
      simp [DictEntry.refKey, hkey]
    have a' : ¬ es.toList.any (·.refKey) = true := by rw [a]; exact Bool.false_ne_true
    rw [if_neg a']
    exact congrArg some e
theorem ObjM.look {h : Heap} {x dx C : Addr} {mA : Str → Option Value} (I : ObjM h x dx C mA) : ∃ od, PySem.W.InstAt h x (PySem.W.instObj C dx) C (some od) ∧ ∀ name, PySem.W.lookIn name od = some (mA name) :=
  let ⟨od, ho, hl⟩ := lookIn_ns I.ns
  ⟨od, ⟨I.obj, rfl, rfl, ho⟩, hl⟩
section
variable {prog : Program} {w : World} {A : Around} {E : Value → Shared → Prop} {s : Shared} {K : PySem.W.Frag} {x dx C f : Addr} {mA : Str → Option Value} {name : Str} {v : Value}
end
def putF (f : Str) (v : V) : List (Str × V) → List (Str × V)
  | [] => [(f, v)]
  | (g, x) :: r => if g = f then (g, v) :: r else (g, x) :: putF f v r
theorem RelO.some_of {v : V} {o : Option Value} (r : RelO (some v) o) : ∃ u, o = some u ∧ RelV v u := by
  cases o with
  | none => exact (show False from r).elim
  | some u => exact ⟨u, rfl, r⟩
theorem RelO.none_of {o : Option Value} (r : RelO none o) : o = none := by
  cases o with
  | none => rfl
  | some u => exact (show False from r).elim
section
variable {P : Program} {w : World} {H H' : Hp} {h h' : Heap} {a C dx : Addr} {fs fs' : List (Str × V)}
theorem ins_get (hok : HOk P w H h) (e : H a = some (.ins C dx fs)) : ∃ mA, ObjM h a dx C mA ∧ (∀ f, RelO (fs.lookup f) (mA f)) ∧ PySem.Within mA (fs.map (·.1)) ∧ fs.length ≤ 1000 ∧ H dx = some (.own a) := by
  obtain ⟨d, z, ne, ob, mA, n, r, q⟩ := (show ObjOk P w H h a (.ins C dx fs) from hok a _ e)
  exact ⟨mA, ⟨ob, n, ne⟩, r, q, z, d⟩
end
structure Cls (K : PySem.W.Frag) (C : Addr) : Prop where
  pg : PySem.W.plainGet K C Str.empty = true
  hd : PySem.W.hasDictIn K C = true
  po : PySem.W.plainOver K C = true
  sa : PySem.W.findIn K (.ref C) "__setattr__" = some (some (.builtin "object.__setattr__"))
theorem Cls.get {K : PySem.W.Frag} {C : Addr} (c : Cls K C) (f : Str) : PySem.W.plainGet K C f = true := c.pg
def NoAttr (K : PySem.W.Frag) (C : Addr) (f : Str) : Prop := PySem.W.findIn K (.ref C) f = some none
structure Con (K : PySem.W.Frag) (C : Addr) (f : Str) (v : V) (u : Value) : Prop where
  at_ : PySem.W.findIn K (.ref C) f = some (some u)
  rel : RelV v u
  get : PySem.W.specialIn K u "__get__" = some none
  cp : PySem.W.copiedNames.contains f = false
structure Meth (K : PySem.W.Frag) (C : Addr) (m : Str) (f : Addr) : Prop where
  at_ : PySem.W.findIn K (.ref C) m = some (some (.ref f))
  fn : PySem.W.isFn K (.ref f) = true
  kp : PySem.W.keepIn K (.ref f) = true
section
variable {X : Cx} {pins : List (Addr × Obj)} {σ : St} {H : Hp} {s : Shared} {a C dx : Addr} {fs : List (Str × V)} {f : Str} {v : V} {A : Around} {E : Value → Shared → Prop}
theorem Inv.made (I : Inv X pins σ H s) : Inv X pins σ (upd (upd H s.heap.objs.size (.own (s.heap.objs.size + 1))) (s.heap.objs.size + 1) (.ins C s.heap.objs.size []))
    { s with heap := (s.heap.push PySem.W.emptyDict).push (PySem.W.instObj C s.heap.objs.size) } := by
  have e1 : (s.heap.push PySem.W.emptyDict).get? s.heap.objs.size = some PySem.W.emptyDict := Heap.get?_push_size s.heap rfl
  have e2 : ((s.heap.push PySem.W.emptyDict).push (PySem.W.instObj C s.heap.objs.size)).get? (s.heap.objs.size + 1) = some (PySem.W.instObj C s.heap.objs.size) := by
    have := Heap.get?_push_size (s.heap.push PySem.W.emptyDict) (o := PySem.W.instObj C s.heap.objs.size) rfl
    rwa [Heap.size_push] at this
  have e3 : (s.heap.push PySem.W.emptyDict).Ns s.heap.objs.size (fun _ => none) := ⟨PySem.W.emptyDict, #[], _, e1, rfl, (fun e he => absurd he (by simp)), fun _ => rfl⟩
  have I1 := I.laid (a := s.heap.objs.size) (o := .own (s.heap.objs.size + 1)) (h' := s.heap.push PySem.W.emptyDict) (t' := s.toks) (fun b u q => Heap.get?_push_of_some _ q) (Nat.le_refl _) ⟨_, e1⟩
  refine I1.laid (a := s.heap.objs.size + 1) (o := .ins C s.heap.objs.size []) (t' := s.toks) (fun b u q => Heap.get?_push_of_some _ q) (Nat.le_of_eq (Heap.size_push _ _)) ?_
  have ne : s.heap.objs.size ≠ s.heap.objs.size + 1 := Nat.ne_of_lt (Nat.lt_succ_self _)
  refine ⟨by rw [upd_ne ne, upd_same], Nat.zero_le _, ne, e2, fun _ => none, (Heap.Ns1.of_empty e3).at fun o q => Heap.get?_push_of_some _ q, fun _ => True.intro, fun y hy => absurd rfl hy⟩
end
def tFld (K : PySem.W.Frag) (ta : TE) (f : Str) : TE := fun σ H Q => ta σ H fun x H1 => ∃ a C dx fs v, x = .ref a ∧ H1 a = some (.ins C dx fs) ∧ Cls K C ∧ NoAttr K C f ∧ fs.lookup f = some v ∧ Q v H1
def tCon (K : PySem.W.Frag) (ta : TE) (f : Str) : TE := fun σ H Q => ta σ H fun x H1 => ∃ a C dx fs v u, x = .ref a ∧ H1 a = some (.ins C dx fs) ∧ Cls K C ∧ Con K C f v u ∧ fs.lookup f = none ∧ Q v H1
def sFld (K : PySem.W.Frag) (ta tv : TE) (f : Str) : TS := fun D σ H => tv σ H fun y H1 => ta σ H1 fun x H2 => ∃ a C dx fs, x = .ref a ∧ H2 a = some (.ins C dx fs) ∧ Cls K C ∧ NoAttr K C f ∧ fs.length < 1000 ∧
  D.nx σ (upd H2 a (.ins C dx (putF f y fs)))
def InOp (X : Cx) (op : Operator) (rd : V → V → Hp → VK → Prop) : Prop :=
  ∀ (pins : List (Addr × Obj)) (s : Shared) (σ : St) (H : Hp) (x y : V) (u v : Value) (Q : VK), Inv X pins σ H s → RelV x u → RelV y v → rd x y H Q → wpAny (model X.prog X.w) X.A (inplaceOp op u v) (EP X pins σ Q) X.xe s
def sFldAug (K : PySem.W.Frag) (ta tv : TE) (rd : V → V → Hp → VK → Prop) (f : Str) : TS := fun D σ H => ta σ H fun x H1 => ∃ a C dx fs v, x = .ref a ∧ H1 a = some (.ins C dx fs) ∧ Cls K C ∧ NoAttr K C f ∧ fs.lookup f = some v ∧
  tv σ H1 fun y H2 => rd v y H2 fun z H3 => ∃ dx' fs', H3 a = some (.ins C dx' fs') ∧ fs'.length < 1000 ∧ D.nx σ (upd H3 a (.ins C dx' (putF f z fs')))
section
variable {X : Cx} {o e value : Expr} {f : Str} {pos pos' tpos : Pos} {ta tv : TE}
def rAdd : V → V → Hp → VK → Prop := fun x y H Q => ∃ i j, x = .int i ∧ y = .int j ∧ Q (.int (i + j)) H
def rSub : V → V → Hp → VK → Prop := fun x y H Q => ∃ i j, x = .int i ∧ y = .int j ∧ Q (.int (i - j)) H
end
section
variable {X : Cx} {pins : List (Addr × Obj)} {σ : St} {H : Hp} {s : Shared} {A : Around} {E : Value → Shared → Prop} {Q : Value → Shared → Prop} {c : Value} {b : Bool}
inductive TyOf (K : PySem.W.Frag) (H : Hp) : V → Value → Prop where
  | non : TyOf K H .non (.type "NoneType")
  | bl (x : Bool) : TyOf K H (.bl x) (.type "bool")
  | int (i : Int) : TyOf K H (.int i) (.type "int")
  | str (x : Str) : TyOf K H (.str x) (.type "str")
  | flt (x : UInt64) : TyOf K H (.flt x) (.type "float")
  | lst {a : Addr} {xs : List V} (e : H a = some (.lst xs)) : TyOf K H (.ref a) (.type "list")
  | frz {a : Addr} {o : Obj} {xs : List V} (e : H a = some (.frz o (.lst xs))) : TyOf K H (.ref a) (.type "list")
  | tup {a : Addr} {xs : List V} (e : H a = some (.tup xs)) : TyOf K H (.ref a) (.type "tuple")
  | dK {a : Addr} {kvs : List (Key × V)} (e : H a = some (.dK kvs)) : TyOf K H (.ref a) (.type "dict")
  | dT {a : Addr} {kvs : List (List Key × V)} (e : H a = some (.dT kvs)) : TyOf K H (.ref a) (.type "dict")
  | ins {a C dx : Addr} {fs : List (Str × V)} (e : H a = some (.ins C dx fs)) (cl : Cls K C) (ha : PySem.W.findIn K (.ref C) "__class__" = some (some (.builtin "object.__class__")))
      (hn : PySem.W.specialIn K (.builtin "object.__class__") "__get__" = some (some (.builtin "getset_descriptor.__get__"))) (htk : PySem.W.takesIn K (.builtin "object.__class__") = some true)
      (hm : PySem.W.mroIn K C (.type "object") = some true) : TyOf K H (.ref a) (.ref C)
theorem isinst_ok {x : V} {u t : Value} (I : Inv X pins σ H s) (rx : RelV x u) (ty : TyOf X.K H x t) (e : PySem.W.kitOne X.K t c = some b) (h : ∀ tk, Q (.bool b) { s with toks := tk }) :
    wpAny (model X.prog X.w) A (call (.builtin "isinstance") [u, c]) Q E s := by
  cases ty with
  | non => cases (show u = Value.none from rx); exact PySem.W.kia_one PySem.W.kitx_none I.kIn True.intro e (fun z => nomatch z) h
  | bl y => cases (show u = Value.bool y from rx); exact PySem.W.kia_one PySem.W.kitx_bool I.kIn True.intro e (fun z => nomatch z) h
  | int i => obtain ⟨t, q⟩ := (show ∃ t, u = Value.int i t from rx); cases q; exact PySem.W.kia_one PySem.W.kitx_int I.kIn True.intro e (fun z => nomatch z) h
  | str y => obtain ⟨t, q⟩ := (show ∃ t, u = Value.str y t from rx); cases q; exact PySem.W.kia_one PySem.W.kitx_str I.kIn True.intro e (fun z => nomatch z) h
  | flt y => obtain ⟨t, q⟩ := (show ∃ t, u = Value.float y t from rx); cases q; exact PySem.W.kia_one PySem.W.kitx_float I.kIn True.intro e (fun z => nomatch z) h
  | @lst a xs ea =>
    cases (show u = Value.ref a from rx)
    obtain ⟨_, _, n, _, h1⟩ := (show ObjOk X.prog X.w H s.heap a (.lst xs) from I.hok a _ ea)
    exact PySem.W.kia_one PySem.W.kitx_list I.kIn ⟨_, h1, rfl⟩ e (fun z => nomatch z) h
  | @frz a ob xs ea =>
    cases (show u = Value.ref a from rx)
    obtain ⟨_, _, _, n, _, h1⟩ := (show ObjOk X.prog X.w H s.heap a (.frz ob (.lst xs)) from I.hok a _ ea)
    exact PySem.W.kia_one PySem.W.kitx_list I.kIn ⟨_, h1, rfl⟩ e (fun z => nomatch z) h
  | @tup a xs ea =>
    cases (show u = Value.ref a from rx)
    obtain ⟨_, _, _, p⟩ := (show ObjOk X.prog X.w H s.heap a (.tup xs) from I.hok a _ ea)
    obtain ⟨o, h1, h2, _⟩ := p
    exact PySem.W.kia_one PySem.W.kitx_tuple I.kIn ⟨o, h1, h2⟩ e (fun z => nomatch z) h
  | @dK a kvs ea =>
    cases (show u = Value.ref a from rx)
    obtain ⟨_, _, vs, _, p⟩ := (show ObjOk X.prog X.w H s.heap a (.dK kvs) from I.hok a _ ea)
    obtain ⟨o, es, ep, h1, h2, _⟩ := p
    exact PySem.W.kia_one PySem.W.kitx_dict I.kIn ⟨o, h1, h2.1⟩ e (fun z => nomatch z) h
  | @dT a kvs ea =>
    cases (show u = Value.ref a from rx)
    obtain ⟨_, _, xs, _, o, es, ep, h1, h2, _⟩ := (show ObjOk X.prog X.w H s.heap a (.dT kvs) from I.hok a _ ea)
    exact PySem.W.kia_one PySem.W.kitx_dict I.kIn ⟨o, h1, h2.1⟩ e (fun z => nomatch z) h
  | @ins a C dx fs ea cl ha hn htk hm =>
    cases (show u = Value.ref a from rx)
    obtain ⟨mA, O, _⟩ := ins_get I.hok ea
    obtain ⟨od, J, _⟩ := O.look
    exact PySem.W.kia_one (PySem.W.kitx_own (cl.get _) cl.hd ha hn htk hm) I.kIn J e (fun z => nomatch z) h
end
end L2
namespace L2
open PySem PySem.Spec PyProof.Rows
structure Room (k : Nat) (A : Around) : Prop where
  hd : A.handled = none
  dp : A.depth + 3 * k + 5 < recursionLimit
  un : A.units + 16 * k + 200 < cLine
theorem Room.mono {j k : Nat} {A : Around} (r : Room k A) (h : j ≤ k) : Room j A := ⟨r.hd, by have := r.dp; omega, by have := r.un; omega⟩
theorem Room.deeper {k : Nat} {A : Around} (r : Room (k + 1) A) (env : Env) : Room k (A.deeper env) :=
  ⟨r.hd, by have := r.dp; show A.depth + 1 + 3 * k + 5 < _; omega, by have := r.un; show A.units + 3 + 16 * k + 200 < _; omega⟩
theorem Room.in1 {k : Nat} {A : Around} (r : Room (k + 1) A) : Room k A.in1 :=
  ⟨r.hd, by have := r.dp; show A.depth + 3 * k + 5 < _; omega, by have := r.un; show A.units + 1 + 16 * k + 200 < _; omega⟩
theorem make_depth {A : Around} {C : Addr} {us : List Value} {kw : List (Str × Value)} : (A.under (.builtin "type.__call__" ⟨.ref C :: us, kw⟩)).depth = A.depth + 1 := by
  first | rfl | simp [Around.under, Code.weight, Code.isCreation, Code.isGuard, Code.isCaller, Code.frames, Code.isFrame, guardIds]
theorem make_units {A : Around} {C : Addr} {us : List Value} {kw : List (Str × Value)} : (A.under (.builtin "type.__call__" ⟨.ref C :: us, kw⟩)).units = A.units + 1 := by
  first | rfl | simp [Around.under, Code.cUnits, Code.frames, Code.isFrame]
theorem Room.make {k : Nat} {A : Around} (r : Room (k + 1) A) (C : Addr) (us : List Value) (kw : List (Str × Value)) : Room k (A.under (.builtin "type.__call__" ⟨.ref C :: us, kw⟩)) :=
  ⟨r.hd, by have := r.dp; rw [make_depth]; omega, by have := r.un; rw [make_units]; omega⟩
theorem Room.depth {k : Nat} {A : Around} (r : Room k A) : A.depth < recursionLimit := by have := r.dp; omega
theorem Room.units {k : Nat} {A : Around} (r : Room k A) : A.units + 64 < cLine := by have := r.un; omega
def tNil : TA := fun _ H Q => Q [] H
def tCons (ta : TE) (tr : TA) : TA := fun σ H Q => ta σ H fun x H1 => tr σ H1 fun xs H2 => Q (x :: xs) H2
section
variable {X : Cx} {e : Expr} {es : List Expr} {te : TE} {t : TA} {pos : Pos}
theorem pa_nil : PA X [] tNil := fun _ _ _ _ H Q I h => Calls.spliced_nil ⟨[], H, I, .nil, h⟩
theorem pa_cons (ha : PE X e te) (hr : PA X es t) (hs : starEach (e :: es) X.env = (false, eval e X.env) :: starEach es X.env := by rfl) : PA X (e :: es) (tCons te t) := by
  intro pos pins s σ H Q I h
  rw [hs]
  show wpAny _ _ (spliced ((false, eval e X.env) :: backTo pos (starEach es X.env))) _ _ s
  refine Calls.spliced_cons (thn (ha pins s σ H _ I h) fun u s1 ⟨x, H1, I1, r1, q1⟩ => ?_)
  exact thn (hr pos pins s1 σ H1 _ I1 q1) fun us s2 ⟨xs, H2, I2, r2, q2⟩ => ⟨x :: xs, H2, I2, .cons r1 r2, q2⟩
def tTup (t : TA) : TE := fun σ H Q => t σ H fun xs H1 => xs.length ≤ sizeLine ∧ ∀ p, H1 p = none → Q (.ref p) (upd H1 p (.tup xs))
def tLst (t : TA) : TE := fun σ H Q => t σ H fun xs H1 => xs.length ≤ sizeLine ∧ ∀ p, H1 p = none → Q (.ref p) (upd H1 p (.lst xs))
theorem pe_tup {x1} (h : PA X es t) : PE X (.Tuple es x1 pos) (tTup t) := by
  intro pins s σ H Q I hq
  refine wpAny_Tuple_spliced (thn (h pos pins s σ H _ I hq) fun us s1 ⟨xs, H1, I1, r, z, q⟩ => ⟨by rw [← r.length]; exact z, ?_⟩)
  have hf : H1 s1.heap.objs.size = none := I1.hok.fresh (Nat.le_refl _)
  refine ⟨.ref s1.heap.objs.size, upd H1 s1.heap.objs.size (.tup xs), I1.laid (t' := s1.toks) (fun b u e => Heap.get?_push_of_some _ e) (Nat.le_refl _) ?_, rfl, q _ hf⟩
  exact ⟨z, us, r, ⟨_, Heap.get?_push_size _ rfl, rfl, _, rfl⟩⟩
theorem pe_lst (h : PA X es t) : PE X (.List es pos) (tLst t) := by
  intro pins s σ H Q I hq
  refine wpAny_List_spliced (thn (h pos pins s σ H _ I hq) fun us s1 ⟨xs, H1, I1, r, z, q⟩ => ⟨by rw [← r.length]; exact z, ?_⟩)
  have hf : H1 s1.heap.objs.size = none := I1.hok.fresh (Nat.le_refl _)
  refine ⟨.ref s1.heap.objs.size, upd H1 s1.heap.objs.size (.lst xs), I1.laid (t' := s1.toks) (fun b u e => Heap.get?_push_of_some _ e) (Nat.le_refl _) ?_, rfl, q _ hf⟩
  exact ⟨z, us, 0, r, Heap.get?_push_size _ rfl⟩
end
abbrev Sp := List V → Hp → VK → XK → Prop
abbrev CXT := List Env → Hp → Shared → XK → Value → Shared → Prop
structure Env0 (P : Program) (w : World) (K : PySem.W.Frag) (mg : Str → Option Value) (base : Heap) (A : Around) (outer : List Env) (s : Shared) (H : Hp) : Prop where
  frames : A.frames = some outer
  mod : Mod K mg base
  bs : ∀ b o, base.get? b = some o → s.heap.get? b = some o ∧ H b = none
  bsz : base.objs.size ≤ s.heap.objs.size
  funs : s.heap.FunFrames base outer
  frf : ∀ b ∈ frs outer, H b = none
  hok : HOk P w H s.heap
  bare : AllBare s.gens
def CE (outer : List Env) (P : Program) (w : World) (H : Hp) (s : Shared) (Q : VK) (u : Value) (s' : Shared) : Prop :=
  ∃ v H', s'.os = s.os ∧ AllBare s'.gens ∧ Un (frs outer) [] H H' s.heap s'.heap ∧ HOk P w H' s'.heap ∧ RelV v u ∧ Q v H'
def CR (CX : CXT) (outer : List Env) (P : Program) (w : World) (H : Hp) (s : Shared) (Q : VK) (E : XK) (r : Result) (s' : Shared) : Prop :=
  match r with
  | .ok (.ret u) => CE outer P w H s Q u s'
  | .ok _ => False
  | .error e => CX outer H s E e s'
structure FnOk (P : Program) (w : World) (K : PySem.W.Frag) (mg : Str → Option Value) (base : Heap) (CX : CXT) (k : Nat) (f : Addr) (fd : FuncData) (ps : List Str) (sp : Sp) : Prop where
  len : ∀ vs H Q E, sp vs H Q E → vs.length = ps.length
  run : ∀ (A : Around) (outer : List Env) (s : Shared) (H : Hp) (args : Args) (us : List Value) (vs : List V) (Q : VK) (E : XK), Room k A → Env0 P w K mg base A outer s H → BindsTo s fd args (ps.zip us) → Vals vs us → sp vs H Q E →
    codeAny (model P w) A (.call (.ref f) args) (CR CX outer P w H s Q E) s
theorem FnOk.mono {P : Program} {w : World} {K : PySem.W.Frag} {mg : Str → Option Value} {base : Heap} {CX : CXT} {j k : Nat} {f : Addr} {fd : FuncData} {ps : List Str} {sp : Sp} (F : FnOk P w K mg base CX j f fd ps sp) (h : j ≤ k) :
    FnOk P w K mg base CX k f fd ps sp := ⟨F.len, fun A outer s H args us vs Q E hr => F.run A outer s H args us vs Q E (hr.mono h)⟩
theorem FnOk.imp {P : Program} {w : World} {K : PySem.W.Frag} {mg : Str → Option Value} {base : Heap} {CX : CXT} {k : Nat} {f : Addr} {fd : FuncData} {ps : List Str} {sp sp' : Sp} (F : FnOk P w K mg base CX k f fd ps sp)
    (h : ∀ vs H Q E, sp' vs H Q E → sp vs H Q E) : FnOk P w K mg base CX k f fd ps sp' :=
  ⟨fun vs H Q E q => F.len vs H Q E (h _ _ _ _ q), fun A outer s H args us vs Q E hr he hb hv hs => F.run A outer s H args us vs Q E hr he hb hv (h _ _ _ _ hs)⟩
theorem Env0.make {P : Program} {w : World} {K : PySem.W.Frag} {mg : Str → Option Value} {base : Heap} {A : Around} {outer : List Env} {s : Shared} {H : Hp} (e : Env0 P w K mg base A outer s H) (C : Addr) (us : List Value) (kw : List (Str × Value)) :
    Env0 P w K mg base (A.under (.builtin "type.__call__" ⟨.ref C :: us, kw⟩)) outer s H := ⟨by first | exact e.frames | (simpa [Around.under, Code.envs, Code.isFrame, pushEnvs] using e.frames), e.mod, e.bs, e.bsz, e.funs, e.frf, e.hok, e.bare⟩
theorem Env0.in1 {P : Program} {w : World} {K : PySem.W.Frag} {mg : Str → Option Value} {base : Heap} {A : Around} {outer : List Env} {s : Shared} {H : Hp} (e : Env0 P w K mg base A outer s H) :
    Env0 P w K mg base A.in1 outer s H := ⟨e.frames, e.mod, e.bs, e.bsz, e.funs, e.frf, e.hok, e.bare⟩
section
variable {X : Cx} {pins : List (Addr × Obj)} {σ : St} {H : Hp} {s s' : Shared}
theorem Inv.env0 (I : Inv X pins σ H s) : Env0 X.prog X.w X.K X.mg X.base X.A X.stack s H :=
  ⟨I.ok.frames, I.ok.mod, I.bs, Nat.le_trans I.ok.bsz I.sz, I.stack, I.stkFree, I.hok, I.bare⟩
theorem Inv.after {Q : VK} {u : Value} (I : Inv X pins σ H s) (h : CE X.stack X.prog X.w H s Q u s') : EP X pins σ Q u s' := by
  obtain ⟨v, H', os, bare, un, hok, r, q⟩ := h
  obtain ⟨hh, g, d, t, os'⟩ := s'
  obtain rfl : os' = s.os := os
  exact ⟨v, H', I.call (h' := hh) (g' := g) (d' := d) (t' := t) (ch := []) un hok bare (fun b z => absurd z (by simp)), r, q⟩
end
def tCall (sp : Sp) (dvs : List V) (E : XK) (t : TA) : TE := fun σ H Q => t σ H fun vs H1 => sp (vs ++ dvs) H1 Q E
def tMeth (C : Addr) (m : Str) (sp : Sp) (dvs : List V) (E : XK) (ta : TE) (t : TA) : TE := fun σ H Q => ta σ H fun x H1 => ∃ a dx fs, x = .ref a ∧ H1 a = some (.ins C dx fs) ∧ fs.lookup m = none ∧
  t σ H1 fun vs H2 => sp (x :: (vs ++ dvs)) H2 Q E
def tMake (C : Addr) (sp : Sp) (dvs : List V) (E : XK) (t : TA) : TE := fun σ H Q => t σ H fun vs H1 => ∀ x dx, H1 x = none → H1 dx = none → dx ≠ x →
  sp (.ref x :: (vs ++ dvs)) (upd (upd H1 dx (.own x)) x (.ins C dx [])) (fun v H2 => v = .non ∧ Q (.ref x) H2) E
def Binds (K : PySem.W.Frag) (fd : FuncData) (ps : List Str) (ds : List Value) : Prop :=
  ∀ (s : Shared) (us : List Value), K.In s.heap → (us ++ ds).length = ps.length → BindsTo s fd ⟨us, []⟩ (ps.zip (us ++ ds))
theorem Binds.all {K : PySem.W.Frag} {fd : FuncData} {ps : List Str} (h : ∀ us : List Value, us.length = ps.length → bindArgs fd ⟨us, []⟩ = pure (ps.zip us)) : Binds K fd ps [] := fun s us _ hl => by
  rw [List.append_nil] at hl ⊢
  exact .of_eq (h us hl)
def Passes (CX : CXT) (X : Cx) (E : XK) : Prop := ∀ (pins : List (Addr × Obj)) (σ : St) (H : Hp) (s : Shared) (e : Value) (s' : Shared), Inv X pins σ H s → CX X.stack H s E e s' → X.xe e s'
section
variable {X : Cx} {CX : CXT} {k : Nat} {f C : Addr} {fd : FuncData} {ps : List Str} {sp : Sp} {dvs : List V} {ds : List Value} {E : XK} {x m : Str} {p pos apos : Pos} {e o : Expr} {es : List Expr} {ta : TE} {t : TA}
theorem run_fn {pins : List (Addr × Obj)} {σ : St} {H : Hp} {s : Shared} {Q : VK} {us : List Value} {vs : List V} (F : FnOk X.prog X.w X.K X.mg X.base CX k f fd ps sp) (hr : Room k X.A) (hb : Binds X.K fd ps ds) (hd : Vals dvs ds) (hx : Passes CX X E)
    (I : Inv X pins σ H s) (r : Vals vs us) (h : sp (vs ++ dvs) H Q E) : wpAny (model X.prog X.w) X.A (call (.ref f) us) (EP X pins σ Q) X.xe s := by
  have r2 : Vals (vs ++ dvs) (us ++ ds) := r.append hd
  have hl : (us ++ ds).length = ps.length := by rw [← r2.length]; exact F.len _ _ _ _ h
  refine wpAny_call (codeAny_mono (F.run X.A X.stack s H ⟨us, []⟩ (us ++ ds) (vs ++ dvs) Q E hr I.env0 (hb s us I.kIn hl) r2 h) fun r s' hq => ?_)
  cases r with
  | error e => exact hx pins σ H s e s' I hq
  | ok fl =>
    cases fl with
    | ret u => exact I.after hq
    | next => exact False.elim hq
    | brk => exact False.elim hq
    | cont => exact False.elim hq
theorem pe_call (F : FnOk X.prog X.w X.K X.mg X.base CX k f fd ps sp) (hr : Room k X.A) (hg : Gl X x) (hm : X.mg x = some (.ref f)) (hk : PySem.W.keepIn X.K (.ref f) = true) (hb : Binds X.K fd ps ds) (hd : Vals dvs ds) (hx : Passes CX X E)
    (ha : PA X (e :: es) t) (hdb : (x == ("__debug__" : Str)) = false := by decide) (he : starEach (e :: es) X.env = (false, eval e X.env) :: starEach es X.env := by rfl) (hpl : (backTo pos (starEach es X.env)).any (·.1) = false := by rfl) :
    PE X (.Call (.Name x p) (e :: es) [] pos) (tCall sp dvs E t) := by
  intro pins s σ H Q I h
  refine wpAny_Call_Name_kw (ld_glob I hg hm ?_ hdb)
  refine PySem.W.callWith_K (h₀ := X.base) I.ok.mod.kin hk (thn (ha pos pins s σ H _ I h) fun us s1 ⟨vs, H1, I1, r, q⟩ => ⟨I1.kIn, ?_⟩) he hpl
  exact run_fn F hr hb hd hx I1 r q
structure Mk (K : PySem.W.Frag) (C f : Addr) : Prop where
  makes : PySem.W.makesIn K C = true
  init : PySem.W.findIn K (.ref C) "__init__" = some (some (.ref f))
  fn : PySem.W.isFn K (.ref f) = true
  kp : PySem.W.keepIn K (.ref C) = true
end
def PK (X : Cx) (kws : List Keyword) (t : TA) : Prop :=
  ∀ (pos : Pos) (pins : List (Addr × Obj)) (s : Shared) (σ : St) (H : Hp) (Q : List V → Hp → Prop), Inv X pins σ H s → t σ H Q → wpAny (model X.prog X.w) X.A (evalAll ((backToKw pos (keywordEach kws X.env)).map (·.2))) (AP X pins σ Q) X.xe s
section
variable {X : Cx} {CX : CXT} {k : Nat} {f C : Addr} {fd : FuncData} {ps ks : List Str} {sp : Sp} {E : XK} {x m : Str} {p pos apos kpos : Pos} {e o : Expr} {es : List Expr} {kws : List Keyword} {te ta : TE} {t tk : TA} {nm : Option Str}
theorem pk_nil : PK X [] tNil := fun _ _ _ _ H Q I h => wpAny_evalAll_nil ⟨[], H, I, .nil, h⟩
theorem pk_cons (ha : PE X e te) (hr : PK X kws t) : PK X (⟨nm, e, kpos⟩ :: kws) (tCons te t) := by
  intro pos pins s σ H Q I h
  show wpAny _ _ (evalAll ((do let v ← eval e X.env; standAt pos; pure v) :: (backToKw pos (keywordEach kws X.env)).map (·.2))) _ _ s
  refine wpAny_evalAll_cons (wpAny_bind (thn (ha pins s σ H _ I h) fun u s1 ⟨x, H1, I1, r1, q1⟩ => wpAny_bind (wpAny_standAt (wpAny_pure ?_))))
  exact thn (hr pos pins s1 σ H1 _ I1 q1) fun us s2 ⟨xs, H2, I2, r2, q2⟩ => ⟨x :: xs, H2, I2, .cons r1 r2, q2⟩
structure KBinds (K : PySem.W.Frag) (fd : FuncData) (ps ks : List Str) (g : List Value → List Value → List Value) (gV : List V → List V → List V) : Prop where
  to : ∀ (s : Shared) (us ws : List Value), K.In s.heap → (g us ws).length = ps.length → BindsTo s fd ⟨us, ks.zip ws⟩ (ps.zip (g us ws))
  rel : ∀ {vs : List V} {us : List Value} {zs : List V} {ws : List Value}, Vals vs us → Vals zs ws → Vals (gV vs zs) (g us ws)
def tCallK (sp : Sp) (gV : List V → List V → List V) (E : XK) (t tk : TA) : TE := fun σ H Q => t σ H fun vs H1 => tk σ H1 fun zs H2 => sp (gV vs zs) H2 Q E
variable {g : List Value → List Value → List Value} {gV : List V → List V → List V}
end
structure FnScope (N P : List Str) (sc : Scope) : Prop where
  kind : sc.kind = .function
  co : sc.isCoroutine = false
  gen : sc.isGenerator = false
  nd : N.Nodup
  pre : N.take P.length = P
  par : ∀ x ∈ P, sc.names.lookup x = some .local ∨ sc.names.lookup x = some .cell
  nofree : ∀ y ∈ sc.names, y.2 ≠ .free
theorem bindL_out {kindOf : Str → Option NameKind} {x : Str} : ∀ {binds : List (Str × Value)} {m : Str → Option Value}, (∀ v, (x, v) ∉ binds) → bindL kindOf binds m x = m x
  | [], _, _ => rfl
  | (n, v) :: r, m, h => by
    unfold bindL
    rw [bindL_out fun w hw => h w (List.mem_cons_of_mem _ hw)]
    split
    · have : x ≠ n := by rintro rfl; exact h v List.mem_cons_self
      simp [this]
    · rfl
theorem bindC_out {kindOf : Str → Option NameKind} {x : Str} : ∀ {binds : List (Str × Value)} {m : Str → Option Value}, (∀ v, (x, v) ∉ binds) → bindC kindOf binds m x = m x
  | [], _, _ => rfl
  | (n, v) :: r, m, h => by
    unfold bindC
    rw [bindC_out fun w hw => h w (List.mem_cons_of_mem _ hw)]
    split
    · rfl
    · have : x ≠ n := by rintro rfl; exact h v List.mem_cons_self
      simp [this]
theorem bindL_get {kindOf : Str → Option NameKind} {x : Str} {v : Value} : ∀ {P : List Str} {vs : List Value} {i : Nat} {m : Str → Option Value}, P.Nodup → P[i]? = some x → vs[i]? = some v → kindOf x = some .local →
    bindL kindOf (P.zip vs) m x = some v
  | [], _, _, _, _, h, _, _ => by simp at h
  | _ :: _, [], _, _, _, _, h, _ => by simp at h
  | p :: P, w :: vs, 0, m, nd, h1, h2, hk => by
    simp at h1 h2; subst h1; subst h2
    show bindL kindOf ((p, w) :: P.zip vs) m p = _
    unfold bindL
    rw [bindL_out fun v hv => (List.nodup_cons.mp nd).1 (List.of_mem_zip hv).1, if_pos hk]
    simp
  | p :: P, w :: vs, i + 1, m, nd, h1, h2, hk => by
    show bindL kindOf ((p, w) :: P.zip vs) m x = _
    unfold bindL
    exact bindL_get (i := i) (List.nodup_cons.mp nd).2 (by simpa using h1) (by simpa using h2) hk
theorem bindC_get {kindOf : Str → Option NameKind} {x : Str} {v : Value} : ∀ {P : List Str} {vs : List Value} {i : Nat} {m : Str → Option Value}, P.Nodup → P[i]? = some x → vs[i]? = some v → kindOf x ≠ some .local →
    bindC kindOf (P.zip vs) m x = some v
  | [], _, _, _, _, h, _, _ => by simp at h
  | _ :: _, [], _, _, _, _, h, _ => by simp at h
  | p :: P, w :: vs, 0, m, nd, h1, h2, hk => by
    simp at h1 h2; subst h1; subst h2
    show bindC kindOf ((p, w) :: P.zip vs) m p = _
    unfold bindC
    rw [bindC_out fun v hv => (List.nodup_cons.mp nd).1 (List.of_mem_zip hv).1, if_neg hk]
    simp
  | p :: P, w :: vs, i + 1, m, nd, h1, h2, hk => by
    show bindC kindOf ((p, w) :: P.zip vs) m x = _
    unfold bindC
    exact bindC_get (i := i) (List.nodup_cons.mp nd).2 (by simpa using h1) (by simpa using h2) hk
def start (N : List Str) (vs : List V) : St := vs.map some ++ List.replicate (N.length - vs.length) none
def cxOf (CX : CXT) (P : Program) (w : World) (K : PySem.W.Frag) (mg : Str → Option Value) (base : Heap) (N : List Str) (qual : Str) (scope : Scope) (f : Addr) (cd : Value) (A : Around) (outer : List Env) (s : Shared) (H : Hp) (E : XK) : Cx where
  prog := P
  w := w
  K := K
  mg := mg
  base := base
  A := A.deeper (envOfC qual scope s.heap.objs.size f cd)
  N := N
  s₀ := s
  H₀ := H
  env := envOfC qual scope s.heap.objs.size f cd
  outer := outer
  stack := envOfC qual scope s.heap.objs.size f cd :: outer
  ex := []
  calm := true
  fn := fun _ => true
  pn := []
  xe := fun e s' => wpAny (model P w) (A.deeper (envOfC qual scope s.heap.objs.size f cd)) (leaving (envOfC qual scope s.heap.objs.size f cd) e) (fun _ s'' => CX outer H s E e s'') (fun e' s'' => CX outer H s E e' s'') s'
theorem cell_has {sc : Scope} {n : Nat} {x : Str} (h : sc.names.lookup x = some .cell) : ∃ c, (cellsFrom n sc.names []).lookup x = some c := by
  have q := PySem.W.cellsFrom_some sc.names n [] (.inl h)
  exact Option.isSome_iff_exists.mp q
theorem inv_start {CX : CXT} {P : Program} {w : World} {K : PySem.W.Frag} {mg : Str → Option Value} {base : Heap} {N ps : List Str} {qual : Str} {scope : Scope} {f : Addr} {cd : Value} {A : Around} {outer : List Env} {s s1 : Shared} {H : Hp} {E : XK} {us : List Value} {vs : List V}
    (S : FnScope N ps scope) (hd : A.handled = none) (e0 : Env0 P w K mg base A outer s H) (hl : vs.length = ps.length) (r : Vals vs us)
    (x : InCallC s s.heap.objs.size (bindL (envOfC qual scope s.heap.objs.size f cd).kindOf (ps.zip us) fun _ => none) (cellsFrom (s.heap.objs.size + 1) scope.names []) (bindC (envOfC qual scope s.heap.objs.size f cd).kindOf (ps.zip us) fun _ => none) s1) :
    Inv (cxOf CX P w K mg base N qual scope f cd A outer s H E) [] (start N vs) H s1 := by
  have hpl : ps.length ≤ N.length := by have := congrArg List.length S.pre; rw [List.length_take] at this; omega
  obtain ⟨h1, tk, rfl, hk⟩ := x.done
  have noA : ∀ b : Addr, b ∉ (cxOf CX P w K mg base N qual scope f cd A outer s H E).ex := fun b z => absurd (show b ∈ ([] : List Addr) from z) (by simp)
  refine ⟨⟨e0.mod, S.kind, rfl, rfl, Nat.le_refl _, fun y z c h1 h2 => ?_, fun y hy => ?_, fun y c _ h => ?_, fun _ => hd, Around.frames_deeper e0.frames, .inr ⟨rfl, rfl⟩, fun b z => absurd z (noA b), e0.bs, e0.bsz, fun b _ _ => noA b, fun b z => absurd z (noA b), e0.funs, e0.frf⟩,
    rfl, e0.bare, Un.kept hk, ⟨_, x.toInCall.ns, fun i y v h1 h2 h3 => ?_⟩, fun y c h => ⟨_, x.cell y c h⟩, e0.hok.fresh (Nat.le_refl _), fun y c h => ?_, fun p hp => absurd (show p ∈ ([] : List (Addr × Obj)) from hp) (by simp), e0.hok.kept hk, ?_⟩
  · exact name_of_addr x.apart (PySem.mem_of_lookup h1) (PySem.mem_of_lookup h2)
  · have hy : scope.names.lookup y = some .cell ∨ scope.names.lookup y = some .free := hy
    rcases hy with hy | hy
    · exact cell_has hy
    · exact absurd rfl (S.nofree _ (PySem.mem_of_lookup hy))
  · exact Nat.le_of_lt (x.above y c (PySem.mem_of_lookup h))
  · have hi : i < vs.length := by
      unfold start at h2
      by_cases hi : i < vs.length
      · exact hi
      · rw [List.getElem?_append_right (by simpa using hi)] at h2
        rw [List.getElem?_replicate] at h2
        split at h2 <;> cases h2
    have ha : vs[i]? = some v := by
      unfold start at h2
      rw [List.getElem?_append_left (by simpa using hi), List.getElem?_map] at h2
      cases e : vs[i]? with
      | none => rw [e] at h2; cases h2
      | some a => rw [e] at h2; cases h2; rfl
    obtain ⟨u, hu, rv⟩ := r.get ha
    have hp : ps[i]? = some y := by
      rw [← S.pre, List.getElem?_take_of_lt (by omega)]; exact h1
    have ndP : ps.Nodup := by rw [← S.pre]; exact S.nd.sublist (List.take_sublist _ _)
    refine ⟨u, rv, ?_⟩
    rcases S.par y (List.mem_of_getElem? hp) with k | k
    · exact .inl ⟨k, bindL_get ndP hp hu k⟩
    · obtain ⟨c, e⟩ := cell_has (n := s.heap.objs.size + 1) k
      refine .inr ⟨.inl k, c, e, ?_⟩
      have q := x.cell y c e
      rw [bindC_get ndP hp hu (by show scope.names.lookup y ≠ _; rw [k]; decide)] at q
      exact q
  · exact e0.hok.fresh (Nat.le_of_lt (x.above y c (PySem.mem_of_lookup h)))
  · unfold start
    show _ = N.length
    rw [List.length_append, List.length_map, List.length_replicate]
    omega
theorem fn_of {CX : CXT} {P : Program} {w : World} {K : PySem.W.Frag} {mg : Str → Option Value} {base : Heap} {k : Nat} {f : Addr} {name qual : Str} {params : Arguments} {body : List Stmt} {scope : Scope} {dV kV doc pm cdv ct oc : Value} {an od : Option Addr}
    {osl : Array (Option Value)} {N ps : List Str} {sp : Sp} (lk : K.lookup f = some ⟨oc, od, .func (PySem.W.fnOf name qual params body scope dV kV doc pm an cdv ct), osl⟩) (hcd : PySem.W.codeIn K cdv qual = true) (S : FnScope N ps scope)
    (len : ∀ vs H Q E, sp vs H Q E → vs.length = ps.length)
    (hbody : ∀ (A : Around) (outer : List Env) (s : Shared) (H : Hp) (vs : List V) (Q : VK) (E : XK), Room k (A.deeper (envOfC qual scope s.heap.objs.size f cdv)) → sp vs H Q E →
      ∃ t, PSs (cxOf CX P w K mg base N qual scope f cdv A outer s H E) body t ∧ t { nx := fun _ H' => Q .non H', rt := Q } (start N vs) H) :
    FnOk P w K mg base CX (k + 1) f (PySem.W.fnOf name qual params body scope dV kV doc pm an cdv ct) ps sp := by
  refine ⟨len, fun A outer s H args us vs Q E hr e0 hb r hsp => ?_⟩
  have hl := len _ _ _ _ hsp
  have KX : K.In s.heap := e0.mod.kin.keeps fun b o e => (e0.bs b o e).1
  have lim : s.heap.NoLimit := e0.mod.nolimit.keeps fun b o e => (e0.bs b o e).1
  have hkind : ∀ y ∈ ps.zip us, scope.names.lookup y.1 = some .local ∨ (scope.names.lookup y.1 = some .cell ∧ ((cellsFrom (s.heap.objs.size + 1) scope.names []).lookup y.1).isSome = true) := fun ⟨n, v⟩ hy => by
    rcases S.par n (List.of_mem_zip hy).1 with q | q
    · exact .inl q
    · exact .inr ⟨q, PySem.W.cellsFrom_some _ _ _ (.inl q)⟩
  refine codeAny_call_function hr.depth (KX _ _ lk) rfl S.co S.gen rfl (PySem.W.codeRec_of KX hcd) (hb _ _ _ _ ?_)
  refine wpAny_newFunctionEnv_cells S.kind hkind fun env he s1 x => ?_
  subst he
  refine ⟨lim.keeps x.toInCall.keep, codeAny_func ?_⟩
  obtain ⟨t, ht, hq⟩ := hbody A outer s H vs Q E (hr.deeper _) hsp
  have I : Inv (cxOf CX P w K mg base N qual scope f cdv A outer s H E) [] (start N vs) H s1 := inv_start S hr.hd e0 hl r x
  refine wpAny_mono (ht [] s1 (start N vs) H _ I hq) (fun fl s' hs => ?_) fun e s' hs => hs
  have fin : ∀ {σ' : St} {H' : Hp} {v : V} {u : Value}, Inv (cxOf CX P w K mg base N qual scope f cdv A outer s H E) [] σ' H' s' → RelV v u → Q v H' → CE outer P w H s Q u s' :=
    fun {σ' H' v u} J rv q => ⟨v, H', J.os, J.bare, J.base, J.hok, rv, q⟩
  cases fl with
  | ret u =>
    obtain ⟨v, σ', H', J, rv, q⟩ := hs
    exact fin J rv q
  | next =>
    obtain ⟨σ', H', J, q⟩ := hs
    exact fin (v := V.non) (u := Value.none) J rfl q
  | brk =>
    obtain ⟨_, _, _, q⟩ := hs
    exact False.elim q
  | cont =>
    obtain ⟨_, _, _, q⟩ := hs
    exact False.elim q
end L2
namespace L2
open PySem PySem.Spec PyProof.Rows
section
variable {X : Cx} {x : Str} {p pos : Pos} {e : Expr} {es : List Expr} {t : TA} {id T : String} {r : List V → Hp → VK → Prop}
def tCB (r : List V → Hp → VK → Prop) (t : TA) : TE := fun σ H Q => t σ H fun vs H1 => r vs H1 Q
theorem pe_callB (hc : CallR X (.builtin id) r) (hg : Gl X x) (hm : X.mg x = none) (hv : bootBuiltins x = some (.builtin id)) (ha : PA X (e :: es) t) (hn : x ≠ "__name__" := by decide) (hdb : (x == ("__debug__" : Str)) = false := by decide)
    (he : starEach (e :: es) X.env = (false, eval e X.env) :: starEach es X.env := by rfl) (hpl : (backTo pos (starEach es X.env)).any (·.1) = false := by rfl) : PE X (.Call (.Name x p) (e :: es) [] pos) (tCB r t) := by
  intro pins s σ H Q I h
  refine wpAny_Call_Name_kw (ld_blt I hg hm hv ?_ hn hdb)
  exact PyProof.Rows.callWith_builtin1 (thn (ha pos pins s σ H _ I h) fun us s1 ⟨vs, H1, I1, r1, q1⟩ => hc pins s1 σ H1 vs us Q I1 r1 q1) he hpl
theorem pe_callTy (hc : CallR X (.type T) r) (hg : Gl X x) (hm : X.mg x = none) (hv : bootBuiltins x = some (.type T)) (ha : PA X (e :: es) t) (hn : x ≠ "__name__" := by decide) (hdb : (x == ("__debug__" : Str)) = false := by decide)
    (he : starEach (e :: es) X.env = (false, eval e X.env) :: starEach es X.env := by rfl) (hpl : (backTo pos (starEach es X.env)).any (·.1) = false := by rfl) : PE X (.Call (.Name x p) (e :: es) [] pos) (tCB r t) := by
  intro pins s σ H Q I h
  refine wpAny_Call_Name_kw (ld_blt I hg hm hv ?_ hn hdb)
  exact PyProof.Rows.callWith_type1 (thn (ha pos pins s σ H _ I h) fun us s1 ⟨vs, H1, I1, r1, q1⟩ => hc pins s1 σ H1 vs us Q I1 r1 q1) he hpl
end
end L2
namespace HT
open PySem PyProof.Rows
def lexLt : List Int → List Int → Bool
  | [], [] => false
  | [], _ :: _ => true
  | _ :: _, [] => false
  | x :: xs, y :: ys => if x = y then lexLt xs ys else decide (x < y)
section
open PySem.SeqAt
open PySem.AutoSeq1 (wpAny_loadPart')
open PySem.MeetsSeq PySem.MeetsSeq2 PySem.MeetsSeq3
end
section
variable {prog : Program} {w : World} {A : Around} {E : Value → Shared → Prop} {s : Shared}
theorem cat_tup {t b : Addr} {vs ws : List Value} {Q : Value → Shared → Prop} (ht : IsTup s.heap t vs.toArray) (hb : IsTup s.heap b ws.toArray) (hv : vs ≠ [])
    (h1 : ws = [] → Q (.ref t) s) (h2 : ws ≠ [] → Q (.ref s.heap.objs.size) { s with heap := s.heap.push { cls := .type "tuple", data := .seq (vs ++ ws).toArray } })
    (hsz : vs.length + ws.length ≤ sizeLine) : wpAny (model prog w) A (binaryOp .Add (.ref t) (.ref b)) Q E s := by
  obtain ⟨⟨cls, dd, data, sl⟩, ho, hc, n, hd⟩ := id ht
  obtain ⟨⟨cls2, dd2, data2, sl2⟩, ho2, hc2, n2, hd2⟩ := id hb
  simp only at hc hd hc2 hd2
  subst hc hd hc2 hd2
  have e : vs.toArray ++ ws.toArray = (vs ++ ws).toArray := by simp
  by_cases hw : ws = []
  · exact concat_meets ⟨_, ho, rfl⟩ ⟨_, ho2, rfl⟩ noFill_tuple_add seq_tuple_add PySem.F.slot_tuple_add PySem.F.entry_tuple_add (PySem.F.args_tuple_add_2 _ _)
      (tuple_addW1 t b vs.toArray ws.toArray n n2 dd dd2 sl sl2 (by simpa using hv) (by simp [hw])) ⟨ho, ho2, h1 hw⟩
  · refine concat_meets ⟨_, ho, rfl⟩ ⟨_, ho2, rfl⟩ noFill_tuple_add seq_tuple_add PySem.F.slot_tuple_add PySem.F.entry_tuple_add (PySem.F.args_tuple_add_2 _ _)
      (tuple_addW2 t b vs.toArray ws.toArray n n2 dd dd2 sl sl2 (by simpa using hv) (by simpa using hw) (by rw [List.size_toArray, List.size_toArray]; exact hsz)) ⟨ho, ho2, ?_⟩
    rw [e]
    exact h2 hw
def sIx (n d : Nat) : Option Int → Nat
  | none => d
  | some v => if v < 0 then (v + (n : Int)).toNat else min v.toNat n
theorem sIx_le (n d : Nat) (hd : d ≤ n) (o : Option Int) : sIx n d o ≤ n := by
  cases o with
  | none => exact hd
  | some v =>
    show (if v < 0 then (v + (n : Int)).toNat else min v.toNat n) ≤ n
    by_cases hv : v < 0
    · rw [if_pos hv]; omega
    · rw [if_neg hv]; exact Nat.min_le_right _ _
theorem clip_eq (v : Int) (n d : Nat) : (if v < 0 then max (v + (n : Int)) 0 else min v (n : Int)) = ((sIx n d (some v) : Nat) : Int) := by
  show (if v < 0 then max (v + (n : Int)) 0 else min v (n : Int)) = (((if v < 0 then (v + (n : Int)).toNat else min v.toNat n) : Nat) : Int)
  by_cases hv : v < 0
  · simp only [if_pos hv]; omega
  · simp only [if_neg hv]; omega
theorem adjust_gen (lo hi : Option Int) (n : Nat) : Builtin.Slice.sliceAdjust lo hi 1 (n : Int) = (((sIx n 0 lo : Nat) : Int), ((sIx n n hi : Nat) : Int)) := by
  have h1 : ¬ ((1 : Int) < 0) := by omega
  unfold Builtin.Slice.sliceAdjust
  simp only [h1, if_false]
  refine Prod.ext ?_ ?_
  · cases lo with
    | none => rfl
    | some v => exact clip_eq v n 0
  · cases hi with
    | none => rfl
    | some v => exact clip_eq v n n
theorem places_gen (i j : Nat) : Builtin.Slice.slicePlaces (i : Int) (j : Int) 1 = j - i := by
  unfold Builtin.Slice.slicePlaces
  have h1 : (1 : Int) > 0 := by omega
  simp only [h1, if_true, Int.ediv_one]
  split <;> omega
theorem slicePart_ {v : Value} {o : Option Int} {Q : Option Int → Shared → Prop} (p : IsPart v o) (h : Q o s) : wpAny (model prog w) A (Builtin.Slice.slicePartIndex v) Q E s := by
  cases p with
  | none => exact slicePart_none h
  | int i t => exact slicePart_int h
theorem sliceApplied_gen {sl : Addr} {vl vu : Value} {lo hi : Option Int} {n : Nat} {Q : Int × Int × Nat → Shared → Prop} (hs : s.heap.IsSliceOf sl vl vu .none) (pl : IsPart vl lo) (pu : IsPart vu hi)
    (h : Q (((sIx n 0 lo : Nat) : Int), 1, sIx n n hi - sIx n 0 lo) s) : wpAny (model prog w) A (Builtin.Slice.sliceApplied (.ref sl) (pure (n : Int))) Q E s := by
  obtain ⟨os, hos, hcs, hds⟩ := id hs
  unfold Builtin.Slice.sliceApplied Builtin.Slice.sliceFields
  refine wpAny_bind (wpAny_bind (wpAny_field hos hds (x := vl) rfl (wpAny_bind (wpAny_field hos hds (x := vu) rfl (wpAny_bind (wpAny_field hos hds (x := .none) rfl (wpAny_pure ?_)))))))
  refine wpAny_bind (slicePart_none ?_)
  show wpAny _ _ (if ((1 : Int) == 0) = true then _ else _) _ _ s
  rw [if_neg (by decide)]
  refine wpAny_bind (slicePart_ pl (wpAny_bind (slicePart_ pu (wpAny_bind (wpAny_pure ?_)))))
  show wpAny _ _ (match Builtin.Slice.sliceAdjust lo hi 1 (n : Int) with | (lo, hi) => pure (lo, (1 : Int), Builtin.Slice.slicePlaces lo hi 1)) _ _ s
  rw [adjust_gen lo hi n]
  show wpAny _ _ (pure (((sIx n 0 lo : Nat) : Int), (1 : Int), Builtin.Slice.slicePlaces ((sIx n 0 lo : Nat) : Int) ((sIx n n hi : Nat) : Int) 1)) _ _ s
  rw [places_gen]
  exact wpAny_pure h
theorem pick_gen (xs : Array Value) (i k : Nat) : ((List.range k).filterMap fun (m : Nat) => xs[((i : Int) + (m : Int) * 1).toNat]?).toArray = ((xs.toList.drop i).take k).toArray := by
  have e : (fun (m : Nat) => xs[((i : Int) + (m : Int) * 1).toNat]?) = fun m => xs[i + m]? := by
    funext m
    have : ((i : Int) + (m : Int) * 1).toNat = i + m := by omega
    rw [this]
  rw [e]
  have := pick_run xs i k
  rw [List.filterMap_map] at this
  have e2 : ((fun x => xs[x]?) ∘ fun x => i + x) = fun m => xs[i + m]? := rfl
  rw [e2] at this
  rw [this]
theorem getItem_tuple_cut {t sl : Addr} {items : Array Value} {vl vu : Value} {lo hi : Option Int} {Q : Value → Shared → Prop} (ht : IsTup s.heap t items) (hs : s.heap.IsSliceOf sl vl vu .none) (pl : IsPart vl lo) (pu : IsPart vu hi)
    (hw : ¬ (sIx items.size 0 lo = 0 ∧ sIx items.size items.size hi = items.size))
    (h : Q (.ref s.heap.objs.size) { s with heap := s.heap.push { cls := .type "tuple", data := .seq ((items.toList.drop (sIx items.size 0 lo)).take (sIx items.size items.size hi - sIx items.size 0 lo)).toArray } })
    (hsz : items.size ≤ sizeLine) : wpAny (model prog w) A (getItem (.ref t) (.ref sl)) Q E s := by
  have htake : sizeOk (.seq ((items.toList.drop (sIx items.size 0 lo)).take (sIx items.size items.size hi - sIx items.size 0 lo)).toArray) := by
    show ((items.toList.drop (sIx items.size 0 lo)).take (sIx items.size items.size hi - sIx items.size 0 lo)).toArray.size ≤ sizeLine
    rw [List.size_toArray, List.length_take, List.length_drop, Array.length_toList]
    omega
  have hj : sIx items.size items.size hi ≤ items.size := sIx_le _ _ (Nat.le_refl _) hi
  obtain ⟨os, hos, hcs, hds⟩ := id hs
  have hTs : s.TypeIs (.ref sl) "slice" := ⟨os, hos, hcs⟩
  unfold getItem
  try with_reducible refine wpAny_holding ?_
  first | refine wpAny_bind (wpAny_pure ?_) | skip
  refine wpAny_bind (wpAny_sequenceKey ht.typeIs (by decide) ?_)
  refine wpAny_bind (wpAny_callSpecial?_slot (name := Str.ofString "__getitem__") ht.typeIs PyProof.Rows.slot_tuple_getitem
    (wpAny_call_entry PyProof.Rows.slot_tuple_getitem ht.typeIs entry_tuple_getitem ?_ (args_tuple_getitem _ _)))
  show wpAny _ _ (Builtin.Tuple.tupleItemsOf (.ref t) >>= _) _ _ s
  refine wpAny_bind (tupleItemsOf_ ht ?_)
  refine wpAny_bind (wpAny_typeOf hTs ?_)
  rw [if_pos (by decide)]
  refine wpAny_bind (sliceApplied_gen hs pl pu ?_)
  have hno : ¬ ((((sIx items.size 0 lo : Nat) : Int) == 0 && (1 : Int) == 1 && (sIx items.size items.size hi - sIx items.size 0 lo) == items.size) = true) := by
    intro q
    rw [Bool.and_eq_true, Bool.and_eq_true] at q
    have q1 : ((sIx items.size 0 lo : Nat) : Int) = 0 := eq_of_beq q.1.1
    have q2 : sIx items.size items.size hi - sIx items.size 0 lo = items.size := eq_of_beq q.2
    exact hw ⟨by omega, by omega⟩
  show wpAny _ _ (if (((sIx items.size 0 lo : Nat) : Int) == 0 && (1 : Int) == 1 && (sIx items.size items.size hi - sIx items.size 0 lo) == items.size) = true then _ else _) _ _ s
  rw [if_neg hno, pick_gen]
  first
    | exact wpAny_bind (m := Builtin.Tuple.tupleExact _) (wpAny_newObj_type (wpAny_pure ⟨_, rfl, wpAny_pure h⟩) htake)
    | exact wpAny_bind (m := Builtin.Tuple.tupleExact _) (wpAny_newObj_type (wpAny_bind (wpAny_pure (wpAny_pure ⟨_, rfl, wpAny_pure h⟩))) htake)
    | exact wpAny_bind (wpAny_bind (m := Builtin.Tuple.tupleExact _) (wpAny_newObj_type (wpAny_pure (wpAny_pure ⟨_, rfl, wpAny_pure h⟩)) htake))
    | exact wpAny_bind (wpAny_bind (m := Builtin.Tuple.tupleExact _) (wpAny_newObj_type (wpAny_pure ⟨_, rfl, wpAny_pure h⟩) htake))
end
end HT
namespace L2
open PySem PySem.Spec PyProof.Rows
abbrev TO := St → Hp → (Option Int → Hp → Prop) → Prop
def PO (X : Cx) (e : Option Expr) (t : TO) : Prop :=
  ∀ (pins : List (Addr × Obj)) (s : Shared) (σ : St) (H : Hp) (Q : Option Int → Hp → Prop), Inv X pins σ H s → t σ H Q →
    wpAny (model X.prog X.w) X.A (evalPart e X.env) (fun u s' => ∃ o H', Inv X pins σ H' s' ∧ IsPart u o ∧ Q o H') X.xe s
def tNoPart : TO := fun _ H Q => Q none H
def tPart (t : TE) : TO := fun σ H Q => t σ H fun x H1 => ∃ i, x = .int i ∧ Q (some i) H1
section
variable {X : Cx} {e : Expr} {te : TE} {lo hi : Option Expr} {tl th : TO} {pos p2 : Pos}
theorem po_none : PO X none tNoPart := by
  intro pins s σ H Q I h
  rw [evalPart_none]
  exact wpAny_pure ⟨none, H, I, .none, h⟩
theorem po_some (h : PE X e te) : PO X (some e) (tPart te) := by
  intro pins s σ H Q I hw
  rw [evalPart_some]
  refine thn (h pins s σ H _ I hw) fun u s1 ⟨x, H1, I1, r1, q1⟩ => ?_
  obtain ⟨i, rfl, q⟩ := q1
  obtain ⟨t, rfl⟩ := r1
  exact ⟨some i, H1, I1, .int i t, q⟩
def SlR (X : Cx) (r : V → Option Int → Option Int → Hp → VK → Prop) : Prop :=
  ∀ (pins : List (Addr × Obj)) (s : Shared) (σ : St) (H : Hp) (x : V) (v vl vu : Value) (lo hi : Option Int) (sl : Addr) (Q : VK), Inv X pins σ H s → RelV x v → s.heap.IsSliceOf sl vl vu .none → IsPart vl lo → IsPart vu hi → r x lo hi H Q →
    ∃ T id, typeLookup (.type T) "__getitem__" = pure (some (.builtin id)) ∧ s.TypeIs v T ∧ wpAny (model X.prog X.w) X.A (getItem v (.ref sl)) (EP X pins σ Q) X.xe s
theorem SlR.or {r r' : V → Option Int → Option Int → Hp → VK → Prop} (h : SlR X r) (h' : SlR X r') : SlR X (fun x lo hi H Q => r x lo hi H Q ∨ r' x lo hi H Q) := by
  intro pins s σ H x v vl vu lo hi sl Q I rx hs pl pu q
  rcases q with q | q
  · exact h pins s σ H x v vl vu lo hi sl Q I rx hs pl pu q
  · exact h' pins s σ H x v vl vu lo hi sl Q I rx hs pl pu q
def tSl (r : V → Option Int → Option Int → Hp → VK → Prop) (te : TE) (tl th : TO) : TE := fun σ H Q => te σ H fun x H1 => tl σ H1 fun l H2 => th σ H2 fun u H3 => r x l u H3 Q
theorem pe_slice {r : V → Option Int → Option Int → Hp → VK → Prop} (hr : SlR X r) (he : PE X e te) (hl : PO X lo tl) (hu : PO X hi th) : PE X (.Subscript e (.Slice lo hi none p2) pos) (tSl r te tl th) := by
  intro pins s σ H Q I h
  refine Subscript_ (thn (he pins s σ H _ I h) fun v s1 ⟨x, H1, I1, r1, q1⟩ => ?_)
  refine wpAny_Slice (thn (hl pins s1 σ H1 _ I1 q1) fun vl s2 ⟨l, H2, I2, pl, q2⟩ => thn (hu pins s2 σ H2 _ I2 q2) fun vu s3 ⟨u, H3, I3, pu, q3⟩ => ?_)
  rw [evalPart_none]
  refine wpAny_pure ?_
  have I4 : Inv X pins σ H3 { s3 with heap := s3.heap.push { cls := .type "slice", data := .fields #[vl, vu, .none] } } := I3.kept (t' := s3.toks) fun b ob q => Heap.get?_push_of_some _ q
  obtain ⟨T, id, hT, ht, hg⟩ := hr pins { s3 with heap := s3.heap.push { cls := .type "slice", data := .fields #[vl, vu, .none] } } σ H3 x v vl vu l u s3.heap.objs.size Q I4 r1 (Heap.IsSliceOf.new ..) pl pu q3
  show wpAny (model X.prog X.w) X.A (subscriptTail e (.Slice lo hi none p2) v (.ref s3.heap.objs.size)) (EP X pins σ Q) X.xe { s3 with heap := s3.heap.push { cls := .type "slice", data := .fields #[vl, vu, .none] } }
  exact tail_any (ops := [.ref s3.heap.objs.size, v]) ht hT hg (by with_unfolding_all rfl)
def cutV (xs : List V) (lo hi : Option Int) : List V := (xs.drop (HT.sIx xs.length 0 lo)).take (HT.sIx xs.length xs.length hi - HT.sIx xs.length 0 lo)
theorem cutV_length (xs : List V) (lo hi : Option Int) : (cutV xs lo hi).length ≤ xs.length := by
  unfold cutV
  rw [List.length_take, List.length_drop]
  omega
def rSlT (K : PySem.W.Frag) : V → Option Int → Option Int → Hp → VK → Prop := fun x lo hi H Q => ∃ a xs, x = .ref a ∧ SqT K H a xs ∧
  ¬ (HT.sIx xs.length 0 lo = 0 ∧ HT.sIx xs.length xs.length hi = xs.length) ∧ ∀ p, H p = none → Q (.ref p) (upd H p (.tup (cutV xs lo hi)))
theorem sl_tup : SlR X (rSlT X.K) := by
  intro pins s σ H x v vl vu lo hi sl Q I rx hs pl pu h
  obtain ⟨a, xs, rfl, hx, hw, q⟩ := h
  cases rx
  obtain ⟨its, r, ht, hz⟩ := I.tuple hx
  have hlen : its.toArray.size = xs.length := by rw [List.size_toArray]; exact r.length.symm
  refine ⟨"tuple", _, PyProof.Rows.slot_tuple_getitem.lookup, ht.typeIs, ?_⟩
  refine HT.getItem_tuple_cut ht hs pl pu (by rw [hlen]; exact hw) ?_ (by rw [hlen]; exact hz)
  rw [hlen]
  refine ⟨.ref s.heap.objs.size, _, I.laid (t' := s.toks) (o := .tup (cutV xs lo hi)) (fun b ob q => Heap.get?_push_of_some _ q) (Nat.le_refl _) ?_, rfl, q _ (I.hok.fresh (Nat.le_refl _))⟩
  exact ⟨Nat.le_trans (cutV_length xs lo hi) hz, _, (r.drop (HT.sIx xs.length 0 lo)).take (HT.sIx xs.length xs.length hi - HT.sIx xs.length 0 lo), IsTup.new _ _⟩
def rLtT (K : PySem.W.Frag) : R2 := fun x y H Q => ∃ a b ns ms, x = .ref a ∧ y = .ref b ∧ SqT K H a (ns.map V.int) ∧ SqT K H b (ms.map V.int) ∧ Q (.bl (HT.lexLt ns ms)) H
def rCatT (K : PySem.W.Frag) : R2 := fun x y H Q => ∃ a b xs ys, x = .ref a ∧ y = .ref b ∧ SqT K H a xs ∧ SqT K H b ys ∧ xs ≠ [] ∧ xs.length + ys.length ≤ sizeLine ∧
  (ys = [] → Q (.ref a) H) ∧ (ys ≠ [] → ∀ p, H p = none → Q (.ref p) (upd H p (.tup (xs ++ ys))))
theorem Vals.nil_iff {xs : List V} {us : List Value} (r : Vals xs us) : us = [] ↔ xs = [] := by
  cases r with
  | nil => simp
  | cons _ _ => simp
theorem op_catT : OpR X (binaryOp .Add) (rCatT X.K) := by
  intro pins s σ H x y v u Q I rx ry h
  obtain ⟨a, b, xs, ys, rfl, rfl, ha, hb, hx, hz, q1, q2⟩ := h
  cases rx
  cases ry
  obtain ⟨its, r1, p1, _⟩ := I.tuple ha
  obtain ⟨its2, r2, p2, _⟩ := I.tuple hb
  refine HT.cat_tup p1 p2 (fun z => hx (r1.nil_iff.mp z)) (fun z => ⟨.ref a, H, I, rfl, q1 (r2.nil_iff.mp z)⟩) (fun z => ?_) (by rw [← r1.length, ← r2.length]; exact hz)
  refine ⟨.ref s.heap.objs.size, _, I.laid (t' := s.toks) (o := .tup (xs ++ ys)) (fun b ob q => Heap.get?_push_of_some _ q) (Nat.le_refl _) ?_, rfl, q2 (fun w => z (r2.nil_iff.mpr w)) _ (I.hok.fresh (Nat.le_refl _))⟩
  exact ⟨by rw [List.length_append]; exact hz, _, r1.append r2, IsTup.new _ _⟩
end
end L2
namespace L2
open PySem PySem.Spec PyProof.Rows
def ixN (n : Nat) (i : Int) : Option Nat := if 0 ≤ i then (if i < n then some i.toNat else none) else if -(n : Int) ≤ i then some (i + n).toNat else none
def atI {α : Type} (xs : List α) (i : Int) : Option α := (ixN xs.length i).bind fun j => xs[j]?
theorem ixN_seq {n : Nat} {i : Int} {j : Nat} (h : ixN n i = some j) : seqIndex? i n = some j ∧ j < n ∧ -(n : Int) ≤ i ∧ i < n := by
  unfold ixN at h
  by_cases h0 : 0 ≤ i
  · rw [if_pos h0] at h
    by_cases h1 : i < n
    · rw [if_pos h1] at h
      have e : i.toNat = j := Option.some.inj h
      exact ⟨by rw [seqIndex_of h0 h1, e], by omega, by omega, h1⟩
    · rw [if_neg h1] at h; cases h
  · rw [if_neg h0] at h
    by_cases h1 : -(n : Int) ≤ i
    · rw [if_pos h1] at h
      have e : (i + n).toNat = j := Option.some.inj h
      exact ⟨by rw [seqIndex_neg (by omega) h1, e], by omega, h1, by omega⟩
    · rw [if_neg h1] at h; cases h
theorem atI_get {α : Type} {xs : List α} {i : Int} {v : α} (h : atI xs i = some v) : ∃ j, seqIndex? i xs.length = some j ∧ xs[j]? = some v ∧ j < xs.length ∧ -(xs.length : Int) ≤ i ∧ i < xs.length := by
  unfold atI at h
  cases e : ixN xs.length i with
  | none => rw [e] at h; cases h
  | some j =>
    rw [e] at h
    obtain ⟨h1, h2, h3, h4⟩ := ixN_seq e
    exact ⟨j, h1, h, h2, h3, h4⟩
def PlainIx (b : Expr) : Prop := ∀ o i, subscripted b false o i = operate [o, i] (getItem o i)
def IxR (X : Cx) (r : R2) : Prop :=
  ∀ (value slice : Expr) (pins : List (Addr × Obj)) (s : Shared) (σ : St) (H : Hp) (x y : V) (v u : Value) (Q : VK), Inv X pins σ H s → RelV x v → RelV y u → r x y H Q →
    subscripted slice false v u = operate [v, u] (getItem v u) → wpAny (model X.prog X.w) X.A (subscriptTail value slice v u) (EP X pins σ Q) X.xe s
def MtR (X : Cx) (id : String) (r : V → List V → Hp → VK → Prop) : Prop :=
  ∀ (pins : List (Addr × Obj)) (s : Shared) (σ : St) (H : Hp) (x : V) (xs : List V) (v : Value) (us : List Value) (Q : VK), Inv X pins σ H s → RelV x v → Vals xs us → r x xs H Q →
    wpAny (model X.prog X.w) X.A (call (.builtin id) (v :: us)) (EP X pins σ Q) X.xe s
section
variable {X : Cx} {a b : Expr} {ta tb : TE} {pos : Pos}
theorem IxR.or {r r' : R2} (h : IxR X r) (h' : IxR X r') : IxR X (fun x y H Q => r x y H Q ∨ r' x y H Q) := by
  intro value slice pins s σ H x y v u Q I rx ry q hs
  rcases q with q | q
  · exact h value slice pins s σ H x y v u Q I rx ry q hs
  · exact h' value slice pins s σ H x y v u Q I rx ry q hs
theorem MtR.or {id : String} {r r' : V → List V → Hp → VK → Prop} (h : MtR X id r) (h' : MtR X id r') : MtR X id (fun x xs H Q => r x xs H Q ∨ r' x xs H Q) := by
  intro pins s σ H x xs v us Q I rx rs q
  rcases q with q | q
  · exact h pins s σ H x xs v us Q I rx rs q
  · exact h' pins s σ H x xs v us Q I rx rs q
theorem pe_ix {r : R2} (hr : IxR X r) (ha : PE X a ta) (hb : PE X b tb) (hs : PlainIx b) : PE X (.Subscript a b pos) (tOp r ta tb) := by
  intro pins s σ H Q I h
  exact Subscript_ (binT ha hb I h fun v u s2 x y H2 I2 rx ry q => hr a b pins s2 σ H2 x y v u Q I2 rx ry q (hs _ _))
def rIxL (K : PySem.W.Frag) : R2 := fun x y H Q => ∃ p xs i v, x = .ref p ∧ y = .int i ∧ SqL K H p xs ∧ atI xs i = some v ∧ Q v H
def rIxT (K : PySem.W.Frag) : R2 := fun x y H Q => ∃ p xs i v, x = .ref p ∧ y = .int i ∧ SqT K H p xs ∧ atI xs i = some v ∧ Q v H
def rIxS : R2 := fun x y H Q => ∃ z i c, x = .str z ∧ y = .int i ∧ z.length ≤ sizeLine ∧ atI z.cps.toList i = some c ∧ Q (.str ⟨#[c]⟩) H
theorem ix_list : IxR X (rIxL X.K) := by
  intro value slice pins s σ H x y v u Q I rx ry h hs
  obtain ⟨p, xs, i, z, rfl, rfl, hq, he, q⟩ := h
  cases rx
  obtain ⟨t, rfl⟩ := ry
  obtain ⟨its, r, pl, hz⟩ := I.list hq
  obtain ⟨j, h1, h2, h3, h4, h5⟩ := atI_get he
  obtain ⟨w, ew, rw'⟩ := r.get h2
  have hl := r.length
  have hn := line63
  have fin : EP X pins σ Q w s := ⟨z, H, I, rw', q⟩
  by_cases h0 : 0 ≤ i
  · have hj : i.toNat = j := by
      rw [seqIndex_of h0 h5] at h1
      exact Option.some.inj h1
    exact item_listR pl.isList h0 (by omega) (by rw [hj]; simpa using ew) fin hs
  · have hj : (i + (its.toArray.size : Int)).toNat = j := by
      rw [seqIndex_neg (by omega) h4] at h1
      rw [List.size_toArray, ← hl]
      exact Option.some.inj h1
    exact subscriptTail_builtinR (x := w) pl.isList.typeIs slot_list_getitem.lookup
      (wpAny_getItem_list_neg (Q := fun r s' => r = w ∧ EP X pins σ Q r s') pl.isList (by omega) (by rw [List.size_toArray] <;> omega) (by omega) (by rw [hj]; simpa using ew) ⟨rfl, fin⟩) hs
theorem ix_tup : IxR X (rIxT X.K) := by
  intro value slice pins s σ H x y v u Q I rx ry h hs
  obtain ⟨p, xs, i, z, rfl, rfl, hq, he, q⟩ := h
  cases rx
  obtain ⟨t, rfl⟩ := ry
  obtain ⟨its, r, pl, hz⟩ := I.tuple hq
  obtain ⟨j, h1, h2, h3, h4, h5⟩ := atI_get he
  obtain ⟨w, ew, rw'⟩ := r.get h2
  have hl := r.length
  have hn := line63
  have fin : EP X pins σ Q w s := ⟨z, H, I, rw', q⟩
  exact subscriptTail_builtinR (x := w) pl.typeIs slot_tuple_getitem.lookup
    (getItem_tuple (j := j) (Q := fun r s' => r = w ∧ EP X pins σ Q r s') pl (by omega) (by omega) (by rw [List.size_toArray, ← hl]; exact h1) (by simpa using ew) ⟨rfl, fin⟩) hs
theorem ix_str : IxR X rIxS := by
  intro value slice pins s σ H x y v u Q I rx ry h hs
  obtain ⟨z, i, c, rfl, rfl, hz, he, q⟩ := h
  obtain ⟨t, rfl⟩ := rx
  obtain ⟨t', rfl⟩ := ry
  obtain ⟨j, h1, h2, h3, h4, h5⟩ := atI_get he
  have hl : z.cps.toList.length = z.length := by simp [Str.length]
  rw [hl] at h1 h4 h5
  have hn := line63
  exact tail_any (typeIs_str s z t) slot_str_getitem.lookup (getItem_str (c := c) (by
    have e1 : decide (i < -(2 ^ 63 : Int)) = false := decide_eq_false (by omega)
    have e2 : decide (i ≥ 2 ^ 63) = false := decide_eq_false (by omega)
    rw [e1, e2, Bool.or_false]) (by rw [h1]; simpa using h2) ⟨.str ⟨#[c]⟩, H, I.tok _, ⟨_, rfl⟩, q⟩) hs
def rIx (K : PySem.W.Frag) : R2 := fun x y H Q => rIxL K x y H Q ∨ rIxT K x y H Q ∨ rIxS x y H Q
theorem Inv.lst {pins : List (Addr × Obj)} {σ : St} {H : Hp} {s : Shared} {p : Addr} {xs : List V} (I : Inv X pins σ H s) (h : H p = some (.lst xs)) :
    ∃ (its : List Value) (n : Nat), Vals xs its ∧ s.heap.get? p = some { cls := .type "list", data := .seq its.toArray n } ∧ xs.length ≤ sizeLine := by
  obtain ⟨z, its, n, r, e⟩ := I.hok p _ h
  exact ⟨its, n, r, e, z⟩
def rSetL : V → V → V → Hp → (Hp → Prop) → Prop := fun o i v H Q => ∃ p xs k j, o = .ref p ∧ i = .int k ∧ H p = some (.lst xs) ∧ ixN xs.length k = some j ∧ Q (upd H p (.lst (xs.set j v)))
theorem slice_bounds (lo hi : Option Int) (n : Nat) : (sliceBounds lo hi none n).1 = ((HT.sIx n 0 lo : Nat) : Int) ∧ (sliceBounds lo hi none n).2.1 = ((HT.sIx n n hi : Nat) : Int) ∧ (sliceBounds lo hi none n).2.2 = 1 := by
  refine ⟨?_, ?_, rfl⟩
  · cases lo with
    | none => simp [sliceBounds, HT.sIx]
    | some i =>
      simp only [sliceBounds, HT.sIx, Option.getD_none, show (1 : Int) > 0 by decide, if_true]
      by_cases h : i < 0
      · simp only [h, if_true] <;> omega
      · simp only [h, if_false] <;> omega
  · cases hi with
    | none => simp [sliceBounds, HT.sIx]
    | some i =>
      simp only [sliceBounds, HT.sIx, Option.getD_none, show (1 : Int) > 0 by decide, if_true]
      by_cases h : i < 0
      · simp only [h, if_true] <;> omega
      · simp only [h, if_false] <;> omega
theorem slicePick_cut (its : List Value) (lo hi : Option Int) : slicePick its.toArray lo hi none = ((its.drop (HT.sIx its.length 0 lo)).take (HT.sIx its.length its.length hi - HT.sIx its.length 0 lo)).toArray := by
  obtain ⟨h1, h2, h3⟩ := slice_bounds lo hi its.toArray.size
  unfold slicePick
  rw [h1, h2, h3]
  simp only [sliceRange_one, pick_run, List.size_toArray] <;> rfl
def rSlL (K : PySem.W.Frag) : V → Option Int → Option Int → Hp → VK → Prop := fun x lo hi H Q => ∃ a xs, x = .ref a ∧ SqL K H a xs ∧ ∀ p, H p = none → Q (.ref p) (upd H p (.lst (cutV xs lo hi)))
theorem sl_list : SlR X (rSlL X.K) := by
  intro pins s σ H x v vl vu lo hi sl Q I rx hs pl pu h
  obtain ⟨a, xs, rfl, hx, q⟩ := h
  cases rx
  obtain ⟨its, r, ht, hz⟩ := I.list hx
  have hlen := r.length
  refine ⟨"list", _, slot_list_getitem.lookup, ht.isList.typeIs, ?_⟩
  refine wpAny_getItem_list_slice ht.isList hs pl pu .none (by simp) ?_ (by rw [List.size_toArray] <;> omega)
  rw [slicePick_cut, ← hlen]
  refine ⟨.ref s.heap.objs.size, _, I.laid (t' := s.toks) (o := .lst (cutV xs lo hi)) (fun b ob q => Heap.get?_push_of_some _ q) (Nat.le_refl _) ?_, rfl, q _ (I.hok.fresh (Nat.le_refl _))⟩
  exact ⟨Nat.le_trans (cutV_length xs lo hi) hz, _, 0, (r.drop (HT.sIx xs.length 0 lo)).take (HT.sIx xs.length xs.length hi - HT.sIx xs.length 0 lo), Heap.get?_push_size _ rfl⟩
def flatV : V → Bool
  | .non => true
  | .bl _ => true
  | .int _ => true
  | .str _ => true
  | _ => false
def eqV : V → V → Bool
  | .non, .non => true
  | .bl a, .bl b => a == b
  | .bl a, .int b => (if a then 1 else 0) == b
  | .int a, .bl b => a == (if b then 1 else 0)
  | .int a, .int b => a == b
  | .str a, .str b => a == b
  | _, _ => false
def eqU (x : V) (u : Value) : Bool := match u with
  | .none => eqV .non x
  | .bool b => eqV (.bl b) x
  | .int i _ => eqV (.int i) x
  | .str z _ => eqV (.str z) x
  | _ => false
def inV (x : V) (xs : List V) : Bool := xs.any fun y => eqV y x
def rIn (K : PySem.W.Frag) (neg : Bool) : R2 := fun x y H Q => ∃ p xs, y = .ref p ∧ (SqL K H p xs ∨ SqT K H p xs) ∧ flatV x = true ∧ xs.all flatV = true ∧ Q (.bl (if neg then !inV x xs else inV x xs)) H
theorem call_len_seq : CallR X (.builtin "len") (fun xs H Q => ∃ p ys, xs = [.ref p] ∧ (SqL X.K H p ys ∨ SqT X.K H p ys) ∧ Q (.int ys.length) H) := by
  intro pins s σ H xs us Q I r h
  obtain ⟨p, ys, rfl, hq, q⟩ := h
  obtain ⟨u, rfl, rx⟩ := vals1 r
  cases rx
  have hn := line63
  rcases hq with hq | hq
  · obtain ⟨its, r', pl, hz⟩ := I.list hq
    have hlen := r'.length
    exact Calls.call_len_list pl.isList (by simp only [List.size_toArray] <;> omega) ⟨.int ys.length, H, I.tok _, ⟨s.toks + 1, by rw [List.size_toArray, hlen]⟩, q⟩
  · obtain ⟨its, r', pl, hz⟩ := I.tuple hq
    have hlen := r'.length
    exact len_tuple pl (by simp only [List.size_toArray] <;> omega) ⟨.int ys.length, H, I.tok _, ⟨s.toks + 1, by rw [List.size_toArray, hlen]⟩, q⟩
theorem call_len_str : CallR X (.builtin "len") (fun xs H Q => ∃ z, xs = [.str z] ∧ z.length ≤ sizeLine ∧ Q (.int z.length) H) := by
  intro pins s σ H xs us Q I r h
  obtain ⟨z, rfl, hz, q⟩ := h
  obtain ⟨u, rfl, t, rfl⟩ := vals1 r
  have hn := line63
  exact len_str (by omega) ⟨.int z.length, H, I.tok _, ⟨_, rfl⟩, q⟩
theorem CallR.or {f : Value} {r r' : List V → Hp → VK → Prop} (h : CallR X f r) (h' : CallR X f r') : CallR X f (fun xs H Q => r xs H Q ∨ r' xs H Q) := by
  intro pins s σ H xs us Q I rs q
  rcases q with q | q
  · exact h pins s σ H xs us Q I rs q
  · exact h' pins s σ H xs us Q I rs q
theorem call_tuple_of : CallR X (.type "tuple") (fun xs H Q => ∃ p ys, xs = [.ref p] ∧ ((SqL X.K H p ys ∧ ∀ l, H l = none → Q (.ref l) (upd H l (.tup ys))) ∨ (SqT X.K H p ys ∧ Q (.ref p) H))) := by
  intro pins s σ H xs us Q I r h
  obtain ⟨p, ys, rfl, h⟩ := h
  obtain ⟨u, rfl, rx⟩ := vals1 r
  cases rx
  rcases h with ⟨hq, q⟩ | ⟨hq, q⟩
  · obtain ⟨its, r', pl, hz⟩ := I.list hq
    have hlen := r'.length
    refine call_tuple_list pl.isList (fun h' kp => ?_) (by simp only [List.size_toArray] <;> omega)
    have I1 : Inv X pins σ H { s with heap := h' } := I.kept (t' := s.toks) kp
    have I2 : Inv X pins σ (upd H h'.objs.size (.tup ys)) { s with heap := h'.push { cls := .type "tuple", data := .seq its.toArray } } :=
      I1.laid (t' := s.toks) (fun b o e => Heap.get?_push_of_some _ e) (Nat.le_refl _) (show ObjOk X.prog X.w _ _ _ (.tup ys) from ⟨hz, its, r', IsTup.new _ _⟩)
    exact ⟨.ref h'.objs.size, _, I2, rfl, q _ (I1.hok.fresh (Nat.le_refl _))⟩
  · obtain ⟨its, r', pl, hz⟩ := I.tuple hq
    exact call_tuple_same pl ⟨.ref p, H, I, rfl, q⟩
def tyV (K : PySem.W.Frag) (T : String) (x : V) (H : Hp) : Prop := match x with
  | .str _ => T = "str"
  | .int _ => T = "int"
  | .ref p => (T = "list" ∧ ∃ xs, SqL K H p xs) ∨ (T = "tuple" ∧ ∃ o, K.lookup p = some o ∧ o.cls = .type "tuple" ∧ o.dict = none) ∨
      (T = "dict" ∧ ((∃ kvs, H p = some (.dK kvs)) ∨ ∃ kvs, H p = some (.dT kvs))) ∨ (T = "set" ∧ ∃ S n, H p = some (.set S n))
  | _ => False
theorem tyV_is {pins : List (Addr × Obj)} {σ : St} {H : Hp} {s : Shared} {T : String} {x : V} {v : Value} (I : Inv X pins σ H s) (r : RelV x v) (ty : tyV X.K T x H) :
    s.TypeIs v T ∧ ∀ a, v = .ref a → ∃ ob, s.heap.get? a = some ob ∧ ob.dict = none := by
  cases x with
  | str z =>
    obtain ⟨t, rfl⟩ := r
    cases (show T = "str" from ty)
    exact ⟨typeIs_str s z t, fun _ e => nomatch e⟩
  | int i =>
    obtain ⟨t, rfl⟩ := r
    cases (show T = "int" from ty)
    exact ⟨typeIs_int s i t, fun _ e => nomatch e⟩
  | ref p =>
    cases r
    rcases ty with ⟨rfl, xs, hq⟩ | ⟨rfl, o, hk, hc, hd⟩ | ⟨rfl, hk⟩ | ⟨rfl, S, n, hk⟩
    · obtain ⟨its, _, pl, _⟩ := I.list hq
      refine ⟨pl.isList.typeIs, fun a e => ?_⟩
      cases e
      obtain ⟨o, n, e, c, hd, _⟩ := pl
      exact ⟨o, e, hd⟩
    · refine ⟨⟨o, I.kIn p o hk, hc⟩, fun a e => ?_⟩
      cases e
      exact ⟨o, I.kIn _ o hk, hd⟩
    · have z : ∃ o, s.heap.get? p = some o ∧ o.ExactDict := by
        rcases hk with ⟨kvs, hk⟩ | ⟨kvs, hk⟩
        · obtain ⟨_, _, _, _, o, _, _, e, ex, _⟩ := I.hok p _ hk
          exact ⟨o, e, ex⟩
        · obtain ⟨_, _, _, _, o, _, _, e, ex, _⟩ := I.hok p _ hk
          exact ⟨o, e, ex⟩
      obtain ⟨o, e, ex⟩ := z
      refine ⟨⟨o, e, ex.1⟩, fun a e2 => ?_⟩
      cases e2
      exact ⟨o, e, ex.2.1⟩
    · obtain ⟨o, _, _, _, e, ex, _⟩ := I.hok p _ hk
      refine ⟨⟨o, e, ex.1⟩, fun a e2 => ?_⟩
      cases e2
      exact ⟨o, e, ex.2.1⟩
  | _ => exact False.elim ty
def tBM0 (K : PySem.W.Frag) (T : String) (r : V → List V → Hp → VK → Prop) (to : TE) : TE := fun σ H Q => to σ H fun x H1 => tyV K T x H1 ∧ r x [] H1 Q
def tBM (K : PySem.W.Frag) (T : String) (r : V → List V → Hp → VK → Prop) (to : TE) (t : TA) : TE := fun σ H Q => to σ H fun x H1 => tyV K T x H1 ∧ t σ H1 fun xs H2 => r x xs H2 Q
variable {o e : Expr} {es : List Expr} {to : TE} {t : TA} {name : Str} {apos cpos : Pos} {T id : String} {r : V → List V → Hp → VK → Prop}
theorem pe_bm0 (pa : PlainAttrs T) (slot : Slot T name id) (hty : typeOf (.builtin id) = pure (.type "method_descriptor")) (hm : MtR X id r) (ho : PE X o to)
    (hbase : attributeBase o name X.env (eval o X.env) = eval o X.env := by rfl) (hline : (apos.endLine == cpos.line) = true := by rfl) : PE X (.Call (.Attribute o name apos) [] [] cpos) (tBM0 X.K T r to) := by
  intro pins s σ H Q I h
  refine wpAny_Call_method0_late hbase hline (thn (ho pins s σ H _ I h) fun v s1 ⟨x, H1, I1, r1, ty, q1⟩ => ?_)
  obtain ⟨h1, h2⟩ := tyV_is I1 r1 ty
  exact ⟨T, id, pa, slot, hty, h1, h2, Calls.callWith_builtin rfl (PySem.evalArgs_none (hm pins s1 σ H1 x [] v [] Q I1 r1 .nil q1))⟩
theorem pe_bm (pa : PlainAttrs T) (slot : Slot T name id) (hty : typeOf (.builtin id) = pure (.type "method_descriptor")) (hm : MtR X id r) (ho : PE X o to) (ha : PA X (e :: es) t)
    (hbase : attributeBase o name X.env (eval o X.env) = eval o X.env := by rfl)
    (hfew : ((backTo cpos (starEach (e :: es) X.env)).all (fun x => !x.1) && (backToKw cpos (keywordEach [] X.env)).all (fun x => x.1.isSome)
      && decide ((e :: es).length + ([] : List Keyword).length + (if ([] : List Keyword).isEmpty then 0 else 1) < 30)) = true := by rfl)
    (hline : (apos.endLine == cpos.line) = true := by rfl) (hs : starEach (e :: es) X.env = (false, eval e X.env) :: starEach es X.env := by rfl) (hplain : (backTo cpos (starEach es X.env)).any (·.1) = false := by rfl) :
    PE X (.Call (.Attribute o name apos) (e :: es) [] cpos) (tBM X.K T r to t) := by
  intro pins s σ H Q I h
  refine wpAny_Call_method_late hbase hfew hline rfl (thn (ho pins s σ H _ I h) fun v s1 ⟨x, H1, I1, r1, ty, q1⟩ => ?_)
  obtain ⟨h1, h2⟩ := tyV_is I1 r1 ty
  refine ⟨T, id, pa, slot, hty, h1, h2, ?_⟩
  have hA := ha cpos pins s1 σ H1 _ I1 q1
  rw [hs] at hA ⊢
  refine Calls.callWith_builtin (by show (false || (backTo cpos (starEach es X.env)).any (·.1)) = false; rw [hplain] <;> rfl) (Calls.evalArgs_plain ?_)
  exact thn hA fun us s2 ⟨vs, H2, I2, r2, q2⟩ => hm pins s2 σ H2 x vs v us Q I2 r1 r2 q2
end
end L2
namespace L2
open PySem PySem.Spec PyProof.Rows
def MtM (X : Cx) (id : String) (r : V → List V → Hp → VK → Prop) : Prop :=
  ∀ (pins : List (Addr × Obj)) (s : Shared) (σ : St) (H : Hp) (x : V) (xs : List V) (v : Value) (us : List Value) (Q : VK), Inv X pins σ H s → RelV x v → Vals xs us → r x xs H Q →
    wpAny (model X.prog X.w) X.A (call (.builtin id) (v :: us)) (EP X pins σ Q) X.xe s
theorem Vals.one : ∀ {x : V} {us : List Value}, Vals [x] us → ∃ u, us = [u] ∧ RelV x u
  | _, _, .cons r .nil => ⟨_, rfl, r⟩
theorem Vals.two : ∀ {x y : V} {us : List Value}, Vals [x, y] us → ∃ u v, us = [u, v] ∧ RelV x u ∧ RelV y v
  | _, _, _, .cons r (.cons q .nil) => ⟨_, _, rfl, r, q⟩
theorem Vals.zero : ∀ {us : List Value}, Vals [] us → us = []
  | _, .nil => rfl
theorem Vals.dropLast {xs : List V} {us : List Value} (h : Vals xs us) : Vals xs.dropLast us.dropLast := by
  induction h with
  | nil => exact .nil
  | cons r t ih =>
    cases t with
    | nil => exact .nil
    | cons q t' => exact .cons r ih
theorem Vals.eraseIdx : ∀ {xs : List V} {us : List Value} (i : Nat), Vals xs us → Vals (xs.eraseIdx i) (us.eraseIdx i)
  | _, _, _, .nil => .nil
  | _, _, 0, .cons _ t => t
  | _, _, i + 1, .cons r t => .cons r (Vals.eraseIdx i t)
theorem Vals.reverse {xs : List V} {us : List Value} (h : Vals xs us) : Vals xs.reverse us.reverse := by
  induction h with
  | nil => exact .nil
  | cons r t ih => rw [List.reverse_cons, List.reverse_cons]; exact Vals.append ih (.cons r .nil)
theorem Vals.rep {xs : List V} {us : List Value} (h : Vals xs us) : ∀ k : Nat, Vals (List.replicate k xs).flatten (List.replicate k us).flatten
  | 0 => .nil
  | k + 1 => by
    rw [List.replicate_succ, List.replicate_succ, List.flatten_cons, List.flatten_cons]
    exact Vals.append h (Vals.rep h k)
section
variable {X : Cx} {pins : List (Addr × Obj)} {σ : St} {H : Hp} {s : Shared} {l b : Addr} {xs ys zs : List V}
theorem Inv.lset {its its' : List Value} {n : Nat} {f : Array Value → Array Value} {t' : Nat} (I : Inv X pins σ H s) (hH : H l = some (.lst xs))
    (e : s.heap.get? l = some { cls := .type "list", data := .seq its.toArray n }) (hf : f its.toArray = its'.toArray) (hv : Vals ys its') (hz : ys.length ≤ sizeLine) :
    Inv X pins σ (upd H l (.lst ys)) { s with heap := s.heap.update l (Obj.mapSeq f), toks := t' } := by
  have q := PySem.IsL.update e f
  rw [hf] at q
  refine I.write (x := l) (e := l) (by rw [hH]; exact trivial) (.inl rfl) (fun b' u hb hu => (Heap.get?_update_other s.heap (Obj.mapSeq f) (Ne.symm hb)).trans hu) ⟨_, q⟩ ?_
  exact ⟨hz, its', _, hv, q⟩
theorem Inv.lnew {its : List Value} {t' : Nat} (I : Inv X pins σ H s) (hv : Vals ys its) (hz : ys.length ≤ sizeLine) :
    Inv X pins σ (upd H s.heap.objs.size (.lst ys)) { s with heap := s.heap.push { cls := .type "list", data := .seq its.toArray }, toks := t' } :=
  I.laid (fun _ _ q => Heap.get?_push_of_some _ q) (Nat.le_refl _) ⟨hz, its, 0, hv, Heap.get?_push_size _ rfl⟩
theorem Inv.fresh (I : Inv X pins σ H s) : H s.heap.objs.size = none := I.hok.fresh (Nat.le_refl _)
theorem Inv.lstM (I : Inv X pins σ H s) (hH : H l = some (.lst xs)) : xs.length ≤ sizeLine ∧ ∃ (its : List Value) (n : Nat), Vals xs its ∧ xs.length = its.length ∧ s.heap.get? l = some { cls := .type "list", data := .seq its.toArray n } := by
  obtain ⟨z, its, n, r, e⟩ := I.hok l _ hH
  exact ⟨z, its, n, r, r.length, e⟩
end
section
variable {X : Cx}
def rAppend : V → List V → Hp → VK → Prop := fun x vs H Q => ∃ l xs y, x = .ref l ∧ vs = [y] ∧ H l = some (.lst xs) ∧ xs.length < sizeLine ∧ Q .non (upd H l (.lst (xs ++ [y])))
theorem mt_append : MtM X "list.append" rAppend := by
  intro pins s σ H x vs v us Q I rx rv h
  obtain ⟨l, xs, y, rfl, rfl, hH, hz, q⟩ := h
  cases rx
  obtain ⟨u, rfl, ru⟩ := rv.one
  obtain ⟨z, its, n, r, hl, e⟩ := I.lstM hH
  refine call_meets F.slot_list_append ⟨_, e, rfl⟩ F.entry_list_append (F.args_list_append_2 _ _) (PySem.list_append l its.toArray n u (by rw [List.size_toArray]; omega)) ⟨e, ?_⟩
  refine ⟨.non, _, I.lset (its' := its ++ [u]) hH e (by simp) (r.append (.cons ru .nil)) ?_, rfl, q⟩
  rw [List.length_append, List.length_singleton]
  omega
def rExtend : V → List V → Hp → VK → Prop := fun x vs H Q => ∃ l b xs zs, x = .ref l ∧ vs = [.ref b] ∧ H l = some (.lst xs) ∧ H b = some (.lst zs) ∧ xs.length + zs.length ≤ sizeLine ∧ Q .non (upd H l (.lst (xs ++ zs)))
def rPop : V → List V → Hp → VK → Prop := fun x vs H Q => ∃ l xs y, x = .ref l ∧ vs = [] ∧ H l = some (.lst xs) ∧ xs[xs.length - 1]? = some y ∧ Q y (upd H l (.lst xs.dropLast))
def rPopAt : V → List V → Hp → VK → Prop := fun x vs H Q => ∃ l xs i k y, x = .ref l ∧ vs = [.int i] ∧ H l = some (.lst xs) ∧ -(2 ^ 63) ≤ i ∧ i < 2 ^ 63 ∧ seqIndex? i xs.length = some k ∧ xs[k]? = some y ∧ Q y (upd H l (.lst (xs.eraseIdx k)))
def rReverse : V → List V → Hp → VK → Prop := fun x vs H Q => ∃ l xs, x = .ref l ∧ vs = [] ∧ H l = some (.lst xs) ∧ Q .non (upd H l (.lst xs.reverse))
def rClear : V → List V → Hp → VK → Prop := fun x vs H Q => ∃ l xs, x = .ref l ∧ vs = [] ∧ H l = some (.lst xs) ∧ Q .non (upd H l (.lst []))
theorem mt_clear : MtM X "list.clear" rClear := by
  intro pins s σ H x vs v us Q I rx rv h
  obtain ⟨l, xs, rfl, rfl, hH, q⟩ := h
  cases rx
  have hus := rv.zero
  subst hus
  obtain ⟨z, its, n, r, hl, e⟩ := I.lstM hH
  refine call_meets F.slot_list_clear ⟨_, e, rfl⟩ F.entry_list_clear (F.args_list_clear_1 _) (AutoSeq1.list_clear_list_0 l its.toArray n (by rw [List.size_toArray]; omega)) ⟨e, ?_⟩
  exact ⟨.non, _, I.lset (its' := []) (ys := []) hH e rfl .nil (Nat.zero_le _), rfl, q⟩
def rCat : R2 := fun x y H Q => ∃ l b xs zs, x = .ref l ∧ y = .ref b ∧ H l = some (.lst xs) ∧ H b = some (.lst zs) ∧ xs.length + zs.length ≤ sizeLine ∧ ∀ p, H p = none → Q (.ref p) (upd H p (.lst (xs ++ zs)))
def rRep : R2 := fun x y H Q => ∃ l k xs, x = .ref l ∧ y = .int k ∧ H l = some (.lst xs) ∧ -(2 ^ 63) ≤ k ∧ k < 2 ^ 63 ∧ xs.length * k.toNat ≤ sizeLine ∧
  ∀ p, H p = none → Q (.ref p) (upd H p (.lst (List.replicate k.toNat xs).flatten))
end
section
variable {prog : Program} {w : World} {A : Around} {E : Value → Shared → Prop} {s : Shared}
set_option maxRecDepth 100000 in
end
section
variable {X : Cx}
end
end L2
namespace Att
open PySem PySem.W PySem.Calls PyProof.Rows
theorem ints_of_wellAll {P : Params} {h : Heap} : ∀ (ns : List Int) (vs : List Value), WellAll P h vs (ns.map WData.int) → IntsAre vs ns := by
  intro ns
  induction ns with
  | nil =>
    intro vs w
    rw [List.map_nil] at w
    cases w
    exact .nil
  | cons n ns ih =>
    intro vs w
    rw [List.map_cons] at w
    cases w with
    | cons a b =>
      cases a
      exact .cons _ _ (ih _ b)
theorem script_of {l : OpenLaw} {n : Nat} (hn : l.most = some n) {P : Params} {h : Heap} {args : List WData} {vals : List Value}
    (hpre : l.row.toRowW.claim.pre args = true) (hwl : WellAll P h vals args) :
    ∃ a vs ns, vals = [Value.ref a] ∧ args = [WData.list (ns.map WData.int)] ∧ h.get? a = some { cls := .type "list", data := .seq vs.toArray } ∧ IntsAre vs ns ∧ ns.length ≤ n := by
  have hsh : WShape.hasAll [] args [.list .int] = true := (pre_splitW hpre).1
  have hc : l.pre.holds [] { args := args } = true := (pre_splitW hpre).2
  obtain ⟨d, r, rfl, h1, h2⟩ := hasAllW_cons hsh
  obtain rfl := hasAllW_nil h2
  obtain ⟨xs, rfl, h3⟩ := hasW_list h1
  obtain ⟨ns, rfl⟩ := items_int h3
  have hlen : ns.length ≤ n := by
    unfold OpenLaw.pre at hc
    have h4 : (WTm.not (.lt (.lit (.int (n : Int))) (.len (.arg 0)))).holds [] { args := [.list (ns.map .int)] } = true := by
      have h4 := (holds_andW hc).1
      rw [hn] at h4
      exact h4
    have h5 := condW_of h4 (w_not (w_lt w_lit (w_len_list (w_arg rfl))))
    rw [List.length_map] at h5
    refine Nat.le_of_not_lt fun q => ?_
    have q' : (n : Int) < ((ns.length : Nat) : Int) := by omega
    first
      | (rw [decide_eq_true q'] at h5; exact absurd h5 (by decide))
      | (simp at h5; omega)
  cases hwl with
  | cons w1 w2 =>
    cases w2
    cases w1 with
    | list ho hall => exact ⟨_, _, ns, rfl, rfl, ho, ints_of_wellAll ns _ hall, hlen⟩
theorem post_true (l : OpenLaw) (args : List WData) : l.row.toRowW.claim.post args (.bool true) args = true :=
  postW_of (r := l.row.toRowW) (X := (true == true))
    (show WShape.has [] (.bool true) .bool = true by first | rfl | decide | simp [WShape.has, WShape.arms, WShape.armsAll])
    (show (WTm.eq .res (.lit (.bool true))).value [] { args := args, res := some (.bool true), after := args } = some (.bool (true == true)) from w_eq_bool (w_res rfl) w_lit) rfl
theorem attach_call {l : OpenLaw} {n : Nat} {q : Program} {loose : List Str} {XP : (Str → Option Value) → Heap → Prop} {YP : World → Heap → Prop} {d : DefRec}
    (hn : l.most = some n) (hdf : d.params.defaults = [])
    (call : ∀ (w : World) (s₀ s₁ : Shared) (mg mb : Str → Option Value) (fa : Addr) (o : Obj) (pm cd doc : Value) (a : Addr) (vs : List Value) (ns : List Int),
      Ground q loose [] XP w s₀ mg mb s₁.heap → YP w s₁.heap →
      s₁.heap.get? fa = some o → o.data = .func (docDef d.name d.params d.body d.scope pm cd doc) → s₁.heap.CodeRec cd d.name → mg d.name = some (.ref fa) →
      s₁.heap.get? a = some { cls := .type "list", data := .seq vs.toArray } → IntsAre vs ns → ns.length ≤ n → s₁.gens = #[] →
      codeAny (model l.prog w) callerA (.call (.ref fa) ⟨[.ref a], []⟩) (fun r s' => r = .ok (.ret (.bool true)) ∧ OldK s₁.heap s'.heap ∧ s'.os = s₁.os ∧ AllBare s'.gens) s₁) :
    WalkO q loose XP YP l.row.toRowW d [] (fun f vs => PySem.call f vs) := by
  intro w s₀ s₁ mg mb G Y fa o pm cd doc dV kV ho hd hcd hD hmg hg args vals as hpre hlay hrd hwl hlo
  obtain rfl : dV = .none := Dflts.none hD hdf
  obtain rfl : kV = .none := Dflts.noKw hD
  obtain ⟨a, vs, ns, rfl, rfl, hobj, hints, hlen⟩ := script_of hn hpre hwl
  refine enter_call (codeAny_mono (call w s₀ s₁ mg mb fa o pm cd doc a vs ns G Y ho (fd_plain hd) hcd hmg hobj hints hlen hg) fun r s' hq => ?_)
  obtain ⟨rfl, h2, h3, h4⟩ := hq
  exact ⟨.inl ⟨.bool true, .bool true, [], rfl, fun _ => rfl, .bool true, post_true l _, fun _ => ⟨List.Pairwise.nil, fun _ hm => (nomatch hm)⟩⟩, h2, h3, h4⟩
section
variable {prog : Program} {w : World} {A : Around} {E : Value → Shared → Prop} {s : Shared} {K : Frag}
def noObjs (h : Heap) : Heap := { h with objs := #[] }
def ledger (h : Heap) (L d : Addr) : List (Addr × Obj) := (List.range h.objs.size).filterMap fun a => if a = L ∨ a = d then none else (h.get? a).map fun o => (a, o)
end
end Att
namespace L2
open PySem PySem.Spec PyProof.Rows
theorem vals_ints : ∀ {vs : List Value} {ns : List Int}, IntsAre vs ns → Vals (ns.map V.int) vs
  | _, _, .nil => .nil
  | _, _, .cons n t h => .cons ⟨t, rfl⟩ (vals_ints h)
def Only (H : Hp) : Prop := ∀ b, H b = none ∨ ∃ o xs, H b = some (.frz o (.lst xs))
theorem law_call {P : Program} {w : World} {K : PySem.W.Frag} {mg mb : Str → Option Value} {CX : CXT} {k : Nat} {fa a : Addr} {fd : FuncData} {x : Str} {sp : Sp} {s₁ : Shared} {vs : List Value} {ns : List Int}
    (KX : K.In s₁.heap) (hns : s₁.heap.Ns mainGlobals mg) (hb : s₁.heap.Ns builtinsNs mb) (hbb : ∀ x : Str, x ≠ "__name__" → mb x = bootBuiltins x) (hlim : s₁.heap.NoLimit) (hg : s₁.gens = #[])
    (ha : s₁.heap.get? a = some { cls := .type "list", data := .seq vs.toArray }) (hi : IntsAre vs ns) (hl : ns.length ≤ sizeLine) (hr : Room k callerA)
    (F : ∀ base : Heap, K.In base → base.Ns mainGlobals mg → FnOk P w K mg base CX k fa fd [x] sp) (hbind : ∀ (s : Shared) (u : Value), BindsTo s fd ⟨[u], []⟩ [(x, u)])
    (hsp : ∀ H : Hp, Only H → SqL K H a (ns.map V.int) → sp [.ref a] H (fun v _ => v = .bl true) fun _ _ _ => False)
    (hCX : ∀ H e s', CX [] H s₁ (fun _ _ _ => False) e s' → False) :
    codeAny (model P w) callerA (.call (.ref fa) ⟨[.ref a], []⟩) (fun r s' => r = .ok (.ret (.bool true)) ∧ OldK s₁.heap s'.heap ∧ s'.os = s₁.os ∧ AllBare s'.gens) s₁ := by
  have rv := vals_ints hi
  have lenV := hi.length
  have core : ∀ H : Hp, Only H → SqL K H a (ns.map V.int) → HOk P w H s₁.heap → (∀ b, H b ≠ none → b = a) → (H a ≠ none → K.lookup a = none) →
      codeAny (model P w) callerA (.call (.ref fa) ⟨[.ref a], []⟩) (fun r s' => r = .ok (.ret (.bool true)) ∧ OldK s₁.heap s'.heap ∧ s'.os = s₁.os ∧ AllBare s'.gens) s₁ := by
    intro H hO hS hok hA hK
    have base_of : ∀ {b : Addr} {o : Obj}, s₁.heap.get? b = some o → H b = none → (hidT s₁.heap H).get? b = some o := fun e n => hidT_get e n
    have noA : ∀ {b : Addr} {o : Obj} {es : Array DictEntry} {ep : Nat}, s₁.heap.get? b = some o → o.data = .dict es ep → H b = none := fun {b o es ep} e d => by
      cases q : H b with
      | none => rfl
      | some u =>
        have e' : b = a := hA b (by rw [q]; simp)
        subst e'
        rw [ha] at e; cases e
        have d' : Data.seq vs.toArray _ = Data.dict es ep := d
        cases d'
    have nsK : ∀ {b : Addr} {m : Str → Option Value}, s₁.heap.Ns b m → (hidT s₁.heap H).Ns b m := fun {b m} ⟨o, es, ep, e, d, r⟩ => ⟨o, es, ep, base_of e (noA e d), d, r⟩
    have hKb : K.In (hidT s₁.heap H) := fun b o e => base_of (KX b o e) (by
      cases q : H b with
      | none => rfl
      | some u =>
        have e' : b = a := hA b (by rw [q]; simp)
        subst e'
        rw [hK (by rw [q]; simp)] at e; cases e)
    have hM : Mod K mg (hidT s₁.heap H) := ⟨hKb, nsK hns, ⟨mb, nsK hb, hbb⟩, let ⟨mc, h1, h2⟩ := hlim; ⟨mc, nsK h1, h2⟩⟩
    have e0 : Env0 P w K mg (hidT s₁.heap H) callerA [] s₁ H := ⟨rfl, hM, fun b o e => of_hidT e, Nat.le_of_eq (hidT_size _ _), trivial, fun b hb => absurd (show b ∈ ([] : List Addr) from hb) (by simp), hok, .of_eq hg⟩
    refine codeAny_mono ((F _ hKb (nsK hns)).run callerA [] s₁ H ⟨[.ref a], []⟩ [.ref a] [.ref a] _ _ hr e0 (hbind s₁ (.ref a)) (.cons rfl .nil) (hsp H hO hS)) fun r s' h => ?_
    cases r with
    | error e => exact (hCX H e s' h).elim
    | ok fl =>
      cases fl with
      | next => exact False.elim h
      | brk => exact False.elim h
      | cont => exact False.elim h
      | ret u =>
        obtain ⟨v, H', os, bare, un, hok', r', q⟩ := h
        have q' : v = .bl true := q
        subst q'
        obtain rfl : u = Value.bool true := r'
        refine ⟨rfl, OldK.of_keep fun b o e => ?_, os, bare⟩
        cases q : H b with
        | none => exact un.keep b o e q (by intro z; exact absurd (show b ∈ ([] : List Addr) from z) (by simp)) (by simp)
        | some u =>
          rcases hO b with z | ⟨ob, xs, z⟩
          · rw [q] at z; cases z
          · have z2 := un.frzs b ob _ z
            obtain ⟨e1, _⟩ := hok b _ z
            obtain ⟨e2, _⟩ := hok' b _ z2
            rw [e] at e1; cases e1
            exact e2
  cases hk : K.lookup a with
  | some o =>
    have e := KX a o hk
    rw [ha] at e
    cases e
    refine core (fun _ => none) (fun _ => .inl rfl) (.inr ⟨_, vs.toArray, _, hk, rfl, rfl, rfl, by rw [List.size_toArray, lenV]; exact hl, by simpa using rv⟩) (fun b u z => by have z' : (none : Option HO) = some u := z; cases z') (fun b z => absurd rfl z) fun z => absurd rfl z
  | none =>
    refine core (fun b => if b = a then some (.frz { cls := .type "list", data := .seq vs.toArray } (.lst (ns.map V.int))) else none) (fun b => ?_) (.inl (.inr ⟨{ cls := .type "list", data := .seq vs.toArray }, if_pos rfl⟩)) (fun b u z => ?_) (fun b z => ?_) fun _ => hk
    · by_cases hb : b = a
      · exact .inr ⟨_, _, if_pos hb⟩
      · exact .inl (if_neg hb)
    · by_cases hb : b = a
      · have z' := (if_pos hb).symm.trans z
        cases z'
        subst hb
        exact ⟨ha, by rw [List.length_map]; exact hl, vs, _, rv, ha⟩
      · have z' := (if_neg hb).symm.trans z
        cases z'
    · by_cases hb : b = a
      · exact hb
      · exact absurd (if_neg hb) z
end L2
namespace L2
open PySem PySem.Spec PyProof.Rows
abbrev KOf {K : PySem.W.Frag} {h : Heap} (_ : K.In h) : PySem.W.Frag := K
theorem walk_of {l : PySem.W.OpenLaw} {n k : Nat} {q : Program} {loose : List Str} {XP : (Str → Option Value) → Heap → Prop} {YP : World → Heap → Prop} {d : DefRec} {K : Params → PySem.W.Frag} {CX : World → CXT} {sp : World → Sp} {x : Str}
    (hn : l.most = some n) (hn2 : n ≤ sizeLine) (hdf : d.params.defaults = []) (hr : Room k callerA)
    (hY : ∀ (w : World) (h : Heap), YP w h → (K w.params).In h)
    (F : ∀ (w : World) (mg : Str → Option Value) (fa : Addr) (h : Heap), (K w.params).In h → h.Ns mainGlobals mg → mg d.name = some (.ref fa) →
      ∃ fd : FuncData, (∀ (s : Shared) (u : Value), BindsTo s fd ⟨[u], []⟩ [(x, u)]) ∧
        ∀ base : Heap, (K w.params).In base → base.Ns mainGlobals mg → FnOk l.prog w (K w.params) mg base (CX w) k fa fd [x] (sp w))
    (hsp : ∀ (w : World) (H : Hp) (a : Addr) (ns : List Int), ns.length ≤ n → Only H → SqL (K w.params) H a (ns.map V.int) → sp w [.ref a] H (fun v _ => v = .bl true) fun _ _ _ => False)
    (hCX : ∀ (w : World) (H : Hp) (s : Shared) (e : Value) (s' : Shared), CX w [] H s (fun _ _ _ => False) e s' → False) :
    PySem.W.WalkO q loose XP YP l.row.toRowW d [] (fun f vs => PySem.call f vs) := by
  refine Att.attach_call hn hdf fun w s₀ s₁ mg mb fa o pm cd doc a vs ns G Y ho hd hcd hmg hobj hints hlen hg => ?_
  have KX := hY w _ Y
  obtain ⟨fd, hb, hF⟩ := F w mg fa _ KX G.T.g hmg
  exact law_call KX G.T.g G.T.b G.T.builtins G.T.nolimit hg hobj hints (Nat.le_trans hlen hn2) hr hF hb (fun H hO hS => hsp w H a ns hlen hO hS) fun H e s' => hCX w H s₁ e s'
end L2
namespace L2
open PySem PySem.Spec PyProof.Rows
def inClass (s : Stmt) (j : Nat) : Stmt := match s with
  | .ClassDef _ _ _ body _ _ _ _ _ _ _ => body.getD j (.Pass ⟨0, 0, 0, 0⟩)
  | _ => .Pass ⟨0, 0, 0, 0⟩
def defArgs (s : Stmt) : Arguments := match s with
  | .FunctionDef _ a _ _ _ _ _ _ _ _ => a
  | _ => { posonlyargs := [], args := [], vararg := none, kwonlyargs := [], kw_defaults := [], kwarg := none, defaults := [] }
def defBody (s : Stmt) : List Stmt := match s with
  | .FunctionDef _ _ b _ _ _ _ _ _ _ => b
  | _ => []
def defScope (s : Stmt) : Scope := match s with
  | .FunctionDef _ _ _ _ _ _ sc _ _ _ => sc
  | _ => { kind := .function, names := [], isGenerator := false, isCoroutine := false }
abbrev CX0 : CXT := fun _ _ _ _ _ _ => False
abbrev E0 : XK := fun _ _ _ => False
theorem pass0 {X : Cx} : Passes CX0 X E0 := fun _ _ _ _ _ _ _ h => h.elim
structure Fun (K : PySem.W.Frag) (x qual : Str) (st : Stmt) (f : Addr) (fd : FuncData) : Prop where
  ex : ∃ (oc : Value) (od : Option Addr) (kV doc pm : Value) (an : Option Addr) (cdv ct : Value) (osl : Array (Option Value)),
    fd = PySem.W.fnOf x qual (defArgs st) (defBody st) (defScope st) .none kV doc pm an cdv ct ∧ K.lookup f = some ⟨oc, od, .func fd, osl⟩ ∧ PySem.W.codeIn K cdv qual = true
  kp : PySem.W.keepIn K (.ref f) = true
section
variable {P : Program} {w : World} {K : PySem.W.Frag} {mg : Str → Option Value} {base : Heap}
theorem Fun.ok {x qual : Str} {st : Stmt} {f : Addr} {fd : FuncData} {N ps : List Str} {k : Nat} {sp : Sp} (F : Fun K x qual st f fd) (S : FnScope N ps (defScope st)) (len : ∀ vs H Q E, sp vs H Q E → vs.length = ps.length)
    (hbody : ∀ (cdv : Value) (A : Around) (outer : List Env) (s : Shared) (H : Hp) (vs : List V) (Q : VK) (E : XK), Room k (A.deeper (envOfC qual (defScope st) s.heap.objs.size f cdv)) → sp vs H Q E →
      ∃ t, PSs (cxOf CX0 P w K mg base N qual (defScope st) f cdv A outer s H E).nox (defBody st) t ∧ t { nx := fun _ H' => Q .non H', rt := Q } (start N vs) H) : FnOk P w K mg base CX0 (k + 1) f fd ps sp := by
  obtain ⟨oc, od, kV, doc, pm, an, cdv, ct, osl, rfl, lk, hcd⟩ := F.ex
  refine fn_of lk hcd S len fun A outer s H vs Q E hr hsp => ?_
  obtain ⟨t, h, q⟩ := hbody cdv A outer s H vs Q E hr hsp
  exact ⟨t, h.nox, q⟩
theorem Fun.binds {x qual : Str} {st : Stmt} {f : Addr} {fd : FuncData} {ps : List Str} (F : Fun K x qual st f fd)
    (h : ∀ (kV doc pm : Value) (an : Option Addr) (cdv ct : Value) (us : List Value), us.length = ps.length → bindArgs (PySem.W.fnOf x qual (defArgs st) (defBody st) (defScope st) .none kV doc pm an cdv ct) ⟨us, []⟩ = pure (ps.zip us)) : Binds K fd ps [] := by
  obtain ⟨oc, od, kV, doc, pm, an, cdv, ct, osl, rfl, lk, hcd⟩ := F.ex
  exact .all (h kV doc pm an cdv ct)
theorem fun_mk {x qual : Str} {st : Stmt} {f : Addr} {oc : Value} {od an : Option Addr} {osl : Array (Option Value)} {kV doc pm cdv ct : Value} (l : K.lookup f = some ⟨oc, od, .func (PySem.W.fnOf x qual (defArgs st) (defBody st) (defScope st) .none kV doc pm an cdv ct), osl⟩)
    (c : PySem.W.codeIn K cdv qual = true) (k : PySem.W.keepIn K (.ref f) = true) : Fun K x qual st f (PySem.W.fnOf x qual (defArgs st) (defBody st) (defScope st) .none kV doc pm an cdv ct) := ⟨⟨oc, od, kV, doc, pm, an, cdv, ct, osl, rfl, l, c⟩, k⟩
end
theorem hu_of {A : Around} {k : Nat} (hr : Room k A) : A.units + 1 < cLine := Nat.lt_of_le_of_lt (Nat.add_le_add_left (by decide : 1 ≤ 64) _) hr.units
section
variable {X : Cx}
theorem pv (i : Nat) {x : Str} {pos : Pos} (hN : X.N[i]? = some x := by rfl) (hv : Vis X.env.scope x := by first | exact Or.inl rfl | exact Or.inr (Or.inl rfl) | exact Or.inr (Or.inr rfl)) (hd : (x == ("__debug__" : Str)) = false := by decide)
    (hcd : (x == ("__classdict__" : Str)) = false := by decide) : PE X (.Name x pos) (tVar i) := pe_var hN hv hd hcd
end
theorem iteF {A B : Prop} (h : B) : if false = true then A else B := by
  rw [if_neg Bool.false_ne_true]
  exact h
theorem iteT {A B : Prop} (h : A) : if true = true then A else B := by
  rw [if_pos rfl]
  exact h
def Same (H H' : Hp) : Prop := ∀ b o, H b = some o → H' b = some o
theorem Same.refl (H : Hp) : Same H H := fun _ _ h => h
theorem Same.trans {H H1 H2 : Hp} (a : Same H H1) (b : Same H1 H2) : Same H H2 := fun c o h => b c o (a c o h)
theorem Same.free {H H' : Hp} (e : Same H H') {l : Addr} (h : H' l = Option.none) : H l = Option.none := by
  cases q : H l with
  | none => rfl
  | some o =>
    rw [e l o q] at h
    cases h
theorem Same.seq {K : PySem.W.Frag} {H H' : Hp} {a : Addr} {xs : List V} (e : Same H H') (h : SqL K H a xs) : SqL K H' a xs := by
  rcases h with (h | ⟨o, h⟩) | h
  · exact .inl (.inl (e _ _ h))
  · exact .inl (.inr ⟨o, e _ _ h⟩)
  · exact .inr h
end L2
namespace L2
open PySem PySem.Spec PyProof.Rows
section
variable {κ : Type} [DecidableEq κ]
def valV (kvs : List (κ × V)) (k : κ) : Option V := (kvs.find? fun kv => decide (kv.1 = k)).map (·.2)
def putK (kvs : List (κ × V)) (k : κ) (v : V) : List (κ × V) :=
  if (kvs.any fun kv => decide (kv.1 = k)) = true then kvs.map (fun kv => if kv.1 = k then (kv.1, v) else kv) else kvs ++ [(k, v)]
def a7F (kvs : List (κ × V)) (k : κ) : List (κ × V) := kvs.filter fun kv => decide (kv.1 ≠ k)
theorem a3B {p : κ × V} {r : List (κ × V)} {k : κ} (e : p.1 = k) : valV (p :: r) k = some p.2 := by simp [valV, List.find?_cons, e]
theorem a3C {p : κ × V} {r : List (κ × V)} {k : κ} (e : ¬ p.1 = k) : valV (p :: r) k = valV r k := by simp [valV, List.find?_cons, e]
theorem a5W (k : κ) : ∀ kvs : List (κ × V), (kvs.any fun kv => decide (kv.1 = k)) = (valV kvs k).isSome
  | [] => rfl
  | p :: r => by
    rw [List.any_cons]
    by_cases e : p.1 = k
    · simp only [a3B e, decide_eq_true e, Bool.true_or, Option.isSome_some]
    · rw [a3C e, decide_eq_false e, Bool.false_or]; exact a5W k r
theorem a3U (kvs : List (κ × V)) (k : κ) (v : V) : (putK kvs k v).length ≤ kvs.length + 1 := by
  unfold putK
  split
  · rw [List.length_map]; omega
  · rw [List.length_append, List.length_cons, List.length_nil]; omega
theorem RelO.isSome_eq {o : Option V} {u : Option Value} (r : RelO o u) : o.isSome = u.isSome := by
  cases o with
  | none => cases u with
    | none => rfl
    | some _ => exact (show False from r).elim
  | some _ => cases u with
    | none => exact (show False from r).elim
    | some _ => rfl
theorem RelO.getD {o : Option V} {u : Option Value} {d : V} {d' : Value} (r : RelO o u) (rd : RelV d d') : RelV (o.getD d) (u.getD d') := by
  cases o with
  | none => cases u with
    | none => exact rd
    | some _ => exact (show False from r).elim
  | some _ => cases u with
    | none => exact (show False from r).elim
    | some _ => exact r
theorem KV.val {kvs : List (κ × V)} {vs : List (κ × Value)} (r : KV kvs vs) (k : κ) : RelO (valV kvs k) (valueAt vs k) := by
  unfold KV at r
  induction r with
  | nil => exact True.intro
  | @cons p q ps qs h t ih =>
    obtain ⟨h1, h2⟩ := h
    by_cases e : p.1 = k
    · have e' : q.1 = k := h1.symm.trans e
      have b : valueAt (q :: qs) k = some q.2 := by simp [valueAt, List.find?_cons, e']
      rw [a3B e, b]; exact h2
    · have e' : ¬ q.1 = k := fun z => e (h1.trans z)
      have b : valueAt (q :: qs) k = valueAt qs k := by simp [valueAt, List.find?_cons, e']
      rw [a3C e, b]; exact ih
theorem KV.any {kvs : List (κ × V)} {vs : List (κ × Value)} (r : KV kvs vs) (k : κ) : (kvs.any fun kv => decide (kv.1 = k)) = vs.any fun kv => decide (kv.1 = k) := by
  unfold KV at r
  induction r with
  | nil => rfl
  | cons h t ih => rw [List.any_cons, List.any_cons, ih, h.1]
theorem KV.repl {kvs : List (κ × V)} {vs : List (κ × Value)} (r : KV kvs vs) (k : κ) {y : V} {u : Value} (ry : RelV y u) :
    KV (kvs.map fun kv => if kv.1 = k then (kv.1, y) else kv) (vs.map fun kv => if kv.1 = k then (kv.1, u) else kv) := by
  unfold KV at r ⊢
  induction r with
  | nil => exact .nil
  | @cons p q ps qs h t ih =>
    rw [List.map_cons, List.map_cons]
    refine .cons ?_ ih
    obtain ⟨h1, h2⟩ := h
    by_cases e : p.1 = k
    · rw [if_pos e, if_pos (h1.symm.trans e)]; exact ⟨h1, ry⟩
    · rw [if_neg e, if_neg (fun z => e (h1.trans z))]; exact ⟨h1, h2⟩
theorem KV.put {kvs : List (κ × V)} {vs : List (κ × Value)} (r : KV kvs vs) (k : κ) {y : V} {u : Value} (ry : RelV y u) : KV (putK kvs k y) (stored vs k u) := by
  unfold putK stored
  rw [r.any k]
  by_cases e : (vs.any fun kv => decide (kv.1 = k)) = true
  · rw [if_pos e, if_pos e]; exact r.repl k ry
  · rw [if_neg e, if_neg e]; exact Paired.snoc r ⟨rfl, ry⟩
theorem KV.drop {kvs : List (κ × V)} {vs : List (κ × Value)} (r : KV kvs vs) (k : κ) : KV (a7F kvs k) (without vs k) := by
  unfold KV at r ⊢
  unfold a7F without
  induction r with
  | nil => exact .nil
  | @cons p q ps qs h t ih =>
    obtain ⟨h1, h2⟩ := h
    rw [List.filter_cons, List.filter_cons]
    by_cases e : p.1 = k
    · have a : ¬ decide (p.1 ≠ k) = true := by simp [e]
      have b : ¬ decide (q.1 ≠ k) = true := by simp [h1.symm.trans e]
      rw [if_neg a, if_neg b]; exact ih
    · have e' : ¬ q.1 = k := fun z => e (h1.trans z)
      have a : decide (p.1 ≠ k) = true := by simp [e]
      have b : decide (q.1 ≠ k) = true := by simp [e']
      rw [if_pos a, if_pos b]; exact .cons ⟨h1, h2⟩ ih
theorem KV.keys {kvs : List (κ × V)} {vs : List (κ × Value)} (r : KV kvs vs) : kvs.map (·.1) = vs.map (·.1) := by
  unfold KV at r
  induction r with
  | nil => rfl
  | cons h t ih => rw [List.map_cons, List.map_cons, ih, h.1]
theorem KV.length {kvs : List (κ × V)} {vs : List (κ × Value)} (r : KV kvs vs) : kvs.length = vs.length := Paired.length r
end
theorem kV_is {P : Program} {w : World} {k : Key} {u : Value} (r : RelV (kV k) u) : (mixKind P w).is k u = true := by
  cases k with
  | inl i => obtain ⟨t, e⟩ := (show ∃ t, u = Value.int i t from r); subst e; exact mixKind_int P w i t
  | inr x => obtain ⟨t, e⟩ := (show ∃ t, u = Value.str x t from r); subst e; exact mixKind_str P w x t
theorem a48 {P : Program} {w : World} : ∀ {ks : List Key} {us : List Value}, Vals (ks.map kV) us → ItemsAre (mixKind P w) ks us
  | [], _, r => by rw [List.map_nil] at r; cases r; exact .nil
  | k :: ks, _, r => by
    rw [List.map_cons] at r
    cases r with
    | cons h t => exact .cons (kV_is h) (a48 t)
abbrev KT (H : Hp) : List (List Key × V) → List (List Key × Addr × Value) → Prop := Paired fun p q => p.1 = q.1 ∧ H q.2.1 = some (.tup (p.1.map kV)) ∧ RelV p.2 q.2.2
theorem KT.val {H : Hp} {kvs : List (List Key × V)} {xs : List (List Key × Addr × Value)} (r : KT H kvs xs) (k : List Key) : RelO (valV kvs k) ((atKey xs k).map (·.2)) := by
  induction r with
  | nil => exact True.intro
  | @cons p q ps qs h t ih =>
    obtain ⟨h1, _, h2⟩ := h
    by_cases e : p.1 = k
    · have e' : q.1 = k := h1.symm.trans e
      have b : atKey (q :: qs) k = some q.2 := by simp [atKey, List.find?_cons, e']
      rw [a3B e, b]; exact h2
    · have e' : ¬ q.1 = k := fun z => e (h1.trans z)
      have b : atKey (q :: qs) k = atKey qs k := by simp [atKey, List.find?_cons, e']
      rw [a3C e, b]; exact ih
theorem KT.repl {H : Hp} {kvs : List (List Key × V)} {xs : List (List Key × Addr × Value)} (r : KT H kvs xs) (k : List Key) {y : V} {u : Value} (ry : RelV y u) :
    KT H (kvs.map fun kv => if kv.1 = k then (kv.1, y) else kv) (xs.map (putAt k u)) := by
  induction r with
  | nil => exact .nil
  | @cons p q ps qs h t ih =>
    rw [List.map_cons, List.map_cons]
    refine .cons ?_ ih
    obtain ⟨h1, h2, h3⟩ := h
    unfold putAt
    by_cases e : p.1 = k
    · rw [if_pos e, if_pos (h1.symm.trans e)]; exact ⟨h1, h2, ry⟩
    · rw [if_neg e, if_neg (fun z => e (h1.trans z))]; exact ⟨h1, h2, h3⟩
theorem KT.put {H : Hp} {kvs : List (List Key × V)} {xs : List (List Key × Addr × Value)} (r : KT H kvs xs) (k : List Key) {b : Addr} {y : V} {u : Value} (hb : H b = some (.tup (k.map kV))) (ry : RelV y u) :
    KT H (putK kvs k y) (storedH xs k b u) := by
  have e : (kvs.any fun kv => decide (kv.1 = k)) = (atKey xs k).isSome := by
    rw [a5W, (r.val k).isSome_eq, Option.isSome_map]
  unfold putK storedH
  rw [e]
  by_cases q : (atKey xs k).isSome = true
  · rw [if_pos q, if_pos q]; exact r.repl k ry
  · rw [if_neg q, if_neg q]; exact Paired.snoc r ⟨rfl, hb, ry⟩
theorem KT.keeps {H H' : Hp} {kvs : List (List Key × V)} {xs : List (List Key × Addr × Value)} (r : KT H kvs xs) (ht : ∀ b ys, H b = some (.tup ys) → H' b = some (.tup ys)) : KT H' kvs xs :=
  Paired.mapP r fun _ _ z => ⟨z.1, ht _ _ z.2.1, z.2.2⟩
section
variable {P : Program} {w : World} {H : Hp} {h : Heap} {a : Addr}
theorem rd_of {u : HO} (ok : HOk P w H h) (e : Rd H a u) : ObjOk P w H h a u := e.ok ok
theorem dk_rd {kvs : List (Key × V)} (ok : HOk P w H h) (e : Rd H a (.dK kvs)) : kvs.length ≤ sizeLine ∧ (a == sysModules) = false ∧ ∃ vs, KV kvs vs ∧ h.DictOf (mixKind P w) a vs :=
  show ObjOk P w H h a (.dK kvs) from rd_of ok e
theorem dk_of {kvs : List (Key × V)} (ok : HOk P w H h) (e : H a = some (.dK kvs)) : kvs.length ≤ sizeLine ∧ (a == sysModules) = false ∧ ∃ vs, KV kvs vs ∧ h.DictOf (mixKind P w) a vs := dk_rd ok (.inl e)
theorem a6g {ks : List Key} (ok : HOk P w H h) (e : H a = some (.tup (ks.map kV))) : (tupleKind (mixKind P w)).is h ks a := by
  obtain ⟨_, its, r, o, h1, h2, n, h3⟩ := (show ObjOk P w H h a (.tup (ks.map kV)) from ok a _ e)
  exact ⟨o, its.toArray, n, h1, h2, h3, by simpa using a48 r⟩
theorem dt_rd {kvs : List (List Key × V)} (ok : HOk P w H h) (e : Rd H a (.dT kvs)) : kvs.length ≤ sizeLine ∧ (a == sysModules) = false ∧
    ∃ xs, KT H kvs xs ∧ h.DictOfH (tupleKind (mixKind P w)) a xs := by
  obtain ⟨z, y, xs, r, o, es, ep, h1, h2, h3, h4, h5⟩ := (show ObjOk P w H h a (.dT kvs) from rd_of ok e)
  refine ⟨z, y, xs, r, o, es, ep, h1, h2, h3, h4, fun x hx => ?_, h5⟩
  have all : ∀ {l : List (List Key × V)} {m : List (List Key × Addr × Value)}, KT H l m → ∀ x ∈ m, (tupleKind (mixKind P w)).is h x.1 x.2.1 := by
    intro l m q
    induction q with
    | nil => intro x hx; exact nomatch hx
    | @cons p q ps qs hq t ih =>
      intro x hx
      rcases List.mem_cons.mp hx with e | hx
      · subst e
        exact a6g ok (by rw [← hq.1]; exact hq.2.1)
      · exact ih x hx
  exact all r x hx
theorem dt_of {kvs : List (List Key × V)} (ok : HOk P w H h) (e : H a = some (.dT kvs)) : kvs.length ≤ sizeLine ∧ (a == sysModules) = false ∧
    ∃ xs, KT H kvs xs ∧ h.DictOfH (tupleKind (mixKind P w)) a xs := dt_rd ok (.inl e)
end
def DGet (H : Hp) (a : Addr) (y : V) (r : Option V) : Prop :=
  (∃ kvs k, Rd H a (.dK kvs) ∧ y = kV k ∧ r = valV kvs k) ∨ ∃ kvs k b, Rd H a (.dT kvs) ∧ y = .ref b ∧ H b = some (.tup (k.map kV)) ∧ r = valV kvs k
def DPut (H : Hp) (a : Addr) (y v : V) (H' : Hp) : Prop :=
  (∃ kvs k, H a = some (.dK kvs) ∧ y = kV k ∧ kvs.length < sizeLine ∧ H' = upd H a (.dK (putK kvs k v))) ∨
  ∃ kvs k b, H a = some (.dT kvs) ∧ y = .ref b ∧ H b = some (.tup (k.map kV)) ∧ kvs.length < sizeLine ∧ H' = upd H a (.dT (putK kvs k v))
theorem DGet.k {H : Hp} {a : Addr} {kvs : List (Key × V)} {k : Key} (e : H a = some (.dK kvs)) : DGet H a (kV k) (valV kvs k) := .inl ⟨kvs, k, .inl e, rfl, rfl⟩
theorem DGet.t {H : Hp} {a b : Addr} {kvs : List (List Key × V)} {k : List Key} (e : H a = some (.dT kvs)) (eb : H b = some (.tup (k.map kV))) : DGet H a (.ref b) (valV kvs k) := .inr ⟨kvs, k, b, .inl e, rfl, eb, rfl⟩
theorem DPut.k {H : Hp} {a : Addr} {kvs : List (Key × V)} {k : Key} {v : V} (e : H a = some (.dK kvs)) (hl : kvs.length < sizeLine) : DPut H a (kV k) v (upd H a (.dK (putK kvs k v))) := .inl ⟨kvs, k, e, rfl, hl, rfl⟩
theorem DPut.t {H : Hp} {a b : Addr} {kvs : List (List Key × V)} {k : List Key} {v : V} (e : H a = some (.dT kvs)) (eb : H b = some (.tup (k.map kV))) (hl : kvs.length < sizeLine) :
    DPut H a (.ref b) v (upd H a (.dT (putK kvs k v))) := .inr ⟨kvs, k, b, e, rfl, eb, hl, rfl⟩
section
variable {X : Cx} {pins : List (Addr × Obj)} {σ : St} {H : Hp} {s : Shared} {a : Addr} {y v : V} {u r : Value} {o : Option V} {A : Around} {E : Value → Shared → Prop}
theorem Inv.big (I : Inv X pins σ H s) : sysModules < s.heap.objs.size := by
  have h : mainGlobals < s.heap.objs.size := (I.mod.glob.keeps I.bk).lt
  exact Nat.lt_trans (by decide) h
theorem a7I {Q : Value → Shared → Prop} (hu : A.units + 1 < cLine) (I : Inv X pins σ H s) (g : DGet H a y (some v)) (ry : RelV y u) (h : ∀ w' s', Inv X pins σ H s' → RelV v w' → Q w' s') :
    wpAny (model X.prog X.w) A (getItem (.ref a) u) Q E s := by
  rcases g with ⟨kvs, k, e, ey, l⟩ | ⟨kvs, k, b, e, ey, eb, l⟩
  · subst ey
    obtain ⟨z, hd, vs, rel, dd⟩ := dk_rd I.hok e
    obtain ⟨w', hw, rw'⟩ := RelO.some_of (v := v) (o := valueAt vs k) (by rw [l]; exact rel.val k)
    exact wpAny_getItem_of (kV_is ry) dd.mapOf hw (h w' _ (I.tok _) rw')
  · subst ey
    cases (show u = Value.ref b from ry)
    obtain ⟨z, hd, xs, rel, dd⟩ := dt_rd I.hok e
    obtain ⟨w', hw, rw'⟩ := RelO.some_of (v := v) (o := (atKey xs k).map (·.2)) (by rw [l]; exact rel.val k)
    obtain ⟨p, hp, hp2⟩ := Option.map_eq_some_iff.mp hw
    refine wpAny_getItem_heap (tupleKind_room_in1 hu) (a6g I.hok eb) dd hp ?_
    rw [hp2]
    exact h w' _ (I.tok _) rw'
theorem d_notIn {Q : Value → Shared → Prop} (hu : A.units + 1 < cLine) (I : Inv X pins σ H s) (g : DGet H a y o) (ry : RelV y u) (h : ∀ s', Inv X pins σ H s' → Q (.bool (!o.isSome)) s') :
    wpAny (model X.prog X.w) A (compareOp .NotIn u (.ref a)) Q E s := by
  rcases g with ⟨kvs, k, e, ey, l⟩ | ⟨kvs, k, b, e, ey, eb, l⟩
  · subst ey
    obtain ⟨z, hd, vs, rel, dd⟩ := dk_rd I.hok e
    refine wpAny_notIn_of (kV_is ry) hd dd.mapOf ?_
    rw [← (rel.val k).isSome_eq, ← l]
    exact h _ (I.tok _)
  · subst ey
    cases (show u = Value.ref b from ry)
    obtain ⟨z, hd, xs, rel, dd⟩ := dt_rd I.hok e
    refine wpAny_notIn_heap (tupleKind_room_in1 hu) (a6g I.hok eb) hd dd ?_
    have q := (rel.val k).isSome_eq
    rw [Option.isSome_map] at q
    rw [← q, ← l]
    exact h _ (I.tok _)
theorem a7G {h' : Heap} {t' : Nat} {ob : HO} (I : Inv X pins σ H s) (mu : Mut (H a)) (hs : Heap.SameBut a s.heap h') (he : ∃ q, h'.get? a = some q) (new : ObjOk X.prog X.w (upd H a ob) h' a ob) :
    Inv X pins σ (upd H a ob) { s with heap := h', toks := t' } :=
  I.write (x := a) (e := a) mu (.inl rfl) (fun b q hb z => (hs.2 b hb).trans z) he new
theorem dk_new {P : Program} {w : World} {H' : Hp} {h' : Heap} {kvs : List (Key × V)} {vs : List (Key × Value)} (z : kvs.length ≤ sizeLine) (hd : (a == sysModules) = false) (rel : KV kvs vs) (dd : h'.DictOf (mixKind P w) a vs) :
    ObjOk P w H' h' a (.dK kvs) := ⟨z, hd, vs, rel, dd⟩
theorem a7H {H' : Hp} {Q : Unit → Shared → Prop} (hu : A.units + 1 < cLine) (I : Inv X pins σ H s) (g : DPut H a y v H') (ry : RelV y u) (rv : RelV v r) (h : ∀ s', Inv X pins σ H' s' → Q () s') :
    wpAny (model X.prog X.w) A (setItem (.ref a) u r) Q E s := by
  rcases g with ⟨kvs, k, e, ey, l, eH⟩ | ⟨kvs, k, b, e, ey, eb, l, eH⟩
  · subst ey eH
    obtain ⟨z, hd, vs, rel, dd⟩ := dk_of I.hok e
    have hz : vs.length ≤ sizeLine := by rw [← rel.length]; exact z
    have hl : (putK kvs k v).length ≤ sizeLine := by have := a3U kvs k v; omega
    refine wpAny_setItem_pairs (hsz := hz) (kV_is ry) dd fun h' dd' hs => h _ ?_
    have he : ∃ q, h'.get? a = some q := let ⟨q, _, _, hq, _⟩ := dd'; ⟨q, hq⟩
    exact a7G I (by rw [e]; exact True.intro) hs he (dk_new hl hd (rel.put k rv) dd')
  · subst ey eH
    cases (show u = Value.ref b from ry)
    obtain ⟨z, hd, xs, rel, dd⟩ := dt_of I.hok e
    have hz : xs.length ≤ sizeLine := by rw [← Paired.length rel]; exact z
    have hl : (putK kvs k v).length ≤ sizeLine := by have := a3U kvs k v; omega
    refine wpAny_setItem_heap (hsz := hz) (tupleKind_room_in1 hu) (a6g I.hok eb) dd fun h' dd' hs => h _ ?_
    obtain ⟨q, es, ep, hq, h2, h3, h4, _, h5⟩ := dd'
    refine a7G I (by rw [e]; exact True.intro) hs ⟨q, hq⟩ ⟨hl, hd, _, (rel.put k eb rv).keeps fun c ys ec => ?_, q, es, ep, hq, h2, h3, h4, h5⟩
    rw [upd_ne (ne_of ec e (fun z => nomatch z))]
    exact ec
end
section
variable {X : Cx} {pins : List (Addr × Obj)} {σ : St} {H : Hp} {s : Shared} {a : Addr} {kvs : List (Key × V)} {k : Key} {u : Value} {A : Around} {E : Value → Shared → Prop}
end
def NoSl (i : Expr) : Prop := ∀ ov iv, subscripted i false ov iv = operate [ov, iv] (getItem ov iv)
theorem subD_of {prog : Program} {w : World} {A : Around} {E : Value → Shared → Prop} {s : Shared} {env : Env} {value slice : Expr} {pos : Pos} {T id : String} {Q : Value → Shared → Prop}
    (hl : typeLookup (.type T) "__getitem__" = pure (some (.builtin id))) (hs : NoSl slice)
    (h : wpAny (model prog w) A (eval value env) (fun o s₁ => wpAny (model prog w) A (eval slice env) (fun i s₂ => s₂.TypeIs o T ∧ wpAny (model prog w) A (getItem o i) Q E s₂) E s₁) E s) :
    wpAny (model prog w) A (eval (.Subscript value slice pos) env) Q E s := by
  refine Subscript_ (wpAny_mono h (fun o s₁ h₁ => wpAny_mono h₁ (fun i s₂ h₂ => ?_) fun _ _ x => x) fun _ _ x => x)
  obtain ⟨hT, h₂⟩ := h₂
  unfold subscriptTail
  refine wpAny_bind ?_
  rw [getitemInPython_of_ne hT.not_modules]
  refine wpAny_bind (wpAny_specialOf hT hl ?_)
  have fin : wpAny (model prog w) A (subscripted slice false o i) (fun r s₃ => wpAny (model prog w) A (letTemporaryGo value o r >>= fun _ => pure r) Q E s₃) E s₂ := by
    rw [hs o i]
    exact wpAny_operating (wpAny_mono h₂ (fun r s₃ h₃ => wpAny_bind (wpAny_letTemporaryGo (wpAny_pure h₃))) fun _ _ x => x)
  first
    | exact wpAny_pure (wpAny_bind fin)
    | exact wpAny_bind (wpAny_pure (wpAny_bind fin))
    | exact wpAny_bind fin
theorem a5Q {X : Cx} {pins : List (Addr × Obj)} {σ : St} {H : Hp} {s : Shared} {a : Addr} {y : V} {o : Option V} (I : Inv X pins σ H s) (g : DGet H a y o) : s.TypeIs (.ref a) "dict" := by
  rcases g with ⟨kvs, k, e, _, _⟩ | ⟨kvs, k, b, e, _, _, _⟩
  · obtain ⟨_, _, vs, _, dd⟩ := dk_rd I.hok e
    exact dd.typeIs
  · obtain ⟨_, _, xs, _, dd⟩ := dt_rd I.hok e
    exact dd.typeIs
def tDGet (td ty : TE) : TE := fun σ H Q => td σ H fun x H1 => ty σ H1 fun y H2 => ∃ a v, x = .ref a ∧ DGet H2 a y (some v) ∧ Q v H2
def tDIn (ty td : TE) : TE := fun σ H Q => ty σ H fun y H1 => td σ H1 fun x H2 => ∃ a o, x = .ref a ∧ DGet H2 a y o ∧ Q (.bl o.isSome) H2
def a66 (ty td : TE) : TE := fun σ H Q => ty σ H fun y H1 => td σ H1 fun x H2 => ∃ a o, x = .ref a ∧ DGet H2 a y o ∧ Q (.bl (!o.isSome)) H2
def sDPut (td ty tv : TE) : TS := fun D σ H => tv σ H fun v H1 => td σ H1 fun x H2 => ty σ H2 fun y H3 => ∃ a H4, x = .ref a ∧ DPut H3 a y v H4 ∧ D.nx σ H4
def sDAug (td ty tv : TE) (rd : V → V → Hp → VK → Prop) : TS := fun D σ H => td σ H fun x H1 => ty σ H1 fun y H2 => ∃ a v, x = .ref a ∧ DGet H2 a y (some v) ∧
  tv σ H2 fun y2 H3 => rd v y2 H3 fun z H4 => ∃ H5, DPut H4 a y z H5 ∧ D.nx σ H5
def sDDel (td ty : TE) : TS := fun D σ H => td σ H fun x H1 => ty σ H1 fun y H2 => ∃ a kvs k, x = .ref a ∧ H2 a = some (.dK kvs) ∧ y = kV k ∧ (valV kvs k).isSome = true ∧ D.nx σ (upd H2 a (.dK (a7F kvs k)))
section
variable {X : Cx} {o i e value : Expr} {pos pos' tpos : Pos} {td ty tv : TE}
theorem a7k (hu : X.A.units + 1 < cLine) (ho : PE X o td) (hi : PE X i ty) (hs : NoSl i) : PE X (.Subscript o i pos) (tDGet td ty) := by
  intro pins s σ H Q I h
  refine subD_of PySem.F.slot_dict_getitem.lookup hs (thn (ho pins s σ H _ I h) fun u s1 ⟨x, H1, I1, rx, q1⟩ => thn (hi pins s1 σ H1 _ I1 q1) fun iv s2 ⟨y, H2, I2, ry, a, v, ex, g, q2⟩ => ?_)
  subst ex
  obtain rfl : u = Value.ref a := rx
  exact ⟨a5Q I2 g, a7I hu I2 g ry fun w' s3 I3 rw' => ⟨v, H2, I3, rw', q2⟩⟩
theorem a7l (hu : X.A.units + 1 < cLine) (hi : PE X i ty) (ho : PE X o td) : PC X .NotIn i o (a66 ty td) := by
  intro pins s σ H Q I h
  refine thn (hi pins s σ H _ I h) fun iv s1 ⟨y, H1, I1, ry, q1⟩ => thn (ho pins s1 σ H1 _ I1 q1) fun u s2 ⟨x, H2, I2, rx, a, ov, ex, g, q2⟩ => ?_
  subst ex
  obtain rfl : u = Value.ref a := rx
  exact d_notIn hu I2 g ry fun s3 I3 => ⟨.bl (!ov.isSome), H2, I3, rfl, q2⟩
theorem ps_dput (hu : X.A.units + 1 < cLine) (ho : PE X o td) (hi : PE X i ty) (hv : PE X value tv) (hs : swapsWith value (some (.Subscript o i pos')) pos.line X.env = pure false) :
    PS X (.Assign [.Subscript o i pos'] value pos) (sDPut td ty tv) := by
  intro pins s σ H D I h
  refine wpAny_Assign_Subscript (thn (hv pins s σ H _ I h) fun r s1 ⟨v, H1, I1, rv, q1⟩ => thn (ho pins s1 σ H1 _ I1 q1) fun u s2 ⟨x, H2, I2, rx, q2⟩ => thn (hi pins s2 σ H2 _ I2 q2) fun iv s3 ⟨y, H3, I3, ry, a, H4, ex, g, q3⟩ => ?_) hs
  subst ex
  obtain rfl : u = Value.ref a := rx
  exact a7H hu I3 g ry rv fun s4 I4 => ⟨σ, H4, I4, q3⟩
end
theorem dt_empty {P : Program} {w : World} {H : Hp} (h : Heap) (hb : sysModules < h.objs.size) : ObjOk P w H (h.push { cls := .type "dict", data := .dict #[] }) h.objs.size (.dT []) :=
  ⟨Nat.zero_le _, beq_eq_false_iff_ne.mpr (Ne.symm (Nat.ne_of_lt hb)), [], .nil, _, #[], 0, Heap.get?_push_size _ rfl, ⟨rfl, rfl, rfl⟩, rfl, rfl, List.nodup_nil⟩
def tDNewK : TE := fun _ H Q => ∀ p, H p = none → Q (.ref p) (upd H p (.dK []))
def tDNewT : TE := fun _ H Q => ∀ p, H p = none → Q (.ref p) (upd H p (.dT []))
section
variable {X : Cx} {pos : Pos}
theorem pe_dnewT : PE X (.Dict [] [] pos) tDNewT := fun pins s σ H Q I h =>
  wpAny_Dict_empty ⟨.ref s.heap.objs.size, _, I.laid (a := s.heap.objs.size) (o := .dT []) (t' := s.toks) (fun _ _ q => Heap.get?_push_of_some _ q) (Nat.le_refl _) (dt_empty s.heap I.big), rfl, h _ (I.hok.fresh (Nat.le_refl _))⟩
end
def a62 : List (TE × TE) → St → Hp → (List (V × V) → Hp → Prop) → Prop
  | [], _, H, Q => Q [] H
  | (tk, tv) :: r, σ, H, Q => tk σ H fun x H1 => tv σ H1 fun y H2 => a62 r σ H2 fun ps H3 => Q ((x, y) :: ps) H3
abbrev VV : List (V × V) → List (Value × Value) → Prop := Paired fun p q => RelV p.1 q.1 ∧ RelV p.2 q.2
def PPs (X : Cx) (pos : Pos) (keys : List (Option Expr)) (values : List Expr) (trs : List (TE × TE)) : Prop :=
  ∀ (pins : List (Addr × Obj)) (s : Shared) (σ : St) (H : Hp) (Q : List (V × V) → Hp → Prop), Inv X pins σ H s → a62 trs σ H Q →
    wpAny (model X.prog X.w) X.A (evalPairs (pairTrees keys values X.env pos)) (fun vs s' => ∃ ps H', Inv X pins σ H' s' ∧ VV ps vs ∧ Q ps H') X.xe s
def mergeK (kvs more : List (Key × V)) : List (Key × V) := more.foldl (fun acc kv => putK acc kv.1 kv.2) kvs
def tDisp (trs : List (TE × TE)) : TE := fun σ H Q => ∀ p, H p = none → a62 trs σ (upd H p (.dK [])) fun ps H2 => H2 p = some (.dK []) ∧ ∃ kvs : List (Key × V), ps = kvs.map (fun kv => (kV kv.1, kv.2)) ∧ kvs.length ≤ 15 ∧ Q (.ref p) (upd H2 p (.dK (mergeK [] kvs)))
structure M1 (X : Cx) (o : Expr) (m : Str) (apos : Pos) (e : Expr) (cpos : Pos) : Prop where
  base : attributeBase o m X.env (eval o X.env) = eval o X.env
  few : ((backTo cpos (starEach [e] X.env)).all (fun x => !x.1) && (backToKw cpos (keywordEach [] X.env)).all (fun x => x.1.isSome)
    && decide (([e] : List Expr).length + ([] : List Keyword).length + (if ([] : List Keyword).isEmpty then 0 else 1) < 30)) = true
  line : (apos.endLine == cpos.line) = true
  trees : backTo cpos (starEach [e] X.env) = [(false, eval e X.env)]
structure M2 (X : Cx) (o : Expr) (m : Str) (apos : Pos) (e f : Expr) (cpos : Pos) : Prop where
  base : attributeBase o m X.env (eval o X.env) = eval o X.env
  few : ((backTo cpos (starEach [e, f] X.env)).all (fun x => !x.1) && (backToKw cpos (keywordEach [] X.env)).all (fun x => x.1.isSome)
    && decide (([e, f] : List Expr).length + ([] : List Keyword).length + (if ([] : List Keyword).isEmpty then 0 else 1) < 30)) = true
  line : (apos.endLine == cpos.line) = true
  trees : backTo cpos (starEach [e, f] X.env) = [(false, eval e X.env), (false, eval f X.env)]
def IsD (H : Hp) (a : Addr) : Prop := (∃ kvs, Rd H a (.dK kvs)) ∨ ∃ kvs, Rd H a (.dT kvs)
section
variable {X : Cx} {pins : List (Addr × Obj)} {σ : St} {H : Hp} {s : Shared} {a : Addr} {y d : V} {u r : Value} {o : Option V} {A : Around} {E : Value → Shared → Prop}
end
def tDGet1 (td ty : TE) : TE := fun σ H Q => td σ H fun x H1 => ∃ a, x = .ref a ∧ IsD H1 a ∧ ty σ H1 fun y H2 => ∃ o, DGet H2 a y o ∧ Q (o.getD .non) H2
def tDGet2 (td ty tx : TE) : TE := fun σ H Q => td σ H fun x H1 => ∃ a, x = .ref a ∧ IsD H1 a ∧ ty σ H1 fun y H2 => tx σ H2 fun z H3 => ∃ o, DGet H3 a y o ∧ Q (o.getD z) H3
def tDPop1 (td ty : TE) : TE := fun σ H Q => td σ H fun x H1 => ∃ a, x = .ref a ∧ IsD H1 a ∧ ty σ H1 fun y H2 => ∃ kvs k v, H2 a = some (.dK kvs) ∧ y = kV k ∧ valV kvs k = some v ∧ Q v (upd H2 a (.dK (a7F kvs k)))
def tDPop2 (td ty tx : TE) : TE := fun σ H Q => td σ H fun x H1 => ∃ a, x = .ref a ∧ IsD H1 a ∧ ty σ H1 fun y H2 => tx σ H2 fun z H3 => ∃ kvs k, H3 a = some (.dK kvs) ∧ y = kV k ∧
  (∀ v, valV kvs k = some v → Q v (upd H3 a (.dK (a7F kvs k)))) ∧ (valV kvs k = none → Q z H3)
section
variable {X : Cx} {o e f : Expr} {apos cpos : Pos} {td ty tx : TE}
end
end L2
namespace L3
open PySem
inductive D where
  | non | bl (b : Bool) | int (i : Int) | str (x : Str) | tup (ds : List D) | lst (ds : List D) | obj (c : String) (ns : List Str) (ds : List D) | fn (k : Nat) (ds : List D)
inductive O where
  | lst (ds : List D) | obj (c : String) (ns : List Str) (ds : List D) | dic (kvs : List (List Int × Int)) | par (a : Nat) (o : O) | fdic (kvs : List (List Int × Int))
def O.val : O → D
  | .lst ds => .lst ds
  | .obj c ns ds => .obj c ns ds
  | .dic _ => .non
  | .par _ _ => .non
  | .fdic _ => .non
inductive S where
  | sh (d : D) | own (o : O) | two (d : D) (a : Nat) (o : O)
def S.val : S → D
  | .sh d => d
  | .own o => o.val
  | .two d _ _ => d
def S.nd : S → Bool
  | .own (.dic _) => false
  | .own (.par _ _) => false
  | .own (.fdic _) => false
  | .two _ _ _ => false
  | _ => true
inductive R where
  | ok (s : S) | exc (x : D)
abbrev MEnv := List (Option S)
inductive Out where
  | next (ρ : MEnv) | brk (ρ : MEnv) | cont (ρ : MEnv) | ret (s : S) | exc (x : D)
abbrev ME := MEnv → Option R
abbrev MC := MEnv → Option Out
inductive RI where
  | ok (ds : List D) | exc (x : D)
abbrev MI := MEnv → Option RI
abbrev MB := D → MEnv → Option MEnv
@[reducible] def okD (d : D) : Option R := some (.ok (.sh d))
@[reducible] def okI (i : Int) : Option R := okD (.int i)
@[reducible] def okB (b : Bool) : Option R := okD (.bl b)
@[reducible] def okL (ds : List D) : Option R := some (.ok (.own (.lst ds)))
def a0L (r : Option R) (k : D → Option R) : Option R := match r with
  | some (.ok s) => k s.val
  | some (.exc x) => some (.exc x)
  | none => none
def a2Q (r : Option R) (k : S → Option Out) : Option Out := match r with
  | some (.ok s) => k s
  | some (.exc x) => some (.exc x)
  | none => none
@[simp] theorem bindV_ok (s : S) (k : D → Option R) : a0L (some (.ok s)) k = k s.val := rfl
@[simp] theorem bindV_exc (x : D) (k : D → Option R) : a0L (some (.exc x)) k = some (.exc x) := rfl
@[simp] theorem bindV_none (k : D → Option R) : a0L none k = none := rfl
@[simp] theorem bindO_ok (s : S) (k : S → Option Out) : a2Q (some (.ok s)) k = k s := rfl
@[simp] theorem bindO_exc (x : D) (k : S → Option Out) : a2Q (some (.exc x)) k = some (.exc x) := rfl
@[simp] theorem bindO_none (k : S → Option Out) : a2Q none k = none := rfl
@[simp] theorem S.val_sh (d : D) : (S.sh d).val = d := rfl
@[simp] theorem S.val_own (o : O) : (S.own o).val = o.val := rfl
@[simp] theorem O.val_lst (ds : List D) : (O.lst ds).val = .lst ds := rfl
@[simp] theorem O.val_obj (c : String) (ns : List Str) (ds : List D) : (O.obj c ns ds).val = .obj c ns ds := rfl
def eVar (i : Nat) : ME := fun ρ => match ρ[i]? with
  | some (some (.sh d)) => okD d
  | _ => none
def eAny (i : Nat) : ME := fun ρ => match ρ[i]? with
  | some (some (.own (.dic _))) => none
  | some (some (.own (.par _ _))) => none
  | some (some (.own (.fdic _))) => none
  | some (some (.two _ _ _)) => none
  | some (some s) => okD s.val
  | _ => none
def eC (d : D) : ME := fun _ => okD d
def eUn (f : D → Option R) (a : ME) : ME := fun ρ => a0L (a ρ) f
def eBin (f : D → D → Option R) (a b : ME) : ME := fun ρ => a0L (a ρ) fun x => a0L (b ρ) fun y => f x y
def a1W : List ME → MEnv → (List D → Option R) → Option R
  | [], _, k => k []
  | e :: es, ρ, k => a0L (e ρ) fun d => a1W es ρ fun ds => k (d :: ds)
def a0j (f : List D → Option R) (as : List ME) : ME := fun ρ => a1W as ρ f
def flat : D → Bool
  | .non => true | .bl _ => true | .int _ => true | .str _ => true | _ => false
def a5O : Option R → Option R
  | some (.ok s) => if flat s.val then okD s.val else none
  | _ => none
def a0m (f : List D → Option R) (as : List ME) : ME := fun ρ => a5O (a1W as ρ f)
def lim : Nat := 1000000
def eTup (as : List ME) : ME := a0j (fun ds => if ds.length ≤ lim then okD (.tup ds) else none) as
def eLst (as : List ME) : ME := a0j (fun ds => if ds.length ≤ lim then okL ds else none) as
def asB : D → (Bool → Option R) → Option R
  | .bl b, k => k b
  | _, _ => none
def eAnd (a b : ME) : ME := fun ρ => a0L (a ρ) fun x => asB x fun c => if c = true then b ρ else okB false
def eOr (a b : ME) : ME := fun ρ => a0L (a ρ) fun x => asB x fun c => if c = true then okB true else b ρ
def dNot (x : D) : Option R := asB x fun c => okB (!c)
def eNot (a : ME) : ME := eUn dNot a
def eIf (c a b : ME) : ME := fun ρ => a0L (c ρ) fun x => asB x fun t => if t = true then a ρ else b ρ
def sSeq (a b : MC) : MC := fun ρ => match a ρ with
  | some (.next ρ') => b ρ'
  | o => o
def a0G : MC := fun ρ => some (.next ρ)
def sBrk : MC := fun ρ => some (.brk ρ)
def sCont : MC := fun ρ => some (.cont ρ)
def sSet (i : Nat) (e : ME) : MC := fun ρ => a2Q (e ρ) fun s => some (.next (ρ.set i (some s)))
def sExpr (e : ME) : MC := fun ρ => a2Q (e ρ) fun _ => some (.next ρ)
def sRet (e : ME) : MC := fun ρ => a2Q (e ρ) fun s => some (.ret s)
def asBO : D → (Bool → Option Out) → Option Out
  | .bl b, k => k b
  | _, _ => none
def sIf (c : ME) (a b : MC) : MC := fun ρ => a2Q (c ρ) fun s => asBO s.val fun t => if t = true then a ρ else b ρ
def dem (i : Nat) (ρ : MEnv) : MEnv := match ρ[i]? with
  | some (some (.own (.dic _))) => ρ
  | some (some (.own (.par _ _))) => ρ
  | some (some (.own (.fdic _))) => ρ
  | some (some (.own o)) => ρ.set i (some (.sh o.val))
  | _ => ρ
def sDem (i : Nat) (c : MC) : MC := fun ρ => c (dem i ρ)
def ownL (i : Nat) (ρ : MEnv) (k : List D → Option Out) : Option Out := match ρ[i]? with
  | some (some (.own (.lst ds))) => k ds
  | _ => none
def a0Q (i : Nat) (e : ME) : MC := fun ρ => ownL i ρ fun ds => a2Q (e ρ) fun s => if ds.length < lim then some (.next (ρ.set i (some (.own (.lst (ds ++ [s.val])))))) else none
def a4C : D → Option (List D)
  | .lst ds => some ds
  | .tup ds => some ds
  | _ => none
def sExtend (i : Nat) (e : ME) : MC := fun ρ => ownL i ρ fun ds => a2Q (e ρ) fun s => match a4C s.val with
  | some es => if ds.length + es.length ≤ lim then some (.next (ρ.set i (some (.own (.lst (ds ++ es)))))) else none
  | none => none
def ixD (n : Nat) (i : Int) : Option Nat := if 0 ≤ i then (if i < n then some i.toNat else none) else if -(n : Int) ≤ i then some (i + n).toNat else none
def sSetItem (i : Nat) (k e : ME) : MC := fun ρ => a2Q (e ρ) fun s => ownL i ρ fun ds => a2Q (k ρ) fun z => match z.val with
  | .int j => (match ixD ds.length j with
    | some n => some (.next (ρ.set i (some (.own (.lst (ds.set n s.val))))))
    | none => none)
  | _ => none
def a0F (j : Nat) : MB := fun d ρ => some (ρ.set j (some (.sh d)))
def a5Z : List Nat → List D → MEnv → MEnv
  | j :: js, d :: ds, ρ => a5Z js ds (ρ.set j (some (.sh d)))
  | _, _, ρ => ρ
def bTup (js : List Nat) : MB := fun d ρ => match d with
  | .tup ds => if ds.length = js.length then some (a5Z js ds ρ) else none
  | _ => none
def forD (bd : MB) (body : MC) : List D → MEnv → Option Out
  | [], ρ => some (.next ρ)
  | d :: ds, ρ => match bd d ρ with
    | none => none
    | some ρ1 => match body ρ1 with
      | some (.next ρ2) => forD bd body ds ρ2
      | some (.cont ρ2) => forD bd body ds ρ2
      | some (.brk ρ2) => some (.next ρ2)
      | o => o
def sFor (it : MI) (bd : MB) (body : MC) : MC := fun ρ => match it ρ with
  | some (.ok ds) => forD bd body ds ρ
  | some (.exc x) => some (.exc x)
  | none => none
def iSeq (e : ME) : MI := fun ρ => match e ρ with
  | some (.ok s) => (a4C s.val).map .ok
  | some (.exc x) => some (.exc x)
  | none => none
def rng (lo hi : Int) : List D := (List.range (hi - lo).toNat).map fun (k : Nat) => D.int (lo + k)
def a20 (i : Int) : Bool := decide (-(2 ^ 62) ≤ i) && decide (i < 2 ^ 62)
def iArg (e : ME) (ρ : MEnv) (k : D → Option RI) : Option RI := match e ρ with
  | some (.ok s) => k s.val
  | some (.exc x) => some (.exc x)
  | none => none
def a1t (e : ME) : MI := fun ρ => iArg e ρ fun x => match x with
  | .int hi => if a20 hi = true then some (.ok (rng 0 hi)) else none
  | _ => none
def a1V (a b : ME) : MI := fun ρ => iArg a ρ fun x => iArg b ρ fun y => match x, y with
  | .int lo, .int hi => if a20 lo = true ∧ a20 hi = true then some (.ok (rng lo hi)) else none
  | _, _ => none
def zipD : D → D → Option RI
  | .lst xs, .lst ys => some (.ok (List.zipWith (fun u v => D.tup [u, v]) xs ys))
  | .tup xs, .tup ys => some (.ok (List.zipWith (fun u v => D.tup [u, v]) xs ys))
  | _, _ => none
def iZip (a b : ME) : MI := fun ρ => iArg a ρ fun x => iArg b ρ fun y => zipD x y
def a1x (bd : MB) (cond elt : ME) (ρ : MEnv) : List D → List D → Option R
  | [], acc => if acc.length ≤ lim then okL acc else none
  | d :: ds, acc => match bd d ρ with
    | none => none
    | some ρ1 => a0L (cond ρ1) fun c => asB c fun t => if t = true then a0L (elt ρ1) fun x => a1x bd cond elt ρ ds (acc ++ [x]) else a1x bd cond elt ρ ds acc
def a0q (js : List Nat) (ρ : MEnv) : MEnv := js.foldl (fun ρ j => ρ.set j none) ρ
def a3a (js : List Nat) (it : MI) (bd : MB) (cond elt : ME) : ME := fun ρ => match it ρ with
  | some (.ok ds) => if ds.length ≤ lim then a1x bd cond elt (a0q js ρ) ds [] else none
  | some (.exc x) => some (.exc x)
  | none => none
def a6Y (c : ME) (body : MC) : Nat → MEnv → Option Out
  | 0, _ => none
  | n + 1, ρ => a2Q (c ρ) fun s => asBO s.val fun t => if t = true then (match body ρ with
      | some (.next ρ2) => a6Y c body n ρ2
      | some (.cont ρ2) => a6Y c body n ρ2
      | some (.brk ρ2) => some (.next ρ2)
      | o => o) else some (.next ρ)
def sWhile (fuel : MEnv → Nat) (c : ME) (body : MC) : MC := fun ρ => a6Y c body (fuel ρ) ρ
def a1I (n : Nat) (ds : List D) : MEnv := ds.map (fun d => some (.sh d)) ++ List.replicate (n - ds.length) none
def outR : Option Out → Option R
  | some (.ret s) => some (.ok s)
  | some (.next _) => okD .non
  | some (.exc x) => some (.exc x)
  | _ => none
def fnD (np n : Nat) (g : MC) : List D → Option R := fun ds => if ds.length = np then outR (g (a1I n ds)) else none
def dAdd : D → D → Option R
  | .int i, .int j => okI (i + j)
  | .str x, .str y => if x.length + y.length ≤ lim then okD (.str (x ++ y)) else none
  | .tup xs, .tup ys => if xs.length + ys.length ≤ lim then okD (.tup (xs ++ ys)) else none
  | .lst xs, .lst ys => if xs.length + ys.length ≤ lim then okL (xs ++ ys) else none
  | _, _ => none
def dSub : D → D → Option R
  | .int i, .int j => okI (i - j)
  | _, _ => none
def a2R (i : Int) : Bool := decide (-(2 ^ 64) < i) && decide (i < 2 ^ 64)
def dMul : D → D → Option R
  | .int i, .int j => if (a2R i || a2R j) = true then okI (i * j) else none
  | _, _ => none
def dRep (ds : List D) : D → Option R
  | .int k => if -(2 ^ 60) ≤ k ∧ k < 2 ^ 60 ∧ ds.length * k.toNat ≤ lim then okL (List.replicate k.toNat ds).flatten else none
  | _ => none
def eRep (a b : ME) : ME := fun ρ => match a ρ with
  | some (.ok (.own (.lst ds))) => a0L (b ρ) (dRep ds)
  | some (.exc x) => some (.exc x)
  | _ => none
def dMod : D → D → Option R
  | .int i, .int j => if 0 < j then okI (i % j) else none
  | _, _ => none
def a5d : D → D → Option R
  | .int i, .int j => if 0 < j ∧ j < 1073741824 then okI (i / j) else none
  | _, _ => none
def dCmp (p : Int → Int → Bool) : D → D → Option R
  | .int i, .int j => okB (p i j)
  | _, _ => none
def dLt := dCmp fun i j => decide (i < j)
def dLe := dCmp fun i j => decide (i ≤ j)
def dGt := dCmp fun i j => decide (j < i)
def dGe := dCmp fun i j => decide (j ≤ i)
def eqF : D → D → Option Bool
  | .int i, .int j => some (decide (i = j))
  | .str x, .str y => some (decide (x = y))
  | .bl x, .bl y => some (decide (x = y))
  | .non, .non => some true
  | .non, .int _ => some false | .int _, .non => some false | .non, .str _ => some false | .str _, .non => some false | .non, .bl _ => some false | .bl _, .non => some false
  | .int _, .str _ => some false | .str _, .int _ => some false | .bl _, .str _ => some false | .str _, .bl _ => some false
  | _, _ => none
def dEq (x y : D) : Option R := match eqF x y with
  | some b => okB b
  | none => none
def dNe (x y : D) : Option R := match eqF x y with
  | some b => okB (!b)
  | none => none
def dIsN : D → Option R
  | .non => okB true
  | _ => okB false
def dNotN : D → Option R
  | .non => okB false
  | _ => okB true
def atD {α : Type} (xs : List α) (i : Int) : Option α := (ixD xs.length i).bind fun j => xs[j]?
def dIx : D → D → Option R
  | .tup ds, .int i => (atD ds i).bind okD
  | .lst ds, .int i => (atD ds i).bind okD
  | .str x, .int i => if x.length ≤ lim then (atD x.cps.toList i).bind fun c => okD (.str ⟨#[c]⟩) else none
  | _, _ => none
def dLen : D → Option R
  | .tup ds => okI ds.length
  | .lst ds => okI ds.length
  | .str x => if x.length ≤ lim then okI x.length else none
  | _ => none
def intsOf : List D → Option (List Int)
  | [] => some []
  | .int i :: r => (intsOf r).map (i :: ·)
  | _ :: _ => none
def blsOf : List D → Option (List Bool)
  | [] => some []
  | .bl i :: r => (blsOf r).map (i :: ·)
  | _ :: _ => none
def dSum : D → Option R
  | .lst ds => (intsOf ds).bind fun ns => okI ns.sum
  | _ => none
def dAll : D → Option R
  | .lst ds => (blsOf ds).bind fun bs => okB (bs.all id)
  | _ => none
def dAny : D → Option R
  | .lst ds => (blsOf ds).bind fun bs => okB (bs.any id)
  | _ => none
def a2F : D → Option R
  | .lst ds => okD (.tup ds)
  | .tup ds => okD (.tup ds)
  | _ => none
def dList : D → Option R
  | .lst ds => okL ds
  | .tup ds => okL ds
  | _ => none
def dRange2L : D → D → Option R
  | .int lo, .int hi => if a20 lo = true ∧ a20 hi = true ∧ (hi - lo).toNat ≤ lim then okL (rng lo hi) else none
  | _, _ => none
def kindD : D → String
  | .non => "NoneType" | .bl _ => "bool" | .int _ => "int" | .str _ => "str" | .tup _ => "tuple" | .lst _ => "list" | .obj c _ _ => c | .fn _ _ => "function"
def dIsT (T : String) : D → Option R
  | .obj _ _ _ => none
  | .fn _ _ => none
  | d => okB (kindD d == T || (kindD d == "bool" && T == "int"))
def f1 (F : D → Option R) : List D → Option R
  | [d] => F d
  | _ => none
def f2 (F : D → D → Option R) : List D → Option R
  | [d, e] => F d e
  | _ => none
def a3c : ME := eC (.bl true)
end L3
namespace L3
open PySem
def dShl : D → D → Option R
  | .int i, .int j => if 0 ≤ j ∧ j ≤ 1000000 ∧ i.natAbs < 2 ^ 64 then okI (i * 2 ^ j.toNat) else none
  | _, _ => none
def dShr : D → D → Option R
  | .int i, .int j => if 0 ≤ j then okI (i / 2 ^ j.toNat) else none
  | _, _ => none
def a3s : D → D → Option R
  | .int i, .int j => if 0 ≤ i ∧ 0 ≤ j then okI ((i.toNat &&& j.toNat : Nat) : Int) else none
  | _, _ => none
def dBor : D → D → Option R
  | .int i, .int j => if 0 ≤ i ∧ 0 ≤ j then okI ((i.toNat ||| j.toNat : Nat) : Int) else none
  | _, _ => none
def dPow : D → D → Option R
  | .int i, .int j => if 0 ≤ j ∧ j ≤ 1000000 ∧ i.natAbs < 2 ^ 64 then okI (i ^ j.toNat) else none
  | _, _ => none
def dNeg : D → Option R
  | .int i => okI (-i)
  | _ => none
def dAbs : D → Option R
  | .int i => okI (if i < 0 then -i else i)
  | _ => none
def dMax2 : D → D → Option R
  | .int i, .int j => okI (if j > i then j else i)
  | _, _ => none
def dMin2 : D → D → Option R
  | .int i, .int j => okI (if j < i then j else i)
  | _, _ => none
def dInt : D → Option R
  | .int i => okI i
  | .bl b => okI (if b then 1 else 0)
  | _ => none
def bitLen (i : Int) : Nat := if i == 0 then 0 else i.natAbs.log2 + 1
def dBitLen : D → Option R
  | .int i => okI (bitLen i : Int)
  | _ => none
def truD : D → Option Bool
  | .non => some false
  | .bl b => some b
  | .int i => some (i != 0)
  | .str y => if y.length ≤ lim then some ((y.length : Int) != 0) else none
  | .tup ds => some (!ds.isEmpty)
  | .lst ds => some (!ds.isEmpty)
  | _ => none
def dTru (d : D) : Option R := (truD d).bind fun b => okB b
def eTru (a : ME) : ME := eUn dTru a
def eChain (f g : D → D → Option R) (a b c : ME) : ME := fun ρ => a0L (a ρ) fun x => a0L (b ρ) fun y => a0L (f x y) fun z => asB z fun t => if t = true then a0L (c ρ) fun w => g y w else okB false
end L3
namespace L3
open PySem
def enumD : D → Option RI
  | .lst xs => some (.ok ((List.range xs.length).zipWith (fun (i : Nat) d => D.tup [.int i, d]) xs))
  | .tup xs => some (.ok ((List.range xs.length).zipWith (fun (i : Nat) d => D.tup [.int i, d]) xs))
  | _ => none
def iEnum (a : ME) : MI := fun ρ => iArg a ρ enumD
def eqD : D → D → Bool
  | .non, .non => true
  | .bl a, .bl b => a == b
  | .bl a, .int b => (if a then 1 else 0) == b
  | .int a, .bl b => a == (if b then 1 else 0)
  | .int a, .int b => a == b
  | .str a, .str b => a == b
  | _, _ => false
def inD (x : D) (ds : List D) : Bool := ds.any fun y => eqD y x
def dIn (neg : Bool) (x y : D) : Option R := match a4C y with
  | some ds => if flat x = true ∧ ds.all flat = true then okB (if neg then !inD x ds else inD x ds) else none
  | none => none
def sIxD (n d : Nat) : Option Int → Nat
  | none => d
  | some v => if v < 0 then (v + (n : Int)).toNat else min v.toNat n
def cutD (ds : List D) (lo hi : Option Int) : List D := (ds.drop (sIxD ds.length 0 lo)).take (sIxD ds.length ds.length hi - sIxD ds.length 0 lo)
def dSlice (x : D) (lo hi : Option Int) : Option R := match x with
  | .tup ds => if sIxD ds.length 0 lo = 0 ∧ sIxD ds.length ds.length hi = ds.length then none else okD (.tup (cutD ds lo hi))
  | .lst ds => okL (cutD ds lo hi)
  | _ => none
def partD (o : Option ME) (ρ : MEnv) (k : Option Int → Option R) : Option R := match o with
  | none => k none
  | some e => a0L (e ρ) fun d => match d with
    | .int i => k (some i)
    | _ => none
def a3Y (e : ME) (lo hi : Option ME) : ME := fun ρ => a0L (e ρ) fun x => partD lo ρ fun l => partD hi ρ fun h => dSlice x l h
end L3
namespace L3
open PySem
def insD (k : Int) : List Int → List Int
  | [] => [k]
  | x :: r => if k < x then k :: x :: r else if k = x then x :: r else x :: insD k r
def sortD (ns : List Int) : List Int := ns.foldr insD []
def fewD (ns : List Int) : Bool := decide (ns.length ≤ 4) && ns.all fun n => decide (0 ≤ n) && decide (n < 32)
def dSortSet : D → Option R
  | .lst ds => (intsOf ds).bind fun ns => if fewD ns = true then okL ((sortD ns).map D.int) else none
  | _ => none
def fldD (f : Str) : List Str → List D → Option D
  | n :: ns, d :: ds => if f == n then some d else fldD f ns ds
  | _, _ => none
def dFld (cs : List String) (f : Str) : D → Option R
  | .obj c ns ds => if cs.contains c = true then (fldD f ns ds).bind okD else none
  | _ => none
def eMeth (m : Str) (tb : String → Option (List D → Option R)) (o : ME) (as : List ME) : ME := fun ρ => a0L (o ρ) fun x => match x with
  | .obj c ns ds => if ns.contains m = true then none else (match tb c with
    | some F => a1W as ρ fun vs => F (.obj c ns ds :: vs)
    | none => none)
  | _ => none
def dIsC (tb : String → Option Bool) : D → Option R
  | .obj c _ _ => (tb c).bind fun b => okB b
  | _ => none
abbrev a5n := O → List D → Option O
abbrev MG := MEnv → O → Option O
def a1r : List ME → MEnv → Option (List D)
  | [], _ => some []
  | e :: es, ρ => match e ρ with
    | some (.ok s) => (a1r es ρ).map (s.val :: ·)
    | _ => none
def putN (f : Str) : List Str → List Str
  | [] => [f]
  | n :: r => if n = f then n :: r else n :: putN f r
def putD (f : Str) (d : D) : List Str → List D → List D
  | [], _ => [d]
  | n :: ns, x :: ds => if n = f then d :: ds else x :: putD f d ns ds
  | _ :: _, [] => []
def iNext : MG := fun _ o => some o
def iSeq2 (g h : MG) : MG := fun ρ o => (g ρ o).bind (h ρ)
def iSetF (cs : List String) (f : Str) (e : ME) : MG := fun ρ o => match e ρ, o with
  | some (.ok s), .obj c ns ds => if cs.contains c = true ∧ ns.length = ds.length ∧ ns.length < 900 then some (.obj c (putN f ns) (putD f s.val ns ds)) else none
  | _, _ => none
def iBase (F : a5n) (as : List ME) : MG := fun ρ o => (a1r as ρ).bind (F o)
def fnI (np n : Nat) (g : MG) : a5n := fun o ds => if ds.length + 1 = np then g (none :: a1I (n - 1) ds) o else none
def eMake (c : String) (F : a5n) (as : List ME) : ME := fun ρ => a1W as ρ fun ds => match F (.obj c [] []) ds with
  | some o => some (.ok (.own o))
  | none => none
end L3
namespace L3
open PySem
def a6V : D → D → Option R
  | .str x, .int n => if x.length = 1 ∧ (n = 1 ∨ n = 2) then okD (.str (if n = 1 then x else ⟨x.cps ++ x.cps⟩)) else none
  | _, _ => none
def dNeNil : D → D → Option R
  | .lst ds, .lst [] => okB (!ds.isEmpty)
  | _, _ => none
end L3
namespace L3
open PySem
def eqXs (f : D → D → Option Bool) : List D → List D → Option Bool
  | [], [] => some true
  | x :: xs, y :: ys => (f x y).bind fun b => (eqXs f xs ys).bind fun c => some (b && c)
  | _, _ => some false
def eqX : Nat → D → D → Option Bool
  | 0, _, _ => none
  | _ + 1, .int i, .int j => some (i == j)
  | _ + 1, .str x, .str y => some (x == y)
  | n + 1, .tup xs, .tup ys => eqXs (eqX n) xs ys
  | n + 1, .lst xs, .lst ys => if xs.length = ys.length then eqXs (eqX n) xs ys else some false
  | _ + 1, _, _ => none
def dEqX (n : Nat) (x y : D) : Option R := (eqX n x y).bind fun b => okB b
def dNeX (n : Nat) (x y : D) : Option R := (eqX n x y).bind fun b => okB (!b)
def inX (n : Nat) (x : D) : List D → Option Bool
  | [] => some false
  | y :: ys => (eqX n y x).bind fun b => (inX n x ys).bind fun c => some (b || c)
def dInX (neg : Bool) (n : Nat) (x : D) : D → Option R
  | .lst ds => (inX n x ds).bind fun b => okB (if neg then !b else b)
  | _ => none
end L3
namespace L3
def a50 (i : Nat) : MC := fun ρ => ownL i ρ fun _ => some (.next (ρ.set i (some (.own (.lst [])))))
theorem clear_s {i : Nat} {ρ : MEnv} {ds : List D} (h : ρ[i]? = some (some (.own (.lst ds)))) : a50 i ρ = some (.next (ρ.set i (some (.own (.lst []))))) := by unfold a50 ownL; rw [h]
def sRetV (i : Nat) : MC := fun ρ => match ρ[i]? with
  | some (some s) => if s.nd = true then some (.ret s) else none
  | _ => none
end L3
namespace L3
open PySem
def dRevL : D → Option R
  | .lst ds => okL ds.reverse
  | _ => none
abbrev Tb := List (List Int × Int)
def getI (kvs : Tb) (k : List Int) : Option Int := (kvs.find? fun p => decide (p.1 = k)).map (·.2)
def putI (kvs : Tb) (k : List Int) (v : Int) : Tb :=
  if (kvs.any fun p => decide (p.1 = k)) = true then kvs.map (fun p => if p.1 = k then (p.1, v) else p) else kvs ++ [(k, v)]
def ownT (i : Nat) (ρ : MEnv) : Option Tb := match ρ[i]? with
  | some (some (.own (.dic kvs))) => some kvs
  | _ => none
def a2B (r : Option R) : Option (List Int) := match r with
  | some (.ok (.sh (.tup ds))) => intsOf ds
  | _ => none
def eGet (i : Nat) (g : ME) (z : Int) : ME := fun ρ => (ownT i ρ).bind fun kvs => (a2B (g ρ)).bind fun k => okI ((getI kvs k).getD z)
def sNewT (i : Nat) : MC := fun ρ => some (.next (ρ.set i (some (.own (.dic [])))))
def a3H (r : Option R) : Option Int := match r with
  | some (.ok (.sh (.int v))) => some v
  | _ => none
def sPutT (i : Nat) (gk ge : ME) : MC := fun ρ => (a3H (ge ρ)).bind fun v => (ownT i ρ).bind fun kvs => (a2B (gk ρ)).bind fun k => if kvs.length < lim then some (.next (ρ.set i (some (.own (.dic (putI kvs k v)))))) else none
theorem a3p : ∀ {ds : List D} {ks : List Int}, intsOf ds = some ks → ds = ks.map D.int
  | [], ks, h => by cases h; rfl
  | .int i :: r, ks, h => by
    have h : (intsOf r).map (i :: ·) = some ks := h
    cases e : intsOf r with
    | none => rw [e] at h; cases h
    | some l => rw [e] at h; cases h; rw [a3p e]; rfl
  | .non :: _, _, h => by cases h
  | .bl _ :: _, _, h => by cases h
  | .str _ :: _, _, h => by cases h
  | .tup _ :: _, _, h => by cases h
  | .lst _ :: _, _, h => by cases h
  | .fn _ _ :: _, _, h => by cases h
  | .obj _ _ _ :: _, _, h => by cases h
theorem a2K {r : Option R} {ks : List Int} (h : a2B r = some ks) : r = okD (.tup (ks.map D.int)) := by
  unfold a2B at h
  split at h
  · rw [a3p h]
  · cases h
theorem a4J {r : Option R} {v : Int} (h : a3H r = some v) : r = okI v := by
  unfold a3H at h
  split at h
  · cases h; rfl
  · cases h
theorem a2c (ks : List Int) : a2B (okD (.tup (ks.map D.int))) = some ks := by
  show intsOf (ks.map D.int) = some ks
  induction ks with
  | nil => rfl
  | cons a l ih => show (intsOf (l.map D.int)).map (a :: ·) = _; rw [ih]; rfl
end L3
namespace L3
open PySem
def O.core : O → O
  | .par _ o => o
  | o => o
def O.put : O → O → O
  | .par a _, o' => .par a o'
  | _, o' => o'
abbrev MF := O → List D → List D → Option (D × O)
def a3K (n a : Nat) (o : O) (ds es : List D) : MEnv := (a1I n (ds ++ .non :: es)).set ds.length (some (.own (.par a o)))
def outP (j a : Nat) : Option Out → Option (D × O)
  | some (.ret (.two d b o)) => if b = a then some (d, o) else none
  | some (.next ρ) => match ρ[j]? with
    | some (some (.own (.par b o))) => if b = a then some (.non, o) else none
    | _ => none
  | _ => none
open Classical in
noncomputable def fnP (j np n : Nat) (g : MC) : MF := fun o ds es => if ds.length = j ∧ j + 1 + es.length = np then (if h : ∃ r, ∀ a, outP j a (g (a3K n a o ds es)) = some r then some h.choose else none) else none
theorem a6l {j np n : Nat} {g : MC} {o : O} {ds es : List D} {r : D × O} (h : fnP j np n g o ds es = some r) : ds.length = j ∧ j + 1 + es.length = np ∧ ∀ a, outP j a (g (a3K n a o ds es)) = some r := by
  unfold fnP at h
  split at h
  · rename_i c
    split at h
    · rename_i x
      cases h
      exact ⟨c.1, c.2, x.choose_spec⟩
    · cases h
  · cases h
theorem fnP_e {j np n : Nat} {g : MC} {o : O} {ds es : List D} {r : D × O} (h1 : ds.length = j) (h2 : j + 1 + es.length = np) (h : ∀ a, outP j a (g (a3K n a o ds es)) = some r) : fnP j np n g o ds es = some r := by
  unfold fnP
  rw [if_pos ⟨h1, h2⟩]
  have x : ∃ r, ∀ a, outP j a (g (a3K n a o ds es)) = some r := ⟨r, h⟩
  rw [dif_pos x, ← h 0, x.choose_spec 0]
abbrev MP := MEnv → Option (D × MEnv)
def a3m (i : Nat) (F : MF) (gs hs : List ME) : MP := fun ρ => match ρ[i]? with
  | some (some (.own o)) => (a1r gs ρ).bind fun ds => (a1r hs ρ).bind fun es => (F o.core ds es).map fun p => (p.1, ρ.set i (some (.own (o.put p.2))))
  | _ => none
def mBin (f : D → D → Option R) (g : MP) (h : ME) : MP := fun ρ => (g ρ).bind fun p => match h p.2 with
  | some (.ok s) => (match f p.1 s.val with
    | some (.ok t) => some (t.val, p.2)
    | _ => none)
  | _ => none
def a4T (g : MP) : MC := fun ρ => (g ρ).map fun p => .next p.2
def a6x (i : Nat) (g : MP) : MC := fun ρ => (g ρ).map fun p => .next (p.2.set i (some (.sh p.1)))
def sRetP (j : Nat) (e : ME) : MC := fun ρ => a2Q (e ρ) fun s => match ρ[j]? with
  | some (some (.own (.par a o))) => some (.ret (.two s.val a o))
  | _ => none
def a4F (js : List Nat) (bd : MB) (elt : MP) : List D → MEnv → Option (List D × MEnv)
  | [], ρ => some ([], ρ)
  | d :: ds, ρ => match bd d ρ with
    | none => none
    | some ρ1 => (elt ρ1).bind fun p => (a4F js bd elt ds (a0q js p.2)).map fun q => (p.1 :: q.1, q.2)
def a7N (js : List Nat) (ρ : MEnv) : Bool := js.all fun j => match ρ[j]? with
  | some (some _) => false
  | _ => true
theorem a3y : ∀ (js : List Nat) (ρ : MEnv), a7N js ρ = true → a0q js ρ = ρ
  | [], ρ, _ => rfl
  | j :: js, ρ, h => by
    have h1 : ρ.set j none = ρ := by
      have := (List.all_eq_true.mp h) j List.mem_cons_self
      refine List.ext_getElem? fun k => ?_
      by_cases hk : j = k
      · subst hk
        by_cases hl : j < ρ.length
        · rw [List.getElem?_set_self hl]
          rw [List.getElem?_eq_getElem hl] at this ⊢
          cases z : ρ[j] with
          | none => rfl
          | some s => rw [z] at this; cases this
        · rw [List.getElem?_eq_none (by rw [List.length_set]; omega), List.getElem?_eq_none (by omega)]
      · rw [List.getElem?_set_ne hk]
    have h2 : a7N js ρ = true := List.all_eq_true.mpr fun x hx => (List.all_eq_true.mp h) x (List.mem_cons_of_mem _ hx)
    show a0q js (ρ.set j none) = ρ
    rw [h1]
    exact a3y js ρ h2
def a5L (js : List Nat) (it : MI) (bd : MB) (elt : MP) : MP := fun ρ => match it ρ with
  | some (.ok ds) => if ds.length ≤ lim ∧ a7N js ρ = true then (a4F js bd elt ds ρ).map fun p => (.lst p.1, p.2) else none
  | _ => none
def a2G (i : Nat) (ρ : MEnv) : Option (O × Tb) := match ρ[i]? with
  | some (some (.own o)) => (match o.core with
    | .dic kvs => some (o, kvs)
    | _ => none)
  | _ => none
theorem a2e {i : Nat} {ρ : MEnv} {o : O} {kvs : Tb} (h : a2G i ρ = some (o, kvs)) : ρ[i]? = some (some (.own o)) ∧ o.core = .dic kvs := by
  unfold a2G at h
  split at h
  · rename_i u hu
    split at h
    · rename_i k hk
      cases h
      exact ⟨hu, hk⟩
    · cases h
  · cases h
def eAt (i : Nat) (g : ME) : ME := fun ρ => (a2G i ρ).bind fun p => (a2B (g ρ)).bind fun k => (getI p.2 k).bind okI
def eHas (neg : Bool) (i : Nat) (g : ME) : ME := fun ρ => (a2G i ρ).bind fun p => (a2B (g ρ)).bind fun k => okB (neg != (getI p.2 k).isSome)
def a4S (i : Nat) (gk ge : ME) : MC := fun ρ => (a3H (ge ρ)).bind fun v => (a2G i ρ).bind fun p => (a2B (gk ρ)).bind fun k => if p.2.length < lim then some (.next (ρ.set i (some (.own (p.1.put (.dic (putI p.2 k v))))))) else none
def a7C (i : Nat) : ME := fun ρ => (a2G i ρ).bind fun p => okI p.2.length
def iKeys (i : Nat) : MI := fun ρ => (a2G i ρ).bind fun p => some (.ok (p.2.map fun q => D.tup (q.1.map D.int)))
end L3
namespace L3
open PySem
def maxL (z : Int) : List Int → Int
  | [] => z
  | [n] => n
  | n :: r => max n (maxL z r)
theorem a3S (z : Int) : ∀ ns : List Int, ns ≠ [] → maxL z ns ∈ ns ∧ ∀ a ∈ ns, a ≤ maxL z ns
  | [], h => absurd rfl h
  | [n], _ => ⟨List.mem_singleton.mpr rfl, fun a ha => by rw [List.mem_singleton.mp ha]; exact Int.le_refl _⟩
  | n :: m :: r, _ => by
    obtain ⟨h1, h2⟩ := a3S z (m :: r) (List.cons_ne_nil _ _)
    show max n (maxL z (m :: r)) ∈ _ ∧ ∀ a ∈ n :: m :: r, a ≤ max n (maxL z (m :: r))
    refine ⟨?_, fun a ha => ?_⟩
    · rcases Int.le_total n (maxL z (m :: r)) with h | h
      · rw [Int.max_eq_right h]; exact List.mem_cons_of_mem _ h1
      · rw [Int.max_eq_left h]; exact List.mem_cons_self
    · rcases List.mem_cons.mp ha with rfl | ha
      · exact Int.le_max_left _ _
      · exact Int.le_trans (h2 a ha) (Int.le_max_right _ _)
def a5R (z : Int) : D → Option R
  | .lst ds => (intsOf ds).bind fun ns => okI (maxL z ns)
  | _ => none
def a4E : D → Option R
  | .int i => if a20 i = true ∧ i.toNat ≤ lim then okL (rng 0 i) else none
  | _ => none
end L3
namespace L3
open PySem
def eFrz (i : Nat) (g : ME) : ME := fun ρ => (a2G i ρ).bind fun p => match g (ρ.set i (some (.own (.fdic p.2)))) with
  | some (.ok (.two _ _ _)) => none
  | r => r
def a3J (i : Nat) (ρ : MEnv) : Option Tb := match ρ[i]? with
  | some (some (.own (.fdic kvs))) => some kvs
  | _ => none
theorem a3I {i : Nat} {ρ : MEnv} {kvs : Tb} (h : a3J i ρ = some kvs) : ρ[i]? = some (some (.own (.fdic kvs))) := by
  unfold a3J at h
  split at h
  · rename_i k hk; cases h; exact hk
  · cases h
def eAtF (i : Nat) (g : ME) : ME := fun ρ => (a3J i ρ).bind fun kvs => (a2B (g ρ)).bind fun k => (getI kvs k).bind okI
def a3Z (i : Nat) (js : List Nat) (elt : ME) : ME := fun ρ => (a3J i ρ).bind fun kvs => if kvs.length ≤ lim then a1x (bTup js) a3c elt (a0q js ρ) (kvs.map fun p => D.tup (p.1.map D.int)) [] else none
end L3
namespace L2
open PySem PySem.Spec PyProof.Rows
section
variable {X : Cx} {tg : Expr}
def iSq (K : PySem.W.Frag) (tl : TE) : TI := fun σ H R => tl σ H fun x H1 => ∃ a, x = .ref a ∧ (((∃ xs, SqL K H1 a xs) ∧ R (Itl K a) H1) ∨ ((∃ xs, SqT K H1 a xs) ∧ R (Itt K a) H1))
theorem pi_seq {l : Expr} {tl : TE} (hl : PE X l tl) : PI X tg l (iSq X.K tl) := by
  intro pins s σ H R I h
  refine thn (hl pins s σ H _ I h) fun v s1 ⟨x, H1, I1, r1, a, e, q1⟩ => ?_
  subst e
  cases r1
  have f1 : ∀ b ∈ [s1.heap.objs.size], FpOk X pins H1 b := fun b hb => by
    rw [List.mem_singleton.mp hb]
    exact I1.fpOk (Nat.le_refl _) (I1.hok.fresh (Nat.le_refl _))
  rcases q1 with ⟨⟨xs, hq⟩, q⟩ | ⟨⟨xs, hq⟩, q⟩
  · obtain ⟨its, rv, p, hz⟩ := I1.list hq
    exact wpAny_pyIter_list p.isList ⟨s1.heap.objs.size, [s1.heap.objs.size], _, _, H1, rfl, I1.kept (t' := s1.toks) (fun b o e => Heap.get?_push_of_some _ e), turn_list a _, ⟨_, Heap.get?_push_size _ rfl, rfl, rfl⟩, f1, q⟩
  · obtain ⟨its, rv, p, hz⟩ := I1.tuple hq
    exact wpAny_pyIter_tuple (show s1.heap.IsTuple a its.toArray from p) ⟨s1.heap.objs.size, [s1.heap.objs.size], _, _, H1, rfl, I1.kept (t' := s1.toks) (fun b o e => Heap.get?_push_of_some _ e), turn_tuple a _, ⟨_, Heap.get?_push_size _ rfl, rfl, rfl⟩, f1, q⟩
end
def clOf (scope : Scope) (env : PySem.Env) : List (Str × Addr) := scope.names.foldl (fun cs x => if x.2 == .free then (x.1, (env.cells.lookup x.1).getD 0) :: cs else cs) []
def a0Y (sc psc : Scope) (vars : List Str) : Bool :=
  (sc.kind == .function) && sc.names.all fun y => (sc.names.lookup y.1 == some y.2) && (match y.2 with
    | .local => vars.contains y.1
    | .cell => false
    | .free => psc.names.lookup y.1 == some .cell || psc.names.lookup y.1 == some .free
    | _ => true)
def a2v (N vars : List Str) (js : List Nat) : Bool := (List.range N.length).all fun i => js.contains i || !(vars.contains (N.getD i (Str.ofString "")))
def a1e (js : List Nat) (σ : St) : St := js.foldl (fun σ j => σ.set j none) σ
theorem a00 (js : List Nat) : ∀ σ : St, (a1e js σ).length = σ.length := by
  induction js with
  | nil => intro σ; rfl
  | cons j js ih => intro σ; show (a1e js (σ.set j none)).length = _; rw [ih, List.length_set]
theorem a5M (js : List Nat) : ∀ (σ : St) (i : Nat) (v : V), (a1e js σ)[i]? = some (some v) → i ∉ js ∧ σ[i]? = some (some v) := by
  induction js with
  | nil => intro σ i v h; exact ⟨by simp, h⟩
  | cons j js ih =>
    intro σ i v h
    obtain ⟨h1, h2⟩ := ih (σ.set j none) i v h
    by_cases hj : j = i
    · subst hj
      by_cases hl : j < σ.length
      · rw [List.getElem?_set_self hl] at h2; cases h2
      · rw [List.getElem?_eq_none (by rw [List.length_set]; omega)] at h2; cases h2
    · rw [List.getElem?_set_ne hj] at h2
      exact ⟨by simp [h1, Ne.symm hj], h2⟩
section
variable {sc psc : Scope} {vars : List Str}
theorem a3G (h : a0Y sc psc vars = true) : sc.kind = .function := by
  unfold a0Y at h
  exact eq_of_beq (Bool.and_eq_true_iff.mp h).1
theorem a31 (h : a0Y sc psc vars = true) : ∀ y ∈ sc.names, sc.names.lookup y.1 = some y.2 ∧ (y.2 = .local → y.1 ∈ vars) ∧ y.2 ≠ .cell ∧ (y.2 = .free → psc.names.lookup y.1 = some .cell ∨ psc.names.lookup y.1 = some .free) := by
  intro y hy
  unfold a0Y at h
  have h2 := List.all_eq_true.mp (Bool.and_eq_true_iff.mp h).2 y hy
  obtain ⟨h3, h4⟩ := Bool.and_eq_true_iff.mp h2
  refine ⟨eq_of_beq h3, fun e => ?_, fun e => ?_, fun e => ?_⟩
  · rw [e] at h4; exact List.contains_iff_mem.mp h4
  · rw [e] at h4; cases h4
  · rw [e] at h4
    rcases Bool.or_eq_true_iff.mp h4 with z | z
    · exact .inl (eq_of_beq z)
    · exact .inr (eq_of_beq z)
theorem a1n {α β : Type} [BEq α] [LawfulBEq α] : ∀ {l : List (α × β)} {x : α} {v : β}, l.lookup x = some v → (x, v) ∈ l
  | [], _, _, h => by cases h
  | (y, w) :: l, x, v, h => by
    rw [List.lookup_cons] at h
    cases hb : x == y with
    | true =>
      rw [hb] at h
      cases h
      rw [eq_of_beq hb]
      exact List.mem_cons_self
    | false =>
      rw [hb] at h
      exact List.mem_cons_of_mem _ (a1n h)
end
theorem clOf_in (scope : Scope) (env : PySem.Env) : ∀ (l : List (Str × NameKind)) (acc : List (Str × Addr)), (∀ p ∈ acc, env.cells.lookup p.1 = some p.2) → (∀ y ∈ l, y.2 = .free → ∃ c, env.cells.lookup y.1 = some c) →
    ∀ p ∈ l.foldl (fun cs x => if x.2 == .free then (x.1, (env.cells.lookup x.1).getD 0) :: cs else cs) acc, env.cells.lookup p.1 = some p.2 := by
  intro l
  induction l with
  | nil => intro acc h _; exact h
  | cons y l ih =>
    intro acc h hf
    rw [List.foldl_cons]
    refine ih _ ?_ fun z hz => hf z (List.mem_cons_of_mem _ hz)
    split
    · rename_i hb
      intro p hp
      rcases List.mem_cons.mp hp with e | hp
      · obtain ⟨c, hc⟩ := hf y List.mem_cons_self (eq_of_beq hb)
        rw [e, hc]
        rfl
      · exact h p hp
    · exact h
theorem clOf_has (scope : Scope) (env : PySem.Env) : ∀ (l : List (Str × NameKind)) (acc : List (Str × Addr)) (x : Str), ((x, NameKind.free) ∈ l ∨ ∃ c, (x, c) ∈ acc) →
    ∃ c, (x, c) ∈ l.foldl (fun cs x => if x.2 == .free then (x.1, (env.cells.lookup x.1).getD 0) :: cs else cs) acc := by
  intro l
  induction l with
  | nil =>
    intro acc x h
    rcases h with h | h
    · cases h
    · exact h
  | cons y l ih =>
    intro acc x h
    rw [List.foldl_cons]
    refine ih _ x ?_
    rcases h with h | ⟨c, h⟩
    · rcases List.mem_cons.mp h with e | h
      · subst e
        exact .inr ⟨_, by rw [if_pos (by rfl)]; exact List.mem_cons_self⟩
      · exact .inl h
    · refine .inr ⟨c, ?_⟩
      split
      · exact List.mem_cons_of_mem _ h
      · exact h
theorem a3b {scope : Scope} {env : PySem.Env} (hf : ∀ y ∈ scope.names, y.2 = .free → ∃ c, env.cells.lookup y.1 = some c) : closureFor scope env = pure (clOf scope env) := by
  have go : ∀ (l : List (Str × NameKind)) (acc : List (Str × Addr)), (∀ y ∈ l, y.2 = .free → ∃ c, env.cells.lookup y.1 = some c) →
      (forIn l acc fun x cs => do
        if x.2 == .free then pure (ForInStep.yield ((x.1, ← cellOf env x.1) :: cs)) else pure (ForInStep.yield cs) : Sem (List (Str × Addr))) =
      pure (l.foldl (fun cs x => if x.2 == .free then (x.1, (env.cells.lookup x.1).getD 0) :: cs else cs) acc) := by
    intro l
    induction l with
    | nil => intro acc _; rfl
    | cons y l ih =>
      intro acc h
      rw [List.forIn_cons, List.foldl_cons]
      cases hb : y.2 == NameKind.free with
      | true =>
        obtain ⟨c, hc⟩ := h y List.mem_cons_self (eq_of_beq hb)
        have e1 : cellOf env y.1 = pure c := by unfold cellOf; rw [hc]
        simp only [if_true, e1, pure_bind, hc, Option.getD_some]
        exact ih _ fun z hz => h z (List.mem_cons_of_mem _ hz)
      | false =>
        simp only [Bool.false_eq_true, if_false, pure_bind]
        exact ih _ fun z hz => h z (List.mem_cons_of_mem _ hz)
  have := go scope.names [] hf
  unfold closureFor
  simpa [clOf] using this
end L2
namespace L2
open PySem PySem.Spec PyProof.Rows
def a01 (X : Cx) (scope : Scope) (fp : List Addr) (s : Shared) (H : Hp) (C : Addr) : Cx :=
  { X with s₀ := s, H₀ := H, env := compEnvC scope (clOf scope X.env) C X.env, outer := X.stack, ex := fp, fn := fun _ => false, pn := [], xe := fun _ _ => False }
theorem a3T (f : Str → NameKind → NameKind) : ∀ (l : List (Str × NameKind)) (x : Str), (l.map fun y => (y.1, f y.1 y.2)).lookup x = (l.lookup x).map (f x)
  | [], _ => rfl
  | (n, k) :: l, x => by
    rw [List.map_cons, List.lookup_cons, List.lookup_cons]
    cases hb : x == n with
    | true => rw [eq_of_beq hb]; rfl
    | false => exact a3T f l x
theorem a2S (scope : Scope) (env : PySem.Env) (x : Str) : (relabel scope env).names.lookup x = (scope.names.lookup x).map fun k => if (k == NameKind.free && env.scope.kind == .function && env.kindOf x == some .cell) = true then NameKind.cell else k := by
  rw [← a3T (fun n k => if (k == NameKind.free && env.scope.kind == .function && env.kindOf n == some .cell) = true then NameKind.cell else k)]
  unfold relabel
  dsimp only
  congr 1
  refine List.map_congr_left fun y _ => ?_
  obtain ⟨n, k⟩ := y
  dsimp only
  split <;> rfl
theorem a2x {scope psc : Scope} {env : PySem.Env} {vars : List Str} {x : Str} (hc : a0Y scope psc vars = true) (h : (relabel scope env).names.lookup x = some .cell ∨ (relabel scope env).names.lookup x = some .free) : scope.names.lookup x = some .free := by
  rw [a2S] at h
  cases hl : scope.names.lookup x with
  | none => rw [hl] at h; simp at h
  | some k =>
    obtain ⟨_, h2, h3, _⟩ := a31 hc _ (a1n hl)
    rw [hl] at h
    cases k with
    | free => rfl
    | cell => exact absurd rfl h3
    | _ => simp at h
theorem a5s {scope psc : Scope} {env : PySem.Env} {vars : List Str} {x : Str} (hc : a0Y scope psc vars = true) (h : Vis (relabel scope env) x) :
    (x ∈ vars) ∨ (scope.names.lookup x = some .free ∧ ((relabel scope env).names.lookup x = some .cell ∨ (relabel scope env).names.lookup x = some .free)) := by
  rcases h with h | h | h
  · rw [a2S] at h
    cases hl : scope.names.lookup x with
    | none => rw [hl] at h; simp at h
    | some k =>
      obtain ⟨_, h2, h3, _⟩ := a31 hc _ (a1n hl)
      rw [hl] at h
      cases k with
      | «local» => exact .inl (h2 rfl)
      | cell => exact absurd rfl h3
      | free =>
        simp only [Option.map_some] at h
        split at h <;> simp at h
      | _ => simp at h
  · exact .inr ⟨a2x hc (.inl h), .inl h⟩
  · exact .inr ⟨a2x hc (.inr h), .inr h⟩
theorem a5T {scope psc : Scope} {env : PySem.Env} {vars : List Str} (hc : a0Y scope psc vars = true) (hf : ∀ y ∈ scope.names, y.2 = .free → ∃ c, env.cells.lookup y.1 = some c) :
    (∀ x c, (clOf scope env).lookup x = some c → env.cells.lookup x = some c) ∧ ∀ x, scope.names.lookup x = some .free → ∃ c, (clOf scope env).lookup x = some c ∧ env.cells.lookup x = some c := by
  have h1 : ∀ x c, (clOf scope env).lookup x = some c → env.cells.lookup x = some c := fun x c e => clOf_in scope env scope.names [] (fun _ z => nomatch z) hf (x, c) (a1n e)
  refine ⟨h1, fun x e => ?_⟩
  obtain ⟨c, hm⟩ := clOf_has scope env scope.names [] x (.inl (a1n e))
  cases q : (clOf scope env).lookup x with
  | some d => exact ⟨d, rfl, h1 x d q⟩
  | none =>
    have := List.lookup_eq_none_iff.mp q _ hm
    simp at this
section
variable {X : Cx} {pins : List (Addr × Obj)} {σ : St} {H : Hp} {s : Shared} {scope : Scope} {vars : List Str} {js : List Nat} {fp : List Addr} {C : Addr} {h₁ : Heap} {tk : Nat}
theorem a30 (I : Inv X pins σ H s) (hc : a0Y scope X.env.scope vars = true) : ∀ y ∈ scope.names, y.2 = .free → ∃ c, X.env.cells.lookup y.1 = some c := fun y hy e => by
  obtain ⟨_, _, _, h⟩ := a31 hc y hy
  exact I.ok.has y.1 (h e)
theorem inv_comp (I : Inv X pins σ H s) (hc : a0Y scope X.env.scope vars = true) (hj : a2v X.N vars js = true) (hC : C = s.heap.objs.size) (hfp : ∀ b ∈ fp, FpOk X pins H b) (hfo : ∀ b ∈ fp, b < s.heap.objs.size)
    {m : Str → Option Value} (hns : h₁.Ns C m) (keep : ∀ b o, s.heap.get? b = some o → h₁.get? b = some o) :
    Inv (a01 X scope fp s H C) [] (a1e js σ) H { s with heap := h₁, toks := tk } := by
  have hf := a30 I hc
  obtain ⟨cl1, cl2⟩ := a5T hc hf
  have ok : (a01 X scope fp s H C).Ok := by
    refine ⟨I.ok.mod, ?_, I.ok.glob, I.ok.blt, Nat.le_of_eq hC.symm, fun x y c h1 h2 => I.ok.inj x y c (cl1 x c h1) (cl1 y c h2), fun x hx => ?_, (fun x c z => nomatch z), I.ok.hd, I.ok.frames, Or.inl rfl, fun b hb => ?_, I.bs, Nat.le_trans I.ok.bsz I.sz, fun b o e hb => ?_, fun b hb z => ?_, I.stack, I.stkFree⟩
    · show scope.kind = .function
      exact a3G hc
    · obtain ⟨c, z, _⟩ := cl2 x (a2x hc hx)
      exact ⟨c, z⟩
    · obtain ⟨_, _, _, _, f4, _⟩ := hfp b hb
      refine ⟨fun z => ?_, fun x c e => f4 x c (cl1 x c e)⟩
      have h1 := hfo b hb
      have h2 : b = C := z
      rw [h2, hC] at h1
      exact Nat.lt_irrefl _ h1
    · obtain ⟨_, _, _, f3, _⟩ := hfp b hb
      rcases f3 with z | z
      · exact I.ok.noex b o e z
      · exact absurd (Nat.lt_of_lt_of_le (Heap.lt_size (I.ok.bs b o e).1) z) (Nat.lt_irrefl _)
    · obtain ⟨_, f1, f2, _⟩ := hfp b hb
      rcases List.mem_cons.mp (I.stkSub b z) with e | e
      · exact f1 e
      · exact f2 e
  refine ⟨ok, rfl, I.bare, Un.kept keep, ⟨m, hns, fun i x v e1 e2 e3 => ?_⟩, fun x c e => ?_, ?_, fun x c e => I.freeC x c (cl1 x c e), (fun p hp => nomatch hp), I.hok.kept keep, ?_⟩
  · obtain ⟨nj, e2⟩ := a5M js σ i v e2
    rcases a5s hc e3 with hm | ⟨ef, hk⟩
    · exfalso
      have hi : i < X.N.length := (List.getElem?_eq_some_iff.mp e1).1
      have hq := List.all_eq_true.mp hj i (List.mem_range.mpr hi)
      rcases Bool.or_eq_true_iff.mp hq with z | z
      · exact nj (List.contains_iff_mem.mp z)
      · rw [List.getD_eq_getElem?_getD, show X.N[i]? = some x from e1] at z
        have hm' : vars.contains x = true := List.contains_iff_mem.mpr hm
        rw [Option.getD_some, hm'] at z
        cases z
    · obtain ⟨c, z1, z2⟩ := cl2 x ef
      obtain ⟨m0, _, hl⟩ := I.loc
      obtain ⟨_, _, _, hp⟩ := a31 hc _ (a1n ef)
      have hv : Vis X.env.scope x := (hp rfl).elim (fun z => .inr (.inl z)) fun z => .inr (.inr z)
      obtain ⟨u, r, l⟩ := hl i x v e1 e2 hv
      refine ⟨u, r, .inr ⟨hk, c, z1, ?_⟩⟩
      rcases l with ⟨k, _⟩ | ⟨_, c', e, q⟩
      · have k' : X.env.scope.names.lookup x = some .local := k
        rcases hp rfl with z | z
        · have z' : X.env.scope.names.lookup x = some .cell := z
          rw [k'] at z'; cases z'
        · have z' : X.env.scope.names.lookup x = some .free := z
          rw [k'] at z'; cases z'
      · rw [z2] at e
        cases e
        obtain ⟨o, ho, hd⟩ := q
        exact ⟨o, keep _ o ho, hd⟩
  · obtain ⟨v, o, ho, hd⟩ := I.cell x c (cl1 x c e)
    exact ⟨v, o, keep _ o ho, hd⟩
  · exact I.hok.fresh (Nat.le_of_eq hC.symm)
  · rw [a00]
    exact I.len
end
abbrev Fl : Value → Shared → Prop := fun _ _ => False
theorem fl {α : Type} {M : Model} {A : Around} {t : Sem α} {Q Q' : α → Shared → Prop} {E : Value → Shared → Prop} {s : Shared} (h : wpAny M A t Q Fl s) (k : ∀ a s, Q a s → Q' a s) : wpAny M A t Q' E s := wpAny_mono h k fun _ _ z => z.elim
def a7L (ifs : List Expr) (env : PySem.Env) : Sem Bool := forIn ifs true fun c r => if r = true then do let ok ← isTrue c env (eval c env); pure (ForInStep.yield ok) else pure (ForInStep.yield r)
theorem a7K {prog : Program} {w : World} {A : Around} {R : Result → Shared → Prop} {s : Shared} {elt target iter : Expr} {ifs : List Expr} {scope : Scope} {pos : Pos} {it acc : Value} {env : PySem.Env} (Iv : Nat → Shared → Prop)
    (turn : ∀ n s, Iv n s → wpAny (model prog w) A (pyNext it) (fun r s₁ => match r with
      | none => R (.ok .next) s₁
      | some v => wpAny (model prog w) A (letOwnedTupleGo target it v) (fun _ s₂ => wpAny (model prog w) A (assign target env v) (fun _ s₃ => wpAny (model prog w) A (a7L ifs env) (fun ok s₄ =>
          if ok = true then wpAny (model prog w) A (eval elt env) (fun x s₅ => wpAny (model prog w) A (call (.builtin "list.append") [acc, x]) (fun _ s₆ => ∃ m, m < n ∧ Iv m s₆) Fl s₅) Fl s₄
          else ∃ m, m < n ∧ Iv m s₄) Fl s₃) Fl s₂) Fl s₁) Fl s)
    (n : Nat) (h : Iv n s) : codeAny (model prog w) A (.compLoop (.ListComp elt [⟨target, iter, ifs, 0⟩] scope pos) 0 it acc env) R s := by
  refine codeAny_loop rfl Iv (fun n s hI => ?_) n h
  show wpAny _ A ((compTurn (.ListComp elt [⟨target, iter, ifs, 0⟩] scope pos) 0 it acc env).onRaise _) _ _ s
  refine wpAny_noted ?_
  rw [compTurn_list]
  refine wpAny_bind (wpAny_standAt (wpAny_bind (fl (turn n s hI) fun r s₁ h₁ => ?_)))
  cases r with
  | none => exact wpAny_pure h₁
  | some v =>
    refine wpAny_bind (fl h₁ fun _ s₂ h₂ => wpAny_bind (fl h₂ fun _ s₃ h₃ => wpAny_bind (fl h₃ fun ok s₄ h₄ => ?_)))
    cases ok with
    | false => exact wpAny_pure ⟨rfl, h₄⟩
    | true => exact wpAny_bind (wpAny_bind (fl h₄ fun x s₅ h₅ => wpAny_bind (fl h₅ fun _ s₆ h₆ => wpAny_pure (wpAny_pure ⟨rfl, h₆⟩))))
def PIf (X : Cx) (ifs : List Expr) (t : TT) : Prop := ∀ (pins : List (Addr × Obj)) (s : Shared) (σ : St) (H : Hp) (Q : Bool → Hp → Prop), Inv X pins σ H s → t σ H Q → wpAny (model X.prog X.w) X.A (a7L ifs X.env) (TP X pins σ Q) X.xe s
def a6u : TT := fun _ H Q => Q true H
theorem a5v {X : Cx} : PIf X [] a6u := fun pins s σ H Q I h => wpAny_tests_nil ⟨H, I, h⟩
theorem pif_one {X : Cx} {c : Expr} {t : TT} (h : PT X c t) : PIf X [c] t := fun pins s σ H Q I q => wpAny_tests_one (h pins s σ H Q I q)
def CompW (J : It) (g : TG) (tt : TT) (te : TE) (a : Addr) (Q : VK) (W : Nat → Nat → St → List V → Hp → Prop) : Prop := ∀ i m σ ys H, W i m σ ys H → H a = some (.lst ys) ∧
  ((J.stop i H ∧ Q (.ref a) H) ∨ (J.go i H ∧ ∀ x H1, J.yld i H x H1 → g x σ H1 fun σ2 H2 => tt σ2 H2 fun b H3 =>
    if b = true then te σ2 H3 fun y H4 => H4 a = some (.lst ys) ∧ ys.length < sizeLine ∧ ∃ m', m' < m ∧ W (i + 1) m' σ2 (ys ++ [y]) (upd H4 a (.lst (ys ++ [y]))) else ∃ m', m' < m ∧ W (i + 1) m' σ2 ys H3))
def a67 (js : List Nat) (wi : TI) (g : TG) (tt : TT) (te : TE) : TE := fun σ H Q => wi σ H fun J H1 => ∀ a, H1 a = none → ∃ W, (∃ m, W 0 m (a1e js σ) [] (upd H1 a (.lst []))) ∧ CompW J g tt te a Q W
section
variable {X : Cx} {scope : Scope} {vars : List Str} {js : List Nat} {elt tg iter : Expr} {ifs : List Expr} {pos : Pos} {wi : TI} {g : TG} {tt : TT} {te : TE}
theorem a5f {pins : List (Addr × Obj)} {s : Shared} {σ : St} {H : Hp} {it : Addr} {fp : List Addr} {tn : Nat → Heap → Prop} {J : It} {Q : VK} {E : Value → Shared → Prop} {RR : Value → Addr → Result → Shared → Prop} (hc : a0Y scope X.env.scope vars = true) (hj : a2v X.N vars js = true) (hcalm : X.calm = true)
    (hg : ∀ fp s H C, PG (a01 X scope fp s H C) tg g) (ht : ∀ fp s H C, PIf (a01 X scope fp s H C) ifs tt) (he : ∀ fp s H C, PE (a01 X scope fp s H C) elt te)
    (I : Inv X pins σ H s) (T : Turn X.prog X.w X.K tg J fp it tn) (st : tn 0 s.heap) (hfp : ∀ b ∈ fp, FpOk X pins H b) (q : ∀ a, H a = none → ∃ W, (∃ m, W 0 m (a1e js σ) [] (upd H a (.lst []))) ∧ CompW J g tt te a Q W)
    (fin : ∀ a C H' s' m, Inv X pins σ H' s' → s'.heap.Ns C m → H' C = none → C ≠ X.env.locals → X.s₀.heap.objs.size ≤ C → (∀ x c, X.env.cells.lookup x = some c → c ≠ C) → (∀ p ∈ X.pn ++ pins, p.1 ≠ C) → Q (.ref a) H' → RR (.ref a) C (.ok .next) s') :
    wpAny (model X.prog X.w) X.A (newList []) (fun acc s₃ => wpAny (model X.prog X.w) X.A (newFunctionEnv scope X.env.globals (clOf scope X.env) [] X.env.qual none .none (some X.env)) (fun cenv s₄ =>
      codeAny (model X.prog X.w) X.A (.compStart (.ListComp elt [⟨tg, iter, ifs, 0⟩] scope pos) 0 (.ref it) acc { cenv with scope := relabel scope X.env }) (RR acc cenv.locals) s₄) E s₃) E s := by
  have nocell : ∀ y ∈ scope.names, y.2 ≠ .cell := fun y hy => (a31 hc y hy).2.2.1
  refine wpAny_newObj_type (wpAny_newFunctionEnv nocell (by intro y hy; simp at hy) (fun h₁ hns hsb => ?_) (a3G hc))
  dsimp only at hns hsb ⊢
  generalize hA : s.heap.objs.size = a at *
  have fa : H a = none := by rw [← hA]; exact I.fresh
  obtain ⟨W, ⟨m0, w0⟩, hW⟩ := q a fa
  have I3 : Inv X pins σ (upd H a (.lst [])) { s with heap := s.heap.push { cls := .type "list", data := .seq ([] : List Value).toArray } } := by
    rw [← hA]
    exact I.lnew (t' := s.toks) (ys := []) (its := []) .nil (Nat.zero_le _)
  generalize hB : s.heap.push { cls := .type "list", dict := none, data := .seq ([] : List Value).toArray } = hp at *
  have szp : hp.objs.size = a + 1 := by rw [← hB, Heap.size_push, hA]
  have keep : ∀ b o, hp.get? b = some o → h₁.get? b = some o := fun b o e => (hsb.2 b (Nat.ne_of_lt (Heap.lt_size e))).trans (Heap.get?_push_of_some _ e)
  have up : ∀ b o, s.heap.get? b = some o → hp.get? b = some o := fun b o e => by rw [← hB]; exact Heap.get?_push_of_some _ e
  have lo : ∀ b ∈ fp, b < a := fun b hb => by
    obtain ⟨o, e, _⟩ := T.obj 0 _ st b hb
    rw [← hA]
    exact Heap.lt_size e
  have hfp3 : ∀ b ∈ fp, FpOk X pins (upd H a (.lst [])) b := fun b hb => ⟨by rw [upd_ne (Nat.ne_of_lt (lo b hb))]; exact (hfp b hb).1, (hfp b hb).2⟩
  have I4 := inv_comp (tk := s.toks + ([] : List (Str × Value)).length) I3 hc hj rfl hfp3 (fun b hb => by show b < hp.objs.size; rw [szp]; exact Nat.lt_succ_of_lt (lo b hb)) hns keep
  generalize hX : a01 X scope fp { s with heap := hp } (upd H a (.lst [])) hp.objs.size = X' at I4
  have eP : X'.prog = X.prog := by rw [← hX]; rfl
  have eW : X'.w = X.w := by rw [← hX]; rfl
  have eK : X'.K = X.K := by rw [← hX]; rfl
  have eA : X'.A = X.A := by rw [← hX]; rfl
  have eC : X'.calm = true := by rw [← hX]; exact hcalm
  have eL : X'.env.locals = hp.objs.size := by rw [← hX]; rfl
  have eE : X'.env = compEnvC scope (clOf scope X.env) hp.objs.size X.env := by rw [← hX]; rfl
  have eX : X'.ex = fp := by rw [← hX]; rfl
  have exe : X'.xe = Fl := by rw [← hX]; rfl
  have epn : X'.pn = [] := by rw [← hX]; rfl
  have hg' : PG X' tg g := by rw [← hX]; exact hg _ _ _ _
  have ht' : PIf X' ifs tt := by rw [← hX]; exact ht _ _ _ _
  have he' : PE X' elt te := by rw [← hX]; exact he _ _ _ _
  have stat : ∀ {H' : Hp}, (∀ b ∈ fp, H' b = none) → ∀ b ∈ fp, FpOk X' [] H' b := fun hn b hb => by
    have hb' : b ∈ X'.ex := by rw [eX]; exact hb
    exact ⟨hn b hb, (I4.ok.exf b hb').1, I4.ok.exfs b hb', .inl hb', (I4.ok.exf b hb').2, fun p hp => by rw [epn] at hp; cases hp⟩
  have back : ∀ {σ' : St} {H' : Hp} {s' : Shared}, Inv X' [] σ' H' s' → Q (.ref a) H' → RR (.ref a) hp.objs.size (.ok .next) s' := fun {σ' H' s'} J qf => by
    obtain ⟨m, hn, _⟩ := J.loc
    rw [eL] at hn
    have hfree := J.free
    rw [eL] at hfree
    have jos := J.os
    have jbase := J.base
    have jhok := J.hok
    rw [← hX] at jos jbase jhok
    refine fin a _ H' s' m (I3.call' (ch := fp) jos jbase jhok J.bare fun b hb => ⟨(hfp b hb).2.2.2.1, (hfp b hb).2.1, (hfp b hb).2.2.2.2.1, (hfp b hb).2.2.2.2.2⟩) hn hfree (Nat.ne_of_gt I3.lt) I3.sz (fun x c e z => ?_) (fun p hp' z => ?_) qf
    · obtain ⟨v, o, ho, _⟩ := I3.cell x c e
      have := Heap.lt_size ho
      rw [z] at this
      exact Nat.lt_irrefl _ this
    · have := Heap.lt_size (I3.pin p hp').1
      rw [z] at this
      exact Nat.lt_irrefl _ this
  have st1 : tn 0 h₁ := T.keep 0 _ _ st fun b hb o e => keep b o (up b o e)
  have loop : codeAny (model X.prog X.w) X.A (.compLoop (.ListComp elt [⟨tg, iter, ifs, 0⟩] scope pos) 0 (.ref it) (.ref a) X'.env) (RR (.ref a) hp.objs.size) { s with heap := h₁, toks := s.toks + ([] : List (Str × Value)).length } := by
    refine a7K (fun n s' => ∃ i σ' ys H', Inv X' [] σ' H' s' ∧ tn i s'.heap ∧ (∀ b ∈ fp, H' b = none) ∧ W i n σ' ys H') ?_ m0 ⟨0, _, [], _, I4, st1, fun b hb => (hfp3 b hb).1, w0⟩
    rintro n s3 ⟨i, σ3, ys, H3, J3, st3, fr3, w3⟩
    obtain ⟨ha, hw⟩ := hW i n σ3 ys H3 w3
    rcases hw with ⟨stop, qn⟩ | ⟨go, step⟩
    · have z := T.done X' eP eW eK eC i [] s3 σ3 H3 Fl J3 (stat fr3) st3 stop
      rw [eA] at z
      refine thn z fun r s4 ⟨hr, J4⟩ => ?_
      subst hr
      exact back J4 qn
    · have z := T.item X' eP eW eK eC i [] s3 σ3 H3 Fl J3 (stat fr3) st3 go
      rw [eA] at z
      refine thn z fun r s4 ⟨u, hr, h4⟩ => ?_
      subst hr
      refine thn h4 fun _ s5 ⟨x, H5, J5, r5, y5, st5, fr5⟩ => ?_
      have J5' := J5.pinned (stat fr5) (T.obj _ _ st5)
      have z5 := hg' _ s5 σ3 H5 x u _ J5' r5 (step x H5 y5)
      rw [eP, eW, eA, exe] at z5
      refine thn z5 fun _ s6 ⟨σ6, H6, J6, q6⟩ => ?_
      have z6 := ht' _ s6 σ6 H6 _ J6 q6
      rw [eP, eW, eA, exe] at z6
      refine thn z6 fun ok s7 ⟨H7, J7, q7⟩ => ?_
      have again : ∀ {σ8 : St} {H8 : Hp} {s8 : Shared} {ys8 : List V} {m' : Nat}, Inv X' ([] ++ pinsAt fp s5.heap) σ8 H8 s8 → m' < n → W (i + 1) m' σ8 ys8 H8 → ∃ m, m < n ∧ ∃ i σ' ys H', Inv X' [] σ' H' s8 ∧ tn i s8.heap ∧ (∀ b ∈ fp, H' b = none) ∧ W i m σ' ys H' := fun {σ8 H8 s8 ys8 m'} J8 hm w8 => by
        refine ⟨m', hm, i + 1, σ8, ys8, H8, J8.unpinned, T.keep _ _ _ st5 fun b hb o e => (J8.pin (b, o) (List.mem_append_right _ (List.mem_append_right _ (mem_pinsAt hb e)))).1, fun b hb => ?_, w8⟩
        obtain ⟨o, e, d⟩ := T.obj _ _ st5 b hb
        exact (J8.pin (b, o) (List.mem_append_right _ (List.mem_append_right _ (mem_pinsAt hb e)))).2.1
      cases ok with
      | false =>
        rw [if_neg Bool.false_ne_true] at q7 ⊢
        obtain ⟨m', hm, w7⟩ := q7
        exact again J7 hm w7
      | true =>
        rw [if_pos rfl] at q7 ⊢
        have z7 := he' _ s7 σ6 H7 _ J7 q7
        rw [eP, eW, eA, exe] at z7
        refine thn z7 fun v s8 ⟨y, H8, J8, r8, h8, hl8, m', hm, w8⟩ => ?_
        have z8 := mt_append _ s8 σ6 H8 (.ref a) [y] (.ref a) [v] (fun _ H9 => H9 = upd H8 a (.lst (ys ++ [y]))) J8 rfl (.cons r8 .nil) ⟨a, ys, y, rfl, rfl, h8, hl8, rfl⟩
        rw [eP, eW, eA, exe] at z8
        refine thn z8 fun _ s9 ⟨_, H9, J9, _, q9⟩ => ?_
        subst q9
        exact again J9 hm w8
  rw [eE] at loop
  exact codeAny_compStart_list loop (T.self _ 0 _ _ _ st1 loop)
theorem pe_comp (hc : a0Y scope X.env.scope vars = true) (hj : a2v X.N vars js = true) (hcalm : X.calm = true) (hi : PI X tg iter wi)
    (hg : ∀ fp s H C, PG (a01 X scope fp s H C) tg g) (ht : ∀ fp s H C, PIf (a01 X scope fp s H C) ifs tt) (he : ∀ fp s H C, PE (a01 X scope fp s H C) elt te) (hs : ∀ x, foldedSetIterable iter X.env x = pure x := by intro _; rfl) :
    PE X (.ListComp elt [⟨tg, iter, ifs, 0⟩] scope pos) (a67 js wi g tt te) := by
  intro pins s σ H Q I h
  rw [eval_ListComp]
  refine wpAny_comprehension_free (use := none) rfl hs (a3b (a30 I hc)) (a3G hc) (fun y hy e => by rw [(a31 hc y hy).1, e]) (thn (hi pins s σ H _ I h) fun v s1 h1 => thn h1 fun itv s2 h2 => ?_)
  obtain ⟨it, fp, tn, J, H2, e, I2, T, st2, f2, q⟩ := h2
  subst e
  refine a5f (RR := fun acc C => compPost (model X.prog X.w) X.A X.xe none (EP X pins σ Q) acc C) hc hj hcalm hg ht he I2 T st2 f2 q ?_
  intro a C H' s' m J' hn hC hL hS hcell hpin q'
  exact ⟨m, hn, fun h' sb => ⟨.ref a, H', J'.turned (t' := s'.toks) (fun b o hb e => (sb.2 b hb).trans e) hC hL (.inr hS) hcell hpin, rfl, q'⟩⟩
theorem a3i {i : Nat} {x : Str} {pos' spos : Pos} (hN : X.N.Nodup) (hi' : X.N[i]? = some x) (hx : Loc X.env.scope x) (hc : a0Y scope X.env.scope vars = true) (hj : a2v X.N vars js = true) (hcalm : X.calm = true) (hi : PI X tg iter wi)
    (hg : ∀ fp s H C, PG (a01 X scope fp s H C) tg g) (ht : ∀ fp s H C, PIf (a01 X scope fp s H C) ifs tt) (he : ∀ fp s H C, PE (a01 X scope fp s H C) elt te)
    (hsw : swapsWith (.ListComp elt [⟨tg, iter, ifs, 0⟩] scope pos) (some (.Name x pos')) spos.line X.env = pure true := by rfl) (hs : ∀ x, foldedSetIterable iter X.env x = pure x := by intro _; rfl)
    (hf : X.fn x = true ∨ X.env.scope.names.lookup x = some .local := by first | exact .inl rfl | exact .inr rfl | assumption) :
    PS X (.Assign [.Name x pos'] (.ListComp elt [⟨tg, iter, ifs, 0⟩] scope pos) spos) (tAsg (a67 js wi g tt te) (gName i)) := by
  intro pins s σ H D I h
  rw [exec_Assign_Name_used _ _ _ _ hsw]
  refine wpAny_bind (wpAny_standAt (wpAny_bind ?_))
  show wpAny _ X.A (do let _ ← comprehension (.ListComp elt [⟨tg, iter, ifs, 0⟩] scope pos) scope X.env _ (newList []) false (eval iter X.env) (some (assign (.Name x pos') X.env))) _ _ s
  refine wpAny_bind (wpAny_mono (wpAny_comprehension_free (use := some (assign (.Name x pos') X.env)) (Q := fun _ s' => SP X pins D .next s') rfl hs (a3b (a30 I hc)) (a3G hc) (fun y hy e => by rw [(a31 hc y hy).1, e])
    (thn (hi pins s σ H _ I h) fun v s1 h1 => thn h1 fun itv s2 h2 => ?_)) (fun _ s' hq => wpAny_pure (wpAny_pure hq)) fun _ _ e => e)
  obtain ⟨it, fp, tn, J, H2, e, I2, T, st2, f2, q⟩ := h2
  subst e
  refine a5f (RR := fun acc C => compPost (model X.prog X.w) X.A X.xe (some (assign (.Name x pos') X.env)) (fun _ s' => SP X pins D .next s') acc C) hc hj hcalm hg ht he I2 T st2 f2 q ?_
  intro a C H' s' m J' hn hC hL hS hcell hpin q'
  refine wpAny_assign_Name (store_ok2 J' hN hi' hx (v := .ref a) rfl (fun s'' J2 ⟨b, sb, hb⟩ => ?_) hf)
  have hCb : C ≠ b := by
    rcases hb with z | z
    · rw [z]; exact hL
    · exact (hcell x b z).symm
  exact ⟨m, hn.sameBut sb hCb, fun h' sb' => ⟨_, H', J2.turned (t' := s''.toks) (fun b o hb e => (sb'.2 b hb).trans e) hC hL (.inr hS) hcell hpin, q'⟩⟩
end
end L2
namespace L2
open PySem PySem.Spec PyProof.Rows
section
variable {X : Cx} {pins : List (Addr × Obj)} {σ : St} {H : Hp} {s : Shared} {l : Addr} {xs : List V}
def rCatR (K : PySem.W.Frag) : R2 := fun x y H Q => ∃ l b xs zs, x = .ref l ∧ y = .ref b ∧ SqL K H l xs ∧ SqL K H b zs ∧ xs.length + zs.length ≤ sizeLine ∧ ∀ p, H p = none → Q (.ref p) (upd H p (.lst (xs ++ zs)))
theorem op_catR : OpR X (binaryOp .Add) (rCatR X.K) := fun pins s σ H x y v u Q I rx ry ⟨l, b, xs, zs, ex, ey, hH, hB, hz, q⟩ => by
  subst ex ey
  cases rx
  cases ry
  obtain ⟨i1, r1, p1, _⟩ := I.list hH
  obtain ⟨i2, r2, p2, _⟩ := I.list hB
  obtain ⟨⟨c1, d1, t1, s1⟩, o1, k1, n1, g1⟩ := p1.isList
  obtain ⟨⟨c2, d2, t2, s2⟩, o2, k2, n2, g2⟩ := p2.isList
  simp only at k1 g1 k2 g2
  subst k1 g1 k2 g2
  have l1 := r1.length
  have l2 := r2.length
  have ea : i1.toArray ++ i2.toArray = (i1 ++ i2).toArray := by simp
  refine concat_meets ⟨_, o1, rfl⟩ ⟨_, o2, rfl⟩ noFill_list_add seq_list_add PySem.F.slot_list_add PySem.F.entry_list_add (PySem.F.args_list_add_2 _ _) (list_addW l b _ _ n1 n2 d1 d2 s1 s2 (by rw [List.size_toArray, List.size_toArray, ← l1, ← l2]; exact hz)) ⟨o1, o2, ?_⟩
  rw [ea]
  exact ⟨.ref _, _, I.lnew (t' := s.toks) (r1.append r2) (by rw [List.length_append]; exact hz), rfl, q _ I.fresh⟩
theorem op_catT0 : OpR X (binaryOp .Add) (fun x y H Q => ∃ a b ys, x = .ref a ∧ y = .ref b ∧ SqT X.K H a [] ∧ SqT X.K H b ys ∧ Q (.ref b) H) := fun pins s σ H x y v u Q I rx ry ⟨a, b, ys, ex, ey, ha, hb, q⟩ => by
  subst ex ey
  cases rx
  cases ry
  obtain ⟨i1, r1, ⟨⟨c1, d1, t1, s1⟩, o1, k1, n1, g1⟩, _⟩ := I.tuple ha
  obtain ⟨i2, r2, ⟨⟨c2, d2, t2, s2⟩, o2, k2, n2, g2⟩, _⟩ := I.tuple hb
  cases r1
  simp only at k1 g1 k2 g2
  subst k1 g1 k2 g2
  exact concat_meets ⟨_, o1, rfl⟩ ⟨_, o2, rfl⟩ noFill_tuple_add seq_tuple_add PySem.F.slot_tuple_add PySem.F.entry_tuple_add (PySem.F.args_tuple_add_2 _ _)
    (tuple_addW0 a b _ _ n1 n2 d1 d2 s1 s2 (by rfl)) ⟨o1, o2, ⟨.ref b, H, I, rfl, q⟩⟩
theorem a60 : ∀ {xs : List V} {us : List Value}, xs.length = us.length → (∀ (i : Nat) x u, xs[i]? = some x → us[i]? = some u → RelV x u) → Vals xs us
  | [], [], _, _ => .nil
  | x :: xs, u :: us, hl, h => .cons (h 0 x u rfl rfl) (a60 (by simpa using hl) fun i x' u' e1 e2 => h (i + 1) x' u' (by simpa using e1) (by simpa using e2))
  | [], _ :: _, hl, _ => by simp at hl
  | _ :: _, [], hl, _ => by simp at hl
theorem vals_rng {lo : Int} {acc : Array Value} {n : Nat} (h : ItemsOf (fun i v => ∃ t, v = .int (lo + i * 1) t) acc n) : Vals ((List.range n).map fun k : Nat => V.int (lo + k)) acc.toList := by
  refine a60 (by rw [List.length_map, List.length_range, ← h.1, Array.length_toList]) fun i x u e1 e2 => ?_
  obtain ⟨t, rfl⟩ := h.2 i u (by rw [← Array.getElem?_toList]; exact e2)
  rw [List.getElem?_map] at e1
  cases q : (List.range n)[i]? with
  | none => rw [q] at e1; cases e1
  | some k =>
    rw [q] at e1
    cases e1
    have hk : i < n := by
      have := (List.getElem?_eq_some_iff.mp q).1
      rwa [List.length_range] at this
    rw [List.getElem?_range hk] at q
    cases q
    exact ⟨t, by rw [Int.mul_one]⟩
theorem a5h (hc : X.calm = true) : CallR X (.type "list") (fun xs H Q => ∃ p lo hi, xs = [.ref p] ∧ H p = some (.rng lo hi) ∧ (-(2 ^ 62) ≤ lo ∧ lo < 2 ^ 62 ∧ -(2 ^ 62) ≤ hi ∧ hi < 2 ^ 62) ∧ (hi - lo).toNat ≤ sizeLine ∧
    ∀ l, H l = none → Q (.ref l) (upd H l (.lst ((List.range (hi - lo).toNat).map fun k : Nat => V.int (lo + k))))) := fun pins s σ H xs us Q I r ⟨p, lo, hi, ex, hp, ⟨b1, b2, b3, b4⟩, hz, q⟩ => by
  subst ex
  obtain ⟨u, rfl, ru⟩ := vals1 r
  cases ru
  obtain ⟨t, u, v, e⟩ := I.hok p _ hp
  refine call_list_range (n := (hi - lo).toNat) (I.ok.hd hc) (show IsRange s.heap p lo hi 1 t u v from e) (small_one b1 b2 b3 b4) (by rw [rangeSize_one]; split <;> omega) hz fun h' tk acc c kp e' it => ?_
  exact ⟨.ref s.heap.objs.size, _, I.laid (t' := tk) (o := .lst ((List.range (hi - lo).toNat).map fun k : Nat => V.int (lo + k))) kp (Nat.le_refl _) ⟨by rw [List.length_map, List.length_range]; exact hz, acc.toList, c, vals_rng it, by simpa using e'⟩, rfl, q _ I.fresh⟩
theorem a6T {x : V} {u : Value} {t : String} {T : String} {b : Bool} (I : Inv X pins σ H s) (rx : RelV x u) (ty : TyOf X.K H x (.type t) ∨ (t = "tuple" ∧ ∃ a xs, x = .ref a ∧ SqT X.K H a xs) ∨ (t = "list" ∧ ∃ a xs, x = .ref a ∧ SqL X.K H a xs)) (e : PySem.W.kitOne X.K (.type t) (.type T) = some b) {Q : Value → Shared → Prop} {E : Value → Shared → Prop} {A : Around}
    (h : ∀ tk, Q (.bool b) { s with toks := tk }) : wpAny (model X.prog X.w) A (call (.builtin "isinstance") [u, .type T]) Q E s := by
  rcases ty with ty | ⟨rfl, a, xs, rfl, hq⟩ | ⟨rfl, a, xs, rfl, hq⟩
  · exact isinst_ok I rx ty e h
  · cases (show u = Value.ref a from rx)
    obtain ⟨its, _, ⟨o, h1, h2, _⟩, _⟩ := I.tuple hq
    exact PySem.W.kia_one PySem.W.kitx_tuple I.kIn ⟨o, h1, h2⟩ e (fun z => nomatch z) h
  · cases (show u = Value.ref a from rx)
    obtain ⟨its, _, pl, _⟩ := I.list hq
    obtain ⟨o, h1, h2, _⟩ := pl.isList
    exact PySem.W.kia_one PySem.W.kitx_list I.kIn ⟨o, h1, h2⟩ e (fun z => nomatch z) h
theorem a5U : CallR X (.builtin "isinstance") (fun xs H Q => ∃ x t T b, xs = [x, .ty T] ∧ (TyOf X.K H x (.type t) ∨ (t = "tuple" ∧ ∃ a xs, x = .ref a ∧ SqT X.K H a xs) ∨ (t = "list" ∧ ∃ a xs, x = .ref a ∧ SqL X.K H a xs)) ∧ PySem.W.kitOne X.K (.type t) (.type T) = some b ∧ Q (.bl b) H) := fun pins s σ H xs us Q I r ⟨x, t, T, b, ex, ty, e, q⟩ => by
  subst ex
  obtain ⟨u, w, rfl, ru, rw'⟩ := vals2 r
  cases (show w = Value.type T from rw')
  exact a6T I ru ty e fun tk => ⟨.bl b, H, I.tok tk, rfl, q⟩
end
end L2
namespace L2
open PySem PySem.Spec PyProof.Rows
section
variable {prog : Program} {w : World} {A : Around} {E : Value → Shared → Prop} {s : Shared}
end
structure Nx (prog : Program) (w : World) (A : Around) (it l : Addr) (st : Nat → Heap → Prop) (val : Nat → Option Value) : Prop where
  item : ∀ (s : Shared) (k : Nat) (x : Value) (Q : Value → Shared → Prop) (E : Value → Shared → Prop), st k s.heap → val k = some x → (∀ h', st (k + 1) h' → Heap.SameBut it s.heap h' → Q x { s with heap := h' }) → wpAny (model prog w) A (Builtin.SmallTypes.nextOf (.ref it)) Q E s
  stop : ∀ (s : Shared) (k : Nat) (Q : Value → Shared → Prop) (E : Value → Shared → Prop), st k s.heap → val k = none →
    (∀ h' e, Heap.ExtBut it s.heap h' → (∃ o, h'.get? e = some o ∧ o.cls = .type "StopIteration") → E (.ref e) { s with heap := h' }) → wpAny (model prog w) A (Builtin.SmallTypes.nextOf (.ref it)) Q E s
  ext : ∀ (k : Nat) (h h' : Heap), st k h → (∀ b, b = it ∨ b = l → ∀ o, h.get? b = some o → h'.get? b = some o) → st k h'
  there : ∀ (k : Nat) (h : Heap), st k h → (∃ o, h.get? it = some o ∧ ∀ v, o.data ≠ .cell v) ∧ ∃ o, h.get? l = some o
section
variable {prog : Program} {w : World} {A : Around} {E : Value → Shared → Prop} {s : Shared} {z TI TO i1 i2 l1 l2 : Addr} {k : Nat} {st1 st2 : Nat → Heap → Prop} {v1 v2 : Nat → Option Value} {a b : Value}
end
end L2
namespace L2
open PySem PySem.Spec PyProof.Rows
section
variable {X : Cx} {pins : List (Addr × Obj)} {σ : St} {H : Hp} {s : Shared} {h' : Heap}
end
def SqX (K : PySem.W.Frag) (H : Hp) : Bool → Addr → List V → Prop
  | true, a, xs => SqL K H a xs
  | false, a, xs => SqT K H a xs
def itX (h : Heap) : Bool → Addr → Addr → Nat → Prop
  | true, it, l, k => h.IsListIter it l k
  | false, it, l, k => h.IsTupleIter it l k
def isX (h : Heap) : Bool → Addr → Array Value → Prop
  | true, l, its => h.IsList l its
  | false, l, its => h.IsTuple l its
def Itz (K : PySem.W.Frag) (b1 : Bool) (l1 : Addr) (b2 : Bool) (l2 : Addr) : It :=
  ⟨fun i H => ∃ xs ys x y, SqX K H b1 l1 xs ∧ SqX K H b2 l2 ys ∧ xs[i]? = some x ∧ ys[i]? = some y,
   fun i H x H' => ∃ p u v, x = .ref p ∧ H p = none ∧ H' = upd H p (.tup [u, v]) ∧ (∀ xs, SqX K H b1 l1 xs → xs[i]? = some u) ∧ ∀ ys, SqX K H b2 l2 ys → ys[i]? = some v,
   fun i H => ∃ xs ys, SqX K H b1 l1 xs ∧ SqX K H b2 l2 ys ∧ (xs.length ≤ i ∨ ys.length ≤ i)⟩
abbrev zt1 (h : Heap) (l1 : Addr) : Heap := h.push { cls := .type "tuple_iterator", data := .fields #[.ref l1, .int 0 0] }
abbrev zt2 (h : Heap) (l1 l2 : Addr) : Heap := (zt1 h l1).push { cls := .type "tuple_iterator", data := .fields #[.ref l2, .int 0 0] }
abbrev zt3 (h : Heap) (l1 l2 : Addr) : Heap := (zt2 h l1 l2).push { cls := .type "tuple", data := .seq #[.ref h.objs.size, .ref (zt1 h l1).objs.size] }
abbrev zt4 (h : Heap) (l1 l2 : Addr) : Heap := (zt3 h l1 l2).push { cls := .type "tuple", data := .seq #[.none, .none] }
abbrev zt5 (h : Heap) (l1 l2 : Addr) : Heap := (zt4 h l1 l2).push { cls := .type "zip", data := .fields #[.none, .bool false, .bool false, .ref (zt2 h l1 l2).objs.size, .ref (zt3 h l1 l2).objs.size] }
section
variable {prog : Program} {w : World} {A : Around} {E : Value → Shared → Prop} {s : Shared}
end
section
variable {X : Cx}
def iZipX (K : PySem.W.Frag) (ta : TA) : TI := fun σ H R => ta σ H fun vs H1 => ∃ b l1 l2, vs = [.ref l1, .ref l2] ∧ (∃ xs, SqX K H1 b l1 xs) ∧ (∃ ys, SqX K H1 b l2 ys) ∧ R (Itz K b l1 b l2) H1
end
end L2
namespace L2
open PySem PySem.Spec PyProof.Rows
def Ite (K : PySem.W.Frag) (b : Bool) (l : Addr) : It :=
  ⟨fun i H => ∃ xs x, SqX K H b l xs ∧ xs[i]? = some x,
   fun i H x H' => ∃ p u, x = .ref p ∧ H p = none ∧ H' = upd H p (.tup [.int i, u]) ∧ ∀ xs, SqX K H b l xs → xs[i]? = some u,
   fun i H => ∃ xs, SqX K H b l xs ∧ xs.length ≤ i⟩
abbrev et1 (h : Heap) (l : Addr) : Heap := h.push { cls := .type "tuple_iterator", data := .fields #[.ref l, .int 0 0] }
abbrev et2 (h : Heap) (l : Addr) : Heap := (et1 h l).push { cls := .type "enumerate", data := .fields #[.none, .bool false, .ref h.objs.size, rawInt 0, .none, .none] }
section
variable {prog : Program} {w : World} {A : Around} {E : Value → Shared → Prop} {s : Shared}
end
section
variable {X : Cx}
def iEnumX (K : PySem.W.Frag) (ta : TA) : TI := fun σ H R => ta σ H fun vs H1 => ∃ b l, vs = [.ref l] ∧ (∃ xs, SqX K H1 b l xs) ∧ R (Ite K b l) H1
end
end L2
namespace L2
open PySem
abbrev Rise (xs : Array Nat) : Prop := xs.toList.Pairwise (· < ·)
theorem a5p {xs : Array Nat} (h : Rise xs) {i k : Nat} (hik : i < k) (hk : k < xs.size) : xs[i]'(by omega) < xs[k] := by
  have := List.pairwise_iff_getElem.mp h i k (by simpa using (by omega : i < xs.size)) (by simpa using hk) hik
  simpa using this
theorem a4H {xs : Array Nat} (h : Rise xs) (j : Nat) : ∀ (fuel lo hi : Nat), lo ≤ hi → hi ≤ xs.size → hi - lo ≤ fuel → (∀ i (hi' : i < xs.size), i < lo → xs[i] < j) → (∀ i (hi' : i < xs.size), hi ≤ i → j ≤ xs[i]) →
    SetTable.below.go xs j fuel lo hi ≤ xs.size ∧ (∀ i (hi' : i < xs.size), i < SetTable.below.go xs j fuel lo hi → xs[i] < j) ∧ ∀ i (hi' : i < xs.size), SetTable.below.go xs j fuel lo hi ≤ i → j ≤ xs[i]
  | 0, lo, hi, h1, h2, h3, h4, h5 => by
    have e : lo = hi := by omega
    subst e
    exact ⟨h2, h4, h5⟩
  | fuel + 1, lo, hi, h1, h2, h3, h4, h5 => by
    unfold SetTable.below.go
    by_cases hl : lo < hi
    · rw [if_pos hl]
      have hm : (lo + hi) / 2 < xs.size := by omega
      have hg : xs.getD ((lo + hi) / 2) j = xs[(lo + hi) / 2] := by simp [hm]
      dsimp only
      rw [hg]
      by_cases hc : xs[(lo + hi) / 2] < j
      · rw [if_pos hc]
        refine a4H h j fuel _ _ (by omega) h2 (by omega) (fun i hi' hlt => ?_) h5
        by_cases e : i = (lo + hi) / 2
        · subst e; exact hc
        · exact Nat.lt_trans (a5p h (by omega) hm) hc
      · rw [if_neg hc]
        refine a4H h j fuel _ _ (by omega) (by omega) (by omega) h4 (fun i hi' hle => ?_)
        by_cases e : i = (lo + hi) / 2
        · subst e; omega
        · have := a5p h (show (lo + hi) / 2 < i by omega) hi'; omega
    · rw [if_neg hl]
      have e : lo = hi := by omega
      subst e
      exact ⟨h2, h4, h5⟩
theorem a4l {xs : Array Nat} (h : Rise xs) (j : Nat) : SetTable.below xs j ≤ xs.size ∧ (∀ i (hi' : i < xs.size), i < SetTable.below xs j → xs[i] < j) ∧ ∀ i (hi' : i < xs.size), SetTable.below xs j ≤ i → j ≤ xs[i] := by
  unfold SetTable.below
  exact a4H h j xs.size 0 xs.size (Nat.zero_le _) (Nat.le_refl _) (by omega) (fun _ _ z => absurd z (Nat.not_lt_zero _)) (fun i hi' z => absurd hi' (by omega))
theorem a27 {α : Type} (xs : Array α) (p : Nat) (x : α) (hp : p ≤ xs.size) : (SetTable.insertAt xs p x).toList = xs.toList.take p ++ x :: xs.toList.drop p := by
  unfold SetTable.insertAt
  simp [Array.toList_extract]
  rw [List.take_of_length_le (by simp)]
theorem a2k {α : Type} (xs : Array α) (p : Nat) (x : α) (hp : p ≤ xs.size) : (SetTable.insertAt xs p x).toList.Perm (x :: xs.toList) := by
  rw [a27 xs p x hp]
  refine List.perm_middle.trans ?_
  rw [List.take_append_drop]
theorem a26 {α : Type} (xs : Array α) (p : Nat) (x : α) (hp : p ≤ xs.size) : (SetTable.insertAt xs p x).size = xs.size + 1 := by
  rw [← Array.length_toList, (a2k xs p x hp).length_eq]; simp
structure Tb (t : SetTable) (m : Nat) : Prop where
  mask : t.mask = 7
  dum : t.dummies = #[]
  plain : t.plain = true
  size : t.place.size = m
  rise : Rise t.place
  le : ∀ j ∈ t.place.toList, j ≤ 7
theorem Tb.fits {t : SetTable} {m : Nat} (T : Tb t m) (hm : m ≤ 7) : t.fits m = true := by
  unfold SetTable.fits SetTable.fill
  rw [T.size, T.dum, T.mask]
  simp
  omega
theorem Tb.notFull {t : SetTable} {m : Nat} (T : Tb t m) (hm : m ≤ 4) : t.tooFull = false := by
  unfold SetTable.tooFull SetTable.fill
  rw [T.size, T.dum, T.mask]
  simp
  omega
theorem Tb.slot {t : SetTable} {m : Nat} (T : Tb t m) (j : Nat) : (t.slot j = .empty ∧ j ∉ t.place.toList) ∨ (∃ i, t.slot j = .live i) ∧ j ∈ t.place.toList := by
  unfold SetTable.slot
  dsimp only
  by_cases h : (t.place[SetTable.below t.place j]? == some j) = true
  · rw [if_pos h]
    have e : t.place[SetTable.below t.place j]? = some j := eq_of_beq h
    rw [← Array.getElem?_toList] at e
    exact .inr ⟨⟨_, rfl⟩, List.mem_of_getElem? e⟩
  · rw [if_neg h]
    have hd : SetTable.has t.dummies j = false := by rw [T.dum]; rfl
    rw [if_neg (by rw [hd]; exact Bool.false_ne_true)]
    refine .inl ⟨rfl, fun hm => h ?_⟩
    obtain ⟨i, hi, e⟩ := List.getElem_of_mem hm
    have hi' : i < t.place.size := by simpa using hi
    have e' : t.place[i] = j := by simpa using e
    obtain ⟨h1, h2, h3⟩ := a4l T.rise j
    have hb : SetTable.below t.place j = i := by
      by_cases l : SetTable.below t.place j ≤ i
      · by_cases l2 : SetTable.below t.place j = i
        · exact l2
        · have hlt : SetTable.below t.place j < t.place.size := by omega
          have a := h3 _ hlt (Nat.le_refl _)
          have b := a5p T.rise (show SetTable.below t.place j < i by omega) hi'
          omega
      · have := h2 i hi' (by omega); omega
    rw [hb, Array.getElem?_eq_getElem hi', e']
    exact beq_self_eq_true _
theorem a6W {h : Int} (h0 : 0 ≤ h) (h1 : h < 32) : SetTable.bits h = h.toNat := by
  unfold SetTable.bits
  rw [Int.emod_eq_of_lt h0 (by omega)]
theorem four_in {l : List Nat} {a b c d : Nat} (hl : l.length ≤ 3) (h1 : a ∈ l) (h2 : b ∈ l) (h3 : c ∈ l) (h4 : d ∈ l) (n : [a, b, c, d].Nodup) : False := by
  have hs : [a, b, c, d] ⊆ l := by
    intro x hx
    simp at hx
    rcases hx with rfl | rfl | rfl | rfl <;> assumption
  have := List.Nodup.length_le_of_subset n hs
  simp at this
  omega
theorem Tb.free {t : SetTable} {m : Nat} (T : Tb t m) (hm : m ≤ 3) {h : Int} (h0 : 0 ≤ h) (h1 : h < 32) : ∃ j, t.freeSlot h = some (j, false) ∧ j ≤ 7 ∧ j ∉ t.place.toList := by
  obtain ⟨n, rfl⟩ : ∃ n : Nat, h = n := ⟨h.toNat, by omega⟩
  have hb : SetTable.bits (n : Int) = n := by rw [a6W h0 h1]; rfl
  have hn : n < 32 := by omega
  have hl : t.place.toList.length ≤ 3 := by rw [Array.length_toList, T.size]; exact hm
  have run : ∀ (i : Nat), SetTable.runEnd t.mask i = i ∨ 7 < i := fun i => by
    unfold SetTable.runEnd
    rw [T.mask]
    by_cases q : i + 9 ≤ 7
    · omega
    · rw [if_neg q]; exact .inl rfl
  have hrun : ∀ i, SetTable.runEnd t.mask i - i = 0 := fun i => by
    unfold SetTable.runEnd
    rw [T.mask, if_neg (by omega)]
    omega
  have adv : ∀ (i p : Nat), p / 32 = 0 → t.advance ⟨i, 0, i, p, none⟩ = ⟨(i * 5 + 1) % 8, 0, (i * 5 + 1) % 8, 0, none⟩ := fun i p hp => by
    unfold SetTable.advance SetTable.leap
    rw [if_neg (Nat.lt_irrefl 0)]
    dsimp only
    rw [hp, hrun, T.mask]
  have step : ∀ (fuel i p : Nat), p / 32 = 0 → (∃ r, SetTable.probe.go t (fun _ => (n : Int) + 1) n (fuel + 1) ⟨i, 0, i, p, none⟩ = some r ∧ r = .empty i none ∧ i ∉ t.place.toList) ∨ (i ∈ t.place.toList ∧ SetTable.probe.go t (fun _ => (n : Int) + 1) n (fuel + 1) ⟨i, 0, i, p, none⟩ = SetTable.probe.go t (fun _ => (n : Int) + 1) n fuel ⟨(i * 5 + 1) % 8, 0, (i * 5 + 1) % 8, 0, none⟩) := fun fuel i p hp => by
    rcases T.slot i with ⟨e, ni⟩ | ⟨⟨k, e⟩, hi⟩
    · refine .inl ⟨.empty i none, ?_, rfl, ni⟩
      unfold SetTable.probe.go
      dsimp only
      rw [e]
    · refine .inr ⟨hi, ?_⟩
      conv => lhs; unfold SetTable.probe.go
      dsimp only
      rw [e]
      dsimp only
      rw [if_neg (by simp; omega), adv i p hp]
  have hps : t.probeStart (n : Int) = ⟨n % 8, 0, n % 8, n, none⟩ := by
    unfold SetTable.probeStart
    dsimp only
    rw [hb, hrun, T.mask]
  have fin : ∀ {j : Nat} {r : SetTable.Met}, j < 8 → SetTable.probe.go t (fun _ => (n : Int) + 1) n (10 * SetTable.turns t.mask) ⟨n % 8, 0, n % 8, n, none⟩ = some r → r = .empty j none → j ∉ t.place.toList → ∃ j, t.freeSlot (n : Int) = some (j, false) ∧ j ≤ 7 ∧ j ∉ t.place.toList := fun {j r} hj e er nj => by
    refine ⟨j, ?_, by omega, nj⟩
    unfold SetTable.freeSlot SetTable.probe
    rw [hps, e, er]
    rfl
  have hf : 10 * SetTable.turns t.mask = 216 + 1 + 1 + 1 + 1 := by unfold SetTable.turns; rw [T.mask]
  rw [hf] at fin
  have h8 : n % 8 < 8 := Nat.mod_lt _ (by decide)
  rcases step (216 + 1 + 1 + 1) (n % 8) n (by omega) with ⟨r, e, er, nj⟩ | ⟨i1, e1⟩
  · exact fin h8 e er nj
  rcases step (216 + 1 + 1) ((n % 8 * 5 + 1) % 8) 0 rfl with ⟨r, e, er, nj⟩ | ⟨i2, e2⟩
  · exact fin (by omega) (e1.trans e) er nj
  rcases step (216 + 1) (((n % 8 * 5 + 1) % 8 * 5 + 1) % 8) 0 rfl with ⟨r, e, er, nj⟩ | ⟨i3, e3⟩
  · exact fin (by omega) ((e1.trans e2).trans e) er nj
  rcases step 216 ((((n % 8 * 5 + 1) % 8 * 5 + 1) % 8 * 5 + 1) % 8) 0 rfl with ⟨r, e, er, nj⟩ | ⟨i4, e4⟩
  · exact fin (by omega) (((e1.trans e2).trans e3).trans e) er nj
  exact (four_in hl i1 i2 i3 i4 (by
    have : n % 8 = 0 ∨ n % 8 = 1 ∨ n % 8 = 2 ∨ n % 8 = 3 ∨ n % 8 = 4 ∨ n % 8 = 5 ∨ n % 8 = 6 ∨ n % 8 = 7 := by omega
    rcases this with h | h | h | h | h | h | h | h <;> rw [h] <;> decide)).elim
theorem Tb.put {t : SetTable} {m : Nat} (T : Tb t m) {j : Nat} (hj : j ≤ 7) (nj : j ∉ t.place.toList) : Tb (t.put j).1 (m + 1) ∧ (t.put j).2 ≤ m ∧ (t.put j).1.led = t.led := by
  obtain ⟨h1, h2, h3⟩ := a4l T.rise j
  have hd : SetTable.has t.dummies j = false := by rw [T.dum]; rfl
  have hz : SetTable.below t.place j ≤ m := by rw [← T.size]; exact h1
  unfold SetTable.put
  dsimp only
  rw [if_neg (by rw [hd]; exact Bool.false_ne_true)]
  refine ⟨⟨T.mask, T.dum, T.plain, ?_, ?_, fun k hk => ?_⟩, hz, rfl⟩
  · show (SetTable.insertAt t.place (SetTable.below t.place j) j).size = _
    rw [a26 _ _ _ h1, T.size]
  · show (SetTable.insertAt t.place (SetTable.below t.place j) j).toList.Pairwise (· < ·)
    rw [a27 _ _ _ h1]
    refine List.pairwise_append.mpr ⟨List.Pairwise.sublist (List.take_sublist _ _) T.rise, List.pairwise_cons.mpr ⟨fun k hk => ?_, List.Pairwise.sublist (List.drop_sublist _ _) T.rise⟩, fun a ha b hb => ?_⟩
    · obtain ⟨i, hi, e⟩ := List.getElem_of_mem hk
      rw [List.getElem_drop] at e
      rw [List.length_drop, Array.length_toList] at hi
      have a := h3 (SetTable.below t.place j + i) (by omega) (by omega)
      have e' : t.place[SetTable.below t.place j + i]'(by omega) = k := by simpa using e
      have : k ≠ j := fun z => nj (by rw [← z]; exact List.mem_of_mem_drop hk)
      omega
    · obtain ⟨i, hi, e⟩ := List.getElem_of_mem ha
      rw [List.getElem_take] at e
      rw [List.length_take, Array.length_toList] at hi
      have a1 := h2 i (by omega) (by omega)
      have e' : t.place[i]'(by omega) = a := by simpa using e
      rcases List.mem_cons.mp hb with rfl | hb
      · omega
      · obtain ⟨i2, hi2, e2⟩ := List.getElem_of_mem hb
        rw [List.getElem_drop] at e2
        rw [List.length_drop, Array.length_toList] at hi2
        have a2 := h3 (SetTable.below t.place j + i2) (by omega) (by omega)
        have e3 : t.place[SetTable.below t.place j + i2]'(by omega) = b := by simpa using e2
        omega
  · have hk' : k ∈ (SetTable.insertAt t.place (SetTable.below t.place j) j).toList := hk
    have := (a2k _ _ j h1).mem_iff.mp hk'
    rcases List.mem_cons.mp this with rfl | z
    · exact hj
    · exact T.le k z
theorem Tb.lay {t : SetTable} {m : Nat} (T : Tb t m) (hm : m ≤ 3) {h : Int} (h0 : 0 ≤ h) (h1 : h < 32) (es : Array (Int × Value)) (he : es.size = m) (x : Value) : ∃ es' t', layNew t es h x = (es', t', false, false) ∧ Tb t' (m + 1) ∧ t'.led = t.led ∧ es'.toList.Perm ((h, x) :: es.toList) ∧ es'.size = m + 1 := by
  obtain ⟨j, ej, hj, nj⟩ := T.free hm h0 h1
  obtain ⟨T', hp, hled⟩ := T.put hj nj
  have hsz : (SetTable.insertAt es (t.put j).2 (h, x)).size = m + 1 := by rw [a26 _ _ _ (by omega), he]
  have hfit := T'.fits (by omega)
  refine ⟨SetTable.insertAt es (t.put j).2 (h, x), (t.put j).1, ?_, T', hled, a2k _ _ _ (by omega), hsz⟩
  unfold layNew
  rw [ej]
  dsimp only
  rw [hsz, hfit]
  unfold SetTable.orStandIn
  rw [hfit]
  rfl
end L2
namespace L2
open PySem PySem.Spec PyProof.Rows
inductive EsK : List (Int × Value) → List Int → Prop
  | nil : EsK [] []
  | cons (k : Int) (tk : Tok) {es ks} : EsK es ks → EsK ((hashInt k, .int k tk) :: es) (k :: ks)
theorem EsK.length {es : List (Int × Value)} {ks : List Int} (h : EsK es ks) : es.length = ks.length := by
  induction h with
  | nil => rfl
  | cons k tk _ ih => rw [List.length_cons, List.length_cons, ih]
theorem EsK.perm {es es' : List (Int × Value)} (p : es'.Perm es) : ∀ {ks : List Int}, EsK es ks → ∃ ks', EsK es' ks' ∧ ks'.Perm ks := by
  have q := p.symm
  clear p
  induction q with
  | nil => intro ks h; cases h; exact ⟨[], .nil, .refl _⟩
  | cons x _ ih =>
    intro ks h
    cases h with
    | cons k tk t => obtain ⟨ks', e, p⟩ := ih t; exact ⟨k :: ks', .cons k tk e, p.cons k⟩
  | swap x y l =>
    intro ks h
    cases h with
    | cons k tk t => cases t with
      | cons k2 tk2 t2 => exact ⟨k2 :: k :: _, .cons k2 tk2 (.cons k tk t2), List.Perm.swap _ _ _⟩
  | trans _ _ ih1 ih2 =>
    intro ks h
    obtain ⟨k1, e1, p1⟩ := ih1 h
    obtain ⟨k2, e2, p2⟩ := ih2 e1
    exact ⟨k2, e2, p2.trans p1⟩
theorem EsK.elems {prog : Program} {w : World} {es : List (Int × Value)} {ks : List Int} (h : EsK es ks) : ElemsOf (intKind prog w) es := by
  induction h with
  | nil => intro e he; cases he
  | cons k tk _ ih =>
    intro e he
    rcases List.mem_cons.mp he with rfl | he
    · exact ⟨⟨k, by simp [intKind, Value.isInt], rfl⟩, rfl⟩
    · exact ih e he
theorem EsK.find {es : List (Int × Value)} {ks : List Int} (h : EsK es ks) (k : Int) : (es.findIdx? fun e => Value.isInt k e.2).isSome = decide (k ∈ ks) := by
  induction h with
  | nil => rfl
  | cons k' tk _ ih =>
    rw [List.findIdx?_cons]
    by_cases e : k = k'
    · subst e; simp [Value.isInt]
    · have : Value.isInt k (Value.int k' tk) = false := by simp [Value.isInt, Ne.symm e, e]
      simp only [this]
      rw [if_neg Bool.false_ne_true, Option.isSome_map, ih]
      simp [e]
theorem EsK.ints {es : List (Int × Value)} {ks : List Int} (h : EsK es ks) : IntsAre (es.map (·.2)) ks := by
  induction h with
  | nil => exact .nil
  | cons k tk _ ih => exact .cons k tk ih
def SetX (w : World) (h : Heap) (a : Addr) (ks : List Int) : Prop := ∃ o es ep t ks', h.get? a = some o ∧ o.ExactSet ∧ o.data = .set es ep t ∧ EsK es.toList ks' ∧ ks'.Perm ks ∧ Tb t es.size ∧ t.led = !w.params.followText "set-order"
theorem SetX.at {w : World} {h h' : Heap} {a : Addr} {ks : List Int} (S : SetX w h a ks) (k : ∀ o, h.get? a = some o → h'.get? a = some o) : SetX w h' a ks := by
  obtain ⟨o, es, ep, t, ks', ho, r⟩ := S
  exact ⟨o, es, ep, t, ks', k o ho, r⟩
theorem hash_fin : ∀ n : Fin 32, hashInt ((n.val : Nat) : Int) = ((n.val : Nat) : Int) := by decide +kernel
theorem a4j {k : Int} (h0 : 0 ≤ k) (h1 : k < 32) : hashInt k = k := by
  have h := hash_fin ⟨k.toNat, by omega⟩
  rwa [show (((⟨k.toNat, by omega⟩ : Fin 32).val : Nat) : Int) = k from Int.toNat_of_nonneg h0] at h
section
variable {prog : Program} {w : World} {A : Around} {E : Value → Shared → Prop} {s : Shared}
theorem setx_add {a : Addr} {ks : List Int} {k : Int} {tk : Tok} {Q : Bool → Shared → Prop} (S : SetX w s.heap a ks) (h0 : 0 ≤ k) (h1 : k < 32) (hl : ks.length ≤ 4) (hl2 : k ∉ ks → ks.length ≤ 3)
    (h : ∀ h' b, Heap.SameBut a s.heap h' → SetX w h' a (if k ∈ ks then ks else k :: ks) → Q b { s with heap := h', toks := s.toks + 1 }) : wpAny (model prog w) A (setAdd a (.int k tk)) Q E s := by
  obtain ⟨o, es, ep, t, ks', ho, hex, hd, hes, hp, T, hled⟩ := S
  have hsz : es.size = ks.length := by rw [← Array.length_toList, hes.length, hp.length_eq]
  have hf := T.fits (by omega)
  have hel : ElemsOf (intKind prog w) es.toList := hes.elems
  have hkey : (intKind prog w).is k (.int k tk) = true := by simp [intKind, Value.isInt]
  unfold setAdd
  refine wpAny_holding (wpAny_bind ((intKind prog w).pyHash hkey ?_))
  unfold setAddHashed setAddHashedIn
  refine wpAny_holding (wpAny_bind (wpAny_setState_of ho hd hf ?_))
  dsimp only
  rw [byScan_of (knd := intKind prog w) rfl (by unfold scanBound; omega) hel, if_pos rfl]
  unfold setAddByScan
  refine wpAny_bind (wpAny_bind (wpAny_rule (wpAny_bind (wpAny_setScan_of (s := { s with toks := s.toks + 1 }) hkey ho hd hf hel ?_))))
  have hfi := hes.find k
  have hfi' : ∀ r, es.toList.findIdx? (fun e => (intKind prog w).is k e.2) = r → r.isSome = decide (k ∈ ks') := fun r e => by rw [← e]; exact hfi
  have hmem : k ∈ ks' ↔ k ∈ ks := hp.mem_iff
  cases hr : es.toList.findIdx? (fun e => (intKind prog w).is k e.2) with
  | some j =>
    have hk : k ∈ ks := hmem.mp (by have := hfi' _ hr; simpa using this.symm)
    dsimp only
    refine wpAny_pure (wpAny_pure (h s.heap false (Heap.SameBut.refl a s.heap) ?_))
    rw [if_pos hk]
    exact ⟨o, es, ep, t, ks', ho, hex, hd, hes, hp, T, hled⟩
  | none =>
    have hk : k ∉ ks := fun z => by have := hfi' _ hr; rw [decide_eq_true (hmem.mpr z)] at this; cases this
    have h3 := hl2 hk
    obtain ⟨es', t', el, T', hl', hpm, hsz'⟩ := T.lay (by omega) (h := hashInt k) (by rw [a4j h0 h1]; exact h0) (by rw [a4j h0 h1]; exact h1) es rfl (.int k tk)
    have el' : layNew t es ((intKind prog w).hash k) (.int k tk) = (es', t', false, false) := el
    dsimp only
    rw [el']
    dsimp only
    refine wpAny_bind ?_
    show wpAny _ _ (pure ()) _ _ _
    refine wpAny_pure ?_
    rw [T'.plain, if_pos rfl, hashByValue_scannable 8 rfl]
    refine wpAny_bind (wpAny_pure ?_)
    rw [if_pos (show plainKind (Value.int k tk) = true from rfl)]
    refine wpAny_bind (wpAny_storeSet_of (s := { s with toks := s.toks + 1 }) ho hd ?_ (by rw [hsz', sizeLine_eq]; omega))
    rw [T'.notFull (by omega)]
    simp only [Bool.not_false, Bool.and_false, Bool.false_eq_true, if_false]
    refine wpAny_pure (wpAny_pure (h _ true (Heap.SameBut.update s.heap a (Obj.putSet es' t')) ?_))
    rw [if_neg hk]
    obtain ⟨ks2, e2, p2⟩ := EsK.perm hpm (.cons k tk hes)
    have hg : (s.heap.update a (Obj.putSet es' t')).get? a = some { o with data := .set es' (ep + 1) t' } := by
      have z := Heap.get?_update_self (Obj.putSet es' t') ho (by rw [putSet_of es' t' hd]; rfl)
      rw [putSet_of es' t' hd] at z; exact z
    exact ⟨_, es', ep + 1, t', ks2, hg, hex, rfl, e2, p2.trans (hp.cons k), by rw [hsz']; exact T', by rw [hl']; exact hled⟩
end
end L2
namespace L2
open PySem PySem.Spec PyProof.Rows
section
variable {prog : Program} {w : World} {A : Around} {E : Value → Shared → Prop} {s : Shared}
theorem a7c {R : Result → Shared → Prop} {S I l : Addr} {items : Array Value} {ns : List Int} (hh : A.in1.handled = none) (hli : l ≠ I) (hSI : S ≠ I) (hSl : S ≠ l) (hi : IntsAre items.toList ns) (hr : ∀ n ∈ ns, 0 ≤ n ∧ n < 32) (h4 : ns.length ≤ 4) :
    ∀ (k i : Nat) (s : Shared) (ks : List Int), items.size - i = k → i ≤ items.size → s.heap.IsListIter I l i → s.heap.IsList l items → SetX w s.heap S ks → ks.length ≤ i → (∀ n, n ∈ ks ↔ n ∈ ns.take i) → ks.Nodup →
      (∀ h' tk ks', (∀ b o, b ≠ S → b ≠ I → s.heap.get? b = some o → h'.get? b = some o) → SetX w h' S ks' → (∀ n, n ∈ ks' ↔ n ∈ ns) → ks'.Nodup → R (.ok (.ret .none)) { s with heap := h', toks := tk }) →
      codeAny (model prog w) A (.builtin "set.update.loop" ⟨[.ref S, .ref I], []⟩) R s := by
  have hlen : items.size = ns.length := by rw [← Array.length_toList]; exact hi.length
  have W := Walks.list (prog := prog) (w := w) hh I l hli items
  intro k
  induction k with
  | zero =>
    intro i s ks hk hile st hl S1 hkl hm nd hR
    obtain rfl : i = items.size := by omega
    refine codeAny_builtin PyProof.Rows.F.entry_set_update_loop ?_
    rw [Around.under_plainId PyProof.Rows.F.plain_set_update_loop _]
    refine wpAny_bind (m := pyNext (.ref I)) (W.done s _ _ ⟨st, hl⟩ fun h' tk kp => ?_)
    refine wpAny_pure (hR h' tk ks (fun b o _ hb e => kp b o (by simpa using hb) e) (S1.at fun o e => kp S o (by simpa using hSI) e) (fun n => ?_) nd)
    rw [hm n, hlen, List.take_length]
  | succ k ih =>
    intro i s ks hk hile st hl S1 hkl hm nd hR
    have hlt : i < items.size := by omega
    refine codeAny_builtin PyProof.Rows.F.entry_set_update_loop ?_
    rw [Around.under_plainId PyProof.Rows.F.plain_set_update_loop _]
    refine wpAny_bind (m := pyNext (.ref I)) (W.item i s _ _ hlt ⟨st, hl⟩ fun v h' tk hv st' kp => ?_)
    obtain ⟨t, rfl⟩ := PyProof.Rows.IntsAre.int_at hi i v (by rw [Array.getElem?_toList]; exact hv)
    have hmem : ns.getD i 0 ∈ ns := by rw [List.getD_eq_getElem?_getD, List.getElem?_eq_getElem (by omega)]; exact List.getElem_mem _
    have S2 : SetX w h' S ks := S1.at fun o e => kp S o (by simpa using hSI) e
    obtain ⟨r0, r1⟩ := hr _ hmem
    refine wpAny_bind (m := holding _ _) (wpAny_holding (setx_add (s := { s with heap := h', toks := tk }) S2 r0 r1 (by omega) (fun _ => by omega) fun h2 b sb S3 => ?_))
    refine wpAny_pure ⟨plainId_quiet PyProof.Rows.F.plain_set_update_loop _, ih (i + 1) _ _ (by omega) hlt ?_ ?_ S3 ?_ ?_ ?_ fun h3 tk3 ks3 kp3 S4 m4 n4 => ?_⟩
    · exact st'.1.extBut sb.extBut (Ne.symm hSI)
    · exact st'.2.extBut sb.extBut (Ne.symm hSl)
    · split
      · omega
      · rw [List.length_cons]; omega
    · intro n
      have htake : ns.take (i + 1) = ns.take i ++ [ns.getD i 0] := by
        rw [List.take_add_one, List.getElem?_eq_getElem (by omega), List.getD_eq_getElem?_getD, List.getElem?_eq_getElem (by omega)]
        rfl
      rw [htake, List.mem_append, List.mem_singleton, ← hm n]
      split
      · rename_i hin
        constructor
        · exact .inl
        · rintro (z | rfl)
          · exact z
          · exact hin
      · rw [List.mem_cons, or_comm]
    · split
      · exact nd
      · rename_i hin; exact List.nodup_cons.mpr ⟨hin, nd⟩
    · refine hR h3 tk3 ks3 (fun b o hb1 hb2 e => kp3 b o hb1 hb2 (sb.extBut b o hb1 (kp b o (by simpa using hb2) e))) S4 m4 n4
theorem setx_new (a : Value) {Q₁ : Value → Shared → Prop} (h : Q₁ (.ref s.heap.objs.size) { s with heap := s.heap.push { cls := .type "set", dict := none, data := .set #[] 0 (.fresh 0 0 (!w.params.followText "set-order")) } }) :
    codeAny (model prog w) A (.call (.builtin "set.__new__") ⟨[.type "set", a], []⟩) (wants Q₁ E) s := by
  refine codeAny_of_tree (wpAny_bind (m := checkBuiltinCall "set.__new__" ⟨[.type "set", a], []⟩) (wpAny_of_eq (PySem.F.newCall_set_1 a) (wpAny_pure ⟨plainId_quiet PySem.F.plain_set_new _, codeAny_builtin PySem.F.entry_set_new ?_⟩)))
  rw [Around.under_plainId PySem.F.plain_set_new _]; unfold Builtin.«set.__new__» Builtin.Frozenset.newClass; have hsub := sub_set_self
  obtain ⟨hp, g, d, tk, os⟩ := s; dsimp only; wp_walk
  refine wpAny_askSetting (wpAny_pure ?_); dsimp only; simp only [newObj]
  exact wpAny_bind (wpAny_alloc (wpAny_pure (wpAny_pure h)))
theorem a6w {h : Heap} {a : Addr} (e : h.get? a = some { cls := .type "set", dict := none, data := .set #[] 0 (.fresh 0 0 (!w.params.followText "set-order")) }) : SetX w h a [] :=
  ⟨_, #[], 0, _, [], e, ⟨rfl, rfl, rfl⟩, rfl, .nil, .refl _, ⟨rfl, rfl, rfl, rfl, .nil, fun j hj => by cases hj⟩, rfl⟩
set_option maxHeartbeats 4000000 in
theorem call_setx {l : Addr} {items : Array Value} {ns : List Int} {Q : Value → Shared → Prop} (hh : A.handled = none) (hl : s.heap.IsList l items) (hi : IntsAre items.toList ns) (hr : ∀ n ∈ ns, 0 ≤ n ∧ n < 32) (h4 : ns.length ≤ 4)
    (h : ∀ (h' : Heap) (tk : Nat) (ks : List Int), SetX w h' s.heap.objs.size ks → (∀ n, n ∈ ks ↔ n ∈ ns) → ks.Nodup → (∀ b o, s.heap.get? b = some o → h'.get? b = some o) → Q (.ref s.heap.objs.size) { s with heap := h', toks := tk }) :
    wpAny (model prog w) A (call (.type "set") [.ref l]) Q E s := by
  obtain ⟨c, tl, hmro⟩ := PySem.F.called_set.mro; have hmade := PySem.F.called_set.made; have hsub := PySem.F.called_set.sub
  refine wpAny_call (codeAny_of_tree ?_); show wpAny _ _ (callAny (.type "set") _) _ _ _
  refine wpAny_pure ⟨Code.quiet_builtin _ (by decide +kernel), codeAny_builtin PySem.F.entry_type_call ?_⟩
  rw [Around.under_plain (weight_type_call_type "set" [.ref l] []) rfl]
  have h1 := PySem.F.called_set.notType; have h2 := PySem.F.called_set.canCreate; have hct := PySem.F.typeCall_set_1 (.ref l)
  repeat (any_goals (first | assumption | wp_step))
  generalize hO : ({ cls := .type "set", dict := none, data := .set #[] 0 (.fresh 0 0 (!w.params.followText "set-order")) } : Obj) = O0
  refine codeAny_mono (setx_new (.ref l) (E := E) (Q₁ := fun obj s₁ => obj = .ref s.heap.objs.size ∧ s₁ = { s with heap := s.heap.push O0 }) (by rw [hO]; exact ⟨rfl, rfl⟩)) fun r s₁ hr1 => ?_
  cases r with
  | error e => exact hr1
  | ok fl => cases fl with
    | ret obj =>
      obtain ⟨rfl, rfl⟩ := hr1
      have hS : (s.heap.push O0).get? s.heap.objs.size = some O0 := Heap.get?_push_size _ (by rw [← hO]; rfl)
      have hT : Shared.TypeIs { s with heap := s.heap.push O0 } (.ref s.heap.objs.size) "set" := ⟨_, hS, by rw [← hO]⟩
      have hli := PySem.F.called_set.init.lookup; have hbi := PySem.F.called_set.init.bind (.ref s.heap.objs.size)
      repeat (any_goals (first | assumption | wp_step))
      refine codeAny_mono (codeAny_call_builtin (R := wants (fun r s₂ => r = .none ∧ ∃ h' tk ks, s₂ = { s with heap := h', toks := tk } ∧ SetX w h' s.heap.objs.size ks ∧ (∀ n, n ∈ ks ↔ n ∈ ns) ∧ ks.Nodup ∧ ∀ b o, s.heap.get? b = some o → h'.get? b = some o) E) PySem.F.called_set.init.plain PySem.F.entry_set_init (check_set_init_1 hT ?_)) fun r₂ s₂ hr₂ => ?_
      · obtain ⟨⟨oc, od, odt, osl⟩, hol, hcl, nl, hdl⟩ := hl
        replace hcl : oc = .type "list" := hcl
        replace hdl : odt = .seq items nl := hdl
        subst hcl hdl
        have hol' : (s.heap.push O0).get? l = some _ := Heap.get?_push_of_some _ hol
        have hsls := PySem.F.sub_list_set; have hslf := PySem.F.sub_list_frozenset; have hne : (Value.type "list" == Value.type "dict") = false := by decide
        have hl1 : (s.heap.push O0).IsList l items := ⟨_, hol', rfl, nl, rfl⟩
        have hlS : l < s.heap.objs.size := Heap.lt_size hol
        have hS0 : (s.heap.push O0).get? s.heap.objs.size = some { cls := .type "set", dict := none, data := .set #[] 0 (.fresh 0 0 (!w.params.followText "set-order")) } := by rw [hO]; exact hS
        unfold Builtin.«set.__init__» noKeywords Builtin.Frozenset.updateFrom; generalize hPI : pyIter = PI; subst hO; wp_walk; subst hPI
        refine wpAny_pyIter_list hl1 (wpAny_bind (wpAny_runValue ?_))
        have n1 : (s.heap.push { cls := .type "set", dict := none, data := .set #[] 0 (.fresh 0 0 (!w.params.followText "set-order")) }).objs.size = s.heap.objs.size + 1 := Heap.size_push ..
        have hit : ((s.heap.push { cls := .type "set", dict := none, data := .set #[] 0 (.fresh 0 0 (!w.params.followText "set-order")) }).push { cls := .type "list_iterator", data := .fields #[.ref l, .int 0 0] }).get? (s.heap.objs.size + 1) = some { cls := .type "list_iterator", data := .fields #[.ref l, .int 0 0] } := by rw [← n1]; exact Heap.get?_push_size _ rfl
        rw [n1]
        refine a7c (I := s.heap.objs.size + 1) (by simp [hh]) (Nat.ne_of_lt (Nat.lt_succ_of_lt hlS)) (Nat.ne_of_lt (Nat.lt_succ_self _)) (Nat.ne_of_gt hlS) hi hr h4 (items.size - 0) 0 _ [] rfl (Nat.zero_le _) ⟨_, hit, rfl, rfl⟩ (hl1.push _) (a6w (Heap.get?_push_of_some _ hS0)) (Nat.le_refl _) (fun n => by simp) .nil fun h' tk ks kp S1 m1 nd => ?_
        refine wpAny_pure (wpAny_pure ⟨rfl, h', tk, ks, rfl, S1, m1, nd, fun b o e => ?_⟩)
        have hb := Heap.lt_size e
        exact kp b o (Nat.ne_of_lt hb) (Nat.ne_of_lt (Nat.lt_succ_of_lt hb)) (Heap.get?_push_of_some _ (Heap.get?_push_of_some _ e))
      · cases r₂ with
        | error e => exact hr₂
        | ok fl₂ => cases fl₂ with
          | ret r =>
            obtain ⟨rfl, h', tk, ks, rfl, S1, m1, nd, kp⟩ := hr₂
            repeat (any_goals (first | assumption | wp_step))
            exact h _ _ ks S1 m1 nd kp
          | _ => exact hr₂.elim
    | _ => exact hr1.elim
end
end L2
namespace L2
open PySem PySem.Spec PyProof.Rows
def SetE (h : Heap) (a : Addr) (es : Array (Int × Value)) (ep : Nat) (t : SetTable) : Prop := ∃ o, h.get? a = some o ∧ o.ExactSet ∧ o.data = .set es ep t
def ordOf (w : World) (a : Addr) (es : Array (Int × Value)) (ep : Nat) : Array (Int × Value) := if w.params.followText "set-order" = true then pickOrder (w.params.setOrder a ep) es else es
def markOf (w : World) (t : SetTable) (i : Nat) : Nat := if w.params.followText "set-order" = true then 0 else if i = 0 then 0 else t.place.getD (i - 1) 0 + 1
abbrev itObj (a : Addr) (slot i n ep : Nat) : Obj := { cls := .type "set_iterator", dict := none, data := .fields #[rawInt slot, rawInt i, .ref a, rawInt n, rawInt ep], slots := #[] }
section
variable {prog : Program} {w : World} {A : Around} {E : Value → Shared → Prop} {s : Shared} {a it : Addr} {es : Array (Int × Value)} {ep : Nat} {t : SetTable}
theorem SetE.state (S : SetE s.heap a es ep t) (hf : t.fits es.size = true) {Q : (Array (Int × Value) × Nat × SetTable) → Shared → Prop} (h : Q (es, ep, t) s) : wpAny (model prog w) A (setState a) Q E s := by
  obtain ⟨o, ho, _, hd⟩ := S
  exact wpAny_setState_of ho hd hf h
end
end L2
namespace L2
open PySem PySem.Spec PyProof.Rows
section
variable {prog : Program} {w : World} {A : Around} {E : Value → Shared → Prop} {s : Shared} {a : Addr} {es : Array (Int × Value)} {ep : Nat} {t : SetTable}
theorem SetE.at {h h' : Heap} (S : SetE h a es ep t) (k : ∀ o, h.get? a = some o → h'.get? a = some o) : SetE h' a es ep t := by
  obtain ⟨o, ho, r⟩ := S
  exact ⟨o, k o ho, r⟩
end
end L2
namespace L2
open PySem PySem.Spec PyProof.Rows
section
variable {X : Cx}
def few (ns : List Int) : Prop := ns.length ≤ 4 ∧ ∀ n ∈ ns, 0 ≤ n ∧ n < 32
def setO (w : World) (a : Addr) (ks : List Int) : HO := .ext fun h => SetX w h a ks
end
end L2
namespace L2
open PySem PySem.Spec PyProof.Rows PySem.W
section
variable {prog : Program} {w : World} {A : Around} {E : Value → Shared → Prop} {s : Shared} {it l : Addr}
end
def revO (it l : Addr) (n : Nat) : HO := .ext fun h => h.IsRevIter it l ((n : Int) - 1)
section
variable {X : Cx} {pins : List (Addr × Obj)} {σ : St} {s : Shared}
theorem Inv.drop {H0 : Hp} {it : Addr} {φ : Heap → Prop} (I : Inv X pins σ (upd H0 it (.ext φ)) s) (hn : H0 it = none) : Inv X pins σ H0 s := by
  have ne : ∀ b u, H0 b = some u → b ≠ it := fun b u e z => by rw [z, hn] at e; cases e
  have ne2 : ∀ b u, upd H0 it (.ext φ) b = some u → (∀ ψ, u ≠ .ext ψ) → H0 b = some u := fun b u e hu => by
    by_cases z : b = it
    · subst z; rw [upd_same] at e; cases e; exact absurd rfl (hu φ)
    · rwa [upd_ne z] at e
  refine I.un (h' := s.heap) (t' := s.toks) ⟨fun b o q _ _ _ => q, fun b o q _ _ _ => ⟨o.slots, q⟩, fun b o q n _ => ?_, fun b o q _ => ⟨o, q⟩, fun b xs q => ne2 b _ q (fun ψ z => nomatch z), fun b o u q => ne2 b _ q (fun ψ z => nomatch z), fun b ps q => ⟨#[], by rw [ne2 b _ q (fun ψ z => nomatch z)]; simp⟩⟩ fun b u e => ?_
  · by_cases z : b = it
    · rw [z]; exact hn
    · rwa [upd_ne z] at n
  · have q := I.hok b u (by rw [upd_ne (ne b u e)]; exact e)
    exact q.stay (fun c v _ r => r) (fun c r => ne2 c _ r (fun ψ z => nomatch z)) (fun c xs r => ne2 c _ r (fun ψ z => nomatch z)) fun c ob u r => ne2 c _ r (fun ψ z => nomatch z)
end
end L2
namespace L2
open PySem PySem.Spec
section
variable {prog : Program} {w : World} {A : Around} {R : Result → Shared → Prop} {I : Addr} {fp wr : List Addr} {n : Nat} {P : Nat → Value → Prop} {St : Nat → Heap → Prop}
theorem a3D : (toString "max" ++ toString ".loop" : String) = "max.loop" := by decide
theorem mxd_args (a v : Value) : argsOk "max" ⟨[a], [(Str.ofString "default", v)]⟩ := by unfold argsOk; kernel_rfl
theorem mxd_loop (W : Walks prog w A.in1 I fp wr n P St) (bt : Nat → Nat → Bool) (cm : CmpOf prog w A.in1 .Gt P bt) (Z : Addr) (zf : Z ∉ fp) (dv : Value) :
    ∀ (k j : Nat) (s : Shared) (b : Value) (c : Nat), n - (j + 1) = k → j + 1 ≤ n → St (j + 1) s.heap → P (argBest bt j) b → s.heap.get? Z = some { cls := .type "list", dict := none, data := .seq #[b, b] c, slots := #[] } →
    (∀ v h' tk, P (argBest bt (n - 1)) v → (∀ x o, x ∉ wr → x ≠ Z → s.heap.get? x = some o → h'.get? x = some o) → R (.ok (.ret v)) { s with heap := h', toks := tk }) →
    codeAny (model prog w) A (.builtin "max.loop" ⟨[.ref I, .none, .ref Z], [("default", dv)]⟩) R s := by
  have zw : Z ∉ wr := fun h => zf (W.sub _ h)
  intro k
  induction k with
  | zero =>
    intro j s b c e0 e1 st pb gz out
    have en : j + 1 = n := by omega
    refine codeAny_builtin F.entry_max_loop ?_; rw [Around.under_plainId F.plain_max_loop _]
    show wpAny _ A.in1 (seqItems? (.ref Z) >>= _) _ _ s; refine wpAny_bind (wpAny_seqItems gz rfl ?_)
    show wpAny _ A.in1 (tryCatch (pyNext (.ref I)) _ >>= _) _ _ s; refine wpAny_bind (wpAny_tryCatch (W.done s _ _ (en ▸ st) fun h' tk kp => ?_))
    have gz' := kp Z _ zw gz
    show wpAny _ A.in1 (updateSeq Z (fun _ => #[]) >>= _) _ _ _; refine wpAny_bind (wpAny_updateSeq gz' rfl (wpAny_bind (wpAny_letGo (wpAny_pure ?_))))
    exact out b _ tk (by rw [← en]; exact pb) fun x o xw xz e => (Heap.get?_update_other _ _ (Ne.symm xz)).trans (kp x o xw e)
  | succ k ih =>
    intro j s b c e0 e1 st pb gz out
    have lt : j + 1 < n := by omega
    refine codeAny_builtin F.entry_max_loop ?_; rw [Around.under_plainId F.plain_max_loop _]
    show wpAny _ A.in1 (seqItems? (.ref Z) >>= _) _ _ s; refine wpAny_bind (wpAny_seqItems gz rfl ?_)
    show wpAny _ A.in1 (tryCatch (pyNext (.ref I)) _ >>= _) _ _ s; refine wpAny_bind (wpAny_tryCatch (W.item (j + 1) s _ _ lt st fun v h' tk pv st' kp => ?_))
    have gz' := kp Z _ zw gz
    show wpAny _ A.in1 (tryCatch (holding [v, v] (richCompare .Gt v b >>= _)) _ >>= _) _ _ _; refine wpAny_bind (wpAny_tryCatch (wpAny_holding (wpAny_bind (cm (j + 1) (argBest bt j) v b _ _ _ pv pb ?_))))
    refine wpAny_bind (wpAny_holding (wpAny_truthy_bool (wpAny_bind (wpAny_letGo (wpAny_pure ?_)))))
    cases hb : bt (j + 1) (argBest bt j) with
    | true =>
      simp only [if_true]; refine wpAny_bind (wpAny_updateSeq gz' rfl (wpAny_bind (wpAny_letGo ?_))); rw [a3D]
      refine wpAny_pure ⟨plainId_quiet F.plain_max_loop _, ih (j + 1) _ v _ (by omega) lt (W.frame _ _ _ st' fun x xf o e => (Heap.get?_update_other _ _ (fun h : Z = x => zf (by rw [h]; exact xf))).trans e) (by simp only [argBest, hb, if_true]; exact pv) (Heap.get?_update_self _ gz' rfl) fun u h2 tk2 pu kp2 => ?_⟩
      exact out u h2 tk2 pu fun x o xw xz e => kp2 x o xw xz ((Heap.get?_update_other _ _ (Ne.symm xz)).trans (kp x o xw e))
    | false =>
      simp only [Bool.false_eq_true, if_false]; refine wpAny_bind (wpAny_letGo ?_); rw [a3D]
      exact wpAny_pure ⟨plainId_quiet F.plain_max_loop _, ih (j + 1) _ b c (by omega) lt st' (by simp only [argBest, hb, Bool.false_eq_true, if_false]; exact pb) gz' fun u h2 tk2 pu kp2 => out u h2 tk2 pu fun x o xw xz e => kp2 x o xw xz (kp x o xw e)⟩
theorem a7t (W : Walks prog w A.in1 I fp wr n P St) (bt : Nat → Nat → Bool) (cm : CmpOf prog w A.in1 .Gt P bt) (Z : Addr) (zf : Z ∉ fp) (dv : Value) {s : Shared} {c : Nat} (st : St 0 s.heap)
    (gz : s.heap.get? Z = some { cls := .type "list", dict := none, data := .seq #[] c, slots := #[] })
    (none_ : n = 0 → ∀ h' tk, (∀ x o, x ∉ wr → s.heap.get? x = some o → h'.get? x = some o) → R (.ok (.ret dv)) { s with heap := h', toks := tk })
    (out : 0 < n → ∀ v h' tk, P (argBest bt (n - 1)) v → (∀ x o, x ∉ wr → x ≠ Z → s.heap.get? x = some o → h'.get? x = some o) → R (.ok (.ret v)) { s with heap := h', toks := tk }) :
    codeAny (model prog w) A (.builtin "max.loop" ⟨[.ref I, .none, .ref Z], [("default", dv)]⟩) R s := by
  have zw : Z ∉ wr := fun h => zf (W.sub _ h)
  refine codeAny_builtin F.entry_max_loop ?_; rw [Around.under_plainId F.plain_max_loop _]
  show wpAny _ A.in1 (seqItems? (.ref Z) >>= _) _ _ s; refine wpAny_bind (wpAny_seqItems gz rfl ?_)
  show wpAny _ A.in1 (tryCatch (pyNext (.ref I)) _ >>= _) _ _ s
  rcases Nat.eq_zero_or_pos n with en | pn
  · refine wpAny_bind (wpAny_tryCatch (W.done s _ _ (en ▸ st) fun h' tk kp => ?_))
    exact wpAny_bind (wpAny_rule (wpAny_pure (none_ en h' tk kp)))
  · refine wpAny_bind (wpAny_tryCatch (W.item 0 s _ _ pn st fun v h' tk pv st' kp => ?_))
    have gz' := kp Z _ zw gz
    show wpAny _ A.in1 (updateSeq Z (fun _ => #[v, v]) >>= _) _ _ _; refine wpAny_bind (wpAny_updateSeq gz' rfl ?_); rw [a3D]
    exact wpAny_pure ⟨plainId_quiet F.plain_max_loop _, mxd_loop W bt cm Z zf dv _ 0 _ v _ rfl pn (W.frame _ _ _ st' fun x xf o e => (Heap.get?_update_other _ _ (fun h : Z = x => zf (by rw [h]; exact xf))).trans e) pv (Heap.get?_update_self _ gz' rfl) fun u h2 tk2 pu kp2 => out pn u h2 tk2 pu fun x o xw xz e => kp2 x o xw xz ((Heap.get?_update_other _ _ (Ne.symm xz)).trans (kp x o xw e))⟩
end
end L2
namespace L2
open PySem PySem.Spec
section
variable {prog : Program} {w : World} {A : Around} {E : Value → Shared → Prop} {s : Shared} {d it : Addr} {od : Obj} {es : Array DictEntry} {ep i : Nat}
theorem dk_iter {Q : Value → Shared → Prop} (lo : (d == sysModules) = false) (gd : s.heap.get? d = some od) (ex : od.ExactDict) (dt : od.data = .dict es ep)
    (q : Q (.ref s.heap.objs.size) { s with heap := s.heap.push { cls := .type "dict_keyiterator", data := .fields #[.ref d, .int 0 0, .int es.size 0, .int ep 0] } }) : wpAny (model prog w) A (pyIter (.ref d)) Q E s := by
  have ty : s.TypeIs (.ref d) "dict" := ⟨od, gd, ex.1⟩
  refine wpAny_pyIter_slot ty F.slot_dict_iter (wpAny_call_entry F.slot_dict_iter ty F.entry_dict_iter ?_ (F.args_dict_iter_1 _)); unfold Builtin.«dict.__iter__»; refine wpAny_bind ?_
  unfold Builtin.Dict.dictSlotNone; refine wpAny_bind (wpAny_notOrdered_dict ty ?_); show wpAny _ _ (pure (Value.ref d)) _ _ s; refine wpAny_pure ?_
  show wpAny _ _ (Builtin.Dict.showsAll d >>= _) _ _ s; unfold Builtin.Dict.showsAll; rw [if_neg (by rw [lo]; exact Bool.false_ne_true)]
  refine wpAny_bind (wpAny_pure (wpAny_bind (wpAny_dictEntries gd dt (wpAny_bind (wpAny_dictEpoch gd dt (wpAny_bind (wpAny_newObj_type (wpAny_pure ⟨_, rfl, "dict_keyiterator", _, ⟨_, Heap.get?_push_size _ rfl, rfl⟩, F.slot_dict_keyiterator_next.lookup, ?_⟩))))))))
  simpa [rawInt] using q
theorem dk_item {Q : Option Value → Shared → Prop} {e : DictEntry} (st : s.heap.IsKeyIter it d i es.size ep) (gd : s.heap.get? d = some od) (dt : od.data = .dict es ep) (at' : es[i]? = some e)
    (q : ∀ h', h'.IsKeyIter it d (i + 1) es.size ep → Heap.SameBut it s.heap h' → Q (some e.key) { s with heap := h' }) : wpAny (model prog w) A (pyNext (.ref it)) Q E s := by
  obtain ⟨o, go, oc, odt⟩ := id st
  unfold pyNext; refine wpAny_bind (wpAny_attempt (wpAny_callSpecial?_slot (name := Str.ofString "__next__") st.typeIs F.slot_dict_keyiterator_next (wpAny_call_entry F.slot_dict_keyiterator_next st.typeIs F.entry_dict_keyiterator_next ?_ (F.args_dict_keyiterator_next_1 _))))
  refine wpAny_bind (wpAny_pure (wpAny_bind (wpAny_bind ?_)))
  first | refine wpAny_bind (wpAny_typeNameOfWhole_keyiter st.typeIs (wpAny_pure (wpAny_bind (wpAny_fieldsOf go odt ?_)))) | refine wpAny_bind (wpAny_typeNameOf_keyiter st.typeIs (wpAny_pure (wpAny_bind (wpAny_fieldsOf go odt ?_))))
  simp only [show Builtin.Dict_items.ownsTuple "dict_keyiterator" = false by decide, Bool.false_eq_true, if_false]
  show wpAny _ _ (if (Value.ref d == Value.none) = true then _ else _) _ _ s; rw [if_neg (show ¬ ((Value.ref d == Value.none) = true) from Bool.false_ne_true)]
  refine wpAny_bind (wpAny_pure (wpAny_bind (wpAny_dictEntries gd dt ?_))); rw [if_neg (by simp)]
  refine wpAny_bind (wpAny_pure (wpAny_bind (wpAny_dictEpoch gd dt ?_))); rw [if_neg (by simp)]; refine wpAny_pure ?_
  have lt : i < es.size := by
    rcases Nat.lt_or_ge i es.size with h | h
    · exact h
    · rw [Array.getElem?_eq_none h] at at'; cases at'
  have ee : es[i] = e := by rw [Array.getElem?_eq_getElem lt] at at'; exact Option.some.inj at'
  simp only [show ¬ ((i : Int) < 0) from by omega, if_false, Int.toNat_natCast, Array.getElem?_eq_getElem lt]
  refine wpAny_bind ?_
  first | refine wpAny_bind (wpAny_typeNameOfWhole_keyiter st.typeIs (wpAny_pure (wpAny_bind (wpAny_isOneOf_keyiter st.typeIs ?_)))) | refine wpAny_bind (wpAny_typeNameOf_keyiter st.typeIs (wpAny_pure (wpAny_bind (wpAny_isOneOf_keyiter st.typeIs ?_))))
  show wpAny _ _ (setField (.ref it) 1 (rawInt ((i : Int) + 1)) >>= _) _ _ s; refine wpAny_bind (wpAny_setField go odt (by simp) ?_)
  have st' : (s.heap.update it (Obj.mapFields (·.setIfInBounds 1 (rawInt ((i : Int) + 1))))).IsKeyIter it d (i + 1) es.size ep := ⟨_, Heap.get?_update_self _ go (Obj.isFreed_of_fields (Obj.data_mapFields odt _)), (Obj.cls_mapFields ..).trans oc, by rw [Obj.data_mapFields odt]; simp [rawInt]⟩
  refine wpAny_bind (wpAny_holding (wpAny_bind (wpAny_isOneOf_keyiter (s := { s with heap := s.heap.update it (Obj.mapFields (·.setIfInBounds 1 (rawInt ((i : Int) + 1)))) }) st'.typeIs ?_)))
  show wpAny _ _ (pure es[i].key) _ _ _; rw [ee]; exact wpAny_pure (wpAny_pure ⟨_, rfl, wpAny_pure (q _ st' (Heap.SameBut.update ..))⟩)
theorem dk_stop {Q : Option Value → Shared → Prop} (hh : A.handled = none) (st : s.heap.IsKeyIter it d i es.size ep) (gd : s.heap.get? d = some od) (dt : od.data = .dict es ep) (ge : es.size ≤ i)
    (q : ∀ h', Heap.ExtBut it s.heap h' → Q none { s with heap := h' }) : wpAny (model prog w) A (pyNext (.ref it)) Q E s := by
  obtain ⟨o, go, oc, odt⟩ := id st
  unfold pyNext; refine wpAny_bind (wpAny_attempt (wpAny_callSpecial?_slot (name := Str.ofString "__next__") st.typeIs F.slot_dict_keyiterator_next (wpAny_call_entry F.slot_dict_keyiterator_next st.typeIs F.entry_dict_keyiterator_next ?_ (F.args_dict_keyiterator_next_1 _))))
  refine wpAny_bind (wpAny_pure (wpAny_bind (wpAny_bind ?_)))
  first | refine wpAny_bind (wpAny_typeNameOfWhole_keyiter st.typeIs (wpAny_pure (wpAny_bind (wpAny_fieldsOf go odt ?_)))) | refine wpAny_bind (wpAny_typeNameOf_keyiter st.typeIs (wpAny_pure (wpAny_bind (wpAny_fieldsOf go odt ?_))))
  simp only [show Builtin.Dict_items.ownsTuple "dict_keyiterator" = false by decide, Bool.false_eq_true, if_false]
  show wpAny _ _ (if (Value.ref d == Value.none) = true then _ else _) _ _ s; rw [if_neg (show ¬ ((Value.ref d == Value.none) = true) from Bool.false_ne_true)]
  refine wpAny_bind (wpAny_pure (wpAny_bind (wpAny_dictEntries gd dt ?_))); rw [if_neg (by simp)]
  refine wpAny_bind (wpAny_pure (wpAny_bind (wpAny_dictEpoch gd dt ?_))); rw [if_neg (by simp)]; refine wpAny_pure ?_
  simp only [show ¬ ((i : Int) < 0) from by omega, if_false, Int.toNat_natCast, Array.getElem?_eq_none ge]
  refine wpAny_bind ?_
  first | refine wpAny_bind (wpAny_typeNameOfWhole_keyiter st.typeIs (wpAny_pure ?_)) | refine wpAny_bind (wpAny_typeNameOf_keyiter st.typeIs (wpAny_pure ?_))
  show wpAny _ _ (setField (.ref it) 0 .none >>= _) _ _ s; refine wpAny_bind (wpAny_setField go odt (by simp) ?_)
  show wpAny _ _ (newExc (.type "StopIteration") [] >>= _) _ _ _; refine wpAny_bind ?_; simp only [newExc, newTuple]
  refine wpAny_bind (wpAny_newObj_type ?_ (by size_fits)); refine wpAny_bind (m := firstArgMember _ _) (wpAny_of_eq (a := Value.none) (by first | rfl | (simp only [firstArgMember]; rfl)) (wpAny_newObj_type ?_ (by size_fits)))
  simp only [raiseNew]; refine wpAny_bind (wpAny_handled ?_); rw [show A.in1.handled = none from hh]
  refine wpAny_bind (wpAny_pure (wpAny_throw ?_)); refine wpAny_bind (wpAny_isInstance (T := "StopIteration") (b := true) ⟨_, Heap.get?_push_size _ rfl, rfl⟩ isSubtype_stop ?_)
  exact wpAny_pure (q _ (((Heap.SameBut.update ..).extBut.push _).push _))
theorem dk_len {Q : Value → Shared → Prop} (lo : (d == sysModules) = false) (gd : s.heap.get? d = some od) (ex : od.ExactDict) (dt : od.data = .dict es ep) (sm : (es.size : Int) < 2 ^ 63) (q : ∀ t tk, Q (.int es.size t) { s with toks := tk }) : wpAny (model prog w) A (call (.builtin "len") [.ref d]) Q E s := by
  have ty : s.TypeIs (.ref d) "dict" := ⟨od, gd, ex.1⟩
  refine Calls.call_function_entry kind_len plain_len entry_len (args_len1 _) ?_
  unfold Builtin.«len»; refine wpAny_bind (m := oneArg "len" _) (wpAny_pure ?_)
  refine wpAny_bind (m := callSpecial? (.ref d) (Str.ofString "__len__")) (wpAny_callSpecial?_slot (name := Str.ofString "__len__") ty F.slot_dict_len (wpAny_call_entry F.slot_dict_len ty F.entry_dict_len ?_ (F.args_dict_len_1 _)))
  show wpAny _ _ (dictSize d >>= _) _ _ s; unfold dictSize; refine wpAny_bind (wpAny_bind (wpAny_dictEntries gd dt (wpAny_pure ?_)))
  show wpAny _ _ (Builtin.Dict.pendingCount d >>= _) _ _ s; refine wpAny_bind (wpAny_pendingCount_other lo (wpAny_ret_mkInt ?_))
  refine wpAny_bind (wpAny_holding (wpAny_pure ?_)); refine wpAny_bind (wpAny_letGo ?_)
  show wpAny _ _ (if ((es.size : Int) + ((0 : Nat) : Int)) < 0 then _ else _) _ _ _; rw [if_neg (by omega)]
  show wpAny _ _ (if ((es.size : Int) + ((0 : Nat) : Int)) ≥ 2 ^ 63 then _ else _) _ _ _; rw [if_neg (by omega)]
  have z : ((es.size : Int) + ((0 : Nat) : Int)) = (es.size : Int) := by omega
  rw [z]; exact wpAny_bind (wpAny_mkInt (wpAny_pure ⟨_, rfl, q _ _⟩))
end
end L2
namespace L2
open PySem PySem.Spec PyProof.Rows
section
variable {X : Cx} {pins : List (Addr × Obj)} {σ : St} {H : Hp} {s : Shared} {a : Addr} {ob : Obj} {kvs : List (List Key × V)}
theorem Inv.swap {H' : Hp} {u u' : HO} (I : Inv X pins σ H s) (e : H a = some u) (e' : H' a = some u') (o : ∀ b, b ≠ a → H' b = H b) (n1 : ∀ xs, u ≠ .tup xs) (n2 : ∀ y, u ≠ .own y) (n3 : ∀ o y, u ≠ .frz o (.own y)) (n4 : ∀ ps, u ≠ .tbl ps) (n5 : ∀ o v, X.H₀ a ≠ some (.frz o v)) (n6 : ∀ ps, X.H₀ a ≠ some (.tbl ps)) (new : ObjOk X.prog X.w H' s.heap a u') : Inv X pins σ H' s := by
  have ne : ∀ {b : Addr}, H b = none → b ≠ a := fun z y => by subst y; rw [e] at z; cases z
  have keep : ∀ {b : Addr} {v : HO}, H b = some v → v ≠ u → H' b = some v := fun {b v} z w => by
    by_cases hb : b = a
    · subst hb; rw [e] at z; cases z; exact absurd rfl w
    · rw [o b hb]; exact z
  refine ⟨I.ok, I.os, I.bare, ⟨I.base.keep, I.base.slot, fun b x z n hx => ?_, I.base.there, fun b xs z => ?_, fun b x v z => ?_, fun b ps z => ?_⟩, I.loc, I.cell, ?_, fun x c z => ?_, fun p hp => ?_, fun b x z => ?_, I.len⟩
  · have := I.base.free b x z n hx
    rw [o b (ne this)]; exact this
  · exact keep (I.base.tups b xs z) fun y => n1 xs y.symm
  · by_cases hb : b = a
    · subst hb; exact absurd z (n5 x v)
    · rw [o b hb]; exact I.base.frzs b x v z
  · by_cases hb : b = a
    · subst hb; exact absurd z (n6 ps)
    · rw [o b hb]; exact I.base.tbls b ps z
  · rw [o _ (ne I.free)]; exact I.free
  · rw [o _ (ne (I.freeC x c z))]; exact I.freeC x c z
  · obtain ⟨h1, h2, h3⟩ := I.pin p hp
    exact ⟨h1, by rw [o _ (ne h2)]; exact h2, h3⟩
  · by_cases hb : b = a
    · subst hb
      rw [e'] at z
      cases z
      exact new
    · rw [o b hb] at z
      exact (I.hok b x z).stay (fun c v _ q => q) (fun c q => keep q fun y => n2 _ y.symm) (fun c xs q => keep q fun y => n1 _ y.symm) fun c oc y q => keep q fun z => n3 _ _ z.symm
theorem Inv.freeze (I : Inv X pins σ H s) (e : H a = some (.dT kvs)) : ∃ ob, Inv X pins σ (upd H a (.frz ob (.dT kvs))) s := by
  obtain ⟨z, y, xs, r, ob, es, ep, h1, h2, h3, h4, h5⟩ := (show ObjOk X.prog X.w H s.heap a (.dT kvs) from I.hok a _ e)
  refine ⟨ob, I.swap e upd_same (fun b hb => upd_ne hb) (fun _ z => nomatch z) (fun _ z => nomatch z) (fun _ _ z => nomatch z) (fun _ z => nomatch z) (fun o v z => ?_) (fun ps z => ?_) ⟨h1, ?_⟩⟩
  · have := I.base.frzs a o v z; rw [e] at this; cases this
  · obtain ⟨m, this⟩ := I.base.tbls a ps z; rw [e] at this; cases this
  · refine ((I.hok a _ e).stay (fun c v _ q => q) (fun c q => ?_) (fun c xs q => ?_) fun c oc y q => ?_)
    · rw [upd_ne (fun z => by subst z; rw [e] at q; cases q)]; exact q
    · rw [upd_ne (fun z => by subst z; rw [e] at q; cases q)]; exact q
    · rw [upd_ne (fun z => by subst z; rw [e] at q; cases q)]; exact q
theorem Inv.thaw (I : Inv X pins σ H s) (e : H a = some (.frz ob (.dT kvs))) (n5 : ∀ o v, X.H₀ a ≠ some (.frz o v)) : Inv X pins σ (upd H a (.dT kvs)) s := by
  obtain ⟨h1, h2⟩ := (show ObjOk X.prog X.w H s.heap a (.frz ob (.dT kvs)) from I.hok a _ e)
  refine I.swap e upd_same (fun b hb => upd_ne hb) (fun _ z => nomatch z) (fun _ z => nomatch z) (fun _ _ z => nomatch z) (fun _ z => nomatch z) n5 (fun ps z => ?_) ?_
  · obtain ⟨m, this⟩ := I.base.tbls a ps z; rw [e] at this; cases this
  · refine h2.stay (fun c v _ q => q) (fun c q => ?_) (fun c xs q => ?_) fun c oc y q => ?_
    · rw [upd_ne (fun z => by subst z; rw [e] at q; cases q)]; exact q
    · rw [upd_ne (fun z => by subst z; rw [e] at q; cases q)]; exact q
    · rw [upd_ne (fun z => by subst z; rw [e] at q; cases q)]; exact q
def tFrz (t : TE) : TE := fun σ H Q => ∃ a kvs, H a = some (.dT kvs) ∧ ∀ ob, t σ (upd H a (.frz ob (.dT kvs))) fun v H' => H' a = some (.frz ob (.dT kvs)) ∧ Q v (upd H' a (.dT kvs))
theorem pe_frz {e : Expr} {t : TE} (h : PE X e t) : PE X e (tFrz t) := by
  intro pins s σ H Q I ⟨a, kvs, ea, q⟩
  obtain ⟨ob, I'⟩ := I.freeze ea
  refine thn (h pins s σ _ _ I' (q ob)) fun u s' ⟨v, H', I2, r, e2, q2⟩ => ⟨v, _, I2.thaw e2 fun o w z => ?_, r, q2⟩
  have := I.base.frzs a o w z
  rw [ea] at this
  cases this
def Itd (a : Addr) (ob : Obj) (kvs : List (List Key × V)) : It where
  go := fun i H => H a = some (.frz ob (.dT kvs)) ∧ i < kvs.length
  yld := fun i H x H' => H' = H ∧ ∃ b p, x = .ref b ∧ kvs[i]? = some p ∧ H b = some (.tup (p.1.map kV))
  stop := fun i H => H a = some (.frz ob (.dT kvs)) ∧ kvs.length ≤ i
theorem a7n {α β : Type} {F : α → β → Prop} {l₁ : List α} {l₂ : List β} (r : Paired F l₁ l₂) : ∀ {i : Nat} {p : α}, l₁[i]? = some p → ∃ q, l₂[i]? = some q ∧ F p q := by
  induction r with
  | nil => intro i p h; cases i <;> cases h
  | cons h t ih =>
    intro i p e
    cases i with
    | zero => cases e; exact ⟨_, rfl, h⟩
    | succ j => exact ih e
theorem a61 {P : Program} {w : World} {K : PySem.W.Frag} {tg : Expr} {es : Array DictEntry} {ep : Nat} (it : Addr) (dt : ob.data = .dict es ep) : Turn P w K tg (Itd a ob kvs) [it] it (fun i h => h.IsKeyIter it a i es.size ep) where
  mem := by simp
  obj := fun i h st b hb => by
    have e : b = it := by simpa using hb
    subst e
    obtain ⟨o, e, c, d⟩ := st
    exact ⟨o, e, fun v z => by rw [d] at z; cases z⟩
  keep := fun i h h' ⟨o, e, r⟩ k => ⟨o, k it (by simp) o e, r⟩
  item := by
    intro X hP hw hK hc i pins s σ H E I hf st ⟨ea, hi⟩
    subst hP hw hK
    obtain ⟨h1, h2⟩ := (show ObjOk X.prog X.w H s.heap a (.frz ob (.dT kvs)) from I.hok a _ ea)
    obtain ⟨z, y, xs, r, ob', es', ep', g1, g2, g3, g4, g5⟩ := h2
    rw [h1] at g1
    cases g1
    rw [dt] at g3
    cases g3
    obtain ⟨p, hp⟩ : ∃ p, kvs[i]? = some p := ⟨_, List.getElem?_eq_getElem hi⟩
    obtain ⟨q, hq, hk, ht, _⟩ := a7n r hp
    have he : es[i]? = some (entryOfKey (tupleKind (mixKind X.prog X.w)) q) := by rw [entry_at g4, hq]; rfl
    obtain ⟨f0, f1, f2, f3, f4, f5⟩ := hf it (by simp)
    refine dk_item st h1 dt he fun h' st' sb => ?_
    have I1 : Inv X pins σ H { s with heap := h' } := I.turned (t' := s.toks) (fun b o hb e => (sb.2 b hb).trans e) f0 f1 f3 f4 f5
    obtain ⟨o, e, c, d⟩ := id st'
    exact ⟨_, rfl, go_of (s := { s with heap := h' }) e c d (by decide) ⟨.ref q.2.1, H, I1, rfl, ⟨rfl, q.2.1, p, rfl, hp, ht⟩, st', fun b hb => (hf b hb).1⟩⟩
  done := by
    intro X hP hw hK hc i pins s σ H E I hf st ⟨ea, hi⟩
    subst hP hw hK
    obtain ⟨h1, h2⟩ := (show ObjOk X.prog X.w H s.heap a (.frz ob (.dT kvs)) from I.hok a _ ea)
    obtain ⟨z, y, xs, r, ob', es', ep', g1, g2, g3, g4, g5⟩ := h2
    rw [h1] at g1
    cases g1
    rw [dt] at g3
    cases g3
    obtain ⟨f0, f1, f2, f3, f4, f5⟩ := hf it (by simp)
    have hsz : es.size = kvs.length := by rw [size_of_entries g4, Paired.length r]
    exact dk_stop (I.ok.hd hc) st h1 dt (by rw [hsz]; exact hi) fun h' eb => ⟨rfl, I.turned (t' := s.toks) (fun b o hb e => eb b o hb e) f0 f1 f3 f4 f5⟩
  self := fun _ _ _ _ _ st h => wpAny_pyIter_keyiter st h
def iDct (i : Nat) : TI := fun σ H R => ∃ a ob kvs, σ[i]? = some (some (.ref a)) ∧ H a = some (.frz ob (.dT kvs)) ∧ R (Itd a ob kvs) H
theorem pi_dict {i : Nat} {e tg : Expr} (hv : PE X e (tVar i)) : PI X tg e (iDct i) := by
  intro pins s σ H R I ⟨a, ob, kvs, es, ea, q⟩
  refine thn (hv pins s σ H (fun v H' => v = .ref a ∧ H' = H) I ⟨_, es, rfl, rfl⟩) fun v s1 ⟨x, H1, I1, r1, ex, eh⟩ => ?_
  subst ex eh
  cases r1
  obtain ⟨h1, h2⟩ := (show ObjOk X.prog X.w H1 s1.heap a (.frz ob (.dT kvs)) from I1.hok a _ ea)
  obtain ⟨z, y, xs, r, ob', es', ep', g1, g2, g3, g4, g5⟩ := h2
  rw [h1] at g1
  cases g1
  refine dk_iter y h1 g2 g3 ?_
  refine ⟨s1.heap.objs.size, [s1.heap.objs.size], _, _, H1, rfl, I1.kept (t' := s1.toks) fun b o e => Heap.get?_push_of_some _ e, a61 _ g3, ⟨_, Heap.get?_push_size _ rfl, rfl, rfl⟩, fun b hb => ?_, q⟩
  have e : b = s1.heap.objs.size := by simpa using hb
  subst e
  exact I1.fpOk (Nat.le_refl _) (I1.hok.fresh (Nat.le_refl _))
end
end L2
namespace L3
open PySem PySem.Spec PyProof.Rows L2
structure Ct where
  K : PySem.W.Frag
  cls : String → Addr
  clo : Nat → Hp → Addr → List V → Prop
  cloM : ∀ {k : Nat} {H H' : Hp} {a : Addr} {xs : List V}, Same H H' → clo k H a xs → clo k H' a xs
  tb : Hp
def ctOf (K : PySem.W.Frag) (cls : String → Addr) : Ct := ⟨K, cls, fun _ _ _ _ => False, fun _ h => h, fun _ => none⟩
mutual
def Rep (Γ : Ct) (H : Hp) : D → V → Prop
  | .non, v => v = .non
  | .bl b, v => v = .bl b
  | .int i, v => v = .int i
  | .str x, v => v = .str x
  | .tup ds, v => ∃ a xs, v = .ref a ∧ SqT Γ.K H a xs ∧ RepL Γ H ds xs
  | .lst ds, v => ∃ a xs, v = .ref a ∧ SqL Γ.K H a xs ∧ RepL Γ H ds xs
  | .obj c ns ds, v => ∃ a dx xs, v = .ref a ∧ H a = some (.ins (Γ.cls c) dx (ns.zip xs)) ∧ RepL Γ H ds xs
  | .fn k ds, v => ∃ a xs, v = .ref a ∧ Γ.clo k H a xs ∧ RepL Γ H ds xs
def RepL (Γ : Ct) (H : Hp) : List D → List V → Prop
  | [], xs => xs = []
  | d :: ds, xs => ∃ x r, xs = x :: r ∧ Rep Γ H d x ∧ RepL Γ H ds r
end
theorem a0U {K : PySem.W.Frag} {H H' : Hp} {a : Addr} {xs : List V} (e : Same H H') (h : SqT K H a xs) : SqT K H' a xs := by
  rcases h with (h | ⟨o, h⟩) | h
  · exact .inl (.inl (e _ _ h))
  · exact .inl (.inr ⟨o, e _ _ h⟩)
  · exact .inr h
mutual
theorem Rep.mono {Γ : Ct} {H H' : Hp} (e : Same H H') : ∀ {d : D} {v : V}, Rep Γ H d v → Rep Γ H' d v
  | .non, _, r => by unfold Rep at r ⊢; exact r
  | .bl _, _, r => by unfold Rep at r ⊢; exact r
  | .int _, _, r => by unfold Rep at r ⊢; exact r
  | .str _, _, r => by unfold Rep at r ⊢; exact r
  | .tup ds, _, r => by
    unfold Rep at r ⊢
    obtain ⟨a, xs, e1, q, r⟩ := r
    exact ⟨a, xs, e1, a0U e q, RepL.mono e r⟩
  | .lst ds, _, r => by
    unfold Rep at r ⊢
    obtain ⟨a, xs, e1, q, r⟩ := r
    exact ⟨a, xs, e1, Same.seq e q, RepL.mono e r⟩
  | .obj c ns ds, _, r => by
    unfold Rep at r ⊢
    obtain ⟨a, dx, xs, e1, q, r⟩ := r
    exact ⟨a, dx, xs, e1, e _ _ q, RepL.mono e r⟩
  | .fn k ds, _, r => by
    unfold Rep at r ⊢
    obtain ⟨a, xs, e1, q, r⟩ := r
    exact ⟨a, xs, e1, Γ.cloM e q, RepL.mono e r⟩
theorem RepL.mono {Γ : Ct} {H H' : Hp} (e : Same H H') : ∀ {ds : List D} {xs : List V}, RepL Γ H ds xs → RepL Γ H' ds xs
  | [], _, r => by unfold RepL at r ⊢; exact r
  | d :: ds, _, r => by
    unfold RepL at r ⊢
    obtain ⟨x, r', e1, q, r2⟩ := r
    exact ⟨x, r', e1, Rep.mono e q, RepL.mono e r2⟩
end
section
variable {Γ : Ct} {H H' : Hp}
theorem a1K {v : V} : Rep Γ H .non v ↔ v = .non := by unfold Rep; exact Iff.rfl
theorem a0X {b : Bool} {v : V} : Rep Γ H (.bl b) v ↔ v = .bl b := by unfold Rep; exact Iff.rfl
theorem a0g {i : Int} {v : V} : Rep Γ H (.int i) v ↔ v = .int i := by unfold Rep; exact Iff.rfl
theorem a0R {x : Str} {v : V} : Rep Γ H (.str x) v ↔ v = .str x := by unfold Rep; exact Iff.rfl
theorem a1m {ds : List D} {v : V} : Rep Γ H (.tup ds) v ↔ ∃ a xs, v = .ref a ∧ SqT Γ.K H a xs ∧ RepL Γ H ds xs := by
  constructor
  · intro h; unfold Rep at h; exact h
  · intro h; unfold Rep; exact h
theorem a1s {ds : List D} {v : V} : Rep Γ H (.lst ds) v ↔ ∃ a xs, v = .ref a ∧ SqL Γ.K H a xs ∧ RepL Γ H ds xs := by
  constructor
  · intro h; unfold Rep at h; exact h
  · intro h; unfold Rep; exact h
theorem rep_obj {c : String} {ns : List Str} {ds : List D} {v : V} : Rep Γ H (.obj c ns ds) v ↔ ∃ a dx xs, v = .ref a ∧ H a = some (.ins (Γ.cls c) dx (ns.zip xs)) ∧ RepL Γ H ds xs := by
  constructor
  · intro h; unfold Rep at h; exact h
  · intro h; unfold Rep; exact h
theorem a03 {xs : List V} : RepL Γ H [] xs ↔ xs = [] := by unfold RepL; exact Iff.rfl
theorem a0s {d : D} {ds : List D} {xs : List V} : RepL Γ H (d :: ds) xs ↔ ∃ x r, xs = x :: r ∧ Rep Γ H d x ∧ RepL Γ H ds r := by
  constructor
  · intro h; unfold RepL at h; exact h
  · intro h; unfold RepL; exact h
theorem RepL.nil : RepL Γ H [] [] := a03.mpr rfl
theorem RepL.cons {d : D} {ds : List D} {x : V} {xs : List V} (h : Rep Γ H d x) (t : RepL Γ H ds xs) : RepL Γ H (d :: ds) (x :: xs) := a0s.mpr ⟨x, xs, rfl, h, t⟩
theorem RepL.length : ∀ {ds : List D} {xs : List V}, RepL Γ H ds xs → ds.length = xs.length
  | [], xs, h => by rw [a03.mp h]; rfl
  | d :: ds, xs, h => by
    obtain ⟨x, r, e, _, t⟩ := a0s.mp h
    rw [e, List.length_cons, List.length_cons, RepL.length t]
theorem RepL.append : ∀ {ds es : List D} {xs ys : List V}, RepL Γ H ds xs → RepL Γ H es ys → RepL Γ H (ds ++ es) (xs ++ ys)
  | [], es, xs, ys, h, h' => by rw [a03.mp h]; exact h'
  | d :: ds, es, xs, ys, h, h' => by
    obtain ⟨x, r, e, q, t⟩ := a0s.mp h
    rw [e]
    exact .cons q (RepL.append t h')
theorem RepL.get : ∀ {ds : List D} {xs : List V} {i : Nat} {d : D}, RepL Γ H ds xs → ds[i]? = some d → ∃ x, xs[i]? = some x ∧ Rep Γ H d x
  | [], xs, i, d, h, e => by simp at e
  | d :: ds, xs, 0, d', h, e => by
    obtain ⟨x, r, e1, q, t⟩ := a0s.mp h
    simp at e
    subst e e1
    exact ⟨x, rfl, q⟩
  | d :: ds, xs, i + 1, d', h, e => by
    obtain ⟨x, r, e1, q, t⟩ := a0s.mp h
    obtain ⟨y, e2, q2⟩ := RepL.get (i := i) t (by simpa using e)
    subst e1
    exact ⟨y, by simpa using e2, q2⟩
theorem RepL.take : ∀ {ds : List D} {xs : List V} (n : Nat), RepL Γ H ds xs → RepL Γ H (ds.take n) (xs.take n)
  | _, _, 0, _ => .nil
  | [], xs, n + 1, h => by rw [a03.mp h]; exact .nil
  | d :: ds, xs, n + 1, h => by
    obtain ⟨x, r, e, q, t⟩ := a0s.mp h
    subst e
    exact .cons q (RepL.take n t)
theorem RepL.drop : ∀ {ds : List D} {xs : List V} (n : Nat), RepL Γ H ds xs → RepL Γ H (ds.drop n) (xs.drop n)
  | _, _, 0, h => h
  | [], xs, n + 1, h => by rw [a03.mp h]; exact .nil
  | d :: ds, xs, n + 1, h => by
    obtain ⟨x, r, e, q, t⟩ := a0s.mp h
    subst e
    exact RepL.drop n t
theorem RepL.rep {ds : List D} {xs : List V} (h : RepL Γ H ds xs) : ∀ k : Nat, RepL Γ H (List.replicate k ds).flatten (List.replicate k xs).flatten
  | 0 => .nil
  | k + 1 => by
    rw [List.replicate_succ, List.replicate_succ, List.flatten_cons, List.flatten_cons]
    exact h.append (RepL.rep h k)
theorem RepL.set {d : D} {x : V} (q : Rep Γ H d x) : ∀ {ds : List D} {xs : List V} (i : Nat), RepL Γ H ds xs → RepL Γ H (ds.set i d) (xs.set i x)
  | [], xs, i, h => by rw [a03.mp h]; exact .nil
  | e :: ds, xs, 0, h => by
    obtain ⟨y, r, e1, _, t⟩ := a0s.mp h
    subst e1
    exact .cons q t
  | e :: ds, xs, i + 1, h => by
    obtain ⟨y, r, e1, q1, t⟩ := a0s.mp h
    subst e1
    exact .cons q1 (RepL.set q i t)
theorem RepL.ints : ∀ (ns : List Int), RepL Γ H (ns.map D.int) (ns.map V.int)
  | [] => .nil
  | n :: ns => .cons (a0g.mpr rfl) (RepL.ints ns)
theorem RepL.intsOf : ∀ {ds : List D} {xs : List V} {ns : List Int}, RepL Γ H ds xs → intsOf ds = some ns → xs = ns.map V.int
  | [], xs, ns, h, e => by
    cases e
    exact a03.mp h
  | .int i :: ds, xs, ns, h, e => by
    obtain ⟨x, r, e1, q, t⟩ := a0s.mp h
    unfold L3.intsOf at e
    cases e2 : L3.intsOf ds with
    | none => rw [e2] at e; cases e
    | some ms =>
      rw [e2] at e
      cases e
      rw [e1, a0g.mp q, RepL.intsOf t e2, List.map_cons]
  | .non :: ds, xs, ns, h, e => by cases e
  | .bl _ :: ds, xs, ns, h, e => by cases e
  | .str _ :: ds, xs, ns, h, e => by cases e
  | .tup _ :: ds, xs, ns, h, e => by cases e
  | .lst _ :: ds, xs, ns, h, e => by cases e
  | .fn _ _ :: ds, xs, ns, h, e => by cases e
  | .obj _ _ _ :: ds, xs, ns, h, e => by cases e
theorem RepL.blsOf : ∀ {ds : List D} {xs : List V} {ns : List Bool}, RepL Γ H ds xs → blsOf ds = some ns → xs = ns.map V.bl
  | [], xs, ns, h, e => by
    cases e
    exact a03.mp h
  | .bl i :: ds, xs, ns, h, e => by
    obtain ⟨x, r, e1, q, t⟩ := a0s.mp h
    unfold L3.blsOf at e
    cases e2 : L3.blsOf ds with
    | none => rw [e2] at e; cases e
    | some ms =>
      rw [e2] at e
      cases e
      rw [e1, a0X.mp q, RepL.blsOf t e2, List.map_cons]
  | .non :: ds, xs, ns, h, e => by cases e
  | .int _ :: ds, xs, ns, h, e => by cases e
  | .str _ :: ds, xs, ns, h, e => by cases e
  | .tup _ :: ds, xs, ns, h, e => by cases e
  | .lst _ :: ds, xs, ns, h, e => by cases e
  | .fn _ _ :: ds, xs, ns, h, e => by cases e
  | .obj _ _ _ :: ds, xs, ns, h, e => by cases e
theorem rep_flat {d : D} {v : V} (h : Rep Γ H d v) (f : flat d = true) : Rep Γ H' d v := by
  cases d with
  | non => exact a1K.mpr (a1K.mp h)
  | bl _ => exact a0X.mpr (a0X.mp h)
  | int _ => exact a0g.mpr (a0g.mp h)
  | str _ => exact a0R.mpr (a0R.mp h)
  | tup _ => cases f
  | lst _ => cases f
  | fn _ _ => cases f
  | obj _ _ _ => cases f
end
def RepO (Γ : Ct) (Hs : Hp) : O → HO → Prop
  | .lst ds, ho => ∃ xs, ho = .lst xs ∧ RepL Γ Hs ds xs
  | .obj c ns ds, ho => ∃ dx xs, ho = .ins (Γ.cls c) dx (ns.zip xs) ∧ RepL Γ Hs ds xs
  | .dic _, _ => False
  | .par _ _, _ => False
  | .fdic _, _ => False
def kvT (kvs : List (List Int × Int)) : List (List Key × V) := kvs.map fun p => (p.1.map Sum.inl, V.int p.2)
def RepW (Γ : Ct) (Hs : Hp) (a : Addr) : O → HO → Prop
  | .lst ds, ho => ∃ xs, ho = .lst xs ∧ RepL Γ Hs ds xs
  | .obj c ns ds, ho => ∃ dx xs, ho = .ins (Γ.cls c) dx (ns.zip xs) ∧ RepL Γ Hs ds xs
  | .dic kvs, ho => ho = .dT (kvT kvs)
  | .par b o, ho => a = b ∧ RepW Γ Hs a o ho
  | .fdic kvs, ho => ∃ ob, ho = .frz ob (.dT (kvT kvs))
theorem RepO.w {Γ : Ct} {H : Hp} {o : O} {ho : HO} {a : Addr} (h : RepO Γ H o ho) : RepW Γ H a o ho := by
  cases o with
  | lst ds => exact h
  | obj c ns ds => exact h
  | dic _ => exact h.elim
  | par _ _ => exact h.elim
  | fdic _ => exact h.elim
theorem RepW.o {Γ : Ct} {H : Hp} {o : O} {ho : HO} {a : Addr} (h : RepW Γ H a o ho) (n : ∀ kvs, o ≠ .dic kvs) (n2 : ∀ b u, o ≠ .par b u) (n3 : ∀ kvs, o ≠ .fdic kvs) : RepO Γ H o ho := by
  cases o with
  | lst ds => exact h
  | obj c ns ds => exact h
  | dic kvs => exact (n kvs rfl).elim
  | par b u => exact (n2 b u rfl).elim
  | fdic kvs => exact (n3 kvs rfl).elim
theorem RepW.mono {Γ : Ct} {H H' : Hp} (e : Same H H') {a : Addr} : ∀ {o : O} {ho : HO}, RepW Γ H a o ho → RepW Γ H' a o ho
  | .lst ds, _, h => by obtain ⟨xs, e1, r⟩ := h; exact ⟨xs, e1, r.mono e⟩
  | .obj c ns ds, _, h => by obtain ⟨dx, xs, e1, r⟩ := h; exact ⟨dx, xs, e1, r.mono e⟩
  | .dic _, _, h => h
  | .par b o, _, h => ⟨h.1, RepW.mono e h.2⟩
  | .fdic _, _, h => h
theorem RepO.mono {Γ : Ct} {H H' : Hp} (e : Same H H') {o : O} {ho : HO} (h : RepO Γ H o ho) : RepO Γ H' o ho := by
  cases o with
  | dic _ => exact h.elim
  | par _ _ => exact h.elim
  | fdic _ => exact h.elim
  | lst ds => obtain ⟨xs, e1, r⟩ := h; exact ⟨xs, e1, r.mono e⟩
  | obj c ns ds => obtain ⟨dx, xs, e1, r⟩ := h; exact ⟨dx, xs, e1, r.mono e⟩
theorem RepO.val {Γ : Ct} {H : Hp} {o : O} {ho : HO} {a : Addr} (h : RepO Γ H o ho) (e : H a = some ho) : Rep Γ H o.val (.ref a) := by
  cases o with
  | dic _ => exact h.elim
  | par _ _ => exact h.elim
  | fdic _ => exact h.elim
  | lst ds => obtain ⟨xs, e1, r⟩ := h; subst e1; exact a1s.mpr ⟨a, xs, rfl, .of e, r⟩
  | obj c ns ds => obtain ⟨dx, xs, e1, r⟩ := h; subst e1; exact rep_obj.mpr ⟨a, dx, xs, rfl, e, r⟩
structure Grow (Hs H Hs' H' : Hp) : Prop where
  s : Same Hs Hs'
  h : Same H H'
  i : Same Hs' H'
  n : ∀ b o, Hs' b = some o → Hs b = some o ∨ H b = none
theorem Grow.refl {Hs H : Hp} (e : Same Hs H) : Grow Hs H Hs H := ⟨.refl _, .refl _, e, fun _ _ q => .inl q⟩
theorem Grow.trans {Hs H Hs1 H1 Hs2 H2 : Hp} (a : Grow Hs H Hs1 H1) (b : Grow Hs1 H1 Hs2 H2) : Grow Hs H Hs2 H2 :=
  ⟨a.s.trans b.s, a.h.trans b.h, b.i, fun c o q => (b.n c o q).elim (fun z => a.n c o z) fun z => .inr (a.h.free z)⟩
theorem Grow.only {Hs H H' : Hp} (e : Same Hs H) (k : Same H H') : Grow Hs H Hs H' := ⟨.refl _, k, e.trans k, fun _ _ q => .inl q⟩
theorem a0M {H : Hp} {p : Addr} {o : HO} (h : H p = none) : Same H (upd H p o) := fun b u e => by rw [upd_ne (ne_of_none e h)]; exact e
theorem Grow.new {Hs H : Hp} {p : Addr} {o : HO} (e : Same Hs H) (h : H p = none) : Grow Hs H (upd Hs p o) (upd H p o) :=
  ⟨a0M (e.free h), a0M h, fun b u q => by
    by_cases hb : b = p
    · subst hb; rw [upd_same] at q ⊢; exact q
    · rw [upd_ne hb] at q ⊢; exact e _ _ q, fun b u q => by
    by_cases hb : b = p
    · subst hb; exact .inr h
    · rw [upd_ne hb] at q; exact .inl q⟩
theorem Grow.newOwn {Hs H : Hp} {p : Addr} {o : HO} (e : Same Hs H) (h : H p = none) : Grow Hs H Hs (upd H p o) := .only e (a0M h)
theorem Grow.share {Hs H Hs' H' : Hp} {a : Addr} {ho : HO} (g : Grow Hs H Hs' H') (h0 : H a = none) (h1 : Hs' a = none) (h2 : H' a = some ho) : Grow Hs H (upd Hs' a ho) H' ∧ Same Hs' (upd Hs' a ho) :=
  ⟨⟨g.s.trans (a0M h1), g.h, fun b u q => by
    by_cases hb : b = a
    · subst hb; rw [upd_same] at q; cases q; exact h2
    · rw [upd_ne hb] at q; exact g.i _ _ q, fun b u q => by
    by_cases hb : b = a
    · subst hb; exact .inr h0
    · rw [upd_ne hb] at q; exact g.n _ _ q⟩, a0M h1⟩
inductive RepN (Γ : Ct) (H Hs' H' : Hp) (o : O) (v : V) : Prop
  | mk (a : Addr) (ho : HO) (ev : v = .ref a) (h0 : H a = none) (h1 : Hs' a = none) (h2 : H' a = some ho) (q : RepO Γ Hs' o ho)
def RepS (Γ : Ct) (H Hs' H' : Hp) : S → V → Prop
  | .sh d, v => Rep Γ Hs' d v
  | .own o, v => RepN Γ H Hs' H' o v
  | .two d a o, v => Rep Γ Hs' d v ∧ ∃ ho, Hs' a = none ∧ H' a = some ho ∧ RepW Γ Hs' a o ho
theorem RepS.of {Γ : Ct} {H Hs' H' : Hp} {d : D} {v : V} (h : Rep Γ Hs' d v) : RepS Γ H Hs' H' (.sh d) v := h
theorem RepS.share {Γ : Ct} {Hs H Hs' H' : Hp} {s : S} {v : V} (g : Grow Hs H Hs' H') (r : RepS Γ H Hs' H' s v) : ∃ Hs'', Grow Hs H Hs'' H' ∧ Same Hs' Hs'' ∧ Rep Γ Hs'' s.val v := by
  cases s with
  | sh d => exact ⟨Hs', g, .refl _, r⟩
  | own o =>
    obtain ⟨a, ho, rfl, h0, h1, h2, q⟩ := r
    obtain ⟨g', e⟩ := g.share h0 h1 h2
    exact ⟨_, g', e, (q.mono e).val upd_same⟩
  | two d a o => exact ⟨Hs', g, .refl _, r.1⟩
theorem RepS.look {Γ : Ct} {Hs H Hs' H' : Hp} {s : S} {v : V} (g : Grow Hs H Hs' H') (r : RepS Γ H Hs' H' s v) : Rep Γ H' s.val v := by
  cases s with
  | sh d => exact Rep.mono g.i r
  | own o =>
    obtain ⟨a, ho, rfl, h0, h1, h2, q⟩ := r
    exact (q.mono g.i).val h2
  | two d a o => exact Rep.mono g.i r.1
theorem RepS.back {Γ : Ct} {H H1 Hs' H' : Hp} {s : S} {v : V} (k : Same H H1) (r : RepS Γ H1 Hs' H' s v) : RepS Γ H Hs' H' s v := by
  cases s with
  | sh d => exact r
  | own o =>
    obtain ⟨a, ho, e, h0, h1, h2, q⟩ := r
    exact ⟨a, ho, e, k.free h0, h1, h2, q⟩
  | two d a o => exact r
inductive OwnAt (Γ : Ct) (B1 Hs H : Hp) (x : Option (Option V)) (o : O) : Prop
  | mk (a : Addr) (ho : HO) (e1 : x = some (some (.ref a))) (e2 : B1 a = none) (e3 : Hs a = none) (e4 : H a = some ho) (q : RepW Γ Hs a o ho)
structure RE (Γ : Ct) (B0 B1 Hs H : Hp) (σ : L2.St) (ρ : MEnv) : Prop where
  b : Grow B0 B1 Hs H
  sh : ∀ (i : Nat) (d : D), ρ[i]? = some (some (.sh d)) → ∃ v, σ[i]? = some (some v) ∧ Rep Γ Hs d v
  own : ∀ (i : Nat) (o : O), ρ[i]? = some (some (.own o)) → OwnAt Γ B1 Hs H σ[i]? o
  apart : ∀ (i j : Nat) (o u : O) (a : Addr), i ≠ j → ρ[i]? = some (some (.own o)) → ρ[j]? = some (some (.own u)) → σ[i]? = some (some (.ref a)) → σ[j]? ≠ some (some (.ref a))
  len : ρ.length = σ.length
  tb : Same Γ.tb Hs
section
variable {Γ : Ct} {B0 B1 Hs H Hs' H' : Hp} {σ : L2.St} {ρ : MEnv}
theorem RE.grow (r : RE Γ B0 B1 Hs H σ ρ) (g : Grow Hs H Hs' H') : RE Γ B0 B1 Hs' H' σ ρ where
  tb := r.tb.trans g.s
  b := r.b.trans g
  sh := fun i d e => let ⟨v, e1, q⟩ := r.sh i d e; ⟨v, e1, q.mono g.s⟩
  own := fun i o e => by
    obtain ⟨a, ho, e1, e2, e3, e4, q⟩ := r.own i o e
    refine ⟨a, ho, e1, e2, ?_, g.h _ _ e4, q.mono g.s⟩
    cases z : Hs' a with
    | none => rfl
    | some u =>
      rcases g.n a u z with z' | z'
      · rw [e3] at z'; cases z'
      · rw [e4] at z'; cases z'
  apart := r.apart
  len := r.len
theorem RE.setSh (r : RE Γ B0 B1 Hs H σ ρ) {i : Nat} {d : D} {v : V} (hi : i < σ.length) (q : Rep Γ Hs d v) : RE Γ B0 B1 Hs H (σ.set i (some v)) (ρ.set i (some (.sh d))) where
  tb := r.tb
  b := r.b
  sh := fun j e hj => by
    by_cases h : i = j
    · subst h
      rw [List.getElem?_set_self (by rw [r.len]; exact hi)] at hj
      cases hj
      exact ⟨v, List.getElem?_set_self hi, q⟩
    · rw [List.getElem?_set_ne h] at hj ⊢
      exact r.sh j e hj
  own := fun j o hj => by
    by_cases h : i = j
    · subst h
      rw [List.getElem?_set_self (by rw [r.len]; exact hi)] at hj
      cases hj
    · rw [List.getElem?_set_ne h] at hj ⊢
      exact r.own j o hj
  apart := fun j k o u a hjk hj hk ha => by
    have n1 : i ≠ j := fun z => by subst z; rw [List.getElem?_set_self (by rw [r.len]; exact hi)] at hj; cases hj
    have n2 : i ≠ k := fun z => by subst z; rw [List.getElem?_set_self (by rw [r.len]; exact hi)] at hk; cases hk
    rw [List.getElem?_set_ne n1] at hj ha
    rw [List.getElem?_set_ne n2] at hk ⊢
    exact r.apart j k o u a hjk hj hk ha
  len := by rw [List.length_set, List.length_set, r.len]
theorem RE.setOwn (r : RE Γ B0 B1 Hs H σ ρ) {i : Nat} {o : O} {a : Addr} {ho : HO} (hi : i < σ.length) (b1 : B1 a = none) (h1 : Hs a = none) (h2 : H a = some ho) (q : RepW Γ Hs a o ho)
    (new : ∀ (j : Nat) (u : O), j ≠ i → ρ[j]? = some (some (.own u)) → σ[j]? ≠ some (some (.ref a))) : RE Γ B0 B1 Hs H (σ.set i (some (.ref a))) (ρ.set i (some (.own o))) where
  tb := r.tb
  b := r.b
  sh := fun j e hj => by
    by_cases h : i = j
    · subst h
      rw [List.getElem?_set_self (by rw [r.len]; exact hi)] at hj
      cases hj
    · rw [List.getElem?_set_ne h] at hj ⊢
      exact r.sh j e hj
  own := fun j u hj => by
    by_cases h : i = j
    · subst h
      rw [List.getElem?_set_self (by rw [r.len]; exact hi)] at hj
      cases hj
      exact ⟨a, ho, List.getElem?_set_self hi, b1, h1, h2, q⟩
    · rw [List.getElem?_set_ne h] at hj ⊢
      exact r.own j u hj
  apart := fun j k u u' c hjk hj hk ha => by
    by_cases hij : i = j
    · subst hij
      rw [List.getElem?_set_self hi] at ha
      cases ha
      rw [List.getElem?_set_ne hjk] at hk ⊢
      exact new k u' (Ne.symm hjk) hk
    · rw [List.getElem?_set_ne hij] at hj ha
      by_cases hik : i = k
      · subst hik
        rw [List.getElem?_set_self hi]
        intro z
        cases z
        exact new j u (Ne.symm hij) hj ha
      · rw [List.getElem?_set_ne hik] at hk ⊢
        exact r.apart j k u u' c hjk hj hk ha
  len := by rw [List.length_set, List.length_set, r.len]
theorem RE.setS (r : RE Γ B0 B1 Hs H σ ρ) (g : Grow Hs H Hs' H') {i : Nat} {s : S} {v : V} (hi : i < σ.length) (q : RepS Γ H Hs' H' s v) : RE Γ B0 B1 Hs' H' (σ.set i (some v)) (ρ.set i (some s)) := by
  cases s with
  | sh d => exact (r.grow g).setSh hi q
  | own o =>
    obtain ⟨a, ho, rfl, h0, h1, h2, q⟩ := q
    refine (r.grow g).setOwn hi (r.b.h.free h0) h1 h2 q.w fun j u _ hj z => ?_
    obtain ⟨c, hc, e1, _, _, e4, _⟩ := r.own j u hj
    rw [z] at e1
    cases e1
    rw [h0] at e4
    cases e4
  | two d a o =>
    have r1 := (r.grow g).setSh hi q.1
    have key : ∀ (j : Nat) (s : S), (∀ d a o, s ≠ .two d a o) → (ρ.set i (some (.two d a o)))[j]? = some (some s) → (ρ.set i (some (.sh d)))[j]? = some (some s) := fun j s hn hj => by
      by_cases h : i = j
      · subst h
        rw [List.getElem?_set_self (by rw [r.len]; exact hi)] at hj
        cases hj
        exact (hn _ _ _ rfl).elim
      · rw [List.getElem?_set_ne h] at hj ⊢
        exact hj
    exact ⟨r1.b, fun j e hj => r1.sh j e (key j _ (fun _ _ _ z => nomatch z) hj), fun j u hj => r1.own j u (key j _ (fun _ _ _ z => nomatch z) hj), fun j k u u' c hjk hj hk ha => r1.apart j k u u' c hjk (key j _ (fun _ _ _ z => nomatch z) hj) (key k _ (fun _ _ _ z => nomatch z) hk) ha, by rw [List.length_set, List.length_set, r.len], r1.tb⟩
theorem RE.write (r : RE Γ B0 B1 Hs H σ ρ) {i : Nat} {o o' : O} {a : Addr} {ho' : HO} (e : ρ[i]? = some (some (.own o))) (ea : σ[i]? = some (some (.ref a))) (q : RepW Γ Hs a o' ho') : RE Γ B0 B1 Hs (upd H a ho') σ (ρ.set i (some (.own o'))) := by
  obtain ⟨c, ho, e1, e2, e3, e4, _⟩ := r.own i o e
  rw [ea] at e1
  cases e1
  have hi : i < ρ.length := (List.getElem?_eq_some_iff.mp e).1
  refine ⟨⟨r.b.s, fun b u z => ?_, fun b u z => ?_, r.b.n⟩, fun j d hj => ?_, fun j u hj => ?_, fun j k u u' c hjk hj hk ha => ?_, by rw [List.length_set, r.len], r.tb⟩
  · rw [upd_ne (ne_of_none z e2)]; exact r.b.h _ _ z
  · rw [upd_ne (ne_of_none z e3)]; exact r.b.i _ _ z
  · by_cases h : i = j
    · subst h
      rw [List.getElem?_set_self hi] at hj
      cases hj
    · rw [List.getElem?_set_ne h] at hj
      exact r.sh j d hj
  · by_cases h : i = j
    · subst h
      rw [List.getElem?_set_self hi] at hj
      cases hj
      exact ⟨a, ho', ea, e2, e3, upd_same, q⟩
    · rw [List.getElem?_set_ne h] at hj
      obtain ⟨c, hc, f1, f2, f3, f4, f5⟩ := r.own j u hj
      refine ⟨c, hc, f1, f2, f3, ?_, f5⟩
      rw [upd_ne]
      · exact f4
      · intro z
        subst z
        exact r.apart i j o u c h e hj ea f1
  · have old : ∀ (m : Nat) (u : O), (ρ.set i (some (.own o')))[m]? = some (some (.own u)) → ∃ u', ρ[m]? = some (some (.own u')) := fun m u hm => by
      by_cases h : i = m
      · subst h; exact ⟨o, e⟩
      · rw [List.getElem?_set_ne h] at hm; exact ⟨u, hm⟩
    obtain ⟨x, hx⟩ := old j u hj
    obtain ⟨y, hy⟩ := old k u' hk
    exact r.apart j k x y c hjk hx hy ha
theorem RE.dem (r : RE Γ B0 B1 Hs H σ ρ) (i : Nat) : ∃ Hs', Same Hs Hs' ∧ RE Γ B0 B1 Hs' H σ (dem i ρ) := by
  unfold L3.dem
  split
  · exact ⟨Hs, .refl _, r⟩
  · exact ⟨Hs, .refl _, r⟩
  · exact ⟨Hs, .refl _, r⟩
  · rename_i o hno hno2 hno3 e
    obtain ⟨a, ho, e1, e2, e3, e4, q⟩ := r.own i o e
    have q := q.o (fun kvs z => by subst z; exact hno kvs rfl) (fun b u z => by subst z; exact hno2 b u rfl) fun kvs z => by subst z; exact hno3 kvs rfl
    have hi : i < ρ.length := (List.getElem?_eq_some_iff.mp e).1
    have sm : Same Hs (upd Hs a ho) := a0M e3
    have sh' : Same (upd Hs a ho) H := fun b u z => by
      by_cases hb : b = a
      · subst hb; rw [upd_same] at z; cases z; exact e4
      · rw [upd_ne hb] at z; exact r.b.i _ _ z
    refine ⟨upd Hs a ho, sm, ⟨⟨r.b.s.trans sm, r.b.h, sh', fun b u z => ?_⟩, fun j d hj => ?_, fun j u hj => ?_, fun j k u u' c hjk hj hk ha => ?_, by rw [List.length_set, r.len], r.tb.trans sm⟩⟩
    · by_cases hb : b = a
      · subst hb; exact .inr e2
      · rw [upd_ne hb] at z; exact r.b.n _ _ z
    · by_cases h : i = j
      · subst h
        rw [List.getElem?_set_self hi] at hj
        cases hj
        exact ⟨.ref a, e1, (q.mono sm).val upd_same⟩
      · rw [List.getElem?_set_ne h] at hj
        obtain ⟨v, f1, f2⟩ := r.sh j d hj
        exact ⟨v, f1, f2.mono sm⟩
    · by_cases h : i = j
      · subst h
        rw [List.getElem?_set_self hi] at hj
        cases hj
      · rw [List.getElem?_set_ne h] at hj
        obtain ⟨c, hc, f1, f2, f3, f4, f5⟩ := r.own j u hj
        refine ⟨c, hc, f1, f2, ?_, f4, f5.mono sm⟩
        rw [upd_ne]
        · exact f3
        · intro z
          subst z
          exact r.apart i j o u c h e hj e1 f1
    · have n1 : i ≠ j := fun z => by subst z; rw [List.getElem?_set_self hi] at hj; cases hj
      have n2 : i ≠ k := fun z => by subst z; rw [List.getElem?_set_self hi] at hk; cases hk
      rw [List.getElem?_set_ne n1] at hj
      rw [List.getElem?_set_ne n2] at hk
      exact r.apart j k u u' c hjk hj hk ha
  · exact ⟨Hs, .refl _, r⟩
end
end L3
namespace L3
open PySem PySem.Spec PyProof.Rows L2
abbrev XW := D → Hp → Hp → Prop
def RQ (Γ : Ct) (W : XW) (Hs H : Hp) (r : R) (Q : VK) : Prop := match r with
  | .ok s => ∀ v Hs' H', Grow Hs H Hs' H' → RepS Γ H Hs' H' s v → Q v H'
  | .exc x => ∀ Hs' H', Grow Hs H Hs' H' → W x Hs' H'
def RL (Γ : Ct) (W : XW) (Hs H : Hp) (r : R) (Q : VK) : Prop := match r with
  | .ok s => ∀ v Hs' H', Grow Hs H Hs' H' → Rep Γ H' s.val v → Q v H'
  | .exc x => ∀ Hs' H', Grow Hs H Hs' H' → W x Hs' H'
def RB (W : XW) (Hs H : Hp) (r : R) (Q : Bool → Hp → Prop) : Prop := match r with
  | .ok s => ∃ b, s.val = .bl b ∧ ∀ Hs' H', Grow Hs H Hs' H' → Q b H'
  | .exc x => ∀ Hs' H', Grow Hs H Hs' H' → W x Hs' H'
section
variable {Γ : Ct} {W : XW} {Hs H Hs1 H1 : Hp} {r : R} {Q Q' : VK}
theorem RQ.grow (q : RQ Γ W Hs H r Q) (g : Grow Hs H Hs1 H1) : RQ Γ W Hs1 H1 r Q := by
  cases r with
  | ok s => exact fun v Hs' H' g' rs => q v Hs' H' (g.trans g') (rs.back g.h)
  | exc x => exact fun Hs' H' g' => q Hs' H' (g.trans g')
theorem RQ.mono (q : RQ Γ W Hs H r Q) (h : ∀ v H, Q v H → Q' v H) : RQ Γ W Hs H r Q' := by
  cases r with
  | ok s => exact fun v Hs' H' g' rs => h _ _ (q v Hs' H' g' rs)
  | exc x => exact q
theorem RL.mono (q : RL Γ W Hs H r Q) (h : ∀ v H, Q v H → Q' v H) : RL Γ W Hs H r Q' := by
  cases r with
  | ok s => exact fun v Hs' H' g' rs => h _ _ (q v Hs' H' g' rs)
  | exc x => exact q
theorem RL.grow (q : RL Γ W Hs H r Q) (g : Grow Hs H Hs1 H1) : RL Γ W Hs1 H1 r Q := by
  cases r with
  | ok s => exact fun v Hs' H' g' rs => q v Hs' H' (g.trans g') rs
  | exc x => exact fun Hs' H' g' => q Hs' H' (g.trans g')
end
inductive tD (Γ : Ct) (W : XW) (g : ME) (σ : L2.St) (H : Hp) (Q : VK) : Prop
  | mk (B0 B1 Hs : Hp) (ρ : MEnv) (r : R) (re : RE Γ B0 B1 Hs H σ ρ) (e : g ρ = some r) (q : RQ Γ W Hs H r Q)
inductive tL (Γ : Ct) (W : XW) (g : ME) (σ : L2.St) (H : Hp) (Q : VK) : Prop
  | mk (B0 B1 Hs : Hp) (ρ : MEnv) (r : R) (re : RE Γ B0 B1 Hs H σ ρ) (e : g ρ = some r) (q : RL Γ W Hs H r Q)
inductive tT (Γ : Ct) (W : XW) (g : ME) (σ : L2.St) (H : Hp) (Q : Bool → Hp → Prop) : Prop
  | mk (B0 B1 Hs : Hp) (ρ : MEnv) (r : R) (re : RE Γ B0 B1 Hs H σ ρ) (e : g ρ = some r) (q : RB W Hs H r Q)
def a5l (Γ : Ct) (W : XW) : List ME → TA
  | [] => tNil
  | g :: gs => tCons (tD Γ W g) (a5l Γ W gs)
def a6X (Γ : Ct) (W : XW) : List ME → TA
  | [] => tNil
  | g :: gs => tCons (tL Γ W g) (a6X Γ W gs)
section
variable {Γ : Ct} {W : XW} {B0 B1 Hs H : Hp} {σ : L2.St} {ρ : MEnv} {r : R} {Q Q' : VK} {g ga : ME} {k : D → Option R}
theorem tD.mono (t : tD Γ W g σ H Q) (h : ∀ v H, Q v H → Q' v H) : tD Γ W g σ H Q' := by
  obtain ⟨B0, B1, Hs, ρ, r, re, e, q⟩ := t
  exact ⟨B0, B1, Hs, ρ, r, re, e, q.mono h⟩
theorem tL.mono (t : tL Γ W g σ H Q) (h : ∀ v H, Q v H → Q' v H) : tL Γ W g σ H Q' := by
  obtain ⟨B0, B1, Hs, ρ, r, re, e, q⟩ := t
  exact ⟨B0, B1, Hs, ρ, r, re, e, q.mono h⟩
theorem tL.toD (t : tL Γ W g σ H Q) : tD Γ W g σ H Q := by
  obtain ⟨B0, B1, Hs, ρ, r, re, e, q⟩ := t
  refine ⟨B0, B1, Hs, ρ, r, re, e, ?_⟩
  cases r with
  | ok s => exact fun v Hs' H' g' rs => q v Hs' H' g' (rs.look g')
  | exc x => exact q
theorem a1h (re : RE Γ B0 B1 Hs H σ ρ) (e : a0L (ga ρ) k = some r) (q : RQ Γ W Hs H r Q) :
    tD Γ W ga σ H (fun v H1 => ∃ Hs1 d, Grow Hs H Hs1 H1 ∧ RE Γ B0 B1 Hs1 H1 σ ρ ∧ Rep Γ Hs1 d v ∧ k d = some r ∧ RQ Γ W Hs1 H1 r Q) := by
  cases h : ga ρ with
  | none => rw [h] at e; cases e
  | some x =>
    rw [h] at e
    refine ⟨B0, B1, Hs, ρ, x, re, h, ?_⟩
    cases x with
    | exc y => cases e; exact q
    | ok s =>
      intro v Hs' H' g' rs
      obtain ⟨Hs'', g2, _, rp⟩ := rs.share g'
      exact ⟨Hs'', s.val, g2, re.grow g2, rp, e, q.grow g2⟩
theorem a02 : ∀ (gs : List ME) {σ : L2.St} {H : Hp} {Q Q' : List V → Hp → Prop}, (∀ v H, Q v H → Q' v H) → a5l Γ W gs σ H Q → a5l Γ W gs σ H Q'
  | [], _, _, _, _, h, t => h _ _ t
  | g :: gs, _, _, _, _, h, t => tD.mono t fun v H1 t' => a02 gs (fun vs H2 z => h _ _ z) t'
theorem a2N : ∀ (gs : List ME) {σ : L2.St} {H : Hp} {Q Q' : List V → Hp → Prop}, (∀ v H, Q v H → Q' v H) → a6X Γ W gs σ H Q → a6X Γ W gs σ H Q'
  | [], _, _, _, _, h, t => h _ _ t
  | g :: gs, _, _, _, _, h, t => tL.mono t fun v H1 t' => a2N gs (fun vs H2 z => h _ _ z) t'
theorem a33 : ∀ (gs : List ME) {Hs H : Hp} {k : List D → Option R}, RE Γ B0 B1 Hs H σ ρ → a1W gs ρ k = some r → RQ Γ W Hs H r Q →
    a5l Γ W gs σ H (fun vs H1 => ∃ Hs1 ds, Grow Hs H Hs1 H1 ∧ RE Γ B0 B1 Hs1 H1 σ ρ ∧ RepL Γ Hs1 ds vs ∧ k ds = some r ∧ RQ Γ W Hs1 H1 r Q)
  | [], Hs, H, k, re, e, q => ⟨Hs, [], .refl re.b.i, re, .nil, e, q⟩
  | g :: gs, Hs, H, k, re, e, q => by
    refine (a1h re e q).mono fun v H1 ⟨Hs1, d, g1, re1, rp, e1, q1⟩ => ?_
    refine a02 gs (fun vs H2 ⟨Hs2, ds, g2, re2, rps, e2, q2⟩ => ?_) (a33 gs re1 e1 q1)
    exact ⟨Hs2, d :: ds, g1.trans g2, re2, .cons (rp.mono g2.s) rps, e2, q2⟩
theorem a4o : ∀ (gs : List ME) {Hs H : Hp} {k : List D → Option R} {d : D}, RE Γ B0 B1 Hs H σ ρ → a5O (a1W gs ρ k) = some (.ok (.sh d)) → RQ Γ W Hs H (.ok (.sh d)) Q →
    a6X Γ W gs σ H (fun vs H1 => ∃ Hs1 ds, Grow Hs H Hs1 H1 ∧ RE Γ B0 B1 Hs1 H1 σ ρ ∧ RepL Γ H1 ds vs ∧ a5O (k ds) = some (.ok (.sh d)) ∧ RQ Γ W Hs1 H1 (.ok (.sh d)) Q)
  | [], Hs, H, k, d, re, e, q => ⟨Hs, [], .refl re.b.i, re, .nil, e, q⟩
  | g :: gs, Hs, H, k, d, re, e, q => by
    have e' : a5O (a0L (g ρ) fun x => a1W gs ρ fun ds => k (x :: ds)) = some (.ok (.sh d)) := e
    cases h : g ρ with
    | none => rw [h] at e'; cases e'
    | some x =>
      rw [h] at e'
      cases x with
      | exc y => cases e'
      | ok s =>
        refine ⟨B0, B1, Hs, ρ, .ok s, re, h, fun v Hs1 H1 g1 rp => ?_⟩
        refine a2N gs (fun vs H2 ⟨Hs2, ds, g2, re2, rps, e2, q2⟩ => ?_) (a4o gs (k := fun ds => k (s.val :: ds)) (re.grow g1) e' (q.grow g1))
        exact ⟨Hs2, s.val :: ds, g1.trans g2, re2, .cons (rp.mono g2.h) rps, e2, q2⟩
end
theorem PE.imp {X : Cx} {e : Expr} {t t' : TE} (h : PE X e t) (i : ∀ pins s σ H Q, Inv X pins σ H s → t' σ H Q → t σ H Q) : PE X e t' := fun pins s σ H Q I q => h pins s σ H Q I (i pins s σ H Q I q)
theorem PT.imp {X : Cx} {e : Expr} {t t' : TT} (h : PT X e t) (i : ∀ pins s σ H Q, Inv X pins σ H s → t' σ H Q → t σ H Q) : PT X e t' := fun pins s σ H Q I q => h pins s σ H Q I (i pins s σ H Q I q)
theorem PW.imp {X : Cx} {e : Expr} {t t' : TT} (h : PW X e t) (i : ∀ σ H Q, t' σ H Q → t σ H Q) : PW X e t' := fun w pins s σ H Q I q => h w pins s σ H Q I (i σ H Q q)
theorem PS.imp {X : Cx} {e : Stmt} {t t' : TS} (h : PS X e t) (i : ∀ pins s σ H D, Inv X pins σ H s → t' D σ H → t D σ H) : PS X e t' := fun pins s σ H D I q => h pins s σ H D I (i pins s σ H D I q)
theorem PSs.imp {X : Cx} {e : List Stmt} {t t' : TS} (h : PSs X e t) (i : ∀ D σ H, t' D σ H → t D σ H) : PSs X e t' := fun pins s σ H D I q => h pins s σ H D I (i D σ H q)
abbrev PD (X : Cx) (Γ : Ct) (W : XW) (e : Expr) (g : ME) : Prop := PE X e (tD Γ W g)
abbrev PL (X : Cx) (Γ : Ct) (W : XW) (e : Expr) (g : ME) : Prop := PE X e (tL Γ W g)
abbrev PTD (X : Cx) (Γ : Ct) (W : XW) (e : Expr) (g : ME) : Prop := PT X e (tT Γ W g)
abbrev PWD (X : Cx) (Γ : Ct) (W : XW) (e : Expr) (g : ME) : Prop := PW X e (tT Γ W g)
abbrev PAD (X : Cx) (Γ : Ct) (W : XW) (es : List Expr) (gs : List ME) : Prop := PA X es (a5l Γ W gs)
abbrev PAL (X : Cx) (Γ : Ct) (W : XW) (es : List Expr) (gs : List ME) : Prop := PA X es (a6X Γ W gs)
section
variable {X : Cx} {Γ : Ct} {W : XW} {e a b : Expr} {g ga gb : ME} {pos : Pos}
theorem PD.look (h : PD X Γ W e g) : PL X Γ W e g := PE.imp h fun _ _ _ _ _ _ t => t.toD
theorem a0a {i : Nat} (h : PE X e (tVar i)) : PD X Γ W e (eVar i) := PE.imp h fun _ _ σ H Q _ ⟨B0, B1, Hs, ρ, r, re, e1, q⟩ => by
  unfold eVar at e1
  split at e1
  · rename_i d hd
    cases e1
    obtain ⟨v, e2, rp⟩ := re.sh i d hd
    exact ⟨v, e2, q v Hs H (.refl re.b.i) rp⟩
  · cases e1
theorem a0v {i : Nat} (h : PE X e (tVar i)) : PL X Γ W e (eAny i) := PE.imp h fun _ _ σ H Q _ ⟨B0, B1, Hs, ρ, r, re, e1, q⟩ => by
  unfold eAny at e1
  split at e1
  · cases e1
  · cases e1
  · cases e1
  · cases e1
  · rename_i s hno hno2 hno4 hno3 hd
    cases e1
    cases s with
    | two d a o => exact (hno3 d a o rfl).elim
    | sh d =>
      obtain ⟨v, e2, rp⟩ := re.sh i d hd
      exact ⟨v, e2, q v Hs H (.refl re.b.i) (Rep.mono re.b.i rp)⟩
    | own o =>
      obtain ⟨c, ho, e2, _, _, e4, rp⟩ := re.own i o hd
      exact ⟨.ref c, e2, q (.ref c) Hs H (.refl re.b.i) (((rp.o (fun kvs z => by subst z; exact hno kvs rfl) (fun b u z => by subst z; exact hno2 b u rfl) fun kvs z => by subst z; exact hno4 kvs rfl).mono re.b.i).val e4)⟩
  · cases e1
theorem a5w {v : V} {d : D} (h : PE X e (tC v)) (rp : ∀ H, Rep Γ H d v) : PD X Γ W e (eC d) := PE.imp h fun _ _ σ H Q _ ⟨B0, B1, Hs, ρ, r, re, e1, q⟩ => by
  cases e1
  exact q v Hs H (.refl re.b.i) (rp Hs)
theorem a0b {i j} : PD X Γ W (.Constant (.int i) j pos) (eC (.int i)) := a5w pe_int fun _ => a0g.mpr rfl
theorem a38 {i j} : PD X Γ W (.Constant (.bool i) j pos) (eC (.bl i)) := a5w pe_bl fun _ => a0X.mpr rfl
theorem a1b {i j} : PD X Γ W (.Constant (.str i) j pos) (eC (.str i)) := a5w pe_str fun _ => a0R.mpr rfl
inductive rD (Γ : Ct) (W : XW) (f : D → D → Option R) (x y : V) (H : Hp) (Q : VK) : Prop
  | mk (Hs : Hp) (d1 d2 : D) (r : R) (sm : Same Hs H) (r1 : Rep Γ Hs d1 x) (r2 : Rep Γ Hs d2 y) (e : f d1 d2 = some r) (q : RQ Γ W Hs H r Q)
theorem a65 {f : D → D → Option R} {σ : L2.St} {H : Hp} {Q : VK} (t : tD Γ W (eBin f ga gb) σ H Q) : tOp (rD Γ W f) (tD Γ W ga) (tD Γ W gb) σ H Q := by
  obtain ⟨B0, B1, Hs, ρ, r, re, e, q⟩ := t
  refine (a1h re e q).mono fun v H1 ⟨Hs1, d, g1, re1, rp, e1, q1⟩ => ?_
  refine (a1h re1 e1 q1).mono fun u H2 ⟨Hs2, d2, g2, re2, rp2, e2, q2⟩ => ?_
  exact ⟨Hs2, d, d2, r, re2.b.i, rp.mono g2.s, rp2, e2, q2⟩
theorem a0k {op : Operator} {f : D → D → Option R} (ho : OpR X (binaryOp op) (rD Γ W f)) (ha : PD X Γ W a ga) (hb : PD X Γ W b gb) : PD X Γ W (.BinOp a op b pos) (eBin f ga gb) :=
  PE.imp (pe_op ho ha hb) fun _ _ _ _ _ _ t => a65 t
theorem tT_of {σ : L2.St} {H : Hp} {Q : Bool → Hp → Prop} (t : tT Γ W g σ H Q) : tD Γ W g σ H (fun x H' => ∃ k, x = .bl k ∧ Q k H') := by
  obtain ⟨B0, B1, Hs, ρ, r, re, e, q⟩ := t
  refine ⟨B0, B1, Hs, ρ, r, re, e, ?_⟩
  cases r with
  | exc x => exact q
  | ok s =>
    obtain ⟨c, ec, q⟩ := q
    intro v Hs' H' g' rs
    obtain ⟨_, g2, _, rp⟩ := rs.share g'
    rw [ec] at rp
    exact ⟨c, a0X.mp rp, q _ _ g'⟩
theorem a0l {op : CmpOp} {f : D → D → Option R} (ho : OpR X (compareOp op) (rD Γ W f)) (ha : PD X Γ W a ga) (hb : PD X Γ W b gb) (hm : behindInMarks op b = false := by first | exact nomark _ | rfl) : PTD X Γ W (.Compare a [op] [b] pos) (eBin f ga gb) :=
  PT.imp (pt_cmpR ho ha hb hm) fun _ _ _ _ _ _ t => a65 (tT_of t)
theorem a2X (h : PD X Γ W e g) (he : ∀ whole, isTrue e X.env whole = (do let v ← whole; standAt e.pos; holding [v] (truthy v)) := by intro _; rfl) : PTD X Γ W e g :=
  PT.imp (pt_val h he) fun _ _ _ _ _ _ t => tT_of t
section
variable {t u : ME} {rest : List Expr}
theorem tT.mono {σ : L2.St} {H : Hp} {Q Q' : Bool → Hp → Prop} (h : tT Γ W g σ H Q) (k : ∀ b H, Q b H → Q' b H) : tT Γ W g σ H Q' := by
  obtain ⟨B0, B1, Hs, ρ, r, re, e, q⟩ := h
  refine ⟨B0, B1, Hs, ρ, r, re, e, ?_⟩
  cases r with
  | exc x => exact q
  | ok s => obtain ⟨c, ec, q⟩ := q; exact ⟨c, ec, fun Hs' H' g' => k _ _ (q Hs' H' g')⟩
theorem RB.grow {Hs H Hs1 H1 : Hp} {r : R} {Q : Bool → Hp → Prop} (q : RB W Hs H r Q) (g : Grow Hs H Hs1 H1) : RB W Hs1 H1 r Q := by
  cases r with
  | exc x => exact fun Hs' H' g' => q Hs' H' (g.trans g')
  | ok s => obtain ⟨c, ec, q⟩ := q; exact ⟨c, ec, fun Hs' H' g' => q Hs' H' (g.trans g')⟩
theorem a2r {x : D} {k : Bool → Option R} {r : R} (h : asB x k = some r) : ∃ c, x = .bl c ∧ k c = some r := by
  cases x with
  | bl c => exact ⟨c, rfl, h⟩
  | non => cases h
  | int _ => cases h
  | str _ => cases h
  | tup _ => cases h
  | lst _ => cases h
  | fn _ _ => cases h
  | obj _ _ _ => cases h
theorem a2Y (ha : PTD X Γ W a g) : PTD X Γ W (.UnaryOp .Not a pos) (eNot g) := PT.imp (pt_not ha) fun _ _ σ H Q _ t => by
  obtain ⟨B0, B1, Hs, ρ, r, re, e, q⟩ := t
  have e' : a0L (g ρ) dNot = some r := e
  cases h : g ρ with
  | none => rw [h] at e'; cases e'
  | some x =>
    rw [h] at e'
    refine ⟨B0, B1, Hs, ρ, x, re, h, ?_⟩
    cases x with
    | exc y => cases e'; exact q
    | ok s =>
      obtain ⟨c, ec, e2⟩ := a2r (show asB s.val (fun c => okB (!c)) = some r from e')
      cases e2
      obtain ⟨c', ec', q⟩ := q
      cases ec'
      exact ⟨c, ec, q⟩
theorem a2I (ha : PTD X Γ W a g) : PWD X Γ W (.BoolOp .And [a] pos) g := pw_and1 ha
theorem a3g (ha : PTD X Γ W a g) : PWD X Γ W (.BoolOp .Or [a] pos) g := pw_or1 ha
theorem a2y (ha : PTD X Γ W a t) (hb : PWD X Γ W (.BoolOp .And (b :: rest) pos) u) : PWD X Γ W (.BoolOp .And (a :: b :: rest) pos) (eAnd t u) := PW.imp (pw_and ha hb) fun σ H Q h => by
  obtain ⟨B0, B1, Hs, ρ, r, re, e, q⟩ := h
  have e' : a0L (t ρ) (fun x => asB x fun c => if c = true then u ρ else okB false) = some r := e
  cases h : t ρ with
  | none => rw [h] at e'; cases e'
  | some x =>
    rw [h] at e'
    refine ⟨B0, B1, Hs, ρ, x, re, h, ?_⟩
    cases x with
    | exc y => cases e'; exact q
    | ok s =>
      obtain ⟨c, ec, e2⟩ := a2r (show asB s.val _ = some r from e')
      refine ⟨c, ec, fun Hs' H' g' => ?_⟩
      cases c with
      | true => exact ⟨B0, B1, Hs', ρ, r, re.grow g', e2, q.grow g'⟩
      | false =>
        cases e2
        obtain ⟨c', ec', q⟩ := q
        cases ec'
        exact q _ _ g'
theorem a24 (ha : PTD X Γ W a t) (hb : PWD X Γ W (.BoolOp .Or (b :: rest) pos) u) : PWD X Γ W (.BoolOp .Or (a :: b :: rest) pos) (eOr t u) := PW.imp (pw_or ha hb) fun σ H Q h => by
  obtain ⟨B0, B1, Hs, ρ, r, re, e, q⟩ := h
  have e' : a0L (t ρ) (fun x => asB x fun c => if c = true then okB true else u ρ) = some r := e
  cases h : t ρ with
  | none => rw [h] at e'; cases e'
  | some x =>
    rw [h] at e'
    refine ⟨B0, B1, Hs, ρ, x, re, h, ?_⟩
    cases x with
    | exc y => cases e'; exact q
    | ok s =>
      obtain ⟨c, ec, e2⟩ := a2r (show asB s.val _ = some r from e')
      refine ⟨c, ec, fun Hs' H' g' => ?_⟩
      cases c with
      | false => exact ⟨B0, B1, Hs', ρ, r, re.grow g', e2, q.grow g'⟩
      | true =>
        cases e2
        obtain ⟨c', ec', q⟩ := q
        cases ec'
        exact q _ _ g'
theorem PWD.pt (h : PWD X Γ W e g) : PTD X Γ W e g := PW.pt h
theorem pd_one {op} (h : PD X Γ W a g) : PD X Γ W (.BoolOp op [a] pos) g := pe_one h
theorem pd_and (ha : PD X Γ W a t) (hb : PD X Γ W (.BoolOp .And (b :: rest) pos) u) : PD X Γ W (.BoolOp .And (a :: b :: rest) pos) (eAnd t u) := PE.imp (pe_and ha hb) fun _ _ σ H Q _ h => by
  obtain ⟨B0, B1, Hs, ρ, r, re, e, q⟩ := h
  refine (a1h (k := fun x => asB x fun c => if c = true then u ρ else okB false) re e q).mono fun v H1 ⟨Hs1, d, g1, re1, rp, e1, q1⟩ => ?_
  obtain ⟨c, rfl, e2⟩ := a2r e1
  refine ⟨c, a0X.mp rp, ?_⟩
  cases c with
  | true => exact ⟨B0, B1, Hs1, ρ, r, re1, e2, q1⟩
  | false => cases e2; exact q1 _ Hs1 H1 (.refl re1.b.i) (RepS.of (a0X.mpr rfl))
theorem pd_not (ha : PD X Γ W a g) : PD X Γ W (.UnaryOp .Not a pos) (eNot g) := PE.imp (pe_not ha) fun _ _ σ H Q _ h => by
  obtain ⟨B0, B1, Hs, ρ, r, re, e, q⟩ := h
  refine (a1h (k := dNot) re e q).mono fun v H1 ⟨Hs1, d, g1, re1, rp, e1, q1⟩ => ?_
  obtain ⟨c, rfl, e2⟩ := a2r e1
  cases e2
  exact ⟨c, a0X.mp rp, q1 _ Hs1 H1 (.refl re1.b.i) (RepS.of (a0X.mpr rfl))⟩
theorem a6a {c : Expr} (hc : PTD X Γ W c g) (ha : PD X Γ W a ga) (hb : PD X Γ W b gb) : PD X Γ W (.IfExp c a b pos) (eIf g ga gb) := PE.imp (pe_ifExp hc ha hb) fun _ _ σ H Q _ h => by
  obtain ⟨B0, B1, Hs, ρ, r, re, e, q⟩ := h
  have e' : a0L (g ρ) (fun x => asB x fun c => if c = true then ga ρ else gb ρ) = some r := e
  cases h : g ρ with
  | none => rw [h] at e'; cases e'
  | some x =>
    rw [h] at e'
    refine ⟨B0, B1, Hs, ρ, x, re, h, ?_⟩
    cases x with
    | exc y => cases e'; exact q
    | ok s =>
      obtain ⟨c, ec, e2⟩ := a2r (show asB s.val _ = some r from e')
      refine ⟨c, ec, fun Hs' H' g' => ?_⟩
      cases c with
      | true => exact ⟨B0, B1, Hs', ρ, r, re.grow g', e2, q.grow g'⟩
      | false => exact ⟨B0, B1, Hs', ρ, r, re.grow g', e2, q.grow g'⟩
end
theorem a0d : PAD X Γ W [] [] := pa_nil
theorem a2g {es : List Expr} {gs : List ME} (h : PD X Γ W e g) (t : PAD X Γ W es gs) (hs : starEach (e :: es) X.env = (false, eval e X.env) :: starEach es X.env := by rfl) : PAD X Γ W (e :: es) (g :: gs) := pa_cons h t hs
theorem a0B : PAL X Γ W [] [] := pa_nil
theorem a0p {es : List Expr} {gs : List ME} (h : PL X Γ W e g) (t : PAL X Γ W es gs) (hs : starEach (e :: es) X.env = (false, eval e X.env) :: starEach es X.env := by rfl) : PAL X Γ W (e :: es) (g :: gs) := pa_cons h t hs
inductive spR (Γ : Ct) (W : XW) (F : List D → Option R) (vs : List V) (H : Hp) (Q : VK) : Prop
  | mk (Hs : Hp) (ds : List D) (r : R) (sm : Same Hs H) (rl : RepL Γ Hs ds vs) (e : F ds = some r) (q : RQ Γ W Hs H r Q) (tb : Same Γ.tb Hs)
theorem a4r {F : List D → Option R} {gs : List ME} {σ : L2.St} {H : Hp} {Q : VK} (t : tD Γ W (a0j F gs) σ H Q) : a5l Γ W gs σ H fun vs H1 => spR Γ W F vs H1 Q := by
  obtain ⟨B0, B1, Hs, ρ, r, re, e, q⟩ := t
  exact a02 gs (fun vs H1 ⟨Hs1, ds, _, re1, rp, e1, q1⟩ => ⟨Hs1, ds, r, re1.b.i, rp, e1, q1, re1.tb⟩) (a33 gs re e q)
theorem a5X {F : List D → Option R} {gs : List ME} {σ : L2.St} {H : Hp} {Q : VK} (t : tD Γ W (a0m F gs) σ H Q) : a6X Γ W gs σ H fun vs H1 => spR Γ W F vs H1 Q := by
  obtain ⟨B0, B1, Hs, ρ, r, re, e, q⟩ := t
  have e' : a5O (a1W gs ρ F) = some r := e
  obtain ⟨d, rfl⟩ : ∃ d, r = .ok (.sh d) := by
    unfold a5O at e'
    split at e'
    · split at e'
      · cases e'; exact ⟨_, rfl⟩
      · cases e'
    · cases e'
  refine a2N gs (fun vs H1 ⟨Hs1, ds, g1, re1, rp, e1, q1⟩ => ?_) (a4o gs re e' q)
  unfold a5O at e1
  split at e1
  · rename_i s hs
    split at e1
    · rename_i hf
      cases e1
      refine ⟨H1, ds, _, .refl _, rp, hs, fun v Hs' H' g' rs => q1 v Hs1 H' (.only re1.b.i g'.h) ?_, re1.tb.trans re1.b.i⟩
      exact rep_flat (rs.look g') hf
    · cases e1
  · cases e1
section
variable {CX : CXT} {k : Nat} {f : Addr} {fd : FuncData} {ps : List Str} {x : Str} {p : Pos} {es : List Expr} {gs : List ME} {F : List D → Option R}
def spD (Γ : Ct) (W : XW) (F : List D → Option R) : Sp := fun vs H Q _ => spR Γ W F vs H Q
theorem pd_call (G : FnOk X.prog X.w X.K X.mg X.base CX0 k f fd ps (spD Γ W F)) (hr : Room k X.A) (hg : Gl X x) (hm : X.mg x = some (.ref f)) (hk : PySem.W.keepIn X.K (.ref f) = true) (hb : Binds X.K fd ps [])
    (ha : PAD X Γ W (e :: es) gs) (hdb : (x == ("__debug__" : Str)) = false := by decide) (he : starEach (e :: es) X.env = (false, eval e X.env) :: starEach es X.env := by rfl) (hpl : (backTo pos (starEach es X.env)).any (·.1) = false := by rfl) :
    PD X Γ W (.Call (.Name x p) (e :: es) [] pos) (a0j F gs) :=
  PE.imp (pe_call (E := E0) (dvs := []) (ds := []) G hr hg hm hk hb .nil pass0 ha hdb he hpl) fun _ _ _ _ _ _ t => a02 gs (fun vs H1 z => by show spR Γ W F (vs ++ []) H1 _; rw [List.append_nil]; exact z) (a4r t)
theorem pd_callB (G : FnOk X.prog X.w X.K X.mg X.base CX0 k f fd ps (spD Γ W F)) (hr : Room k X.A) (hg : Gl X x) (hm : X.mg x = some (.ref f)) (hk : PySem.W.keepIn X.K (.ref f) = true) (hb : Binds X.K fd ps [])
    (ha : PAL X Γ W (e :: es) gs) (hdb : (x == ("__debug__" : Str)) = false := by decide) (he : starEach (e :: es) X.env = (false, eval e X.env) :: starEach es X.env := by rfl) (hpl : (backTo pos (starEach es X.env)).any (·.1) = false := by rfl) :
    PD X Γ W (.Call (.Name x p) (e :: es) [] pos) (a0m F gs) :=
  PE.imp (pe_call (E := E0) (dvs := []) (ds := []) G hr hg hm hk hb .nil pass0 ha hdb he hpl) fun _ _ _ _ _ _ t => a2N gs (fun vs H1 z => by show spR Γ W F (vs ++ []) H1 _; rw [List.append_nil]; exact z) (a5X t)
end
section
variable {x : Str} {p : Pos} {es : List Expr} {gs : List ME} {F : List D → Option R} {id T : String}
theorem a0K (hc : CallR X (.builtin id) (spR Γ W F)) (hg : Gl X x) (hm : X.mg x = none) (hv : bootBuiltins x = some (.builtin id)) (ha : PAL X Γ W (e :: es) gs) (hn : x ≠ "__name__" := by decide) (hdb : (x == ("__debug__" : Str)) = false := by decide)
    (he : starEach (e :: es) X.env = (false, eval e X.env) :: starEach es X.env := by rfl) (hpl : (backTo pos (starEach es X.env)).any (·.1) = false := by rfl) : PD X Γ W (.Call (.Name x p) (e :: es) [] pos) (a0m F gs) :=
  PE.imp (pe_callB hc hg hm hv ha hn hdb he hpl) fun _ _ _ _ _ _ t => a5X t
theorem a6B (hc : CallR X (.type T) (spR Γ W F)) (hg : Gl X x) (hm : X.mg x = none) (hv : bootBuiltins x = some (.type T)) (ha : PAD X Γ W (e :: es) gs) (hn : x ≠ "__name__" := by decide) (hdb : (x == ("__debug__" : Str)) = false := by decide)
    (he : starEach (e :: es) X.env = (false, eval e X.env) :: starEach es X.env := by rfl) (hpl : (backTo pos (starEach es X.env)).any (·.1) = false := by rfl) : PD X Γ W (.Call (.Name x p) (e :: es) [] pos) (a0j F gs) :=
  PE.imp (pe_callTy hc hg hm hv ha hn hdb he hpl) fun _ _ _ _ _ _ t => a4r t
end
theorem a1L {es : List Expr} {gs : List ME} {x1} (ha : PAD X Γ W es gs) : PD X Γ W (.Tuple es x1 pos) (eTup gs) := PE.imp (pe_tup ha) fun _ _ σ H Q _ t => by
  refine a02 gs (fun vs H1 ⟨Hs1, ds, r, sm, rp, e1, q1, _⟩ => ?_) (a4r t)
  try dsimp only at e1
  split at e1
  · rename_i hl
    cases e1
    refine ⟨by rw [← rp.length]; exact Nat.le_trans hl (by decide), fun p hp => q1 _ (upd Hs1 p (.tup vs)) _ (.new sm hp) ?_⟩
    exact a1m.mpr ⟨p, vs, rfl, .of upd_same, rp.mono (a0M (sm.free hp))⟩
  · cases e1
theorem a2u {es : List Expr} {gs : List ME} (ha : PAD X Γ W es gs) : PD X Γ W (.List es pos) (eLst gs) := PE.imp (pe_lst ha) fun _ _ σ H Q _ t => by
  refine a02 gs (fun vs H1 ⟨Hs1, ds, r, sm, rp, e1, q1, _⟩ => ?_) (a4r t)
  try dsimp only at e1
  split at e1
  · rename_i hl
    cases e1
    refine ⟨by rw [← rp.length]; exact Nat.le_trans hl (by decide), fun p hp => q1 _ Hs1 _ (.newOwn sm hp) ?_⟩
    exact ⟨p, _, rfl, hp, sm.free hp, upd_same, vs, rfl, rp⟩
  · cases e1
theorem a0u {f : D → D → Option R} (ho : IxR X (rD Γ W f)) (ha : PD X Γ W a ga) (hb : PD X Γ W b gb) (hs : PlainIx b := by exact fun _ _ => rfl) : PD X Γ W (.Subscript a b pos) (eBin f ga gb) :=
  PE.imp (pe_ix ho ha hb hs) fun _ _ _ _ _ _ t => a65 t
end
end L3
namespace L3
open PySem PySem.Spec PyProof.Rows L2
def EQ (Γ : Ct) (W : XW) (B0 B1 Hs : Hp) (D : Ends) : Out → Prop
  | .next ρ' => ∀ σ' Hs' H', Same Hs Hs' → RE Γ B0 B1 Hs' H' σ' ρ' → D.nx σ' H'
  | .brk ρ' => ∀ σ' Hs' H', Same Hs Hs' → RE Γ B0 B1 Hs' H' σ' ρ' → D.bk σ' H'
  | .cont ρ' => ∀ σ' Hs' H', Same Hs Hs' → RE Γ B0 B1 Hs' H' σ' ρ' → D.ct σ' H'
  | .ret s => ∀ v Hs' H', Same Hs Hs' → Grow B0 B1 Hs' H' → RepS Γ B1 Hs' H' s v → D.rt v H'
  | .exc x => ∀ Hs' H', Same Hs Hs' → Grow B0 B1 Hs' H' → W x Hs' H'
theorem EQ.from {Γ : Ct} {W : XW} {B0 B1 Hs Hs1 : Hp} {D : Ends} {o : Out} (q : EQ Γ W B0 B1 Hs D o) (k : Same Hs Hs1) : EQ Γ W B0 B1 Hs1 D o := by
  cases o with
  | next ρ => exact fun σ' Hs' H' h => q σ' Hs' H' (k.trans h)
  | brk ρ => exact fun σ' Hs' H' h => q σ' Hs' H' (k.trans h)
  | cont ρ => exact fun σ' Hs' H' h => q σ' Hs' H' (k.trans h)
  | ret s => exact fun v Hs' H' h => q v Hs' H' (k.trans h)
  | exc x => exact fun Hs' H' h => q Hs' H' (k.trans h)
inductive tS (Γ : Ct) (W : XW) (g : MC) (D : Ends) (σ : L2.St) (H : Hp) : Prop
  | mk (B0 B1 Hs : Hp) (ρ : MEnv) (o : Out) (re : RE Γ B0 B1 Hs H σ ρ) (e : g ρ = some o) (q : EQ Γ W B0 B1 Hs D o)
abbrev PSD (X : Cx) (Γ : Ct) (W : XW) (st : Stmt) (g : MC) : Prop := PS X st (tS Γ W g)
abbrev PSsD (X : Cx) (Γ : Ct) (W : XW) (st : List Stmt) (g : MC) : Prop := PSs X st (tS Γ W g)
section
variable {X : Cx} {Γ : Ct} {W : XW} {st : Stmt} {rest a b : List Stmt} {g g1 g2 : MC} {ge gc : ME} {e c : Expr} {pos : Pos}
theorem a0t : PSsD X Γ W [] a0G := PSs.imp pss_nil fun D σ H ⟨B0, B1, Hs, ρ, o, re, e, q⟩ => by
  cases e
  exact q σ Hs H (.refl _) re
theorem a0c (h1 : PSD X Γ W st g1) (h2 : PSsD X Γ W rest g2) : PSsD X Γ W (st :: rest) (sSeq g1 g2) := PSs.imp (pss_cons h1 h2) fun D σ H ⟨B0, B1, Hs, ρ, o, re, e, q⟩ => by
  unfold sSeq at e
  cases h : g1 ρ with
  | none => rw [h] at e; cases e
  | some u =>
    rw [h] at e
    refine ⟨B0, B1, Hs, ρ, u, re, h, ?_⟩
    cases u with
    | next ρ' => exact fun σ' Hs' H' sm re' => ⟨B0, B1, Hs', ρ', o, re', e, q.from sm⟩
    | brk ρ' => cases e; exact q
    | cont ρ' => cases e; exact q
    | ret s => cases e; exact q
    | exc x => cases e; exact q
theorem a0h (h : PSD X Γ W st g) : PSsD X Γ W [st] g := pss_one h
theorem a04 {i : Nat} (h : PSsD X Γ W rest g) : PSsD X Γ W rest (sDem i g) := PSs.imp h fun D σ H ⟨B0, B1, Hs, ρ, o, re, e, q⟩ => by
  obtain ⟨Hs', sm, re'⟩ := re.dem i
  exact ⟨B0, B1, Hs', dem i ρ, o, re', e, q.from sm⟩
theorem tD_O {B0 B1 Hs H : Hp} {σ : L2.St} {ρ : MEnv} {o : Out} {D : Ends} {k : S → Option Out} (re : RE Γ B0 B1 Hs H σ ρ) (e : a2Q (ge ρ) k = some o) (q : EQ Γ W B0 B1 Hs D o) :
    tD Γ W ge σ H (fun v H1 => ∃ Hs1 s, Grow Hs H Hs1 H1 ∧ RepS Γ H Hs1 H1 s v ∧ k s = some o) := by
  cases h : ge ρ with
  | none => rw [h] at e; cases e
  | some x =>
    rw [h] at e
    refine ⟨B0, B1, Hs, ρ, x, re, h, ?_⟩
    cases x with
    | exc y => cases e; exact fun Hs' H' g' => q Hs' H' g'.s (re.b.trans g')
    | ok s => exact fun v Hs' H' g' rs => ⟨Hs', s, g', rs, e⟩
theorem a6z {i : Nat} {t : TE} (h : PS X st (tAsg (tD Γ W ge) (gName i))) (hi : i < X.N.length) : PSD X Γ W st (sSet i ge) := PS.imp h fun pins s σ H D I ⟨B0, B1, Hs, ρ, o, re, e, q⟩ => by
  refine (tD_O re e q).mono fun v H1 ⟨Hs1, s, g1, rs, e1⟩ => ?_
  cases e1
  exact q _ Hs1 H1 g1.s (re.setS g1 (by rw [I.len]; exact hi) rs)
theorem psd_set {i : Nat} {x : Str} {pos' : Pos} (hN : X.N.Nodup) (hi : X.N[i]? = some x) (hx : Loc X.env.scope x) (he : PD X Γ W e ge) (hs : swapsWith e (some (.Name x pos')) pos.line X.env = pure false := by rfl)
    (hf : X.fn x = true ∨ X.env.scope.names.lookup x = some .local := by first | exact .inl rfl | exact .inr rfl | assumption) : PSD X Γ W (.Assign [.Name x pos'] e pos) (sSet i ge) :=
  a6z (t := tD Γ W ge) (ps_set hN hi hx he hs hf) (List.getElem?_eq_some_iff.mp hi).1
theorem a0n (he : PD X Γ W e ge) : PSD X Γ W (.Return (some e) pos) (sRet ge) := PS.imp (ps_ret he) fun pins s σ H D I ⟨B0, B1, Hs, ρ, o, re, e, q⟩ => by
  refine (tD_O re e q).mono fun v H1 ⟨Hs1, s, g1, rs, e1⟩ => ?_
  cases e1
  exact q v Hs1 H1 g1.s (re.b.trans g1) (rs.back re.b.h)
theorem a7T {x : D} {k : Bool → Option Out} {o : Out} (h : asBO x k = some o) : ∃ c, x = .bl c ∧ k c = some o := by
  cases x with
  | bl c => exact ⟨c, rfl, h⟩
  | non => cases h
  | int _ => cases h
  | str _ => cases h
  | tup _ => cases h
  | lst _ => cases h
  | fn _ _ => cases h
  | obj _ _ _ => cases h
theorem a0Z (hc : PTD X Γ W c gc) (ha : PSsD X Γ W a g1) (hb : PSsD X Γ W b g2) : PSD X Γ W (.If c a b pos) (sIf gc g1 g2) := PS.imp (ps_if hc ha hb) fun pins s σ H D I ⟨B0, B1, Hs, ρ, o, re, e, q⟩ => by
  have e' : a2Q (gc ρ) (fun s => asBO s.val fun t => if t = true then g1 ρ else g2 ρ) = some o := e
  cases h : gc ρ with
  | none => rw [h] at e'; cases e'
  | some x =>
    rw [h] at e'
    refine ⟨B0, B1, Hs, ρ, x, re, h, ?_⟩
    cases x with
    | exc y => cases e'; exact fun Hs' H' g' => q Hs' H' g'.s (re.b.trans g')
    | ok s =>
      obtain ⟨t, et, e2⟩ := a7T (show asBO s.val _ = some o from e')
      refine ⟨t, et, fun Hs' H' g' => ?_⟩
      cases t with
      | true => exact ⟨B0, B1, Hs', ρ, o, re.grow g', e2, q.from g'.s⟩
      | false => exact ⟨B0, B1, Hs', ρ, o, re.grow g', e2, q.from g'.s⟩
structure Walk (Γ : Ct) (Hs0 : Hp) (J : It) (ds : List D) : Prop where
  go : ∀ i Hs H, i < ds.length → Same Hs0 Hs → Same Hs H → J.go i H
  stop : ∀ Hs H, Same Hs0 Hs → Same Hs H → J.stop ds.length H
  yld : ∀ i Hs H x H', i < ds.length → Same Hs0 Hs → Same Hs H → J.yld i H x H' → ∃ d Hs', ds[i]? = some d ∧ Grow Hs H Hs' H' ∧ Rep Γ Hs' d x
def IQ (Γ : Ct) (W : XW) (Hs H : Hp) (r : RI) (Q : It → Hp → Prop) : Prop := match r with
  | .ok ds => ∀ J Hs' H', Grow Hs H Hs' H' → Walk Γ Hs' J ds → Q J H'
  | .exc x => ∀ Hs' H', Grow Hs H Hs' H' → W x Hs' H'
inductive tI (Γ : Ct) (W : XW) (gi : MI) (σ : L2.St) (H : Hp) (Q : It → Hp → Prop) : Prop
  | mk (B0 B1 Hs : Hp) (ρ : MEnv) (r : RI) (re : RE Γ B0 B1 Hs H σ ρ) (e : gi ρ = some r) (q : IQ Γ W Hs H r Q)
abbrev PID (X : Cx) (Γ : Ct) (W : XW) (tg iter : Expr) (gi : MI) : Prop := PI X tg iter (tI Γ W gi)
theorem PI.imp {X : Cx} {tg e : Expr} {t t' : TI} (h : PI X tg e t) (i : ∀ pins s σ H Q, Inv X pins σ H s → t' σ H Q → t σ H Q) : PI X tg e t' := fun pins s σ H Q I q => h pins s σ H Q I (i pins s σ H Q I q)
inductive tB3 (Γ : Ct) (js : List Nat) (bd : MB) (v : V) (σ : L2.St) (H : Hp) (Q : L2.St → Hp → Prop) : Prop
  | mk (B0 B1 Hs : Hp) (ρ : MEnv) (d : D) (ρ' : MEnv) (re : RE Γ B0 B1 Hs H σ ρ) (rp : Rep Γ Hs d v) (e : bd d ρ = some ρ') (q : ∀ σ' : L2.St, RE Γ B0 B1 Hs H σ' ρ' → (∀ j : Nat, j ∉ js → σ'[j]? = σ[j]?) → Q σ' H)
abbrev PBD (X : Cx) (Γ : Ct) (tg : Expr) (js : List Nat) (bd : MB) : Prop := PG X tg (tB3 Γ js bd)
theorem PG.imp {X : Cx} {tg : Expr} {t t' : TG} (h : PG X tg t) (i : ∀ pins s v σ H Q, Inv X pins σ H s → t' v σ H Q → t v σ H Q) : PG X tg t' := fun pins s σ H v u Q I r q => h pins s σ H v u Q I r (i pins s v σ H Q I q)
theorem pbd_name {j : Nat} {x : Str} (hN : X.N.Nodup) (hi : X.N[j]? = some x) (hx : Loc X.env.scope x) (hf : X.fn x = true ∨ X.env.scope.names.lookup x = some .local := by first | exact .inl rfl | exact .inr rfl | assumption) : PBD X Γ (.Name x pos) [j] (a0F j) :=
  PG.imp (pg_name hN hi hx hf) fun pins s v σ H Q I ⟨B0, B1, Hs, ρ, d, ρ', re, rp, e, q⟩ => by
    cases e
    exact q _ (re.setSh (by rw [I.len]; exact (List.getElem?_eq_some_iff.mp hi).1) rp) fun i hi => List.getElem?_set_ne fun z => hi (by simp [z])
theorem for_walk {js : List Nat} {bd : MB} {body : MC} {ds : List D} {J : It} {D : Ends} {B0 B1 Hs0 : Hp} {o : Out} (w : Walk Γ Hs0 J ds) (q : EQ Γ W B0 B1 Hs0 D o) {σ : L2.St} {H : Hp} {ρ : MEnv} (re : RE Γ B0 B1 Hs0 H σ ρ) (e : forD bd body ds ρ = some o) :
    ∃ Wv : Nat → Nat → L2.St → Hp → Prop, (∃ m, Wv 0 m σ H) ∧ ∀ i m σ H, Wv i m σ H →
      (J.stop i H ∧ D.nx σ H) ∨ (J.go i H ∧ ∃ N : L2.St → Hp → Prop, (∀ σ' H', N σ' H' → ∃ m', m' < m ∧ Wv (i + 1) m' σ' H') ∧ ∀ x H', J.yld i H x H' → tB3 Γ js bd x σ H' fun σ2 H2 => tS Γ W body { D with nx := N, ct := N, bk := D.nx } σ2 H2) := by
  refine ⟨fun i m σ H => m = ds.length - i ∧ i ≤ ds.length ∧ ∃ Hs ρ, Same Hs0 Hs ∧ RE Γ B0 B1 Hs H σ ρ ∧ forD bd body (ds.drop i) ρ = some o, ⟨_, rfl, Nat.zero_le _, Hs0, ρ, .refl _, re, e⟩, ?_⟩
  rintro i m σ H ⟨rfl, hi, Hs, ρ, sm, re, e⟩
  by_cases hlt : i < ds.length
  · refine .inr ⟨w.go i Hs H hlt sm re.b.i, fun σ' H' => ∃ Hs' ρ', Same Hs0 Hs' ∧ RE Γ B0 B1 Hs' H' σ' ρ' ∧ forD bd body (ds.drop (i + 1)) ρ' = some o, fun σ' H' ⟨Hs', ρ', s', r', e'⟩ => ⟨_, by omega, rfl, hlt, Hs', ρ', s', r', e'⟩, fun x H' y => ?_⟩
    obtain ⟨d, Hs', ed, g', rp⟩ := w.yld i Hs H x H' hlt sm re.b.i y
    have hd : ds.drop i = d :: ds.drop (i + 1) := by
      rw [List.drop_eq_getElem_cons hlt]
      congr 1
      rw [List.getElem?_eq_getElem hlt] at ed
      exact Option.some.inj ed
    rw [hd] at e
    unfold forD at e
    cases h : bd d ρ with
    | none => rw [h] at e; cases e
    | some ρ1 =>
      rw [h] at e
      dsimp only at e
      refine ⟨B0, B1, Hs', ρ, d, ρ1, re.grow g', rp, h, fun σ2 re2 _ => ?_⟩
      cases hb : body ρ1 with
      | none => rw [hb] at e; cases e
      | some u =>
        rw [hb] at e
        refine ⟨B0, B1, Hs', ρ1, u, re2, hb, ?_⟩
        have s1 : Same Hs0 Hs' := sm.trans g'.s
        cases u with
        | next ρ2 => exact fun σ' Hs2 H2 s2 re3 => ⟨Hs2, ρ2, s1.trans s2, re3, e⟩
        | cont ρ2 => exact fun σ' Hs2 H2 s2 re3 => ⟨Hs2, ρ2, s1.trans s2, re3, e⟩
        | brk ρ2 => cases e; exact fun σ' Hs2 H2 s2 re3 => q σ' Hs2 H2 (s1.trans s2) re3
        | ret s => cases e; exact fun v Hs2 H2 s2 => q v Hs2 H2 (s1.trans s2)
        | exc x => cases e; exact fun Hs2 H2 s2 => q Hs2 H2 (s1.trans s2)
  · have ei : i = ds.length := by omega
    subst ei
    rw [List.drop_length] at e
    cases e
    exact .inl ⟨w.stop Hs H sm re.b.i, q σ Hs H sm re⟩
theorem a1U {tg iter : Expr} {gi : MI} {js : List Nat} {bd : MB} {body : List Stmt} (hp : PassesOwn (model X.prog X.w) X.A X.env X.xe) (hc : X.calm = true) (hi : PID X Γ W tg iter gi) (hg : PBD X Γ tg js bd) (hb : PSsD X Γ W body g)
    (hs : ∀ x, foldedSetIterable iter X.env x = pure x := by intro _; rfl) : PSD X Γ W (.For tg iter body [] pos) (sFor gi bd g) := PS.imp (ps_for hp hc hi hg hb hs) fun pins s σ H D I ⟨B0, B1, Hs, ρ, o, re, e, q⟩ => by
  unfold sFor at e
  cases h : gi ρ with
  | none => rw [h] at e; cases e
  | some r =>
    rw [h] at e
    refine ⟨B0, B1, Hs, ρ, r, re, h, ?_⟩
    cases r with
    | exc x => cases e; exact fun Hs' H' g' => q Hs' H' g'.s (re.b.trans g')
    | ok ds => exact fun J Hs' H' g' w => for_walk w (q.from g'.s) (re.grow g') e
theorem a6Z {Hs0 : Hp} {a : Addr} {xs : List V} {ds : List D} {K : PySem.W.Frag} (h : SqL K Hs0 a xs) (r : RepL Γ Hs0 ds xs) : Walk Γ Hs0 (Itl K a) ds where
  go := fun i Hs H hi s1 s2 => ⟨xs, xs[i]'(by rw [← r.length]; exact hi), Same.seq (s1.trans s2) h, by rw [List.getElem?_eq_getElem]⟩
  stop := fun Hs H s1 s2 => ⟨xs, Same.seq (s1.trans s2) h, Nat.le_of_eq r.length.symm⟩
  yld := fun i Hs H x H' hi s1 s2 ⟨e, y⟩ => by
    subst e
    obtain ⟨z, e1, q⟩ := r.get (List.getElem?_eq_getElem hi)
    have e2 := y xs (Same.seq (s1.trans s2) h)
    rw [e1] at e2
    cases e2
    exact ⟨_, Hs, List.getElem?_eq_getElem hi, .refl s2, q.mono s1⟩
theorem walk_tup {Hs0 : Hp} {a : Addr} {xs : List V} {ds : List D} {K : PySem.W.Frag} (h : SqT K Hs0 a xs) (r : RepL Γ Hs0 ds xs) : Walk Γ Hs0 (Itt K a) ds where
  go := fun i Hs H hi s1 s2 => ⟨xs, xs[i]'(by rw [← r.length]; exact hi), a0U (s1.trans s2) h, by rw [List.getElem?_eq_getElem]⟩
  stop := fun Hs H s1 s2 => ⟨xs, a0U (s1.trans s2) h, Nat.le_of_eq r.length.symm⟩
  yld := fun i Hs H x H' hi s1 s2 ⟨e, y⟩ => by
    subst e
    obtain ⟨z, e1, q⟩ := r.get (List.getElem?_eq_getElem hi)
    have e2 := y xs (a0U (s1.trans s2) h)
    rw [e1] at e2
    cases e2
    exact ⟨_, Hs, List.getElem?_eq_getElem hi, .refl s2, q.mono s1⟩
theorem a5V {Hs0 : Hp} (lo hi : Int) : Walk Γ Hs0 (Itr lo (hi - lo).toNat) (rng lo hi) where
  go := fun i Hs H h s1 s2 => by
    unfold rng at h
    rw [List.length_map, List.length_range] at h
    exact h
  stop := fun Hs H s1 s2 => by
    unfold rng
    rw [List.length_map, List.length_range]
    exact Nat.le_refl _
  yld := fun i Hs H x H' h s1 s2 ⟨e, y⟩ => by
    subst e y
    unfold rng at h ⊢
    rw [List.length_map, List.length_range] at h
    exact ⟨.int (lo + i), Hs, by rw [List.getElem?_map, List.getElem?_range h]; rfl, .refl s2, a0g.mpr rfl⟩
end
end L3
namespace L3
open PySem PySem.Spec PyProof.Rows L2
theorem a2l (js : List Nat) : ∀ ρ : MEnv, (a0q js ρ).length = ρ.length := by
  induction js with
  | nil => intro ρ; rfl
  | cons j js ih => intro ρ; show (a0q js (ρ.set j none)).length = _; rw [ih, List.length_set]
theorem a0E (js : List Nat) : ∀ (ρ : MEnv) (i : Nat) (v : S), (a0q js ρ)[i]? = some (some v) → i ∉ js ∧ ρ[i]? = some (some v) := by
  induction js with
  | nil => intro ρ i v h; exact ⟨by simp, h⟩
  | cons j js ih =>
    intro ρ i v h
    obtain ⟨h1, h2⟩ := ih (ρ.set j none) i v h
    by_cases hj : j = i
    · subst hj
      by_cases hl : j < ρ.length
      · rw [List.getElem?_set_self hl] at h2; cases h2
      · rw [List.getElem?_eq_none (by rw [List.length_set]; omega)] at h2; cases h2
    · rw [List.getElem?_set_ne hj] at h2
      exact ⟨by simp [h1, Ne.symm hj], h2⟩
theorem a2m (js : List Nat) : ∀ (σ : L2.St) (i : Nat), i ∉ js → (a1e js σ)[i]? = σ[i]? := by
  induction js with
  | nil => intro σ i _; rfl
  | cons j js ih =>
    intro σ i h
    have h' : i ≠ j ∧ i ∉ js := by simpa using h
    show (a1e js (σ.set j none))[i]? = _
    rw [ih _ _ h'.2, List.getElem?_set_ne (Ne.symm h'.1)]
section
variable {Γ : Ct} {B0 B1 Hs H : Hp} {σ σ' : L2.St} {ρ ρ' : MEnv}
theorem RE.sub (r : RE Γ B0 B1 Hs H σ ρ) (hl : ρ'.length = σ'.length) (h : ∀ (i : Nat) (s : S), ρ'[i]? = some (some s) → ρ[i]? = some (some s) ∧ σ'[i]? = σ[i]?) : RE Γ B0 B1 Hs H σ' ρ' where
  tb := r.tb
  b := r.b
  sh := fun i d e => by
    obtain ⟨e1, e2⟩ := h i _ e
    obtain ⟨v, e3, q⟩ := r.sh i d e1
    exact ⟨v, e2.trans e3, q⟩
  own := fun i o e => by
    obtain ⟨e1, e2⟩ := h i _ e
    obtain ⟨a, ho, e3, f1, f2, f3, q⟩ := r.own i o e1
    exact ⟨a, ho, e2.trans e3, f1, f2, f3, q⟩
  apart := fun i j o u a hij hi hj ha => by
    obtain ⟨e1, e2⟩ := h i _ hi
    obtain ⟨e3, e4⟩ := h j _ hj
    rw [e4]
    exact r.apart i j o u a hij e1 e3 (e2.symm.trans ha)
  len := hl
theorem RE.other (r : RE Γ B0 B1 Hs H σ ρ) {a : Addr} {ho : HO} (h1 : Hs a = none) (h2 : B1 a = none) (h3 : ∀ (i : Nat) (o : O), ρ[i]? = some (some (.own o)) → σ[i]? ≠ some (some (.ref a))) : RE Γ B0 B1 Hs (upd H a ho) σ ρ where
  tb := r.tb
  b := ⟨r.b.s, fun b u z => by rw [upd_ne (ne_of_none z h2)]; exact r.b.h _ _ z, fun b u z => by rw [upd_ne (ne_of_none z h1)]; exact r.b.i _ _ z, r.b.n⟩
  sh := r.sh
  own := fun i o e => by
    obtain ⟨c, hc, f1, f2, f3, f4, f5⟩ := r.own i o e
    refine ⟨c, hc, f1, f2, f3, ?_, f5⟩
    rw [upd_ne]
    · exact f4
    · intro z
      subst z
      exact h3 i o e f1
  apart := r.apart
  len := r.len
end
theorem Grow.other {Hs H Hs' H' : Hp} {a : Addr} {ho : HO} (g : Grow Hs H Hs' H') (h0 : H a = none) (h1 : Hs' a = none) : Grow Hs H Hs' (upd H' a ho) :=
  ⟨g.s, fun b u z => by rw [upd_ne (ne_of_none z h0)]; exact g.h _ _ z, fun b u z => by rw [upd_ne (ne_of_none z h1)]; exact g.i _ _ z, g.n⟩
theorem Grow.none {Hs H Hs' H' : Hp} {a : Addr} {ho : HO} (g : Grow Hs H Hs' H') (h : Hs a = Option.none) (h' : H a = some ho) : Hs' a = Option.none := by
  cases z : Hs' a with
  | none => rfl
  | some u =>
    rcases g.n a u z with w | w
    · rw [h] at w; cases w
    · rw [h'] at w; cases w
def BdIn (js : List Nat) (bd : MB) : Prop := ∀ d ρ ρ', bd d ρ = some ρ' → ρ'.length = ρ.length ∧ ∀ i : Nat, i ∉ js → ρ'[i]? = ρ[i]?
theorem a3d (j : Nat) : BdIn [j] (a0F j) := fun d ρ ρ' e => by
  cases e
  exact ⟨by rw [List.length_set], fun i hi => List.getElem?_set_ne fun z => hi (by simp [z])⟩
theorem a4O : ∀ (js : List Nat) (ds : List D) (ρ : MEnv), (a5Z js ds ρ).length = ρ.length ∧ ∀ i : Nat, i ∉ js → (a5Z js ds ρ)[i]? = ρ[i]?
  | [], _, _ => ⟨rfl, fun _ _ => rfl⟩
  | _ :: _, [], _ => ⟨rfl, fun _ _ => rfl⟩
  | j :: js, d :: ds, ρ => by
    obtain ⟨h1, h2⟩ := a4O js ds (ρ.set j (some (.sh d)))
    refine ⟨h1.trans List.length_set, fun i hi => ?_⟩
    have h' : i ≠ j ∧ i ∉ js := by simpa using hi
    exact (h2 i h'.2).trans (List.getElem?_set_ne (Ne.symm h'.1))
theorem bdIn_tup (js : List Nat) : BdIn js (bTup js) := fun d ρ ρ' e => by
  cases d with
  | tup ds =>
    unfold bTup at e
    dsimp only at e
    split at e
    · cases e; exact a4O js ds ρ
    · cases e
  | non => cases e
  | bl _ => cases e
  | int _ => cases e
  | str _ => cases e
  | lst _ => cases e
  | fn _ _ => cases e
  | obj _ _ _ => cases e
section
variable {Γ : Ct} {W : XW} {js : List Nat} {gi : MI} {bd : MB} {cond elt : ME}
theorem a64 {tt : TT} (ht : ∀ σ H Q, tT Γ W cond σ H Q → tt σ H Q) (hb : BdIn js bd) {σ : L2.St} {H : Hp} {Q : VK} (t : tD Γ W (a3a js gi bd cond elt) σ H Q) :
    a67 js (tI Γ W gi) (tB3 Γ js bd) tt (tD Γ W elt) σ H Q := by
  obtain ⟨B0, B1, Hs, ρ, r, re, e, q⟩ := t
  unfold a3a at e
  cases h : gi ρ with
  | none => rw [h] at e; cases e
  | some x =>
    rw [h] at e
    refine ⟨B0, B1, Hs, ρ, x, re, h, ?_⟩
    cases x with
    | exc y => cases e; exact q
    | ok ds =>
      intro J Hs1 H1 g1 w a ha
      dsimp only at e
      have hlim : ds.length ≤ lim := by
        by_cases z : ds.length ≤ lim
        · exact z
        · rw [if_neg z] at e; cases e
      rw [if_pos hlim] at e
      have hs1 : Hs1 a = none := g1.i.free ha
      have h0 : H a = none := g1.h.free ha
      have hb1 : B1 a = none := re.b.h.free h0
      have re1 : RE Γ B0 B1 Hs1 H1 (a1e js σ) (a0q js ρ) := (re.grow g1).sub (by rw [a2l, a00, re.len]) fun i s z => by
        obtain ⟨z1, z2⟩ := a0E js ρ i s z
        exact ⟨z2, a2m js σ i z1⟩
      have ap1 : ∀ (i : Nat) (o : O), (a0q js ρ)[i]? = some (some (.own o)) → (a1e js σ)[i]? ≠ some (some (.ref a)) := fun i o z z' => by
        obtain ⟨c, hc, f1, _, _, f4, _⟩ := re1.own i o z
        rw [z'] at f1
        cases f1
        rw [ha] at f4
        cases f4
      refine ⟨fun i m σ2 ys H2 => m = ds.length - i ∧ i ≤ ds.length ∧ ∃ Hs2 acc, Same Hs1 Hs2 ∧ Grow Hs H Hs2 H2 ∧ RE Γ B0 B1 Hs2 H2 σ2 (a0q js ρ) ∧ Hs2 a = none ∧
        (∀ (i : Nat) (o : O), (a0q js ρ)[i]? = some (some (.own o)) → σ2[i]? ≠ some (some (.ref a))) ∧ H2 a = some (.lst ys) ∧ RepL Γ Hs2 acc ys ∧ a1x bd cond elt (a0q js ρ) (ds.drop i) acc = some r ∧ acc.length ≤ i, ⟨_, rfl, Nat.zero_le _, Hs1, [], .refl _, g1.other h0 hs1, re1.other hs1 hb1 ap1, hs1, ap1, upd_same, .nil, e, Nat.zero_le _⟩, ?_⟩
      rintro i m σ2 ys H2 ⟨rfl, hi, Hs2, acc, sm, g2, re2, ha2, ap, hy, rl, ec, hacc⟩
      refine ⟨hy, ?_⟩
      by_cases hlt : i < ds.length
      · refine .inr ⟨w.go i Hs2 H2 hlt sm re2.b.i, fun x H3 y => ?_⟩
        obtain ⟨d, Hs3, ed, g3, rp⟩ := w.yld i Hs2 H2 x H3 hlt sm re2.b.i y
        have hd : ds.drop i = d :: ds.drop (i + 1) := by
          rw [List.drop_eq_getElem_cons hlt]
          congr 1
          rw [List.getElem?_eq_getElem hlt] at ed
          exact Option.some.inj ed
        rw [hd] at ec
        unfold a1x at ec
        cases hbd : bd d (a0q js ρ) with
        | none => rw [hbd] at ec; cases ec
        | some ρ1 =>
          rw [hbd] at ec
          dsimp only at ec
          obtain ⟨bl, bo⟩ := hb d _ ρ1 hbd
          refine ⟨B0, B1, Hs3, a0q js ρ, d, ρ1, re2.grow g3, rp, hbd, fun σ4 re4 hσ => ?_⟩
          have low : ∀ {Hs5 H5 : Hp}, RE Γ B0 B1 Hs5 H5 σ4 ρ1 → RE Γ B0 B1 Hs5 H5 σ4 (a0q js ρ) := fun r5 => r5.sub (by rw [← bl, r5.len]) fun k s z => by
            obtain ⟨z1, _⟩ := a0E js ρ k s z
            exact ⟨(bo k z1).trans z, rfl⟩
          have ap4 : ∀ (k : Nat) (o : O), (a0q js ρ)[k]? = some (some (.own o)) → σ4[k]? ≠ some (some (.ref a)) := fun k o z => by
            obtain ⟨z1, _⟩ := a0E js ρ k _ z
            rw [hσ k z1]
            exact ap k o z
          have ha3 := g3.none ha2 hy
          have hy3 := g3.h _ _ hy
          refine ht _ _ _ ?_
          cases hcv : cond ρ1 with
          | none => rw [hcv] at ec; cases ec
          | some c =>
            rw [hcv] at ec
            refine ⟨B0, B1, Hs3, ρ1, c, re4, hcv, ?_⟩
            cases c with
            | exc x =>
              cases ec
              exact fun Hs' H' g' => q Hs' H' ((g2.trans g3).trans g')
            | ok s =>
              obtain ⟨b, eb, ec2⟩ := a2r (show asB s.val _ = some r from ec)
              refine ⟨b, eb, fun Hs5 H5 g5 => ?_⟩
              have ha5 := g5.none ha3 hy3
              have hy5 := g5.h _ _ hy3
              have re5 := re4.grow g5
              cases b with
              | false =>
                rw [if_neg Bool.false_ne_true] at ec2
                refine iteF ?_
                exact ⟨_, by omega, rfl, hlt, Hs5, acc, (sm.trans g3.s).trans g5.s, (g2.trans g3).trans g5, low re5, ha5, ap4, hy5, rl.mono (g3.s.trans g5.s), ec2, by omega⟩
              | true =>
                rw [if_pos rfl] at ec2
                refine iteT ?_
                refine (a1h (k := fun x => a1x bd cond elt (a0q js ρ) (ds.drop (i + 1)) (acc ++ [x])) re5 ec2 ((q.grow (g2.trans g3)).grow g5)).mono fun v H6 ⟨Hs6, z, g6, re6, rp6, ec6, q6⟩ => ?_
                have ha6 := g6.none ha5 hy5
                have hy6 := g6.h _ _ hy5
                have hlen : acc.length = ys.length := rl.length
                have hbig : ys.length < sizeLine := Nat.lt_of_lt_of_le (by omega : ys.length < lim) (by decide)
                refine ⟨hy6, hbig, _, by omega, rfl, hlt, Hs6, acc ++ [z], ((sm.trans g3.s).trans g5.s).trans g6.s, (((g2.trans g3).trans g5).trans g6).other h0 ha6, (low re6).other ha6 hb1 ap4, ha6, ap4, upd_same, (rl.mono ((g3.s.trans g5.s).trans g6.s)).append (.cons rp6 .nil), ec6, by rw [List.length_append, List.length_singleton]; omega⟩
      · have ei : i = ds.length := by omega
        subst ei
        rw [List.drop_length] at ec
        unfold a1x at ec
        split at ec
        · cases ec
          exact .inl ⟨w.stop Hs2 H2 sm re2.b.i, q _ Hs2 H2 g2 ⟨a, _, rfl, h0, ha2, hy, ys, rfl, rl⟩⟩
        · cases ec
end
section
variable {X : Cx} {Γ : Ct} {W : XW} {scope : Scope} {vars : List Str} {js : List Nat} {elt tg iter c : Expr} {pos : Pos} {gi : MI} {bd : MB} {cond ge : ME}
theorem tT_true {σ : L2.St} {H : Hp} {Q : Bool → Hp → Prop} (t : tT Γ W a3c σ H Q) : a6u σ H Q := by
  obtain ⟨B0, B1, Hs, ρ, r, re, e, q⟩ := t
  cases e
  obtain ⟨b, eb, q⟩ := q
  cases eb
  exact q Hs H (.refl re.b.i)
variable {i : Nat} {x : Str} {pos' spos : Pos}
theorem a3N {st : Stmt} {t : TE} {ge : ME} (h : PS X st (tAsg t (gName i))) (ht : ∀ σ H Q, tD Γ W ge σ H Q → t σ H Q) (hi : i < X.N.length) : PSD X Γ W st (sSet i ge) := PS.imp h fun pins s σ H D I ⟨B0, B1, Hs, ρ, o, re, e, q⟩ => by
  refine ht _ _ _ ((tD_O re e q).mono fun v H1 ⟨Hs1, s, g1, rs, e1⟩ => ?_)
  cases e1
  exact q _ Hs1 H1 g1.s (re.setS g1 (by rw [I.len]; exact hi) rs)
theorem psd_comp (hN : X.N.Nodup) (hi' : X.N[i]? = some x) (hx : Loc X.env.scope x) (hb : BdIn js bd) (hc : a0Y scope X.env.scope vars = true) (hj : a2v X.N vars js = true) (hcalm : X.calm = true) (hi : PID X Γ W tg iter gi)
    (hg : ∀ fp s H a, PBD (a01 X scope fp s H a) Γ tg js bd) (he : ∀ fp s H a, PD (a01 X scope fp s H a) Γ W elt ge)
    (hsw : swapsWith (.ListComp elt [⟨tg, iter, [], 0⟩] scope pos) (some (.Name x pos')) spos.line X.env = pure true := by rfl) (hs : ∀ x, foldedSetIterable iter X.env x = pure x := by intro _; rfl)
    (hf : X.fn x = true ∨ X.env.scope.names.lookup x = some .local := by first | exact .inl rfl | exact .inr rfl | assumption) :
    PSD X Γ W (.Assign [.Name x pos'] (.ListComp elt [⟨tg, iter, [], 0⟩] scope pos) spos) (sSet i (a3a js gi bd a3c ge)) :=
  a3N (a3i hN hi' hx hc hj hcalm hi hg (fun _ _ _ _ => a5v) he hsw hs hf) (fun _ _ _ t => a64 (fun _ _ _ z => tT_true z) hb t) (List.getElem?_eq_some_iff.mp hi').1
theorem a4e (hN : X.N.Nodup) (hi' : X.N[i]? = some x) (hx : Loc X.env.scope x) (hb : BdIn js bd) (hc : a0Y scope X.env.scope vars = true) (hj : a2v X.N vars js = true) (hcalm : X.calm = true) (hi : PID X Γ W tg iter gi)
    (hg : ∀ fp s H a, PBD (a01 X scope fp s H a) Γ tg js bd) (ht : ∀ fp s H a, PTD (a01 X scope fp s H a) Γ W c cond) (he : ∀ fp s H a, PD (a01 X scope fp s H a) Γ W elt ge)
    (hsw : swapsWith (.ListComp elt [⟨tg, iter, [c], 0⟩] scope pos) (some (.Name x pos')) spos.line X.env = pure true := by rfl) (hs : ∀ x, foldedSetIterable iter X.env x = pure x := by intro _; rfl)
    (hf : X.fn x = true ∨ X.env.scope.names.lookup x = some .local := by first | exact .inl rfl | exact .inr rfl | assumption) :
    PSD X Γ W (.Assign [.Name x pos'] (.ListComp elt [⟨tg, iter, [c], 0⟩] scope pos) spos) (sSet i (a3a js gi bd cond ge)) :=
  a3N (a3i hN hi' hx hc hj hcalm hi hg (fun fp s H a => pif_one (ht fp s H a)) he hsw hs hf) (fun _ _ _ t => a64 (fun _ _ _ z => z) hb t) (List.getElem?_eq_some_iff.mp hi').1
theorem a2Z {l : Expr} {g : ME} (hK : X.K = Γ.K) (h : PD X Γ W l g) : PID X Γ W tg l (iSeq g) := PI.imp (pi_seq h) fun _ _ σ H Q _ ⟨B0, B1, Hs, ρ, r, re, e, q⟩ => by
  unfold iSeq at e
  cases hg : g ρ with
  | none => rw [hg] at e; cases e
  | some y =>
    rw [hg] at e
    cases y with
    | exc z =>
      cases e
      exact ⟨B0, B1, Hs, ρ, _, re, hg, q⟩
    | ok s =>
      refine ⟨B0, B1, Hs, ρ, .ok s, re, hg, fun v Hs' H' g' rs => ?_⟩
      obtain ⟨Hs2, g2, _, rp⟩ := rs.share g'
      dsimp only at e
      cases hv : s.val with
      | lst ds =>
        rw [hv] at e rp
        cases e
        obtain ⟨a, xs, rfl, rd, rl⟩ := a1s.mp rp
        rw [← hK] at rd
        exact ⟨a, rfl, .inl ⟨⟨xs, Same.seq g2.i rd⟩, q _ Hs2 H' g2 (a6Z rd rl)⟩⟩
      | tup ds =>
        rw [hv] at e rp
        cases e
        obtain ⟨a, xs, rfl, sq, rl⟩ := a1m.mp rp
        rw [← hK] at sq
        exact ⟨a, rfl, .inr ⟨⟨xs, a0U g2.i sq⟩, q _ Hs2 H' g2 (walk_tup sq rl)⟩⟩
      | non => rw [hv] at e; cases e
      | bl _ => rw [hv] at e; cases e
      | int _ => rw [hv] at e; cases e
      | str _ => rw [hv] at e; cases e
      | fn _ _ => rw [hv] at e; cases e
      | obj _ _ _ => rw [hv] at e; cases e
theorem tD_I {B0 B1 Hs H : Hp} {σ : L2.St} {ρ : MEnv} {g : ME} {k : D → Option RI} {r : RI} {Q : It → Hp → Prop} (re : RE Γ B0 B1 Hs H σ ρ) (e : iArg g ρ k = some r) (q : IQ Γ W Hs H r Q) :
    tD Γ W g σ H (fun v H1 => ∃ Hs1 d, Grow Hs H Hs1 H1 ∧ RE Γ B0 B1 Hs1 H1 σ ρ ∧ Rep Γ Hs1 d v ∧ k d = some r ∧ IQ Γ W Hs1 H1 r Q) := by
  unfold iArg at e
  cases h : g ρ with
  | none => rw [h] at e; cases e
  | some x =>
    rw [h] at e
    refine ⟨B0, B1, Hs, ρ, x, re, h, ?_⟩
    cases x with
    | exc y => cases e; exact q
    | ok s =>
      intro v Hs' H' g' rs
      obtain ⟨Hs'', g2, _, rp⟩ := rs.share g'
      refine ⟨Hs'', s.val, g2, re.grow g2, rp, e, ?_⟩
      cases r with
      | ok ds => exact fun J Hs3 H3 g3 w => q J Hs3 H3 (g2.trans g3) w
      | exc y => exact fun Hs3 H3 g3 => q Hs3 H3 (g2.trans g3)
theorem a28 {i : Int} (h : a20 i = true) : -(2 ^ 62) ≤ i ∧ i < 2 ^ 62 := by
  unfold a20 at h
  simpa using h
theorem a1Z {a : Expr} {g : ME} {p p' : Pos} (hg : Gl X "range") (hm : X.mg "range" = none) (h : PD X Γ W a g) (hst : starEach (a :: []) X.env = (false, eval a X.env) :: starEach [] X.env := by rfl) (hs : starEach [a] X.env = [(false, eval a X.env)] := by rfl) :
    PID X Γ W tg (.Call (.Name "range" p) [a] [] p') (a1t g) := PI.imp (pi_range1 hg hm (pa_cons h pa_nil hst) hs) fun _ _ σ H Q _ ⟨B0, B1, Hs, ρ, r, re, e, q⟩ => by
  refine (tD_I re e q).mono fun v H1 ⟨Hs1, d, g1, re1, rp, e1, q1⟩ => ?_
  cases d with
  | int hi =>
    dsimp only at e1
    split at e1
    · rename_i hr
      cases e1
      obtain ⟨h1, h2⟩ := a28 hr
      refine ⟨hi, by rw [a0g.mp rp], h1, h2, q1 _ Hs1 H1 (.refl re1.b.i) ?_⟩
      have w := a5V (Γ := Γ) (Hs0 := Hs1) 0 hi
      rw [Int.sub_zero] at w
      exact w
    · cases e1
  | non => cases e1
  | bl _ => cases e1
  | str _ => cases e1
  | tup _ => cases e1
  | lst _ => cases e1
  | fn _ _ => cases e1
  | obj _ _ _ => cases e1
theorem a4f {a b : Expr} {ga gb : ME} {p p' : Pos} (hg : Gl X "range") (hm : X.mg "range" = none) (ha : PD X Γ W a ga) (hb : PD X Γ W b gb) (hst : starEach [a, b] X.env = (false, eval a X.env) :: starEach [b] X.env := by rfl) (hst2 : starEach [b] X.env = (false, eval b X.env) :: starEach [] X.env := by rfl)
    (hs : starEach [a, b] X.env = [(false, eval a X.env), (false, eval b X.env)] := by rfl) (hs2 : starEach [b] X.env = [(false, eval b X.env)] := by rfl) :
    PID X Γ W tg (.Call (.Name "range" p) [a, b] [] p') (a1V ga gb) := PI.imp (pi_range2 hg hm (pa_cons ha (pa_cons hb pa_nil hst2) hst) hs hs2) fun _ _ σ H Q _ ⟨B0, B1, Hs, ρ, r, re, e, q⟩ => by
  refine (tD_I re e q).mono fun v H1 ⟨Hs1, d, g1, re1, rp, e1, q1⟩ => ?_
  refine (tD_I re1 e1 q1).mono fun u H2 ⟨Hs2, d2, g2, re2, rp2, e2, q2⟩ => ?_
  cases d with
  | int lo =>
    cases d2 with
    | int hi =>
      dsimp only at e2
      split at e2
      · rename_i hr
        cases e2
        obtain ⟨h1, h2⟩ := a28 hr.1
        obtain ⟨h3, h4⟩ := a28 hr.2
        exact ⟨lo, hi, by rw [a0g.mp rp, a0g.mp rp2], ⟨h1, h2, h3, h4⟩, q2 _ Hs2 H2 (.refl re2.b.i) (a5V lo hi)⟩
      · cases e2
    | non => cases e2
    | bl _ => cases e2
    | str _ => cases e2
    | tup _ => cases e2
    | lst _ => cases e2
    | fn _ _ => cases e2
    | obj _ _ _ => cases e2
  | non => cases e2
  | bl _ => cases e2
  | str _ => cases e2
  | tup _ => cases e2
  | lst _ => cases e2
  | fn _ _ => cases e2
  | obj _ _ _ => cases e2
end
end L3
namespace L3
open PySem PySem.Spec PyProof.Rows L2
section
variable {X : Cx} {Γ : Ct} {W : XW}
theorem retS {Hs H : Hp} {Q : VK} {d : D} (sm : Same Hs H) (q : RQ Γ W Hs H (.ok (.sh d)) Q) {v : V} (rp : Rep Γ Hs d v) : Q v H := q v Hs H (.refl sm) rp
theorem a5q {Hs H : Hp} {Q : VK} {ds : List D} {xs : List V} (sm : Same Hs H) (q : RQ Γ W Hs H (.ok (.sh (.tup ds))) Q) (rl : RepL Γ Hs ds xs) {p : Addr} (hp : H p = none) : Q (.ref p) (upd H p (.tup xs)) :=
  q _ (upd Hs p (.tup xs)) _ (.new sm hp) (RepS.of (a1m.mpr ⟨p, xs, rfl, .of upd_same, rl.mono (a0M (sm.free hp))⟩))
theorem a7f {Hs H : Hp} {Q : VK} {ds : List D} {xs : List V} (sm : Same Hs H) (q : RQ Γ W Hs H (.ok (.own (.lst ds))) Q) (rl : RepL Γ Hs ds xs) {p : Addr} (hp : H p = none) : Q (.ref p) (upd H p (.lst xs)) :=
  q _ Hs _ (.newOwn sm hp) ⟨p, _, rfl, hp, sm.free hp, upd_same, xs, rfl, rl⟩
theorem a4h {n : Nat} (h : n ≤ lim) : n ≤ sizeLine := Nat.le_trans h (by decide)
theorem a0I {α : Type} {c : Prop} [Decidable c] {a r : α} (h : (if c then some a else none) = some r) : c ∧ a = r := by
  by_cases z : c
  · rw [if_pos z] at h; exact ⟨z, Option.some.inj h⟩
  · rw [if_neg z] at h; cases h
theorem a0o (hK : X.K = Γ.K) : OpR X (binaryOp .Add) (rD Γ W dAdd) := fun pins s σ H x y v u Q I rx ry ⟨Hs, d1, d2, r, sm, r1, r2, e, q⟩ => by
  cases d1 with
  | int i =>
    cases d2 with
    | int j => cases e; exact op_add pins s σ H x y v u Q I rx ry ⟨i, j, a0g.mp r1, a0g.mp r2, retS sm q (a0g.mpr rfl)⟩
    | non => cases e
    | bl _ => cases e
    | str _ => cases e
    | tup _ => cases e
    | lst _ => cases e
    | fn _ _ => cases e
    | obj _ _ _ => cases e
  | str i =>
    cases d2 with
    | str j =>
      obtain ⟨hl, rfl⟩ := a0I (c := i.length + j.length ≤ lim) e
      exact op_add_str pins s σ H x y v u Q I rx ry ⟨i, j, a0R.mp r1, a0R.mp r2, a4h hl, retS sm q (a0R.mpr rfl)⟩
    | non => cases e
    | bl _ => cases e
    | int _ => cases e
    | tup _ => cases e
    | lst _ => cases e
    | fn _ _ => cases e
    | obj _ _ _ => cases e
  | tup ds =>
    cases d2 with
    | tup es =>
      obtain ⟨hl, rfl⟩ := a0I (c := ds.length + es.length ≤ lim) e
      obtain ⟨a, xs, rfl, qa, la⟩ := a1m.mp r1
      obtain ⟨b, ys, rfl, qb, lb⟩ := a1m.mp r2
      have qa' : SqT X.K H a xs := by rw [hK]; exact a0U sm qa
      have qb' : SqT X.K H b ys := by rw [hK]; exact a0U sm qb
      by_cases h0 : xs = []
      · subst h0
        have e0 : ds = [] := List.length_eq_zero_iff.mp la.length
        subst e0
        exact op_catT0 pins s σ H _ _ v u Q I rx ry ⟨a, b, ys, rfl, rfl, qa', qb', retS sm q (a1m.mpr ⟨b, ys, rfl, qb, lb⟩)⟩
      · refine op_catT pins s σ H _ _ v u Q I rx ry ⟨a, b, xs, ys, rfl, rfl, qa', qb', h0, by rw [← la.length, ← lb.length]; exact a4h hl, fun z => ?_, fun z p hp => a5q sm q (la.append lb) hp⟩
        subst z
        have e0 : es = [] := List.length_eq_zero_iff.mp lb.length
        subst e0
        rw [List.append_nil] at q
        exact retS sm q (a1m.mpr ⟨a, xs, rfl, qa, la⟩)
    | non => cases e
    | bl _ => cases e
    | int _ => cases e
    | str _ => cases e
    | lst _ => cases e
    | fn _ _ => cases e
    | obj _ _ _ => cases e
  | lst ds =>
    cases d2 with
    | lst es =>
      obtain ⟨hl, rfl⟩ := a0I (c := ds.length + es.length ≤ lim) e
      obtain ⟨a, xs, rfl, qa, la⟩ := a1s.mp r1
      obtain ⟨b, ys, rfl, qb, lb⟩ := a1s.mp r2
      exact op_catR pins s σ H _ _ v u Q I rx ry ⟨a, b, xs, ys, rfl, rfl, by rw [hK]; exact Same.seq sm qa, by rw [hK]; exact Same.seq sm qb, by rw [← la.length, ← lb.length]; exact a4h hl, fun p hp => a7f sm q (la.append lb) hp⟩
    | non => cases e
    | bl _ => cases e
    | int _ => cases e
    | str _ => cases e
    | tup _ => cases e
    | fn _ _ => cases e
    | obj _ _ _ => cases e
  | non => cases e
  | bl _ => cases e
  | fn _ _ => cases e
  | obj _ _ _ => cases e
theorem a1d {f : Int → Int → Option R} {g : D → D → Option R} (hg : ∀ d1 d2, g d1 d2 = match d1, d2 with | .int i, .int j => f i j | _, _ => none) {d1 d2 : D} {r : R} (e : g d1 d2 = some r) : ∃ i j, d1 = .int i ∧ d2 = .int j ∧ f i j = some r := by
  rw [hg] at e
  cases d1 with
  | int i =>
    cases d2 with
    | int j => exact ⟨i, j, rfl, rfl, e⟩
    | non => cases e
    | bl _ => cases e
    | str _ => cases e
    | tup _ => cases e
    | lst _ => cases e
    | fn _ _ => cases e
    | obj _ _ _ => cases e
  | non => cases e
  | bl _ => cases e
  | str _ => cases e
  | tup _ => cases e
  | lst _ => cases e
  | fn _ _ => cases e
  | obj _ _ _ => cases e
theorem a3P : OpR X (binaryOp .Sub) (rD Γ W dSub) := fun pins s σ H x y v u Q I rx ry ⟨Hs, d1, d2, r, sm, r1, r2, e, q⟩ => by
  obtain ⟨i, j, rfl, rfl, e⟩ := a1d (f := fun i j => okI (i - j)) (fun _ _ => rfl) e
  cases e
  exact op_sub pins s σ H x y v u Q I rx ry ⟨i, j, a0g.mp r1, a0g.mp r2, retS sm q (a0g.mpr rfl)⟩
theorem a4N {i : Int} (h : a2R i = true) : -(2 ^ 64) < i ∧ i < 2 ^ 64 := by
  unfold a2R at h
  simpa using h
theorem a2i : OpR X (binaryOp .Mod) (rD Γ W dMod) := fun pins s σ H x y v u Q I rx ry ⟨Hs, d1, d2, r, sm, r1, r2, e, q⟩ => by
  obtain ⟨i, j, rfl, rfl, e⟩ := a1d (f := fun i j => if 0 < j then okI (i % j) else none) (fun _ _ => rfl) e
  obtain ⟨h, rfl⟩ := a0I e
  exact op_mod pins s σ H x y v u Q I rx ry ⟨i, j, a0g.mp r1, a0g.mp r2, h, retS sm q (a0g.mpr rfl)⟩
theorem a4v : OpR X (binaryOp .FloorDiv) (rD Γ W a5d) := fun pins s σ H x y v u Q I rx ry ⟨Hs, d1, d2, r, sm, r1, r2, e, q⟩ => by
  obtain ⟨i, j, rfl, rfl, e⟩ := a1d (f := fun i j => if 0 < j ∧ j < 1073741824 then okI (i / j) else none) (fun _ _ => rfl) e
  obtain ⟨h, rfl⟩ := a0I e
  exact op_fdiv pins s σ H x y v u Q I rx ry ⟨i, j, a0g.mp r1, a0g.mp r2, h, retS sm q (a0g.mpr rfl)⟩
theorem a6d : OpR X (compareOp .Lt) (rD Γ W dLt) := fun pins s σ H x y v u Q I rx ry ⟨Hs, d1, d2, r, sm, r1, r2, e, q⟩ => by
  obtain ⟨i, j, rfl, rfl, e⟩ := a1d (f := fun i j => okB (decide (i < j))) (fun _ _ => rfl) e
  cases e
  exact op_lt pins s σ H x y v u Q I rx ry ⟨i, j, a0g.mp r1, a0g.mp r2, retS sm q (a0X.mpr rfl)⟩
theorem a6e : OpR X (compareOp .Gt) (rD Γ W dGt) := fun pins s σ H x y v u Q I rx ry ⟨Hs, d1, d2, r, sm, r1, r2, e, q⟩ => by
  obtain ⟨i, j, rfl, rfl, e⟩ := a1d (f := fun i j => okB (decide (j < i))) (fun _ _ => rfl) e
  cases e
  exact op_gt pins s σ H x y v u Q I rx ry ⟨i, j, a0g.mp r1, a0g.mp r2, retS sm q (a0X.mpr rfl)⟩
theorem opd_ge : OpR X (compareOp .GtE) (rD Γ W dGe) := fun pins s σ H x y v u Q I rx ry ⟨Hs, d1, d2, r, sm, r1, r2, e, q⟩ => by
  obtain ⟨i, j, rfl, rfl, e⟩ := a1d (f := fun i j => okB (decide (j ≤ i))) (fun _ _ => rfl) e
  cases e
  exact op_ge pins s σ H x y v u Q I rx ry ⟨i, j, a0g.mp r1, a0g.mp r2, retS sm q (a0X.mpr rfl)⟩
theorem a2h : OpR X (binaryOp .Mult) (rD Γ W dMul) := fun pins s σ H x y v u Q I rx ry ⟨Hs, d1, d2, r, sm, r1, r2, e, q⟩ => by
  cases d1 with
  | int i =>
    cases d2 with
    | int j =>
      obtain ⟨hl, rfl⟩ := a0I (c := (a2R i || a2R j) = true) e
      refine op_mul pins s σ H x y v u Q I rx ry ⟨i, j, a0g.mp r1, a0g.mp r2, ?_, retS sm q (a0g.mpr rfl)⟩
      rcases Bool.or_eq_true_iff.mp hl with h | h
      · exact .inl (a4N h)
      · exact .inr (a4N h)
    | non => cases e
    | bl _ => cases e
    | str _ => cases e
    | tup _ => cases e
    | lst _ => cases e
    | fn _ _ => cases e
    | obj _ _ _ => cases e
  | lst _ => cases e
  | non => cases e
  | bl _ => cases e
  | str _ => cases e
  | tup _ => cases e
  | fn _ _ => cases e
  | obj _ _ _ => cases e
theorem a6p {d1 d2 : D} {b : Bool} {x y : V} {H : Hp} (e : eqF d1 d2 = some b) (r1 : Rep Γ H d1 x) (r2 : Rep Γ H d2 y) : scal x y = true ∧ decide (x = y) = b := by
  cases d1 with
  | non =>
    rw [a1K.mp r1]
    cases d2 with
    | non => rw [a1K.mp r2]; cases e; exact ⟨rfl, rfl⟩
    | bl _ => rw [a0X.mp r2]; cases e; exact ⟨rfl, rfl⟩
    | int _ => rw [a0g.mp r2]; cases e; exact ⟨rfl, rfl⟩
    | str _ => rw [a0R.mp r2]; cases e; exact ⟨rfl, rfl⟩
    | tup _ => cases e
    | lst _ => cases e
    | fn _ _ => cases e
    | obj _ _ _ => cases e
  | bl c =>
    rw [a0X.mp r1]
    cases d2 with
    | non => rw [a1K.mp r2]; cases e; exact ⟨rfl, rfl⟩
    | bl c' => rw [a0X.mp r2]; cases e; exact ⟨rfl, by rw [Bool.eq_iff_iff]; simp⟩
    | int _ => cases e
    | str _ => rw [a0R.mp r2]; cases e; exact ⟨rfl, rfl⟩
    | tup _ => cases e
    | lst _ => cases e
    | fn _ _ => cases e
    | obj _ _ _ => cases e
  | int c =>
    rw [a0g.mp r1]
    cases d2 with
    | non => rw [a1K.mp r2]; cases e; exact ⟨rfl, rfl⟩
    | bl _ => cases e
    | int c' => rw [a0g.mp r2]; cases e; exact ⟨rfl, by rw [Bool.eq_iff_iff]; simp⟩
    | str _ => rw [a0R.mp r2]; cases e; exact ⟨rfl, rfl⟩
    | tup _ => cases e
    | lst _ => cases e
    | fn _ _ => cases e
    | obj _ _ _ => cases e
  | str c =>
    rw [a0R.mp r1]
    cases d2 with
    | non => rw [a1K.mp r2]; cases e; exact ⟨rfl, rfl⟩
    | bl _ => rw [a0X.mp r2]; cases e; exact ⟨rfl, rfl⟩
    | int _ => rw [a0g.mp r2]; cases e; exact ⟨rfl, rfl⟩
    | str c' => rw [a0R.mp r2]; cases e; exact ⟨rfl, by rw [Bool.eq_iff_iff]; simp⟩
    | tup _ => cases e
    | lst _ => cases e
    | fn _ _ => cases e
    | obj _ _ _ => cases e
  | tup _ => cases e
  | lst _ => cases e
  | fn _ _ => cases e
  | obj _ _ _ => cases e
theorem a1u : OpR X (compareOp .Eq) (rD Γ W dEq) := fun pins s σ H x y v u Q I rx ry ⟨Hs, d1, d2, r, sm, r1, r2, e, q⟩ => by
  unfold dEq at e
  cases h : eqF d1 d2 with
  | none => rw [h] at e; cases e
  | some b =>
    rw [h] at e
    cases e
    obtain ⟨h1, h2⟩ := a6p h r1 r2
    exact op_eq pins s σ H x y v u Q I rx ry ⟨h1, by rw [h2]; exact retS sm q (a0X.mpr rfl)⟩
theorem a4g : OpR X (compareOp .NotEq) (rD Γ W dNe) := fun pins s σ H x y v u Q I rx ry ⟨Hs, d1, d2, r, sm, r1, r2, e, q⟩ => by
  unfold dNe at e
  cases h : eqF d1 d2 with
  | none => rw [h] at e; cases e
  | some b =>
    rw [h] at e
    cases e
    obtain ⟨h1, h2⟩ := a6p h r1 r2
    exact op_ne pins s σ H x y v u Q I rx ry ⟨h1, by rw [h2]; exact retS sm q (a0X.mpr rfl)⟩
theorem repL_map {α : Type} {H : Hp} {f : α → D} {g : α → V} (l : List α) (h : ∀ k, Rep Γ H (f k) (g k)) : RepL Γ H (l.map f) (l.map g) := by
  induction l with
  | nil => exact .nil
  | cons a l ih => exact .cons (h a) ih
theorem a7S {H : Hp} {ds : List D} {xs : List V} {i : Int} {d : D} (rl : RepL Γ H ds xs) (e : atD ds i = some d) : ∃ x, atI xs i = some x ∧ Rep Γ H d x := by
  unfold atD at e
  unfold atI
  have hl := rl.length
  have e0 : ixN xs.length i = ixD ds.length i := by rw [hl]; rfl
  rw [e0]
  cases h : ixD ds.length i with
  | none => rw [h] at e; cases e
  | some j =>
    rw [h] at e
    exact rl.get e
theorem ixd (hK : X.K = Γ.K) : IxR X (rD Γ W dIx) := fun value slice pins s σ H x y v u Q I rx ry ⟨Hs, d1, d2, r, sm, r1, r2, e, q⟩ hs => by
  cases d2 with
  | int i =>
    have ey := a0g.mp r2
    cases d1 with
    | tup ds =>
      have e : (atD ds i).bind okD = some r := e
      cases h : atD ds i with
      | none => rw [h] at e; cases e
      | some d =>
        rw [h] at e
        cases e
        obtain ⟨a, xs, rfl, qa, la⟩ := a1m.mp r1
        obtain ⟨z, ez, rz⟩ := a7S la h
        exact ix_tup value slice pins s σ H _ _ v u Q I rx ry ⟨a, xs, i, z, rfl, ey, by rw [hK]; exact a0U sm qa, ez, retS sm q rz⟩ hs
    | lst ds =>
      have e : (atD ds i).bind okD = some r := e
      cases h : atD ds i with
      | none => rw [h] at e; cases e
      | some d =>
        rw [h] at e
        cases e
        obtain ⟨a, xs, rfl, qa, la⟩ := a1s.mp r1
        obtain ⟨z, ez, rz⟩ := a7S la h
        exact ix_list value slice pins s σ H _ _ v u Q I rx ry ⟨a, xs, i, z, rfl, ey, by rw [hK]; exact Same.seq sm qa, ez, retS sm q rz⟩ hs
    | str z =>
      have e' : (if z.length ≤ lim then (atD z.cps.toList i).bind (fun c => okD (.str ⟨#[c]⟩)) else none) = some r := e
      by_cases hl : z.length ≤ lim
      · rw [if_pos hl] at e'
        cases h : atD z.cps.toList i with
        | none => rw [h] at e'; cases e'
        | some c =>
          rw [h] at e'
          cases e'
          exact ix_str value slice pins s σ H _ _ v u Q I rx ry ⟨z, i, c, a0R.mp r1, ey, a4h hl, h, retS sm q (a0R.mpr rfl)⟩ hs
      · rw [if_neg hl] at e'; cases e'
    | non => cases e
    | bl _ => cases e
    | int _ => cases e
    | fn _ _ => cases e
    | obj _ _ _ => cases e
  | non => cases d1 <;> cases e
  | bl _ => cases d1 <;> cases e
  | str _ => cases d1 <;> cases e
  | tup _ => cases d1 <;> cases e
  | lst _ => cases d1 <;> cases e
  | fn _ _ => cases d1 <;> cases e
  | obj _ _ _ => cases d1 <;> cases e
theorem a7B {F : D → Option R} {ds : List D} {r : R} (h : f1 F ds = some r) : ∃ d, ds = [d] ∧ F d = some r := by
  match ds, h with
  | [d], h => exact ⟨d, rfl, h⟩
theorem repL1 {H : Hp} {d : D} {xs : List V} (h : RepL Γ H [d] xs) : ∃ x, xs = [x] ∧ Rep Γ H d x := by
  obtain ⟨x, r, e, q, t⟩ := a0s.mp h
  rw [a03.mp t] at e
  exact ⟨x, e, q⟩
theorem a1g (hK : X.K = Γ.K) : CallR X (.builtin "len") (spR Γ W (f1 dLen)) := fun pins s σ H xs us Q I rs ⟨Hs, ds, r, sm, rl, e, q, tb⟩ => by
  obtain ⟨d, rfl, e⟩ := a7B e
  obtain ⟨x, rfl, rp⟩ := repL1 rl
  cases d with
  | tup ds =>
    cases e
    obtain ⟨a, ys, rfl, qa, la⟩ := a1m.mp rp
    exact call_len_seq pins s σ H _ us Q I rs ⟨a, ys, rfl, .inr (by rw [hK]; exact a0U sm qa), by rw [← la.length]; exact retS sm q (a0g.mpr rfl)⟩
  | lst ds =>
    cases e
    obtain ⟨a, ys, rfl, qa, la⟩ := a1s.mp rp
    exact call_len_seq pins s σ H _ us Q I rs ⟨a, ys, rfl, .inl (by rw [hK]; exact Same.seq sm qa), by rw [← la.length]; exact retS sm q (a0g.mpr rfl)⟩
  | str z =>
    obtain ⟨hl, rfl⟩ := a0I (c := z.length ≤ lim) e
    rw [a0R.mp rp] at rs
    exact call_len_str pins s σ H _ us Q I rs ⟨z, rfl, a4h hl, retS sm q (a0g.mpr rfl)⟩
  | non => cases e
  | bl _ => cases e
  | int _ => cases e
  | fn _ _ => cases e
  | obj _ _ _ => cases e
theorem a2M (hK : X.K = Γ.K) : CallR X (.type "tuple") (spR Γ W (f1 a2F)) := fun pins s σ H xs us Q I rs ⟨Hs, ds, r, sm, rl, e, q, tb⟩ => by
  obtain ⟨d, rfl, e⟩ := a7B e
  obtain ⟨x, rfl, rp⟩ := repL1 rl
  cases d with
  | tup ds =>
    cases e
    obtain ⟨a, ys, rfl, qa, la⟩ := a1m.mp rp
    exact call_tuple_of pins s σ H _ us Q I rs ⟨a, ys, rfl, .inr ⟨by rw [hK]; exact a0U sm qa, retS sm q rp⟩⟩
  | lst ds =>
    cases e
    obtain ⟨a, ys, rfl, qa, la⟩ := a1s.mp rp
    exact call_tuple_of pins s σ H _ us Q I rs ⟨a, ys, rfl, .inl ⟨by rw [hK]; exact Same.seq sm qa, fun p hp => a5q sm q la hp⟩⟩
  | str _ => cases e
  | non => cases e
  | bl _ => cases e
  | int _ => cases e
  | fn _ _ => cases e
  | obj _ _ _ => cases e
def a37 (K : PySem.W.Frag) (T : String) : Prop := ∀ t ∈ ["NoneType", "bool", "int", "str", "tuple", "list"], PySem.W.kitOne K (.type t) (.type T) = some (t == T || (t == "bool" && T == "int"))
theorem tD_isT {T : String} {g : ME} (hK : X.K = Γ.K) (h : a37 X.K T) {σ : L2.St} {H : Hp} {Q : VK} (t : tD Γ W (eUn (dIsT T) g) σ H Q) :
    tD Γ W g σ H fun x H1 => ∃ y t U b, [x, V.ty T] = [y, V.ty U] ∧ (TyOf X.K H1 y (.type t) ∨ (t = "tuple" ∧ ∃ a xs, y = .ref a ∧ SqT X.K H1 a xs) ∨ (t = "list" ∧ ∃ a xs, y = .ref a ∧ SqL X.K H1 a xs)) ∧ PySem.W.kitOne X.K (.type t) (.type U) = some b ∧ Q (.bl b) H1 := by
  obtain ⟨B0, B1, Hs, ρ, r, re, e, q⟩ := t
  refine (a1h re e q).mono fun v H1 ⟨Hs1, d, g1, re1, rp, e1, q1⟩ => ?_
  have fin : ∀ t : String, dIsT T d = okB (t == T || (t == "bool" && T == "int")) → Q (.bl (t == T || (t == "bool" && T == "int"))) H1 := fun t z => by
    rw [z] at e1
    cases e1
    exact q1 _ Hs1 H1 (.refl re1.b.i) (RepS.of (a0X.mpr rfl))
  cases d with
  | non => rw [a1K.mp rp]; exact ⟨_, "NoneType", T, _, rfl, .inl .non, h _ (by simp), fin _ rfl⟩
  | bl _ => rw [a0X.mp rp]; exact ⟨_, "bool", T, _, rfl, .inl (.bl _), h _ (by simp), fin _ rfl⟩
  | int _ => rw [a0g.mp rp]; exact ⟨_, "int", T, _, rfl, .inl (.int _), h _ (by simp), fin _ rfl⟩
  | str _ => rw [a0R.mp rp]; exact ⟨_, "str", T, _, rfl, .inl (.str _), h _ (by simp), fin _ rfl⟩
  | tup _ => obtain ⟨a, xs, rfl, qa, _⟩ := a1m.mp rp; exact ⟨_, "tuple", T, _, rfl, .inr (.inl ⟨rfl, a, xs, rfl, by rw [hK]; exact a0U re1.b.i qa⟩), h _ (by simp), fin _ rfl⟩
  | lst _ =>
    obtain ⟨a, xs, rfl, qa, _⟩ := a1s.mp rp
    exact ⟨_, "list", T, _, rfl, .inr (.inr ⟨rfl, a, xs, rfl, by rw [hK]; exact Same.seq re1.b.i qa⟩), h _ (by simp), fin _ rfl⟩
  | fn _ _ => cases e1
  | obj _ _ _ => cases e1
theorem a59 {a : Expr} {g : ME} {T : String} {tn : Str} {p p' pos : Pos} (hK : X.K = Γ.K) (hk : a37 X.K T) (hg : Gl X "isinstance") (hm : X.mg "isinstance" = none) (hg2 : Gl X tn) (hm2 : X.mg tn = none) (hb : bootBuiltins tn = some (.type T)) (h : PD X Γ W a g)
    (hn : tn ≠ "__name__" := by decide) (hdb : (tn == ("__debug__" : Str)) = false := by decide) (hs1 : starEach [a, .Name tn p'] X.env = (false, eval a X.env) :: starEach [.Name tn p'] X.env := by rfl) (hs2 : starEach [.Name tn p'] X.env = (false, eval (.Name tn p') X.env) :: starEach [] X.env := by rfl)
    (hpl : (backTo pos (starEach [.Name tn p'] X.env)).any (·.1) = false := by rfl) : PD X Γ W (.Call (.Name "isinstance" p) [a, .Name tn p'] [] pos) (eUn (dIsT T) g) :=
  PE.imp (pe_callB a5U hg hm boot_isinstance (pa_cons h (pa_cons (pe_bltn (v := .ty T) hg2 hm2 hb rfl hn hdb) pa_nil hs2) hs1) (by decide) (by decide) hs1 hpl) fun _ _ _ _ _ _ t => tD_isT hK hk t
end
end L3
namespace L3
open PySem PySem.Spec PyProof.Rows L2
section
variable {X : Cx} {Γ : Ct} {W : XW} {i : Nat} {x : Str} {e ex : Expr} {ge gx : ME} {px apos cpos pos : Pos}
theorem a4X {i : Nat} {ρ : MEnv} {k : List D → Option Out} {o : Out} (h : ownL i ρ k = some o) : ∃ ds, ρ[i]? = some (some (.own (.lst ds))) ∧ k ds = some o := by
  unfold ownL at h
  split at h
  · rename_i ds hd; exact ⟨ds, hd, h⟩
  · cases h
theorem a1E (hv : PE X (.Name x px) (tVar i)) (he : PD X Γ W e ge) (hs : starEach [e] X.env = (false, eval e X.env) :: starEach [] X.env := by rfl)
    (hbase : attributeBase (.Name x px) "append" X.env (eval (.Name x px) X.env) = eval (.Name x px) X.env := by rfl)
    (hfew : ((backTo cpos (starEach [e] X.env)).all (fun x => !x.1) && (backToKw cpos (keywordEach [] X.env)).all (fun x => x.1.isSome) && decide ([e].length + ([] : List Keyword).length + (if ([] : List Keyword).isEmpty then 0 else 1) < 30)) = true := by rfl)
    (hline : (apos.endLine == cpos.line) = true := by rfl) (hplain : (backTo cpos (starEach [] X.env)).any (·.1) = false := by rfl) (hsw : swapsWith (.Call (.Attribute (.Name x px) "append" apos) [e] [] cpos) none pos.line X.env = pure false := by rfl) :
    PSD X Γ W (.Expr (.Call (.Attribute (.Name x px) "append" apos) [e] [] cpos) pos) (a0Q i ge) :=
  PS.imp (ps_expr (pe_bm PySem.F.plainAttrs_list PySem.F.slot_list_append PySem.F.type_list_append mt_append hv (pa_cons he pa_nil hs) hbase hfew hline hs hplain) hsw) fun pins s σ H En I ⟨B0, B1, Hs, ρ, o, re, eo, q⟩ => by
    obtain ⟨ds, hd, eo⟩ := a4X eo
    obtain ⟨a, ho, e1, e2, e3, e4, xs, rfl, rl⟩ := re.own i _ hd
    refine ⟨.ref a, e1, .inl ⟨rfl, xs, .of e4⟩, (tD_O re eo q).mono fun y H1 ⟨Hs1, s, g1, rs, e5⟩ => ?_⟩
    obtain ⟨hl, rfl⟩ := a0I e5
    obtain ⟨Hs2, g2, _, rp⟩ := rs.share g1
    refine ⟨a, xs, y, rfl, rfl, g2.h _ _ e4, by rw [← rl.length]; exact Nat.lt_of_lt_of_le hl (by decide), q σ Hs2 _ g2.s ((re.grow g2).write hd e1 ⟨_, rfl, (rl.mono g2.s).append (.cons rp .nil)⟩)⟩
end
def W0 : XW := fun _ _ _ => False
theorem a52 {Γ : Ct} {Hs H : Hp} (sm : Same Hs H) {N : List Str} {ds : List D} {vs : List V} (rl : RepL Γ Hs ds vs) (tb : Same Γ.tb Hs) : RE Γ Hs H Hs H (L2.start N vs) (a1I N.length ds) := by
  have hl := rl.length
  have at' : ∀ (i : Nat) (s : S), (a1I N.length ds)[i]? = some (some s) → ∃ d, s = .sh d ∧ ds[i]? = some d := fun i s e => by
    unfold a1I at e
    by_cases hi : i < ds.length
    · rw [List.getElem?_append_left (by simpa using hi), List.getElem?_map, List.getElem?_eq_getElem hi] at e
      cases e
      exact ⟨ds[i], rfl, List.getElem?_eq_getElem hi⟩
    · rw [List.getElem?_append_right (by simpa using hi), List.getElem?_replicate] at e
      split at e <;> cases e
  refine ⟨.refl sm, fun i d e => ?_, fun i o e => ?_, fun i j o u a _ e => ?_, ?_, tb⟩
  · obtain ⟨d', e1, e2⟩ := at' i _ e
    cases e1
    obtain ⟨v, e3, q⟩ := rl.get e2
    refine ⟨v, ?_, q⟩
    have hi : i < vs.length := (List.getElem?_eq_some_iff.mp e3).1
    unfold L2.start
    rw [List.getElem?_append_left (by simpa using hi), List.getElem?_map, e3]
    rfl
  · obtain ⟨_, e1, _⟩ := at' i _ e; cases e1
  · obtain ⟨_, e1, _⟩ := at' i _ e; cases e1
  · unfold a1I L2.start
    rw [List.length_append, List.length_append, List.length_map, List.length_map, List.length_replicate, List.length_replicate, hl]
section
variable {P : Program} {w : World} {K : PySem.W.Frag} {mg : Str → Option Value} {base : Heap} {Γ : Ct}
theorem a6m {np n : Nat} {g : MC} {ds : List D} {r : R} (h : fnD np n g ds = some r) : ds.length = np ∧ outR (g (a1I n ds)) = some r := by
  unfold fnD at h
  by_cases z : ds.length = np
  · rw [if_pos z] at h; exact ⟨z, h⟩
  · rw [if_neg z] at h; cases h
theorem fn_D {x qual : Str} {st : Stmt} {f : Addr} {fd : FuncData} {N ps : List Str} {k : Nat} {g : MC} (F : Fun K x qual st f fd) (S : FnScope N ps (defScope st))
    (body : ∀ (cdv : Value) (A : Around) (outer : List PySem.Env) (s : Shared) (H : Hp) (E : XK), Room k (A.deeper (envOfC qual (defScope st) s.heap.objs.size f cdv)) → PSsD (cxOf CX0 P w K mg base N qual (defScope st) f cdv A outer s H E).nox Γ W0 (defBody st) g) :
    FnOk P w K mg base CX0 (k + 1) f fd ps (spD Γ W0 (fnD ps.length N.length g)) := by
  refine F.ok S (fun vs H Q E ⟨Hs, ds, r, sm, rl, e, q, tb⟩ => ?_) (fun cdv A outer s H vs Q E hr ⟨Hs, ds, r, sm, rl, e, q, tb⟩ => ?_)
  · rw [← rl.length]; exact (a6m e).1
  · obtain ⟨_, e⟩ := a6m e
    refine ⟨tS Γ W0 g, body cdv A outer s H E hr, ?_⟩
    cases h : g (a1I N.length ds) with
    | none => rw [h] at e; cases e
    | some o =>
      rw [h] at e
      refine ⟨Hs, H, Hs, a1I N.length ds, o, a52 sm rl tb, h, ?_⟩
      cases o with
      | next ρ' => cases e; exact fun σ' Hs' H' _ re => q .non Hs' H' re.b (RepS.of (a1K.mpr rfl))
      | brk ρ' => cases e
      | cont ρ' => cases e
      | ret s => cases e; exact fun v Hs' H' _ g' rs => q v Hs' H' g' rs
      | exc x => cases e; exact fun Hs' H' _ g' => q Hs' H' g'
theorem FnOk.le {f : Addr} {fd : FuncData} {ps : List Str} {k : Nat} {F G : List D → Option R} (h : FnOk P w K mg base CX0 k f fd ps (spD Γ W0 F)) (l : ∀ ds r, G ds = some r → F ds = some r) : FnOk P w K mg base CX0 k f fd ps (spD Γ W0 G) :=
  h.imp fun vs H Q E ⟨Hs, ds, r, sm, rl, e, q, tb⟩ => ⟨Hs, ds, r, sm, rl, l _ _ e, q, tb⟩
end
theorem a6f (K : PySem.W.Frag) : a37 K "tuple" ∧ a37 K "list" ∧ a37 K "bool" ∧ a37 K "int" ∧ a37 K "str" := by
  refine ⟨?_, ?_, ?_, ?_, ?_⟩ <;>
  · intro t ht
    have : t = "NoneType" ∨ t = "bool" ∨ t = "int" ∨ t = "str" ∨ t = "tuple" ∨ t = "list" := by simpa using ht
    rcases this with rfl | rfl | rfl | rfl | rfl | rfl <;> rfl
end L3
namespace L3
open PySem PySem.Spec PyProof.Rows L2
def FnN (P : Program) (w : World) (K : PySem.W.Frag) (mg : Str → Option Value) (base : Heap) (Γ : Ct) (k : Nat) (x : Str) (ps : List Str) (F : List D → Option R) : Prop :=
  ∃ f fd, FnOk P w K mg base CX0 k f fd ps (spD Γ W0 F) ∧ mg x = some (.ref f) ∧ PySem.W.keepIn K (.ref f) = true ∧ Binds K fd ps []
section
variable {X : Cx} {Γ : Ct} {k : Nat} {ps : List Str} {x : Str} {p pos : Pos} {e : Expr} {es : List Expr} {gs : List ME} {F : List D → Option R}
theorem a0S (h : FnN X.prog X.w X.K X.mg X.base Γ k x ps F) (hr : Room k X.A) (hg : Gl X x) (ha : PAD X Γ W0 (e :: es) gs) (hdb : (x == ("__debug__" : Str)) = false := by decide) (he : starEach (e :: es) X.env = (false, eval e X.env) :: starEach es X.env := by rfl) (hpl : (backTo pos (starEach es X.env)).any (·.1) = false := by rfl) :
    PD X Γ W0 (.Call (.Name x p) (e :: es) [] pos) (a0j F gs) := by
  obtain ⟨f, fd, G, hm, hk, hb⟩ := h
  exact pd_call G hr hg hm hk hb ha hdb he hpl
theorem pd_fnB (h : FnN X.prog X.w X.K X.mg X.base Γ k x ps F) (hr : Room k X.A) (hg : Gl X x) (ha : PAL X Γ W0 (e :: es) gs) (hdb : (x == ("__debug__" : Str)) = false := by decide) (he : starEach (e :: es) X.env = (false, eval e X.env) :: starEach es X.env := by rfl) (hpl : (backTo pos (starEach es X.env)).any (·.1) = false := by rfl) :
    PD X Γ W0 (.Call (.Name x p) (e :: es) [] pos) (a0m F gs) := by
  obtain ⟨f, fd, G, hm, hk, hb⟩ := h
  exact pd_callB G hr hg hm hk hb ha hdb he hpl
end
structure Laid (K : PySem.W.Frag) (mg : Str → Option Value) (x : Str) (st : Stmt) (ps : List Str) : Prop where
  ex : ∃ f fd, Fun K x x st f fd ∧ mg x = some (.ref f) ∧ Binds K fd ps []
section
variable {P : Program} {w : World} {K : PySem.W.Frag} {mg : Str → Option Value} {base : Heap} {Γ : Ct}
theorem a05 {x : Str} {st : Stmt} {N ps : List Str} {k : Nat} {g : MC} (L : Laid K mg x st ps) (S : FnScope N ps (defScope st))
    (body : ∀ (f : Addr) (cdv : Value) (A : Around) (outer : List PySem.Env) (s : Shared) (H : Hp) (E : XK), Room k (A.deeper (envOfC x (defScope st) s.heap.objs.size f cdv)) → PSsD (cxOf CX0 P w K mg base N x (defScope st) f cdv A outer s H E).nox Γ W0 (defBody st) g) :
    FnN P w K mg base Γ (k + 1) x ps (fnD ps.length N.length g) := by
  obtain ⟨f, fd, F, hm, hb⟩ := L.ex
  exact ⟨f, fd, fn_D F S (body f), hm, F.kp, hb⟩
theorem FnN.mono {j k : Nat} {x : Str} {ps : List Str} {F : List D → Option R} (h : FnN P w K mg base Γ j x ps F) (l : j ≤ k) : FnN P w K mg base Γ k x ps F := by
  obtain ⟨f, fd, G, r⟩ := h
  exact ⟨f, fd, G.mono l, r⟩
theorem FnN.le {k : Nat} {x : Str} {ps : List Str} {F G : List D → Option R} (h : FnN P w K mg base Γ k x ps F) (l : ∀ ds r, G ds = some r → F ds = some r) : FnN P w K mg base Γ k x ps G := by
  obtain ⟨f, fd, o, r⟩ := h
  exact ⟨f, fd, FnOk.le o l, r⟩
theorem a0T {h : Heap} (X : K.In h) (G : h.Ns mainGlobals mg) {x : Str} {st : Stmt} {ps : List Str} {f : Addr} {oc : Value} {od an : Option Addr} {osl : Array (Option Value)} {kV doc pm cdv ct : Value} (a : PySem.W.nsIn K mainGlobals x = some (some (.ref f)))
    (l : K.lookup f = some ⟨oc, od, .func (PySem.W.fnOf x x (defArgs st) (defBody st) (defScope st) .none kV doc pm an cdv ct), osl⟩) (c : PySem.W.codeIn K cdv x = true) (k : PySem.W.keepIn K (.ref f) = true)
    (hb : ∀ (kV doc pm : Value) (an : Option Addr) (cdv ct : Value) (us : List Value), us.length = ps.length → bindArgs (PySem.W.fnOf x x (defArgs st) (defBody st) (defScope st) .none kV doc pm an cdv ct) ⟨us, []⟩ = pure (ps.zip us)) : Laid K mg x st ps :=
  ⟨f, _, fun_mk l c k, PySem.W.mg_of X G a, (fun_mk l c k).binds hb⟩
end
theorem a7y (K : PySem.W.Frag) : a37 K "tuple" := (a6f K).1
theorem kit_list (K : PySem.W.Frag) : a37 K "list" := (a6f K).2.1
theorem kit_bool (K : PySem.W.Frag) : a37 K "bool" := (a6f K).2.2.1
theorem kit_int (K : PySem.W.Frag) : a37 K "int" := (a6f K).2.2.2.1
theorem a2q : bootBuiltins "tuple" = some (.type "tuple") := by decide +kernel
theorem bt_list : bootBuiltins "list" = some (.type "list") := by decide +kernel
theorem bt_bool : bootBuiltins "bool" = some (.type "bool") := by decide +kernel
theorem bt_int : bootBuiltins "int" = some (.type "int") := by decide +kernel
def spLaw (K : PySem.W.Frag) : Sp := fun vs H Q _ => ∃ (a : Addr) (ns : List Int), vs = [.ref a] ∧ SqL K H a (ns.map V.int) ∧ ns.length ≤ 63 ∧ ∀ H', Q (.bl true) H'
theorem law_sp {P : Program} {w : World} {K : PySem.W.Frag} {mg : Str → Option Value} {base : Heap} {Γ : Ct} {k : Nat} {f : Addr} {fd : FuncData} {x : Str} {F : List D → Option R} (h : FnOk P w K mg base CX0 k f fd [x] (spD Γ W0 F)) (hK : Γ.K = K) (htb : Γ.tb = fun _ => none)
    (T : ∀ ns : List Int, ns.length ≤ 63 → F [.lst (ns.map D.int)] = some (.ok (.sh (.bl true)))) : FnOk P w K mg base CX0 k f fd [x] (spLaw K) :=
  h.imp fun vs H Q E ⟨a, ns, ev, hS, hl, q⟩ => by
    subst hK
    subst ev
    refine ⟨H, [.lst (ns.map D.int)], _, .refl _, .cons (a1s.mpr ⟨a, _, rfl, hS, RepL.ints ns⟩) .nil, T ns hl, fun v Hs' H' g rs => ?_, fun b o z => by rw [htb] at z; cases z⟩
    have rs' : Rep Γ Hs' (.bl true) v := rs
    rw [a0X.mp rs']
    exact q H'
theorem law_walk {l : PySem.W.OpenLaw} {q : Program} {loose : List Str} {XP : (Str → Option Value) → Heap → Prop} {YP : World → Heap → Prop} {d : DefRec} {K : Params → PySem.W.Frag} {k : Nat} {x : Str} (hk : k ≤ 60) (hn : l.most = some 63) (hdf : d.params.defaults = [])
    (hY : ∀ (w : World) (h : Heap), YP w h → (K w.params).In h)
    (F : ∀ (w : World) (mg : Str → Option Value) (fa : Addr) (h : Heap), (K w.params).In h → h.Ns mainGlobals mg → mg d.name = some (.ref fa) →
      ∃ fd : FuncData, (∀ (s : Shared) (u : Value), BindsTo s fd ⟨[u], []⟩ [(x, u)]) ∧ ∀ base : Heap, FnOk l.prog w (K w.params) mg base CX0 k fa fd [x] (spLaw (K w.params))) :
    PySem.W.WalkO q loose XP YP l.row.toRowW d [] (fun f vs => PySem.call f vs) :=
  L2.walk_of (n := 63) (k := k) (x := x) (CX := fun _ => CX0) (sp := fun w => spLaw (K w.params)) hn (by decide) hdf (Room.mono (k := 60) ⟨rfl, by decide, by decide⟩ hk) hY (fun w mg fa h KX G hm => by
    obtain ⟨fd, hb, ok⟩ := F w mg fa h KX G hm
    exact ⟨fd, hb, fun base _ _ => ok base⟩) (fun _ _ a ns hl _ hS => ⟨a, ns, rfl, hS, hl, fun _ => rfl⟩) fun _ _ _ _ _ z => z
end L3
namespace L3
open PySem PySem.Spec PyProof.Rows L2
section
variable {X : Cx} {Γ : Ct} {W : XW}
theorem a5x : OpR X (binaryOp .LShift) (rD Γ W dShl) := fun pins s σ H x y v u Q I rx ry ⟨Hs, d1, d2, r, sm, r1, r2, e, q⟩ => by
  obtain ⟨i, j, rfl, rfl, e⟩ := a1d (f := fun i j => if 0 ≤ j ∧ j ≤ 1000000 ∧ i.natAbs < 2 ^ 64 then okI (i * 2 ^ j.toNat) else none) (fun _ _ => rfl) e
  obtain ⟨h, rfl⟩ := a0I e
  exact op_shl pins s σ H x y v u Q I rx ry ⟨i, j, a0g.mp r1, a0g.mp r2, h, retS sm q (a0g.mpr rfl)⟩
theorem a7o : OpR X (binaryOp .RShift) (rD Γ W dShr) := fun pins s σ H x y v u Q I rx ry ⟨Hs, d1, d2, r, sm, r1, r2, e, q⟩ => by
  obtain ⟨i, j, rfl, rfl, e⟩ := a1d (f := fun i j => if 0 ≤ j then okI (i / 2 ^ j.toNat) else none) (fun _ _ => rfl) e
  obtain ⟨h, rfl⟩ := a0I e
  exact op_shr pins s σ H x y v u Q I rx ry ⟨i, j, a0g.mp r1, a0g.mp r2, h, retS sm q (a0g.mpr rfl)⟩
theorem a7p : OpR X (binaryOp .Pow) (rD Γ W dPow) := fun pins s σ H x y v u Q I rx ry ⟨Hs, d1, d2, r, sm, r1, r2, e, q⟩ => by
  obtain ⟨i, j, rfl, rfl, e⟩ := a1d (f := fun i j => if 0 ≤ j ∧ j ≤ 1000000 ∧ i.natAbs < 2 ^ 64 then okI (i ^ j.toNat) else none) (fun _ _ => rfl) e
  obtain ⟨h, rfl⟩ := a0I e
  exact op_pow pins s σ H x y v u Q I rx ry ⟨i, j, a0g.mp r1, a0g.mp r2, h, retS sm q (a0g.mpr rfl)⟩
theorem bAnd_pp {x y : Int} (hx : 0 ≤ x) (hy : 0 ≤ y) : Builtin.bitAnd x y = ((x.toNat &&& y.toNat : Nat) : Int) := by simp [Builtin.bitAnd, hx, hy]
theorem bOr_pp {x y : Int} (hx : 0 ≤ x) (hy : 0 ≤ y) : Builtin.bitOr x y = ((x.toNat ||| y.toNat : Nat) : Int) := by
  obtain ⟨a, rfl⟩ : ∃ a : Nat, x = a := ⟨x.toNat, by omega⟩
  obtain ⟨b, rfl⟩ : ∃ b : Nat, y = b := ⟨y.toNat, by omega⟩
  have h1 : ¬ (0 : Int) ≤ Builtin.bitNot (a : Int) := by unfold Builtin.bitNot; omega
  have h2 : ¬ (0 : Int) ≤ Builtin.bitNot (b : Int) := by unfold Builtin.bitNot; omega
  unfold Builtin.bitOr Builtin.bitAnd
  rw [decide_eq_false h1, decide_eq_false h2]
  dsimp only
  have e1 : Builtin.bitNot (Builtin.bitNot (a : Int)) = a := by unfold Builtin.bitNot; omega
  have e2 : Builtin.bitNot (Builtin.bitNot (b : Int)) = b := by unfold Builtin.bitNot; omega
  rw [e1, e2]
  simp only [Int.toNat_natCast]
  unfold Builtin.bitNot
  omega
theorem a4w : OpR X (binaryOp .BitAnd) (rD Γ W a3s) := fun pins s σ H x y v u Q I rx ry ⟨Hs, d1, d2, r, sm, r1, r2, e, q⟩ => by
  obtain ⟨i, j, rfl, rfl, e⟩ := a1d (f := fun i j => if 0 ≤ i ∧ 0 ≤ j then okI ((i.toNat &&& j.toNat : Nat) : Int) else none) (fun _ _ => rfl) e
  obtain ⟨h, rfl⟩ := a0I e
  exact op_and pins s σ H x y v u Q I rx ry ⟨i, j, a0g.mp r1, a0g.mp r2, by dsimp only; rw [bAnd_pp h.1 h.2]; exact retS sm q (a0g.mpr rfl)⟩
theorem a7q : OpR X (binaryOp .BitOr) (rD Γ W dBor) := fun pins s σ H x y v u Q I rx ry ⟨Hs, d1, d2, r, sm, r1, r2, e, q⟩ => by
  obtain ⟨i, j, rfl, rfl, e⟩ := a1d (f := fun i j => if 0 ≤ i ∧ 0 ≤ j then okI ((i.toNat ||| j.toNat : Nat) : Int) else none) (fun _ _ => rfl) e
  obtain ⟨h, rfl⟩ := a0I e
  exact op_or pins s σ H x y v u Q I rx ry ⟨i, j, a0g.mp r1, a0g.mp r2, by dsimp only; rw [bOr_pp h.1 h.2]; exact retS sm q (a0g.mpr rfl)⟩
section
variable {a b c : Expr} {ga gb gc : ME} {pos : Pos}
theorem pd_un {op : UnaryOp} {f : D → Option R} {rr : V → Hp → VK → Prop} (ho : UnR X (unaryOp op) rr) (hf : ∀ d v Hs H r Q, Same Hs H → Rep Γ Hs d v → f d = some r → RQ Γ W Hs H r Q → rr v H Q) (ha : PD X Γ W a ga) : PD X Γ W (.UnaryOp op a pos) (eUn f ga) :=
  PE.imp (pe_un ho ha) fun _ _ σ H Q _ t => by
    obtain ⟨B0, B1, Hs, ρ, r, re, e, q⟩ := t
    exact (a1h re e q).mono fun v H1 ⟨Hs1, d, g1, re1, rp, e1, q1⟩ => hf d v Hs1 H1 r Q re1.b.i rp e1 q1
theorem pd_usub (ha : PD X Γ W a ga) : PD X Γ W (.UnaryOp .USub a pos) (eUn dNeg ga) := pd_un un_neg (fun d v Hs H r Q sm rp e q => by
  cases d with
  | int i => cases e; exact ⟨i, a0g.mp rp, retS sm q (a0g.mpr rfl)⟩
  | non => cases e
  | bl _ => cases e
  | str _ => cases e
  | tup _ => cases e
  | lst _ => cases e
  | fn _ _ => cases e
  | obj _ _ _ => cases e) ha
end
theorem bt_max : bootBuiltins "max" = some (.builtin "max") := by decide +kernel
end
end L3
namespace L3
open PySem PySem.Spec PyProof.Rows L2
section
variable {X : Cx} {Γ : Ct} {W : XW}
theorem a4t (n d : Nat) (o : Option Int) : HT.sIx n d o = sIxD n d o := by cases o <;> rfl
theorem a6r {H : Hp} {ds : List D} {xs : List V} (rl : RepL Γ H ds xs) (lo hi : Option Int) : RepL Γ H (cutD ds lo hi) (cutV xs lo hi) := by
  unfold cutD cutV
  rw [a4t, a4t, ← rl.length]
  exact (rl.drop _).take _
def rSlice (Γ : Ct) (W : XW) : V → Option Int → Option Int → Hp → VK → Prop := fun v lo hi H Q => ∃ Hs d r, Same Hs H ∧ Rep Γ Hs d v ∧ dSlice d lo hi = some r ∧ RQ Γ W Hs H r Q
theorem sld (hK : X.K = Γ.K) : SlR X (rSlice Γ W) := fun pins s σ H x v vl vu lo hi sl Q I rx hs pl pu ⟨Hs, d, r, sm, rp, e, q⟩ => by
  cases d with
  | tup ds =>
    obtain ⟨a, xs, rfl, sq, rl⟩ := a1m.mp rp
    have e' : (if sIxD ds.length 0 lo = 0 ∧ sIxD ds.length ds.length hi = ds.length then none else okD (.tup (cutD ds lo hi))) = some r := e
    by_cases hw : sIxD ds.length 0 lo = 0 ∧ sIxD ds.length ds.length hi = ds.length
    · rw [if_pos hw] at e'; cases e'
    · rw [if_neg hw] at e'
      cases e'
      exact sl_tup pins s σ H _ v vl vu lo hi sl Q I rx hs pl pu ⟨a, xs, rfl, by rw [hK]; exact a0U sm sq, by rw [a4t, a4t, ← rl.length]; exact hw, fun p hp => a5q sm q (a6r rl lo hi) hp⟩
  | lst ds =>
    obtain ⟨a, xs, rfl, sq, rl⟩ := a1s.mp rp
    cases e
    exact sl_list pins s σ H _ v vl vu lo hi sl Q I rx hs pl pu ⟨a, xs, rfl, by rw [hK]; exact Same.seq sm sq, fun p hp => a7f sm q (a6r rl lo hi) hp⟩
  | non => cases e
  | bl _ => cases e
  | int _ => cases e
  | str _ => cases e
  | fn _ _ => cases e
  | obj _ _ _ => cases e
def tP (Γ : Ct) (W : XW) (o : Option ME) : TO := match o with
  | none => tNoPart
  | some g => tPart (tD Γ W g)
abbrev POD (X : Cx) (Γ : Ct) (W : XW) (e : Option Expr) (o : Option ME) : Prop := PO X e (tP Γ W o)
theorem a57 : POD X Γ W none none := po_none
theorem a56 {e : Expr} {g : ME} (h : PD X Γ W e g) : POD X Γ W (some e) (some g) := po_some h
theorem a4W {o : Option ME} {B0 B1 Hs H : Hp} {σ : L2.St} {ρ : MEnv} {k : Option Int → Option R} {r : R} {Q : VK} (re : RE Γ B0 B1 Hs H σ ρ) (e : partD o ρ k = some r) (q : RQ Γ W Hs H r Q) {Q' : Option Int → Hp → Prop}
    (h : ∀ i H1 Hs1, Grow Hs H Hs1 H1 → RE Γ B0 B1 Hs1 H1 σ ρ → k i = some r → RQ Γ W Hs1 H1 r Q → Q' i H1) : tP Γ W o σ H Q' := by
  cases o with
  | none => exact h none H Hs (.refl re.b.i) re e q
  | some g =>
    have e' : a0L (g ρ) (fun d => match d with | .int i => k (some i) | _ => none) = some r := e
    refine (a1h re e' q).mono fun v H1 ⟨Hs1, d, g1, re1, rp, e1, q1⟩ => ?_
    cases d with
    | int i => exact ⟨i, a0g.mp rp, h (some i) H1 Hs1 g1 re1 e1 q1⟩
    | non => cases e1
    | bl _ => cases e1
    | str _ => cases e1
    | tup _ => cases e1
    | lst _ => cases e1
    | fn _ _ => cases e1
    | obj _ _ _ => cases e1
theorem a58 {e : Expr} {g : ME} {lo hi : Option Expr} {gl gh : Option ME} {pos p2 : Pos} (hK : X.K = Γ.K) (he : PD X Γ W e g) (hl : POD X Γ W lo gl) (hh : POD X Γ W hi gh) : PD X Γ W (.Subscript e (.Slice lo hi none p2) pos) (a3Y g gl gh) :=
  PE.imp (pe_slice (sld hK) he hl hh) fun _ _ σ H Q _ ⟨B0, B1, Hs, ρ, r, re, e, q⟩ => by
    refine (a1h re e q).mono fun v H1 ⟨Hs1, d, g1, re1, rp, e1, q1⟩ => ?_
    refine a4W re1 e1 q1 fun l H2 Hs2 g2 re2 e2 q2 => ?_
    refine a4W re2 e2 q2 fun u H3 Hs3 g3 re3 e3 q3 => ?_
    exact ⟨Hs3, d, r, re3.b.i, (rp.mono g2.s).mono g3.s, e3, q3⟩
end
end L3
namespace L3
open PySem PySem.Spec PyProof.Rows L2
section
variable {X : Cx} {Γ : Ct} {W : XW}
end
end L3
namespace L3
open PySem PySem.Spec PyProof.Rows L2
section
variable {X : Cx} {Γ : Ct} {W : XW} {e o : Expr} {es : List Expr} {g go : ME} {gs : List ME} {f m x : Str} {p pos apos : Pos}
end
def MethN (P : Program) (w : World) (K : PySem.W.Frag) (mg : Str → Option Value) (base : Heap) (Γ : Ct) (k : Nat) (m : Str) (ps : List Str) (F : List D → Option R) (cs : List String) : Prop :=
  ∃ f fd, FnOk P w K mg base CX0 k f fd ps (spD Γ W0 F) ∧ Binds K fd ps [] ∧ ∀ c ∈ cs, Cls K (Γ.cls c) ∧ Meth K (Γ.cls c) m f
def TabOk (X : Cx) (Γ : Ct) (m : Str) (tb : String → Option (List D → Option R)) : Prop :=
  ∀ c F, tb c = some F → ∃ k ps cs, c ∈ cs ∧ MethN X.prog X.w X.K X.mg X.base Γ k m ps F cs ∧ Room k X.A
def tbNil : String → Option (List D → Option R) := fun _ => none
def tbG (cs : List String) (F : List D → Option R) (t : String → Option (List D → Option R)) : String → Option (List D → Option R) := fun c => if cs.contains c = true then some F else t c
section
variable {X : Cx} {Γ : Ct} {e o : Expr} {es : List Expr} {g go : ME} {gs : List ME} {f m x : Str} {p pos apos : Pos} {tb : String → Option (List D → Option R)}
end
structure a3A (a : Addr) (Hs H Hs' H' : Hp) : Prop where
  s : Same Hs Hs'
  h : ∀ b o, b ≠ a → H b = some o → H' b = some o
  i : Same Hs' H'
  n : ∀ b o, Hs' b = some o → Hs b = some o ∨ H b = none
theorem Grow.x {a : Addr} {Hs H Hs' H' : Hp} (g : Grow Hs H Hs' H') : a3A a Hs H Hs' H' := ⟨g.s, fun b o _ e => g.h b o e, g.i, g.n⟩
theorem a3A.trans {a : Addr} {Hs H Hs1 H1 Hs2 H2 : Hp} (x : a3A a Hs H Hs1 H1) (y : a3A a Hs1 H1 Hs2 H2) (ha : Hs1 a = none) (hb : ∃ o, H1 a = some o) : a3A a Hs H Hs2 H2 :=
  ⟨x.s.trans y.s, fun b o hb e => y.h b o hb (x.h b o hb e), y.i, fun b o e => by
    rcases y.n b o e with z | z
    · exact x.n b o z
    · by_cases hba : b = a
      · subst hba
        obtain ⟨o', ho'⟩ := hb
        rw [ho'] at z; cases z
      · right
        cases q : H b with
        | none => rfl
        | some u => rw [x.h b u hba q] at z; cases z⟩
theorem a3A.none {a : Addr} {Hs H Hs' H' : Hp} (g : a3A a Hs H Hs' H') {ho : HO} (h : Hs a = Option.none) (h' : H a = some ho) : Hs' a = Option.none := by
  cases q : Hs' a with
  | none => rfl
  | some u =>
    rcases g.n a u q with z | z
    · rw [h] at z; cases z
    · rw [h'] at z; cases z
inductive spI (Γ : Ct) (F : a5n) (vs : List V) (H : Hp) (Q : VK) (E : XK) : Prop
  | mk (a : Addr) (xs : List V) (Hs : Hp) (o : O) (ho : HO) (ds : List D) (o' : O) (ev : vs = .ref a :: xs) (sm : Same Hs H) (hs : Hs a = none) (hh : H a = some ho) (ro : RepO Γ Hs o ho) (rl : RepL Γ Hs ds xs) (e : F o ds = some o')
    (q : ∀ Hs' H' ho', a3A a Hs H Hs' H' → H' a = some ho' → RepO Γ Hs' o' ho' → Q .non H') (tb : Same Γ.tb Hs)
structure InitN (P : Program) (w : World) (K : PySem.W.Frag) (mg : Str → Option Value) (base : Heap) (Γ : Ct) (k : Nat) (c : String) (x : Str) (ps : List Str) (F : a5n) : Prop where
  ex : ∃ f fd, FnOk P w K mg base CX0 k f fd ps (spI Γ F) ∧ Binds K fd ps [] ∧ PySem.W.keepIn K (.ref f) = true ∧ Mk K (Γ.cls c) f ∧ PySem.W.findCls K (.ref (Γ.cls c)) (.type "type") "__init__" = some (.val (.ref f))
  at_ : mg x = some (.ref (Γ.cls c))
  sp : PySem.W.specialIn K (.ref (Γ.cls c)) "__getattribute__" = some (some (.builtin "type.__getattribute__"))
  rd : PySem.W.readsIn K (Γ.cls c) (.type "type") = true
section
variable {X : Cx} {Γ : Ct} {e o : Expr} {es : List Expr} {g go : ME} {gs : List ME} {f m x : Str} {p pos apos : Pos} {k : Nat} {c : String} {ps : List Str} {F : a5n}
end
inductive tX (Γ : Ct) (g : MG) (D : Ends) (σ : L2.St) (H : Hp) : Prop
  | mk (a : Addr) (B0 B1 Hs : Hp) (ρ : MEnv) (o : O) (ho : HO) (o' : O) (re : RE Γ B0 B1 Hs H σ ρ) (hb : B1 a = none) (no : ∀ (i : Nat) (u : O), ρ[i]? ≠ some (some (.own u))) (h0 : σ[0]? = some (some (.ref a))) (hs : Hs a = none) (hh : H a = some ho) (ro : RepO Γ Hs o ho) (e : g ρ o = some o')
    (q : ∀ Hs' H' ho', a3A a Hs H Hs' H' → H' a = some ho' → RepO Γ Hs' o' ho' → D.nx σ H')
abbrev PXD (X : Cx) (Γ : Ct) (st : Stmt) (g : MG) : Prop := PS X st (tX Γ g)
abbrev PXsD (X : Cx) (Γ : Ct) (st : List Stmt) (g : MG) : Prop := PSs X st (tX Γ g)
section
variable {X : Cx} {Γ : Ct} {st : Stmt} {rest : List Stmt} {g h : MG} {e o : Expr} {es : List Expr} {ge : ME} {gs : List ME} {f m x y : Str} {p px pos pos' apos cpos : Pos} {k : Nat} {c : String} {ps : List Str} {F : a5n}
theorem a4m : ∀ (gs : List ME) {B0 B1 Hs H : Hp} {σ : L2.St} {ρ : MEnv} {ds : List D}, RE Γ B0 B1 Hs H σ ρ → a1r gs ρ = some ds → a5l Γ W0 gs σ H (fun vs H1 => ∃ Hs1, Grow Hs H Hs1 H1 ∧ RepL Γ Hs1 ds vs)
  | [], B0, B1, Hs, H, σ, ρ, ds, re, e => by
    cases e
    exact ⟨Hs, .refl re.b.i, .nil⟩
  | g :: gs, B0, B1, Hs, H, σ, ρ, ds, re, e => by
    unfold a1r at e
    split at e
    · rename_i s hs
      cases z : a1r gs ρ with
      | none => rw [z] at e; cases e
      | some ds' =>
        rw [z] at e
        cases e
        refine ⟨B0, B1, Hs, ρ, _, re, hs, fun v Hs' H' g' rs => ?_⟩
        obtain ⟨Hs2, g2, _, rp⟩ := rs.share g'
        refine a02 gs (fun vs H2 ⟨Hs3, g3, rl⟩ => ?_) (a4m gs (re.grow g2) z)
        exact ⟨Hs3, g2.trans g3, .cons (rp.mono g3.s) rl⟩
    · cases e
end
end L3
namespace L3
open PySem PySem.Spec PyProof.Rows L2
section
variable {X : Cx} {Γ : Ct} {W : XW} {i : Nat} {x : Str} {e ek : Expr} {ge gk : ME} {px tpos pos : Pos}
end
end L3
namespace L3
open PySem PySem.Spec PyProof.Rows L2
structure LaidM (K : PySem.W.Frag) (cls : String → Addr) (m qual : Str) (st : Stmt) (ps : List Str) (cs : List String) : Prop where
  ex : ∃ f fd, Fun K m qual st f fd ∧ Binds K fd ps [] ∧ ∀ c ∈ cs, Cls K (cls c) ∧ Meth K (cls c) m f
structure LaidI (K : PySem.W.Frag) (mg : Str → Option Value) (cls : String → Addr) (c : String) (x qual : Str) (st : Stmt) (ps : List Str) : Prop where
  ex : ∃ f fd, Fun K "__init__" qual st f fd ∧ Binds K fd ps [] ∧ Mk K (cls c) f ∧ PySem.W.findCls K (.ref (cls c)) (.type "type") "__init__" = some (.val (.ref f))
  at_ : mg x = some (.ref (cls c))
  sp : PySem.W.specialIn K (.ref (cls c)) "__getattribute__" = some (some (.builtin "type.__getattribute__"))
  rd : PySem.W.readsIn K (cls c) (.type "type") = true
section
variable {P : Program} {w : World} {K : PySem.W.Frag} {mg : Str → Option Value} {base : Heap} {Γ : Ct}
end
def clsF : List (String × Addr) → String → Addr
  | [], _ => 0
  | (c, a) :: r, s => if s = c then a else clsF r s
end L3
namespace L3
open PySem PySem.Spec PyProof.Rows L2
structure IsTab (K : PySem.W.Frag) (cls : String → Addr) (C : Addr) (mg : Str → Option Value) (x : Str) (tb : String → Option Bool) : Prop where
  ok : ∀ c b, tb c = some b → Cls K (cls c) ∧ (PySem.W.findIn K (.ref (cls c)) "__class__" = some (some (.builtin "object.__class__")) ∧ PySem.W.specialIn K (.builtin "object.__class__") "__get__" = some (some (.builtin "getset_descriptor.__get__")) ∧ PySem.W.takesIn K (.builtin "object.__class__") = some true ∧ PySem.W.mroIn K (cls c) (.type "object") = some true) ∧ PySem.W.kitOne K (.ref (cls c)) (.ref C) = some b
  at_ : mg x = some (.ref C)
section
variable {X : Cx} {Γ : Ct} {W : XW}
end
end L3
namespace L3
open PySem PySem.Spec PyProof.Rows L2
section
variable {X : Cx} {Γ : Ct} {W : XW}
theorem a6c : OpR X (binaryOp .Mult) (rD Γ W a6V) := fun pins s σ H x y v u Q I rx ry ⟨Hs, d1, d2, r, sm, r1, r2, e, q⟩ => by
  cases d1 with
  | str z =>
    cases d2 with
    | int n =>
      have e' : (if z.length = 1 ∧ (n = 1 ∨ n = 2) then okD (.str (if n = 1 then z else ⟨z.cps ++ z.cps⟩)) else none) = some r := e
      by_cases hc : z.length = 1 ∧ (n = 1 ∨ n = 2)
      · rw [if_pos hc] at e'
        cases e'
        obtain rfl := a0R.mp r1
        obtain rfl := a0g.mp r2
        obtain ⟨t, rfl⟩ := rx
        obtain ⟨t', rfl⟩ := ry
        have fin : ∀ (z' : Str) (s' : Shared) (tk : Tok), z' = (if n = 1 then z else ⟨z.cps ++ z.cps⟩) → Inv X pins σ H s' → EP X pins σ Q (.str z' tk) s' := fun z' s' tk hz I' => by subst hz; exact ⟨.str _, H, I', ⟨tk, rfl⟩, retS sm q (a0R.mpr rfl)⟩
        rcases hc.2 with rfl | rfl
        · exact P.mul_str (by decide) (fun _ h => absurd h (by simp)) (fun _ h => absurd h (by simp)) (by
            rw [if_neg (by decide), if_pos (by simp)]
            exact fin z s t rfl I)
        · refine P.mul_str (by decide) (fun _ _ => by rw [hc.1]; decide) (fun _ _ => by rw [hc.1]; decide) ?_
          rw [if_neg (by decide), if_neg (by rw [hc.1]; decide)]
          refine ⟨?_, fin _ _ _ ?_ (I.tok _)⟩
          · have h1 : z.cps.size = 1 := hc.1
            have h2 : (List.foldl (fun x1 x2 : Array Nat => x1 ++ x2) #[] [z.cps, z.cps]).size = 2 := by simp [h1]
            exact Nat.le_trans (Nat.le_of_eq h2) (by decide)
          · show (⟨List.foldl (· ++ ·) #[] [z.cps, z.cps]⟩ : Str) = _
            simp
      · rw [if_neg hc] at e'; cases e'
    | non => cases e
    | bl _ => cases e
    | str _ => cases e
    | tup _ => cases e
    | lst _ => cases e
    | fn _ _ => cases e
    | obj _ _ _ => cases e
  | non => cases e
  | bl _ => cases e
  | int _ => cases e
  | tup _ => cases e
  | lst _ => cases e
  | fn _ _ => cases e
  | obj _ _ _ => cases e
end
end L3
namespace L3
open PySem PySem.Spec PyProof.Rows L2
end L3
namespace L3
open PySem PySem.Spec PyProof.Rows L2
section
variable {X : Cx} {Γ : Ct} {W : XW} {es : List Expr} {gs : List ME} {g : ME} {pos : Pos}
theorem padC {c j} (h : PD X Γ W (.Constant c j pos) g) (t : PAD X Γ W es gs) : PAD X Γ W (.Constant c j pos :: es) (g :: gs) := a2g h t rfl
theorem padN {x} (h : PD X Γ W (.Name x pos) g) (t : PAD X Γ W es gs) : PAD X Γ W (.Name x pos :: es) (g :: gs) := a2g h t rfl
theorem padB {a op b} (h : PD X Γ W (.BinOp a op b pos) g) (t : PAD X Γ W es gs) : PAD X Γ W (.BinOp a op b pos :: es) (g :: gs) := a2g h t rfl
theorem padS {a b} (h : PD X Γ W (.Subscript a b pos) g) (t : PAD X Γ W es gs) : PAD X Γ W (.Subscript a b pos :: es) (g :: gs) := a2g h t rfl
theorem padK {f as ks} (h : PD X Γ W (.Call f as ks pos) g) (t : PAD X Γ W es gs) : PAD X Γ W (.Call f as ks pos :: es) (g :: gs) := a2g h t rfl
theorem padU {op a} (h : PD X Γ W (.UnaryOp op a pos) g) (t : PAD X Γ W es gs) : PAD X Γ W (.UnaryOp op a pos :: es) (g :: gs) := a2g h t rfl
end
end L3
namespace L3
open PySem PySem.Spec PyProof.Rows L2
def a6s : PySem.Expr → Option D
  | .Constant (.str s) _ _ => some (.str s)
  | .Constant (.int i) _ _ => some (.int i)
  | _ => none
def dsOf : List PySem.Expr → Option (List D)
  | [] => some []
  | e :: es => match a6s e, dsOf es with
    | some d, some ds => some (d :: ds)
    | _, _ => none
theorem pd_const {X : Cx} {Γ : Ct} {W : XW} {e : PySem.Expr} {d : D} (h : a6s e = some d) : PD X Γ W e (eC d) ∧ ∀ es : List PySem.Expr, starEach (e :: es) X.env = (false, eval e X.env) :: starEach es X.env := by
  unfold a6s at h
  split at h
  · cases h; exact ⟨a1b, fun _ => rfl⟩
  · cases h; exact ⟨a0b, fun _ => rfl⟩
  · cases h
theorem a3j {X : Cx} {Γ : Ct} {W : XW} : ∀ {es : List PySem.Expr} {ds : List D}, dsOf es = some ds → PAD X Γ W es (ds.map eC)
  | [], ds, h => by cases h; exact a0d
  | e :: es, ds, h => by
    unfold dsOf at h
    cases h1 : a6s e with
    | none => rw [h1] at h; cases h
    | some d =>
      cases h2 : dsOf es with
      | none => rw [h1, h2] at h; cases h
      | some ds' =>
        rw [h1, h2] at h
        cases h
        obtain ⟨p, st⟩ := pd_const (X := X) (Γ := Γ) (W := W) h1
        exact a2g p (a3j h2) (st es)
end L3
namespace L3
open PySem PySem.Spec PyProof.Rows L2
section
variable {X : Cx} {Γ : Ct} {W : XW} {a b : Expr} {ga gb : ME} {pos : Pos}
end
end L3
namespace L3
open PySem PySem.Spec PyProof.Rows L2
section
variable {X : Cx} {Γ : Ct} {W : XW}
theorem psS {i : Nat} {x : Str} {pos' pos : Pos} {e : Expr} {ge : ME} (hN : X.N.Nodup) (hi : X.N[i]? = some x) (he : PD X Γ W e ge) (hx : Loc X.env.scope x := by first | exact Or.inl rfl | exact Or.inr rfl) (hs : swapsWith e (some (.Name x pos')) pos.line X.env = pure false := by rfl)
    (hf : X.fn x = true ∨ X.env.scope.names.lookup x = some .local := by first | exact .inl rfl | exact .inr rfl | assumption) : PSD X Γ W (.Assign [.Name x pos'] e pos) (sSet i ge) := psd_set hN hi hx he hs hf
theorem pbN {j : Nat} {x : Str} {pos : Pos} (hN : X.N.Nodup) (hi : X.N[j]? = some x) (hx : Loc X.env.scope x := by first | exact Or.inl rfl | exact Or.inr rfl) (hf : X.fn x = true ∨ X.env.scope.names.lookup x = some .local := by first | exact .inl rfl | exact .inr rfl | assumption) : PBD X Γ (.Name x pos) [j] (a0F j) := pbd_name hN hi hx hf
end
end L3
namespace L3
open PySem PySem.Spec PyProof.Rows L2 PySem.SeqAt
section
variable {X : Cx} {Γ : Ct} {W : XW} {pins : List (Addr × Obj)} {σ : L2.St} {H : Hp} {s : Shared}
end
end L3
namespace L3
open PySem PySem.Spec PyProof.Rows L2 PySem.SeqAt
section
variable {X : Cx} {Γ : Ct} {W : XW} {pins : List (Addr × Obj)} {σ : L2.St} {H : Hp} {s : Shared}
end
section
variable {X : Cx} {Γ : Ct} {W : XW}
variable {i : Nat} {x : Str} {px apos cpos pos : Pos}
theorem a7j (hv : PE X (.Name x px) (tVar i))
    (hbase : attributeBase (.Name x px) "clear" X.env (eval (.Name x px) X.env) = eval (.Name x px) X.env := by rfl)
    (hline : (apos.endLine == cpos.line) = true := by rfl) (hsw : swapsWith (.Call (.Attribute (.Name x px) "clear" apos) [] [] cpos) none pos.line X.env = pure false := by rfl) :
    PSD X Γ W (.Expr (.Call (.Attribute (.Name x px) "clear" apos) [] [] cpos) pos) (a50 i) :=
  PS.imp (ps_expr (pe_bm0 PySem.F.plainAttrs_list PySem.F.slot_list_clear PySem.F.type_list_clear mt_clear hv hbase hline) hsw) fun pins s σ H En I ⟨B0, B1, Hs, ρ, o, re, eo, q⟩ => by
    obtain ⟨ds, hd, eo⟩ := a4X eo
    obtain ⟨a, ho, e1, e2, e3, e4, xs, rfl, rl⟩ := re.own i _ hd
    cases eo
    exact ⟨.ref a, e1, .inl ⟨rfl, xs, .of e4⟩, a, xs, rfl, rfl, e4, q σ Hs _ (.refl _) (re.write hd e1 ⟨_, rfl, .nil⟩)⟩
end
end L3
namespace L3
open PySem PySem.Spec PyProof.Rows L2
section
variable {X : Cx} {Γ : Ct} {W : XW}
theorem RepL.reverse {H : Hp} : ∀ {ds : List D} {xs : List V}, RepL Γ H ds xs → RepL Γ H ds.reverse xs.reverse
  | [], xs, h => by rw [a03.mp h]; exact .nil
  | d :: ds, xs, h => by
    obtain ⟨x, r, rfl, q, t⟩ := a0s.mp h
    rw [List.reverse_cons, List.reverse_cons]
    exact (RepL.reverse t).append (.cons q .nil)
inductive tK (Γ : Ct) (g : ME) (σ : L2.St) (H : Hp) (Q : VK) : Prop
  | mk (B0 B1 Hs : Hp) (ρ : MEnv) (ks : List Int) (re : RE Γ B0 B1 Hs H σ ρ) (e : g ρ = okD (.tup (ks.map D.int))) (q : ∀ b H', Same H H' → H' b = some (.tup (ks.map V.int)) → Q (.ref b) H')
abbrev PK (X : Cx) (Γ : Ct) (e : Expr) (g : ME) : Prop := PE X e (tK Γ g)
theorem a3w {es : List Expr} {gs : List ME} {x1} {pos : Pos} (ha : PAD X Γ W es gs) : PK X Γ (.Tuple es x1 pos) (eTup gs) := PE.imp (pe_tup ha) fun _ _ σ H Q _ ⟨B0, B1, Hs, ρ, ks, re, e, q⟩ => by
  refine a02 gs (fun vs H1 ⟨Hs1, ds, g1, re1, rp, e1, _⟩ => ?_) (a33 (W := W) (Q := fun _ _ => True) gs re e (fun _ _ _ _ _ => trivial))
  try dsimp only at e1
  split at e1
  · rename_i hl
    cases e1
    refine ⟨by rw [← rp.length]; exact Nat.le_trans hl (by decide), fun p hp => q p _ (g1.h.trans (a0M hp)) ?_⟩
    rw [upd_same, rp.intsOf (show intsOf (ks.map D.int) = some ks from a2c ks)]
  · cases e1
theorem a4D : ∀ {a b : List Int}, a.map (Sum.inl : Int → Key) = b.map Sum.inl → a = b
  | [], [], _ => rfl
  | [], _ :: _, h => nomatch h
  | _ :: _, [], h => nomatch h
  | x :: a, y :: b, h => by
    rw [List.map_cons, List.map_cons] at h
    injection h with h1 h2
    injection h1 with h1
    rw [h1, a4D h2]
theorem a4p (ks : List Int) : ∀ kvs : Tb, valV (kvT kvs) (ks.map Sum.inl) = (getI kvs ks).map V.int
  | [] => rfl
  | p :: r => by
    have ih := a4p ks r
    by_cases h : p.1 = ks
    · have : (p.1.map (Sum.inl : Int → Key)) = ks.map Sum.inl := by rw [h]
      rw [show kvT (p :: r) = (p.1.map Sum.inl, V.int p.2) :: kvT r from rfl, a3B (p := (p.1.map Sum.inl, V.int p.2)) this]
      unfold getI; rw [List.find?_cons, decide_eq_true h]; rfl
    · have : ¬ (p.1.map (Sum.inl : Int → Key)) = ks.map Sum.inl := fun z => h (a4D z)
      rw [show kvT (p :: r) = (p.1.map Sum.inl, V.int p.2) :: kvT r from rfl, a3C (p := (p.1.map Sum.inl, V.int p.2)) this, ih]
      unfold getI; rw [List.find?_cons, decide_eq_false h]
theorem a7U (ks : List Int) : ∀ kvs : Tb, ((kvT kvs).any fun kv => decide (kv.1 = ks.map Sum.inl)) = kvs.any fun p => decide (p.1 = ks)
  | [] => rfl
  | p :: r => by
    have ih := a7U ks r
    rw [show kvT (p :: r) = (p.1.map Sum.inl, V.int p.2) :: kvT r from rfl, List.any_cons, List.any_cons, ih]
    congr 1
    exact decide_eq_decide.mpr ⟨fun z => a4D z, fun z => by rw [z]⟩
theorem put_kvT (kvs : Tb) (ks : List Int) (v : Int) : putK (kvT kvs) (ks.map Sum.inl) (V.int v) = kvT (putI kvs ks v) := by
  unfold putK putI
  rw [a7U]
  split
  · unfold kvT
    rw [List.map_map, List.map_map]
    refine List.map_congr_left fun p _ => ?_
    show (if p.1.map (Sum.inl : Int → Key) = ks.map Sum.inl then (p.1.map Sum.inl, V.int v) else (p.1.map Sum.inl, V.int p.2)) = ((if p.1 = ks then (p.1, v) else p).1.map Sum.inl, V.int (if p.1 = ks then (p.1, v) else p).2)
    by_cases h : p.1 = ks
    · rw [if_pos h, if_pos (by rw [h])]
    · rw [if_neg h, if_neg (fun z => h (a4D z))]
  · unfold kvT; rw [List.map_append]; rfl
theorem a46 (ks : List Int) : (ks.map (Sum.inl : Int → Key)).map kV = ks.map V.int := by rw [List.map_map]; rfl
variable {i : Nat} {x : Str} {px apos cpos pos pos' zpos : Pos} {k : Expr} {gk : ME}
theorem a55 (hN : X.N.Nodup) (hi : X.N[i]? = some x) (hx : Loc X.env.scope x) (hs : swapsWith (.Dict [] [] zpos) (some (.Name x pos')) pos.line X.env = pure false := by rfl)
    (hf : X.fn x = true ∨ X.env.scope.names.lookup x = some .local := by first | exact .inl rfl | exact .inr rfl | assumption) : PSD X Γ W (.Assign [.Name x pos'] (.Dict [] [] zpos) pos) (sNewT i) :=
  PS.imp (ps_set hN hi hx pe_dnewT hs hf) fun pins s σ H En I ⟨B0, B1, Hs, ρ, o, re, eo, q⟩ => by
    cases eo
    intro p hp
    refine q _ Hs _ (.refl _) ((re.grow (.newOwn re.b.i hp)).setOwn (by rw [I.len]; exact (List.getElem?_eq_some_iff.mp hi).1) (re.b.h.free hp) (re.b.i.free hp) upd_same rfl fun j u _ hj z => ?_)
    obtain ⟨c, hc, f1, _, _, f4, _⟩ := re.own j u hj
    rw [z] at f1
    cases f1
    rw [hp] at f4
    cases f4
end
end L3
namespace L3
open PySem PySem.Spec PyProof.Rows L2
section
variable {Γ : Ct} {B0 B1 Hs H Hs' H' : Hp} {σ : L2.St} {ρ : MEnv} {a : Addr} {o o' : O} {ho ho' : HO}
theorem RepW.core (h : RepW Γ Hs a o ho) : RepW Γ Hs a o.core ho := by
  cases o with
  | par b u => exact h.2
  | lst _ => exact h
  | obj _ _ _ => exact h
  | dic _ => exact h
  | fdic _ => exact h
theorem RepW.put (h : RepW Γ Hs a o ho) (h' : RepW Γ Hs' a o' ho') : RepW Γ Hs' a (o.put o') ho' := by
  cases o with
  | par b u => exact ⟨h.1, h'⟩
  | lst _ => exact h'
  | obj _ _ _ => exact h'
  | dic _ => exact h'
  | fdic _ => exact h'
theorem RE.called (r : RE Γ B0 B1 Hs H σ ρ) {i : Nat} (e : ρ[i]? = some (some (.own o))) (ea : σ[i]? = some (some (.ref a))) (g : a3A a Hs H Hs' H') (hs : Hs' a = none) (hh : H' a = some ho') (q : RepW Γ Hs' a o' ho') : RE Γ B0 B1 Hs' H' σ (ρ.set i (some (.own o'))) := by
  obtain ⟨c, hc, e1, e2, e3, e4, _⟩ := r.own i o e
  rw [ea] at e1
  cases e1
  have hi : i < ρ.length := (List.getElem?_eq_some_iff.mp e).1
  have old : ∀ (j : Nat) (u : O), (ρ.set i (some (.own o')))[j]? = some (some (.own u)) → ∃ u', ρ[j]? = some (some (.own u')) := fun j u hj => by
    by_cases h : i = j
    · subst h; exact ⟨o, e⟩
    · rw [List.getElem?_set_ne h] at hj; exact ⟨u, hj⟩
  refine ⟨⟨r.b.s.trans g.s, fun b u z => g.h b u (ne_of_none z e2) (r.b.h b u z), g.i, fun b u z => ?_⟩, fun j d hj => ?_, fun j u hj => ?_, fun j k u u' c hjk hj hk ha => ?_, by rw [List.length_set, r.len], r.tb.trans g.s⟩
  · rcases g.n b u z with z | z
    · exact r.b.n b u z
    · exact .inr (r.b.h.free z)
  · by_cases h : i = j
    · subst h
      rw [List.getElem?_set_self hi] at hj
      cases hj
    · rw [List.getElem?_set_ne h] at hj
      obtain ⟨v, f1, f2⟩ := r.sh j d hj
      exact ⟨v, f1, f2.mono g.s⟩
  · by_cases h : i = j
    · subst h
      rw [List.getElem?_set_self hi] at hj
      cases hj
      exact ⟨a, ho', ea, e2, hs, hh, q⟩
    · rw [List.getElem?_set_ne h] at hj
      obtain ⟨c, hc, f1, f2, f3, f4, f5⟩ := r.own j u hj
      have hne : c ≠ a := fun z => by subst z; exact r.apart i j o u c h e hj ea f1
      refine ⟨c, hc, f1, f2, ?_, g.h c hc hne f4, f5.mono g.s⟩
      cases z : Hs' c with
      | none => rfl
      | some w =>
        rcases g.n c w z with z' | z'
        · rw [f3] at z'; cases z'
        · rw [f4] at z'; cases z'
  · obtain ⟨w, hj'⟩ := old j u hj
    obtain ⟨w', hk'⟩ := old k u' hk
    exact r.apart j k w w' c hjk hj' hk' ha
theorem RE.lock (r : RE Γ B0 B1 Hs H σ ρ) (h1 : Hs a = none) (h2 : H a = some ho) (h3 : ∀ (i : Nat) (o : O), ρ[i]? = some (some (.own o)) → σ[i]? ≠ some (some (.ref a))) : RE Γ B0 (upd B1 a ho) Hs H σ ρ := by
  refine ⟨⟨r.b.s, fun b u z => ?_, r.b.i, fun b u z => ?_⟩, r.sh, fun j u hj => ?_, r.apart, r.len, r.tb⟩
  · by_cases hb : b = a
    · subst hb; rw [upd_same] at z; cases z; exact h2
    · rw [upd_ne hb] at z; exact r.b.h b u z
  · have hb : b ≠ a := ne_of_none z h1
    rw [upd_ne hb]
    exact r.b.n b u z
  · obtain ⟨c, hc, f1, f2, f3, f4, f5⟩ := r.own j u hj
    refine ⟨c, hc, f1, ?_, f3, f4, f5⟩
    rw [upd_ne (fun z => by subst z; exact h3 j u hj f1)]
    exact f2
theorem RE.unlock (r : RE Γ B0 (upd B1 a ho) Hs H σ ρ) (hb : B1 a = none) (h0 : B0 a = none) : RE Γ B0 B1 Hs H σ ρ ∧ Hs a = none ∧ H a = some ho ∧ ∀ (i : Nat) (o : O), ρ[i]? = some (some (.own o)) → σ[i]? ≠ some (some (.ref a)) := by
  have hh : H a = some ho := r.b.h a ho upd_same
  have nea : ∀ {j : Nat} {u : O}, ρ[j]? = some (some (.own u)) → σ[j]? ≠ some (some (.ref a)) := fun {j u} hj z => by
    obtain ⟨c, hc, f1, f2, _⟩ := r.own j u hj
    rw [z] at f1
    cases f1
    rw [upd_same] at f2
    cases f2
  refine ⟨⟨⟨r.b.s, fun b u z => ?_, r.b.i, fun b u z => ?_⟩, r.sh, fun j u hj => ?_, r.apart, r.len, r.tb⟩, ?_, hh, fun i o hi => nea hi⟩
  · refine r.b.h b u ?_
    rw [upd_ne (ne_of_none z hb)]; exact z
  · by_cases hba : b = a
    · subst hba; exact .inr hb
    · rcases r.b.n b u z with y | y
      · exact .inl y
      · rw [upd_ne hba] at y; exact .inr y
  · obtain ⟨c, hc, f1, f2, f3, f4, f5⟩ := r.own j u hj
    refine ⟨c, hc, f1, ?_, f3, f4, f5⟩
    have hca : c ≠ a := fun z => by subst z; exact nea hj f1
    rw [upd_ne hca] at f2
    exact f2
  · cases z : Hs a with
    | none => rfl
    | some u =>
      rcases r.b.n a u z with y | y
      · rw [h0] at y; cases y
      · rw [upd_same] at y; cases y
end
inductive tM (Γ : Ct) (g : MP) (σ : L2.St) (H : Hp) (Q : VK) : Prop
  | mk (B0 B1 Hs : Hp) (ρ : MEnv) (d : D) (ρ' : MEnv) (re : RE Γ B0 B1 Hs H σ ρ) (e : g ρ = some (d, ρ')) (q : ∀ v Hs' H', Same Hs Hs' → RE Γ B0 B1 Hs' H' σ ρ' → Rep Γ Hs' d v → Q v H')
abbrev PM (X : Cx) (Γ : Ct) (e : Expr) (g : MP) : Prop := PE X e (tM Γ g)
inductive spQ (Γ : Ct) (F : MF) (vs : List V) (H : Hp) (Q : VK) : Prop
  | mk (a : Addr) (xs ys : List V) (Hs : Hp) (o : O) (ho : HO) (ds es : List D) (d : D) (o' : O) (ev : vs = xs ++ .ref a :: ys) (sm : Same Hs H) (hs : Hs a = none) (hh : H a = some ho) (ro : RepW Γ Hs a o ho) (r1 : RepL Γ Hs ds xs) (r2 : RepL Γ Hs es ys) (e : F o ds es = some (d, o'))
    (q : ∀ v Hs' H' ho', a3A a Hs H Hs' H' → Hs' a = none → H' a = some ho' → RepW Γ Hs' a o' ho' → Rep Γ Hs' d v → Q v H') (tb : Same Γ.tb Hs)
def spP (Γ : Ct) (F : MF) : Sp := fun vs H Q _ => spQ Γ F vs H Q
def a5m (Γ : Ct) (i : Nat) (hs : List ME) : List ME → TA
  | [] => tCons (tVar i) (a5l Γ W0 hs)
  | g :: gs => tCons (tD Γ W0 g) (a5m Γ i hs gs)
section
variable {X : Cx} {Γ : Ct} {i : Nat} {e : Expr} {es : List Expr} {g : ME} {gs hs : List ME}
theorem a6b (hv : PE X e (tVar i)) (h : PAD X Γ W0 es hs) (hst : starEach (e :: es) X.env = (false, eval e X.env) :: starEach es X.env := by rfl) : PA X (e :: es) (a5m Γ i hs []) := pa_cons hv h hst
theorem a2J (h : PD X Γ W0 e g) (t : PA X es (a5m Γ i hs gs)) (hst : starEach (e :: es) X.env = (false, eval e X.env) :: starEach es X.env := by rfl) : PA X (e :: es) (a5m Γ i hs (g :: gs)) := pa_cons h t hst
theorem a3u : ∀ (gs : List ME) {σ : L2.St} {H : Hp} {Q Q' : List V → Hp → Prop}, (∀ v H, Q v H → Q' v H) → a5m Γ i hs gs σ H Q → a5m Γ i hs gs σ H Q'
  | [], _, _, _, _, h, ⟨v, e, t⟩ => ⟨v, e, a02 hs (fun vs H z => h _ _ z) t⟩
  | g :: gs, _, _, _, _, h, t => tD.mono t fun v H1 t' => a3u gs (fun vs H2 z => h _ _ z) t'
theorem a4n {a : Addr} {es : List D} : ∀ (gs : List ME) {B0 B1 Hs H : Hp} {σ : L2.St} {ρ : MEnv} {ds : List D}, RE Γ B0 B1 Hs H σ ρ → a1r gs ρ = some ds → a1r hs ρ = some es → σ[i]? = some (some (.ref a)) →
    a5m Γ i hs gs σ H (fun vs H1 => ∃ Hs1 xs ys, Grow Hs H Hs1 H1 ∧ vs = xs ++ .ref a :: ys ∧ RepL Γ Hs1 ds xs ∧ RepL Γ Hs1 es ys)
  | [], B0, B1, Hs, H, σ, ρ, ds, re, e, e2, hσ => by
    cases e
    exact ⟨.ref a, hσ, a02 hs (fun vs H1 ⟨Hs1, g1, rl⟩ => ⟨Hs1, [], vs, g1, rfl, .nil, rl⟩) (a4m hs re e2)⟩
  | g :: gs, B0, B1, Hs, H, σ, ρ, ds, re, e, e2, hσ => by
    unfold a1r at e
    split at e
    · rename_i s hs'
      cases z : a1r gs ρ with
      | none => rw [z] at e; cases e
      | some ds' =>
        rw [z] at e
        cases e
        refine ⟨B0, B1, Hs, ρ, _, re, hs', fun v Hs' H' g' rs => ?_⟩
        obtain ⟨Hs2, g2, _, rp⟩ := rs.share g'
        refine a3u gs (fun vs H2 ⟨Hs3, xs, ys, g3, ev, r1, r2⟩ => ?_) (a4n gs (re.grow g2) z e2 hσ)
        exact ⟨Hs3, v :: xs, ys, g2.trans g3, by rw [ev]; rfl, .cons (rp.mono g3.s) r1, r2⟩
    · cases e
end
def FnP (P : Program) (w : World) (K : PySem.W.Frag) (mg : Str → Option Value) (base : Heap) (Γ : Ct) (k : Nat) (x : Str) (ps : List Str) (F : MF) : Prop :=
  ∃ f fd, FnOk P w K mg base CX0 k f fd ps (spP Γ F) ∧ mg x = some (.ref f) ∧ PySem.W.keepIn K (.ref f) = true ∧ Binds K fd ps []
theorem FnP.mono {P : Program} {w : World} {K : PySem.W.Frag} {mg : Str → Option Value} {base : Heap} {Γ : Ct} {j k : Nat} {x : Str} {ps : List Str} {F : MF} (h : FnP P w K mg base Γ j x ps F) (l : j ≤ k) : FnP P w K mg base Γ k x ps F := by
  obtain ⟨f, fd, G, r⟩ := h
  exact ⟨f, fd, G.mono l, r⟩
section
variable {X : Cx} {Γ : Ct} {k i : Nat} {ps : List Str} {x : Str} {p pos : Pos} {e : Expr} {es : List Expr} {gs hs : List ME} {F : MF}
theorem a6R {ρ ρ' : MEnv} {d : D} (h : a3m i F gs hs ρ = some (d, ρ')) : ∃ o ds es o', ρ[i]? = some (some (.own o)) ∧ a1r gs ρ = some ds ∧ a1r hs ρ = some es ∧ F o.core ds es = some (d, o') ∧ ρ' = ρ.set i (some (.own (o.put o'))) := by
  unfold a3m at h
  split at h
  · rename_i o ho
    cases h1 : a1r gs ρ with
    | none => rw [h1] at h; cases h
    | some ds =>
      cases h2 : a1r hs ρ with
      | none => rw [h1, h2] at h; cases h
      | some es =>
        cases h3 : F o.core ds es with
        | none => rw [h1, h2] at h; simp only [Option.bind_some, h3] at h; cases h
        | some q =>
          rw [h1, h2] at h
          simp only [Option.bind_some, h3] at h
          cases h
          exact ⟨o, ds, es, q.2, ho, rfl, rfl, h3, rfl⟩
  · cases h
theorem pm_fn (h : FnP X.prog X.w X.K X.mg X.base Γ k x ps F) (hr : Room k X.A) (hg : Gl X x) (ha : PA X (e :: es) (a5m Γ i hs gs)) (hdb : (x == ("__debug__" : Str)) = false := by decide) (he : starEach (e :: es) X.env = (false, eval e X.env) :: starEach es X.env := by rfl) (hpl : (backTo pos (starEach es X.env)).any (·.1) = false := by rfl) :
    PM X Γ (.Call (.Name x p) (e :: es) [] pos) (a3m i F gs hs) := by
  obtain ⟨f, fd, G, hm, hk, hb⟩ := h
  refine PE.imp (pe_call (E := E0) (dvs := []) (ds := []) G hr hg hm hk hb .nil pass0 ha hdb he hpl) fun _ _ σ H Q _ ⟨B0, B1, Hs, ρ, d, ρ', re, e, q⟩ => ?_
  obtain ⟨o, ds, es', o', hd, e1, e2, e3, rfl⟩ := a6R e
  obtain ⟨a, ho, f1, f2, f3, f4, f5⟩ := re.own i o hd
  refine a3u gs (fun vs H1 ⟨Hs1, xs, ys, g1, ev, r1, r2⟩ => ?_) (a4n gs re e1 e2 f1)
  show spQ Γ F (vs ++ []) H1 Q
  rw [List.append_nil]
  have re1 := re.grow g1
  exact ⟨a, xs, ys, Hs1, o.core, ho, ds, es', d, o', ev, re1.b.i, g1.none f3 f4, g1.h _ _ f4, (f5.mono g1.s).core, r1, r2, e3, fun v Hs' H' ho' gx hn hh ro rp => q v Hs' H' (g1.s.trans gx.s) (re1.called hd f1 gx hn hh (RepW.put f5 ro)) rp, re1.tb⟩
variable {a b : Expr} {g : MP} {gb : ME}
theorem pm_op {op : Operator} {f : D → D → Option R} (ho : OpR X (binaryOp op) (rD Γ W0 f)) (ha : PM X Γ a g) (hb : PD X Γ W0 b gb) : PM X Γ (.BinOp a op b pos) (mBin f g gb) :=
  PE.imp (pe_op ho ha hb) fun _ _ σ H Q _ ⟨B0, B1, Hs, ρ, d, ρ', re, e, q⟩ => by
    unfold mBin at e
    cases h : g ρ with
    | none => rw [h] at e; cases e
    | some p =>
      rw [h] at e
      dsimp only [Option.bind_some] at e
      refine ⟨B0, B1, Hs, ρ, p.1, p.2, re, h, fun v Hs1 H1 sm1 re1 rp1 => ?_⟩
      split at e
      · rename_i s hs
        refine ⟨B0, B1, Hs1, p.2, _, re1, hs, fun u Hs2 H2 g2 rs2 => ?_⟩
        obtain ⟨Hs3, g3, _, rp3⟩ := rs2.share g2
        split at e
        · rename_i t ht
          cases e
          refine ⟨Hs3, p.1, s.val, _, g3.i, rp1.mono g3.s, rp3, ht, fun y Hs4 H4 g4 rs4 => ?_⟩
          obtain ⟨Hs5, g5, _, rp5⟩ := rs4.share g4
          exact q y Hs5 H4 ((sm1.trans g3.s).trans g5.s) ((re1.grow g3).grow g5) rp5
        · cases e
      · cases e
end
section
variable {X : Cx} {Γ : Ct} {W : XW} {e : Expr} {g : MP} {ge : ME} {pos pos' : Pos} {i j : Nat} {x : Str}
theorem a7h (he : PM X Γ e g) (hs : swapsWith e none pos.line X.env = pure false := by rfl) : PSD X Γ W (.Expr e pos) (a4T g) := PS.imp (ps_expr he hs) fun pins s σ H D I ⟨B0, B1, Hs, ρ, o, re, e, q⟩ => by
  unfold a4T at e
  cases h : g ρ with
  | none => rw [h] at e; cases e
  | some p =>
    rw [h] at e
    cases e
    exact ⟨B0, B1, Hs, ρ, p.1, p.2, re, h, fun v Hs' H' sm re' rp => q σ Hs' H' sm re'⟩
theorem a5t {st : Stmt} {t : TE} (h : PS X st (tAsg t (gName i))) (ht : ∀ σ H Q, tM Γ g σ H Q → t σ H Q) (hi : i < X.N.length) : PSD X Γ W st (a6x i g) := PS.imp h fun pins s σ H D I ⟨B0, B1, Hs, ρ, o, re, e, q⟩ => by
  unfold a6x at e
  cases h : g ρ with
  | none => rw [h] at e; cases e
  | some p =>
    rw [h] at e
    cases e
    exact ht _ _ _ ⟨B0, B1, Hs, ρ, p.1, p.2, re, h, fun v Hs' H' sm re' rp => q _ Hs' H' sm (re'.setSh (by rw [I.len]; exact hi) rp)⟩
theorem psd_retP (he : PD X Γ W e ge) : PSD X Γ W (.Return (some e) pos) (sRetP j ge) := PS.imp (ps_ret he) fun pins s σ H D I ⟨B0, B1, Hs, ρ, o, re, e, q⟩ => by
  refine (tD_O re e q).mono fun v H1 ⟨Hs1, s, g1, rs, e1⟩ => ?_
  split at e1
  · rename_i a u hd
    cases e1
    obtain ⟨Hs2, g2, _, rp⟩ := rs.share g1
    obtain ⟨c, ho, f1, f2, f3, f4, f5⟩ := re.own j _ hd
    have f6 : c = a ∧ RepW Γ Hs c u ho := f5
    obtain ⟨z, f7⟩ := f6
    subst z
    exact q v Hs2 H1 g2.s (re.b.trans g2) ⟨rp, ho, g2.none f3 f4, g2.h _ _ f4, f7.mono g2.s⟩
  · cases e1
end
def remH (H : Hp) (a : Addr) : Hp := fun b => if b = a then none else H b
theorem a4U {H : Hp} {a : Addr} : remH H a a = none := if_pos rfl
theorem a5r {H : Hp} {a b : Addr} (h : b ≠ a) : remH H a b = H b := if_neg h
theorem start_at {N : List Str} {xs ys : List V} {u v : V} : (L2.start N (xs ++ u :: ys)).set xs.length (some v) = L2.start N (xs ++ v :: ys) := by
  unfold L2.start
  rw [List.map_append, List.map_append, List.map_cons, List.map_cons, List.append_assoc, List.append_assoc]
  have : (List.map some xs).length = xs.length := List.length_map ..
  rw [← this, List.set_append_right _ _ (Nat.le_refl _), Nat.sub_self]
  simp
theorem a7g {Γ : Ct} {Hs H : Hp} {N : List Str} {a : Addr} {o : O} {ho : HO} {ds es : List D} {xs ys : List V} (sm : Same Hs H) (hs : Hs a = none) (hh : H a = some ho) (ro : RepW Γ Hs a o ho) (r1 : RepL Γ Hs ds xs) (r2 : RepL Γ Hs es ys) (tb : Same Γ.tb Hs) (hN : ds.length < N.length) :
    RE Γ Hs (remH H a) Hs H (L2.start N (xs ++ .ref a :: ys)) (a3K N.length a o ds es) := by
  have rl : RepL Γ Hs (ds ++ .non :: es) (xs ++ .non :: ys) := r1.append (.cons (a1K.mpr rfl) r2)
  have r0 := a52 (N := N) sm rl tb
  have no : ∀ (i : Nat) (u : O), (a1I N.length (ds ++ .non :: es))[i]? ≠ some (some (.own u)) := fun i u e => by
    unfold a1I at e
    by_cases hi : i < (ds ++ D.non :: es).length
    · rw [List.getElem?_append_left (by simpa using hi), List.getElem?_map, List.getElem?_eq_getElem hi] at e
      cases e
    · rw [List.getElem?_append_right (by simpa using hi), List.getElem?_replicate] at e
      split at e <;> cases e
  have r1' : RE Γ Hs (remH H a) Hs H (L2.start N (xs ++ .non :: ys)) (a1I N.length (ds ++ .non :: es)) := by
    refine ⟨⟨.refl _, fun b u z => ?_, sm, fun b u z => .inl z⟩, r0.sh, fun i u e => absurd e (no i u), r0.apart, r0.len, r0.tb⟩
    by_cases hb : b = a
    · subst hb; rw [a4U] at z; cases z
    · rw [a5r hb] at z; exact z
  have hl : ds.length < (L2.start N (xs ++ .non :: ys)).length := by
    rw [← r0.len]
    unfold a1I
    rw [List.length_append, List.length_map, List.length_append, List.length_cons]
    omega
  have r2' := r1'.setOwn (i := ds.length) (o := .par a o) (a := a) (ho := ho) hl a4U hs hh ⟨rfl, ro⟩ fun j u _ e => absurd e (no j u)
  rw [r1.length, start_at, ← r1.length] at r2'
  exact r2'
section
variable {P : Program} {w : World} {K : PySem.W.Frag} {mg : Str → Option Value} {base : Heap} {Γ : Ct}
theorem a6i {Hs H Hs' H' : Hp} {a : Addr} (g : Grow Hs (remH H a) Hs' H') (hs : Hs' a = none) : a3A a Hs H Hs' H' :=
  ⟨g.s, fun b u hb z => g.h b u (by rw [a5r hb]; exact z), g.i, fun b u z => by
    have hb : b ≠ a := ne_of_none z hs
    rcases g.n b u z with y | y
    · exact .inl y
    · rw [a5r hb] at y; exact .inr y⟩
theorem fn_P {x qual : Str} {st : Stmt} {f : Addr} {fd : FuncData} {N ps : List Str} {k j : Nat} {g : MC} (F : Fun K x qual st f fd) (S : FnScope N ps (defScope st)) (hN : ps.length ≤ N.length)
    (body : ∀ (cdv : Value) (A : Around) (outer : List PySem.Env) (s : Shared) (H : Hp) (E : XK), Room k (A.deeper (envOfC qual (defScope st) s.heap.objs.size f cdv)) → PSsD (cxOf CX0 P w K mg base N qual (defScope st) f cdv A outer s H E).nox Γ W0 (defBody st) g) :
    FnOk P w K mg base CX0 (k + 1) f fd ps (spP Γ (fnP j ps.length N.length g)) := by
  refine F.ok S (fun vs H Q E ⟨a, xs, ys, Hs, o, ho, ds, es, d, o', ev, sm, hs, hh, ro, r1, r2, e, q, tb⟩ => ?_) (fun cdv A outer s H vs Q E hr ⟨a, xs, ys, Hs, o, ho, ds, es, d, o', ev, sm, hs, hh, ro, r1, r2, e, q, tb⟩ => ?_)
  · obtain ⟨h1, h2, _⟩ := a6l e
    rw [ev, List.length_append, List.length_cons, ← r1.length, ← r2.length]
    omega
  · obtain ⟨h1, h2, h3⟩ := a6l e
    have h3 := h3 a
    subst ev
    refine ⟨tS Γ W0 g, body cdv A outer s H E hr, ?_⟩
    have re := a7g (N := N) sm hs hh ro r1 r2 tb (by omega)
    cases h : g (a3K N.length a o ds es) with
    | none => rw [h] at h3; cases h3
    | some out =>
      rw [h] at h3
      refine ⟨Hs, remH H a, Hs, a3K N.length a o ds es, out, re, h, ?_⟩
      cases out with
      | next ρ' =>
        intro σ' Hs' H' _ re'
        unfold outP at h3
        dsimp only at h3
        split at h3
        · rename_i b u hd
          split at h3
          · rename_i hba
            subst hba
            cases h3
            obtain ⟨c, ho', f1, f2, f3, f4, f5⟩ := re'.own j _ hd
            have f6 : c = b ∧ RepW Γ Hs' c o' ho' := f5
            obtain ⟨z, f7⟩ := f6
            subst z
            exact q .non Hs' H' ho' (a6i re'.b f3) f3 f4 f7 (a1K.mpr rfl)
          · cases h3
        · cases h3
      | brk ρ' => cases h3
      | cont ρ' => cases h3
      | ret s =>
        cases s with
        | sh _ => cases h3
        | own _ => cases h3
        | two d1 b o1 =>
          unfold outP at h3
          dsimp only at h3
          split at h3
          · rename_i hba
            subst hba
            cases h3
            intro v Hs' H' _ g' rs
            obtain ⟨rp, ho', z1, z2, z3⟩ := rs
            exact q v Hs' H' ho' (a6i g' z1) z1 z2 z3 rp
          · cases h3
      | exc x => cases h3
theorem a7A {x qual : Str} {st : Stmt} {f : Addr} {fd : FuncData} {N ps : List Str} {k j : Nat} {g : MF → MC} (F : Fun K x qual st f fd) (S : FnScope N ps (defScope st)) (hN : ps.length ≤ N.length)
    (body : ∀ (G : MF) (l : Nat), k ≤ l → FnOk P w K mg base CX0 l f fd ps (spP Γ G) → ∀ (cdv : Value) (A : Around) (outer : List PySem.Env) (s : Shared) (H : Hp) (E : XK), Room l (A.deeper (envOfC qual (defScope st) s.heap.objs.size f cdv)) → PSsD (cxOf CX0 P w K mg base N qual (defScope st) f cdv A outer s H E).nox Γ W0 (defBody st) (g G)) :
    ∀ n, FnOk P w K mg base CX0 (k + n) f fd ps (spP Γ (n.rec (fun _ _ _ => none) fun _ G => fnP j ps.length N.length (g G)))
  | 0 => ⟨fun vs H Q E ⟨_, _, _, _, _, _, _, _, _, _, _, _, _, _, _, _, _, e, _, _⟩ => (nomatch e), fun A outer s H args us vs Q E _ _ _ _ ⟨_, _, _, _, _, _, _, _, _, _, _, _, _, _, _, _, _, e, _, _⟩ => (nomatch e)⟩
  | n + 1 => fn_P F S hN (body _ (k + n) (Nat.le_add_right _ _) (a7A F S hN body n))
theorem a5N {x : Str} {st : Stmt} {N ps : List Str} {k j : Nat} {g : MF → MC} (L : Laid K mg x st ps) (S : FnScope N ps (defScope st)) (hN : ps.length ≤ N.length)
    (body : ∀ (f : Addr) (G : MF) (l : Nat), k ≤ l → FnP P w K mg base Γ l x ps G → ∀ (cdv : Value) (A : Around) (outer : List PySem.Env) (s : Shared) (H : Hp) (E : XK), Room l (A.deeper (envOfC x (defScope st) s.heap.objs.size f cdv)) → PSsD (cxOf CX0 P w K mg base N x (defScope st) f cdv A outer s H E).nox Γ W0 (defBody st) (g G)) (n : Nat) :
    FnP P w K mg base Γ (k + n) x ps (n.rec (fun _ _ _ => none) fun _ G => fnP j ps.length N.length (g G)) := by
  obtain ⟨f, fd, F, hm, hb⟩ := L.ex
  exact ⟨f, fd, a7A F S hN (fun G l hl ok => body f G l hl ⟨f, fd, ok, hm, F.kp, hb⟩) n, hm, F.kp, hb⟩
end
end L3
namespace L3
open PySem PySem.Spec PyProof.Rows L2
theorem RE.adopt' {Γ : Ct} {B0 B1 Hs H : Hp} {σ : L2.St} {ρ : MEnv} (r : RE Γ B0 B1 Hs H σ ρ) {a : Addr} {ho : HO} (h1 : Hs a = none) (h2 : B1 a = none) (h4 : H a = some ho) (h3 : ∀ (i : Nat) (o : O), ρ[i]? = some (some (.own o)) → σ[i]? ≠ some (some (.ref a))) : RE Γ B0 B1 (upd Hs a ho) H σ ρ := by
  have sm : Same Hs (upd Hs a ho) := a0M h1
  have sh' : Same (upd Hs a ho) H := fun b u z => by
    by_cases hb : b = a
    · subst hb; rw [upd_same] at z; cases z; exact h4
    · rw [upd_ne hb] at z; exact r.b.i _ _ z
  refine ⟨⟨r.b.s.trans sm, r.b.h, sh', fun b u z => ?_⟩, fun j d hj => ?_, fun j u hj => ?_, r.apart, r.len, r.tb.trans sm⟩
  · by_cases hb : b = a
    · subst hb; exact .inr h2
    · rw [upd_ne hb] at z; exact r.b.n _ _ z
  · obtain ⟨v, f1, f2⟩ := r.sh j d hj
    exact ⟨v, f1, f2.mono sm⟩
  · obtain ⟨c, hc, f1, f2, f3, f4, f5⟩ := r.own j u hj
    refine ⟨c, hc, f1, f2, ?_, f4, f5.mono sm⟩
    rw [upd_ne]
    · exact f3
    · intro z
      subst z
      exact h3 j u hj f1
section
variable {Γ : Ct} {js : List Nat} {gi : MI} {bd : MB} {elt : MP}
theorem tM_comp (hb : BdIn js bd) {σ : L2.St} {H : Hp} {Q : VK} (t : tM Γ (a5L js gi bd elt) σ H Q) :
    a67 js (tI Γ W0 gi) (tB3 Γ js bd) a6u (tM Γ elt) σ H Q := by
  obtain ⟨B0, B1, Hs, ρ, dv, ρ', re, e, q⟩ := t
  unfold a5L at e
  cases h : gi ρ with
  | none => rw [h] at e; cases e
  | some x =>
    rw [h] at e
    cases x with
    | exc y => cases e
    | ok ds =>
      refine ⟨B0, B1, Hs, ρ, .ok ds, re, h, ?_⟩
      intro J Hs1 H1 g1 w a ha
      dsimp only at e
      split at e
      · rename_i hc
        obtain ⟨hlim, hcl⟩ := hc
        have hfo := a3y js ρ hcl
        cases hcm : a4F js bd elt ds ρ with
        | none => rw [hcm] at e; cases e
        | some pr =>
          rw [hcm] at e
          cases e
          have hs1 : Hs1 a = none := g1.i.free ha
          have h0 : H a = none := g1.h.free ha
          have hb1 : B1 a = none := re.b.h.free h0
          have hb0 : B0 a = none := re.b.s.free (re.b.i.free h0)
          have re1 : RE Γ B0 B1 Hs1 H1 (a1e js σ) ρ := (re.grow g1).sub (by rw [a00, re.len]) fun i s z => by
            have z' : (a0q js ρ)[i]? = some (some s) := by rw [hfo]; exact z
            obtain ⟨z1, _⟩ := a0E js ρ i s z'
            exact ⟨z, a2m js σ i z1⟩
          have ap1 : ∀ (i : Nat) (o : O), ρ[i]? = some (some (.own o)) → (a1e js σ)[i]? ≠ some (some (.ref a)) := fun i o z z' => by
            obtain ⟨c, hc, f1, _, _, f4, _⟩ := re1.own i o z
            rw [z'] at f1
            cases f1
            rw [ha] at f4
            cases f4
          have cl1 : ∀ (i : Nat) (s : S), ρ[i]? = some (some s) → i ∉ js := fun i s z => by
            have z' : (a0q js ρ)[i]? = some (some s) := by rw [hfo]; exact z
            exact (a0E js ρ i s z').1
          refine ⟨fun i m σ2 ys H2 => m = ds.length - i ∧ i ≤ ds.length ∧ ∃ Hs2 ρ2 acc rest, Same Hs1 Hs2 ∧ RE Γ B0 B1 Hs2 H2 σ2 ρ2 ∧ (∀ (k : Nat) (s : S), ρ2[k]? = some (some s) → k ∉ js) ∧ (σ2.length = σ.length ∧ ∀ k : Nat, k ∉ js → σ2[k]? = σ[k]?) ∧ Hs2 a = none ∧
            (∀ (i : Nat) (o : O), ρ2[i]? = some (some (.own o)) → σ2[i]? ≠ some (some (.ref a))) ∧ H2 a = some (.lst ys) ∧ RepL Γ Hs2 acc ys ∧ a4F js bd elt (ds.drop i) ρ2 = some (rest, pr.2) ∧ pr.1 = acc ++ rest ∧ acc.length ≤ i,
            ⟨_, rfl, Nat.zero_le _, Hs1, ρ, [], pr.1, .refl _, re1.other hs1 hb1 ap1, cl1, ⟨a00 js σ, fun k hk => a2m js σ k hk⟩, hs1, ap1, upd_same, .nil, hcm, rfl, Nat.zero_le _⟩, ?_⟩
          rintro i m σ2 ys H2 ⟨rfl, hi, Hs2, ρ2, acc, rest, sm, re2, cl2, hσ2, ha2, ap, hy, rl, ec, hpr, hacc⟩
          refine ⟨hy, ?_⟩
          by_cases hlt : i < ds.length
          · refine .inr ⟨w.go i Hs2 H2 hlt sm re2.b.i, fun x H3 y => ?_⟩
            obtain ⟨d, Hs3, ed, g3, rp⟩ := w.yld i Hs2 H2 x H3 hlt sm re2.b.i y
            have hd : ds.drop i = d :: ds.drop (i + 1) := by
              rw [List.drop_eq_getElem_cons hlt]
              congr 1
              rw [List.getElem?_eq_getElem hlt] at ed
              exact Option.some.inj ed
            rw [hd] at ec
            unfold a4F at ec
            cases hbd : bd d ρ2 with
            | none => rw [hbd] at ec; cases ec
            | some ρ1 =>
              rw [hbd] at ec
              dsimp only at ec
              obtain ⟨bl, bo⟩ := hb d _ ρ1 hbd
              have ha3 := g3.none ha2 hy
              have hy3 := g3.h _ _ hy
              refine ⟨B0, upd B1 a (.lst ys), Hs3, ρ2, d, ρ1, (re2.grow g3).lock ha3 hy3 ap, rp, hbd, fun σ4 re4 hσ => ?_⟩
              cases hel : elt ρ1 with
              | none => rw [hel] at ec; cases ec
              | some pv =>
                rw [hel] at ec
                dsimp only [Option.bind_some] at ec
                cases hre : a4F js bd elt (ds.drop (i + 1)) (a0q js pv.2) with
                | none => rw [hre] at ec; cases ec
                | some qv =>
                  rw [hre] at ec
                  have e5 : pv.1 :: qv.1 = rest := (Prod.mk.inj (Option.some.inj ec)).1
                  have e6 : qv.2 = pr.2 := (Prod.mk.inj (Option.some.inj ec)).2
                  unfold a6u
                  refine iteT ?_
                  refine ⟨B0, upd B1 a (.lst ys), Hs3, ρ1, pv.1, pv.2, re4, hel, fun v Hs6 H6 sm6 re6 rp6 => ?_⟩
                  obtain ⟨re7, ha6, hy6, ap6⟩ := re6.unlock hb1 hb0
                  have hlen : acc.length = ys.length := rl.length
                  have hbig : ys.length < sizeLine := Nat.lt_of_lt_of_le (by omega : ys.length < lim) (by decide)
                  have re8 : RE Γ B0 B1 Hs6 H6 σ4 (a0q js pv.2) := re7.sub (by rw [a2l, re7.len]) fun k s z => ⟨(a0E js pv.2 k s z).2, rfl⟩
                  have ap8 : ∀ (k : Nat) (o : O), (a0q js pv.2)[k]? = some (some (.own o)) → σ4[k]? ≠ some (some (.ref a)) := fun k o z => ap6 k o (a0E js pv.2 k _ z).2
                  have l4 : σ4.length = σ.length := by rw [← re4.len, bl, re2.len]; exact hσ2.1
                  refine ⟨hy6, hbig, _, by omega, rfl, hlt, Hs6, a0q js pv.2, acc ++ [pv.1], qv.1, (sm.trans g3.s).trans sm6, re8.other ha6 hb1 ap8, fun k s z => (a0E js pv.2 k s z).1, ⟨l4, fun k hk => (hσ k hk).trans (hσ2.2 k hk)⟩, ha6, ap8, upd_same, (rl.mono (g3.s.trans sm6)).append (.cons rp6 .nil), by rw [hre, ← e6], by rw [hpr, List.append_assoc, ← e5]; rfl, by rw [List.length_append, List.length_singleton]; omega⟩
          · have ei : i = ds.length := by omega
            subst ei
            rw [List.drop_length] at ec
            have e5 : [] = rest := (Prod.mk.inj (Option.some.inj ec)).1
            have e6 : ρ2 = pr.2 := (Prod.mk.inj (Option.some.inj ec)).2
            subst e5
            rw [e6] at re2 cl2 ap
            refine .inl ⟨w.stop Hs2 H2 sm re2.b.i, ?_⟩
            have re9 : RE Γ B0 B1 Hs2 H2 σ pr.2 := re2.sub (by rw [re2.len]; exact hσ2.1) fun k s z => ⟨z, (hσ2.2 k (cl2 k s z)).symm⟩
            have ap9 : ∀ (k : Nat) (o : O), pr.2[k]? = some (some (.own o)) → σ[k]? ≠ some (some (.ref a)) := fun k o z => by
              rw [← hσ2.2 k (cl2 k _ z)]
              exact ap k o z
            have sm9 : Same Hs2 (upd Hs2 a (.lst ys)) := a0M ha2
            refine q (.ref a) (upd Hs2 a (.lst ys)) H2 ((g1.s.trans sm).trans sm9) (re9.adopt' ha2 hb1 hy ap9) (a1s.mpr ⟨a, ys, rfl, .of upd_same, ?_⟩)
            rw [hpr, List.append_nil]
            exact rl.mono sm9
      · cases e
section
variable {X : Cx} {scope : Scope} {vars : List Str} {elt' tg iter : Expr} {pos pos' spos : Pos} {i : Nat} {x : Str} {W : XW}
theorem a7i (hN : X.N.Nodup) (hi' : X.N[i]? = some x) (hx : Loc X.env.scope x) (hb : BdIn js bd) (hc : a0Y scope X.env.scope vars = true) (hj : a2v X.N vars js = true) (hcalm : X.calm = true) (hi : PID X Γ W0 tg iter gi)
    (hg : ∀ fp s H a, PBD (a01 X scope fp s H a) Γ tg js bd) (he : ∀ fp s H a, PM (a01 X scope fp s H a) Γ elt' elt)
    (hsw : swapsWith (.ListComp elt' [⟨tg, iter, [], 0⟩] scope pos) (some (.Name x pos')) spos.line X.env = pure true := by rfl) (hs : ∀ x, foldedSetIterable iter X.env x = pure x := by intro _; rfl)
    (hf : X.fn x = true ∨ X.env.scope.names.lookup x = some .local := by first | exact .inl rfl | exact .inr rfl | assumption) :
    PSD X Γ W (.Assign [.Name x pos'] (.ListComp elt' [⟨tg, iter, [], 0⟩] scope pos) spos) (a6x i (a5L js gi bd elt)) :=
  a5t (a3i hN hi' hx hc hj hcalm hi hg (fun _ _ _ _ => a5v) he hsw hs hf) (fun _ _ _ t => tM_comp hb t) (List.getElem?_eq_some_iff.mp hi').1
end
end
end L3
namespace L3
open PySem PySem.Spec PyProof.Rows L2
section
variable {X : Cx} {Γ : Ct} {W : XW} {i : Nat} {x : Str} {px apos cpos pos pos' zpos : Pos} {k : Expr} {gk : ME}
theorem RepW.dic {Hs : Hp} {a : Addr} {o : O} {ho : HO} {kvs : Tb} (h : RepW Γ Hs a o ho) (e : o.core = .dic kvs) : ho = .dT (kvT kvs) := by
  have h := h.core
  rw [e] at h
  exact h
theorem eAt_some {ρ : MEnv} {r : R} (h : eAt i gk ρ = some r) : ∃ o kvs ks v, ρ[i]? = some (some (.own o)) ∧ o.core = .dic kvs ∧ gk ρ = okD (.tup (ks.map D.int)) ∧ getI kvs ks = some v ∧ r = .ok (.sh (.int v)) := by
  unfold eAt at h
  cases h1 : a2G i ρ with
  | none => rw [h1] at h; cases h
  | some p =>
    rw [h1] at h
    dsimp only [Option.bind_some] at h
    obtain ⟨e1, e2⟩ := a2e (o := p.1) (kvs := p.2) h1
    cases h2 : a2B (gk ρ) with
    | none => rw [h2] at h; cases h
    | some ks =>
      rw [h2] at h
      dsimp only [Option.bind_some] at h
      cases h3 : getI p.2 ks with
      | none => rw [h3] at h; cases h
      | some v => rw [h3] at h; cases h; exact ⟨p.1, p.2, ks, v, e1, e2, a2K h2, h3, rfl⟩
theorem a7D {n : Bool} {ρ : MEnv} {r : R} (h : eHas n i gk ρ = some r) : ∃ o kvs ks, ρ[i]? = some (some (.own o)) ∧ o.core = .dic kvs ∧ gk ρ = okD (.tup (ks.map D.int)) ∧ r = .ok (.sh (.bl (n != (getI kvs ks).isSome))) := by
  unfold eHas at h
  cases h1 : a2G i ρ with
  | none => rw [h1] at h; cases h
  | some p =>
    rw [h1] at h
    dsimp only [Option.bind_some] at h
    obtain ⟨e1, e2⟩ := a2e (o := p.1) (kvs := p.2) h1
    cases h2 : a2B (gk ρ) with
    | none => rw [h2] at h; cases h
    | some ks => rw [h2] at h; cases h; exact ⟨p.1, p.2, ks, e1, e2, a2K h2, rfl⟩
theorem pd_dat (hu : X.A.units + 1 < cLine) (hv : PE X (.Name x px) (tVar i)) (hk : PK X Γ k gk) (hs : NoSl k := by exact fun _ _ => rfl) : PD X Γ W (.Subscript (.Name x px) k pos) (eAt i gk) :=
  PE.imp (a7k hu hv hk hs) fun _ _ σ H Q _ ⟨B0, B1, Hs, ρ, r, re, e, q⟩ => by
    obtain ⟨o, kvs, ks, v, hd, ec, eg, gv, rfl⟩ := eAt_some e
    obtain ⟨a, ho, e1, e2, e3, e4, hq⟩ := re.own i _ hd
    have hq := hq.dic ec
    subst hq
    refine ⟨.ref a, e1, B0, B1, Hs, ρ, ks, re, eg, fun b H' sm eb => ⟨a, .int v, rfl, ?_, q _ Hs H' (.only re.b.i sm) (RepS.of (a0g.mpr rfl))⟩⟩
    have g := DGet.t (k := ks.map Sum.inl) (sm _ _ e4) (by rw [a46]; exact eb)
    rw [a4p, gv] at g
    exact g
theorem a63 {σ : L2.St} {H : Hp} {Q : VK} (t : tD Γ W (eHas true i gk) σ H Q) : a66 (tK Γ gk) (tVar i) σ H Q := by
  obtain ⟨B0, B1, Hs, ρ, r, re, e, q⟩ := t
  obtain ⟨o, kvs, ks, hd, ec, eg, rfl⟩ := a7D e
  obtain ⟨a, ho, e1, e2, e3, e4, hq⟩ := re.own i _ hd
  have hq := hq.dic ec
  subst hq
  refine ⟨B0, B1, Hs, ρ, ks, re, eg, fun b H' sm eb => ⟨.ref a, e1, a, _, rfl, DGet.t (k := ks.map Sum.inl) (sm _ _ e4) (by rw [a46]; exact eb), ?_⟩⟩
  rw [a4p, Option.isSome_map]
  refine q _ Hs H' (.only re.b.i sm) (RepS.of (a0X.mpr ?_))
  rw [Bool.true_bne]
theorem a3h (hu : X.A.units + 1 < cLine) (hv : PE X (.Name x px) (tVar i)) (hk : PK X Γ k gk) : PTD X Γ W (.Compare k [.NotIn] [.Name x px] pos) (eHas true i gk) := PT.imp (pt_cmp (a7l hu hk hv)) fun _ _ _ _ _ _ t => a63 (tT_of t)
theorem a6y {ge : ME} {ρ : MEnv} {o : Out} (h : a4S i gk ge ρ = some o) : ∃ v u kvs ks, ge ρ = okI v ∧ ρ[i]? = some (some (.own u)) ∧ u.core = .dic kvs ∧ gk ρ = okD (.tup (ks.map D.int)) ∧ kvs.length < lim ∧ o = .next (ρ.set i (some (.own (u.put (.dic (putI kvs ks v)))))) := by
  unfold a4S at h
  cases h0 : a3H (ge ρ) with
  | none => rw [h0] at h; cases h
  | some v =>
    rw [h0] at h
    dsimp only [Option.bind_some] at h
    cases h1 : a2G i ρ with
    | none => rw [h1] at h; cases h
    | some p =>
      rw [h1] at h
      dsimp only [Option.bind_some] at h
      obtain ⟨e1, e2⟩ := a2e (o := p.1) (kvs := p.2) h1
      cases h2 : a2B (gk ρ) with
      | none => rw [h2] at h; cases h
      | some ks =>
        rw [h2] at h
        dsimp only [Option.bind_some] at h
        obtain ⟨hl, e⟩ := a0I h
        exact ⟨v, p.1, p.2, ks, a4J h0, e1, e2, a2K h2, hl, e.symm⟩
theorem a4V {e : Expr} {ge : ME} (hu : X.A.units + 1 < cLine) (hv : PE X (.Name x px) (tVar i)) (hk : PK X Γ k gk) (he : PD X Γ W e ge) (hs : swapsWith e (some (.Subscript (.Name x px) k pos')) pos.line X.env = pure false := by rfl) :
    PSD X Γ W (.Assign [.Subscript (.Name x px) k pos'] e pos) (a4S i gk ge) :=
  PS.imp (ps_dput hu hv hk he hs) fun pins s σ H En I ⟨B0, B1, Hs, ρ, o, re, eo, q⟩ => by
    obtain ⟨v, u, kvs, ks, hge, hd, ec, hgk, hl, rfl⟩ := a6y eo
    obtain ⟨a, ho, e1, e2, e3, e4, hq0⟩ := re.own i _ hd
    have hq := hq0.dic ec
    subst hq
    refine ⟨B0, B1, Hs, ρ, .ok (.sh (.int v)), re, hge, fun y Hs1 H1 g1 rs => ?_⟩
    obtain rfl : y = .int v := a0g.mp (show Rep Γ Hs1 (.int v) y from rs)
    have re1 := re.grow g1
    refine ⟨.ref a, e1, B0, B1, Hs1, ρ, ks, re1, hgk, fun b H3 sm eb => ?_⟩
    refine ⟨a, _, rfl, .t (sm _ _ (g1.h _ _ e4)) (by rw [a46]; exact eb) (by unfold kvT; rw [List.length_map]; exact Nat.lt_of_lt_of_le hl (by decide)), ?_⟩
    refine q σ Hs1 _ g1.s ((re1.grow (.only re1.b.i sm)).write hd e1 (RepW.put hq0 ?_))
    show HO.dT _ = HO.dT _
    rw [put_kvT]
end
end L3
namespace L3
open PySem PySem.Spec PyProof.Rows L2
section
variable {X : Cx} {Γ : Ct} {W : XW}
theorem a6h {H : Hp} : ∀ (ns : List Int) (xs : List V), RepL Γ H (ns.map D.int) xs → xs = ns.map V.int
  | [], xs, rl => a03.mp rl
  | n :: r, xs, rl => by
    obtain ⟨x, r', rfl, q1, t⟩ := a0s.mp rl
    rw [a0g.mp q1, a6h r r' t]; rfl
theorem a7z {ns : List Int} {its : List Value} (rv : Vals (ns.map V.int) its) {i : Nat} {v : Value} (h : its[i]? = some v) : ∃ t, v = .int (ns.getD i 0) t := by
  have hl := rv.length
  have hi : i < its.length := (List.getElem?_eq_some_iff.mp h).1
  have hi' : i < ns.length := by rw [List.length_map] at hl; omega
  obtain ⟨u, hu, ru⟩ := rv.get (i := i) (x := .int ns[i]) (by rw [List.getElem?_map, List.getElem?_eq_getElem hi']; rfl)
  rw [h] at hu
  cases hu
  obtain ⟨t, rfl⟩ := ru
  exact ⟨t, by rw [List.getD_eq_getElem?_getD, List.getElem?_eq_getElem hi']; rfl⟩
theorem a7O {pins : List (Addr × Obj)} {s : Shared} {σ : L2.St} {H : Hp} {a : Addr} {ns : List Int} {z : Int} {tz : Tok} {Q : VK} (hc : X.calm = true) (I : Inv X pins σ H s) (sq : SqL X.K H a (ns.map V.int)) (q : Q (.int (maxL z ns)) H) :
    wpAny (model X.prog X.w) X.A (call (.builtin "max") [.ref a] [(Str.ofString "default", .int z tz)]) (EP X pins σ Q) X.xe s := by
  obtain ⟨its, rv, p, hz⟩ := I.list sq
  have hls := p.isList
  have hlen : its.length = ns.length := by have := rv.length; rw [List.length_map] at this; omega
  have hlt : a < s.heap.objs.size := by obtain ⟨_, e, _⟩ := hls; exact Heap.lt_size e
  refine PyProof.Rows.kmk_tree PySem.F.kind_max PySem.F.plain_max PySem.F.entry_max (mxd_args _ _) ?_
  show wpAny _ X.A.in1 (Builtin.Builtins.bindParams "max" ["key", "default"] 0 ⟨[], [(Str.ofString "default", .int z tz)]⟩ >>= _) _ _ s; refine wpAny_bind (wpAny_of_eq (show Builtin.Builtins.bindParams "max" ["key", "default"] 0 ⟨[], [(Str.ofString "default", .int z tz)]⟩ = pure [none, some (.int z tz)] from rfl) ?_)
  refine wpAny_bind (wpAny_pure ?_)
  refine wpAny_bind (wpAny_pyIter_list hls ?_)
  refine wpAny_bind (wpAny_newList ?_ (Nat.zero_le _)); rw [a3D]
  have hne : a ≠ s.heap.objs.size := Nat.ne_of_lt hlt
  have sz : (s.heap.push { cls := .type "list_iterator", data := .fields #[.ref a, .int 0 0] }).objs.size = s.heap.objs.size + 1 := by rw [Heap.size_push]
  have kp : ∀ (b : Addr) (o : Obj) (h' : Heap), s.heap.get? b = some o → (∀ x o, x ∉ [s.heap.objs.size] → x ≠ (s.heap.push { cls := .type "list_iterator", data := .fields #[.ref a, .int 0 0] }).objs.size → ((s.heap.push { cls := .type "list_iterator", data := .fields #[.ref a, .int 0 0] }).push (seqObj "list" #[] 0)).get? x = some o → h'.get? x = some o) → h'.get? b = some o := fun b o h' e k => by
    have hb := Heap.lt_size e
    exact k b o (fun h => Nat.ne_of_lt hb (List.mem_singleton.mp h)) (by rw [sz]; exact Nat.ne_of_lt (Nat.lt_succ_of_lt hb)) (Heap.get?_push_of_some _ (Heap.get?_push_of_some _ e))
  refine wpAny_pure ⟨plainId_quiet PySem.F.plain_max_loop _, a7t (Walks.list (A := X.A.in1) (I.ok.hd hc) s.heap.objs.size a hne its.toArray) _ (CmpOf.ints_gt (fun i => ns.getD i 0) fun i v h => a7z rv (by simpa using h)) _ (fun h => (List.mem_cons.mp h).elim (fun h => absurd h (by rw [sz]; exact Nat.succ_ne_self _)) fun h => absurd (List.mem_singleton.mp h).symm (by rw [sz]; exact Nat.ne_of_lt (Nat.lt_succ_of_lt hlt))) (.int z tz) ⟨⟨_, Heap.get?_push_of_some _ (Heap.get?_push_size _ rfl), rfl, rfl⟩, (hls.push _).push _⟩ (Heap.get?_push_size _ rfl) (fun h0 h' tk k => ?_) fun h0 v h' tk pv k => ?_⟩
  · have : ns = [] := by
      have : its.length = 0 := by simpa using h0
      exact List.eq_nil_of_length_eq_zero (by omega)
    subst this
    refine ⟨.int z, H, I.kept fun b o e => ?_, ⟨_, rfl⟩, q⟩
    exact k b o (fun h => Nat.ne_of_lt (Heap.lt_size e) (List.mem_singleton.mp h)) (Heap.get?_push_of_some _ (Heap.get?_push_of_some _ e))
  · have pv' : its[argBest (fun i j => decide (ns.getD i 0 > ns.getD j 0)) (its.toArray.size - 1)]? = some v := by rw [List.getElem?_toArray] at pv; exact pv
    obtain ⟨t, rfl⟩ := a7z rv pv'
    have hsz : its.toArray.size = ns.length := by simpa using hlen
    have hpos : 0 < ns.length := by rw [← hsz]; exact h0
    rw [hsz]
    obtain ⟨b1, b2⟩ := PySem.argBest_gt (fun i => ns.getD i 0) (ns.length - 1)
    obtain ⟨m1, m2⟩ := a3S z ns (fun z => by rw [z] at hpos; cases hpos)
    have e : ns.getD (argBest (fun i j => decide (ns.getD i 0 > ns.getD j 0)) (ns.length - 1)) 0 = maxL z ns := by
      refine Int.le_antisymm (m2 _ ?_) ?_
      · rw [List.getD_eq_getElem?_getD, List.getElem?_eq_getElem (by omega)]; exact List.getElem_mem _
      · obtain ⟨j, hj, ej⟩ := List.mem_iff_getElem.mp m1
        have := b2 j (by omega)
        rw [List.getD_eq_getElem?_getD, List.getElem?_eq_getElem hj] at this
        rw [← ej]
        exact this
    rw [e]
    exact ⟨.int (maxL z ns), H, I.kept fun b o e => kp b o h' e k, ⟨_, rfl⟩, q⟩
theorem pd_maxD {a : Expr} {g : ME} {z : Int} {jz : Nat} {p pos zp kp : Pos} (hK : X.K = Γ.K) (hc : X.calm = true) (hg : Gl X "max") (hm : X.mg "max" = none) (ha : PD X Γ W a g) (hs : starEach [a] X.env = (false, eval a X.env) :: starEach [] X.env := by rfl)
    (he : backTo pos (starEach [a] X.env) = (false, eval a X.env) :: backTo pos (starEach [] X.env) := by rfl) (hpl : (backTo pos (starEach [a] X.env)).any (·.1) = false := by rfl) :
    PD X Γ W (.Call (.Name "max" p) [a] [⟨some "default", .Constant (.int z) jz zp, kp⟩] pos) (eUn (a5R z) g) := by
  intro pins s σ H Q I ⟨B0, B1, Hs, ρ, r, re, e, q⟩
  refine wpAny_Call_Name_kw (ld_blt I hg hm L3.bt_max ?_ (by decide) (by decide))
  have step := (a1h re e q).mono (Q' := fun v H1 => tNil σ H1 fun xs H2 => ∃ Hs1 d, Grow Hs H Hs1 H2 ∧ v :: xs = [v] ∧ Rep Γ Hs1 d v ∧ a5R z d = some r ∧ RQ Γ W Hs1 H2 r Q ∧ RE Γ B0 B1 Hs1 H2 σ ρ) fun v H1 ⟨Hs1, d, g1, re1, rp, e1, q1⟩ => ⟨Hs1, d, g1, rfl, rp, e1, q1, re1⟩
  refine callWith_kw (thn ((pa_cons ha pa_nil hs) pos pins s σ H (fun vs H2 => ∃ v Hs1 d, vs = [v] ∧ Grow Hs H Hs1 H2 ∧ Rep Γ Hs1 d v ∧ a5R z d = some r ∧ RQ Γ W Hs1 H2 r Q ∧ RE Γ B0 B1 Hs1 H2 σ ρ) I (step.mono fun v H1 ⟨Hs1, d, g1, _, rp, e1, q1, re1⟩ => ⟨v, Hs1, d, rfl, g1, rp, e1, q1, re1⟩)) fun us s1 ⟨vs, H1, I1, r1, v, Hs1, d, ev, g1, rp, e1, q1, re1⟩ => ?_) he hpl rfl rfl
  refine thn ((pk_cons (nm := some "default") (kpos := kp) pe_int pk_nil) pos pins s1 σ H1 (fun vs H2 => vs = [.int z] ∧ H2 = H1) I1 ⟨rfl, rfl⟩) fun ws s2 ⟨zs, H2, I2, rz, ez, eh⟩ => ?_
  subst ev ez eh
  obtain ⟨u, rfl, ru⟩ := vals1 r1
  obtain ⟨u', rfl, ru'⟩ := vals1 rz
  obtain ⟨tz, rfl⟩ := ru'
  cases d with
  | lst ds =>
    cases hn : intsOf ds with
    | none => unfold a5R at e1; dsimp only at e1; rw [hn] at e1; cases e1
    | some ns =>
      unfold a5R at e1
      dsimp only at e1
      rw [hn] at e1
      cases e1
      obtain ⟨b, xs, rfl, sq, rl⟩ := a1s.mp rp
      cases ru
      have hds := a3p hn
      subst hds
      have hxs := a6h ns xs rl
      subst hxs
      exact a7O hc I2 (by rw [hK]; exact Same.seq re1.b.i sq) (q1 _ Hs1 _ (.refl re1.b.i) (RepS.of (a0g.mpr rfl)))
  | _ => cases e1
end
end L3
namespace L3
open PySem PySem.Spec PyProof.Rows L2
section
variable {X : Cx} {Γ : Ct} {W : XW} {pos : Pos}
theorem a7m {j k l : Nat} {x y z : Str} {px py pz : Pos} {kt : Nat} (hK : X.K = Γ.K) (hc : X.calm = true) (hN : X.N.Nodup) (hj : X.N[j]? = some x) (hk : X.N[k]? = some y) (hl : X.N[l]? = some z) (hx : Loc X.env.scope x) (hy : Loc X.env.scope y) (hz : Loc X.env.scope z)
    (fx : X.fn x = true ∨ X.env.scope.names.lookup x = some .local := by first | exact .inl rfl | exact .inr rfl | assumption) (fy : X.fn y = true ∨ X.env.scope.names.lookup y = some .local := by first | exact .inl rfl | exact .inr rfl | assumption) (fz : X.fn z = true ∨ X.env.scope.names.lookup z = some .local := by first | exact .inl rfl | exact .inr rfl | assumption)
    (hn : (assignEach [.Name x px, .Name y py, .Name z pz] X.env).length = 3 := by rfl) (hst : (assignEach [.Name x px, .Name y py, .Name z pz] X.env).findIdx? (·.1) = none := by rfl)
    (hs1 : (assignEach [.Name x px, .Name y py, .Name z pz] X.env).map (·.2) = assign (.Name x px) X.env :: (assignEach [.Name y py, .Name z pz] X.env).map (·.2) := by rfl) (hs2 : (assignEach [.Name y py, .Name z pz] X.env).map (·.2) = assign (.Name y py) X.env :: (assignEach [.Name z pz] X.env).map (·.2) := by rfl) (hs3 : (assignEach [.Name z pz] X.env).map (·.2) = assign (.Name z pz) X.env :: (assignEach [] X.env).map (·.2) := by rfl) :
    PBD X Γ (.Tuple [.Name x px, .Name y py, .Name z pz] kt pos) [j, k, l] (bTup [j, k, l]) :=
  PG.imp (pg_tup hc (pgs_cons (pg_name hN hj hx fx) (pgs_cons (pg_name hN hk hy fy) (pgs_cons (pg_name hN hl hz fz) pgs_nil hs3) hs2) hs1) hn hst) fun pins s v σ H Q I ⟨B0, B1, Hs, ρ, d, ρ', re, rp, e, q⟩ => by
    have lj : j < σ.length := by rw [I.len]; exact (List.getElem?_eq_some_iff.mp hj).1
    have lk : k < σ.length := by rw [I.len]; exact (List.getElem?_eq_some_iff.mp hk).1
    have ll : l < σ.length := by rw [I.len]; exact (List.getElem?_eq_some_iff.mp hl).1
    cases d with
    | tup ds =>
      unfold bTup at e
      dsimp only at e
      split at e
      · rename_i hl
        cases e
        match ds, hl with
        | [d1, d2, d3], _ =>
          obtain ⟨a, xs, rfl, sq, rl⟩ := a1m.mp rp
          obtain ⟨x1, r1, rfl, q1, rl⟩ := a0s.mp rl
          obtain ⟨x2, r2, rfl, q2, rl⟩ := a0s.mp rl
          obtain ⟨x3, r3, rfl, q3, rl⟩ := a0s.mp rl
          obtain rfl := a03.mp rl
          refine ⟨a, [x1, x2, x3], rfl, by rw [hK]; exact a0U re.b.i sq, rfl, x1, [x2, x3], rfl, x2, [x3], rfl, x3, [], rfl, rfl, ?_⟩
          exact q _ (((re.setSh lj q1).setSh (by rw [List.length_set]; exact lk) q2).setSh (by rw [List.length_set, List.length_set]; exact ll) q3) fun i hi => by
            rw [List.getElem?_set_ne fun z => hi (by simp [z]), List.getElem?_set_ne fun z => hi (by simp [z]), List.getElem?_set_ne fun z => hi (by simp [z])]
      · cases e
    | _ => cases e
theorem a5g : CallR X (.type "range") (fun xs H Q => ∃ hi, xs = [.int hi] ∧ ∀ p, H p = none → Q (.ref p) (upd H p (.rng 0 hi))) := fun pins s σ H xs us Q I r ⟨hi, ex, q⟩ => by
  subst ex
  obtain ⟨u, rfl, ⟨t, rfl⟩⟩ := vals1 r
  exact call_range_1 ⟨.ref s.heap.objs.size, _, I.laid (t' := _) (o := .rng 0 hi) (fun b o e => Heap.get?_push_of_some _ e) (Nat.le_refl _) ⟨_, _, _, Heap.get?_push_size _ rfl⟩, rfl, q _ I.fresh⟩
theorem a4u {a : Expr} {ga : ME} {p p' pos' : Pos} (hc : X.calm = true) (hg : Gl X "list") (hm : X.mg "list" = none) (hg2 : Gl X "range") (hm2 : X.mg "range" = none) (ha : PD X Γ W a ga)
    (hs1 : starEach [a] X.env = (false, eval a X.env) :: starEach [] X.env := by rfl) (hpl : (backTo pos' (starEach [] X.env)).any (·.1) = false := by rfl)
    (hs3 : starEach [.Call (.Name "range" p') [a] [] pos'] X.env = (false, eval (.Call (.Name "range" p') [a] [] pos') X.env) :: starEach [] X.env := by rfl) (hpl2 : (backTo pos (starEach [] X.env)).any (·.1) = false := by rfl) :
    PD X Γ W (.Call (.Name "list" p) [.Call (.Name "range" p') [a] [] pos'] [] pos) (eUn a4E ga) :=
  PE.imp (pe_callTy (a5h hc) hg hm boot_list (pa_cons (pe_callTy a5g hg2 hm2 boot_range (pa_cons ha pa_nil hs1) (by decide) (by decide) hs1 hpl) pa_nil hs3) (by decide) (by decide) hs3 hpl2) fun _ _ σ H Q _ ⟨B0, B1, Hs, ρ, r, re, e, q⟩ => by
    refine (a1h re e q).mono fun v H1 ⟨Hs1, d, g1, re1, rp, e1, q1⟩ => ?_
    cases d with
    | int hi =>
      obtain ⟨⟨h2, h3⟩, rfl⟩ := a0I (show (if a20 hi = true ∧ hi.toNat ≤ lim then okL (rng 0 hi) else none) = some r from e1)
      refine ⟨hi, by rw [a0g.mp rp], fun p hp => ?_⟩
      have sm := re1.b.i
      refine ⟨p, 0, hi, rfl, upd_same, ⟨by decide, by decide, (a28 h2).1, (a28 h2).2⟩, a4h (by rw [Int.sub_zero]; exact h3), fun l hl => ?_⟩
      have g3 : Grow Hs1 H1 Hs1 (upd (upd H1 p (.rng 0 hi)) l (.lst ((List.range (hi - 0).toNat).map fun k : Nat => V.int (0 + k)))) := .only sm ((a0M hp).trans (a0M hl))
      have hl2 : H1 l = none := (a0M hp).free hl
      refine q1 _ Hs1 _ g3 ⟨l, _, rfl, hl2, sm.free hl2, upd_same, _, rfl, ?_⟩
      unfold rng
      exact repL_map _ fun k => a0g.mpr rfl
    | _ => cases e1
theorem a7P : CallR X (.builtin "len") (fun xs H Q => ∃ a kvs, xs = [.ref a] ∧ H a = some (.dT kvs) ∧ Q (.int kvs.length) H) := fun pins s σ H xs us Q I r ⟨a, kvs, ex, h, q⟩ => by
  subst ex
  obtain ⟨u, rfl, ru⟩ := vals1 r
  cases ru
  obtain ⟨z, hd, xs, rel, o, es, ep, h1, h2, h3, h4, _⟩ := dt_of I.hok h
  have hsz : es.size = kvs.length := by rw [← Array.length_toList, h4, List.length_map, Paired.length rel]
  refine dk_len hd h1 h2 h3 (by rw [hsz]; rw [sizeLine_eq] at z; omega) fun t tk => ?_
  rw [hsz]
  exact ⟨.int kvs.length, H, I.tok tk, ⟨t, rfl⟩, q⟩
theorem a6U {i : Nat} {ρ : MEnv} {r : R} (h : a7C i ρ = some r) : ∃ o kvs, ρ[i]? = some (some (.own o)) ∧ o.core = .dic kvs ∧ r = .ok (.sh (.int kvs.length)) := by
  unfold a7C at h
  cases h1 : a2G i ρ with
  | none => rw [h1] at h; cases h
  | some p =>
    rw [h1] at h
    cases h
    obtain ⟨e1, e2⟩ := a2e (o := p.1) (kvs := p.2) h1
    exact ⟨p.1, p.2, e1, e2, rfl⟩
theorem pd_lenD {i : Nat} {x : Str} {p px : Pos} (hg : Gl X "len") (hm : X.mg "len" = none) (hv : PE X (.Name x px) (tVar i)) (hs : starEach [.Name x px] X.env = (false, eval (.Name x px) X.env) :: starEach [] X.env := by rfl) (hpl : (backTo pos (starEach [] X.env)).any (·.1) = false := by rfl) :
    PD X Γ W (.Call (.Name "len" p) [.Name x px] [] pos) (a7C i) :=
  PE.imp (pe_callB a7P hg hm PySem.boot_len (pa_cons hv pa_nil hs) (by decide) (by decide) hs hpl) fun _ _ σ H Q _ ⟨B0, B1, Hs, ρ, r, re, e, q⟩ => by
    obtain ⟨o, kvs, hd, ec, rfl⟩ := a6U e
    obtain ⟨a, ho, e1, e2, e3, e4, hq⟩ := re.own i _ hd
    have hq := hq.dic ec
    subst hq
    refine ⟨.ref a, e1, a, _, rfl, e4, ?_⟩
    have : (kvT kvs).length = kvs.length := List.length_map ..
    rw [this]
    exact q _ Hs H (.refl re.b.i) (RepS.of (a0g.mpr rfl))
end
end L3
namespace L3
open PySem PySem.Spec PyProof.Rows L2
section
variable {X : Cx} {Γ : Ct} {W : XW} {i : Nat}
theorem pd_frz {e : Expr} {g : ME} (h : PD X Γ W0 e g) : PD X Γ W0 e (eFrz i g) := PE.imp (pe_frz h) fun _ _ σ H Q _ ⟨B0, B1, Hs, ρ, r, re, e, q⟩ => by
  unfold eFrz at e
  cases h1 : a2G i ρ with
  | none => rw [h1] at e; cases e
  | some p =>
    rw [h1] at e
    dsimp only [Option.bind_some] at e
    obtain ⟨hd, ec⟩ := a2e (o := p.1) (kvs := p.2) h1
    obtain ⟨a, ho, e1, e2, e3, e4, hq⟩ := re.own i _ hd
    have hq := hq.dic ec
    subst hq
    refine ⟨a, _, e4, fun ob => ?_⟩
    have re' : RE Γ B0 B1 Hs (upd H a (.frz ob (.dT (kvT p.2)))) σ (ρ.set i (some (.own (.fdic p.2)))) := re.write hd e1 ⟨ob, rfl⟩
    have two : ∀ d c u, g (ρ.set i (some (.own (.fdic p.2)))) ≠ some (.ok (.two d c u)) := fun d c u z => by rw [z] at e; cases e
    have eg : g (ρ.set i (some (.own (.fdic p.2)))) = some r := by
      split at e
      · cases e
      · exact e
    refine ⟨B0, B1, Hs, _, r, re', eg, ?_⟩
    cases r with
    | exc x => exact fun Hs' H' _ => (q Hs H (.refl re.b.i)).elim
    | ok s =>
      intro v Hs' H' g' rs
      have ha : H' a = some (.frz ob (.dT (kvT p.2))) := g'.h a _ upd_same
      have hs : Hs' a = none := g'.none e3 upd_same
      have gg : Grow Hs H Hs' (upd H' a (.dT (kvT p.2))) := ⟨g'.s, fun b u z => by
        by_cases hb : b = a
        · subst hb; rw [e4] at z; cases z; exact upd_same
        · rw [upd_ne hb]; exact g'.h b u (by rw [upd_ne hb]; exact z), fun b u z => by
        rw [upd_ne (ne_of_none z hs)]; exact g'.i b u z, fun b u z => by
        have hb : b ≠ a := ne_of_none z hs
        rcases g'.n b u z with y | y
        · exact .inl y
        · rw [upd_ne hb] at y; exact .inr y⟩
      refine ⟨ha, q v Hs' _ gg ?_⟩
      cases s with
      | sh d => exact rs
      | two d c u => exact absurd eg (two d c u)
      | own u =>
        obtain ⟨c, hc, rfl, h0, h1, h2, qu⟩ := rs
        have hca : c ≠ a := fun z => by subst z; rw [upd_same] at h0; cases h0
        rw [upd_ne hca] at h0
        exact ⟨c, hc, rfl, h0, h1, by rw [upd_ne hca]; exact h2, qu⟩
variable {x : Str} {px pos : Pos} {k : Expr} {gk : ME}
theorem a7E {ρ : MEnv} {r : R} (h : eAtF i gk ρ = some r) : ∃ kvs ks v, ρ[i]? = some (some (.own (.fdic kvs))) ∧ gk ρ = okD (.tup (ks.map D.int)) ∧ getI kvs ks = some v ∧ r = .ok (.sh (.int v)) := by
  unfold eAtF at h
  cases h1 : a3J i ρ with
  | none => rw [h1] at h; cases h
  | some kvs =>
    rw [h1] at h
    dsimp only [Option.bind_some] at h
    cases h2 : a2B (gk ρ) with
    | none => rw [h2] at h; cases h
    | some ks =>
      rw [h2] at h
      dsimp only [Option.bind_some] at h
      cases h3 : getI kvs ks with
      | none => rw [h3] at h; cases h
      | some v => rw [h3] at h; cases h; exact ⟨kvs, ks, v, a3I h1, a2K h2, h3, rfl⟩
theorem pd_datF (hu : X.A.units + 1 < cLine) (hv : PE X (.Name x px) (tVar i)) (hk : PK X Γ k gk) (hs : NoSl k := by exact fun _ _ => rfl) : PD X Γ W (.Subscript (.Name x px) k pos) (eAtF i gk) :=
  PE.imp (a7k hu hv hk hs) fun _ _ σ H Q _ ⟨B0, B1, Hs, ρ, r, re, e, q⟩ => by
    obtain ⟨kvs, ks, v, hd, eg, gv, rfl⟩ := a7E e
    obtain ⟨a, ho, e1, e2, e3, e4, ob, hq⟩ := re.own i _ hd
    subst hq
    refine ⟨.ref a, e1, B0, B1, Hs, ρ, ks, re, eg, fun b H' sm eb => ⟨a, .int v, rfl, ?_, q _ Hs H' (.only re.b.i sm) (RepS.of (a0g.mpr rfl))⟩⟩
    have g : DGet H' a (.ref b) (valV (kvT kvs) (ks.map Sum.inl)) := .inr ⟨_, _, b, .inr ⟨ob, sm _ _ e4⟩, rfl, by rw [a46]; exact eb, rfl⟩
    rw [a4p, gv] at g
    exact g
inductive tBK (Γ : Ct) (js : List Nat) (v : V) (σ : L2.St) (H : Hp) (Q : L2.St → Hp → Prop) : Prop
  | mk (B0 B1 Hs : Hp) (ρ : MEnv) (ks : List Int) (ρ' : MEnv) (b : Addr) (re : RE Γ B0 B1 Hs H σ ρ) (ev : v = .ref b) (eb : H b = some (.tup (ks.map V.int))) (e : bTup js (.tup (ks.map D.int)) ρ = some ρ') (q : ∀ σ' : L2.St, RE Γ B0 B1 Hs H σ' ρ' → (∀ j : Nat, j ∉ js → σ'[j]? = σ[j]?) → Q σ' H)
theorem pbk_pair {j k : Nat} {x y : Str} {px py : Pos} {kt : Nat} (hc : X.calm = true) (hN : X.N.Nodup) (hj : X.N[j]? = some x) (hk : X.N[k]? = some y) (hx : Loc X.env.scope x) (hy : Loc X.env.scope y)
    (fx : X.fn x = true ∨ X.env.scope.names.lookup x = some .local := by first | exact .inl rfl | exact .inr rfl | assumption) (fy : X.fn y = true ∨ X.env.scope.names.lookup y = some .local := by first | exact .inl rfl | exact .inr rfl | assumption)
    (hn : (assignEach [.Name x px, .Name y py] X.env).length = 2 := by rfl) (hst : (assignEach [.Name x px, .Name y py] X.env).findIdx? (·.1) = none := by rfl)
    (hs1 : (assignEach [.Name x px, .Name y py] X.env).map (·.2) = assign (.Name x px) X.env :: (assignEach [.Name y py] X.env).map (·.2) := by rfl) (hs2 : (assignEach [.Name y py] X.env).map (·.2) = assign (.Name y py) X.env :: (assignEach [] X.env).map (·.2) := by rfl) :
    PG X (.Tuple [.Name x px, .Name y py] kt pos) (tBK Γ [j, k]) :=
  PG.imp (pg_tup hc (pgs_cons (pg_name hN hj hx fx) (pgs_cons (pg_name hN hk hy fy) pgs_nil hs2) hs1) hn hst) fun pins s v σ H Q I ⟨B0, B1, Hs, ρ, ks, ρ', b, re, ev, eb, e, q⟩ => by
    have lj : j < σ.length := by rw [I.len]; exact (List.getElem?_eq_some_iff.mp hj).1
    have lk : k < σ.length := by rw [I.len]; exact (List.getElem?_eq_some_iff.mp hk).1
    unfold bTup at e
    dsimp only at e
    split at e
    · rename_i hl
      cases e
      rw [List.length_map] at hl
      match ks, hl with
      | [n1, n2], _ =>
        subst ev
        refine ⟨b, [.int n1, .int n2], rfl, .inl (.inl eb), rfl, .int n1, [.int n2], rfl, .int n2, [], rfl, rfl, ?_⟩
        exact q _ ((re.setSh lj (a0g.mpr rfl)).setSh (by rw [List.length_set]; exact lk) (a0g.mpr rfl)) fun i hi => by
          rw [List.getElem?_set_ne fun z => hi (by simp [z]), List.getElem?_set_ne fun z => hi (by simp [z])]
    · cases e
variable {js : List Nat} {elt : ME}
theorem tD_compK (hij : i ∉ js) {σ : L2.St} {H : Hp} {Q : VK} (t : tD Γ W (a3Z i js elt) σ H Q) : a67 js (iDct i) (tBK Γ js) a6u (tD Γ W elt) σ H Q := by
  obtain ⟨B0, B1, Hs, ρ, r, re, e, q⟩ := t
  unfold a3Z at e
  cases hst : a3J i ρ with
  | none => rw [hst] at e; cases e
  | some kvs =>
    rw [hst] at e
    dsimp only [Option.bind_some] at e
    obtain ⟨c, ho, e1, e2, e3, e4, ob, hq⟩ := re.own i _ (a3I hst)
    subst hq
    have hlim : kvs.length ≤ lim := by
      by_cases z : kvs.length ≤ lim
      · exact z
      · rw [if_neg z] at e; cases e
    rw [if_pos hlim] at e
    have hkl : (kvT kvs).length = kvs.length := List.length_map ..
    refine ⟨c, ob, kvT kvs, e1, e4, fun a ha => ?_⟩
    have hs1 : Hs a = none := re.b.i.free ha
    have hb1 : B1 a = none := re.b.h.free ha
    have re1 : RE Γ B0 B1 Hs H (a1e js σ) (a0q js ρ) := re.sub (by rw [a2l, a00, re.len]) fun i s z => by
      obtain ⟨z1, z2⟩ := a0E js ρ i s z
      exact ⟨z2, a2m js σ i z1⟩
    have ap1 : ∀ (i : Nat) (o : O), (a0q js ρ)[i]? = some (some (.own o)) → (a1e js σ)[i]? ≠ some (some (.ref a)) := fun i o z z' => by
      obtain ⟨c, hc, f1, _, _, f4, _⟩ := re1.own i o z
      rw [z'] at f1
      cases f1
      rw [ha] at f4
      cases f4
    refine ⟨fun i m σ2 ys H2 => m = kvs.length - i ∧ i ≤ kvs.length ∧ ∃ Hs2 acc, Grow Hs H Hs2 H2 ∧ RE Γ B0 B1 Hs2 H2 σ2 (a0q js ρ) ∧ Hs2 a = none ∧
      (∀ (i : Nat) (o : O), (a0q js ρ)[i]? = some (some (.own o)) → σ2[i]? ≠ some (some (.ref a))) ∧ H2 a = some (.lst ys) ∧ RepL Γ Hs2 acc ys ∧ a1x (bTup js) a3c elt (a0q js ρ) ((kvs.map fun p => D.tup (p.1.map D.int)).drop i) acc = some r ∧ acc.length ≤ i, ⟨_, rfl, Nat.zero_le _, Hs, [], (Grow.refl re.b.i).other ha hs1, re1.other hs1 hb1 ap1, hs1, ap1, upd_same, .nil, e, Nat.zero_le _⟩, ?_⟩
    rintro i m σ2 ys H2 ⟨rfl, hi, Hs2, acc, g2, re2, ha2, ap, hy, rl, ec, hacc⟩
    refine ⟨hy, ?_⟩
    have hz := g2.h _ _ e4
    by_cases hlt : i < kvs.length
    · refine .inr ⟨⟨hz, by rw [hkl]; exact hlt⟩, fun x H3 y => ?_⟩
      obtain ⟨rfl, b, p, rfl, hp, hb⟩ := y
      have hp' : kvs[i]? = some kvs[i] := List.getElem?_eq_getElem hlt
      have ep : p.1.map kV = kvs[i].1.map V.int := by
        unfold kvT at hp
        rw [List.getElem?_map, hp'] at hp
        cases hp
        exact a46 _
      rw [ep] at hb
      have hd : (kvs.map fun p => D.tup (p.1.map D.int)).drop i = D.tup (kvs[i].1.map D.int) :: (kvs.map fun p => D.tup (p.1.map D.int)).drop (i + 1) := by
        rw [List.drop_eq_getElem_cons (by rw [List.length_map]; exact hlt), List.getElem_map]
      rw [hd] at ec
      unfold a1x at ec
      cases hbd : bTup js (D.tup (kvs[i].1.map D.int)) (a0q js ρ) with
      | none => rw [hbd] at ec; cases ec
      | some ρ1 =>
        rw [hbd] at ec
        dsimp only at ec
        obtain ⟨bl, bo⟩ := bdIn_tup js _ _ ρ1 hbd
        refine ⟨B0, B1, Hs2, a0q js ρ, _, ρ1, b, re2, rfl, hb, hbd, fun σ4 re4 hσ => ?_⟩
        have low : ∀ {Hs5 H5 : Hp}, RE Γ B0 B1 Hs5 H5 σ4 ρ1 → RE Γ B0 B1 Hs5 H5 σ4 (a0q js ρ) := fun r5 => r5.sub (by rw [← bl, r5.len]) fun k s z => by
          obtain ⟨z1, _⟩ := a0E js ρ k s z
          exact ⟨(bo k z1).trans z, rfl⟩
        have ap4 : ∀ (k : Nat) (o : O), (a0q js ρ)[k]? = some (some (.own o)) → σ4[k]? ≠ some (some (.ref a)) := fun k o z => by
          obtain ⟨z1, _⟩ := a0E js ρ k _ z
          rw [hσ k z1]
          exact ap k o z
        have ec2 : a0L (elt ρ1) (fun x => a1x (bTup js) a3c elt (a0q js ρ) ((kvs.map fun p => D.tup (p.1.map D.int)).drop (i + 1)) (acc ++ [x])) = some r := ec
        unfold a6u
        refine iteT ?_
        refine (a1h (k := fun x => a1x (bTup js) a3c elt (a0q js ρ) ((kvs.map fun p => D.tup (p.1.map D.int)).drop (i + 1)) (acc ++ [x])) re4 ec2 (q.grow g2)).mono fun v H6 ⟨Hs6, z, g6, re6, rp6, ec6, q6⟩ => ?_
        have ha6 := g6.none ha2 hy
        have hy6 := g6.h _ _ hy
        have hlen : acc.length = ys.length := rl.length
        have hbig : ys.length < sizeLine := Nat.lt_of_lt_of_le (by omega : ys.length < lim) (by decide)
        exact ⟨hy6, hbig, _, by omega, rfl, hlt, Hs6, acc ++ [z], (g2.trans g6).other ha ha6, (low re6).other ha6 hb1 ap4, ha6, ap4, upd_same, (rl.mono g6.s).append (.cons rp6 .nil), ec6, by rw [List.length_append, List.length_singleton]; omega⟩
    · have ei : i = kvs.length := by omega
      subst ei
      rw [List.drop_of_length_le (by rw [List.length_map]; exact Nat.le_refl _)] at ec
      unfold a1x at ec
      split at ec
      · cases ec
        exact .inl ⟨⟨hz, by rw [hkl]; exact Nat.le_refl _⟩, q _ Hs2 H2 g2 ⟨a, _, rfl, ha, ha2, hy, ys, rfl, rl⟩⟩
      · cases ec
theorem pd_compK {scope : Scope} {vars : List Str} {el tg : Expr} (hij : i ∉ js) (hc : a0Y scope X.env.scope vars = true) (hj : a2v X.N vars js = true) (hcalm : X.calm = true) (hv : PE X (.Name x px) (tVar i))
    (hg : ∀ fp s H a, PG (a01 X scope fp s H a) tg (tBK Γ js)) (he : ∀ fp s H a, PD (a01 X scope fp s H a) Γ W el elt) (hs : ∀ y, foldedSetIterable (.Name x px) X.env y = pure y := by intro _; rfl) :
    PD X Γ W (.ListComp el [⟨tg, .Name x px, [], 0⟩] scope pos) (a3Z i js elt) :=
  PE.imp (pe_comp hc hj hcalm (pi_dict hv) hg (fun _ _ _ _ => a5v) he hs) fun _ _ _ _ _ _ t => tD_compK hij t
end
end L3
namespace L3
open PySem
section
variable {ρ ρ' ρ1 : MEnv} {a b c : ME} {x y : MC} {o : Option Out} {s t : S} {r : Option R}
theorem a2w (h : x ρ = some (.ret s)) : sSeq x y ρ = some (.ret s) := by unfold sSeq; rw [h]
theorem a0e (h : x ρ = some (.next ρ')) (h2 : y ρ' = o) : sSeq x y ρ = o := by unfold sSeq; rw [h]; exact h2
theorem if_t {u v : MC} (h : c ρ = okB true) (h2 : u ρ = o) : sIf c u v ρ = o := by unfold sIf; rw [h]; exact h2
theorem if_f {u v : MC} (h : c ρ = okB false) (h2 : v ρ = o) : sIf c u v ρ = o := by unfold sIf; rw [h]; exact h2
theorem a0N {i : Nat} (h : a ρ = some (.ok s)) : sSet i a ρ = some (.next (ρ.set i (some s))) := by unfold sSet; rw [h]; rfl
theorem a1J (h : a ρ = some (.ok s)) : sRet a ρ = some (.ret s) := by unfold sRet; rw [h]; rfl
theorem a3r {i : Nat} (h : x (dem i ρ) = o) : sDem i x ρ = o := h
theorem a2O {i : Nat} {ds : List D} (h0 : ρ[i]? = some (some (.own (.lst ds)))) (h : a ρ = some (.ok s)) (hl : ds.length < lim) : a0Q i a ρ = some (.next (ρ.set i (some (.own (.lst (ds ++ [s.val])))))) := by
  unfold a0Q ownL; rw [h0]; dsimp only; rw [h]; dsimp only [a2Q]; rw [if_pos hl]
theorem a3z {it : MI} {bd : MB} {body : MC} {ds : List D} (h : it ρ = some (.ok ds)) (h2 : forD bd body ds ρ = o) : sFor it bd body ρ = o := by unfold sFor; rw [h]; exact h2
theorem a1v {np n : Nat} {g : MC} {ds : List D} (hl : ds.length = np) (h : g (a1I n ds) = some (.ret s)) : fnD np n g ds = some (.ok s) := by unfold fnD; rw [if_pos hl, h]; rfl
theorem a0f {f : D → D → Option R} (h1 : a ρ = some (.ok s)) (h2 : b ρ = some (.ok t)) (h3 : f s.val t.val = r) : eBin f a b ρ = r := by unfold eBin; rw [h1]; dsimp only [a0L]; rw [h2]; exact h3
theorem un_e {f : D → Option R} (h1 : a ρ = some (.ok s)) (h3 : f s.val = r) : eUn f a ρ = r := by unfold eUn; rw [h1]; exact h3
theorem a34 (h : a ρ = okB true) (h2 : b ρ = r) : eAnd a b ρ = r := by unfold eAnd; rw [h]; exact h2
theorem a2s (h : a ρ = okB false) : eAnd a b ρ = okB false := by unfold eAnd; rw [h]; rfl
theorem or_t (h : a ρ = okB true) : eOr a b ρ = okB true := by unfold eOr; rw [h]; rfl
theorem or_f (h : a ρ = okB false) (h2 : b ρ = r) : eOr a b ρ = r := by unfold eOr; rw [h]; exact h2
theorem not_e {z : Bool} (h : a ρ = okB z) : eNot a ρ = okB (!z) := by unfold eNot eUn; rw [h]; rfl
theorem a5E (h : a ρ = okB true) : eNot a ρ = okB false := not_e h
theorem a3t {F : List D → Option R} {e1 : ME} {s1 : S} (h1 : e1 ρ = some (.ok s1)) (h : F [s1.val] = r) : a0j F [e1] ρ = r := by unfold a0j a1W; rw [h1]; exact h
theorem a21 {F : List D → Option R} {e1 e2 : ME} {s1 s2 : S} (h1 : e1 ρ = some (.ok s1)) (h2 : e2 ρ = some (.ok s2)) (h : F [s1.val, s2.val] = r) : a0j F [e1, e2] ρ = r := by
  unfold a0j a1W; rw [h1]; dsimp only [a0L]; unfold a1W; rw [h2]; exact h
theorem a1f {F : List D → Option R} {e1 e2 e3 : ME} {s1 s2 s3 : S} (h1 : e1 ρ = some (.ok s1)) (h2 : e2 ρ = some (.ok s2)) (h3 : e3 ρ = some (.ok s3)) (h : F [s1.val, s2.val, s3.val] = r) : a0j F [e1, e2, e3] ρ = r := by
  unfold a0j a1W; rw [h1]; dsimp only [a0L]; unfold a1W; rw [h2]; dsimp only [a0L]; unfold a1W; rw [h3]; exact h
theorem tup2 {e1 e2 : ME} {s1 s2 : S} (h1 : e1 ρ = some (.ok s1)) (h2 : e2 ρ = some (.ok s2)) : eTup [e1, e2] ρ = okD (.tup [s1.val, s2.val]) := a21 h1 h2 rfl
theorem lenB {e1 : ME} {s1 : S} {n : Int} (h1 : e1 ρ = some (.ok s1)) (h : dLen s1.val = okI n) : a0m (f1 dLen) [e1] ρ = okI n := by
  have : a1W [e1] ρ (f1 dLen) = okI n := a3t (F := f1 dLen) h1 h
  unfold a0m; rw [this]; rfl
theorem a2P {i : Nat} {d : D} (h : ρ[i]? = some (some (.sh d))) : eVar i ρ = okD d := by unfold eVar; rw [h]
theorem a4c {i : Nat} (h : ρ[i]? = some (some s)) (hn : s.nd = true := by rfl) : eAny i ρ = okD s.val := by
  unfold eAny; rw [h]
  cases s with
  | sh d => rfl
  | own o => cases o with
    | lst _ => rfl
    | obj _ _ _ => rfl
    | dic _ => cases hn
    | par _ _ => cases hn
    | fdic _ => cases hn
  | two _ _ _ => cases hn
theorem a3x {ds : List D} (h : a ρ = some (.ok s)) (hi : a4C s.val = some ds) : iSeq a ρ = some (.ok ds) := by unfold iSeq; rw [h]; dsimp only; rw [hi]; rfl
theorem a23 {i : Int} (h : a ρ = okI i) (hr : a20 i = true) : a1t a ρ = some (.ok (rng 0 i)) := by unfold a1t iArg; rw [h]; dsimp only [S.val]; rw [if_pos hr]
theorem add_int (i j : Int) : dAdd (.int i) (.int j) = okI (i + j) := rfl
theorem sub_int (i j : Int) : dSub (.int i) (.int j) = okI (i - j) := rfl
theorem mul_int {i j : Int} (h : (a2R i || a2R j) = true) : dMul (.int i) (.int j) = okI (i * j) := by unfold dMul; exact if_pos h
theorem a2j {i j : Int} (h : 0 < j) : dMod (.int i) (.int j) = okI (i % j) := by unfold dMod; exact if_pos h
theorem a5Y {i : Int} (h1 : -(2 ^ 60) ≤ i) (h2 : i ≤ 2 ^ 60) : a2R i = true := by unfold a2R; simp; omega
theorem mulL {i j : Int} (h1 : -(2 ^ 60) ≤ i) (h2 : i ≤ 2 ^ 60) : dMul (.int i) (.int j) = okI (i * j) := mul_int (by rw [a5Y h1 h2]; rfl)
theorem mulR {i j : Int} (h1 : -(2 ^ 60) ≤ j) (h2 : j ≤ 2 ^ 60) : dMul (.int i) (.int j) = okI (i * j) := mul_int (by rw [a5Y h1 h2, Bool.or_true])
theorem ix_tup {ds : List D} {d : D} {n : Nat} (h : ds[n]? = some d) : dIx (.tup ds) (.int n) = okD d := by
  have hn : n < ds.length := (List.getElem?_eq_some_iff.mp h).1
  show (atD ds (n : Int)).bind okD = _
  unfold atD ixD
  rw [if_pos (by omega), if_pos (by omega)]
  simp [h]
theorem a09 {ds : List D} {d : D} {n : Nat} (h : ds[n]? = some d) : dIx (.lst ds) (.int n) = okD d := ix_tup h
theorem rng0 (n : Nat) : rng 0 n = (List.range n).map fun k : Nat => D.int k := by
  unfold rng
  rw [Int.sub_zero, Int.toNat_natCast]
  exact List.map_congr_left fun k _ => by rw [Int.zero_add]
theorem a1q {n : Nat} (h : n ≤ 1000000) : a20 (n : Int) = true := by unfold a20; simp; omega
theorem a6k {bd : MB} {body : MC} (Iv : Nat → MEnv → Prop) : ∀ (ds : List D) (i : Nat) (ρ : MEnv), Iv i ρ → (∀ (k : Nat) (ρ : MEnv) (d : D), ds[k]? = some d → Iv (i + k) ρ → ∃ ρ1 ρ2, bd d ρ = some ρ1 ∧ body ρ1 = some (.next ρ2) ∧ Iv (i + k + 1) ρ2) →
    ∃ ρ', forD bd body ds ρ = some (.next ρ') ∧ Iv (i + ds.length) ρ'
  | [], i, ρ, h, _ => ⟨ρ, rfl, h⟩
  | d :: ds, i, ρ, h, hs => by
    obtain ⟨ρ1, ρ2, e1, e2, h2⟩ := hs 0 ρ d rfl h
    obtain ⟨ρ', e3, h3⟩ := a6k Iv ds (i + 1) ρ2 h2 fun k ρ d' e hk => by
      obtain ⟨r1, r2, f1, f2, f3⟩ := hs (k + 1) ρ d' (by simpa using e) (by rw [show i + (k + 1) = i + 1 + k by omega]; exact hk)
      exact ⟨r1, r2, f1, f2, by rw [show i + 1 + k + 1 = i + (k + 1) + 1 by omega]; exact f3⟩
    refine ⟨ρ', ?_, by rw [List.length_cons, show i + (ds.length + 1) = i + 1 + ds.length by omega]; exact h3⟩
    unfold forD
    rw [e1]
    dsimp only
    rw [e2]
    exact e3
theorem a3q {bd : MB} {body : MC} (Iv : Nat → MEnv → Prop) (n : Nat) (h0 : Iv 0 ρ) (hs : ∀ (k : Nat) (ρ : MEnv), k < n → Iv k ρ → ∃ ρ1 ρ2, bd (.int k) ρ = some ρ1 ∧ body ρ1 = some (.next ρ2) ∧ Iv (k + 1) ρ2) :
    ∃ ρ', forD bd body (rng 0 n) ρ = some (.next ρ') ∧ Iv n ρ' := by
  obtain ⟨ρ', e, h⟩ := a6k (bd := bd) (body := body) Iv (rng 0 n) 0 ρ h0 fun k ρ d e hk => by
    rw [rng0, List.getElem?_map] at e
    have hk' : k < n := by
      by_cases z : k < n
      · exact z
      · rw [List.getElem?_eq_none (by rw [List.length_range]; omega)] at e; cases e
    rw [List.getElem?_range hk'] at e
    cases e
    rw [Nat.zero_add] at hk ⊢
    exact hs k ρ hk' hk
  rw [Nat.zero_add, rng0, List.length_map, List.length_range] at h
  exact ⟨ρ', e, h⟩
end
inductive a35 : Nat → D → Prop
  | non (n) : a35 n .non
  | bl (n b) : a35 n (.bl b)
  | int (n i) : a35 n (.int i)
  | str (n x) : a35 n (.str x)
  | tup (n ds) : (∀ d ∈ ds, a35 n d) → ds.length ≤ lim → a35 (n + 1) (.tup ds)
  | lst (n ds) : (∀ d ∈ ds, a35 n d) → ds.length ≤ lim → a35 (n + 1) (.lst ds)
theorem a35.mono : ∀ {n m : Nat} {d : D}, a35 n d → n ≤ m → a35 m d := by
  intro n m d h
  induction h generalizing m with
  | non n => exact fun _ => .non m
  | bl n b => exact fun _ => .bl m b
  | int n i => exact fun _ => .int m i
  | str n x => exact fun _ => .str m x
  | tup n ds hd hl ih =>
    intro hm
    obtain ⟨k, rfl⟩ : ∃ k, m = k + 1 := ⟨m - 1, by omega⟩
    exact .tup k ds (fun d hd => ih d hd (by omega)) hl
  | lst n ds hd hl ih =>
    intro hm
    obtain ⟨k, rfl⟩ : ∃ k, m = k + 1 := ⟨m - 1, by omega⟩
    exact .lst k ds (fun d hd => ih d hd (by omega)) hl
theorem a5P (i : Str) : dEq (.str i) (.str i) = okB true := by unfold dEq eqF; simp
end L3
namespace L3
open PySem
section
variable {ρ ρ' ρ1 : MEnv} {a b c : ME}
theorem a4G {α : Type} {bd : MB} {cond elt : ME} {g : α → D} {f : α → D} {p : α → Bool} : ∀ (xs : List α) (acc : List D), (∀ x ∈ xs, ∃ ρ1, bd (g x) ρ = some ρ1 ∧ cond ρ1 = okB (p x) ∧ (p x = true → ∃ s, elt ρ1 = some (.ok s) ∧ s.val = f x)) → acc.length + xs.length ≤ lim → a1x bd cond elt ρ (xs.map g) acc = okL (acc ++ (xs.filter p).map f)
  | [], acc, _, hl => by
    rw [List.map_nil]
    unfold a1x
    rw [if_pos (by simpa using hl)]
    simp
  | x :: xs, acc, h, hl => by
    obtain ⟨ρ1, e1, e2, e3⟩ := h x List.mem_cons_self
    rw [List.map_cons]
    unfold a1x
    rw [e1]
    dsimp only
    rw [e2]
    show (if p x = true then (a0L (elt ρ1) fun y => a1x bd cond elt ρ (xs.map g) (acc ++ [y])) else a1x bd cond elt ρ (xs.map g) acc) = _
    rw [List.length_cons] at hl
    by_cases hp : p x = true
    · obtain ⟨s, e4, e5⟩ := e3 hp
      rw [if_pos hp, e4]
      show a1x bd cond elt ρ (xs.map g) (acc ++ [s.val]) = _
      rw [e5, a4G xs (acc ++ [f x]) (fun y hy => h y (List.mem_cons_of_mem _ hy)) (by rw [List.length_append, List.length_singleton]; omega)]
      simp [hp]
    · rw [if_neg hp, a4G xs acc (fun y hy => h y (List.mem_cons_of_mem _ hy)) (by omega)]
      simp [hp]
theorem a5S {α : Type} {js : List Nat} {it : MI} {bd : MB} {cond elt : ME} (xs : List α) (g : α → D) (p : α → Bool) (f : α → D) (hi : it ρ = some (.ok (xs.map g))) (hl : xs.length ≤ lim)
    (h : ∀ x ∈ xs, ∃ ρ1, bd (g x) (a0q js ρ) = some ρ1 ∧ cond ρ1 = okB (p x) ∧ (p x = true → ∃ s, elt ρ1 = some (.ok s) ∧ s.val = f x)) : a3a js it bd cond elt ρ = okL ((xs.filter p).map f) := by
  unfold a3a
  rw [hi]
  dsimp only
  rw [if_pos (by rw [List.length_map]; exact hl), a4G xs [] h (by simpa using hl)]
  rfl
theorem comp_all {α : Type} {js : List Nat} {it : MI} {bd : MB} {elt : ME} (xs : List α) (g : α → D) (f : α → D) (hi : it ρ = some (.ok (xs.map g))) (hl : xs.length ≤ lim)
    (h : ∀ x ∈ xs, ∃ ρ1, bd (g x) (a0q js ρ) = some ρ1 ∧ ∃ s, elt ρ1 = some (.ok s) ∧ s.val = f x) : a3a js it bd a3c elt ρ = okL (xs.map f) := by
  rw [a5S xs g (fun _ => true) f hi hl fun x hx => ?_]
  · rw [List.filter_eq_self.mpr (fun _ _ => rfl)]
  · obtain ⟨ρ1, e1, e2⟩ := h x hx
    exact ⟨ρ1, e1, rfl, fun _ => e2⟩
theorem rngN (lo : Nat) (hi : Nat) : rng lo hi = (List.range (hi - lo)).map fun k : Nat => D.int (lo + k : Nat) := by
  unfold rng
  have : ((hi : Int) - (lo : Int)).toNat = hi - lo := by omega
  rw [this]
  exact List.map_congr_left fun k _ => by congr 1
theorem a7b {i j : Int} (h0 : 0 ≤ j) (h1 : j ≤ 1000000) (h2 : i.natAbs < 2 ^ 64) : dShl (.int i) (.int j) = okI (i * 2 ^ j.toNat) := by unfold dShl; exact if_pos ⟨h0, h1, h2⟩
theorem shr_nat (i j : Nat) : dShr (.int i) (.int j) = okI ((i >>> j : Nat) : Int) := by
  show (if (0 : Int) ≤ (j : Int) then okI ((i : Int) / 2 ^ (j : Int).toNat) else none) = _
  rw [if_pos (by omega), Int.toNat_natCast, Nat.shiftRight_eq_div_pow, Int.natCast_ediv, Int.natCast_pow]
  rfl
theorem a6t (i j : Nat) : a3s (.int i) (.int j) = okI ((i &&& j : Nat) : Int) := by
  show (if 0 ≤ (i : Int) ∧ 0 ≤ (j : Int) then okI (((i : Int).toNat &&& (j : Int).toNat : Nat) : Int) else none) = _
  rw [if_pos (by omega), Int.toNat_natCast, Int.toNat_natCast]
theorem a7R (i j : Nat) : dBor (.int i) (.int j) = okI ((i ||| j : Nat) : Int) := by
  show (if 0 ≤ (i : Int) ∧ 0 ≤ (j : Int) then okI (((i : Int).toNat ||| (j : Int).toNat : Nat) : Int) else none) = _
  rw [if_pos (by omega), Int.toNat_natCast, Int.toNat_natCast]
theorem and1 (w k : Nat) : (w >>> k &&& 1) = (w.testBit k).toNat := by
  unfold Nat.testBit
  rw [Nat.and_comm]
  have h : 1 &&& w >>> k = (w >>> k) % 2 := by rw [Nat.and_comm, Nat.and_one_is_mod]
  rw [h]
  have : (w >>> k) % 2 = 0 ∨ (w >>> k) % 2 = 1 := by omega
  rcases this with e | e <;> rw [e] <;> rfl
theorem bit_e {w k : Nat} {a b : ME} (h1 : a ρ = okI w) (h2 : b ρ = okI k) : eBin a3s (eBin dShr a b) (eC (.int 1)) ρ = okI ((w.testBit k).toNat : Int) := by
  rw [← and1]
  exact a0f (a0f h1 h2 (shr_nat w k)) rfl (a6t _ 1)
theorem bit_eq0 {w k : Nat} {a b : ME} (h1 : a ρ = okI w) (h2 : b ρ = okI k) : eBin dEq (eBin a3s (eBin dShr a b) (eC (.int 1))) (eC (.int 0)) ρ = okB (!w.testBit k) := by
  refine a0f (bit_e h1 h2) rfl ?_
  cases w.testBit k <;> rfl
theorem lt_d (i j : Int) : dLt (.int i) (.int j) = okB (decide (i < j)) := rfl
theorem gt_d (i j : Int) : dGt (.int i) (.int j) = okB (decide (j < i)) := rfl
theorem eq_d (i j : Int) : dEq (.int i) (.int j) = okB (decide (i = j)) := rfl
theorem ne_d (i j : Int) : dNe (.int i) (.int j) = okB (!decide (i = j)) := rfl
theorem lt_t {i j : Int} (h : i < j) : dLt (.int i) (.int j) = okB true := by rw [lt_d, decide_eq_true h]
theorem lt_f {i j : Int} (h : ¬ i < j) : dLt (.int i) (.int j) = okB false := by rw [lt_d, decide_eq_false h]
theorem gt_t {i j : Int} (h : j < i) : dGt (.int i) (.int j) = okB true := by rw [gt_d, decide_eq_true h]
theorem gt_f {i j : Int} (h : ¬ j < i) : dGt (.int i) (.int j) = okB false := by rw [gt_d, decide_eq_false h]
theorem eq_t {i j : Int} (h : i = j) : dEq (.int i) (.int j) = okB true := by rw [eq_d, decide_eq_true h]
theorem eq_f {i j : Int} (h : ¬ i = j) : dEq (.int i) (.int j) = okB false := by rw [eq_d, decide_eq_false h]
theorem ne_t {i j : Int} (h : ¬ i = j) : dNe (.int i) (.int j) = okB true := by rw [ne_d, decide_eq_false h]; rfl
theorem ne_f {i j : Int} (h : i = j) : dNe (.int i) (.int j) = okB false := by rw [ne_d, decide_eq_true h]; rfl
theorem a7Q {F : List D → Option R} {e1 e2 e3 e4 : ME} {s1 s2 s3 s4 : S} {r : Option R} (h1 : e1 ρ = some (.ok s1)) (h2 : e2 ρ = some (.ok s2)) (h3 : e3 ρ = some (.ok s3)) (h4 : e4 ρ = some (.ok s4)) (h : F [s1.val, s2.val, s3.val, s4.val] = r) : a0j F [e1, e2, e3, e4] ρ = r := by
  unfold a0j a1W; rw [h1]; dsimp only [a0L]; unfold a1W; rw [h2]; dsimp only [a0L]; unfold a1W; rw [h3]; dsimp only [a0L]; unfold a1W; rw [h4]; exact h
theorem a6o {i j : Int} (h : 0 < j) (h2 : j < 1073741824) : a5d (.int i) (.int j) = okI (i / j) := by unfold a5d; exact if_pos ⟨h, h2⟩
theorem ix_l0 {d : D} {ds : List D} : dIx (.lst (d :: ds)) (.int 0) = okD d := a09 (n := 0) rfl
theorem ix_l1 {d e : D} {ds : List D} : dIx (.lst (d :: e :: ds)) (.int 1) = okD e := a09 (n := 1) rfl
theorem ix_l2 {d e f : D} {ds : List D} : dIx (.lst (d :: e :: f :: ds)) (.int 2) = okD f := a09 (n := 2) rfl
theorem ix_t0 {d : D} {ds : List D} : dIx (.tup (d :: ds)) (.int 0) = okD d := ix_tup (n := 0) rfl
theorem a3o {d e : D} {ds : List D} : dIx (.tup (d :: e :: ds)) (.int 1) = okD e := ix_tup (n := 1) rfl
theorem a6S {d e f : D} {ds : List D} : dIx (.tup (d :: e :: f :: ds)) (.int 2) = okD f := ix_tup (n := 2) rfl
theorem a53 {a b : ME} {ρ : MEnv} {i j : Int} (h : a ρ = okI i) (h2 : b ρ = okI j) (hr : a20 i = true) (hr2 : a20 j = true) : a1V a b ρ = some (.ok (rng i j)) := by
  unfold a1V iArg
  rw [h]; dsimp only [S.val]; rw [h2]; dsimp only [S.val]; rw [if_pos ⟨hr, hr2⟩]
theorem a5b {α : Type} {bd : MB} {body : MC} (g : α → D) (Iv : List α → MEnv → Prop) : ∀ (xs pre : List α) (ρ : MEnv), Iv pre ρ → (∀ (q : List α) (x : α) (post : List α) (ρ : MEnv), pre ++ xs = q ++ x :: post → Iv q ρ → ∃ ρ1 ρ2, bd (g x) ρ = some ρ1 ∧ (body ρ1 = some (.next ρ2) ∨ body ρ1 = some (.cont ρ2)) ∧ Iv (q ++ [x]) ρ2) →
    ∃ ρ', forD bd body (xs.map g) ρ = some (.next ρ') ∧ Iv (pre ++ xs) ρ'
  | [], pre, ρ, h, _ => ⟨ρ, rfl, by simpa using h⟩
  | x :: xs, pre, ρ, h, hs => by
    obtain ⟨ρ1, ρ2, e1, e2, h2⟩ := hs pre x xs ρ rfl h
    obtain ⟨ρ', e3, h3⟩ := a5b g Iv xs (pre ++ [x]) ρ2 h2 fun q y post ρ hy hi => hs q y post ρ (by rw [← hy]; simp) hi
    refine ⟨ρ', ?_, by simpa using h3⟩
    rw [List.map_cons]
    unfold forD
    rw [e1]
    dsimp only
    rcases e2 with e2 | e2 <;> rw [e2] <;> exact e3
theorem a2n {α : Type} {bd : MB} {body : MC} (g : α → D) (Iv : List α → MEnv → Prop) (xs : List α) {ρ : MEnv} (h0 : Iv [] ρ) (hs : ∀ (q : List α) (x : α) (post : List α) (ρ : MEnv), xs = q ++ x :: post → Iv q ρ → ∃ ρ1 ρ2, bd (g x) ρ = some ρ1 ∧ (body ρ1 = some (.next ρ2) ∨ body ρ1 = some (.cont ρ2)) ∧ Iv (q ++ [x]) ρ2) :
    ∃ ρ', forD bd body (xs.map g) ρ = some (.next ρ') ∧ Iv xs ρ' := by
  have := a5b (bd := bd) (body := body) g Iv xs [] ρ h0 (by simpa using hs)
  simpa using this
end
end L3
namespace L3
open PySem
section
variable {ρ : MEnv} {a b e1 e2 e3 e4 : ME} {s s1 s2 s3 s4 : S} {o o1 : O} {r : Option O} {q : Option R} {F : a5n} {c : String} {f m : Str} {ns : List Str} {ds : List D} {cs : List String}
theorem ifE_t (h : a ρ = okB true) (h2 : e1 ρ = q) : eIf a e1 e2 ρ = q := by unfold eIf; rw [h]; exact h2
theorem ifE_f (h : a ρ = okB false) (h2 : e2 ρ = q) : eIf a e1 e2 ρ = q := by unfold eIf; rw [h]; exact h2
theorem callB_e {G : List D → Option R} {as : List ME} {d : D} (h : a1W as ρ G = okD d) (hf : flat d = true) : a0m G as ρ = okD d := by
  unfold a0m; rw [h]; show (if flat d = true then okD d else none) = _; rw [if_pos hf]
theorem eq_strt {x y : Str} (h : x = y) : dEq (.str x) (.str y) = okB true := by subst h; exact a5P x
theorem eq_strf {x y : Str} (h : x ≠ y) : dEq (.str x) (.str y) = okB false := by unfold dEq eqF; simp [h]
end
end L3
namespace Bell
open PySem L3
noncomputable section
def a5J : MC :=
 (sRet (eAnd (eUn (dIsT "int") (eVar 0)) (eNot (eUn (dIsT "bool") (eVar 0)))))
def a0J : List D → Option R := fnD 1 1 a5J
def a6N : MC :=
 (sSeq (sIf (eNot (eUn (dIsT "list") (eVar 1))) (sRet (eC (.bl false))) a0G) (sSeq (sFor (iSeq (eVar 1)) (a0F 2) (sSeq (sIf (eOr (eNot (eUn (dIsT "tuple") (eVar 2))) (eBin dNe (a0m (f1 dLen) [(eAny 2)]) (eC (.int 3)))) (sRet (eC (.bl false))) a0G) (sSeq (sIf (eOr (eNot (a0j a0J [(eBin dIx (eVar 2) (eC (.int 0)))])) (eOr (eNot (a0j a0J [(eBin dIx (eVar 2) (eC (.int 1)))])) (eNot (a0j a0J [(eBin dIx (eVar 2) (eC (.int 2)))])))) (sRet (eC (.bl false))) a0G) (sIf (eOr (eBin dLt (eBin dIx (eVar 2) (eC (.int 0))) (eC (.int 0))) (eOr (eBin dGe (eBin dIx (eVar 2) (eC (.int 0))) (a0m (f1 dLen) [(eBin dIx (eVar 0) (eC (.int 1)))])) (eOr (eBin dLt (eBin dIx (eVar 2) (eC (.int 1))) (eC (.int 0))) (eBin dLt (eBin dIx (eVar 2) (eC (.int 2))) (eC (.int 0)))))) (sRet (eC (.bl false))) a0G)))) (sRet (eC (.bl true)))))
def a2L : List D → Option R := fnD 2 3 a6N
def a45 : MC :=
 (sSeq (sIf (eNot (a0j a2L [(eVar 0), (eVar 1)])) (sRet (eC (.bl false))) a0G) (sSeq (sNewT 2) (sSeq (sFor (iSeq (eVar 1)) (a0F 3) (a4S 2 (eTup [(eBin dIx (eVar 3) (eC (.int 0))), (eBin dIx (eVar 3) (eC (.int 1)))]) (eBin dIx (eVar 3) (eC (.int 2))))) (sSeq (sIf (eOr (eBin dNe (a7C 2) (a0m (f1 dLen) [(eAny 1)])) (eHas true 2 (eTup [(eC (.int 0)), (eC (.int 0))]))) (sRet (eC (.bl false))) a0G) (sSeq (sSet 4 (eBin dIx (eVar 0) (eC (.int 1)))) (sSeq (sFor (iSeq (eVar 1)) (bTup [5, 6, 7]) (sSeq (sSet 8 (a3a [12] (iSeq (eBin dIx (eBin dIx (eVar 4) (eVar 5)) (eC (.int 2)))) (a0F 12) a3c (eBin dIx (eVar 12) (eC (.int 1))))) (sSeq (sIf (eBin dEq (eVar 5) (eC (.int 0))) (a0Q 8 (eC (.int 0))) a0G) (sDem 8 (sFor (iSeq (eVar 8)) (a0F 9) (sSeq (sSet 10 (eBin dBor (eVar 6) (eVar 9))) (sFor (a1V (eC (.int 1)) (a0m (f1 dLen) [(eAny 4)])) (a0F 11) (sIf (eAnd (eBin dGt (eBin dIx (eBin dIx (eVar 4) (eVar 11)) (eC (.int 1))) (eBin dIx (eBin dIx (eVar 4) (eVar 5)) (eC (.int 1)))) (eBin dEq (eBin a3s (eBin dShr (eVar 10) (eVar 11)) (eC (.int 1))) (eC (.int 0)))) (sIf (eOr (eHas true 2 (eTup [(eVar 11), (eVar 10)])) (eBin dGe (eAt 2 (eTup [(eVar 11), (eVar 10)])) (eVar 7))) (sRet (eC (.bl false))) a0G) a0G)))))))) (sRet (eC (.bl true)))))))))
def a1a : List D → Option R := fnD 2 13 a45
def a6P : MC :=
 (sSeq (sSet 3 (eC (.int 0))) (sSeq (sIf (eBin dGt (a0m (f1 dLen) [(eAny 0)]) (eC (.int 0))) (sSet 3 (eBin dMod (eBin dIx (eVar 0) (eBin dMod (eVar 1) (a0m (f1 dLen) [(eAny 0)]))) (eC (.int 1000003)))) a0G) (sRet (eBin dMod (eBin a5d (eBin dMod (eBin dMul (eBin dMod (eBin dMul (eBin dAdd (eVar 3) (eC (.int 1))) (eBin dAdd (eBin dAdd (eBin dMul (eVar 1) (eVar 1)) (eVar 1)) (eC (.int 41)))) (eC (.int 999983))) (eC (.int 48271))) (eC (.int 2147483647))) (eC (.int 11))) (eVar 2)))))
def a0i : List D → Option R := fnD 3 4 a6P
def a44 : MC :=
 (sSeq (sSet 2 (a0j a0i [(eVar 0), (eVar 1), (eC (.int 2000))])) (sSeq (sSet 3 (eLst [(eBin dSub (eBin dMod (eVar 2) (eC (.int 7))) (eC (.int 3))), (eBin dSub (eBin dPow (eC (.int 10)) (eC (.int 9))) (eBin dMod (eVar 2) (eC (.int 5)))), (eBin dSub (eBin dMod (eVar 2) (eC (.int 5))) (eBin dPow (eC (.int 10)) (eC (.int 9)))), (eBin dMul (eVar 2) (eC (.int 499999)))])) (sDem 3 (sRet (eBin dIx (eVar 3) (a0j a0i [(eVar 0), (eBin dAdd (eVar 1) (eC (.int 4000))), (eC (.int 4))]))))))
def a0x : List D → Option R := fnD 2 4 a44
def a5K : MC :=
 (sSeq (sSet 1 (eLst [])) (sSeq (sFor (a1t (eBin dIx (eLst [(eC (.int 1)), (eC (.int 2)), (eC (.int 3)), (eC (.int 3)), (eC (.int 4)), (eC (.int 4)), (eC (.int 5)), (eC (.int 8))]) (a0j a0i [(eVar 0), (eC (.int 3)), (eC (.int 8))]))) (a0F 2) (sSeq (sSet 3 (eLst [(a0j a0x [(eVar 0), (eBin dAdd (eC (.int 10)) (eBin dMul (eC (.int 4)) (eVar 2)))]), (a0j a0x [(eVar 0), (eBin dAdd (eC (.int 11)) (eBin dMul (eC (.int 4)) (eVar 2)))])])) (sSeq (sSet 4 (eBin dAdd (eC (.int 1)) (a0j a0i [(eVar 0), (eBin dAdd (eC (.int 12)) (eBin dMul (eC (.int 4)) (eVar 2))), (eC (.int 2))]))) (sDem 3 (a0Q 1 (eTup [(eBin a6V (eBin dIx (eC (.str "abcdefgh")) (eVar 2)) (eVar 4)), (a0j (f1 a2F) [(a3Y (eVar 3) none (some (eVar 4)))])])))))) (sDem 1 (sRet (a0j (f1 a2F) [(eVar 1)])))))
def a2p : List D → Option R := fnD 1 5 a5K
def a6Q : MC :=
 (sSeq (sSet 3 (eLst [(eC (.str "put")), (eC (.str "copy")), (eC (.str "grow")), (eC (.str "tick")), (eC (.str "still")), (eC (.str "is")), (eC (.str "most")), (eC (.str "none")), (eC (.str "anew")), (eC (.str "grow")), (eC (.str "put")), (eC (.str "anew"))])) (sDem 3 (sSeq (sSet 4 (eBin dIx (eVar 3) (a0j a0i [(eVar 1), (eVar 2), (eC (.int 12))]))) (sSeq (sSet 5 (a0j a0i [(eVar 1), (eBin dAdd (eVar 2) (eC (.int 1))), (a0m (f1 dLen) [(eAny 0)])])) (sSeq (sSet 6 (a0m (f1 dLen) [(eBin dIx (eBin dIx (eVar 0) (eVar 5)) (eC (.int 1)))])) (sSeq (sSet 7 (a3a [11] (a1t (a0m (f1 dLen) [(eAny 0)])) (a0F 11) (eBin dEq (a0m (f1 dLen) [(eBin dIx (eBin dIx (eVar 0) (eVar 11)) (eC (.int 1)))]) (eVar 6)) (eVar 11))) (sDem 7 (sSeq (sSet 8 (eBin dIx (eVar 7) (a0j a0i [(eVar 1), (eBin dAdd (eVar 2) (eC (.int 2))), (a0m (f1 dLen) [(eAny 7)])]))) (sSeq (sSet 9 (a3a [11] (a1t (a0m (f1 dLen) [(eAny 0)])) (a0F 11) (eAnd (eBin dEq (a0m (f1 dLen) [(eBin dIx (eBin dIx (eVar 0) (eVar 11)) (eC (.int 1)))]) (eC (.int 1))) (eAnd (eBin dNe (eVar 11) (eVar 5)) (eBin dNe (eVar 11) (eVar 8)))) (eVar 11))) (sSeq (sSet 10 (a0j a0x [(eVar 1), (eBin dAdd (eVar 2) (eC (.int 3)))])) (sSeq (sIf (eBin dEq (eVar 4) (eC (.str "put"))) (sRet (eTup [(eC (.str "put")), (eVar 5), (a0j (f1 a2F) [(a3Y (eLst [(eVar 10), (eUn dNeg (eVar 10))]) none (some (eVar 6)))])])) a0G) (sSeq (sIf (eAnd (eBin dEq (eVar 4) (eC (.str "copy"))) (eBin dNe (eVar 5) (eVar 8))) (sRet (eTup [(eC (.str "copy")), (eVar 5), (eVar 8)])) a0G) (sSeq (sIf (eBin dEq (eVar 4) (eC (.str "grow"))) (sRet (eTup [(eC (.str "grow")), (eVar 5), (eVar 10)])) a0G) (sSeq (sIf (eAnd (eBin dEq (eVar 4) (eC (.str "tick"))) (eBin dEq (eVar 6) (eC (.int 1)))) (sRet (eTup [(eC (.str "tick")), (eVar 5)])) a0G) (sSeq (sIf (eOr (eBin dEq (eVar 4) (eC (.str "is"))) (eBin dEq (eVar 4) (eC (.str "most")))) (sRet (eTup [(eVar 4), (eVar 5), (eVar 8), (eVar 10)])) a0G) (sSeq (sIf (eBin dEq (eVar 4) (eC (.str "none"))) (sRet (eTup [(eC (.str "none")), (eVar 5)])) a0G) (sSeq (sIf (eAnd (eBin dEq (eVar 4) (eC (.str "anew"))) (eAnd (eBin dNe (eVar 5) (eVar 8)) (eBin dGt (a0m (f1 dLen) [(eAny 9)]) (eC (.int 0))))) (sDem 9 (sRet (eTup [(eC (.str "anew")), (eVar 5), (eVar 8), (eBin dIx (eVar 9) (a0j a0i [(eVar 1), (eBin dAdd (eVar 2) (eC (.int 4))), (a0m (f1 dLen) [(eAny 9)])]))]))) a0G) (sRet (eTup [(eC (.str "still")), (eBin dAdd (eC (.int 1)) (a0j a0i [(eVar 1), (eBin dAdd (eVar 2) (eC (.int 5))), (eC (.int 9))]))])))))))))))))))))))
def a1H : List D → Option R := fnD 3 12 a6Q
def a6O : MC :=
 (sSeq (sSet 2 (a0j a0i [(eVar 0), (eBin dAdd (eC (.int 60)) (eVar 1)), (eC (.int 9))])) (sRet (eBin dIx (eLst [(eBin dAdd (eC (.int 1)) (eVar 2)), (eBin dAdd (eVar 1) (eBin a5d (eVar 2) (eC (.int 3)))), (eBin dSub (eC (.int 9)) (eVar 1)), (eBin dAdd (eC (.int 1)) (eBin a5d (eVar 2) (eC (.int 3))))]) (a0j a0i [(eVar 0), (eC (.int 4)), (eC (.int 4))]))))
def a2d : List D → Option R := fnD 2 3 a6O
def a6M : MC :=
 (sSeq (sSet 3 (a0j a0i [(eVar 0), (eVar 1), (eBin dShl (eC (.int 1)) (eVar 2))])) (sSeq (sSet 4 (a0j a0i [(eVar 0), (eBin dAdd (eVar 1) (eC (.int 1))), (eBin dShl (eC (.int 1)) (eVar 2))])) (sRet (eBin dShl (eBin dIx (eLst [(eC (.int 0)), (eBin a3s (eVar 3) (eVar 4)), (eVar 3)]) (a0j a0i [(eVar 0), (eC (.int 5)), (eC (.int 3))])) (eC (.int 1))))))
def a1G : List D → Option R := fnD 3 5 a6M
def a4A : MC :=
 (sSeq (sSet 2 (a0j a2p [(eVar 0)])) (sSeq (sSet 3 (a0j a0i [(eVar 0), (eC (.int 6)), (eC (.int 7))])) (sSeq (sSet 4 (eLst [])) (sSeq (sFor (a1t (eBin dAdd (eVar 3) (eC (.int 1)))) (a0F 5) (sSeq (sSet 6 (eLst [])) (sSeq (sFor (a1t (eBin dAdd (eC (.int 1)) (a0j a0i [(eVar 0), (eBin dAdd (eC (.int 70)) (eVar 5)), (eVar 1)]))) (a0F 7) (sSeq (sSet 8 (eBin dAdd (eBin dAdd (eC (.int 100)) (eBin dMul (eC (.int 200)) (eVar 5))) (eBin dMul (eC (.int 12)) (eVar 7)))) (a0Q 6 (eTup [(a0j a1H [(eVar 2), (eVar 0), (eVar 8)]), (a0j a1G [(eVar 0), (eBin dAdd (eVar 8) (eC (.int 7))), (eVar 3)])])))) (sIf (eBin dEq (eVar 5) (eC (.int 0))) (sDem 6 (a0Q 4 (eTup [(eC (.str "main")), (eC (.int 0)), (a0j (f1 a2F) [(eVar 6)])]))) (sDem 6 (a0Q 4 (eTup [(eBin a6V (eBin dIx (eC (.str "klmnop")) (eBin dSub (eVar 5) (eC (.int 1)))) (eBin dAdd (eC (.int 1)) (eBin dMod (eVar 5) (eC (.int 2))))), (a0j a2d [(eVar 0), (eVar 5)]), (a0j (f1 a2F) [(eVar 6)])]))))))) (sDem 4 (sRet (eTup [(eVar 2), (a0j (f1 a2F) [(eVar 4)])])))))))
def a1w : List D → Option R := fnD 2 9 a4A
def a3l : MC :=
 (sSeq (sSet 2 (a0m (f1 dLen) [(eBin dIx (eBin dIx (eBin dIx (eVar 0) (eC (.int 1))) (eVar 1)) (eC (.int 2)))])) (sRet (eUn a4E (eIf (eBin dEq (eVar 1) (eC (.int 0))) (eBin dAdd (eVar 2) (eC (.int 1))) (eVar 2)))))
def a0W : List D → Option R := fnD 2 3 a3l
def a5I : MC :=
 (sRet (eBin dIx (eBin dIx (eBin dIx (eVar 0) (eC (.int 1))) (eVar 1)) (eC (.int 2))))
def a2o : List D → Option R := fnD 2 2 a5I
def a7u : MC :=
 (sSeq (sSet 3 (a0j a2o [(eVar 0), (eVar 1)])) (sRet (eIf (eBin dLt (eVar 2) (a0m (f1 dLen) [(eAny 3)])) (eBin dIx (eBin dIx (eVar 3) (eVar 2)) (eC (.int 1))) (eC (.int 0)))))
def a2D : List D → Option R := fnD 3 4 a7u
def a6L : MC :=
 (sSeq (sSet 3 (eBin dIx (eVar 0) (eC (.int 1)))) (sSeq (sSet 4 (eLst [])) (sSeq (sFor (iSeq (a0j a0W [(eVar 0), (eVar 1)])) (a0F 5) (sSeq (sSet 6 (eBin dBor (eVar 2) (a0j a2D [(eVar 0), (eVar 1), (eVar 5)]))) (sFor (a1V (eC (.int 1)) (a0m (f1 dLen) [(eAny 3)])) (a0F 7) (sIf (eAnd (eBin dGt (eBin dIx (eBin dIx (eVar 3) (eVar 7)) (eC (.int 1))) (eBin dIx (eBin dIx (eVar 3) (eVar 1)) (eC (.int 1)))) (eBin dEq (eBin a3s (eBin dShr (eVar 6) (eVar 7)) (eC (.int 1))) (eC (.int 0)))) (a0Q 4 (eTup [(eVar 5), (eVar 7), (eVar 6)])) a0G)))) (sDem 4 (sRet (eVar 4))))))
def a1F : List D → Option R := fnD 3 8 a6L
def a1P (G : MF) : MC :=
 (sSeq (sIf (eHas true 3 (eTup [(eVar 1), (eVar 2)])) (sSeq (a6x 4 (a5L [5] (iSeq (a0j a1F [(eVar 0), (eVar 1), (eVar 2)])) (a0F 5) (mBin dAdd (a3m 3 G [(eVar 0), (eBin dIx (eVar 5) (eC (.int 1))), (eBin dIx (eVar 5) (eC (.int 2)))] []) (eC (.int 1))))) (sDem 4 (a4S 3 (eTup [(eVar 1), (eVar 2)]) (eUn (a5R 0) (eVar 4))))) a0G) (sRetP 3 (eAt 3 (eTup [(eVar 1), (eVar 2)]))))
def a1Q : MF := Nat.rec (motive := fun _ => MF) (fun _ _ _ => none) (fun _ G => fnP 3 4 6 (a1P G)) 12
def m_paper : MC :=
 (sSeq (sNewT 1) (sSeq (a4T (a3m 1 a1Q [(eVar 0), (eC (.int 0)), (eC (.int 0))] [])) (sRet (eFrz 1 (a3Z 1 [2, 3] (eTup [(eVar 2), (eVar 3), (eAtF 1 (eTup [(eVar 2), (eVar 3)]))]))))))
def a3X : List D → Option R := fnD 1 4 m_paper
def m_law : MC :=
 (sSeq (sSet 1 (a0j a1w [(eVar 0), (eBin dIx (eLst [(eC (.int 1)), (eC (.int 2)), (eC (.int 4)), (eC (.int 12))]) (a0j a0i [(eVar 0), (eC (.int 7)), (eC (.int 4))]))])) (sSeq (sSet 2 (a0j a3X [(eVar 1)])) (sSeq (sIf (eNot (a0m a1a [(eAny 1), (eAny 2)])) (sRet (eC (.bl false))) a0G) (sSeq (a50 2) (sRet (a0m a1a [(eAny 1), (a0j a3X [(eVar 1)])]))))))
def f_law : List D → Option R := fnD 1 3 m_law
end
end Bell
namespace Bell
open PySem L3
noncomputable section
def a5k : MC := (sSeq (sIf (eOr (eNot (eUn (dIsT "tuple") (eVar 2))) (eBin dNe (a0m (f1 dLen) [(eAny 2)]) (eC (.int 3)))) (sRet (eC (.bl false))) a0G) (sSeq (sIf (eOr (eNot (a0j a0J [(eBin dIx (eVar 2) (eC (.int 0)))])) (eOr (eNot (a0j a0J [(eBin dIx (eVar 2) (eC (.int 1)))])) (eNot (a0j a0J [(eBin dIx (eVar 2) (eC (.int 2)))])))) (sRet (eC (.bl false))) a0G) (sIf (eOr (eBin dLt (eBin dIx (eVar 2) (eC (.int 0))) (eC (.int 0))) (eOr (eBin dGe (eBin dIx (eVar 2) (eC (.int 0))) (a0m (f1 dLen) [(eBin dIx (eVar 0) (eC (.int 1)))])) (eOr (eBin dLt (eBin dIx (eVar 2) (eC (.int 1))) (eC (.int 0))) (eBin dLt (eBin dIx (eVar 2) (eC (.int 2))) (eC (.int 0)))))) (sRet (eC (.bl false))) a0G)))
def a4b : MC := (a4S 2 (eTup [(eBin dIx (eVar 3) (eC (.int 0))), (eBin dIx (eVar 3) (eC (.int 1)))]) (eBin dIx (eVar 3) (eC (.int 2))))
def a2U : MC := (sIf (eAnd (eBin dGt (eBin dIx (eBin dIx (eVar 4) (eVar 11)) (eC (.int 1))) (eBin dIx (eBin dIx (eVar 4) (eVar 5)) (eC (.int 1)))) (eBin dEq (eBin a3s (eBin dShr (eVar 10) (eVar 11)) (eC (.int 1))) (eC (.int 0)))) (sIf (eOr (eHas true 2 (eTup [(eVar 11), (eVar 10)])) (eBin dGe (eAt 2 (eTup [(eVar 11), (eVar 10)])) (eVar 7))) (sRet (eC (.bl false))) a0G) a0G)
def a2T : MC := (sSeq (sSet 10 (eBin dBor (eVar 6) (eVar 9))) (sFor (a1V (eC (.int 1)) (a0m (f1 dLen) [(eAny 4)])) (a0F 11) (sIf (eAnd (eBin dGt (eBin dIx (eBin dIx (eVar 4) (eVar 11)) (eC (.int 1))) (eBin dIx (eBin dIx (eVar 4) (eVar 5)) (eC (.int 1)))) (eBin dEq (eBin a3s (eBin dShr (eVar 10) (eVar 11)) (eC (.int 1))) (eC (.int 0)))) (sIf (eOr (eHas true 2 (eTup [(eVar 11), (eVar 10)])) (eBin dGe (eAt 2 (eTup [(eVar 11), (eVar 10)])) (eVar 7))) (sRet (eC (.bl false))) a0G) a0G)))
def a4a : MC := (sSeq (sSet 8 (a3a [12] (iSeq (eBin dIx (eBin dIx (eVar 4) (eVar 5)) (eC (.int 2)))) (a0F 12) a3c (eBin dIx (eVar 12) (eC (.int 1))))) (sSeq (sIf (eBin dEq (eVar 5) (eC (.int 0))) (a0Q 8 (eC (.int 0))) a0G) (sDem 8 (sFor (iSeq (eVar 8)) (a0F 9) (sSeq (sSet 10 (eBin dBor (eVar 6) (eVar 9))) (sFor (a1V (eC (.int 1)) (a0m (f1 dLen) [(eAny 4)])) (a0F 11) (sIf (eAnd (eBin dGt (eBin dIx (eBin dIx (eVar 4) (eVar 11)) (eC (.int 1))) (eBin dIx (eBin dIx (eVar 4) (eVar 5)) (eC (.int 1)))) (eBin dEq (eBin a3s (eBin dShr (eVar 10) (eVar 11)) (eC (.int 1))) (eC (.int 0)))) (sIf (eOr (eHas true 2 (eTup [(eVar 11), (eVar 10)])) (eBin dGe (eAt 2 (eTup [(eVar 11), (eVar 10)])) (eVar 7))) (sRet (eC (.bl false))) a0G) a0G)))))))
def a4L : MC := (sRet (eBin dMod (eBin a5d (eBin dMod (eBin dMul (eBin dMod (eBin dMul (eBin dAdd (eVar 3) (eC (.int 1))) (eBin dAdd (eBin dAdd (eBin dMul (eVar 1) (eVar 1)) (eVar 1)) (eC (.int 41)))) (eC (.int 999983))) (eC (.int 48271))) (eC (.int 2147483647))) (eC (.int 11))) (eVar 2)))
def a4I : MC := (sSeq (sSet 3 (eLst [(a0j a0x [(eVar 0), (eBin dAdd (eC (.int 10)) (eBin dMul (eC (.int 4)) (eVar 2)))]), (a0j a0x [(eVar 0), (eBin dAdd (eC (.int 11)) (eBin dMul (eC (.int 4)) (eVar 2)))])])) (sSeq (sSet 4 (eBin dAdd (eC (.int 1)) (a0j a0i [(eVar 0), (eBin dAdd (eC (.int 12)) (eBin dMul (eC (.int 4)) (eVar 2))), (eC (.int 2))]))) (sDem 3 (a0Q 1 (eTup [(eBin a6V (eBin dIx (eC (.str "abcdefgh")) (eVar 2)) (eVar 4)), (a0j (f1 a2F) [(a3Y (eVar 3) none (some (eVar 4)))])])))))
def a4M : MC := (sSeq (sIf (eBin dEq (eVar 4) (eC (.str "put"))) (sRet (eTup [(eC (.str "put")), (eVar 5), (a0j (f1 a2F) [(a3Y (eLst [(eVar 10), (eUn dNeg (eVar 10))]) none (some (eVar 6)))])])) a0G) (sSeq (sIf (eAnd (eBin dEq (eVar 4) (eC (.str "copy"))) (eBin dNe (eVar 5) (eVar 8))) (sRet (eTup [(eC (.str "copy")), (eVar 5), (eVar 8)])) a0G) (sSeq (sIf (eBin dEq (eVar 4) (eC (.str "grow"))) (sRet (eTup [(eC (.str "grow")), (eVar 5), (eVar 10)])) a0G) (sSeq (sIf (eAnd (eBin dEq (eVar 4) (eC (.str "tick"))) (eBin dEq (eVar 6) (eC (.int 1)))) (sRet (eTup [(eC (.str "tick")), (eVar 5)])) a0G) (sSeq (sIf (eOr (eBin dEq (eVar 4) (eC (.str "is"))) (eBin dEq (eVar 4) (eC (.str "most")))) (sRet (eTup [(eVar 4), (eVar 5), (eVar 8), (eVar 10)])) a0G) (sSeq (sIf (eBin dEq (eVar 4) (eC (.str "none"))) (sRet (eTup [(eC (.str "none")), (eVar 5)])) a0G) (sSeq (sIf (eAnd (eBin dEq (eVar 4) (eC (.str "anew"))) (eAnd (eBin dNe (eVar 5) (eVar 8)) (eBin dGt (a0m (f1 dLen) [(eAny 9)]) (eC (.int 0))))) (sDem 9 (sRet (eTup [(eC (.str "anew")), (eVar 5), (eVar 8), (eBin dIx (eVar 9) (a0j a0i [(eVar 1), (eBin dAdd (eVar 2) (eC (.int 4))), (a0m (f1 dLen) [(eAny 9)])]))]))) a0G) (sRet (eTup [(eC (.str "still")), (eBin dAdd (eC (.int 1)) (a0j a0i [(eVar 1), (eBin dAdd (eVar 2) (eC (.int 5))), (eC (.int 9))]))])))))))))
def a4q : MC := (sRet (eTup [(eC (.str "still")), (eBin dAdd (eC (.int 1)) (a0j a0i [(eVar 1), (eBin dAdd (eVar 2) (eC (.int 5))), (eC (.int 9))]))]))
def a2H : MC := (sSeq (sSet 8 (eBin dAdd (eBin dAdd (eC (.int 100)) (eBin dMul (eC (.int 200)) (eVar 5))) (eBin dMul (eC (.int 12)) (eVar 7)))) (a0Q 6 (eTup [(a0j a1H [(eVar 2), (eVar 0), (eVar 8)]), (a0j a1G [(eVar 0), (eBin dAdd (eVar 8) (eC (.int 7))), (eVar 3)])])))
def a32 : MC := (sSeq (sSet 6 (eLst [])) (sSeq (sFor (a1t (eBin dAdd (eC (.int 1)) (a0j a0i [(eVar 0), (eBin dAdd (eC (.int 70)) (eVar 5)), (eVar 1)]))) (a0F 7) (sSeq (sSet 8 (eBin dAdd (eBin dAdd (eC (.int 100)) (eBin dMul (eC (.int 200)) (eVar 5))) (eBin dMul (eC (.int 12)) (eVar 7)))) (a0Q 6 (eTup [(a0j a1H [(eVar 2), (eVar 0), (eVar 8)]), (a0j a1G [(eVar 0), (eBin dAdd (eVar 8) (eC (.int 7))), (eVar 3)])])))) (sIf (eBin dEq (eVar 5) (eC (.int 0))) (sDem 6 (a0Q 4 (eTup [(eC (.str "main")), (eC (.int 0)), (a0j (f1 a2F) [(eVar 6)])]))) (sDem 6 (a0Q 4 (eTup [(eBin a6V (eBin dIx (eC (.str "klmnop")) (eBin dSub (eVar 5) (eC (.int 1)))) (eBin dAdd (eC (.int 1)) (eBin dMod (eVar 5) (eC (.int 2))))), (a0j a2d [(eVar 0), (eVar 5)]), (a0j (f1 a2F) [(eVar 6)])]))))))
def a5j : MC := (sIf (eAnd (eBin dGt (eBin dIx (eBin dIx (eVar 3) (eVar 7)) (eC (.int 1))) (eBin dIx (eBin dIx (eVar 3) (eVar 1)) (eC (.int 1)))) (eBin dEq (eBin a3s (eBin dShr (eVar 6) (eVar 7)) (eC (.int 1))) (eC (.int 0)))) (a0Q 4 (eTup [(eVar 5), (eVar 7), (eVar 6)])) a0G)
def a5i : MC := (sSeq (sSet 6 (eBin dBor (eVar 2) (a0j a2D [(eVar 0), (eVar 1), (eVar 5)]))) (sFor (a1V (eC (.int 1)) (a0m (f1 dLen) [(eAny 3)])) (a0F 7) (sIf (eAnd (eBin dGt (eBin dIx (eBin dIx (eVar 3) (eVar 7)) (eC (.int 1))) (eBin dIx (eBin dIx (eVar 3) (eVar 1)) (eC (.int 1)))) (eBin dEq (eBin a3s (eBin dShr (eVar 6) (eVar 7)) (eC (.int 1))) (eC (.int 0)))) (a0Q 4 (eTup [(eVar 5), (eVar 7), (eVar 6)])) a0G)))
end
end Bell
namespace Bell
open PySem L3
abbrev Bx := Str × List Int
def bD (b : Bx) : D := .tup [.str b.1, .tup (b.2.map D.int)]
def a1T (bs : List Bx) : D := .tup (bs.map bD)
def a36 (i : Int) : Prop := -1000000000 ≤ i ∧ i ≤ 1000000000
def BxOk (b : Bx) : Prop := 1 ≤ b.2.length ∧ b.2.length ≤ 2 ∧ ∀ i ∈ b.2, a36 i
def a7V (bs : List Bx) : Prop := bs.length ≤ 8 ∧ ∀ b ∈ bs, BxOk b
def szB (bs : List Bx) (x : Nat) : Nat := (bs.getD x (Str.empty, [])).2.length
inductive Deed where
  | put (x : Nat) (ns : List Int) | copy (x y : Nat) | grow (x : Nat) (n : Int) | tick (x : Nat) | still (n : Nat)
  | iz (x y : Nat) (n : Int) | most (x y : Nat) (n : Int) | non (x : Nat) | anew (x y t : Nat)
def natD (n : Nat) : D := .int n
def Deed.d : Deed → D
  | .put x ns => .tup [.str (Str.ofString "put"), .int x, .tup (ns.map D.int)]
  | .copy x y => .tup [.str (Str.ofString "copy"), .int x, .int y]
  | .grow x n => .tup [.str (Str.ofString "grow"), .int x, .int n]
  | .tick x => .tup [.str (Str.ofString "tick"), .int x]
  | .still n => .tup [.str (Str.ofString "still"), .int n]
  | .iz x y n => .tup [.str (Str.ofString "is"), .int x, .int y, .int n]
  | .most x y n => .tup [.str (Str.ofString "most"), .int x, .int y, .int n]
  | .non x => .tup [.str (Str.ofString "none"), .int x]
  | .anew x y t => .tup [.str (Str.ofString "anew"), .int x, .int y, .int t]
def Deed.Ok (bs : List Bx) : Deed → Prop
  | .put x ns => x < bs.length ∧ ns.length = szB bs x ∧ ∀ i ∈ ns, a36 i
  | .copy x y => x < bs.length ∧ y < bs.length ∧ x ≠ y ∧ szB bs y = szB bs x
  | .grow x n => x < bs.length ∧ a36 n
  | .tick x => x < bs.length ∧ szB bs x = 1
  | .still n => 1 ≤ n ∧ n ≤ 9
  | .iz x y n => x < bs.length ∧ y < bs.length ∧ szB bs y = szB bs x ∧ a36 n
  | .most x y n => x < bs.length ∧ y < bs.length ∧ szB bs y = szB bs x ∧ a36 n
  | .non x => x < bs.length
  | .anew x y t => x < bs.length ∧ y < bs.length ∧ t < bs.length ∧ x ≠ y ∧ x ≠ t ∧ y ≠ t ∧ szB bs y = szB bs x ∧ szB bs t = 1
abbrev Pl := Deed × Nat
structure Rw where
  nm : Str
  rk : Nat
  pl : List Pl
def plD (p : Pl) : D := .tup [p.1.d, .int p.2]
def Rw.d (r : Rw) : D := .tup [.str r.nm, .int r.rk, .tup (r.pl.map plD)]
def a0O (bs : List Bx) (rs : List Rw) : D := .tup [a1T bs, .tup (rs.map Rw.d)]
def PlOk (bs : List Bx) (bells : Nat) (p : Pl) : Prop := p.1.Ok bs ∧ p.2 < 2 ^ (bells + 1) ∧ p.2 % 2 = 0
def RwOk (bs : List Bx) (bells most : Nat) (r : Rw) : Prop := 1 ≤ r.pl.length ∧ r.pl.length ≤ most ∧ (∀ p ∈ r.pl, PlOk bs bells p)
structure ProgOk (bs : List Bx) (rs : List Rw) (bells most : Nat) : Prop where
  box : a7V bs
  len : rs.length = bells + 1
  row : ∀ r ∈ rs, RwOk bs bells most r
  main : (rs.getD 0 ⟨Str.empty, 1, []⟩).rk = 0
  rank : ∀ k r, rs[k]? = some r → k ≠ 0 → 1 ≤ r.rk ∧ r.rk ≤ 9
theorem a3F (ds : List D) : dLen (.tup ds) = okI (ds.length : Int) := rfl
theorem a6q (ds : List D) : dLen (.lst ds) = okI (ds.length : Int) := rfl
theorem ix_boxes {bs : List Bx} {x : Nat} (h : x < bs.length) : dIx (a1T bs) (.int x) = okD (bD bs[x]) := ix_tup (by rw [List.getElem?_map, List.getElem?_eq_getElem h]; rfl)
theorem a3V (bs : List Bx) : dLen (a1T bs) = okI (bs.length : Int) := by show okI ((bs.map bD).length : Int) = _; rw [List.length_map]
theorem szB_eq {bs : List Bx} {x : Nat} (h : x < bs.length) : szB bs x = bs[x].2.length := by
  unfold szB
  rw [List.getD_eq_getElem?_getD, List.getElem?_eq_getElem h]
  rfl
theorem len_ints (ns : List Int) : dLen (.tup (ns.map D.int)) = okI (ns.length : Int) := by show okI ((ns.map D.int).length : Int) = _; rw [List.length_map]
theorem ix_bD1 (b : Bx) : dIx (bD b) (.int 1) = okD (.tup (b.2.map D.int)) := a3o
end Bell
namespace Bell
open PySem L3
theorem a7a {bs : List Bx} {x : Nat} (h : x < bs.length) {ρ : MEnv} {i j : Nat} (hi : ρ[i]? = some (some (.sh (a1T bs)))) (hj : ρ[j]? = some (some (.sh (.int x)))) : a0m (f1 dLen) [eBin dIx (eBin dIx (eVar i) (eVar j)) (eC (.int 1))] ρ = okI (szB bs x : Nat) := by
  rw [szB_eq h]
  exact lenB (a0f (a0f (a2P hi) (a2P hj) (ix_boxes h)) rfl (ix_bD1 _)) (len_ints _)
theorem szB_12 {bs : List Bx} (hb : a7V bs) {x : Nat} (h : x < bs.length) : szB bs x = 1 ∨ szB bs x = 2 := by
  have hx := hb.2 bs[x] (List.getElem_mem h)
  rw [szB_eq h]
  have := hx.1; have := hx.2.1
  omega
abbrev intD (k : Nat) : D := .int k
def mates (bs : List Bx) (x : Nat) : List Nat := (List.range bs.length).filter fun y => !decide (y = x) && decide (szB bs y = szB bs x)
def ones (bs : List Bx) (x y : Nat) : List Nat := (List.range bs.length).filter fun t => !decide (t = x) && (!decide (t = y) && decide (szB bs t = 1))
theorem eqN (i j : Nat) : dEq (.int i) (.int j) = okB (decide (i = j)) := by rw [eq_d, show decide ((i : Int) = (j : Int)) = decide (i = j) from decide_eq_decide.mpr (by omega)]
theorem neN (i j : Nat) : dNe (.int i) (.int j) = okB (!decide (i = j)) := by rw [ne_d, show decide ((i : Int) = (j : Int)) = decide (i = j) from decide_eq_decide.mpr (by omega)]
theorem and_b {ρ : MEnv} {a b : ME} {p q : Bool} (h1 : a ρ = okB p) (h2 : b ρ = okB q) : eAnd a b ρ = okB (p && q) := by
  cases p with
  | true => exact a34 h1 h2
  | false => exact a2s h1
theorem ix_nat {l : List Nat} {j : Nat} (h : j < l.length) : dIx (.lst (l.map intD)) (.int j) = okI (l[j] : Nat) := a09 (by rw [List.getElem?_map, List.getElem?_eq_getElem h]; rfl)
end Bell
namespace Bell
open PySem L3
theorem a5c {sc : D} {k m c : Int} (h0 : 0 ≤ k) (h1 : k ≤ 100000) (hm : 0 < m) (hc : 0 ≤ c) : ∃ n : Nat, a4L [some (.sh sc), some (.sh (.int k)), some (.sh (.int m)), some (.sh (.int c))] = some (.ret (.sh (.int (n : Int)))) ∧ (n : Int) < m := by
  have hk : k * k ≤ 100000 * 100000 := Int.mul_le_mul h1 h1 h0 (by decide)
  have hk0 : 0 ≤ k * k := Int.mul_nonneg h0 h0
  have hp := Int.emod_nonneg ((c + 1) * (k * k + k + 41) % 999983 * 48271 % 2147483647 / 11) (b := m) (by omega)
  have hq := Int.emod_lt_of_pos ((c + 1) * (k * k + k + 41) % 999983 * 48271 % 2147483647 / 11) hm
  refine ⟨((c + 1) * (k * k + k + 41) % 999983 * 48271 % 2147483647 / 11 % m).toNat, ?_, by omega⟩
  rw [Int.toNat_of_nonneg hp]
  exact a1J (a0f (a0f (a0f (a0f (a0f (a0f (a0f rfl rfl rfl) (a0f (a0f (a0f rfl rfl (mulL (by omega) (by omega))) rfl rfl) rfl rfl) (mulR (by omega) (by omega))) rfl (a2j (by decide))) rfl (mulR (by decide) (by decide))) rfl (a2j (by decide))) rfl (a6o (by decide) (by decide))) rfl (a2j hm))
theorem a2E {ns : List Int} {k m : Int} (h0 : 0 ≤ k) (h1 : k ≤ 100000) (hm : 0 < m) : ∃ n : Nat, a0i [.lst (ns.map D.int), .int k, .int m] = okI n ∧ (n : Int) < m := by
  cases ns with
  | nil =>
    obtain ⟨n, e, hn⟩ := a5c (sc := .lst []) (c := 0) h0 h1 hm (by decide)
    exact ⟨n, a1v rfl (a0e (a0N rfl) (a0e (if_f rfl rfl) e)), hn⟩
  | cons a ns =>
    have hl : (0 : Int) < ((a :: ns).length : Int) := by rw [List.length_cons]; omega
    have hp : 0 ≤ k % ((a :: ns).length : Int) := Int.emod_nonneg _ (by omega)
    have hq : k % ((a :: ns).length : Int) < ((a :: ns).length : Int) := Int.emod_lt_of_pos _ hl
    have hlen : dLen (.lst ((a :: ns).map D.int)) = okI ((a :: ns).length : Int) := by show okI (((a :: ns).map D.int).length : Int) = _; rw [List.length_map]
    have hix : dIx (.lst ((a :: ns).map D.int)) (.int (k % ((a :: ns).length : Int))) = okI ((a :: ns).getD (k % ((a :: ns).length : Int)).toNat 0) := by
      have e : ((a :: ns).map D.int)[(k % ((a :: ns).length : Int)).toNat]? = some (.int ((a :: ns).getD (k % ((a :: ns).length : Int)).toNat 0)) := by
        have hi : (k % ((a :: ns).length : Int)).toNat < (a :: ns).length := by omega
        rw [List.getElem?_map, List.getD_eq_getElem?_getD, List.getElem?_eq_getElem hi]
        rfl
      have z := a09 e
      rwa [Int.toNat_of_nonneg hp] at z
    obtain ⟨n, e, hn⟩ := a5c (sc := .lst ((a :: ns).map D.int)) (c := (a :: ns).getD (k % ((a :: ns).length : Int)).toNat 0 % 1000003) h0 h1 hm (Int.emod_nonneg _ (by decide))
    refine ⟨n, a1v rfl (a0e (a0N rfl) (a0e (if_t (a0f (lenB rfl hlen) rfl ?_) (a0N (a0f (a0f rfl (a0f rfl (lenB rfl hlen) (a2j hl)) hix) rfl (a2j (by decide))))) e)), hn⟩
    show okB (decide (0 < ((a :: ns).length : Int))) = _
    rw [decide_eq_true hl]
theorem numN {ns : List Int} {k : Int} (h0 : 0 ≤ k) (h1 : k ≤ 90000) : ∃ v : Int, a0x [.lst (ns.map D.int), .int k] = okI v ∧ a36 v := by
  obtain ⟨f, df, hf⟩ := a2E (ns := ns) (k := k) (m := 2000) h0 (by omega) (by decide)
  obtain ⟨i, di, hi⟩ := a2E (ns := ns) (k := k + 4000) (m := 4) (by omega) (by omega) (by decide)
  have hp : dPow (.int 10) (.int 9) = okI 1000000000 := rfl
  have f7 := Int.emod_nonneg (f : Int) (b := 7) (by decide)
  have f7' := Int.emod_lt_of_pos (f : Int) (b := 7) (by decide)
  have f5 := Int.emod_nonneg (f : Int) (b := 5) (by decide)
  have f5' := Int.emod_lt_of_pos (f : Int) (b := 5) (by decide)
  have menu : ∀ ρ : MEnv, ρ[2]? = some (some (.sh (.int f))) → eLst [(eBin dSub (eBin dMod (eVar 2) (eC (.int 7))) (eC (.int 3))), (eBin dSub (eBin dPow (eC (.int 10)) (eC (.int 9))) (eBin dMod (eVar 2) (eC (.int 5)))), (eBin dSub (eBin dMod (eVar 2) (eC (.int 5))) (eBin dPow (eC (.int 10)) (eC (.int 9)))), (eBin dMul (eVar 2) (eC (.int 499999)))] ρ = okL [.int ((f : Int) % 7 - 3), .int (1000000000 - (f : Int) % 5), .int ((f : Int) % 5 - 1000000000), .int ((f : Int) * 499999)] := fun ρ h =>
    a7Q (a0f (a0f (a2P h) rfl (a2j (by decide))) rfl rfl) (a0f (a0f rfl rfl hp) (a0f (a2P h) rfl (a2j (by decide))) rfl) (a0f (a0f (a2P h) rfl (a2j (by decide))) (a0f rfl rfl hp) rfl) (a0f (a2P h) rfl (mulR (by decide) (by decide))) rfl
  have go : ∀ v : Int, dIx (.lst [.int ((f : Int) % 7 - 3), .int (1000000000 - (f : Int) % 5), .int ((f : Int) % 5 - 1000000000), .int ((f : Int) * 499999)]) (.int (i : Int)) = okI v → a0x [.lst (ns.map D.int), .int k] = okI v := fun v hv =>
    a1v rfl (a0e (a0N (a1f rfl rfl rfl df)) (a0e (a0N (menu _ rfl)) (a3r (a1J (a0f rfl (a1f rfl (a0f rfl rfl rfl) rfl di) hv)))))
  match i, hi, go with
  | 0, _, go => exact ⟨_, go _ ix_l0, by unfold a36; omega⟩
  | 1, _, go => exact ⟨_, go _ ix_l1, by unfold a36; omega⟩
  | 2, _, go => exact ⟨_, go _ ix_l2, by unfold a36; omega⟩
  | 3, _, go => exact ⟨_, go _ (a09 (n := 3) rfl), by unfold a36; omega⟩
  | n + 4, hi, _ => omega
theorem mulS_e {x : Str} {n : Nat} (h : x.length = 1) (hn : n = 1 ∨ n = 2) : ∃ y, a6V (.str x) (.int (n : Int)) = okD (.str y) := by
  have hc : x.length = 1 ∧ ((n : Int) = 1 ∨ (n : Int) = 2) := ⟨h, by omega⟩
  exact ⟨_, if_pos hc⟩
theorem letter_e {b : Nat} (h : b < 8) : ∃ c : Nat, dIx (.str (Str.ofString "abcdefgh")) (.int (b : Int)) = okD (.str ⟨#[c]⟩) := by
  match b, h with
  | 0, _ => exact ⟨97, rfl⟩
  | 1, _ => exact ⟨98, rfl⟩
  | 2, _ => exact ⟨99, rfl⟩
  | 3, _ => exact ⟨100, rfl⟩
  | 4, _ => exact ⟨101, rfl⟩
  | 5, _ => exact ⟨102, rfl⟩
  | 6, _ => exact ⟨103, rfl⟩
  | 7, _ => exact ⟨104, rfl⟩
theorem take12 {a b : Int} {n : Nat} (hn : n = 1 ∨ n = 2) {ρ : MEnv} {e : ME} {s : S} (h : e ρ = some (.ok s)) (hv : s.val = .lst [.int a, .int b]) {e1 : ME} (h1 : e1 ρ = okI (n : Int)) : a3Y e none (some e1) ρ = okL (([a, b].take n).map D.int) := by
  unfold a3Y
  rw [h]
  simp only [bindV_ok, partD, hv, h1, S.val_sh]
  rcases hn with rfl | rfl <;> rfl
theorem boxes_ok {ns : List Int} : ∃ bs : List Bx, a2p [.lst (ns.map D.int)] = okD (a1T bs) ∧ 1 ≤ bs.length ∧ a7V bs := by
  obtain ⟨i, di, hi⟩ := a2E (ns := ns) (k := 3) (m := 8) (by decide) (by decide) (by decide)
  have hcount : ∃ m : Nat, dIx (.lst [.int 1, .int 2, .int 3, .int 3, .int 4, .int 4, .int 5, .int 8]) (.int (i : Int)) = okI (m : Int) ∧ 1 ≤ m ∧ m ≤ 8 := by
    match i, hi with
    | 0, _ => exact ⟨1, rfl, by decide, by decide⟩
    | 1, _ => exact ⟨2, rfl, by decide, by decide⟩
    | 2, _ => exact ⟨3, rfl, by decide, by decide⟩
    | 3, _ => exact ⟨3, rfl, by decide, by decide⟩
    | 4, _ => exact ⟨4, rfl, by decide, by decide⟩
    | 5, _ => exact ⟨4, rfl, by decide, by decide⟩
    | 6, _ => exact ⟨5, rfl, by decide, by decide⟩
    | 7, _ => exact ⟨8, rfl, by decide, by decide⟩
    | n + 8, hi => omega
  obtain ⟨m, hm, m1, m8⟩ := hcount
  have step : ∀ (k : Nat) (ρ : MEnv), k < m → (∃ bs : List Bx, bs.length = k ∧ (∀ b ∈ bs, BxOk b) ∧ ∃ e2 e3 e4 : Option S, ρ = [some (.sh (.lst (ns.map D.int))), some (.own (.lst (bs.map bD))), e2, e3, e4]) →
      ∃ ρ1 ρ2, a0F 2 (.int k) ρ = some ρ1 ∧ a4I ρ1 = some (.next ρ2) ∧ (∃ bs : List Bx, bs.length = k + 1 ∧ (∀ b ∈ bs, BxOk b) ∧ ∃ e2 e3 e4 : Option S, ρ2 = [some (.sh (.lst (ns.map D.int))), some (.own (.lst (bs.map bD))), e2, e3, e4]) := by
    rintro k ρ hk ⟨bs, hl, hs, e2, e3, e4, rfl⟩
    obtain ⟨a, ea, oa⟩ := numN (ns := ns) (k := 10 + 4 * (k : Int)) (by omega) (by omega)
    obtain ⟨b, eb, ob⟩ := numN (ns := ns) (k := 11 + 4 * (k : Int)) (by omega) (by omega)
    obtain ⟨j, ej, hj⟩ := a2E (ns := ns) (k := 12 + 4 * (k : Int)) (m := 2) (by omega) (by omega) (by decide)
    obtain ⟨c, ec⟩ := letter_e (b := k) (by omega)
    have h12 : 1 + j = 1 ∨ 1 + j = 2 := by omega
    obtain ⟨y, ey⟩ := mulS_e (x := ⟨#[c]⟩) rfl h12
    have e1j : dAdd (.int 1) (.int (j : Int)) = okI ((1 + j : Nat) : Int) := by rw [add_int]; congr 4
    refine ⟨_, _, rfl, a0e (a0N (a21 (a21 rfl (a0f rfl (a0f rfl rfl (mulL (by decide) (by decide))) rfl) ea) (a21 rfl (a0f rfl (a0f rfl rfl (mulL (by decide) (by decide))) rfl) eb) rfl)) (a0e (a0N (a0f rfl (a1f rfl (a0f rfl (a0f rfl rfl (mulL (by decide) (by decide))) rfl) rfl ej) e1j)) (a3r (a2O (s := .sh (bD (y, [a, b].take (1 + j)))) rfl (tup2 (s1 := .sh (.str y)) (s2 := .sh (.tup (([a, b].take (1 + j)).map D.int))) (a0f (a0f rfl rfl ec) rfl ey) (a3t (take12 h12 rfl rfl rfl) rfl)) ?_))), bs ++ [(y, [a, b].take (1 + j))], by rw [List.length_append, hl]; rfl, ?_, some (.sh (.int (k : Int))), some (.sh (.lst [.int a, .int b])), some (.sh (.int ((1 + j : Nat) : Int))), ?_⟩
    · rw [List.length_map, hl]; exact Nat.lt_of_lt_of_le (by omega : k < 8) (by decide)
    · intro z hz
      rcases List.mem_append.mp hz with h | h
      · exact hs z h
      · rw [List.mem_singleton.mp h]
        refine ⟨by show 1 ≤ ([a, b].take (1 + j)).length; rw [List.length_take]; show 1 ≤ min (1 + j) 2; omega, by show ([a, b].take (1 + j)).length ≤ 2; rw [List.length_take]; show min (1 + j) 2 ≤ 2; omega, fun i hi => ?_⟩
        have hi' := List.mem_of_mem_take hi
        rcases List.mem_cons.mp hi' with rfl | hi'
        · exact oa
        · rw [List.mem_singleton.mp hi']; exact ob
    · rw [List.map_append]; rfl
  obtain ⟨ρ', e, bs, hl, hs, e2, e3, e4, rfl⟩ := a3q (ρ := [some (.sh (.lst (ns.map D.int))), some (.own (.lst [])), none, none, none]) (fun k ρ => ∃ bs : List Bx, bs.length = k ∧ (∀ b ∈ bs, BxOk b) ∧ ∃ e2 e3 e4 : Option S, ρ = [some (.sh (.lst (ns.map D.int))), some (.own (.lst (bs.map bD))), e2, e3, e4]) m ⟨[], rfl, fun _ h => (nomatch h), none, none, none, rfl⟩ step
  refine ⟨bs, a1v rfl (a0e (a0N rfl) (a0e (a3z (a23 (a0f (s := .own (.lst [.int 1, .int 2, .int 3, .int 3, .int 4, .int 4, .int 5, .int 8])) rfl (a1f rfl rfl rfl di) hm) (a1q (by omega))) e) (a3r (a1J (a3t rfl rfl))))), by omega, by omega, hs⟩
end Bell
namespace Bell
open PySem L3
def a22 (bs : List Bx) (x : Nat) : List Nat := (List.range bs.length).filter fun y => decide (szB bs y = szB bs x)
def a3n (bs : List Bx) (x y : Nat) : List Nat := (List.range bs.length).filter fun t => decide (szB bs t = 1) && (!decide (t = x) && !decide (t = y))
theorem a4R {bs : List Bx} {x y : Nat} : y ∈ a22 bs x ↔ y < bs.length ∧ szB bs y = szB bs x := by
  unfold a22; rw [List.mem_filter, List.mem_range]; simp
theorem a7v {bs : List Bx} {x y t : Nat} : t ∈ a3n bs x y ↔ t < bs.length ∧ szB bs t = 1 ∧ t ≠ x ∧ t ≠ y := by
  unfold a3n; rw [List.mem_filter, List.mem_range]; simp
theorem a7e {bs : List Bx} {x : Nat} : (a22 bs x).length ≤ bs.length := by
  unfold a22; refine Nat.le_trans (List.length_filter_le _ _) ?_; rw [List.length_range]; exact Nat.le_refl _
theorem a7w {bs : List Bx} {x y : Nat} : (a3n bs x y).length ≤ bs.length := by
  unfold a3n; refine Nat.le_trans (List.length_filter_le _ _) ?_; rw [List.length_range]; exact Nat.le_refl _
theorem a3E (l : List Nat) : dLen (.lst (l.map intD)) = okI (l.length : Int) := by rw [a6q, List.length_map]
theorem a0A {bs : List Bx} {a b : MC} {ρ ρ' : MEnv} (h : a ρ = some (.next ρ')) (t : ∃ dd : Deed, dd.Ok bs ∧ b ρ' = some (.ret (.sh dd.d))) : ∃ dd : Deed, dd.Ok bs ∧ sSeq a b ρ = some (.ret (.sh dd.d)) := by
  obtain ⟨dd, ok, e⟩ := t
  exact ⟨dd, ok, a0e h e⟩
abbrev a4i : List D := [.str (Str.ofString "put"), .str (Str.ofString "copy"), .str (Str.ofString "grow"), .str (Str.ofString "tick"), .str (Str.ofString "still"), .str (Str.ofString "is"), .str (Str.ofString "most"), .str (Str.ofString "none"), .str (Str.ofString "anew"), .str (Str.ofString "grow"), .str (Str.ofString "put"), .str (Str.ofString "anew")]
inductive Kd : Str → Prop
  | put : Kd (Str.ofString "put") | copy : Kd (Str.ofString "copy") | grow : Kd (Str.ofString "grow") | tick : Kd (Str.ofString "tick") | still : Kd (Str.ofString "still")
  | iz : Kd (Str.ofString "is") | most : Kd (Str.ofString "most") | non : Kd (Str.ofString "none") | anew : Kd (Str.ofString "anew")
theorem kind_e {i : Nat} (h : i < 12) : ∃ s, Kd s ∧ dIx (.lst a4i) (.int (i : Int)) = okD (.str s) := by
  match i, h with
  | 0, _ => exact ⟨_, .put, a09 (n := 0) rfl⟩
  | 1, _ => exact ⟨_, .copy, a09 (n := 1) rfl⟩
  | 2, _ => exact ⟨_, .grow, a09 (n := 2) rfl⟩
  | 3, _ => exact ⟨_, .tick, a09 (n := 3) rfl⟩
  | 4, _ => exact ⟨_, .still, a09 (n := 4) rfl⟩
  | 5, _ => exact ⟨_, .iz, a09 (n := 5) rfl⟩
  | 6, _ => exact ⟨_, .most, a09 (n := 6) rfl⟩
  | 7, _ => exact ⟨_, .non, a09 (n := 7) rfl⟩
  | 8, _ => exact ⟨_, .anew, a09 (n := 8) rfl⟩
  | 9, _ => exact ⟨_, .grow, a09 (n := 9) rfl⟩
  | 10, _ => exact ⟨_, .put, a09 (n := 10) rfl⟩
  | 11, _ => exact ⟨_, .anew, a09 (n := 11) rfl⟩
set_option maxHeartbeats 4000000 in
theorem deed_ok {ns : List Int} {bs : List Bx} (hb : a7V bs) (h1 : 1 ≤ bs.length) {k : Int} (hk0 : 0 ≤ k) (hk1 : k ≤ 2000) : ∃ dd : Deed, dd.Ok bs ∧ a1H [a1T bs, .lst (ns.map D.int), .int k] = okD dd.d := by
  obtain ⟨i, di, hi⟩ := a2E (ns := ns) (k := k) (m := 12) hk0 (by omega) (by decide)
  obtain ⟨kd, hkd, ekd⟩ := kind_e (i := i) (by omega)
  obtain ⟨x, dx, hx⟩ := a2E (ns := ns) (k := k + 1) (m := bs.length) (by omega) (by omega) (by omega)
  have hx : x < bs.length := by omega
  have h12 := szB_12 hb hx
  have b8 := hb.1
  have sl := a7e (bs := bs) (x := x)
  have s0 : 0 < (a22 bs x).length := List.length_pos_of_mem (a4R.mpr ⟨hx, rfl⟩)
  obtain ⟨j, dj, hj⟩ := a2E (ns := ns) (k := k + 2) (m := ((a22 bs x).length : Int)) (by omega) (by omega) (by omega)
  have hj : j < (a22 bs x).length := by omega
  have ey : dIx (.lst ((a22 bs x).map intD)) (.int (j : Int)) = okI ((a22 bs x)[j] : Nat) := ix_nat hj
  have hy := a4R.mp (List.getElem_mem hj)
  generalize (a22 bs x)[j] = y at ey hy
  obtain ⟨n, en, on⟩ := numN (ns := ns) (k := k + 3) (by omega) (by omega)
  have ol := a7w (bs := bs) (x := x) (y := y)
  have hsame : a3a [11] (a1t (a0m (f1 dLen) [(eAny 0)])) (a0F 11) (eBin dEq (a0m (f1 dLen) [(eBin dIx (eBin dIx (eVar 0) (eVar 11)) (eC (.int 1)))]) (eVar 6)) (eVar 11) [some (.sh (a1T bs)), some (.sh (.lst (ns.map D.int))), some (.sh (.int k)), some (.sh (.lst a4i)), some (.sh (.str kd)), some (.sh (.int x)), some (.sh (.int (szB bs x : Nat))), none, none, none, none, none] = okL ((a22 bs x).map intD) := by
    refine a5S (List.range bs.length) intD (fun y => decide (szB bs y = szB bs x)) intD ?_ (by rw [List.length_range]; exact Nat.le_trans b8 (by decide)) fun t ht => ?_
    · rw [← rng0]; exact a23 (lenB (a4c rfl) (a3V bs)) (a1q (by omega))
    · exact ⟨_, rfl, a0f (a7a (List.mem_range.mp ht) rfl rfl) rfl (eqN _ _), fun _ => ⟨_, rfl, rfl⟩⟩
  have hones : a3a [11] (a1t (a0m (f1 dLen) [(eAny 0)])) (a0F 11) (eAnd (eBin dEq (a0m (f1 dLen) [(eBin dIx (eBin dIx (eVar 0) (eVar 11)) (eC (.int 1)))]) (eC (.int 1))) (eAnd (eBin dNe (eVar 11) (eVar 5)) (eBin dNe (eVar 11) (eVar 8)))) (eVar 11) [some (.sh (a1T bs)), some (.sh (.lst (ns.map D.int))), some (.sh (.int k)), some (.sh (.lst a4i)), some (.sh (.str kd)), some (.sh (.int x)), some (.sh (.int (szB bs x : Nat))), some (.sh (.lst ((a22 bs x).map intD))), some (.sh (.int y)), none, none, none] = okL ((a3n bs x y).map intD) := by
    refine a5S (List.range bs.length) intD (fun t => decide (szB bs t = 1) && (!decide (t = x) && !decide (t = y))) intD ?_ (by rw [List.length_range]; exact Nat.le_trans b8 (by decide)) fun t ht => ?_
    · rw [← rng0]; exact a23 (lenB (a4c rfl) (a3V bs)) (a1q (by omega))
    · exact ⟨_, rfl, and_b (a0f (a7a (List.mem_range.mp ht) rfl rfl) rfl (eqN _ 1)) (and_b (a0f rfl rfl (neN t x)) (a0f rfl rfl (neN t y))), fun _ => ⟨_, rfl, rfl⟩⟩
  have kinds : ∀ ρ : MEnv, eLst [(eC (.str (Str.ofString "put"))), (eC (.str (Str.ofString "copy"))), (eC (.str (Str.ofString "grow"))), (eC (.str (Str.ofString "tick"))), (eC (.str (Str.ofString "still"))), (eC (.str (Str.ofString "is"))), (eC (.str (Str.ofString "most"))), (eC (.str (Str.ofString "none"))), (eC (.str (Str.ofString "anew"))), (eC (.str (Str.ofString "grow"))), (eC (.str (Str.ofString "put"))), (eC (.str (Str.ofString "anew")))] ρ = okL a4i := fun _ => rfl
  suffices z : ∃ dd : Deed, dd.Ok bs ∧ a4M [some (.sh (a1T bs)), some (.sh (.lst (ns.map D.int))), some (.sh (.int k)), some (.sh (.lst a4i)), some (.sh (.str kd)), some (.sh (.int x)), some (.sh (.int (szB bs x : Nat))), some (.sh (.lst ((a22 bs x).map intD))), some (.sh (.int y)), some (.own (.lst ((a3n bs x y).map intD))), some (.sh (.int n)), none] = some (.ret (.sh dd.d)) by
    obtain ⟨dd, ok, e⟩ := z
    exact ⟨dd, ok, a1v rfl (a0e (a0N (kinds _)) (a3r (a0e (a0N (a0f rfl (a1f rfl rfl rfl di) ekd)) (a0e (a0N (a1f rfl (a0f rfl rfl rfl) (lenB rfl (a3V bs)) dx)) (a0e (a0N (a7a hx rfl rfl)) (a0e (a0N hsame) (a3r (a0e (a0N (a0f rfl (a1f rfl (a0f rfl rfl rfl) (lenB rfl (a3E _)) dj) ey)) (a0e (a0N hones) (a0e (a0N (a21 rfl (a0f rfl rfl rfl) en)) e))))))))))⟩
  have still : ∀ kd : Str, ∃ dd : Deed, dd.Ok bs ∧ a4q [some (.sh (a1T bs)), some (.sh (.lst (ns.map D.int))), some (.sh (.int k)), some (.sh (.lst a4i)), some (.sh (.str kd)), some (.sh (.int x)), some (.sh (.int (szB bs x : Nat))), some (.sh (.lst ((a22 bs x).map intD))), some (.sh (.int y)), some (.own (.lst ((a3n bs x y).map intD))), some (.sh (.int n)), none] = some (.ret (.sh dd.d)) := fun kd => by
    obtain ⟨m, dm, hm⟩ := a2E (ns := ns) (k := k + 5) (m := 9) (by omega) (by omega) (by decide)
    refine ⟨.still (1 + m), ⟨by omega, by omega⟩, a1J (a21 (s2 := .sh (.int ((1 + m : Nat) : Int))) rfl (a0f rfl (a1f rfl (a0f rfl rfl rfl) rfl dm) ?_) rfl)⟩
    show okI (1 + (m : Int)) = okI ((1 + m : Nat) : Int)
    congr 4
  have f : ∀ {a b : Str} {ρ : MEnv}, ρ[4]? = some (some (.sh (.str b))) → b ≠ a → eBin dEq (eVar 4) (eC (.str a)) ρ = okB false := fun h e => a0f (a2P h) rfl (eq_strf e)
  have t : ∀ {a : Str} {ρ : MEnv}, ρ[4]? = some (some (.sh (.str a))) → eBin dEq (eVar 4) (eC (.str a)) ρ = okB true := fun h => a0f (a2P h) rfl (eq_strt rfl)
  cases hkd with
  | put =>
    refine ⟨.put x ([n, -n].take (szB bs x)), ⟨hx, ?_, fun i hi => ?_⟩, a2w (if_t (t rfl) (a1J (a1f rfl rfl (a3t (take12 h12 (a21 rfl (un_e rfl rfl) rfl) rfl rfl) rfl) rfl)))⟩
    · rw [List.length_take]; show min (szB bs x) 2 = _; omega
    · have hi' := List.mem_of_mem_take hi
      unfold a36 at on ⊢
      rcases List.mem_cons.mp hi' with rfl | hi'
      · exact on
      · rw [List.mem_singleton.mp hi']; omega
  | copy =>
    refine a0A (if_f (f rfl (by decide)) rfl) ?_
    by_cases c : x = y
    · exact a0A (if_f (a34 (t rfl) (a0f rfl rfl (ne_f (by omega)))) rfl) (a0A (if_f (f rfl (by decide)) rfl) (a0A (if_f (a2s (f rfl (by decide))) rfl) (a0A (if_f (or_f (f rfl (by decide)) (f rfl (by decide))) rfl) (a0A (if_f (f rfl (by decide)) rfl) (a0A (if_f (a2s (f rfl (by decide))) rfl) (still _))))))
    · exact ⟨.copy x y, ⟨hx, hy.1, c, hy.2⟩, a2w (if_t (a34 (t rfl) (a0f rfl rfl (ne_t (by omega)))) (a1J (a1f rfl rfl rfl rfl)))⟩
  | grow => exact a0A (if_f (f rfl (by decide)) rfl) (a0A (if_f (a2s (f rfl (by decide))) rfl) ⟨.grow x n, ⟨hx, on⟩, a2w (if_t (t rfl) (a1J (a1f rfl rfl rfl rfl)))⟩)
  | tick =>
    refine a0A (if_f (f rfl (by decide)) rfl) (a0A (if_f (a2s (f rfl (by decide))) rfl) (a0A (if_f (f rfl (by decide)) rfl) ?_))
    by_cases c : szB bs x = 1
    · exact ⟨.tick x, ⟨hx, c⟩, a2w (if_t (a34 (t rfl) (a0f rfl rfl (eq_t (by omega)))) (a1J (a21 rfl rfl rfl)))⟩
    · exact a0A (if_f (a34 (t rfl) (a0f rfl rfl (eq_f (by omega)))) rfl) (a0A (if_f (or_f (f rfl (by decide)) (f rfl (by decide))) rfl) (a0A (if_f (f rfl (by decide)) rfl) (a0A (if_f (a2s (f rfl (by decide))) rfl) (still _))))
  | still => exact a0A (if_f (f rfl (by decide)) rfl) (a0A (if_f (a2s (f rfl (by decide))) rfl) (a0A (if_f (f rfl (by decide)) rfl) (a0A (if_f (a2s (f rfl (by decide))) rfl) (a0A (if_f (or_f (f rfl (by decide)) (f rfl (by decide))) rfl) (a0A (if_f (f rfl (by decide)) rfl) (a0A (if_f (a2s (f rfl (by decide))) rfl) (still _)))))))
  | iz => exact a0A (if_f (f rfl (by decide)) rfl) (a0A (if_f (a2s (f rfl (by decide))) rfl) (a0A (if_f (f rfl (by decide)) rfl) (a0A (if_f (a2s (f rfl (by decide))) rfl) ⟨.iz x y n, ⟨hx, hy.1, hy.2, on⟩, a2w (if_t (or_t (t rfl)) (a1J (a7Q rfl rfl rfl rfl rfl)))⟩)))
  | most => exact a0A (if_f (f rfl (by decide)) rfl) (a0A (if_f (a2s (f rfl (by decide))) rfl) (a0A (if_f (f rfl (by decide)) rfl) (a0A (if_f (a2s (f rfl (by decide))) rfl) ⟨.most x y n, ⟨hx, hy.1, hy.2, on⟩, a2w (if_t (or_f (f rfl (by decide)) (t rfl)) (a1J (a7Q rfl rfl rfl rfl rfl)))⟩)))
  | non => exact a0A (if_f (f rfl (by decide)) rfl) (a0A (if_f (a2s (f rfl (by decide))) rfl) (a0A (if_f (f rfl (by decide)) rfl) (a0A (if_f (a2s (f rfl (by decide))) rfl) (a0A (if_f (or_f (f rfl (by decide)) (f rfl (by decide))) rfl) ⟨.non x, hx, a2w (if_t (t rfl) (a1J (a21 rfl rfl rfl)))⟩))))
  | anew =>
    refine a0A (if_f (f rfl (by decide)) rfl) (a0A (if_f (a2s (f rfl (by decide))) rfl) (a0A (if_f (f rfl (by decide)) rfl) (a0A (if_f (a2s (f rfl (by decide))) rfl) (a0A (if_f (or_f (f rfl (by decide)) (f rfl (by decide))) rfl) (a0A (if_f (f rfl (by decide)) rfl) ?_)))))
    by_cases c : x = y
    · exact a0A (if_f (a34 (t rfl) (a2s (a0f rfl rfl (ne_f (by omega))))) rfl) (still _)
    · by_cases c2 : 0 < (a3n bs x y).length
      · obtain ⟨q, dq, hq⟩ := a2E (ns := ns) (k := k + 4) (m := ((a3n bs x y).length : Int)) (by omega) (by omega) (by omega)
        have hq : q < (a3n bs x y).length := by omega
        have eq : dIx (.lst ((a3n bs x y).map intD)) (.int (q : Int)) = okI ((a3n bs x y)[q] : Nat) := ix_nat hq
        have hm := a7v.mp (List.getElem_mem hq)
        generalize (a3n bs x y)[q] = r at eq hm
        exact ⟨.anew x y r, ⟨hx, hy.1, hm.1, c, fun z => hm.2.2.1 z.symm, fun z => hm.2.2.2 z.symm, hy.2, hm.2.1⟩, a2w (if_t (a34 (t rfl) (a34 (a0f rfl rfl (ne_t (by omega))) (a0f (lenB rfl (a3E _)) rfl (gt_t (by omega))))) (a3r (a1J (a7Q rfl rfl rfl (a0f rfl (a1f rfl (a0f rfl rfl rfl) (lenB rfl (a3E _)) dq) eq) rfl))))⟩
      · exact a0A (if_f (a34 (t rfl) (a34 (a0f rfl rfl (ne_t (by omega))) (a0f (lenB rfl (a3E _)) rfl (gt_f (by omega))))) rfl) (still _)
end Bell
namespace Bell
open PySem L3
section
variable {ns : List Int} {bs : List Bx}
theorem a5u (a n : Nat) : dAdd (.int (a : Int)) (.int (n : Int)) = okI ((a + n : Nat) : Int) := by rw [add_int]; congr 4
theorem subN' {a b : Nat} (h : b ≤ a) : dSub (.int (a : Int)) (.int (b : Int)) = okI ((a - b : Nat) : Int) := by rw [sub_int]; congr 4; omega
theorem shut_ok {k : Int} {bells : Nat} (hk0 : 0 ≤ k) (hk1 : k ≤ 9000) (hb : bells ≤ 6) : ∃ w : Nat, a1G [.lst (ns.map D.int), .int k, .int bells] = okI (w : Nat) ∧ w < 128 := by
  have hs : dShl (.int 1) (.int (bells : Int)) = okI ((2 ^ bells : Nat) : Int) := by
    rw [a7b (by omega) (by omega) (by decide), Int.toNat_natCast, Int.one_mul, Int.natCast_pow]; rfl
  have hp2 : 0 < 2 ^ bells := Nat.pow_pos (by decide)
  have hp3 : 2 ^ bells ≤ 2 ^ 6 := Nat.pow_le_pow_right (by decide) hb
  obtain ⟨a, da, ha⟩ := a2E (ns := ns) (k := k) (m := ((2 ^ bells : Nat) : Int)) hk0 (by omega) (by omega)
  obtain ⟨b, db, hb'⟩ := a2E (ns := ns) (k := k + 1) (m := ((2 ^ bells : Nat) : Int)) (by omega) (by omega) (by omega)
  obtain ⟨i, di, hi⟩ := a2E (ns := ns) (k := 5) (m := 3) (by decide) (by decide) (by decide)
  have hand : a &&& b ≤ a := Nat.and_le_left
  obtain ⟨v, ev, hv⟩ : ∃ v : Nat, dIx (.lst [.int 0, .int ((a &&& b : Nat) : Int), .int (a : Int)]) (.int (i : Int)) = okI (v : Nat) ∧ v < 2 ^ 6 := by
    match i, hi with
    | 0, _ => exact ⟨0, ix_l0, by decide⟩
    | 1, _ => exact ⟨a &&& b, ix_l1, by omega⟩
    | 2, _ => exact ⟨a, ix_l2, by omega⟩
    | n + 3, hi => omega
  refine ⟨v * 2, a1v rfl (a0e (a0N (a1f rfl rfl (a0f rfl rfl hs) da)) (a0e (a0N (a1f rfl (a0f rfl rfl rfl) (a0f rfl rfl hs) db)) (a1J (a0f (a0f (s := .own (.lst [.int 0, .int ((a &&& b : Nat) : Int), .int (a : Int)])) (a1f rfl (a0f rfl rfl (a6t a b)) rfl rfl) (a1f rfl rfl rfl di) ev) rfl ?_)))), by omega⟩
  show dShl (.int (v : Int)) (.int 1) = okI ((v * 2 : Nat) : Int)
  rw [a7b (by decide) (by decide) (by show (v : Int).natAbs < 2 ^ 64; omega)]
  congr 4
theorem rank_ok {r : Nat} (hr : r ≤ 6) : ∃ n : Nat, a2d [.lst (ns.map D.int), .int r] = okI (n : Nat) ∧ n ≤ 9 := by
  obtain ⟨w, dw, hw⟩ := a2E (ns := ns) (k := 60 + (r : Int)) (m := 9) (by omega) (by omega) (by decide)
  obtain ⟨i, di, hi⟩ := a2E (ns := ns) (k := 4) (m := 4) (by decide) (by decide) (by decide)
  have hd : a5d (.int (w : Int)) (.int 3) = okI ((w / 3 : Nat) : Int) := by rw [a6o (by decide) (by decide)]; congr 4
  obtain ⟨v, ev, h9⟩ : ∃ v : Nat, dIx (.lst [.int ((1 + w : Nat) : Int), .int ((r + w / 3 : Nat) : Int), .int ((9 - r : Nat) : Int), .int ((1 + w / 3 : Nat) : Int)]) (.int (i : Int)) = okI (v : Nat) ∧ v ≤ 9 := by
    match i, hi with
    | 0, _ => exact ⟨_, ix_l0, by omega⟩
    | 1, _ => exact ⟨_, ix_l1, by omega⟩
    | 2, _ => exact ⟨_, ix_l2, by omega⟩
    | 3, _ => exact ⟨_, a09 (n := 3) rfl, by omega⟩
    | n + 4, hi => omega
  exact ⟨v, a1v rfl (a0e (a0N (a1f rfl (a0f rfl rfl rfl) rfl dw)) (a1J (a0f (s := .own (.lst [.int ((1 + w : Nat) : Int), .int ((r + w / 3 : Nat) : Int), .int ((9 - r : Nat) : Int), .int ((1 + w / 3 : Nat) : Int)])) (a7Q (a0f rfl rfl (a5u 1 w)) (a0f rfl (a0f rfl rfl hd) (a5u r (w / 3))) (a0f rfl rfl (subN' (a := 9) (by omega))) (a0f rfl (a0f rfl rfl hd) (a5u 1 (w / 3))) rfl) (a1f rfl rfl rfl di) ev))), h9⟩
theorem letterK {b : Nat} (h : b < 6) : ∃ c : Nat, dIx (.str (Str.ofString "klmnop")) (.int (b : Int)) = okD (.str ⟨#[c]⟩) := by
  match b, h with
  | 0, _ => exact ⟨107, rfl⟩
  | 1, _ => exact ⟨108, rfl⟩
  | 2, _ => exact ⟨109, rfl⟩
  | 3, _ => exact ⟨110, rfl⟩
  | 4, _ => exact ⟨111, rfl⟩
  | 5, _ => exact ⟨112, rfl⟩
def ROk (r : Rw) : Prop := r.rk ≤ 9 ∧ r.pl.length ≤ 12 ∧ ∀ q ∈ r.pl, q.2 < 128
abbrev ρP (ns : List Int) (bs : List Bx) (long bells : Nat) (rows : List Rw) (r : Nat) (pl : List Pl) (e7 e8 : Option S) : MEnv :=
  [some (.sh (.lst (ns.map D.int))), some (.sh (.int long)), some (.sh (a1T bs)), some (.sh (.int bells)), some (.own (.lst (rows.map Rw.d))), some (.sh (.int r)), some (.own (.lst (pl.map plD))), e7, e8]
theorem row_ok (hb : a7V bs) (h1 : 1 ≤ bs.length) {long bells r : Nat} (hr : r ≤ 6) (hbl : bells ≤ 6) {rows : List Rw} {many : Nat} (hm : many ≤ 12) (e7 e8 : Option S) :
    ∃ (pl : List Pl) (e7' e8' : Option S), pl.length = many ∧ (∀ q ∈ pl, q.2 < 128) ∧ forD (a0F 7) a2H (rng 0 many) (ρP ns bs long bells rows r [] e7 e8) = some (.next (ρP ns bs long bells rows r pl e7' e8')) := by
  obtain ⟨ρ', e, pl, e7', e8', hl, hq, rfl⟩ := a3q (bd := a0F 7) (body := a2H) (fun k ρ => ∃ (pl : List Pl) (e7 e8 : Option S), pl.length = k ∧ (∀ q ∈ pl, q.2 < 128) ∧ ρ = ρP ns bs long bells rows r pl e7 e8) many (ρ := ρP ns bs long bells rows r [] e7 e8) ⟨[], e7, e8, rfl, fun _ h => (nomatch h), rfl⟩ (by
    rintro p ρ hp ⟨pl, e7, e8, hl, hq, rfl⟩
    obtain ⟨a, ha⟩ : ∃ a : Int, a = 100 + 200 * (r : Int) + 12 * (p : Int) := ⟨_, rfl⟩
    obtain ⟨dd, ok, ed⟩ := deed_ok (ns := ns) hb h1 (k := a) (by omega) (by omega)
    obtain ⟨w, ew, hw⟩ := shut_ok (ns := ns) (k := a + 7) (bells := bells) (by omega) (by omega) hbl
    refine ⟨_, _, rfl, a0e (a0N (s := .sh (.int a)) ?_) (a2O (ds := pl.map plD) (s := .sh (plD (dd, w))) rfl (tup2 (s1 := .sh dd.d) (s2 := .sh (.int (w : Int))) (a1f rfl rfl rfl ed) (a1f rfl (a0f rfl rfl rfl) rfl ew)) (by rw [List.length_map]; exact Nat.lt_of_lt_of_le (by omega : pl.length < 12) (by decide))), pl ++ [(dd, w)], some (.sh (.int p)), some (.sh (.int a)), by rw [List.length_append, hl]; rfl, fun q h => ?_, by unfold ρP; rw [List.map_append (l₁ := pl)]; rfl⟩
    · rw [ha]; exact a0f (a0f rfl (a0f rfl rfl (mulL (by decide) (by decide))) rfl) (a0f rfl rfl (mulL (by decide) (by decide))) rfl
    · rcases List.mem_append.mp h with h | h
      · exact hq q h
      · rw [List.mem_singleton.mp h]; exact hw)
  exact ⟨pl, e7', e8', hl, hq, e⟩
theorem a6A {long : Nat} (h1 : 1 ≤ long) (h2 : long ≤ 12) : ∃ (bs : List Bx) (rs : List Rw), a1w [.lst (ns.map D.int), .int long] = okD (a0O bs rs) ∧ 1 ≤ rs.length ∧ rs.length ≤ 7 ∧ ∀ r ∈ rs, ROk r := by
  obtain ⟨bs, ebs, hl, hb⟩ := boxes_ok (ns := ns)
  obtain ⟨bells, db, hbl⟩ := a2E (ns := ns) (k := 6) (m := 7) (by decide) (by decide) (by decide)
  obtain ⟨ρ', e, rs, e5, e6, e7, e8, hl', hq, rfl⟩ := a3q (bd := a0F 5) (body := a32) (fun k ρ => ∃ (rs : List Rw) (e5 e6 e7 e8 : Option S), rs.length = k ∧ (∀ r ∈ rs, ROk r) ∧ ρ = [some (.sh (.lst (ns.map D.int))), some (.sh (.int long)), some (.sh (a1T bs)), some (.sh (.int bells)), some (.own (.lst (rs.map Rw.d))), e5, e6, e7, e8]) (bells + 1)
    (ρ := [some (.sh (.lst (ns.map D.int))), some (.sh (.int long)), some (.sh (a1T bs)), some (.sh (.int bells)), some (.own (.lst [])), none, none, none, none]) ⟨[], none, none, none, none, rfl, fun _ h => (nomatch h), rfl⟩ (by
    rintro r ρ hr ⟨rs, e5, e6, e7, e8, hl', hq, rfl⟩
    obtain ⟨m, dm, hm⟩ := a2E (ns := ns) (k := 70 + (r : Int)) (m := (long : Int)) (by omega) (by omega) (by omega)
    obtain ⟨pl, e7', e8', hpl, hpq, el⟩ := row_ok (ns := ns) (long := long) (bells := bells) (r := r) (rows := rs) (many := 1 + m) hb hl (by omega) (by omega) (by omega) e7 e8
    have rg : a1t (eBin dAdd (eC (.int 1)) (a0j a0i [(eVar 0), (eBin dAdd (eC (.int 70)) (eVar 5)), (eVar 1)])) (ρP ns bs long bells rs r [] e7 e8) = some (.ok (rng 0 ((1 + m : Nat) : Int))) := a23 (a0f rfl (a1f rfl (a0f rfl rfl rfl) rfl dm) (a5u 1 m)) (a1q (by omega))
    by_cases c : r = 0
    · refine ⟨_, _, rfl, a0e (a0N rfl) (a0e (a3z rg el) (if_t (a0f rfl rfl (eq_t (by omega))) (a3r (a2O (ds := rs.map Rw.d) (s := .sh (Rw.d ⟨Str.ofString "main", 0, pl⟩)) rfl (a1f rfl rfl (a3t rfl rfl) rfl) (by rw [List.length_map]; exact Nat.lt_of_lt_of_le (by omega : rs.length < 8) (by decide)))))), rs ++ [⟨Str.ofString "main", 0, pl⟩], _, _, _, _, by rw [List.length_append, hl']; rfl, fun R hR => ?_, by rw [List.map_append (l₁ := rs)]; rfl⟩
      rcases List.mem_append.mp hR with h | h
      · exact hq R h
      · rw [List.mem_singleton.mp h]; exact ⟨Nat.zero_le _, by show pl.length ≤ 12; omega, hpq⟩
    · obtain ⟨n, en, h9⟩ := rank_ok (ns := ns) (r := r) (by omega)
      obtain ⟨ch, ech⟩ := letterK (b := r - 1) (by omega)
      obtain ⟨y, ey⟩ := mulS_e (x := ⟨#[ch]⟩) (n := 1 + r % 2) rfl (by omega)
      have hmd : dMod (.int (r : Int)) (.int 2) = okI ((r % 2 : Nat) : Int) := by rw [a2j (by decide)]; congr 4
      refine ⟨_, _, rfl, a0e (a0N rfl) (a0e (a3z rg el) (if_f (a0f rfl rfl (eq_f (by omega))) (a3r (a2O (ds := rs.map Rw.d) (s := .sh (Rw.d ⟨y, n, pl⟩)) rfl (a1f (a0f (a0f rfl (a0f rfl rfl (subN' (a := r) (b := 1) (by omega))) ech) (a0f rfl (a0f rfl rfl hmd) (a5u 1 (r % 2))) ey) (a21 rfl rfl en) (a3t rfl rfl) rfl) (by rw [List.length_map]; exact Nat.lt_of_lt_of_le (by omega : rs.length < 8) (by decide)))))), rs ++ [⟨y, n, pl⟩], _, _, _, _, by rw [List.length_append, hl']; rfl, fun R hR => ?_, by rw [List.map_append (l₁ := rs)]; rfl⟩
      rcases List.mem_append.mp hR with h | h
      · exact hq R h
      · rw [List.mem_singleton.mp h]; exact ⟨h9, by show pl.length ≤ 12; omega, hpq⟩)
  exact ⟨bs, rs, a1v rfl (a0e (a0N (a3t rfl ebs)) (a0e (a0N (a1f rfl rfl rfl db)) (a0e (a0N rfl) (a0e (a3z (a23 (a0f rfl rfl (a5u bells 1)) (a1q (by omega))) e) (a3r (a1J (tup2 (s1 := .sh (a1T bs)) (s2 := .sh (.tup (rs.map Rw.d))) rfl (a3t rfl rfl)))))))), by omega, by omega, hq⟩
end
end Bell
namespace Bell
open PySem L3
abbrev a0H (rs : List Rw) (k : Nat) : Rw := rs.getD k ⟨Str.empty, 0, []⟩
theorem a51 {rs : List Rw} {k : Nat} (h : k < rs.length) : rs[k] = a0H rs k := by
  unfold a0H; rw [List.getD_eq_getElem?_getD, List.getElem?_eq_getElem h]; rfl
theorem a47 {rs : List Rw} {k : Nat} (h : k < rs.length) : dIx (.tup (rs.map Rw.d)) (.int k) = okD (a0H rs k).d := ix_tup (by rw [List.getElem?_map, List.getElem?_eq_getElem h, a51 h]; rfl)
theorem a7x (l : List Pl) : dLen (.tup (l.map plD)) = okI (l.length : Nat) := by rw [a3F, List.length_map]
def wdAt (rs : List Rw) (r p : Nat) : Nat := ((a0H rs r).pl[p]?.map (·.2)).getD 0
def cntN (rs : List Rw) (r : Nat) : Nat := if r = 0 then (a0H rs r).pl.length + 1 else (a0H rs r).pl.length
def goN (rs : List Rw) (r s k : Nat) : Bool := decide ((a0H rs r).rk < (a0H rs k).rk) && !s.testBit k
abbrev T3 := Nat × Nat × Nat
def t3D (t : T3) : D := .tup [.int t.1, .int t.2.1, .int t.2.2]
def a2C (rs : List Rw) (r p s : Nat) (l : List Nat) : List T3 := (l.filter fun k => goN rs r s (1 + k)).map fun k => (p, 1 + k, s)
def atN (rs : List Rw) (r w p : Nat) : List T3 := a2C rs r p (w ||| wdAt rs r p) (List.range (rs.length - 1))
def a2t (rs : List Rw) (r w : Nat) : List T3 := (List.range (cntN rs r)).flatMap (atN rs r w)
section
variable {bs : List Bx} {rs : List Rw} {r w : Nat}
theorem stand_eq (h : r < rs.length) (hl : (a0H rs r).pl.length ≤ 12) : a0W [a0O bs rs, .int r] = okL ((List.range (cntN rs r)).map intD) := by
  have hr : a4E (.int (cntN rs r : Nat)) = okL ((List.range (cntN rs r)).map intD) := by
    have hc : cntN rs r ≤ 13 := by unfold cntN; split <;> omega
    show (if a20 (cntN rs r : Nat) = true ∧ ((cntN rs r : Nat) : Int).toNat ≤ lim then okL (rng 0 (cntN rs r : Nat)) else none) = _
    rw [if_pos ⟨a1q (by omega), by rw [Int.toNat_natCast]; exact Nat.le_trans hc (by decide)⟩, rng0]
  have hif : eIf (eBin dEq (eVar 1) (eC (.int 0))) (eBin dAdd (eVar 2) (eC (.int 1))) (eVar 2) [some (.sh (a0O bs rs)), some (.sh (.int r)), some (.sh (.int ((a0H rs r).pl.length : Nat)))] = okI (cntN rs r : Nat) := by
    unfold cntN
    by_cases c : r = 0
    · rw [if_pos c]; exact ifE_t (a0f rfl rfl (eq_t (by omega))) (a0f rfl rfl (a5u _ 1))
    · rw [if_neg c]; exact ifE_f (a0f rfl rfl (eq_f (by omega))) rfl
  exact a1v rfl (a0e (a0N (lenB (a0f (a0f (a0f rfl rfl a3o) rfl (a47 h)) rfl a6S) (a7x _))) (a1J (un_e hif hr)))
theorem word_eq (h : r < rs.length) (p : Nat) : a2D [a0O bs rs, .int r, .int p] = okI (wdAt rs r p : Nat) := by
  have pe : a2o [a0O bs rs, .int r] = okD (.tup ((a0H rs r).pl.map plD)) := a1v rfl (a1J (a0f (a0f (a0f rfl rfl a3o) rfl (a47 h)) rfl a6S))
  refine a1v rfl (a0e (a0N (a21 rfl rfl pe)) (a1J (s := .sh (.int (wdAt rs r p : Nat))) ?_))
  by_cases c : p < (a0H rs r).pl.length
  · have hq : (a0H rs r).pl[p]? = some (a0H rs r).pl[p] := List.getElem?_eq_getElem c
    have e : wdAt rs r p = (a0H rs r).pl[p].2 := by unfold wdAt; rw [hq]; rfl
    rw [e]
    exact ifE_t (a0f rfl (lenB (a4c rfl) (a7x _)) (lt_t (by omega))) (a0f (a0f rfl rfl (ix_tup (d := plD (a0H rs r).pl[p]) (by rw [List.getElem?_map, hq]; rfl))) rfl a3o)
  · have e : wdAt rs r p = 0 := by unfold wdAt; rw [List.getElem?_eq_none (by omega)]; rfl
    rw [e]
    exact ifE_f (a0f rfl (lenB (a4c rfl) (a7x _)) (lt_f (by omega))) rfl
abbrev ρS (bs : List Bx) (rs : List Rw) (r w : Nat) (l : List T3) (e5 e6 e7 : Option S) : MEnv := [some (.sh (a0O bs rs)), some (.sh (.int r)), some (.sh (.int w)), some (.sh (.tup (rs.map Rw.d))), some (.own (.lst (l.map t3D))), e5, e6, e7]
theorem a49 (p s : Nat) (l : List Nat) : (a2C rs r p s l).length ≤ l.length := by unfold a2C; rw [List.length_map]; exact List.length_filter_le _ _
theorem a6n (q : List Nat) : (q.flatMap (atN rs r w)).length ≤ (rs.length - 1) * q.length := by
  induction q with
  | nil => exact Nat.zero_le _
  | cons a q ih =>
    have := a49 (rs := rs) (r := r) a (w ||| wdAt rs r a) (List.range (rs.length - 1))
    rw [List.length_range] at this
    rw [List.flatMap_cons, List.length_append, List.length_cons, Nat.mul_succ]
    have ha : (atN rs r w a).length ≤ rs.length - 1 := this
    omega
theorem go_e {ρ : MEnv} {k s : Nat} (h : r < rs.length) (hk : k < rs.length) {i3 i1 i7 i6 : Nat} (h3 : ρ[i3]? = some (some (.sh (.tup (rs.map Rw.d))))) (h1 : ρ[i1]? = some (some (.sh (.int r)))) (h7 : ρ[i7]? = some (some (.sh (.int k)))) (h6 : ρ[i6]? = some (some (.sh (.int s)))) :
    eAnd (eBin dGt (eBin dIx (eBin dIx (eVar i3) (eVar i7)) (eC (.int 1))) (eBin dIx (eBin dIx (eVar i3) (eVar i1)) (eC (.int 1)))) (eBin dEq (eBin a3s (eBin dShr (eVar i6) (eVar i7)) (eC (.int 1))) (eC (.int 0))) ρ = okB (goN rs r s k) := by
  have a1 : eBin dIx (eBin dIx (eVar i3) (eVar i7)) (eC (.int 1)) ρ = okI ((a0H rs k).rk : Nat) := a0f (a0f (a2P h3) (a2P h7) (a47 hk)) rfl a3o
  have a2 : eBin dIx (eBin dIx (eVar i3) (eVar i1)) (eC (.int 1)) ρ = okI ((a0H rs r).rk : Nat) := a0f (a0f (a2P h3) (a2P h1) (a47 h)) rfl a3o
  have a3 := bit_eq0 (ρ := ρ) (w := s) (k := k) (a2P h6) (a2P h7)
  unfold goN
  by_cases c : (a0H rs r).rk < (a0H rs k).rk
  · rw [decide_eq_true c, Bool.true_and]; exact a34 (a0f a1 a2 (gt_t (by omega))) a3
  · rw [decide_eq_false c, Bool.false_and]; exact a2s (a0f a1 a2 (gt_f (by omega)))
theorem steps_eq (h : r < rs.length) (h7 : rs.length ≤ 7) (hl : (a0H rs r).pl.length ≤ 12) : a1F [a0O bs rs, .int r, .int w] = okD (.lst ((a2t rs r w).map t3D)) := by
  have hc : cntN rs r ≤ 13 := by unfold cntN; split <;> omega
  obtain ⟨ρ', e, e5, e6, e7, rfl⟩ := a2n (bd := a0F 5) (body := a5i) intD (fun q ρ => ∃ e5 e6 e7 : Option S, ρ = ρS bs rs r w (q.flatMap (atN rs r w)) e5 e6 e7) (List.range (cntN rs r)) (ρ := ρS bs rs r w [] none none none) ⟨none, none, none, rfl⟩ (by
    rintro q p post ρ hq ⟨e5, e6, e7, rfl⟩
    have hql : q.length ≤ 13 := by have := congrArg List.length hq; rw [List.length_range, List.length_append] at this; omega
    have hfl := a6n (rs := rs) (r := r) (w := w) q
    have hmul : (rs.length - 1) * q.length ≤ 6 * 13 := Nat.mul_le_mul (by omega) hql
    obtain ⟨ρ2, e2, e7', rfl⟩ := a2n (bd := a0F 7) (body := a5j) (fun k : Nat => D.int ((1 + k : Nat) : Int)) (fun u ρ => ∃ e7 : Option S, ρ = ρS bs rs r w (q.flatMap (atN rs r w) ++ a2C rs r p (w ||| wdAt rs r p) u) (some (.sh (.int p))) (some (.sh (.int (w ||| wdAt rs r p : Nat)))) e7) (List.range (rs.length - 1)) (ρ := ρS bs rs r w (q.flatMap (atN rs r w)) (some (.sh (.int p))) (some (.sh (.int (w ||| wdAt rs r p : Nat)))) e7) ⟨e7, by unfold a2C; simp⟩ (by
      rintro u k post' ρ hu ⟨e7, rfl⟩
      have hk : 1 + k < rs.length := by
        have : k ∈ List.range (rs.length - 1) := by rw [hu]; simp
        have := List.mem_range.mp this
        omega
      have hul : u.length ≤ 6 := by have := congrArg List.length hu; rw [List.length_range, List.length_append] at this; omega
      have hil := a49 (rs := rs) (r := r) p (w ||| wdAt rs r p) u
      have cond := go_e (rs := rs) (r := r) (k := 1 + k) (s := w ||| wdAt rs r p) (ρ := ρS bs rs r w (q.flatMap (atN rs r w) ++ a2C rs r p (w ||| wdAt rs r p) u) (some (.sh (.int p))) (some (.sh (.int (w ||| wdAt rs r p : Nat)))) (some (.sh (.int ((1 + k : Nat) : Int))))) (i3 := 3) (i1 := 1) (i7 := 7) (i6 := 6) h hk rfl rfl rfl rfl
      have snoc : a2C rs r p (w ||| wdAt rs r p) (u ++ [k]) = a2C rs r p (w ||| wdAt rs r p) u ++ (if goN rs r (w ||| wdAt rs r p) (1 + k) = true then [(p, 1 + k, w ||| wdAt rs r p)] else []) := by
        unfold a2C
        rw [List.filter_append, List.map_append, List.filter_cons, List.filter_nil]
        split <;> rfl
      cases hg : goN rs r (w ||| wdAt rs r p) (1 + k) with
      | true =>
        rw [hg] at cond
        refine ⟨_, _, rfl, .inl (if_t cond (a2O (s := .sh (t3D (p, 1 + k, w ||| wdAt rs r p))) rfl (a1f rfl rfl rfl rfl) (by rw [List.length_map, List.length_append]; exact Nat.lt_of_lt_of_le (by omega : _ < 100) (by decide)))), some (.sh (.int ((1 + k : Nat) : Int))), ?_⟩
        rw [snoc, hg, if_pos rfl, ← List.append_assoc]
        unfold ρS
        rw [List.map_append (l₂ := [(p, 1 + k, w ||| wdAt rs r p)])]
        rfl
      | false =>
        rw [hg] at cond
        refine ⟨_, _, rfl, .inl (if_f cond rfl), some (.sh (.int ((1 + k : Nat) : Int))), ?_⟩
        rw [snoc, hg, if_neg Bool.false_ne_true, List.append_nil]
        rfl)
    have rg : a1V (eC (.int 1)) (a0m (f1 dLen) [(eAny 3)]) (ρS bs rs r w (q.flatMap (atN rs r w)) (some (.sh (.int p))) (some (.sh (.int (w ||| wdAt rs r p : Nat)))) e7) = some (.ok ((List.range (rs.length - 1)).map fun k : Nat => D.int ((1 + k : Nat) : Int))) := by
      rw [← rngN 1 rs.length]
      exact a53 rfl (lenB (a4c rfl) (by show dLen (.tup (rs.map Rw.d)) = _; rw [a3F, List.length_map])) (by decide) (a1q (by omega))
    refine ⟨_, _, rfl, .inl (a0e (a0N (a0f rfl (a1f rfl rfl rfl (word_eq h p)) (a7R _ _))) (a3z rg e2)), some (.sh (.int p)), some (.sh (.int (w ||| wdAt rs r p : Nat))), e7', ?_⟩
    rw [List.flatMap_append, List.flatMap_cons, List.flatMap_nil, List.append_nil]
    rfl)
  exact a1v rfl (a0e (a0N (a0f rfl rfl a3o)) (a0e (a0N rfl) (a0e (a3z (a3x (a21 rfl rfl (stand_eq h hl)) rfl) e) (a3r (a1J rfl)))))
end
end Bell
namespace Bell
open PySem L3
def keyN (a b : Nat) : List Int := [(a : Int), (b : Int)]
theorem a4B {a b c d : Nat} (h : keyN a b = keyN c d) : a = c ∧ b = d := by
  unfold keyN at h
  have h1 := (List.cons.inj h).1
  have h2 := (List.cons.inj (List.cons.inj h).2).1
  omega
structure a1R (rs : List Rw) (kvs : Tb) : Prop where
  keys : ∀ p ∈ kvs, ∃ a b : Nat, p.1 = keyN a b ∧ a < rs.length ∧ b < 128 ∧ 0 ≤ p.2 ∧ ∀ t ∈ a2t rs a b, ∃ d', getI kvs (keyN t.2.1 t.2.2) = some d' ∧ d' < p.2
  nd : (kvs.map (·.1)).Nodup
theorem a6j {kvs : Tb} {k : List Int} {v : Int} (h : getI kvs k = some v) : (k, v) ∈ kvs := by
  unfold getI at h
  cases hf : kvs.find? fun p => decide (p.1 = k) with
  | none => rw [hf] at h; cases h
  | some p =>
    rw [hf] at h
    cases h
    have h1 := List.mem_of_find?_eq_some hf
    have h2 : p.1 = k := by have := List.find?_some hf; exact of_decide_eq_true this
    rw [← h2]; exact h1
theorem a5a {kvs : Tb} {k : List Int} (h : getI kvs k = none) : k ∉ kvs.map (·.1) := fun hm => by
  obtain ⟨p, hp, e⟩ := List.mem_map.mp hm
  unfold getI at h
  have := List.find?_eq_none.mp (Option.map_eq_none_iff.mp h) p hp
  exact this (decide_eq_true e)
theorem a29 {kvs : Tb} {k j : List Int} {v : Int} (h : getI kvs k = none) : getI (kvs ++ [(k, v)]) j = if j = k then some v else getI kvs j := by
  unfold getI at h ⊢
  rw [List.find?_append]
  by_cases c : j = k
  · subst c
    rw [if_pos rfl, Option.map_eq_none_iff.mp h]
    simp
  · rw [if_neg c]
    cases hf : kvs.find? fun p => decide (p.1 = j) with
    | some p => rfl
    | none =>
      have : ¬ k = j := fun z => c z.symm
      simp [this]
theorem a54 {kvs : Tb} {k : List Int} {v : Int} (h : getI kvs k = none) : putI kvs k v = kvs ++ [(k, v)] := by
  unfold putI
  have : (kvs.any fun p => decide (p.1 = k)) = false := by
    rw [Bool.eq_false_iff]
    intro z
    obtain ⟨p, hp, e⟩ := List.any_eq_true.mp z
    exact a5a h (List.mem_map.mpr ⟨p, hp, of_decide_eq_true e⟩)
  rw [this]
  rfl
theorem a3Q : ∀ (N : Nat) (l : List Nat), l.Nodup → (∀ x ∈ l, x < N) → l.length ≤ N
  | 0, l, _, h => by
    cases l with
    | nil => exact Nat.le_refl _
    | cons a l => exact absurd (h a List.mem_cons_self) (Nat.not_lt_zero _)
  | N + 1, l, nd, h => by
    by_cases c : N ∈ l
    · have h1 := a3Q N (l.erase N) (nd.erase N) fun x hx => by
        have hx' := (nd.mem_erase_iff).mp hx
        have := h x hx'.2
        have := hx'.1
        omega
      rw [List.length_erase_of_mem c] at h1
      omega
    · have := a3Q N l nd fun x hx => by
        have h1 := h x hx
        have : x ≠ N := fun z => c (z ▸ hx)
        omega
      omega
theorem a1R.len {rs : List Rw} {kvs : Tb} (g : a1R rs kvs) (h7 : rs.length ≤ 7) : kvs.length ≤ 896 := by
  have enc : ∀ k : List Int, ∃ n : Nat, n = ((k.getD 0 0) * 128 + k.getD 1 0).toNat := fun k => ⟨_, rfl⟩
  have hl := a3Q 896 ((kvs.map (·.1)).map fun k => ((k.getD 0 0) * 128 + k.getD 1 0).toNat) (by
    rw [List.nodup_iff_pairwise_ne, List.pairwise_map]
    have hnd := g.nd
    rw [List.nodup_iff_pairwise_ne] at hnd
    refine List.Pairwise.imp_of_mem (fun {x y} hx hy hne z => ?_) hnd
    obtain ⟨p, hp, rfl⟩ := List.mem_map.mp hx
    obtain ⟨q, hq, rfl⟩ := List.mem_map.mp hy
    obtain ⟨a, b, e1, _, h1, _⟩ := g.keys p hp
    obtain ⟨c, d, e2, _, h2, _⟩ := g.keys q hq
    apply hne
    rw [e1, e2] at z ⊢
    have z : ((a : Int) * 128 + (b : Int)).toNat = ((c : Int) * 128 + (d : Int)).toNat := z
    have : a = c ∧ b = d := by omega
    rw [this.1, this.2]) fun n hn => by
    obtain ⟨k, hk, rfl⟩ := List.mem_map.mp hn
    obtain ⟨p, hp, rfl⟩ := List.mem_map.mp hk
    obtain ⟨a, b, e1, h1, h2, _⟩ := g.keys p hp
    rw [e1]
    show ((a : Int) * 128 + (b : Int)).toNat < 896
    omega
  rw [List.length_map, List.length_map] at hl
  exact hl
theorem a1R.get {rs : List Rw} {kvs : Tb} (g : a1R rs kvs) {a b : Nat} {v : Int} (h : getI kvs (keyN a b) = some v) : a < rs.length ∧ b < 128 ∧ 0 ≤ v ∧ ∀ t ∈ a2t rs a b, ∃ d', getI kvs (keyN t.2.1 t.2.2) = some d' ∧ d' < v := by
  obtain ⟨c, d, e, h1, h2, h3, h4⟩ := g.keys _ (a6j h)
  obtain ⟨rfl, rfl⟩ := a4B e
  exact ⟨h1, h2, h3, h4⟩
theorem a1R.put {rs : List Rw} {kvs : Tb} (g : a1R rs kvs) {a b : Nat} {v : Int} (h : getI kvs (keyN a b) = none) (ha : a < rs.length) (hb : b < 128) (hv : 0 ≤ v) (hs : ∀ t ∈ a2t rs a b, ∃ d', getI kvs (keyN t.2.1 t.2.2) = some d' ∧ d' < v) : a1R rs (kvs ++ [(keyN a b, v)]) := by
  have up : ∀ {k : List Int} {d : Int}, getI kvs k = some d → getI (kvs ++ [(keyN a b, v)]) k = some d := fun {k d} z => by
    rw [a29 h, if_neg fun y => by rw [y, h] at z; cases z]; exact z
  refine ⟨fun p hp => ?_, ?_⟩
  · rcases List.mem_append.mp hp with hp | hp
    · obtain ⟨c, d, e, h1, h2, h3, h4⟩ := g.keys p hp
      exact ⟨c, d, e, h1, h2, h3, fun t ht => let ⟨x, y, z⟩ := h4 t ht; ⟨x, up y, z⟩⟩
    · rw [List.mem_singleton.mp hp]
      exact ⟨a, b, rfl, ha, hb, hv, fun t ht => let ⟨x, y, z⟩ := hs t ht; ⟨x, up y, z⟩⟩
  · rw [List.map_append]
    exact List.nodup_append.mpr ⟨g.nd, by simp, fun x hx y hy z => by
      have : y = keyN a b := List.mem_singleton.mp hy
      subst z
      rw [this] at hx
      exact a5a h hx⟩
structure a3v (rs : List Rw) (rk : Nat) (kvs kvs' : Tb) : Prop where
  ext : ∀ k v, getI kvs k = some v → getI kvs' k = some v
  new : ∀ a b v, getI kvs' (keyN a b) = some v → getI kvs (keyN a b) = none → rk ≤ (a0H rs a).rk
theorem a3v.refl {rs : List Rw} {rk : Nat} (kvs : Tb) : a3v rs rk kvs kvs := ⟨fun _ _ h => h, fun a b v h h' => by rw [h] at h'; cases h'⟩
theorem a3v.trans {rs : List Rw} {rk : Nat} {k1 k2 k3 : Tb} (x : a3v rs rk k1 k2) (y : a3v rs rk k2 k3) : a3v rs rk k1 k3 :=
  ⟨fun k v h => y.ext k v (x.ext k v h), fun a b v h h' => by
    cases z : getI k2 (keyN a b) with
    | none => exact y.new a b v h z
    | some u => exact x.new a b u z h'⟩
theorem a3v.le {rs : List Rw} {i j : Nat} {k1 k2 : Tb} (x : a3v rs j k1 k2) (h : i ≤ j) : a3v rs i k1 k2 := ⟨x.ext, fun a b v h1 h2 => Nat.le_trans h (x.new a b v h1 h2)⟩
end Bell
namespace Bell
open PySem L3
theorem has_e {n : Bool} {i : Nat} {g : ME} {ρ : MEnv} {o : O} {kvs : Tb} {ks : List Int} (h : a2G i ρ = some (o, kvs)) (hk : g ρ = okD (.tup (ks.map D.int))) : eHas n i g ρ = okB (n != (getI kvs ks).isSome) := by
  unfold eHas
  rw [h]
  show (a2B (g ρ)).bind _ = _
  rw [hk, a2c]
  rfl
theorem at_e {i : Nat} {g : ME} {ρ : MEnv} {o : O} {kvs : Tb} {ks : List Int} {v : Int} (h : a2G i ρ = some (o, kvs)) (hk : g ρ = okD (.tup (ks.map D.int))) (hv : getI kvs ks = some v) : eAt i g ρ = okI v := by
  unfold eAt
  rw [h]
  show (a2B (g ρ)).bind _ = _
  rw [hk, a2c]
  show (getI kvs ks).bind okI = _
  rw [hv]
  rfl
theorem putC_s {i : Nat} {gk ge : ME} {ρ : MEnv} {o : O} {kvs : Tb} {ks : List Int} {v : Int} (h : a2G i ρ = some (o, kvs)) (hk : gk ρ = okD (.tup (ks.map D.int))) (hv : ge ρ = okI v) (hl : kvs.length < lim) : a4S i gk ge ρ = some (.next (ρ.set i (some (.own (o.put (.dic (putI kvs ks v))))))) := by
  unfold a4S
  rw [hv]
  show (a2G i ρ).bind _ = _
  rw [h]
  show (a2B (gk ρ)).bind _ = _
  rw [hk, a2c]
  exact if_pos hl
theorem retP_s {j : Nat} {e : ME} {ρ : MEnv} {s : S} {a : Nat} {o : O} (h : e ρ = some (.ok s)) (h2 : ρ[j]? = some (some (.own (.par a o)))) : sRetP j e ρ = some (.ret (.two s.val a o)) := by
  unfold sRetP
  rw [h]
  show (match ρ[j]? with | some (some (.own (.par a o))) => some (Out.ret (.two s.val a o)) | _ => none) = _
  rw [h2]
theorem a3W : ∀ vs : List Int, intsOf (vs.map D.int) = some vs
  | [] => rfl
  | v :: vs => by rw [List.map_cons]; unfold intsOf; rw [a3W vs]; rfl
theorem a4K {ρ : MEnv} {i j : Nat} {a b : Nat} (h1 : ρ[i]? = some (some (.sh (.int (a : Int))))) (h2 : ρ[j]? = some (some (.sh (.int (b : Int))))) : eTup [(eVar i), (eVar j)] ρ = okD (.tup ((keyN a b).map D.int)) := tup2 (a2P h1) (a2P h2)
structure PgK (rs : List Rw) : Prop where
  n1 : 1 ≤ rs.length
  n7 : rs.length ≤ 7
  row : ∀ r ∈ rs, ROk r
theorem PgK.at {rs : List Rw} (g : PgK rs) {r : Nat} (h : r < rs.length) : ROk (a0H rs r) := g.row _ (by rw [← a51 h]; exact List.getElem_mem h)
section
variable {bs : List Bx} {rs : List Rw}
theorem wd_lt (g : PgK rs) {r : Nat} (h : r < rs.length) (p : Nat) : wdAt rs r p < 128 := by
  unfold wdAt
  cases hq : (a0H rs r).pl[p]? with
  | none => decide
  | some q => exact (g.at h).2.2 q (List.mem_of_getElem? hq)
theorem a68 (g : PgK rs) {r w : Nat} (h : r < rs.length) (hw : w < 128) {t : T3} (ht : t ∈ a2t rs r w) : t.2.1 < rs.length ∧ (a0H rs r).rk < (a0H rs t.2.1).rk ∧ t.2.2 < 128 := by
  unfold a2t at ht
  obtain ⟨p, hp, ht⟩ := List.mem_flatMap.mp ht
  unfold atN a2C at ht
  obtain ⟨k, hk, rfl⟩ := List.mem_map.mp ht
  obtain ⟨h1, h2⟩ := List.mem_filter.mp hk
  have h1 := List.mem_range.mp h1
  have h2 : goN rs r (w ||| wdAt rs r p) (1 + k) = true := h2
  unfold goN at h2
  obtain ⟨h3, _⟩ := (Bool.and_eq_true _ _).mp h2
  exact ⟨by show 1 + k < rs.length; omega, of_decide_eq_true h3, Nat.or_lt_two_pow (n := 7) hw (wd_lt g h p)⟩
theorem a69 (g : PgK rs) {r w : Nat} (h : r < rs.length) : (a2t rs r w).length ≤ 78 := by
  have h1 := a6n (rs := rs) (r := r) (w := w) (List.range (cntN rs r))
  have hc : cntN rs r ≤ 13 := by have := (g.at h).2.1; unfold cntN; split <;> omega
  have := g.n7
  have h2 : (rs.length - 1) * cntN rs r ≤ 6 * 13 := Nat.mul_le_mul (by omega) hc
  rw [List.length_range] at h1
  exact Nat.le_trans h1 h2
abbrev ρM (bs : List Bx) (rs : List Rw) (r w a : Nat) (kvs : Tb) (e4 e5 : Option S) : MEnv := [some (.sh (a0O bs rs)), some (.sh (.int r)), some (.sh (.int w)), some (.own (.par a (.dic kvs))), e4, e5]
def SpecM (bs : List Bx) (rs : List Rw) (G : MF) (lo : Nat) : Prop := ∀ (r w : Nat) (kvs : Tb), r < rs.length → w < 128 → lo < (a0H rs r).rk → a1R rs kvs → ∃ (d : Int) (kvs' : Tb), G (.dic kvs) [a0O bs rs, .int r, .int w] [] = some (.int d, .dic kvs') ∧ a1R rs kvs' ∧ a3v rs (a0H rs r).rk kvs kvs' ∧ getI kvs' (keyN r w) = some d
theorem a7J (g : PgK rs) {G : MF} {r w : Nat} (h : r < rs.length) (hw : w < 128) (hG : SpecM bs rs G (a0H rs r).rk) : ∀ (ts : List T3) (kvs : Tb), (∀ t ∈ ts, t ∈ a2t rs r w) → a1R rs kvs →
    ∃ (vs : List Int) (kvs' : Tb), (∀ a : Nat, a4F [5] (a0F 5) (mBin dAdd (a3m 3 G [(eVar 0), (eBin dIx (eVar 5) (eC (.int 1))), (eBin dIx (eVar 5) (eC (.int 2)))] []) (eC (.int 1))) (ts.map t3D) (ρM bs rs r w a kvs none none) = some (vs.map D.int, ρM bs rs r w a kvs' none none)) ∧ a1R rs kvs' ∧ a3v rs ((a0H rs r).rk + 1) kvs kvs' ∧ ∀ t ∈ ts, ∃ d, getI kvs' (keyN t.2.1 t.2.2) = some d ∧ 0 ≤ d ∧ d + 1 ∈ vs
  | [], kvs, _, gk => ⟨[], kvs, fun _ => rfl, gk, .refl kvs, fun t ht => (nomatch ht)⟩
  | t :: ts, kvs, hm, gk => by
    obtain ⟨h1, h2, h3⟩ := a68 g h hw (hm t List.mem_cons_self)
    obtain ⟨d, k1, eG, g1, gr1, gd⟩ := hG t.2.1 t.2.2 kvs h1 h3 h2 gk
    obtain ⟨vs, k2, ec, g2, gr2, hd⟩ := a7J g h hw hG ts k1 (fun u hu => hm u (List.mem_cons_of_mem _ hu)) g1
    have gd2 := gr2.ext _ _ gd
    refine ⟨(d + 1) :: vs, k2, fun a => ?_, g2, (gr1.le (by omega)).trans gr2, fun u hu => ?_⟩
    · have ea : a1r [(eVar 0), (eBin dIx (eVar 5) (eC (.int 1))), (eBin dIx (eVar 5) (eC (.int 2)))] (ρM bs rs r w a kvs none (some (.sh (t3D t)))) = some [a0O bs rs, .int t.2.1, .int t.2.2] := rfl
      have el : mBin dAdd (a3m 3 G [(eVar 0), (eBin dIx (eVar 5) (eC (.int 1))), (eBin dIx (eVar 5) (eC (.int 2)))] []) (eC (.int 1)) (ρM bs rs r w a kvs none (some (.sh (t3D t)))) = some (.int (d + 1), ρM bs rs r w a k1 none (some (.sh (t3D t)))) := by
        have mc : a3m 3 G [(eVar 0), (eBin dIx (eVar 5) (eC (.int 1))), (eBin dIx (eVar 5) (eC (.int 2)))] [] (ρM bs rs r w a kvs none (some (.sh (t3D t)))) = some (.int d, ρM bs rs r w a k1 none (some (.sh (t3D t)))) := by
          show ((a1r [(eVar 0), (eBin dIx (eVar 5) (eC (.int 1))), (eBin dIx (eVar 5) (eC (.int 2)))] (ρM bs rs r w a kvs none (some (.sh (t3D t))))).bind fun ds => (some []).bind fun es => (G (.dic kvs) ds es).map fun p => (p.1, (ρM bs rs r w a kvs none (some (.sh (t3D t)))).set 3 (some (.own (O.put (.par a (.dic kvs)) p.2))))) = _
          rw [ea]
          show (G (.dic kvs) [a0O bs rs, .int t.2.1, .int t.2.2] []).map _ = _
          rw [eG]
          rfl
        unfold mBin
        rw [mc]
        rfl
      rw [List.map_cons]
      unfold a4F
      show (mBin dAdd (a3m 3 G [(eVar 0), (eBin dIx (eVar 5) (eC (.int 1))), (eBin dIx (eVar 5) (eC (.int 2)))] []) (eC (.int 1)) (ρM bs rs r w a kvs none (some (.sh (t3D t))))).bind _ = _
      rw [el]
      show (a4F [5] (a0F 5) _ (ts.map t3D) (ρM bs rs r w a k1 none none)).map _ = _
      rw [ec a]
      rfl
    · rcases List.mem_cons.mp hu with rfl | hu
      · exact ⟨d, gd2, (g2.get gd2).2.2.1, List.mem_cons_self⟩
      · obtain ⟨x, y1, y2, y3⟩ := hd u hu
        exact ⟨x, y1, y2, List.mem_cons_of_mem _ y3⟩
theorem a43 (g : PgK rs) {G : MF} {r w : Nat} {kvs : Tb} (h : r < rs.length) (hw : w < 128) (hG : SpecM bs rs G (a0H rs r).rk) (gk : a1R rs kvs) :
    ∃ (d : Int) (kvs' : Tb), fnP 3 4 6 (a1P G) (.dic kvs) [a0O bs rs, .int r, .int w] [] = some (.int d, .dic kvs') ∧ a1R rs kvs' ∧ a3v rs (a0H rs r).rk kvs kvs' ∧ getI kvs' (keyN r w) = some d := by
  cases hk : getI kvs (keyN r w) with
  | some d =>
    refine ⟨d, kvs, fnP_e rfl rfl fun a => ?_, gk, .refl _, hk⟩
    have e : a1P G (ρM bs rs r w a kvs none none) = some (.ret (.two (.int d) a (.dic kvs))) :=
      a0e (if_f (by rw [has_e (o := .par a (.dic kvs)) (kvs := kvs) (ks := keyN r w) rfl (a4K rfl rfl), hk]; rfl) rfl) (retP_s (at_e (o := .par a (.dic kvs)) (kvs := kvs) (ks := keyN r w) rfl (a4K rfl rfl) hk) rfl)
    show outP 3 a (a1P G (ρM bs rs r w a kvs none none)) = _
    rw [e]
    exact if_pos rfl
  | none =>
    obtain ⟨vs, k1, ec, g1, gr, hd⟩ := a7J (bs := bs) g h hw hG _ kvs (fun _ z => z) gk
    have hn : getI k1 (keyN r w) = none := by
      cases z : getI k1 (keyN r w) with
      | none => rfl
      | some v => have := gr.new r w v z hk; omega
    have hl := g1.len g.n7
    have hM : ∀ x ∈ vs, x ≤ maxL 0 vs := fun x hx => (a3S 0 vs (fun z => by rw [z] at hx; cases hx)).2 x hx
    have h0 : 0 ≤ maxL 0 vs := by
      by_cases z : a2t rs r w = []
      · have : vs = [] := by
          have := ec 0
          rw [z] at this
          have e2 : ([], ρM bs rs r w 0 kvs none none) = (vs.map D.int, ρM bs rs r w 0 k1 none none) := Option.some.inj this
          have e3 := (Prod.mk.inj e2).1
          cases vs with
          | nil => rfl
          | cons a b => cases e3
        rw [this]; exact Int.le_refl _
      · obtain ⟨t, ht⟩ := List.exists_mem_of_ne_nil _ z
        obtain ⟨d, _, hd0, hdm⟩ := hd t ht
        have := hM _ hdm
        omega
    have gp : a1R rs (k1 ++ [(keyN r w, maxL 0 vs)]) := g1.put hn h hw h0 fun t ht => by
      obtain ⟨d, e1, _, hdm⟩ := hd t ht
      exact ⟨d, e1, by have := hM _ hdm; omega⟩
    have gv : getI (k1 ++ [(keyN r w, maxL 0 vs)]) (keyN r w) = some (maxL 0 vs) := by rw [a29 hn, if_pos rfl]
    refine ⟨maxL 0 vs, k1 ++ [(keyN r w, maxL 0 vs)], fnP_e rfl rfl fun a => ?_, gp, ⟨fun k v z => ?_, fun a b v z z' => ?_⟩, gv⟩
    · have hst := steps_eq (bs := bs) (w := w) h g.n7 (g.at h).2.1
      have cm : a5L [5] (iSeq (a0j a1F [(eVar 0), (eVar 1), (eVar 2)])) (a0F 5) (mBin dAdd (a3m 3 G [(eVar 0), (eBin dIx (eVar 5) (eC (.int 1))), (eBin dIx (eVar 5) (eC (.int 2)))] []) (eC (.int 1))) (ρM bs rs r w a kvs none none) = some (.lst (vs.map D.int), ρM bs rs r w a k1 none none) := by
        unfold a5L
        rw [a3x (a1f rfl rfl rfl hst) rfl]
        dsimp only
        rw [if_pos ⟨by rw [List.length_map]; exact Nat.le_trans (a69 g h) (by decide), rfl⟩, ec a]
        rfl
      have s1 : a6x 4 (a5L [5] (iSeq (a0j a1F [(eVar 0), (eVar 1), (eVar 2)])) (a0F 5) (mBin dAdd (a3m 3 G [(eVar 0), (eBin dIx (eVar 5) (eC (.int 1))), (eBin dIx (eVar 5) (eC (.int 2)))] []) (eC (.int 1)))) (ρM bs rs r w a kvs none none) = some (.next (ρM bs rs r w a k1 (some (.sh (.lst (vs.map D.int)))) none)) := by
        unfold a6x
        rw [cm]
        rfl
      have mx : eUn (a5R 0) (eVar 4) (ρM bs rs r w a k1 (some (.sh (.lst (vs.map D.int)))) none) = okI (maxL 0 vs) := un_e rfl (by show (intsOf (vs.map D.int)).bind _ = _; rw [a3W]; rfl)
      have s2 := putC_s (o := .par a (.dic k1)) (ks := keyN r w) (i := 3) (gk := eTup [(eVar 1), (eVar 2)]) (ρ := ρM bs rs r w a k1 (some (.sh (.lst (vs.map D.int)))) none) rfl (a4K rfl rfl) mx (Nat.lt_of_le_of_lt hl (by decide))
      rw [a54 hn] at s2
      have e : a1P G (ρM bs rs r w a kvs none none) = some (.ret (.two (.int (maxL 0 vs)) a (.dic (k1 ++ [(keyN r w, maxL 0 vs)])))) :=
        a0e (if_t (by rw [has_e (o := .par a (.dic kvs)) (kvs := kvs) (ks := keyN r w) rfl (a4K rfl rfl), hk]; rfl) (a0e s1 (a3r s2))) (retP_s (at_e (o := .par a (.dic (k1 ++ [(keyN r w, maxL 0 vs)]))) (ks := keyN r w) rfl (a4K rfl rfl) gv) rfl)
      show outP 3 a (a1P G (ρM bs rs r w a kvs none none)) = _
      rw [e]
      exact if_pos rfl
    · have z1 := gr.ext k v z
      rw [a29 hn, if_neg fun y => by rw [y, hk] at z; cases z]
      exact z1
    · rw [a29 hn] at z
      by_cases c : keyN a b = keyN r w
      · obtain ⟨rfl, rfl⟩ := a4B c; exact Nat.le_refl _
      · rw [if_neg c] at z
        have := gr.new a b v z z'
        omega
theorem a3R (g : PgK rs) : ∀ m : Nat, ∀ (r w : Nat) (kvs : Tb), r < rs.length → w < 128 → 9 < m + (a0H rs r).rk → a1R rs kvs → ∃ (d : Int) (kvs' : Tb), (Nat.rec (motive := fun _ => MF) (fun _ _ _ => none) (fun _ G => fnP 3 4 6 (a1P G)) m : MF) (.dic kvs) [a0O bs rs, .int r, .int w] [] = some (.int d, .dic kvs') ∧ a1R rs kvs' ∧ a3v rs (a0H rs r).rk kvs kvs' ∧ getI kvs' (keyN r w) = some d
  | 0, r, w, kvs, h, _, hm, _ => by have := (g.at h).1; omega
  | m + 1, r, w, kvs, h, hw, hm, gk => a43 g h hw (fun r' w' k' h' hw' hlt gk' => a3R g m r' w' k' h' hw' (by omega) gk') gk
theorem a6K (g : PgK rs) : ∃ (d : Int) (kvs : Tb), a1Q (.dic []) [a0O bs rs, .int 0, .int 0] [] = some (.int d, .dic kvs) ∧ a1R rs kvs ∧ getI kvs (keyN 0 0) = some d := by
  obtain ⟨d, kvs, e, gk, _, h⟩ := a3R (bs := bs) g 12 0 0 [] g.n1 (by decide) (by omega) ⟨fun _ h => (nomatch h), .nil⟩
  exact ⟨d, kvs, e, gk, h⟩
end
end Bell
namespace Bell
open PySem L3
def rowK (p : List Int × Int) : D := .tup (p.1.map D.int ++ [.int p.2])
theorem a4k : ∀ {kvs : Tb} {p : List Int × Int}, (kvs.map (·.1)).Nodup → p ∈ kvs → getI kvs p.1 = some p.2
  | [], p, _, h => (nomatch h)
  | q :: kvs, p, nd, h => by
    rw [List.map_cons, List.nodup_cons] at nd
    unfold getI
    rw [List.find?_cons]
    rcases List.mem_cons.mp h with rfl | h
    · rw [decide_eq_true rfl]; rfl
    · have : q.1 ≠ p.1 := fun z => nd.1 (z ▸ List.mem_map.mpr ⟨p, h, rfl⟩)
      rw [decide_eq_false this]
      exact a4k nd.2 h
theorem atF_e {i : Nat} {g : ME} {ρ : MEnv} {kvs : Tb} {ks : List Int} {v : Int} (h : a3J i ρ = some kvs) (hk : g ρ = okD (.tup (ks.map D.int))) (hv : getI kvs ks = some v) : eAtF i g ρ = okI v := by
  unfold eAtF
  rw [h]
  show (a2B (g ρ)).bind _ = _
  rw [hk, a2c]
  show (getI kvs ks).bind okI = _
  rw [hv]
  rfl
section
variable {bs : List Bx} {rs : List Rw} {kvs : Tb}
theorem a5e (g : a1R rs kvs) : ∀ (l : Tb) (acc : List D), (∀ p ∈ l, p ∈ kvs) → acc.length + l.length ≤ lim →
    a1x (bTup [2, 3]) a3c (eTup [(eVar 2), (eVar 3), (eAtF 1 (eTup [(eVar 2), (eVar 3)]))]) [some (.sh (a0O bs rs)), some (.own (.fdic kvs)), none, none] (l.map fun p => D.tup (p.1.map D.int)) acc = okL (acc ++ l.map rowK)
  | [], acc, _, h => by
    have h : acc.length ≤ lim := h
    show (if acc.length ≤ lim then okL acc else none) = _
    rw [if_pos h, List.map_nil, List.append_nil]
  | p :: l, acc, hm, h => by
    obtain ⟨a, b, e, _⟩ := g.keys p (hm p List.mem_cons_self)
    have gv := a4k g.nd (hm p List.mem_cons_self)
    have el : eTup [(eVar 2), (eVar 3), (eAtF 1 (eTup [(eVar 2), (eVar 3)]))] [some (.sh (a0O bs rs)), some (.own (.fdic kvs)), some (.sh (.int a)), some (.sh (.int b))] = okD (rowK p) := by
      have := atF_e (i := 1) (g := eTup [(eVar 2), (eVar 3)]) (ρ := [some (.sh (a0O bs rs)), some (.own (.fdic kvs)), some (.sh (.int a)), some (.sh (.int b))]) (kvs := kvs) (ks := keyN a b) rfl (a4K rfl rfl) (by rw [← e]; exact gv)
      unfold rowK
      rw [e]
      exact a1f rfl rfl this rfl
    have ih := a5e g l (acc ++ [rowK p]) (fun q hq => hm q (List.mem_cons_of_mem _ hq)) (by rw [List.length_append, List.length_singleton]; rw [List.length_cons] at h; omega)
    rw [List.map_cons, e, List.map_cons]
    have st : a1x (bTup [2, 3]) a3c (eTup [(eVar 2), (eVar 3), (eAtF 1 (eTup [(eVar 2), (eVar 3)]))]) [some (.sh (a0O bs rs)), some (.own (.fdic kvs)), none, none] (D.tup ((keyN a b).map D.int) :: l.map fun p => D.tup (p.1.map D.int)) acc = a0L (eTup [(eVar 2), (eVar 3), (eAtF 1 (eTup [(eVar 2), (eVar 3)]))] [some (.sh (a0O bs rs)), some (.own (.fdic kvs)), some (.sh (.int a)), some (.sh (.int b))]) fun x => a1x (bTup [2, 3]) a3c (eTup [(eVar 2), (eVar 3), (eAtF 1 (eTup [(eVar 2), (eVar 3)]))]) [some (.sh (a0O bs rs)), some (.own (.fdic kvs)), none, none] (l.map fun p => D.tup (p.1.map D.int)) (acc ++ [x]) := rfl
    rw [st, el]
    show a1x _ _ _ _ _ (acc ++ [rowK p]) = _
    rw [ih, List.append_assoc]
    rfl
theorem paper_ok (g : PgK rs) : ∃ kvs : Tb, a1R rs kvs ∧ (∃ d, getI kvs (keyN 0 0) = some d) ∧ a3X [a0O bs rs] = okL (kvs.map rowK) := by
  obtain ⟨d, kvs, e, gk, hd⟩ := a6K (bs := bs) g
  have hl := gk.len g.n7
  refine ⟨kvs, gk, ⟨d, hd⟩, ?_⟩
  have mc : a3m 1 a1Q [(eVar 0), (eC (.int 0)), (eC (.int 0))] [] [some (.sh (a0O bs rs)), some (.own (.dic [])), none, none] = some (.int d, [some (.sh (a0O bs rs)), some (.own (.dic kvs)), none, none]) := by
    show (a1Q (.dic []) [a0O bs rs, .int 0, .int 0] []).map _ = _
    rw [e]
    rfl
  have s1 : a4T (a3m 1 a1Q [(eVar 0), (eC (.int 0)), (eC (.int 0))] []) [some (.sh (a0O bs rs)), some (.own (.dic [])), none, none] = some (.next [some (.sh (a0O bs rs)), some (.own (.dic kvs)), none, none]) := by
    unfold a4T
    rw [mc]
    rfl
  have ck : a3Z 1 [2, 3] (eTup [(eVar 2), (eVar 3), (eAtF 1 (eTup [(eVar 2), (eVar 3)]))]) [some (.sh (a0O bs rs)), some (.own (.fdic kvs)), none, none] = okL (kvs.map rowK) := by
    show (if kvs.length ≤ lim then a1x (bTup [2, 3]) a3c _ [some (.sh (a0O bs rs)), some (.own (.fdic kvs)), none, none] (kvs.map fun p => D.tup (p.1.map D.int)) [] else none) = _
    rw [if_pos (Nat.le_trans hl (by decide)), a5e gk kvs [] (fun _ h => h) (by rw [List.length_nil, Nat.zero_add]; exact Nat.le_trans hl (by decide)), List.nil_append]
  have fz : eFrz 1 (a3Z 1 [2, 3] (eTup [(eVar 2), (eVar 3), (eAtF 1 (eTup [(eVar 2), (eVar 3)]))])) [some (.sh (a0O bs rs)), some (.own (.dic kvs)), none, none] = okL (kvs.map rowK) := by
    show (match a3Z 1 [2, 3] (eTup [(eVar 2), (eVar 3), (eAtF 1 (eTup [(eVar 2), (eVar 3)]))]) [some (.sh (a0O bs rs)), some (.own (.fdic kvs)), none, none] with | some (.ok (.two _ _ _)) => none | r => r) = _
    rw [ck]
  exact a1v rfl (a0e rfl (a0e s1 (a1J fz)))
end
end Bell
namespace Bell
open PySem L3
theorem geD (i j : Int) : dGe (.int i) (.int j) = okB (decide (j ≤ i)) := rfl
theorem geF {i j : Int} (h : ¬ j ≤ i) : dGe (.int i) (.int j) = okB false := by rw [geD, decide_eq_false h]
theorem getI_out {kvs : Tb} {k : List Int} (h : k ∉ kvs.map (·.1)) : getI kvs k = none := by
  cases z : getI kvs k with
  | none => rfl
  | some v => exact absurd (List.mem_map.mpr ⟨_, a6j z, rfl⟩) h
def a0P (rs : List Rw) (r : Nat) : List Nat := (a0H rs r).pl.map (·.2) ++ (if r = 0 then [0] else [])
section
variable {ns : List Int} {bs : List Bx} {rs : List Rw} {kvs : Tb}
theorem a6v {r w st k : Nat} (hst : st ∈ a0P rs r) (hk : 1 + k < rs.length) (hg : goN rs r (w ||| st) (1 + k) = true) : ∃ p, (p, 1 + k, w ||| st) ∈ a2t rs r w := by
  have key : ∀ p, p < cntN rs r → wdAt rs r p = st → (p, 1 + k, w ||| st) ∈ a2t rs r w := fun p hp e => by
    unfold a2t
    refine List.mem_flatMap.mpr ⟨p, List.mem_range.mpr hp, ?_⟩
    unfold atN a2C
    rw [e]
    exact List.mem_map.mpr ⟨k, List.mem_filter.mpr ⟨List.mem_range.mpr (by omega), hg⟩, rfl⟩
  unfold a0P at hst
  rcases List.mem_append.mp hst with h | h
  · obtain ⟨q, hq, rfl⟩ := List.mem_map.mp h
    obtain ⟨p, hp, e⟩ := List.mem_iff_getElem.mp hq
    refine ⟨p, key p (by unfold cntN; split <;> omega) ?_⟩
    unfold wdAt
    rw [List.getElem?_eq_getElem hp, e]
    rfl
  · by_cases c : r = 0
    · rw [if_pos c] at h
      have h := List.mem_singleton.mp h
      subst h
      refine ⟨(a0H rs r).pl.length, key _ (by unfold cntN; rw [if_pos c]; omega) ?_⟩
      unfold wdAt
      rw [List.getElem?_eq_none (Nat.le_refl _)]
      rfl
    · rw [if_neg c] at h; cases h
theorem row3 {p : List Int × Int} {a b : Nat} (e : p.1 = keyN a b) : rowK p = .tup [.int a, .int b, .int p.2] := by unfold rowK; rw [e]; rfl
theorem rows_ok (g : PgK rs) (gk : a1R rs kvs) : a2L [a0O bs rs, .lst (kvs.map rowK)] = okB true := by
  obtain ⟨ρ', e, e2, rfl⟩ := a2n (bd := a0F 2) (body := a5k) rowK (fun _ ρ => ∃ e2 : Option S, ρ = [some (.sh (a0O bs rs)), some (.sh (.lst (kvs.map rowK))), e2]) kvs (ρ := [some (.sh (a0O bs rs)), some (.sh (.lst (kvs.map rowK))), none]) ⟨none, rfl⟩ (by
    rintro q p post ρ hq ⟨e2, rfl⟩
    obtain ⟨a, b, e, h1, h2, h3, _⟩ := gk.keys p (by rw [hq]; simp)
    rw [row3 e]
    have wh : ∀ i : Int, a0J [.int i] = okB true := fun _ => rfl
    have hlen : dLen (.tup (rs.map Rw.d)) = okI (rs.length : Nat) := by rw [a3F, List.length_map]
    exact ⟨_, _, rfl, .inl (a0e (if_f (or_f (a5E (un_e rfl rfl)) (a0f (lenB (n := 3) (a4c rfl) rfl) rfl (ne_f rfl))) rfl) (a0e (if_f (or_f (a5E (a3t (a0f rfl rfl ix_t0) (wh _))) (or_f (a5E (a3t (a0f rfl rfl a3o) (wh _))) (a5E (a3t (a0f rfl rfl a6S) (wh _))))) rfl) (if_f (or_f (a0f (a0f rfl rfl ix_t0) rfl (lt_f (by omega))) (or_f (a0f (a0f rfl rfl ix_t0) (lenB (a0f rfl rfl a3o) hlen) (geF (by omega))) (or_f (a0f (a0f rfl rfl a3o) rfl (lt_f (by omega))) (a0f (a0f rfl rfl a6S) rfl (lt_f (by omega)))))) rfl))), _, rfl⟩)
  exact a1v rfl (a0e (if_f (a5E (un_e rfl rfl)) rfl) (a0e (a3z (a3x rfl rfl) e) (a1J rfl)))
abbrev ρC (bs : List Bx) (rs : List Rw) (kvs d : Tb) (e3 e4 e5 e6 e7 e8 e9 e10 e11 e12 : Option S) : MEnv := [some (.sh (a0O bs rs)), some (.sh (.lst (kvs.map rowK))), some (.own (.dic d)), e3, e4, e5, e6, e7, e8, e9, e10, e11, e12]
abbrev rsS (rs : List Rw) : Option S := some (.sh (.tup (rs.map Rw.d)))
theorem bells_ok (g : PgK rs) (gk : a1R rs kvs) {p : List Int × Int} (hp : p ∈ kvs) {a b st : Nat} (e : p.1 = keyN a b) (hst : st ∈ a0P rs a) (e3 e8 e11 e12 : Option S) :
    ∃ e11', forD (a0F 11) a2U ((List.range (rs.length - 1)).map fun k : Nat => D.int ((1 + k : Nat) : Int)) (ρC bs rs kvs kvs e3 (rsS rs) (some (.sh (.int a))) (some (.sh (.int b))) (some (.sh (.int p.2))) e8 (some (.sh (.int st))) (some (.sh (.int (b ||| st : Nat)))) e11 e12) = some (.next (ρC bs rs kvs kvs e3 (rsS rs) (some (.sh (.int a))) (some (.sh (.int b))) (some (.sh (.int p.2))) e8 (some (.sh (.int st))) (some (.sh (.int (b ||| st : Nat)))) e11' e12)) := by
  obtain ⟨a', b', e', ha, _, _, hs⟩ := gk.keys p hp
  obtain ⟨rfl, rfl⟩ := a4B (e.symm.trans e')
  obtain ⟨ρ', ef, e11', rfl⟩ := a2n (bd := a0F 11) (body := a2U) (fun k : Nat => D.int ((1 + k : Nat) : Int)) (fun _ ρ => ∃ e11 : Option S, ρ = ρC bs rs kvs kvs e3 (rsS rs) (some (.sh (.int a))) (some (.sh (.int b))) (some (.sh (.int p.2))) e8 (some (.sh (.int st))) (some (.sh (.int (b ||| st : Nat)))) e11 e12) (List.range (rs.length - 1)) (ρ := ρC bs rs kvs kvs e3 (rsS rs) (some (.sh (.int a))) (some (.sh (.int b))) (some (.sh (.int p.2))) e8 (some (.sh (.int st))) (some (.sh (.int (b ||| st : Nat)))) e11 e12) ⟨e11, rfl⟩ (by
    rintro u k post ρ hu ⟨e11, rfl⟩
    have hk : 1 + k < rs.length := by
      have : k ∈ List.range (rs.length - 1) := by rw [hu]; simp
      have := List.mem_range.mp this
      omega
    have cond := go_e (rs := rs) (r := a) (k := 1 + k) (s := b ||| st) (ρ := ρC bs rs kvs kvs e3 (rsS rs) (some (.sh (.int a))) (some (.sh (.int b))) (some (.sh (.int p.2))) e8 (some (.sh (.int st))) (some (.sh (.int (b ||| st : Nat)))) (some (.sh (.int ((1 + k : Nat) : Int)))) e12) (i3 := 4) (i1 := 5) (i7 := 11) (i6 := 10) ha hk rfl rfl rfl rfl
    cases hg : goN rs a (b ||| st) (1 + k) with
    | false => rw [hg] at cond; exact ⟨_, _, rfl, .inl (if_f cond rfl), _, rfl⟩
    | true =>
      rw [hg] at cond
      obtain ⟨q, hq⟩ := a6v hst hk hg
      obtain ⟨d', hd, hlt⟩ := hs _ hq
      have hd : getI kvs (keyN (1 + k) (b ||| st)) = some d' := hd
      have c1 := has_e (n := true) (i := 2) (g := eTup [(eVar 11), (eVar 10)]) (ρ := ρC bs rs kvs kvs e3 (rsS rs) (some (.sh (.int a))) (some (.sh (.int b))) (some (.sh (.int p.2))) e8 (some (.sh (.int st))) (some (.sh (.int (b ||| st : Nat)))) (some (.sh (.int ((1 + k : Nat) : Int)))) e12) (o := .dic kvs) (kvs := kvs) (ks := keyN (1 + k) (b ||| st)) rfl (a4K rfl rfl)
      rw [hd] at c1
      have c2 := at_e (i := 2) (g := eTup [(eVar 11), (eVar 10)]) (ρ := ρC bs rs kvs kvs e3 (rsS rs) (some (.sh (.int a))) (some (.sh (.int b))) (some (.sh (.int p.2))) e8 (some (.sh (.int st))) (some (.sh (.int (b ||| st : Nat)))) (some (.sh (.int ((1 + k : Nat) : Int)))) e12) (o := .dic kvs) (kvs := kvs) (ks := keyN (1 + k) (b ||| st)) rfl (a4K rfl rfl) hd
      exact ⟨_, _, rfl, .inl (if_t cond (if_f (or_f c1 (a0f c2 rfl (geF (by omega)))) rfl)), _, rfl⟩)
  exact ⟨e11', ef⟩
theorem a7M (g : PgK rs) (gk : a1R rs kvs) (h0 : ∃ d, getI kvs (keyN 0 0) = some d) : a1a [a0O bs rs, .lst (kvs.map rowK)] = okB true := by
  have hl := gk.len g.n7
  have h7 := g.n7
  have lenR : dLen (.tup (rs.map Rw.d)) = okI (rs.length : Nat) := by rw [a3F, List.length_map]
  obtain ⟨ρ1, e1, e3, rfl⟩ := a2n (bd := a0F 3) (body := a4b) rowK (fun q ρ => ∃ e3 : Option S, ρ = ρC bs rs kvs q e3 none none none none none none none none none) kvs (ρ := ρC bs rs kvs [] none none none none none none none none none none) ⟨none, rfl⟩ (by
    rintro q p post ρ hq ⟨e3, rfl⟩
    obtain ⟨a, b, e, _⟩ := gk.keys p (by rw [hq]; simp)
    have hn : getI q (keyN a b) = none := getI_out fun hm => by
      have nd := gk.nd
      rw [hq, List.map_append, List.map_cons] at nd
      have := (List.nodup_append.mp nd).2.2 _ hm p.1 List.mem_cons_self
      exact this e.symm
    have hql : q.length ≤ 896 := by have := congrArg List.length hq; rw [List.length_append] at this; omega
    have s := putC_s (i := 2) (o := .dic q) (kvs := q) (ks := keyN a b) (gk := eTup [(eBin dIx (eVar 3) (eC (.int 0))), (eBin dIx (eVar 3) (eC (.int 1)))]) (ge := eBin dIx (eVar 3) (eC (.int 2))) (v := p.2) (ρ := ρC bs rs kvs q (some (.sh (.tup [.int a, .int b, .int p.2]))) none none none none none none none none none) rfl (tup2 (s1 := .sh (.int a)) (s2 := .sh (.int b)) (a0f rfl rfl ix_t0) (a0f rfl rfl a3o)) (a0f rfl rfl a6S) (Nat.lt_of_le_of_lt hql (by decide))
    rw [a54 hn, ← e] at s
    rw [row3 e]
    exact ⟨_, _, rfl, .inl s, _, rfl⟩)
  obtain ⟨ρ2, e2, _, e5, e6, e7, e8, e9, e10, e11, e12, rfl⟩ := a2n (bd := bTup [5, 6, 7]) (body := a4a) rowK (fun _ ρ => ∃ e3 e5 e6 e7 e8 e9 e10 e11 e12 : Option S, ρ = ρC bs rs kvs kvs e3 (rsS rs) e5 e6 e7 e8 e9 e10 e11 e12) kvs (ρ := ρC bs rs kvs kvs e3 (rsS rs) none none none none none none none none) ⟨e3, none, none, none, none, none, none, none, none, rfl⟩ (by
    rintro q p post ρ hq ⟨e3, e5, e6, e7, e8, e9, e10, e11, e12, rfl⟩
    have hp : p ∈ kvs := by rw [hq]; simp
    obtain ⟨a, b, e, ha, _⟩ := gk.keys p hp
    have hpl := (g.at ha).2.1
    have lp : ∀ (s8 : Option S) (e9 e10 e11 e12 : Option S), ∃ e9' e10' e11', forD (a0F 9) a2T ((a0P rs a).map intD) (ρC bs rs kvs kvs e3 (rsS rs) (some (.sh (.int a))) (some (.sh (.int b))) (some (.sh (.int p.2))) s8 e9 e10 e11 e12) = some (.next (ρC bs rs kvs kvs e3 (rsS rs) (some (.sh (.int a))) (some (.sh (.int b))) (some (.sh (.int p.2))) s8 e9' e10' e11' e12)) := fun s8 e9 e10 e11 e12 => by
      obtain ⟨ρ', ef, e9', e10', e11', rfl⟩ := a2n (bd := a0F 9) (body := a2T) intD (fun _ ρ => ∃ e9 e10 e11 : Option S, ρ = ρC bs rs kvs kvs e3 (rsS rs) (some (.sh (.int a))) (some (.sh (.int b))) (some (.sh (.int p.2))) s8 e9 e10 e11 e12) (a0P rs a) (ρ := ρC bs rs kvs kvs e3 (rsS rs) (some (.sh (.int a))) (some (.sh (.int b))) (some (.sh (.int p.2))) s8 e9 e10 e11 e12) ⟨e9, e10, e11, rfl⟩ (by
        rintro u st post ρ hu ⟨e9, e10, e11, rfl⟩
        obtain ⟨e11', ei⟩ := bells_ok (bs := bs) g gk hp e (st := st) (by rw [hu]; simp) e3 s8 e11 e12
        have rg : a1V (eC (.int 1)) (a0m (f1 dLen) [(eAny 4)]) (ρC bs rs kvs kvs e3 (rsS rs) (some (.sh (.int a))) (some (.sh (.int b))) (some (.sh (.int p.2))) s8 (some (.sh (.int st))) (some (.sh (.int (b ||| st : Nat)))) e11 e12) = some (.ok ((List.range (rs.length - 1)).map fun k : Nat => D.int ((1 + k : Nat) : Int))) := by
          rw [← rngN 1 rs.length]
          exact a53 rfl (lenB (a4c rfl) lenR) (by decide) (a1q (by omega))
        exact ⟨_, _, rfl, .inl (a0e (a0N (a0f rfl rfl (a7R b st))) (a3z rg ei)), _, _, _, rfl⟩)
      exact ⟨e9', e10', e11', ef⟩
    have st : a3a [12] (iSeq (eBin dIx (eBin dIx (eVar 4) (eVar 5)) (eC (.int 2)))) (a0F 12) a3c (eBin dIx (eVar 12) (eC (.int 1))) (ρC bs rs kvs kvs e3 (rsS rs) (some (.sh (.int a))) (some (.sh (.int b))) (some (.sh (.int p.2))) e8 e9 e10 e11 e12) = okL (((a0H rs a).pl.map (·.2)).map intD) := by
      rw [List.map_map]
      exact comp_all (a0H rs a).pl plD (fun q => intD q.2) (a3x (a0f (a0f rfl rfl (a47 ha)) rfl a6S) rfl) (Nat.le_trans hpl (by decide)) fun q _ => ⟨_, rfl, _, a0f rfl rfl a3o, rfl⟩
    rw [row3 e]
    by_cases c : a = 0
    · have hs : a0P rs a = (a0H rs a).pl.map (·.2) ++ [0] := by unfold a0P; rw [if_pos c]
      obtain ⟨e9', e10', e11', el⟩ := lp (some (.sh (.lst ((a0P rs a).map intD)))) e9 e10 e11 e12
      refine ⟨_, _, rfl, .inl (a0e (a0N st) (a0e (if_t (a0f rfl rfl (eq_t (by omega))) (a2O (s := .sh (.int 0)) rfl rfl (by rw [List.length_map, List.length_map]; exact Nat.lt_of_le_of_lt hpl (by decide)))) (a3r (a3z (ds := (a0P rs a).map intD) (a3x (s := .sh (.lst ((a0P rs a).map intD))) ?_ rfl) ?_)))), e3, some (.sh (.int a)), some (.sh (.int b)), some (.sh (.int p.2)), some (.sh (.lst ((a0P rs a).map intD))), e9', e10', e11', e12, rfl⟩
      · rw [hs, List.map_append]; rfl
      · rw [hs, List.map_append] at el ⊢; exact el
    · have hs : a0P rs a = (a0H rs a).pl.map (·.2) := by unfold a0P; rw [if_neg c, List.append_nil]
      obtain ⟨e9', e10', e11', el⟩ := lp (some (.sh (.lst ((a0P rs a).map intD)))) e9 e10 e11 e12
      refine ⟨_, _, rfl, .inl (a0e (a0N st) (a0e (if_f (a0f rfl rfl (eq_f (by omega))) rfl) (a3r (a3z (ds := (a0P rs a).map intD) (a3x (s := .sh (.lst ((a0P rs a).map intD))) ?_ rfl) ?_)))), e3, some (.sh (.int a)), some (.sh (.int b)), some (.sh (.int p.2)), some (.sh (.lst ((a0P rs a).map intD))), e9', e10', e11', e12, rfl⟩
      · rw [hs]; rfl
      · rw [hs] at el ⊢; exact el)
  obtain ⟨d0, hd0⟩ := h0
  have c1 : a7C 2 (ρC bs rs kvs kvs e3 none none none none none none none none none) = okI (kvs.length : Nat) := rfl
  have c2 : dLen (.lst (kvs.map rowK)) = okI (kvs.length : Nat) := by rw [a6q, List.length_map]
  have c3 := has_e (n := true) (i := 2) (g := eTup [(eC (.int 0)), (eC (.int 0))]) (ρ := ρC bs rs kvs kvs e3 none none none none none none none none none) (o := .dic kvs) (kvs := kvs) (ks := keyN 0 0) rfl rfl
  rw [hd0] at c3
  exact a1v rfl (a0e (if_f (a5E (a21 rfl rfl (rows_ok g gk))) rfl) (a0e rfl (a0e (a3z (a3x rfl rfl) e1) (a0e (if_f (or_f (a0f c1 (lenB (a4c rfl) c2) (ne_f rfl)) c3) rfl) (a0e (a0N (a0f rfl rfl a3o)) (a0e (a3z (a3x rfl rfl) e2) (a1J rfl)))))))
end
theorem law_true (ns : List Int) (hns : ns.length ≤ 63) : f_law [.lst (ns.map D.int)] = some (.ok (.sh (.bl true))) := by
  obtain ⟨i, di, hi⟩ := a2E (ns := ns) (k := 7) (m := 4) (by decide) (by decide) (by decide)
  obtain ⟨long, el, l1, l2⟩ : ∃ long : Nat, dIx (.lst [.int 1, .int 2, .int 4, .int 12]) (.int (i : Int)) = okI (long : Nat) ∧ 1 ≤ long ∧ long ≤ 12 := by
    match i, hi with
    | 0, _ => exact ⟨1, ix_l0, by decide, by decide⟩
    | 1, _ => exact ⟨2, ix_l1, by decide, by decide⟩
    | 2, _ => exact ⟨4, ix_l2, by decide, by decide⟩
    | 3, _ => exact ⟨12, a09 (n := 3) rfl, by decide, by decide⟩
    | n + 4, hi => omega
  obtain ⟨bs, rs, ep, n1, n7, hr⟩ := a6A (ns := ns) l1 l2
  have g : PgK rs := ⟨n1, n7, hr⟩
  obtain ⟨kvs, gk, h0, epp⟩ := paper_ok (bs := bs) g
  have cl := a7M (bs := bs) g gk h0
  have cb : ∀ {ρ : MEnv} {e : ME} {s : S}, ρ[1]? = some (some (.sh (a0O bs rs))) → e ρ = some (.ok s) → s.val = .lst (kvs.map rowK) → a0m a1a [(eAny 1), e] ρ = okB true := fun {ρ e s} h1 h2 hv => callB_e (d := .bl true) (a21 (a4c h1) h2 (by rw [hv]; exact cl)) rfl
  exact a1v rfl (a0e (a0N (a21 rfl (a0f (s := .own (.lst [.int 1, .int 2, .int 4, .int 12])) rfl (a1f rfl rfl rfl di) el) ep)) (a0e (a0N (a3t rfl epp)) (a0e (if_f (a5E (cb rfl (a4c rfl) rfl)) rfl) (a0e (clear_s rfl) (a1J (cb rfl (a3t rfl epp) rfl))))))
end Bell
set_option maxHeartbeats 8000000
namespace Bell
open PySem PySem.Spec PyProof.Rows L2 L3
def top (i : Nat) : Stmt := PySem.Challenge.pw_bellnest_k33_a_paper_is_closed.main.body.getD i (.Pass ⟨0, 0, 0, 0⟩)
abbrev a1k : Stmt := top 16
def a5G : List Str := ["_law_found"]
def a1N : List Str := ["_law_found"]
abbrev a1A : Stmt := top 17
def a6G : List Str := ["_law_program_here", "_law_found", "_law_one"]
def a19 : List Str := ["_law_program_here", "_law_found"]
abbrev a07 : Stmt := top 18
def a42 : List Str := ["_law_program_here", "_law_found", "_law_depths", "_law_one", "_law_rows_here", "_law_row", "_law_word", "_law_depth", "_law_stands", "_law_stand", "_law_shut_here", "_law_k", "_law_place"]
def a1p : List Str := ["_law_program_here", "_law_found"]
abbrev a1C : Stmt := top 9
def a6I : List Str := ["_law_script", "_law_k", "_law_many", "_law_cell"]
def a0D : List Str := ["_law_script", "_law_k", "_law_many"]
abbrev a06 : Stmt := top 10
def a41 : List Str := ["_law_script", "_law_k", "_law_far", "_law_menu"]
def a08 : List Str := ["_law_script", "_law_k"]
abbrev a1l : Stmt := top 11
def a5H : List Str := ["_law_script", "_law_boxes_here", "_law_b", "_law_starts", "_law_size"]
def a1O : List Str := ["_law_script"]
abbrev a1D : Stmt := top 12
def a6J : List Str := ["_law_boxes_here", "_law_script", "_law_k", "_law_kinds", "_law_kind", "_law_x", "_law_size", "_law_same", "_law_y", "_law_ones", "_law_n", "_law_b"]
def a2b : List Str := ["_law_boxes_here", "_law_script", "_law_k"]
abbrev a1B : Stmt := top 13
def a6H : List Str := ["_law_script", "_law_r", "_law_wild"]
def a2a : List Str := ["_law_script", "_law_r"]
abbrev a1z : Stmt := top 14
def a6F : List Str := ["_law_script", "_law_k", "_law_bells", "_law_word", "_law_half"]
def a18 : List Str := ["_law_script", "_law_k", "_law_bells"]
abbrev a0V : Stmt := top 15
def a4z : List Str := ["_law_script", "_law_longest", "_law_boxes_here", "_law_bells", "_law_rows_here", "_law_r", "_law_places", "_law_p", "_law_k"]
def a1c : List Str := ["_law_script", "_law_longest"]
abbrev a0y : Stmt := top 4
def a3k : List Str := ["program", "row", "count"]
def a0C : List Str := ["program", "row"]
abbrev a1j : Stmt := top 1
def a5F : List Str := ["program", "row"]
def a1M : List Str := ["program", "row"]
abbrev a1X : Stmt := top 2
def a7r : List Str := ["program", "row", "place", "places"]
def a2z : List Str := ["program", "row", "place"]
abbrev a1y : Stmt := top 5
def a6E : List Str := ["program", "row", "word", "rows", "steps", "place", "shut", "bell"]
def a17 : List Str := ["program", "row", "word"]
abbrev a1Y : Stmt := top 6
def a7s : List Str := ["program", "row", "word", "depths", "above", "step"]
def a2A : List Str := ["program", "row", "word", "depths"]
abbrev a3f : Stmt := top 7
def n_paper : List Str := ["program", "depths", "row", "word"]
def a3O : List Str := ["program"]
abbrev a5o : Stmt := top 19
def n_law : List Str := ["_law_script", "_law_program_here", "_law_found"]
def p_law : List Str := ["_law_script"]
structure Blt (mg : Str → Option Value) : Prop where
  bool : mg "bool" = none
  int : mg "int" = none
  isinstance : mg "isinstance" = none
  len : mg "len" = none
  list : mg "list" = none
  max : mg "max" = none
  range : mg "range" = none
  tuple : mg "tuple" = none
structure Defs (K : PySem.W.Frag) (mg : Str → Option Value) (cls : String → Addr) : Prop where
  L_law_whole : Laid K mg "_law_whole" a1k a1N
  L_law_rows : Laid K mg "_law_rows" a1A a19
  L_law_closed : Laid K mg "_law_closed" a07 a1p
  L_law_draw : Laid K mg "_law_draw" a1C a0D
  L_law_number : Laid K mg "_law_number" a06 a08
  L_law_boxes : Laid K mg "_law_boxes" a1l a1O
  L_law_deed : Laid K mg "_law_deed" a1D a2b
  L_law_rank : Laid K mg "_law_rank" a1B a2a
  L_law_shut : Laid K mg "_law_shut" a1z a18
  L_law_program : Laid K mg "_law_program" a0V a1c
  L_places_to_stand : Laid K mg "places_to_stand" a0y a0C
  L_places_of : Laid K mg "places_of" a1j a1M
  L_word_at : Laid K mg "word_at" a1X a2z
  L_steps_up : Laid K mg "steps_up" a1y a17
  L_measure : Laid K mg "measure" a1Y a2A
  L_paper : Laid K mg "paper" a3f a3O
  L_law : Laid K mg "law" a5o p_law
seal PySem.wpAny
section
variable {P : Program} {w : World} {K : PySem.W.Frag} {mg : Str → Option Value} {base : Heap} {cls : String → Addr}
theorem a4Q : FnScope a5G a1N (defScope a1k) := ⟨rfl, rfl, rfl, by decide +kernel, rfl, by decide +kernel, by decide +kernel⟩
theorem a4Z (L : Laid K mg "_law_whole" a1k a1N) (Z : Blt mg)  : FnN P w K mg base (ctOf K cls) 1 "_law_whole" a1N a0J :=
  a05 (k := 0) L a4Q fun f cdv A outer s H E hr =>
 (a0h (a0n (pd_and (a59 rfl (kit_int _) rfl Z.isinstance rfl Z.int L3.bt_int (a0a (pv 0))) (pd_one (pd_not (a59 rfl (kit_bool _) rfl Z.isinstance rfl Z.bool L3.bt_bool (a0a (pv 0))))))))
theorem a3L : FnScope a6G a19 (defScope a1A) := ⟨rfl, rfl, rfl, by decide +kernel, rfl, by decide +kernel, by decide +kernel⟩
theorem a5A (L : Laid K mg "_law_rows" a1A a19) (Z : Blt mg) (H_law_whole : FnN P w K mg base (ctOf K cls) 1 "_law_whole" a1N a0J) : FnN P w K mg base (ctOf K cls) 2 "_law_rows" a19 a2L :=
  a05 (k := 1) L a3L fun f cdv A outer s H E hr =>
 (a0c (a0Z (a2Y (a2X (a59 rfl (kit_list _) rfl Z.isinstance rfl Z.list L3.bt_list (a0a (pv 1)))))
 (a0h (a0n a38))
 a0t)
 (a0c (a1U PassesOwn.never rfl (a2Z rfl (a0a (pv 1))) (pbN a3L.nd rfl)
 (a0c (a0Z (PWD.pt (a24 (a2Y (a2X (a59 rfl (a7y _) rfl Z.isinstance rfl Z.tuple L3.a2q (a0a (pv 2))))) (a3g (a0l a4g (a0K (a1g rfl) rfl Z.len PySem.boot_len (a0p (a0v (pv 2)) a0B)) a0b))))
 (a0h (a0n a38))
 a0t)
 (a0c (a0Z (PWD.pt (a24 (a2Y (a2X (a0S H_law_whole (hr.mono (by first | decide | omega)) rfl (padS (a0u (ixd rfl) (a0a (pv 2)) a0b) a0d)))) (a24 (a2Y (a2X (a0S H_law_whole (hr.mono (by first | decide | omega)) rfl (padS (a0u (ixd rfl) (a0a (pv 2)) a0b) a0d)))) (a3g (a2Y (a2X (a0S H_law_whole (hr.mono (by first | decide | omega)) rfl (padS (a0u (ixd rfl) (a0a (pv 2)) a0b) a0d))))))))
 (a0h (a0n a38))
 a0t)
 (a0h (a0Z (PWD.pt (a24 (a0l a6d (a0u (ixd rfl) (a0a (pv 2)) a0b) a0b) (a24 (a0l opd_ge (a0u (ixd rfl) (a0a (pv 2)) a0b) (a0K (a1g rfl) rfl Z.len PySem.boot_len (a0p (PD.look (a0u (ixd rfl) (a0a (pv 0)) a0b)) a0B))) (a24 (a0l a6d (a0u (ixd rfl) (a0a (pv 2)) a0b) a0b) (a3g (a0l a6d (a0u (ixd rfl) (a0a (pv 2)) a0b) a0b))))))
 (a0h (a0n a38))
 a0t)))))
 (a0h (a0n a38))))
theorem a0r : FnScope a42 a1p (defScope a07) := ⟨rfl, rfl, rfl, by decide +kernel, rfl, by decide +kernel, by decide +kernel⟩
theorem a4y (L : Laid K mg "_law_closed" a07 a1p) (Z : Blt mg) (H_law_rows : FnN P w K mg base (ctOf K cls) 2 "_law_rows" a19 a2L) : FnN P w K mg base (ctOf K cls) 3 "_law_closed" a1p a1a :=
  a05 (k := 2) L a0r fun f cdv A outer s H E hr =>
 (a0c (a0Z (a2Y (a2X (a0S H_law_rows (hr.mono (by first | decide | omega)) rfl (padN (a0a (pv 0)) (padN (a0a (pv 1)) a0d)))))
 (a0h (a0n a38))
 a0t)
 (a0c (a55 (i := 2) a0r.nd rfl (by first | exact Or.inl rfl | exact Or.inr rfl))
 (a0c (a1U PassesOwn.never rfl (a2Z rfl (a0a (pv 1))) (pbN a0r.nd rfl)
 (a0h (a4V (i := 2) (hu_of hr) (pv 2) (a3w (W := W0) (padS (a0u (ixd rfl) (a0a (pv 3)) a0b) (padS (a0u (ixd rfl) (a0a (pv 3)) a0b) a0d))) (a0u (ixd rfl) (a0a (pv 3)) a0b))))
 (a0c (a0Z (PWD.pt (a24 (a0l a4g (pd_lenD (i := 2) rfl Z.len (pv 2)) (a0K (a1g rfl) rfl Z.len PySem.boot_len (a0p (a0v (pv 1)) a0B))) (a3g (a3h (i := 2) (hu_of hr) (pv 2) (a3w (W := W0) (padC a0b (padC a0b a0d)))))))
 (a0h (a0n a38))
 a0t)
 (a0c (psS (i := 4) a0r.nd rfl (a0u (ixd rfl) (a0a (pv 0)) a0b))
 (a0c (a1U PassesOwn.never rfl (a2Z rfl (a0a (pv 1))) (a7m rfl rfl a0r.nd rfl rfl rfl (by first | exact Or.inl rfl | exact Or.inr rfl) (by first | exact Or.inl rfl | exact Or.inr rfl) (by first | exact Or.inl rfl | exact Or.inr rfl))
 (a0c (psd_comp (i := 8) a0r.nd rfl (by first | exact Or.inl rfl | exact Or.inr rfl) (js := [12]) (vars := [".0", "_law_place"]) (a3d 12) (by rfl) (by rfl) rfl (a2Z rfl (a0u (ixd rfl) (a0u (ixd rfl) (a0a (pv 4)) (a0a (pv 5))) a0b)) (fun _ _ _ _ => (pbN a0r.nd rfl)) (fun _ _ _ _ => (a0u (ixd rfl) (a0a (pv 12)) a0b)))
 (a0c (a0Z (a0l a1u (a0a (pv 5)) a0b)
 (a0h (a1E (i := 8) (pv 8) a0b))
 a0t)
 (a04 (i := 8) (a0h (a1U PassesOwn.never rfl (a2Z rfl (a0a (pv 8))) (pbN a0r.nd rfl)
 (a0c (psS (i := 10) a0r.nd rfl (a0k a7q (a0a (pv 6)) (a0a (pv 9))))
 (a0h (a1U PassesOwn.never rfl (a4f rfl Z.range a0b (a0K (a1g rfl) rfl Z.len PySem.boot_len (a0p (a0v (pv 4)) a0B))) (pbN a0r.nd rfl)
 (a0h (a0Z (PWD.pt (a2y (a0l a6e (a0u (ixd rfl) (a0u (ixd rfl) (a0a (pv 4)) (a0a (pv 11))) a0b) (a0u (ixd rfl) (a0u (ixd rfl) (a0a (pv 4)) (a0a (pv 5))) a0b)) (a2I (a0l a1u (a0k a4w (a0k a7o (a0a (pv 10)) (a0a (pv 11))) a0b) a0b))))
 (a0h (a0Z (PWD.pt (a24 (a3h (i := 2) (hu_of hr) (pv 2) (a3w (W := W0) (padN (a0a (pv 11)) (padN (a0a (pv 10)) a0d)))) (a3g (a0l opd_ge (pd_dat (i := 2) (hu_of hr) (pv 2) (a3w (W := W0) (padN (a0a (pv 11)) (padN (a0a (pv 10)) a0d)))) (a0a (pv 7))))))
 (a0h (a0n a38))
 a0t))
 a0t)))))))))))
 (a0h (a0n a38))))))))
theorem a2W : FnScope a6I a0D (defScope a1C) := ⟨rfl, rfl, rfl, by decide +kernel, rfl, by decide +kernel, by decide +kernel⟩
theorem a5C (L : Laid K mg "_law_draw" a1C a0D) (Z : Blt mg)  : FnN P w K mg base (ctOf K cls) 1 "_law_draw" a0D a0i :=
  a05 (k := 0) L a2W fun f cdv A outer s H E hr =>
 (a0c (psS (i := 3) a2W.nd rfl a0b)
 (a0c (a0Z (a0l a6e (a0K (a1g rfl) rfl Z.len PySem.boot_len (a0p (a0v (pv 0)) a0B)) a0b)
 (a0h (psS (i := 3) a2W.nd rfl (a0k a2i (a0u (ixd rfl) (a0a (pv 0)) (a0k a2i (a0a (pv 1)) (a0K (a1g rfl) rfl Z.len PySem.boot_len (a0p (a0v (pv 0)) a0B)))) a0b)))
 a0t)
 (a0h (a0n (a0k a2i (a0k a4v (a0k a2i (a0k a2h (a0k a2i (a0k a2h (a0k (a0o rfl) (a0a (pv 3)) a0b) (a0k (a0o rfl) (a0k (a0o rfl) (a0k a2h (a0a (pv 1)) (a0a (pv 1))) (a0a (pv 1))) a0b)) a0b) a0b) a0b) a0b) (a0a (pv 2)))))))
theorem a2f : FnScope a41 a08 (defScope a06) := ⟨rfl, rfl, rfl, by decide +kernel, rfl, by decide +kernel, by decide +kernel⟩
theorem a4x (L : Laid K mg "_law_number" a06 a08) (Z : Blt mg) (H_law_draw : FnN P w K mg base (ctOf K cls) 1 "_law_draw" a0D a0i) : FnN P w K mg base (ctOf K cls) 2 "_law_number" a08 a0x :=
  a05 (k := 1) L a2f fun f cdv A outer s H E hr =>
 (a0c (psS (i := 2) a2f.nd rfl (a0S H_law_draw (hr.mono (by first | decide | omega)) rfl (padN (a0a (pv 0)) (padN (a0a (pv 1)) (padC a0b a0d)))))
 (a0c (psS (i := 3) a2f.nd rfl (a2u (padB (a0k a3P (a0k a2i (a0a (pv 2)) a0b) a0b) (padB (a0k a3P (a0k a7p a0b a0b) (a0k a2i (a0a (pv 2)) a0b)) (padB (a0k a3P (a0k a2i (a0a (pv 2)) a0b) (a0k a7p a0b a0b)) (padB (a0k a2h (a0a (pv 2)) a0b) a0d))))))
 (a04 (i := 3) (a0h (a0n (a0u (ixd rfl) (a0a (pv 3)) (a0S H_law_draw (hr.mono (by first | decide | omega)) rfl (padN (a0a (pv 0)) (padB (a0k (a0o rfl) (a0a (pv 1)) a0b) (padC a0b a0d))))))))))
theorem a1o : FnScope a5H a1O (defScope a1l) := ⟨rfl, rfl, rfl, by decide +kernel, rfl, by decide +kernel, by decide +kernel⟩
theorem a40 (L : Laid K mg "_law_boxes" a1l a1O) (Z : Blt mg) (H_law_draw : FnN P w K mg base (ctOf K cls) 1 "_law_draw" a0D a0i) (H_law_number : FnN P w K mg base (ctOf K cls) 2 "_law_number" a08 a0x) : FnN P w K mg base (ctOf K cls) 3 "_law_boxes" a1O a2p :=
  a05 (k := 2) L a1o fun f cdv A outer s H E hr =>
 (a0c (psS (i := 1) a1o.nd rfl (a2u a0d))
 (a0c (a1U PassesOwn.never rfl (a1Z rfl Z.range (a0u (ixd rfl) (a2u (a3j (ds := [(.int 1), (.int 2), (.int 3), (.int 3), (.int 4), (.int 4), (.int 5), (.int 8)]) rfl)) (a0S H_law_draw (hr.mono (by first | decide | omega)) rfl (padN (a0a (pv 0)) (padC a0b (padC a0b a0d)))))) (pbN a1o.nd rfl)
 (a0c (psS (i := 3) a1o.nd rfl (a2u (padK (a0S H_law_number (hr.mono (by first | decide | omega)) rfl (padN (a0a (pv 0)) (padB (a0k (a0o rfl) a0b (a0k a2h a0b (a0a (pv 2)))) a0d))) (padK (a0S H_law_number (hr.mono (by first | decide | omega)) rfl (padN (a0a (pv 0)) (padB (a0k (a0o rfl) a0b (a0k a2h a0b (a0a (pv 2)))) a0d))) a0d))))
 (a0c (psS (i := 4) a1o.nd rfl (a0k (a0o rfl) a0b (a0S H_law_draw (hr.mono (by first | decide | omega)) rfl (padN (a0a (pv 0)) (padB (a0k (a0o rfl) a0b (a0k a2h a0b (a0a (pv 2)))) (padC a0b a0d))))))
 (a04 (i := 3) (a0h (a1E (i := 1) (pv 1) (a1L (padB (a0k a6c (a0u (ixd rfl) a1b (a0a (pv 2))) (a0a (pv 4))) (padK (a6B (a2M rfl) rfl Z.tuple L3.a2q (padS (a58 rfl (a0a (pv 3)) a57 (a56 (a0a (pv 4)))) a0d)) a0d)))))))))
 (a04 (i := 1) (a0h (a0n (a6B (a2M rfl) rfl Z.tuple L3.a2q (padN (a0a (pv 1)) a0d)))))))
theorem a0z : FnScope a6J a2b (defScope a1D) := ⟨rfl, rfl, rfl, by decide +kernel, rfl, by decide +kernel, by decide +kernel⟩
theorem a5D (L : Laid K mg "_law_deed" a1D a2b) (Z : Blt mg) (H_law_draw : FnN P w K mg base (ctOf K cls) 1 "_law_draw" a0D a0i) (H_law_number : FnN P w K mg base (ctOf K cls) 2 "_law_number" a08 a0x) : FnN P w K mg base (ctOf K cls) 3 "_law_deed" a2b a1H :=
  a05 (k := 2) L a0z fun f cdv A outer s H E hr =>
 (a0c (psS (i := 3) a0z.nd rfl (a2u (a3j (ds := [(.str "put"), (.str "copy"), (.str "grow"), (.str "tick"), (.str "still"), (.str "is"), (.str "most"), (.str "none"), (.str "anew"), (.str "grow"), (.str "put"), (.str "anew")]) rfl)))
 (a04 (i := 3) (a0c (psS (i := 4) a0z.nd rfl (a0u (ixd rfl) (a0a (pv 3)) (a0S H_law_draw (hr.mono (by first | decide | omega)) rfl (padN (a0a (pv 1)) (padN (a0a (pv 2)) (padC a0b a0d))))))
 (a0c (psS (i := 5) a0z.nd rfl (a0S H_law_draw (hr.mono (by first | decide | omega)) rfl (padN (a0a (pv 1)) (padB (a0k (a0o rfl) (a0a (pv 2)) a0b) (padK (a0K (a1g rfl) rfl Z.len PySem.boot_len (a0p (a0v (pv 0)) a0B)) a0d)))))
 (a0c (psS (i := 6) a0z.nd rfl (a0K (a1g rfl) rfl Z.len PySem.boot_len (a0p (PD.look (a0u (ixd rfl) (a0u (ixd rfl) (a0a (pv 0)) (a0a (pv 5))) a0b)) a0B)))
 (a0c (a4e (i := 7) a0z.nd rfl (by first | exact Or.inl rfl | exact Or.inr rfl) (js := [11]) (vars := [".0", "_law_b"]) (a3d 11) (by rfl) (by rfl) rfl (a1Z rfl Z.range (a0K (a1g rfl) rfl Z.len PySem.boot_len (a0p (a0v (pv 0)) a0B))) (fun _ _ _ _ => (pbN a0z.nd rfl)) (fun _ _ _ _ => (a0l a1u (a0K (a1g rfl) rfl Z.len PySem.boot_len (a0p (PD.look (a0u (ixd rfl) (a0u (ixd rfl) (a0a (pv 0)) (a0a (pv 11))) a0b)) a0B)) (a0a (pv 6)))) (fun _ _ _ _ => (a0a (pv 11))))
 (a04 (i := 7) (a0c (psS (i := 8) a0z.nd rfl (a0u (ixd rfl) (a0a (pv 7)) (a0S H_law_draw (hr.mono (by first | decide | omega)) rfl (padN (a0a (pv 1)) (padB (a0k (a0o rfl) (a0a (pv 2)) a0b) (padK (a0K (a1g rfl) rfl Z.len PySem.boot_len (a0p (a0v (pv 7)) a0B)) a0d))))))
 (a0c (a4e (i := 9) a0z.nd rfl (by first | exact Or.inl rfl | exact Or.inr rfl) (js := [11]) (vars := [".0", "_law_b"]) (a3d 11) (by rfl) (by rfl) rfl (a1Z rfl Z.range (a0K (a1g rfl) rfl Z.len PySem.boot_len (a0p (a0v (pv 0)) a0B))) (fun _ _ _ _ => (pbN a0z.nd rfl)) (fun _ _ _ _ => (PWD.pt (a2y (a0l a1u (a0K (a1g rfl) rfl Z.len PySem.boot_len (a0p (PD.look (a0u (ixd rfl) (a0u (ixd rfl) (a0a (pv 0)) (a0a (pv 11))) a0b)) a0B)) a0b) (a2y (a0l a4g (a0a (pv 11)) (a0a (pv 5))) (a2I (a0l a4g (a0a (pv 11)) (a0a (pv 8)))))))) (fun _ _ _ _ => (a0a (pv 11))))
 (a0c (psS (i := 10) a0z.nd rfl (a0S H_law_number (hr.mono (by first | decide | omega)) rfl (padN (a0a (pv 1)) (padB (a0k (a0o rfl) (a0a (pv 2)) a0b) a0d))))
 (a0c (a0Z (a0l a1u (a0a (pv 4)) a1b)
 (a0h (a0n (a1L (padC a1b (padN (a0a (pv 5)) (padK (a6B (a2M rfl) rfl Z.tuple L3.a2q (padS (a58 rfl (a2u (padN (a0a (pv 10)) (padU (pd_usub (a0a (pv 10))) a0d))) a57 (a56 (a0a (pv 6)))) a0d)) a0d))))))
 a0t)
 (a0c (a0Z (PWD.pt (a2y (a0l a1u (a0a (pv 4)) a1b) (a2I (a0l a4g (a0a (pv 5)) (a0a (pv 8))))))
 (a0h (a0n (a1L (padC a1b (padN (a0a (pv 5)) (padN (a0a (pv 8)) a0d))))))
 a0t)
 (a0c (a0Z (a0l a1u (a0a (pv 4)) a1b)
 (a0h (a0n (a1L (padC a1b (padN (a0a (pv 5)) (padN (a0a (pv 10)) a0d))))))
 a0t)
 (a0c (a0Z (PWD.pt (a2y (a0l a1u (a0a (pv 4)) a1b) (a2I (a0l a1u (a0a (pv 6)) a0b))))
 (a0h (a0n (a1L (padC a1b (padN (a0a (pv 5)) a0d)))))
 a0t)
 (a0c (a0Z (PWD.pt (a24 (a0l a1u (a0a (pv 4)) a1b) (a3g (a0l a1u (a0a (pv 4)) a1b))))
 (a0h (a0n (a1L (padN (a0a (pv 4)) (padN (a0a (pv 5)) (padN (a0a (pv 8)) (padN (a0a (pv 10)) a0d)))))))
 a0t)
 (a0c (a0Z (a0l a1u (a0a (pv 4)) a1b)
 (a0h (a0n (a1L (padC a1b (padN (a0a (pv 5)) a0d)))))
 a0t)
 (a0c (a0Z (PWD.pt (a2y (a0l a1u (a0a (pv 4)) a1b) (a2y (a0l a4g (a0a (pv 5)) (a0a (pv 8))) (a2I (a0l a6e (a0K (a1g rfl) rfl Z.len PySem.boot_len (a0p (a0v (pv 9)) a0B)) a0b)))))
 (a04 (i := 9) (a0h (a0n (a1L (padC a1b (padN (a0a (pv 5)) (padN (a0a (pv 8)) (padS (a0u (ixd rfl) (a0a (pv 9)) (a0S H_law_draw (hr.mono (by first | decide | omega)) rfl (padN (a0a (pv 1)) (padB (a0k (a0o rfl) (a0a (pv 2)) a0b) (padK (a0K (a1g rfl) rfl Z.len PySem.boot_len (a0p (a0v (pv 9)) a0B)) a0d))))) a0d))))))))
 a0t)
 (a0h (a0n (a1L (padC a1b (padB (a0k (a0o rfl) a0b (a0S H_law_draw (hr.mono (by first | decide | omega)) rfl (padN (a0a (pv 1)) (padB (a0k (a0o rfl) (a0a (pv 2)) a0b) (padC a0b a0d))))) a0d))))))))))))))))))))))
theorem a3M : FnScope a6H a2a (defScope a1B) := ⟨rfl, rfl, rfl, by decide +kernel, rfl, by decide +kernel, by decide +kernel⟩
theorem a5B (L : Laid K mg "_law_rank" a1B a2a) (Z : Blt mg) (H_law_draw : FnN P w K mg base (ctOf K cls) 1 "_law_draw" a0D a0i) : FnN P w K mg base (ctOf K cls) 2 "_law_rank" a2a a2d :=
  a05 (k := 1) L a3M fun f cdv A outer s H E hr =>
 (a0c (psS (i := 2) a3M.nd rfl (a0S H_law_draw (hr.mono (by first | decide | omega)) rfl (padN (a0a (pv 0)) (padB (a0k (a0o rfl) a0b (a0a (pv 1))) (padC a0b a0d)))))
 (a0h (a0n (a0u (ixd rfl) (a2u (padB (a0k (a0o rfl) a0b (a0a (pv 2))) (padB (a0k (a0o rfl) (a0a (pv 1)) (a0k a4v (a0a (pv 2)) a0b)) (padB (a0k a3P a0b (a0a (pv 1))) (padB (a0k (a0o rfl) a0b (a0k a4v (a0a (pv 2)) a0b)) a0d))))) (a0S H_law_draw (hr.mono (by first | decide | omega)) rfl (padN (a0a (pv 0)) (padC a0b (padC a0b a0d))))))))
theorem a2V : FnScope a6F a18 (defScope a1z) := ⟨rfl, rfl, rfl, by decide +kernel, rfl, by decide +kernel, by decide +kernel⟩
theorem a5z (L : Laid K mg "_law_shut" a1z a18) (Z : Blt mg) (H_law_draw : FnN P w K mg base (ctOf K cls) 1 "_law_draw" a0D a0i) : FnN P w K mg base (ctOf K cls) 2 "_law_shut" a18 a1G :=
  a05 (k := 1) L a2V fun f cdv A outer s H E hr =>
 (a0c (psS (i := 3) a2V.nd rfl (a0S H_law_draw (hr.mono (by first | decide | omega)) rfl (padN (a0a (pv 0)) (padN (a0a (pv 1)) (padB (a0k a5x a0b (a0a (pv 2))) a0d)))))
 (a0c (psS (i := 4) a2V.nd rfl (a0S H_law_draw (hr.mono (by first | decide | omega)) rfl (padN (a0a (pv 0)) (padB (a0k (a0o rfl) (a0a (pv 1)) a0b) (padB (a0k a5x a0b (a0a (pv 2))) a0d)))))
 (a0h (a0n (a0k a5x (a0u (ixd rfl) (a2u (padC a0b (padB (a0k a4w (a0a (pv 3)) (a0a (pv 4))) (padN (a0a (pv 3)) a0d)))) (a0S H_law_draw (hr.mono (by first | decide | omega)) rfl (padN (a0a (pv 0)) (padC a0b (padC a0b a0d))))) a0b)))))
theorem a0w : FnScope a4z a1c (defScope a0V) := ⟨rfl, rfl, rfl, by decide +kernel, rfl, by decide +kernel, by decide +kernel⟩
theorem a39 (L : Laid K mg "_law_program" a0V a1c) (Z : Blt mg) (H_law_boxes : FnN P w K mg base (ctOf K cls) 3 "_law_boxes" a1O a2p) (H_law_deed : FnN P w K mg base (ctOf K cls) 3 "_law_deed" a2b a1H) (H_law_draw : FnN P w K mg base (ctOf K cls) 1 "_law_draw" a0D a0i) (H_law_rank : FnN P w K mg base (ctOf K cls) 2 "_law_rank" a2a a2d) (H_law_shut : FnN P w K mg base (ctOf K cls) 2 "_law_shut" a18 a1G) : FnN P w K mg base (ctOf K cls) 4 "_law_program" a1c a1w :=
  a05 (k := 3) L a0w fun f cdv A outer s H E hr =>
 (a0c (psS (i := 2) a0w.nd rfl (a0S H_law_boxes (hr.mono (by first | decide | omega)) rfl (padN (a0a (pv 0)) a0d)))
 (a0c (psS (i := 3) a0w.nd rfl (a0S H_law_draw (hr.mono (by first | decide | omega)) rfl (padN (a0a (pv 0)) (padC a0b (padC a0b a0d)))))
 (a0c (psS (i := 4) a0w.nd rfl (a2u a0d))
 (a0c (a1U PassesOwn.never rfl (a1Z rfl Z.range (a0k (a0o rfl) (a0a (pv 3)) a0b)) (pbN a0w.nd rfl)
 (a0c (psS (i := 6) a0w.nd rfl (a2u a0d))
 (a0c (a1U PassesOwn.never rfl (a1Z rfl Z.range (a0k (a0o rfl) a0b (a0S H_law_draw (hr.mono (by first | decide | omega)) rfl (padN (a0a (pv 0)) (padB (a0k (a0o rfl) a0b (a0a (pv 5))) (padN (a0a (pv 1)) a0d)))))) (pbN a0w.nd rfl)
 (a0c (psS (i := 8) a0w.nd rfl (a0k (a0o rfl) (a0k (a0o rfl) a0b (a0k a2h a0b (a0a (pv 5)))) (a0k a2h a0b (a0a (pv 7)))))
 (a0h (a1E (i := 6) (pv 6) (a1L (padK (a0S H_law_deed (hr.mono (by first | decide | omega)) rfl (padN (a0a (pv 2)) (padN (a0a (pv 0)) (padN (a0a (pv 8)) a0d)))) (padK (a0S H_law_shut (hr.mono (by first | decide | omega)) rfl (padN (a0a (pv 0)) (padB (a0k (a0o rfl) (a0a (pv 8)) a0b) (padN (a0a (pv 3)) a0d)))) a0d)))))))
 (a0h (a0Z (a0l a1u (a0a (pv 5)) a0b)
 (a04 (i := 6) (a0h (a1E (i := 4) (pv 4) (a1L (padC a1b (padC a0b (padK (a6B (a2M rfl) rfl Z.tuple L3.a2q (padN (a0a (pv 6)) a0d)) a0d)))))))
 (a04 (i := 6) (a0h (a1E (i := 4) (pv 4) (a1L (padB (a0k a6c (a0u (ixd rfl) a1b (a0k a3P (a0a (pv 5)) a0b)) (a0k (a0o rfl) a0b (a0k a2i (a0a (pv 5)) a0b))) (padK (a0S H_law_rank (hr.mono (by first | decide | omega)) rfl (padN (a0a (pv 0)) (padN (a0a (pv 5)) a0d))) (padK (a6B (a2M rfl) rfl Z.tuple L3.a2q (padN (a0a (pv 6)) a0d)) a0d))))))))))))
 (a04 (i := 4) (a0h (a0n (a1L (padN (a0a (pv 2)) (padK (a6B (a2M rfl) rfl Z.tuple L3.a2q (padN (a0a (pv 4)) a0d)) a0d))))))))))
theorem a1S : FnScope a3k a0C (defScope a0y) := ⟨rfl, rfl, rfl, by decide +kernel, rfl, by decide +kernel, by decide +kernel⟩
theorem a25 (L : Laid K mg "places_to_stand" a0y a0C) (Z : Blt mg)  : FnN P w K mg base (ctOf K cls) 1 "places_to_stand" a0C a0W :=
  a05 (k := 0) L a1S fun f cdv A outer s H E hr =>
 (a0c (psS (i := 2) a1S.nd rfl (a0K (a1g rfl) rfl Z.len PySem.boot_len (a0p (PD.look (a0u (ixd rfl) (a0u (ixd rfl) (a0u (ixd rfl) (a0a (pv 0)) a0b) (a0a (pv 1))) a0b)) a0B)))
 (a0h (a0n (a4u rfl rfl Z.list rfl Z.range (a6a (a0l a1u (a0a (pv 1)) a0b) (a0k (a0o rfl) (a0a (pv 2)) a0b) (a0a (pv 2)))))))
theorem a4P : FnScope a5F a1M (defScope a1j) := ⟨rfl, rfl, rfl, by decide +kernel, rfl, by decide +kernel, by decide +kernel⟩
theorem a4Y (L : Laid K mg "places_of" a1j a1M) (Z : Blt mg)  : FnN P w K mg base (ctOf K cls) 1 "places_of" a1M a2o :=
  a05 (k := 0) L a4P fun f cdv A outer s H E hr =>
 (a0h (a0n (a0u (ixd rfl) (a0u (ixd rfl) (a0u (ixd rfl) (a0a (pv 0)) a0b) (a0a (pv 1))) a0b)))
theorem a4d : FnScope a7r a2z (defScope a1X) := ⟨rfl, rfl, rfl, by decide +kernel, rfl, by decide +kernel, by decide +kernel⟩
theorem a6C (L : Laid K mg "word_at" a1X a2z) (Z : Blt mg) (H_places_of : FnN P w K mg base (ctOf K cls) 1 "places_of" a1M a2o) : FnN P w K mg base (ctOf K cls) 2 "word_at" a2z a2D :=
  a05 (k := 1) L a4d fun f cdv A outer s H E hr =>
 (a0c (psS (i := 3) a4d.nd rfl (a0S H_places_of (hr.mono (by first | decide | omega)) rfl (padN (a0a (pv 0)) (padN (a0a (pv 1)) a0d))))
 (a0h (a0n (a6a (a0l a6d (a0a (pv 2)) (a0K (a1g rfl) rfl Z.len PySem.boot_len (a0p (a0v (pv 3)) a0B))) (a0u (ixd rfl) (a0u (ixd rfl) (a0a (pv 3)) (a0a (pv 2))) a0b) a0b))))
theorem a1i : FnScope a6E a17 (defScope a1y) := ⟨rfl, rfl, rfl, by decide +kernel, rfl, by decide +kernel, by decide +kernel⟩
theorem a5y (L : Laid K mg "steps_up" a1y a17) (Z : Blt mg) (H_places_to_stand : FnN P w K mg base (ctOf K cls) 1 "places_to_stand" a0C a0W) (H_word_at : FnN P w K mg base (ctOf K cls) 2 "word_at" a2z a2D) : FnN P w K mg base (ctOf K cls) 3 "steps_up" a17 a1F :=
  a05 (k := 2) L a1i fun f cdv A outer s H E hr =>
 (a0c (psS (i := 3) a1i.nd rfl (a0u (ixd rfl) (a0a (pv 0)) a0b))
 (a0c (psS (i := 4) a1i.nd rfl (a2u a0d))
 (a0c (a1U PassesOwn.never rfl (a2Z rfl (a0S H_places_to_stand (hr.mono (by first | decide | omega)) rfl (padN (a0a (pv 0)) (padN (a0a (pv 1)) a0d)))) (pbN a1i.nd rfl)
 (a0c (psS (i := 6) a1i.nd rfl (a0k a7q (a0a (pv 2)) (a0S H_word_at (hr.mono (by first | decide | omega)) rfl (padN (a0a (pv 0)) (padN (a0a (pv 1)) (padN (a0a (pv 5)) a0d))))))
 (a0h (a1U PassesOwn.never rfl (a4f rfl Z.range a0b (a0K (a1g rfl) rfl Z.len PySem.boot_len (a0p (a0v (pv 3)) a0B))) (pbN a1i.nd rfl)
 (a0h (a0Z (PWD.pt (a2y (a0l a6e (a0u (ixd rfl) (a0u (ixd rfl) (a0a (pv 3)) (a0a (pv 7))) a0b) (a0u (ixd rfl) (a0u (ixd rfl) (a0a (pv 3)) (a0a (pv 1))) a0b)) (a2I (a0l a1u (a0k a4w (a0k a7o (a0a (pv 6)) (a0a (pv 7))) a0b) a0b))))
 (a0h (a1E (i := 4) (pv 4) (a1L (padN (a0a (pv 5)) (padN (a0a (pv 7)) (padN (a0a (pv 6)) a0d))))))
 a0t))))))
 (a04 (i := 4) (a0h (a0n (a0a (pv 4))))))))
theorem a3e : FnScope a7s a2A (defScope a1Y) := ⟨rfl, rfl, rfl, by decide +kernel, rfl, by decide +kernel, by decide +kernel⟩
theorem a6D (L : Laid K mg "measure" a1Y a2A) (Z : Blt mg) (H_steps_up : FnN P w K mg base (ctOf K cls) 3 "steps_up" a17 a1F) : FnP P w K mg base (ctOf K cls) 16 "measure" a2A a1Q :=
  a5N (k := 4) (j := 3) L a3e (by decide) (fun f G j hj hG cdv A outer s H E hr =>
 (a0c (a0Z (a3h (i := 3) (hu_of hr) (pv 3) (a3w (W := W0) (padN (a0a (pv 1)) (padN (a0a (pv 2)) a0d))))
 (a0c (a7i (i := 4) a3e.nd rfl (by first | exact Or.inl rfl | exact Or.inr rfl) (js := [5]) (vars := [".0", "step"]) (a3d 5) (by rfl) (by rfl) rfl (a2Z rfl (a0S H_steps_up (hr.mono (by first | decide | omega)) rfl (padN (a0a (pv 0)) (padN (a0a (pv 1)) (padN (a0a (pv 2)) a0d))))) (fun _ _ _ _ => (pbN a3e.nd rfl)) (fun _ _ _ _ => (pm_op (a0o rfl) (pm_fn (i := 3) hG hr rfl (a2J (a0a (pv 0)) (a2J (a0u (ixd rfl) (a0a (pv 5)) a0b) (a2J (a0u (ixd rfl) (a0a (pv 5)) a0b) (a6b (pv 3) a0d))))) a0b)))
 (a04 (i := 4) (a0h (a4V (i := 3) (hu_of hr) (pv 3) (a3w (W := W0) (padN (a0a (pv 1)) (padN (a0a (pv 2)) a0d))) (pd_maxD rfl rfl rfl Z.max (a0a (pv 4)))))))
 a0t)
 (a0h (psd_retP (j := 3) (pd_dat (i := 3) (hu_of hr) (pv 3) (a3w (W := W0) (padN (a0a (pv 1)) (padN (a0a (pv 2)) a0d)))))))) 12
theorem a4s : FnScope n_paper a3O (defScope a3f) := ⟨rfl, rfl, rfl, by decide +kernel, rfl, by decide +kernel, by decide +kernel⟩
theorem ok_paper (L : Laid K mg "paper" a3f a3O) (Z : Blt mg) (H_measure : FnP P w K mg base (ctOf K cls) 16 "measure" a2A a1Q) : FnN P w K mg base (ctOf K cls) 17 "paper" a3O a3X :=
  a05 (k := 16) L a4s fun f cdv A outer s H E hr =>
 (a0c (a55 (i := 1) a4s.nd rfl (by first | exact Or.inl rfl | exact Or.inr rfl))
 (a0c (a7h (pm_fn (i := 1) H_measure (hr.mono (by first | decide | omega)) rfl (a2J (a0a (pv 0)) (a2J a0b (a2J a0b (a6b (pv 1) a0d))))))
 (a0h (a0n (pd_frz (i := 1) (pd_compK (i := 1) (js := [2, 3]) (vars := [".0", "row", "word"]) (by decide) (by rfl) (by rfl) rfl (pv 1) (fun _ _ _ _ => (pbk_pair rfl a4s.nd rfl rfl (by first | exact Or.inl rfl | exact Or.inr rfl) (by first | exact Or.inl rfl | exact Or.inr rfl))) (fun _ _ _ _ => (a1L (padN (a0a (pv 2)) (padN (a0a (pv 3)) (padS (pd_datF (i := 1) (hu_of hr) (pv 1) (a3w (W := W0) (padN (a0a (pv 2)) (padN (a0a (pv 3)) a0d)))) a0d)))))))))))
theorem a7d : FnScope n_law p_law (defScope a5o) := ⟨rfl, rfl, rfl, by decide +kernel, rfl, by decide +kernel, by decide +kernel⟩
theorem ok_law {f : Addr} {fd : FuncData} (L : Fun K "law" "law" a5o f fd) (Z : Blt mg) (H_law_closed : FnN P w K mg base (ctOf K cls) 3 "_law_closed" a1p a1a) (H_law_draw : FnN P w K mg base (ctOf K cls) 1 "_law_draw" a0D a0i) (H_law_program : FnN P w K mg base (ctOf K cls) 4 "_law_program" a1c a1w) (H_paper : FnN P w K mg base (ctOf K cls) 17 "paper" a3O a3X) : FnOk P w K mg base CX0 18 f fd p_law (spD (ctOf K cls) W0 f_law) :=
  fn_D (k := 17) L a7d fun cdv A outer s H E hr =>
 (a0c (psS (i := 1) a7d.nd rfl (a0S H_law_program (hr.mono (by first | decide | omega)) rfl (padN (a0a (pv 0)) (padS (a0u (ixd rfl) (a2u (padC a0b (padC a0b (padC a0b (padC a0b a0d))))) (a0S H_law_draw (hr.mono (by first | decide | omega)) rfl (padN (a0a (pv 0)) (padC a0b (padC a0b a0d))))) a0d))))
 (a0c (psS (i := 2) a7d.nd rfl (a0S H_paper (hr.mono (by first | decide | omega)) rfl (padN (a0a (pv 1)) a0d)))
 (a0c (a0Z (a2Y (a2X (pd_fnB H_law_closed (hr.mono (by first | decide | omega)) rfl (a0p (a0v (pv 1)) (a0p (a0v (pv 2)) a0B)))))
 (a0h (a0n a38))
 a0t)
 (a0c (a7j (i := 2) (pv 2))
 (a0h (a0n (pd_fnB H_law_closed (hr.mono (by first | decide | omega)) rfl (a0p (a0v (pv 1)) (a0p (PD.look (a0S H_paper (hr.mono (by first | decide | omega)) rfl (padN (a0a (pv 1)) a0d))) a0B)))))))))
theorem ok_all (T : Defs K mg cls) (Z : Blt mg) {f : Addr} {fd : FuncData} (L : Fun K "law" "law" a5o f fd) : FnOk P w K mg base CX0 18 f fd p_law (spD (ctOf K cls) W0 f_law) := by
  have h_law_whole := @a4Z P w K mg base cls T.L_law_whole Z
  have h_law_rows := @a5A P w K mg base cls T.L_law_rows Z h_law_whole
  have h_law_closed := @a4y P w K mg base cls T.L_law_closed Z h_law_rows
  have h_law_draw := @a5C P w K mg base cls T.L_law_draw Z
  have h_law_number := @a4x P w K mg base cls T.L_law_number Z h_law_draw
  have h_law_boxes := @a40 P w K mg base cls T.L_law_boxes Z h_law_draw h_law_number
  have h_law_deed := @a5D P w K mg base cls T.L_law_deed Z h_law_draw h_law_number
  have h_law_rank := @a5B P w K mg base cls T.L_law_rank Z h_law_draw
  have h_law_shut := @a5z P w K mg base cls T.L_law_shut Z h_law_draw
  have h_law_program := @a39 P w K mg base cls T.L_law_program Z h_law_boxes h_law_deed h_law_draw h_law_rank h_law_shut
  have h_places_to_stand := @a25 P w K mg base cls T.L_places_to_stand Z
  have h_places_of := @a4Y P w K mg base cls T.L_places_of Z
  have h_word_at := @a6C P w K mg base cls T.L_word_at Z h_places_of
  have h_steps_up := @a5y P w K mg base cls T.L_steps_up Z h_places_to_stand h_word_at
  have h_measure := @a6D P w K mg base cls T.L_measure Z h_steps_up
  have h_paper := @ok_paper P w K mg base cls T.L_paper Z h_measure
  exact ok_law L Z h_law_closed h_law_draw h_law_program h_paper
end
unseal PySem.wpAny
theorem walk {l : PySem.W.OpenLaw} {q : Program} {loose : List Str} {XP : (Str → Option Value) → Heap → Prop} {YP : World → Heap → Prop} {d : DefRec} {K : Params → PySem.W.Frag} (T : ∀ ns : List Int, ns.length ≤ 63 → f_law [.lst (ns.map D.int)] = some (.ok (.sh (.bl true)))) (hn : l.most = some 63) (hdf : d.params.defaults = []) (hdn : d.name = "law")
    (hY : ∀ (w : World) (h : Heap), YP w h → (K w.params).In h) (F : ∀ (w : World) (mg : Str → Option Value) (h : Heap), (K w.params).In h → h.Ns mainGlobals mg → (∃ cls, Defs (K w.params) mg cls) ∧ Blt mg) : PySem.W.WalkO q loose XP YP l.row.toRowW d [] (fun f vs => PySem.call f vs) :=
  law_walk (k := 18) (x := "_law_script") (by decide) hn hdf hY fun w mg fa h KX G hm => by
    obtain ⟨⟨cls, T1⟩, Z⟩ := F w mg h KX G
    obtain ⟨f, fd, Fl, hm2, _⟩ := T1.L_law.ex
    rw [hdn, hm2] at hm
    cases hm
    obtain ⟨oc, od, kV, doc, pm, an, cdv, ct, osl, e, _⟩ := id Fl.ex
    exact ⟨fd, fun s u => by rw [e]; exact .of_eq rfl, fun base => law_sp (ok_all (cls := cls) T1 Z Fl) rfl rfl T⟩
set_option maxHeartbeats 0 in
theorem defs_mk {K : PySem.W.Frag} {h : Heap} {mg : Str → Option Value} (X : K.In h) (G : h.Ns mainGlobals mg)
    {g0 : Addr} {oc0 : Value} {od0 an0 : Option Addr} {sl0 : Array (Option Value)} {kV0 dc0 pm0 cd0 ct0 : Value}
    {g1 : Addr} {oc1 : Value} {od1 an1 : Option Addr} {sl1 : Array (Option Value)} {kV1 dc1 pm1 cd1 ct1 : Value}
    {g2 : Addr} {oc2 : Value} {od2 an2 : Option Addr} {sl2 : Array (Option Value)} {kV2 dc2 pm2 cd2 ct2 : Value}
    {g3 : Addr} {oc3 : Value} {od3 an3 : Option Addr} {sl3 : Array (Option Value)} {kV3 dc3 pm3 cd3 ct3 : Value}
    {g4 : Addr} {oc4 : Value} {od4 an4 : Option Addr} {sl4 : Array (Option Value)} {kV4 dc4 pm4 cd4 ct4 : Value}
    {g5 : Addr} {oc5 : Value} {od5 an5 : Option Addr} {sl5 : Array (Option Value)} {kV5 dc5 pm5 cd5 ct5 : Value}
    {g6 : Addr} {oc6 : Value} {od6 an6 : Option Addr} {sl6 : Array (Option Value)} {kV6 dc6 pm6 cd6 ct6 : Value}
    {g7 : Addr} {oc7 : Value} {od7 an7 : Option Addr} {sl7 : Array (Option Value)} {kV7 dc7 pm7 cd7 ct7 : Value}
    {g8 : Addr} {oc8 : Value} {od8 an8 : Option Addr} {sl8 : Array (Option Value)} {kV8 dc8 pm8 cd8 ct8 : Value}
    {g9 : Addr} {oc9 : Value} {od9 an9 : Option Addr} {sl9 : Array (Option Value)} {kV9 dc9 pm9 cd9 ct9 : Value}
    {g10 : Addr} {oc10 : Value} {od10 an10 : Option Addr} {sl10 : Array (Option Value)} {kV10 dc10 pm10 cd10 ct10 : Value}
    {g11 : Addr} {oc11 : Value} {od11 an11 : Option Addr} {sl11 : Array (Option Value)} {kV11 dc11 pm11 cd11 ct11 : Value}
    {g12 : Addr} {oc12 : Value} {od12 an12 : Option Addr} {sl12 : Array (Option Value)} {kV12 dc12 pm12 cd12 ct12 : Value}
    {g13 : Addr} {oc13 : Value} {od13 an13 : Option Addr} {sl13 : Array (Option Value)} {kV13 dc13 pm13 cd13 ct13 : Value}
    {g14 : Addr} {oc14 : Value} {od14 an14 : Option Addr} {sl14 : Array (Option Value)} {kV14 dc14 pm14 cd14 ct14 : Value}
    {g15 : Addr} {oc15 : Value} {od15 an15 : Option Addr} {sl15 : Array (Option Value)} {kV15 dc15 pm15 cd15 ct15 : Value}
    {g16 : Addr} {oc16 : Value} {od16 an16 : Option Addr} {sl16 : Array (Option Value)} {kV16 dc16 pm16 cd16 ct16 : Value}
    (a0 : PySem.W.nsIn K mainGlobals "_law_whole" = some (some (.ref g0)))
    (l0 : K.lookup g0 = some ⟨oc0, od0, .func (PySem.W.fnOf "_law_whole" "_law_whole" (defArgs a1k) (defBody a1k) (defScope a1k) .none kV0 dc0 pm0 an0 cd0 ct0), sl0⟩)
    (c0 : PySem.W.codeIn K cd0 "_law_whole" = true)
    (k0 : PySem.W.keepIn K (.ref g0) = true)
    (a1 : PySem.W.nsIn K mainGlobals "_law_rows" = some (some (.ref g1)))
    (l1 : K.lookup g1 = some ⟨oc1, od1, .func (PySem.W.fnOf "_law_rows" "_law_rows" (defArgs a1A) (defBody a1A) (defScope a1A) .none kV1 dc1 pm1 an1 cd1 ct1), sl1⟩)
    (c1 : PySem.W.codeIn K cd1 "_law_rows" = true)
    (k1 : PySem.W.keepIn K (.ref g1) = true)
    (a2 : PySem.W.nsIn K mainGlobals "_law_closed" = some (some (.ref g2)))
    (l2 : K.lookup g2 = some ⟨oc2, od2, .func (PySem.W.fnOf "_law_closed" "_law_closed" (defArgs a07) (defBody a07) (defScope a07) .none kV2 dc2 pm2 an2 cd2 ct2), sl2⟩)
    (c2 : PySem.W.codeIn K cd2 "_law_closed" = true)
    (k2 : PySem.W.keepIn K (.ref g2) = true)
    (a3 : PySem.W.nsIn K mainGlobals "_law_draw" = some (some (.ref g3)))
    (l3 : K.lookup g3 = some ⟨oc3, od3, .func (PySem.W.fnOf "_law_draw" "_law_draw" (defArgs a1C) (defBody a1C) (defScope a1C) .none kV3 dc3 pm3 an3 cd3 ct3), sl3⟩)
    (c3 : PySem.W.codeIn K cd3 "_law_draw" = true)
    (k3 : PySem.W.keepIn K (.ref g3) = true)
    (a4 : PySem.W.nsIn K mainGlobals "_law_number" = some (some (.ref g4)))
    (l4 : K.lookup g4 = some ⟨oc4, od4, .func (PySem.W.fnOf "_law_number" "_law_number" (defArgs a06) (defBody a06) (defScope a06) .none kV4 dc4 pm4 an4 cd4 ct4), sl4⟩)
    (c4 : PySem.W.codeIn K cd4 "_law_number" = true)
    (k4 : PySem.W.keepIn K (.ref g4) = true)
    (a5 : PySem.W.nsIn K mainGlobals "_law_boxes" = some (some (.ref g5)))
    (l5 : K.lookup g5 = some ⟨oc5, od5, .func (PySem.W.fnOf "_law_boxes" "_law_boxes" (defArgs a1l) (defBody a1l) (defScope a1l) .none kV5 dc5 pm5 an5 cd5 ct5), sl5⟩)
    (c5 : PySem.W.codeIn K cd5 "_law_boxes" = true)
    (k5 : PySem.W.keepIn K (.ref g5) = true)
    (a6 : PySem.W.nsIn K mainGlobals "_law_deed" = some (some (.ref g6)))
    (l6 : K.lookup g6 = some ⟨oc6, od6, .func (PySem.W.fnOf "_law_deed" "_law_deed" (defArgs a1D) (defBody a1D) (defScope a1D) .none kV6 dc6 pm6 an6 cd6 ct6), sl6⟩)
    (c6 : PySem.W.codeIn K cd6 "_law_deed" = true)
    (k6 : PySem.W.keepIn K (.ref g6) = true)
    (a7 : PySem.W.nsIn K mainGlobals "_law_rank" = some (some (.ref g7)))
    (l7 : K.lookup g7 = some ⟨oc7, od7, .func (PySem.W.fnOf "_law_rank" "_law_rank" (defArgs a1B) (defBody a1B) (defScope a1B) .none kV7 dc7 pm7 an7 cd7 ct7), sl7⟩)
    (c7 : PySem.W.codeIn K cd7 "_law_rank" = true)
    (k7 : PySem.W.keepIn K (.ref g7) = true)
    (a8 : PySem.W.nsIn K mainGlobals "_law_shut" = some (some (.ref g8)))
    (l8 : K.lookup g8 = some ⟨oc8, od8, .func (PySem.W.fnOf "_law_shut" "_law_shut" (defArgs a1z) (defBody a1z) (defScope a1z) .none kV8 dc8 pm8 an8 cd8 ct8), sl8⟩)
    (c8 : PySem.W.codeIn K cd8 "_law_shut" = true)
    (k8 : PySem.W.keepIn K (.ref g8) = true)
    (a9 : PySem.W.nsIn K mainGlobals "_law_program" = some (some (.ref g9)))
    (l9 : K.lookup g9 = some ⟨oc9, od9, .func (PySem.W.fnOf "_law_program" "_law_program" (defArgs a0V) (defBody a0V) (defScope a0V) .none kV9 dc9 pm9 an9 cd9 ct9), sl9⟩)
    (c9 : PySem.W.codeIn K cd9 "_law_program" = true)
    (k9 : PySem.W.keepIn K (.ref g9) = true)
    (a10 : PySem.W.nsIn K mainGlobals "places_to_stand" = some (some (.ref g10)))
    (l10 : K.lookup g10 = some ⟨oc10, od10, .func (PySem.W.fnOf "places_to_stand" "places_to_stand" (defArgs a0y) (defBody a0y) (defScope a0y) .none kV10 dc10 pm10 an10 cd10 ct10), sl10⟩)
    (c10 : PySem.W.codeIn K cd10 "places_to_stand" = true)
    (k10 : PySem.W.keepIn K (.ref g10) = true)
    (a11 : PySem.W.nsIn K mainGlobals "places_of" = some (some (.ref g11)))
    (l11 : K.lookup g11 = some ⟨oc11, od11, .func (PySem.W.fnOf "places_of" "places_of" (defArgs a1j) (defBody a1j) (defScope a1j) .none kV11 dc11 pm11 an11 cd11 ct11), sl11⟩)
    (c11 : PySem.W.codeIn K cd11 "places_of" = true)
    (k11 : PySem.W.keepIn K (.ref g11) = true)
    (a12 : PySem.W.nsIn K mainGlobals "word_at" = some (some (.ref g12)))
    (l12 : K.lookup g12 = some ⟨oc12, od12, .func (PySem.W.fnOf "word_at" "word_at" (defArgs a1X) (defBody a1X) (defScope a1X) .none kV12 dc12 pm12 an12 cd12 ct12), sl12⟩)
    (c12 : PySem.W.codeIn K cd12 "word_at" = true)
    (k12 : PySem.W.keepIn K (.ref g12) = true)
    (a13 : PySem.W.nsIn K mainGlobals "steps_up" = some (some (.ref g13)))
    (l13 : K.lookup g13 = some ⟨oc13, od13, .func (PySem.W.fnOf "steps_up" "steps_up" (defArgs a1y) (defBody a1y) (defScope a1y) .none kV13 dc13 pm13 an13 cd13 ct13), sl13⟩)
    (c13 : PySem.W.codeIn K cd13 "steps_up" = true)
    (k13 : PySem.W.keepIn K (.ref g13) = true)
    (a14 : PySem.W.nsIn K mainGlobals "measure" = some (some (.ref g14)))
    (l14 : K.lookup g14 = some ⟨oc14, od14, .func (PySem.W.fnOf "measure" "measure" (defArgs a1Y) (defBody a1Y) (defScope a1Y) .none kV14 dc14 pm14 an14 cd14 ct14), sl14⟩)
    (c14 : PySem.W.codeIn K cd14 "measure" = true)
    (k14 : PySem.W.keepIn K (.ref g14) = true)
    (a15 : PySem.W.nsIn K mainGlobals "paper" = some (some (.ref g15)))
    (l15 : K.lookup g15 = some ⟨oc15, od15, .func (PySem.W.fnOf "paper" "paper" (defArgs a3f) (defBody a3f) (defScope a3f) .none kV15 dc15 pm15 an15 cd15 ct15), sl15⟩)
    (c15 : PySem.W.codeIn K cd15 "paper" = true)
    (k15 : PySem.W.keepIn K (.ref g15) = true)
    (a16 : PySem.W.nsIn K mainGlobals "law" = some (some (.ref g16)))
    (l16 : K.lookup g16 = some ⟨oc16, od16, .func (PySem.W.fnOf "law" "law" (defArgs a5o) (defBody a5o) (defScope a5o) .none kV16 dc16 pm16 an16 cd16 ct16), sl16⟩)
    (c16 : PySem.W.codeIn K cd16 "law" = true)
    (k16 : PySem.W.keepIn K (.ref g16) = true)
    (z_bool : PySem.W.nsIn K mainGlobals "bool" = some none)
    (z_int : PySem.W.nsIn K mainGlobals "int" = some none)
    (z_isinstance : PySem.W.nsIn K mainGlobals "isinstance" = some none)
    (z_len : PySem.W.nsIn K mainGlobals "len" = some none)
    (z_list : PySem.W.nsIn K mainGlobals "list" = some none)
    (z_max : PySem.W.nsIn K mainGlobals "max" = some none)
    (z_range : PySem.W.nsIn K mainGlobals "range" = some none)
    (z_tuple : PySem.W.nsIn K mainGlobals "tuple" = some none) :
    (∃ cls, Defs K mg cls) ∧ Blt mg := by
  let cls : String → Addr := fun _ => 0
  exact ⟨⟨cls, ⟨a0T X G a0 l0 c0 k0 fun _ _ _ _ _ _ us hl => match us, hl with | [_], _ => rfl,
    a0T X G a1 l1 c1 k1 fun _ _ _ _ _ _ us hl => match us, hl with | [_, _], _ => rfl,
    a0T X G a2 l2 c2 k2 fun _ _ _ _ _ _ us hl => match us, hl with | [_, _], _ => rfl,
    a0T X G a3 l3 c3 k3 fun _ _ _ _ _ _ us hl => match us, hl with | [_, _, _], _ => rfl,
    a0T X G a4 l4 c4 k4 fun _ _ _ _ _ _ us hl => match us, hl with | [_, _], _ => rfl,
    a0T X G a5 l5 c5 k5 fun _ _ _ _ _ _ us hl => match us, hl with | [_], _ => rfl,
    a0T X G a6 l6 c6 k6 fun _ _ _ _ _ _ us hl => match us, hl with | [_, _, _], _ => rfl,
    a0T X G a7 l7 c7 k7 fun _ _ _ _ _ _ us hl => match us, hl with | [_, _], _ => rfl,
    a0T X G a8 l8 c8 k8 fun _ _ _ _ _ _ us hl => match us, hl with | [_, _, _], _ => rfl,
    a0T X G a9 l9 c9 k9 fun _ _ _ _ _ _ us hl => match us, hl with | [_, _], _ => rfl,
    a0T X G a10 l10 c10 k10 fun _ _ _ _ _ _ us hl => match us, hl with | [_, _], _ => rfl,
    a0T X G a11 l11 c11 k11 fun _ _ _ _ _ _ us hl => match us, hl with | [_, _], _ => rfl,
    a0T X G a12 l12 c12 k12 fun _ _ _ _ _ _ us hl => match us, hl with | [_, _, _], _ => rfl,
    a0T X G a13 l13 c13 k13 fun _ _ _ _ _ _ us hl => match us, hl with | [_, _, _], _ => rfl,
    a0T X G a14 l14 c14 k14 fun _ _ _ _ _ _ us hl => match us, hl with | [_, _, _, _], _ => rfl,
    a0T X G a15 l15 c15 k15 fun _ _ _ _ _ _ us hl => match us, hl with | [_], _ => rfl,
    a0T X G a16 l16 c16 k16 fun _ _ _ _ _ _ us hl => match us, hl with | [_], _ => rfl⟩⟩, ⟨PySem.W.mg_none_of X G z_bool, PySem.W.mg_none_of X G z_int, PySem.W.mg_none_of X G z_isinstance, PySem.W.mg_none_of X G z_len, PySem.W.mg_none_of X G z_list, PySem.W.mg_none_of X G z_max, PySem.W.mg_none_of X G z_range, PySem.W.mg_none_of X G z_tuple⟩⟩
end Bell
def PySem.W.Fast.tw6055307236281425362 : Unit := ()
def PySem.W.Fast.tw4211754027753482709 : Unit := ()
def PySem.W.Fast.tw9521584051176260749 : Unit := ()
def PySem.W.Fast.tw10379815735358927071 : Unit := ()
def PySem.W.Fast.tw4895326955482734800 : Unit := ()
def PySem.W.Fast.tw10977898156956693871 : Unit := ()
open PySem PySem.W PyProof.Rows
set_option maxRecDepth 100000 in
set_option maxHeartbeats 0 in
theorem PySem.Challenge.cw_bellnest_k33_a_paper_is_closed_holds : PySem.Challenge.rw_bellnest_k33_a_paper_is_closed.Holds := by
  w_on; o_law; k_head; (case hw => w_witness2)
  k_fill
  refine Bell.walk (l := PySem.Challenge.rw_bellnest_k33_a_paper_is_closed) Bell.law_true rfl rfl rfl (fun w h Y => PySem.W.kIn_of Y) ?F
  case F =>
    intro w mg h KX G
    refine' Bell.defs_mk KX G ?a0 ?l0 ?c0 ?k0 ?a1 ?l1 ?c1 ?k1 ?a2 ?l2 ?c2 ?k2 ?a3 ?l3 ?c3 ?k3 ?a4 ?l4 ?c4 ?k4 ?a5 ?l5 ?c5 ?k5 ?a6 ?l6 ?c6 ?k6 ?a7 ?l7 ?c7 ?k7 ?a8 ?l8 ?c8 ?k8 ?a9 ?l9 ?c9 ?k9 ?a10 ?l10 ?c10 ?k10 ?a11 ?l11 ?c11 ?k11 ?a12 ?l12 ?c12 ?k12 ?a13 ?l13 ?c13 ?k13 ?a14 ?l14 ?c14 ?k14 ?a15 ?l15 ?c15 ?k15 ?a16 ?l16 ?c16 ?k16 ?z_bool ?z_int ?z_isinstance ?z_len ?z_list ?z_max ?z_range ?z_tuple
    (case a0 => k_is); (case l0 => k_is); (case c0 => k_is); (case k0 => k_is); (case a1 => k_is); (case l1 => k_is)
    (case c1 => k_is); (case k1 => k_is); (case a2 => k_is); (case l2 => k_is); (case c2 => k_is); (case k2 => k_is)
    (case a3 => k_is); (case l3 => k_is); (case c3 => k_is); (case k3 => k_is); (case a4 => k_is); (case l4 => k_is)
    (case c4 => k_is); (case k4 => k_is); (case a5 => k_is); (case l5 => k_is); (case c5 => k_is); (case k5 => k_is)
    (case a6 => k_is); (case l6 => k_is); (case c6 => k_is); (case k6 => k_is); (case a7 => k_is); (case l7 => k_is)
    (case c7 => k_is); (case k7 => k_is); (case a8 => k_is); (case l8 => k_is); (case c8 => k_is); (case k8 => k_is)
    (case a9 => k_is); (case l9 => k_is); (case c9 => k_is); (case k9 => k_is); (case a10 => k_is); (case l10 => k_is)
    (case c10 => k_is); (case k10 => k_is); (case a11 => k_is); (case l11 => k_is); (case c11 => k_is); (case k11 => k_is)
    (case a12 => k_is); (case l12 => k_is); (case c12 => k_is); (case k12 => k_is); (case a13 => k_is); (case l13 => k_is)
    (case c13 => k_is); (case k13 => k_is); (case a14 => k_is); (case l14 => k_is); (case c14 => k_is); (case k14 => k_is)
    (case a15 => k_is); (case l15 => k_is); (case c15 => k_is); (case k15 => k_is); (case a16 => k_is); (case l16 => k_is)
    (case c16 => k_is); (case k16 => k_is); (case z_bool => k_is); (case z_int => k_is); (case z_isinstance => k_is); (case z_len => k_is)
    (case z_list => k_is); (case z_max => k_is); (case z_range => k_is); (case z_tuple => k_is)
