import PyProof.Rows.All
import Wide.All
import OpenK.AllK
import Wide.FinOn
import Lean
import PyProof.EqAt
import PyProof.EqKinds
import PyProof.TupleCall
import PySem.SetOps
import PySem.Challenge.RW_bellnest_k05_promises_of_cells
set_option Elab.async false
set_option linter.all false
set_option maxRecDepth 100000
namespace L2
open PySem PySem.Spec PyProof.Rows
abbrev Key := Sum Int Str
def keyIs : Key → Value → Bool
  | .inl k, v => Value.isInt k v
  | .inr x, v => Value.isStrOf x v
def keyH (w : World) : Key → Int
  | .inl k => hashInt k
  | .inr x => hashStr w x
theorem keyIs_shape : ∀ {k : Key} {v : Value}, keyIs k v = true → (∃ i t, k = Sum.inl i ∧ v = Value.int i t) ∨ (∃ x t, k = Sum.inr x ∧ v = Value.str x t)
  | .inl i, v, h => by
    obtain ⟨t, e⟩ := Value.isInt_shape (k := i) (v := v) h
    exact .inl ⟨i, t, rfl, e⟩
  | .inr x, v, h => by
    obtain ⟨t, e⟩ := Value.isStrOf_shape (x := x) (v := v) h
    exact .inr ⟨x, t, rfl, e⟩
theorem key_ll (a b : Int) : decide ((Sum.inl a : Key) = Sum.inl b) = (a == b) := by
  by_cases e : a = b
  · subst e; simp
  · have h : ¬ (Sum.inl a : Key) = Sum.inl b := fun q => e (Sum.inl.inj q)
    rw [decide_eq_false h]
    exact (beq_eq_false_iff_ne.mpr e).symm
theorem key_rr (a b : Str) : decide ((Sum.inr a : Key) = Sum.inr b) = decide (a = b) := by
  by_cases e : a = b
  · subst e; simp
  · have h : ¬ (Sum.inr a : Key) = Sum.inr b := fun q => e (Sum.inr.inj q)
    rw [decide_eq_false h, decide_eq_false e]
theorem key_lr (a : Int) (b : Str) : decide ((Sum.inl a : Key) = Sum.inr b) = false := decide_eq_false (fun q => nomatch q)
theorem key_rl (a : Str) (b : Int) : decide ((Sum.inr a : Key) = Sum.inl b) = false := decide_eq_false (fun q => nomatch q)
def mixKind (prog : Program) (w : World) : PySem.KeyKind prog w Key where
  is := keyIs
  hash := keyH w
  inj := fun v a b ha hb => by
    rcases keyIs_shape ha with ⟨i, t, rfl, rfl⟩ | ⟨x, t, rfl, rfl⟩
    · rcases keyIs_shape hb with ⟨j, u, rfl, e⟩ | ⟨y, u, rfl, e⟩
      · injection e with e1 _; rw [e1]
      · exact nomatch e
    · rcases keyIs_shape hb with ⟨j, u, rfl, e⟩ | ⟨y, u, rfl, e⟩
      · exact nomatch e
      · injection e with e1 _; rw [e1]
  byValue := fun k v h => by
    rcases keyIs_shape h with ⟨i, t, rfl, rfl⟩ | ⟨x, t, rfl, rfl⟩ <;> rfl
  pyHash := fun hv h => by
    rcases keyIs_shape hv with ⟨i, t, rfl, rfl⟩ | ⟨x, t, rfl, rfl⟩
    · exact wpAny_pyHash_int h
    · exact wpAny_pyHash_str h
  eqBool := fun hu hv h => by
    rcases keyIs_shape hu with ⟨i, t, rfl, rfl⟩ | ⟨x, t, rfl, rfl⟩
    · rcases keyIs_shape hv with ⟨j, u, rfl, rfl⟩ | ⟨y, u, rfl, rfl⟩
      · rw [key_ll] at h; exact wpAny_eqBool_int h
      · rw [key_lr] at h; exact SeqAt.EqAt.int_str i t y u _ _ _ _ h
    · rcases keyIs_shape hv with ⟨j, u, rfl, rfl⟩ | ⟨y, u, rfl, rfl⟩
      · rw [key_rl] at h; exact SeqAt.EqAt.str_int x t j u _ _ _ _ h
      · rw [key_rr] at h; exact wpAny_eqBool_str h
  «strs» := fun k x t v h => by
    rcases keyIs_shape h with ⟨i, u, rfl, e⟩ | ⟨y, u, rfl, e⟩
    · exact nomatch e
    · injection e with e1 _
      subst e1
      cases v <;> rfl
end L2
namespace L2
open PySem PySem.Spec PyProof.Rows
inductive V where
  | non | bl (b : Bool) | int (i : Int) | str (x : Str) | byt (b : Array UInt8) | flt (b : UInt64) | ref (a : Addr) | ty (n : String)
  deriving DecidableEq
def RelV : V → Value → Prop
  | .non, u => u = Value.none
  | .bl b, u => u = Value.bool b
  | .int i, u => ∃ t, u = Value.int i t
  | .str x, u => ∃ t, u = Value.str x t
  | .byt b, u => ∃ t, u = Value.bytes b t
  | .flt b, u => ∃ t, u = Value.float b t
  | .ref a, u => u = Value.ref a
  | .ty n, u => u = Value.type n
abbrev Vals : List V → List Value → Prop := Paired RelV
theorem Vals.length {xs : List V} {us : List Value} (r : Vals xs us) : xs.length = us.length := Paired.length r
theorem Vals.get : ∀ {xs : List V} {us : List Value} {i : Nat} {x : V}, Vals xs us → xs[i]? = some x → ∃ u, us[i]? = some u ∧ RelV x u
  | _, _, _, _, .nil, e => by simp at e
  | _, _, 0, _, .cons r _, e => by simp at e; subst e; exact ⟨_, rfl, r⟩
  | _, _, i + 1, x, .cons _ t, e => by
    obtain ⟨u, h1, h2⟩ := Vals.get (i := i) (x := x) t (by simpa using e)
    exact ⟨u, by simpa using h1, h2⟩
theorem Vals.set {x : V} {u : Value} (r : RelV x u) : ∀ {xs : List V} {us : List Value} (i : Nat), Vals xs us → Vals (xs.set i x) (us.set i u)
  | _, _, _, .nil => .nil
  | _, _, 0, .cons _ t => .cons r t
  | _, _, i + 1, .cons q t => .cons q (Vals.set r i t)
theorem Vals.append : ∀ {xs ys : List V} {us ws : List Value}, Vals xs us → Vals ys ws → Vals (xs ++ ys) (us ++ ws)
  | _, _, _, _, .nil, s => s
  | _, _, _, _, .cons r t, s => .cons r (Vals.append t s)
theorem Vals.take : ∀ {xs : List V} {us : List Value} (n : Nat), Vals xs us → Vals (xs.take n) (us.take n)
  | _, _, 0, _ => .nil
  | _, _, _ + 1, .nil => .nil
  | _, _, n + 1, .cons r t => .cons r (Vals.take n t)
theorem Vals.drop : ∀ {xs : List V} {us : List Value} (n : Nat), Vals xs us → Vals (xs.drop n) (us.drop n)
  | _, _, 0, r => r
  | _, _, _ + 1, .nil => .nil
  | _, _, n + 1, .cons _ t => Vals.drop n t
theorem Vals.none_of : ∀ {xs : List V} {us : List Value} {i : Nat}, Vals xs us → xs[i]? = none → us[i]? = none := fun {xs us i} r e => by
  have h1 := r.length
  have h2 : xs.length ≤ i := List.getElem?_eq_none_iff.mp e
  exact List.getElem?_eq_none_iff.mpr (by omega)
def RelO : Option V → Option Value → Prop
  | some v, some u => RelV v u
  | none, none => True
  | _, _ => False
def KV {κ : Type} : List (κ × V) → List (κ × Value) → Prop := Paired fun (p : κ × V) (q : κ × Value) => p.1 = q.1 ∧ RelV p.2 q.2
def kV : Key → V
  | .inl i => .int i
  | .inr x => .str x
inductive HO where
  | lst (xs : List V)
  | tup (xs : List V)
  | dK (kvs : List (Key × V)) | dT (kvs : List (List Key × V))
  | set (S : Int → Bool) (n : Nat)
  | ins (C dx : Addr) (fs : List (Str × V))
  | own (x : Addr)
  | xd (fs : List (Str × V))
  | met (f x : Addr)
  | rng (lo hi : Int)
  | frz (o : Obj) (u : HO)
  | tbl (ps : Array Value)
  | tab (good : Pos → Option Str)
  | fnc (c : Addr) (q : Str)
  | ext (φ : Heap → Prop)
abbrev Hp := Addr → Option HO
def upd (H : Hp) (a : Addr) (o : HO) : Hp := fun b => if b = a then some o else H b
theorem upd_same {H : Hp} {a : Addr} {o : HO} : upd H a o a = some o := by unfold upd; rw [if_pos rfl]
theorem upd_ne {H : Hp} {a b : Addr} {o : HO} (h : b ≠ a) : upd H a o b = H b := by unfold upd; rw [if_neg h]
theorem ne_of_none {H : Hp} {a b : Addr} {o : HO} (h : H a = some o) (h' : H b = none) : a ≠ b := by
  intro e; subst e; rw [h] at h'; cases h'
section
variable (P : Program) (w : World)
def ObjOk (H : Hp) (h : Heap) (a : Addr) : HO → Prop
  | .lst xs => xs.length ≤ sizeLine ∧ ∃ (its : List Value) (n : Nat), Vals xs its ∧ h.get? a = some { cls := .type "list", data := .seq its.toArray n }
  | .tup xs => xs.length ≤ sizeLine ∧ ∃ its : List Value, Vals xs its ∧ IsTup h a its.toArray
  | .dK kvs => kvs.length ≤ sizeLine ∧ (a == sysModules) = false ∧ ∃ vs, KV kvs vs ∧ h.DictOf (mixKind P w) a vs
  | .dT kvs => kvs.length ≤ sizeLine ∧ (a == sysModules) = false ∧ ∃ xs : List (List Key × Addr × Value),
      Paired (fun (p : List Key × V) (q : List Key × Addr × Value) => p.1 = q.1 ∧ H q.2.1 = some (.tup (p.1.map kV)) ∧ RelV p.2 q.2.2) kvs xs ∧
      ∃ o es ep, h.get? a = some o ∧ o.ExactDict ∧ o.data = .dict es ep ∧ es.toList = xs.map (entryOfKey (tupleKind (mixKind P w))) ∧ (xs.map (·.1)).Nodup
  | .set S n => h.SetOf (intKind P w) a S n
  | .ins C dx fs => H dx = some (.own a) ∧ fs.length ≤ 1000 ∧ dx ≠ a ∧ h.get? a = some (PySem.W.instObj C dx) ∧
      ∃ mA, h.Ns1 dx mA ∧ (∀ f, RelO (fs.lookup f) (mA f)) ∧ PySem.Within mA (fs.map (·.1))
  | .own _ => ∃ o, h.get? a = some o
  | .xd fs => ∃ mA, h.Ns1 a mA ∧ ∀ f, RelO (fs.lookup f) (mA f)
  | .rng lo hi => ∃ t u v, h.get? a = some { cls := .type "range", data := .fields #[.int lo t, .int hi u, .int 1 v] }
  | .frz o u => h.get? a = some o ∧ ObjOk H h a u
  | .tbl ps => h.get? a = some { cls := .none, data := .fields ps }
  | .tab good => ∃ ps : Array Value, h.get? a = some { cls := .none, data := .fields ps } ∧ TriplesOk ps.toList ∧ ∀ p cv, (good p).isSome = true → codeAmong p ps.toList = some cv → ∃ (c : Addr) (oc : Obj) (q : Str) (vs : Array Value) (t : Tok), cv = .ref c ∧ H c = some (.frz oc (.own c)) ∧ good p = some q ∧ oc.data = .fields vs ∧ vs[1]? = some (.str q t)
  | .fnc c q => (∃ o, h.get? a = some o) ∧ ∃ (oc : Obj) (vs : Array Value) (t : Tok), H c = some (.frz oc (.own c)) ∧ oc.data = .fields vs ∧ vs[1]? = some (.str q t)
  | .met f x => h.get? a = some (PySem.W.methodObj (.ref f) (.ref x))
  | .ext φ => φ h ∧ (∃ o, h.get? a = some o) ∧ ∀ h1 h2 : Heap, φ h1 → (∀ o, h1.get? a = some o → h2.get? a = some o) → φ h2
def HOk (H : Hp) (h : Heap) : Prop := ∀ a o, H a = some o → ObjOk P w H h a o
end
section
variable {P : Program} {w : World} {H H' : Hp} {h h' : Heap} {a : Addr} {o : HO}
theorem ObjOk.lt (x : ObjOk P w H h a o) : a < h.objs.size := by
  cases o with
  | lst xs => obtain ⟨_, _, _, _, e⟩ := x; exact Heap.lt_size e
  | tup xs => obtain ⟨_, _, _, p⟩ := x; exact p.lt
  | dK kvs => obtain ⟨_, _, _, _, o, _, _, e, _⟩ := x; exact Heap.lt_size e
  | dT kvs => obtain ⟨_, _, _, _, o, _, _, e, _⟩ := x; exact Heap.lt_size e
  | set S n => obtain ⟨o, _, _, _, e, _⟩ := x; exact Heap.lt_size e
  | ins C dx fs => obtain ⟨_, _, _, e, _⟩ := x; exact Heap.lt_size e
  | own y => obtain ⟨_, e⟩ := x; exact Heap.lt_size e
  | xd fs => obtain ⟨_, ⟨_, _, _, e, _⟩, _⟩ := x; exact Heap.lt_size e
  | rng lo hi => obtain ⟨_, _, _, e⟩ := x; exact Heap.lt_size e
  | frz ob u => obtain ⟨e, _⟩ := x; exact Heap.lt_size e
  | tbl ps => exact Heap.lt_size (show h.get? a = some _ from x)
  | tab good => obtain ⟨_, e, _⟩ := x; exact Heap.lt_size e
  | fnc c q => obtain ⟨⟨_, e⟩, _⟩ := x; exact Heap.lt_size e
  | met f y => exact Heap.lt_size (show h.get? a = some _ from x)
  | ext φ => obtain ⟨_, ⟨_, e⟩, _⟩ := x; exact Heap.lt_size e
theorem Paired.mapP {α β : Type} {F G : α → β → Prop} : ∀ {l₁ : List α} {l₂ : List β}, Paired F l₁ l₂ → (∀ a b, F a b → G a b) → Paired G l₁ l₂
  | _, _, .nil, _ => .nil
  | _, _, .cons r t, f => .cons (f _ _ r) (Paired.mapP t f)
theorem ObjOk.stay (x : ObjOk P w H h a o) (k : ∀ b u, (b = a ∨ H b = some (.own a)) → h.get? b = some u → h'.get? b = some u)
    (ho : ∀ b, H b = some (.own a) → H' b = some (.own a)) (ht : ∀ b xs, H b = some (.tup xs) → H' b = some (.tup xs)) (hf : ∀ b ob u, H b = some (.frz ob u) → H' b = some (.frz ob u)) : ObjOk P w H' h' a o := by
  induction o with
  | lst xs => obtain ⟨z, its, n, r, e⟩ := x; exact ⟨z, its, n, r, k _ _ (.inl rfl) e⟩
  | tup xs => obtain ⟨z, its, r, ob, e, c⟩ := x; exact ⟨z, its, r, ob, k _ _ (.inl rfl) e, c⟩
  | dK kvs => obtain ⟨z, y, vs, r, ob, es, ep, e, c⟩ := x; exact ⟨z, y, vs, r, ob, es, ep, k _ _ (.inl rfl) e, c⟩
  | dT kvs =>
    obtain ⟨z, y, xs, r, ob, es, ep, e, c⟩ := x
    exact ⟨z, y, xs, Paired.mapP r fun p q z => ⟨z.1, ht _ _ z.2.1, z.2.2⟩, ob, es, ep, k _ _ (.inl rfl) e, c⟩
  | set S n => obtain ⟨ob, es, ep, t, e, c⟩ := x; exact ⟨ob, es, ep, t, k _ _ (.inl rfl) e, c⟩
  | ins C dx fs =>
    obtain ⟨d, z, ne, e, mA, ⟨od, es, ep, e2, c⟩, r⟩ := x
    exact ⟨ho _ d, z, ne, k _ _ (.inl rfl) e, mA, ⟨od, es, ep, k _ _ (.inr d) e2, c⟩, r⟩
  | own y => obtain ⟨ob, e⟩ := x; exact ⟨ob, k _ _ (.inl rfl) e⟩
  | xd fs => obtain ⟨mA, ⟨od, es, ep, e, c⟩, r⟩ := x; exact ⟨mA, ⟨od, es, ep, k _ _ (.inl rfl) e, c⟩, r⟩
  | rng lo hi => obtain ⟨t, u, v, e⟩ := x; exact ⟨t, u, v, k _ _ (.inl rfl) e⟩
  | frz ob u ih => obtain ⟨e, q⟩ := x; exact ⟨k _ _ (.inl rfl) e, ih q⟩
  | tbl ps =>
    have e : h.get? a = some { cls := .none, data := .fields ps } := x
    show h'.get? a = some { cls := .none, data := .fields ps }
    exact k a _ (.inl rfl) e
  | tab good =>
    obtain ⟨ps, e, tr, q⟩ := x
    refine ⟨ps, k a _ (.inl rfl) e, tr, fun p cv hg hc => ?_⟩
    obtain ⟨c, oc, qq, vs, t, e1, e2, e3⟩ := q p cv hg hc
    exact ⟨c, oc, qq, vs, t, e1, hf _ _ _ e2, e3⟩
  | fnc c q =>
    obtain ⟨⟨ob, e⟩, oc, vs, t, e1, e2⟩ := x
    exact ⟨⟨ob, k _ _ (.inl rfl) e⟩, oc, vs, t, hf _ _ _ e1, e2⟩
  | met f y =>
    have e : h.get? a = some (PySem.W.methodObj (.ref f) (.ref y)) := x
    show h'.get? a = some (PySem.W.methodObj (.ref f) (.ref y))
    exact k a _ (.inl rfl) e
  | ext φ => obtain ⟨p, ⟨o, e⟩, st⟩ := x; exact ⟨st _ _ p fun o q => k _ _ (.inl rfl) q, ⟨o, k _ _ (.inl rfl) e⟩, st⟩
theorem HOk.lt (x : HOk P w H h) (e : H a = some o) : a < h.objs.size := (x a o e).lt
theorem HOk.fresh (x : HOk P w H h) (e : h.objs.size ≤ a) : H a = none := by
  cases q : H a with
  | none => rfl
  | some u => exact absurd (Nat.lt_of_lt_of_le (x.lt q) e) (Nat.lt_irrefl _)
theorem HOk.kept (x : HOk P w H h) (k : ∀ b u, h.get? b = some u → h'.get? b = some u) : HOk P w H h' := fun a o e =>
  (x a o e).stay (fun b u _ q => k b u q) (fun _ q => q) (fun _ _ q => q) fun _ _ _ q => q
theorem HOk.laid (x : HOk P w H h) (k : ∀ b u, h.get? b = some u → h'.get? b = some u) (hp : h.objs.size ≤ a) (new : ObjOk P w (upd H a o) h' a o) : HOk P w (upd H a o) h' := fun b u e => by
  have hn := x.fresh hp
  by_cases hb : b = a
  · subst hb; rw [upd_same] at e; cases e; exact new
  · rw [upd_ne hb] at e
    exact (x b u e).stay (fun c v _ q => k c v q) (fun c q => by rw [upd_ne (ne_of_none q hn)]; exact q) (fun c xs q => by rw [upd_ne (ne_of_none q hn)]; exact q) fun c ob u q => by rw [upd_ne (ne_of_none q hn)]; exact q
end
def Rd (H : Hp) (a : Addr) (u : HO) : Prop := H a = some u ∨ ∃ o, H a = some (.frz o u)
theorem Rd.of {H : Hp} {a : Addr} {u : HO} (h : H a = some u) : Rd H a u := .inl h
theorem Rd.ok {P : Program} {w : World} {H : Hp} {h : Heap} {a : Addr} {u : HO} (r : Rd H a u) (x : HOk P w H h) : ObjOk P w H h a u := by
  rcases r with r | ⟨o, r⟩
  · exact x a u r
  · obtain ⟨_, q⟩ := x a _ r
    exact q
def Mut : Option HO → Prop
  | some (.lst _) => True
  | some (.dK _) => True
  | some (.dT _) => True
  | some (.set _ _) => True
  | some (.ins _ _ _) => True
  | some (.ext _) => True
  | _ => False
section
variable {P : Program} {w : World} {H : Hp} {h h' : Heap} {x e : Addr} {o' : HO}
theorem HOk.write (ok : HOk P w H h) (mu : Mut (H x)) (he : e = x ∨ H e = some (.own x)) (k : ∀ b u, b ≠ e → h.get? b = some u → h'.get? b = some u) (heo : ∃ u, h'.get? e = some u)
    (new : ObjOk P w (upd H x o') h' x o') : HOk P w (upd H x o') h' := fun b u q => by
  have nown : ∀ c y, H c = some (.own y) → c ≠ x := fun c y r z => by subst z; rw [r] at mu; exact mu
  have ntup : ∀ c xs, H c = some (.tup xs) → c ≠ x := fun c xs r z => by subst z; rw [r] at mu; exact mu
  have nfrz : ∀ c ob u, H c = some (.frz ob u) → c ≠ x := fun c ob u r z => by subst z; rw [r] at mu; exact mu
  by_cases hb : b = x
  · subst hb; rw [upd_same] at q; cases q; exact new
  · rw [upd_ne hb] at q
    by_cases hbe : b = e
    · have q' : H b = some (.own x) := by
        rcases he with z | z
        · exact absurd (hbe.trans z) hb
        · rw [hbe]; exact z
      rw [q] at q'; cases q'
      obtain ⟨v, hv⟩ := heo
      exact ⟨v, by rw [hbe]; exact hv⟩
    · refine (ok b u q).stay (fun c v hc r => k c v ?_ r) (fun c r => by rw [upd_ne (nown c b r)]; exact r) (fun c xs r => by rw [upd_ne (ntup c xs r)]; exact r) fun c ob v r => by rw [upd_ne (nfrz c ob v r)]; exact r
      rcases hc with rfl | hc
      · exact hbe
      · rintro rfl
        rcases he with z | z
        · exact nown c b hc z
        · rw [hc] at z; cases z; exact hb rfl
end
structure Un (fs ex : List Addr) (H H' : Hp) (h h' : Heap) : Prop where
  keep : ∀ b o, h.get? b = some o → H b = none → b ∉ fs → b ∉ ex → h'.get? b = some o
  slot : ∀ b o, h.get? b = some o → H b = none → b ∈ fs → b ∉ ex → ∃ sl, h'.get? b = some { o with slots := sl }
  free : ∀ b o, h.get? b = some o → H b = none → b ∉ ex → H' b = none
  there : ∀ b o, h.get? b = some o → b ∉ ex → ∃ o', h'.get? b = some o'
  tups : ∀ b xs, H b = some (.tup xs) → H' b = some (.tup xs)
  frzs : ∀ b o u, H b = some (.frz o u) → H' b = some (.frz o u)
  tbls : ∀ b ps, H b = some (.tbl ps) → ∃ more, H' b = some (.tbl (ps ++ more))
section
variable {fs fs' ex ex' : List Addr} {H H1 H2 : Hp} {h h1 h2 h' : Heap} {a x e : Addr} {o : HO}
theorem Un.any (u : Un fs ex H H1 h h1) {b : Addr} {ob : Obj} (q : h.get? b = some ob) (n : H b = none) (hx : b ∉ ex) : ∃ sl, h1.get? b = some { ob with slots := sl } := by
  by_cases hb : b ∈ fs
  · exact u.slot b ob q n hb hx
  · exact ⟨ob.slots, u.keep b ob q n hb hx⟩
theorem Un.trans (a : Un fs ex H H1 h h1) (b : Un fs ex H1 H2 h1 h2) : Un fs ex H H2 h h2 where
  keep := fun c ob q n hc hx => b.keep c ob (a.keep c ob q n hc hx) (a.free c ob q n hx) hc hx
  slot := fun c ob q n hc hx => by
    obtain ⟨sl, e1⟩ := a.slot c ob q n hc hx
    obtain ⟨sl', e2⟩ := b.slot c _ e1 (a.free c ob q n hx) hc hx
    exact ⟨sl', e2⟩
  free := fun c ob q n hx => by
    obtain ⟨o', e1⟩ := a.there c ob q hx
    exact b.free c o' e1 (a.free c ob q n hx) hx
  there := fun c ob q hx => by
    obtain ⟨o', e1⟩ := a.there c ob q hx
    exact b.there c o' e1 hx
  tups := fun c xs q => b.tups c xs (a.tups c xs q)
  frzs := fun c ob xs q => b.frzs c ob xs (a.frzs c ob xs q)
  tbls := fun c ps q => by
    obtain ⟨m1, e1⟩ := a.tbls c ps q
    obtain ⟨m2, e2⟩ := b.tbls c _ e1
    exact ⟨m1 ++ m2, by rw [e2, Array.append_assoc]⟩
theorem Un.kept (k : ∀ b u, h.get? b = some u → h'.get? b = some u) : Un fs ex H H h h' :=
  ⟨fun b ob q _ _ _ => k b ob q, fun b ob q _ _ _ => ⟨ob.slots, k b ob q⟩, fun _ _ _ n _ => n, fun b ob q _ => ⟨ob, k b ob q⟩, fun _ _ q => q, fun _ _ _ q => q, fun _ ps q => ⟨#[], by rw [q]; simp⟩⟩
theorem Un.refl : Un fs ex H H h h := Un.kept fun _ _ q => q
theorem Un.laid (k : ∀ b u, h.get? b = some u → h'.get? b = some u) (hp : h.objs.size ≤ a) (hn : H a = none) : Un fs ex H (upd H a o) h h' where
  keep := fun b u q _ _ _ => k b u q
  slot := fun b u q _ _ _ => ⟨u.slots, k b u q⟩
  free := fun b u q n _ => by rw [upd_ne (Nat.ne_of_lt (Nat.lt_of_lt_of_le (Heap.lt_size q) hp))]; exact n
  there := fun b u q _ => ⟨u, k b u q⟩
  tups := fun b xs q => by rw [upd_ne (ne_of_none q hn)]; exact q
  frzs := fun b u xs q => by rw [upd_ne (ne_of_none q hn)]; exact q
  tbls := fun b ps q => ⟨#[], by rw [upd_ne (ne_of_none q hn), q]; simp⟩
theorem Un.write (mu : Mut (H x)) (he : e = x ∨ H e = some (.own x)) (k : ∀ b u, b ≠ e → h.get? b = some u → h'.get? b = some u) (heo : ∃ u, h'.get? e = some u) : Un fs ex H (upd H x o) h h' := by
  have hx : ∀ b, H b = none → b ≠ x := fun b n z => by subst z; rw [n] at mu; exact mu
  have hb : ∀ b, H b = none → b ≠ e := fun b n z => by
    subst z
    rcases he with r | r
    · exact hx b n r
    · rw [n] at r; cases r
  have hm : ∀ b u, H b = some u → ¬ Mut (some u) → b ≠ x := fun b u q nm z => by subst z; rw [q] at mu; exact nm mu
  refine ⟨fun b u q n _ _ => k b u (hb b n) q, fun b u q n _ _ => ⟨u.slots, k b u (hb b n) q⟩, fun b u q n _ => by rw [upd_ne (hx b n)]; exact n, fun b u q _ => ?_,
    fun b xs q => by rw [upd_ne (hm b _ q fun z => z)]; exact q, fun b u xs q => by rw [upd_ne (hm b _ q fun z => z)]; exact q, fun b ps q => ⟨#[], by rw [upd_ne (hm b _ q fun z => z), q]; simp⟩⟩
  by_cases hbe : b = e
  · subst hbe; exact heo
  · exact ⟨u, k b u hbe q⟩
theorem Un.mono (u : Un fs ex H H1 h h1) (hs : ∀ b ∈ fs, b ∈ fs') (hx : ∀ b ∈ ex, b ∈ ex') : Un fs' ex' H H1 h h1 :=
  ⟨fun b ob q n hb he => u.keep b ob q n (fun z => hb (hs b z)) fun z => he (hx b z), fun _ _ q n _ he => u.any q n fun z => he (hx _ z), fun b ob q n he => u.free b ob q n fun z => he (hx b z), fun b ob q he => u.there b ob q fun z => he (hx b z), u.tups, u.frzs, u.tbls⟩
end
def trk (h : Heap) (H : Hp) : List Addr := (List.range h.objs.size).filter fun a => (H a).isSome
def hidT (h : Heap) (H : Hp) : Heap := PySem.W.hideAll h (trk h H)
theorem hidT_size (h : Heap) (H : Hp) : (hidT h H).objs.size = h.objs.size := PySem.W.hideAll_size _ _
theorem hidT_get {h : Heap} {H : Hp} {b : Addr} {o : Obj} (e : h.get? b = some o) (n : H b = none) : (hidT h H).get? b = some o :=
  PySem.W.hideAll_get _ e fun hm => by
    have q : (H b).isSome = true := (List.mem_filter.mp hm).2
    rw [n] at q; simp at q
theorem of_hidT {h : Heap} {H : Hp} {b : Addr} {o : Obj} (e : (hidT h H).get? b = some o) : h.get? b = some o ∧ H b = none := by
  have e' : h.get? b = some o := PySem.W.of_hideAll (trk h H) e
  refine ⟨e', ?_⟩
  cases q : H b with
  | none => rfl
  | some x =>
    have hm : b ∈ trk h H := List.mem_filter.mpr ⟨List.mem_range.mpr (Heap.lt_size e'), by simp [q]⟩
    have z : (hidT h H).get? b = none := PySem.W.hideAll_none (trk h H) hm
    rw [z] at e; cases e
def allNews (g h : Heap) (L : Addr) : List (Addr × Obj) := (List.range h.objs.size).filterMap fun a => if a = L ∨ (g.get? a).isSome = true then none else (h.get? a).map fun o => (a, o)
def rest (g h : Heap) (L d : Addr) : List (Addr × Obj) := (allNews g h L).filter fun p => decide (p.1 ≠ d)
end L2
namespace L2
open PySem PySem.Spec PyProof.Rows
structure Mod (K : PySem.W.Frag) (mg : Str → Option Value) (base : Heap) : Prop where
  kin : K.In base
  glob : base.Ns mainGlobals mg
  blt : ∃ mb, base.Ns builtinsNs mb ∧ ∀ x : Str, x ≠ "__name__" → mb x = bootBuiltins x
  nolimit : base.NoLimit
structure Cx where
  prog : Program
  w : World
  K : PySem.W.Frag
  mg : Str → Option Value
  base : Heap
  A : Around
  N : List Str
  s₀ : Shared
  H₀ : Hp
  env : Env
  outer : List Env
  stack : List Env
  ex : List Addr
  fn : Str → Bool
  calm : Bool
  pn : List (Addr × Obj)
  xe : Value → Shared → Prop
def frs (l : List Env) : List Addr := l.filterMap (·.frame)
abbrev Cx.fs (X : Cx) : List Addr := frs X.outer
def Vis (sc : Scope) (x : Str) : Prop := sc.names.lookup x = some .local ∨ sc.names.lookup x = some .cell ∨ sc.names.lookup x = some .free
def Loc (sc : Scope) (x : Str) : Prop := sc.names.lookup x = some .local ∨ sc.names.lookup x = some .cell
def Look (env : Env) (h : Heap) (m : Str → Option Value) (x : Str) (u : Value) : Prop :=
  (env.kindOf x = some .local ∧ m x = some u) ∨ ((env.kindOf x = some .cell ∨ env.kindOf x = some .free) ∧ ∃ c, env.cells.lookup x = some c ∧ h.IsCell c (some u))
structure Cx.Ok (X : Cx) : Prop where
  mod : Mod X.K X.mg X.base
  kind : X.env.scope.kind = .function
  glob : X.env.globals = mainGlobals
  blt : X.env.builtins = builtinsNs
  above : X.s₀.heap.objs.size ≤ X.env.locals
  inj : ∀ x y c, X.env.cells.lookup x = some c → X.env.cells.lookup y = some c → x = y
  has : ∀ x, (X.env.kindOf x = some .cell ∨ X.env.kindOf x = some .free) → ∃ c, X.env.cells.lookup x = some c
  cab : ∀ x c, X.fn x = true → X.env.cells.lookup x = some c → X.s₀.heap.objs.size ≤ c
  hd : X.calm = true → X.A.handled = none
  frames : X.A.frames = some X.stack
  stk : X.stack = X.outer ∨ (X.stack = X.env :: X.outer ∧ X.env.frame = some X.env.locals)
  exf : ∀ b ∈ X.ex, b ≠ X.env.locals ∧ ∀ x c, X.env.cells.lookup x = some c → c ≠ b
  bs : ∀ b o, X.base.get? b = some o → X.s₀.heap.get? b = some o ∧ X.H₀ b = none
  bsz : X.base.objs.size ≤ X.s₀.heap.objs.size
  noex : ∀ b o, X.base.get? b = some o → b ∉ X.ex
  exfs : ∀ b ∈ X.ex, b ∉ X.fs
  funs : X.s₀.heap.FunFrames X.base X.outer
  frf : ∀ b ∈ X.fs, X.H₀ b = none
structure Inv (X : Cx) (pins : List (Addr × Obj)) (σ : List (Option V)) (H : Hp) (s : Shared) : Prop where
  ok : X.Ok
  os : s.os = X.s₀.os
  bare : AllBare s.gens
  base : Un X.fs X.ex X.H₀ H X.s₀.heap s.heap
  loc : ∃ m, s.heap.Ns X.env.locals m ∧ ∀ (i : Nat) (x : Str) (v : V), X.N[i]? = some x → σ[i]? = some (some v) → Vis X.env.scope x → ∃ u, RelV v u ∧ Look X.env s.heap m x u
  cell : ∀ x c, X.env.cells.lookup x = some c → ∃ v, s.heap.IsCell c v
  free : H X.env.locals = none
  freeC : ∀ x c, X.env.cells.lookup x = some c → H c = none
  pin : ∀ p ∈ X.pn ++ pins, s.heap.get? p.1 = some p.2 ∧ H p.1 = none ∧ p.1 ≠ X.env.locals ∧ p.1 ∉ X.fs ∧ ∀ v, p.2.data ≠ .cell v
  hok : HOk X.prog X.w H s.heap
  len : σ.length = X.N.length
section
variable {X : Cx} {pins : List (Addr × Obj)} {σ : List (Option V)} {H H' : Hp} {s : Shared} {h' : Heap}
theorem Cx.Ok.nofr (ok : X.Ok) {b : Addr} {o : Obj} (e : X.base.get? b = some o) : b ∉ X.fs := fun hb => by
  have := (ok.funs.mem hb).1
  rw [e] at this; cases this
theorem Inv.bs (I : Inv X pins σ H s) : ∀ b o, X.base.get? b = some o → s.heap.get? b = some o ∧ H b = none := fun b o e =>
  ⟨I.base.keep b o (I.ok.bs b o e).1 (I.ok.bs b o e).2 (I.ok.nofr e) (I.ok.noex b o e), I.base.free b o (I.ok.bs b o e).1 (I.ok.bs b o e).2 (I.ok.noex b o e)⟩
theorem Inv.bk (I : Inv X pins σ H s) : ∀ b o, X.base.get? b = some o → s.heap.get? b = some o := fun b o e => (I.bs b o e).1
theorem Inv.mod (I : Inv X pins σ H s) : Mod X.K X.mg X.base := I.ok.mod
theorem Inv.kIn (I : Inv X pins σ H s) : X.K.In s.heap := I.ok.mod.kin.keeps I.bk
theorem Inv.nolimit (I : Inv X pins σ H s) : s.heap.NoLimit := I.ok.mod.nolimit.keeps I.bk
theorem Inv.lt (I : Inv X pins σ H s) : X.env.locals < s.heap.objs.size := let ⟨_, hn, _⟩ := I.loc; hn.lt
theorem Inv.sz (I : Inv X pins σ H s) : X.s₀.heap.objs.size ≤ s.heap.objs.size := Nat.le_trans I.ok.above (Nat.le_of_lt I.lt)
theorem Inv.nofs (I : Inv X pins σ H s) {a : Addr} (h : s.heap.objs.size ≤ a) : a ∉ X.fs := fun hb => by
  obtain ⟨_, o, ho, _⟩ := I.ok.funs.mem hb
  exact absurd (Nat.lt_of_lt_of_le (Heap.lt_size ho) (Nat.le_trans I.sz h)) (Nat.lt_irrefl _)
theorem Inv.cne (I : Inv X pins σ H s) : ∀ x c, X.env.cells.lookup x = some c → c ≠ X.env.locals := fun x c e z => by
  obtain ⟨v, o, ho, hd⟩ := I.cell x c e
  obtain ⟨m, ⟨o', es, ep, ho', hd', _⟩, _⟩ := I.loc
  rw [z, ho'] at ho; cases ho; rw [hd'] at hd; cases hd
theorem Inv.funs (I : Inv X pins σ H s) : s.heap.FunFrames X.base X.outer := by
  have all : ∀ (l : List Env), (∀ b ∈ frs l, b ∈ X.fs) → X.s₀.heap.FunFrames X.base l → s.heap.FunFrames X.base l := by
    intro l
    induction l with
    | nil => intro _ _; trivial
    | cons env r ih =>
      intro hs hl
      obtain ⟨hk, ⟨L, o, hf, hn, ho, hd⟩, hr⟩ := hl
      have hL : L ∈ X.fs := hs L (by unfold frs; rw [List.filterMap_cons, hf]; exact List.mem_cons_self)
      obtain ⟨sl, e⟩ := I.base.slot L o ho (I.ok.frf L hL) hL fun z => I.ok.exfs L z hL
      exact ⟨hk, ⟨L, _, hf, hn, e, hd⟩, ih (fun b hb => hs b (by unfold frs; rw [List.filterMap_cons, hf]; exact List.mem_cons_of_mem _ hb)) hr⟩
  exact all X.outer (fun _ hb => hb) I.ok.funs
theorem Inv.stack (I : Inv X pins σ H s) : s.heap.FunFrames X.base X.stack := by
  rcases I.ok.stk with e | ⟨e, hf⟩
  · rw [e]; exact I.funs
  · rw [e]
    obtain ⟨m, hn, _⟩ := I.loc
    refine .cons (by rw [I.ok.kind]; decide) hf hn ?_ I.funs
    exact Heap.get?_none_of_le (Nat.le_trans I.ok.bsz I.ok.above)
theorem Inv.stkSub (I : Inv X pins σ H s) : ∀ b ∈ frs X.stack, b ∈ X.env.locals :: X.fs := fun b hb => by
  rcases I.ok.stk with e | ⟨e, hf⟩
  · rw [e] at hb; exact List.mem_cons_of_mem _ hb
  · rw [e] at hb
    unfold frs at hb
    rw [List.filterMap_cons, hf] at hb
    exact hb
theorem Inv.stkFree (I : Inv X pins σ H s) : ∀ b ∈ frs X.stack, H b = none := fun b hb => by
  rcases List.mem_cons.mp (I.stkSub b hb) with e | hb
  · rw [e]; exact I.free
  · obtain ⟨_, o, ho, _⟩ := I.ok.funs.mem hb
    exact I.base.free b o ho (I.ok.frf b hb) fun z => I.ok.exfs b z hb
theorem Inv.step {g' : Array GenState} {t' : Nat} {d' : Drawn} {ch : List Addr} (I : Inv X pins σ H s)
    (hch : ∀ b ∈ ch, (b ∈ X.ex ∨ X.s₀.heap.objs.size ≤ b) ∧ b ≠ X.env.locals ∧ (∀ x c, X.env.cells.lookup x = some c → c ≠ b) ∧ ∀ p ∈ X.pn ++ pins, p.1 ≠ b)
    (keep : ∀ b o, b ≠ X.env.locals → b ∉ X.fs → b ∉ ch → s.heap.get? b = some o → H b = none → h'.get? b = some o)
    (slot : ∀ b o, b ≠ X.env.locals → b ∈ X.fs → b ∉ ch → s.heap.get? b = some o → H b = none → ∃ sl, h'.get? b = some { o with slots := sl }) (free : ∀ b o, b ∉ ch → s.heap.get? b = some o → H b = none → H' b = none)
    (there : ∀ b o, b ∉ ch → s.heap.get? b = some o → ∃ o', h'.get? b = some o')
    (tups : ∀ b xs, H b = some (.tup xs) → H' b = some (.tup xs)) (frzs : ∀ b o u, H b = some (.frz o u) → H' b = some (.frz o u)) (tbls : ∀ b ps, H b = some (.tbl ps) → ∃ more, H' b = some (.tbl (ps ++ more)))
    (ns : ∀ m, s.heap.Ns X.env.locals m → h'.Ns X.env.locals m) (hok : HOk X.prog X.w H' h') (hg : AllBare g') :
    Inv X pins σ H' { s with heap := h', gens := g', drawn := d', toks := t' } := by
  have neL : ∀ b o, X.s₀.heap.get? b = some o → b ≠ X.env.locals := fun b o e => Nat.ne_of_lt (Nat.lt_of_lt_of_le (Heap.lt_size e) I.ok.above)
  have neC : ∀ b o, X.s₀.heap.get? b = some o → b ∉ X.ex → b ∉ ch := fun b o e hx hb => by
    rcases (hch b hb).1 with z | z
    · exact hx z
    · exact absurd (Nat.lt_of_lt_of_le (Heap.lt_size e) z) (Nat.lt_irrefl _)
  have cellK : ∀ x c, X.env.cells.lookup x = some c → ∀ v, s.heap.IsCell c v → h'.IsCell c v := fun x c e v ⟨o, ho, hd⟩ => by
    have nch : c ∉ ch := fun z => (hch c z).2.2.1 x c e rfl
    by_cases hc : c ∈ X.fs
    · obtain ⟨sl, q⟩ := slot c o (I.cne x c e) hc nch ho (I.freeC x c e)
      exact ⟨_, q, hd⟩
    · exact ⟨o, keep c o (I.cne x c e) hc nch ho (I.freeC x c e), hd⟩
  refine ⟨I.ok, I.os, hg, ⟨fun b o e n hb hx => ?_, fun b o e n hb hx => ?_, fun b o e n hx => ?_, fun b o e hx => ?_, fun b xs e => tups b xs (I.base.tups b xs e), fun b o xs e => frzs b o xs (I.base.frzs b o xs e), fun b ps e => ?_⟩, ?_, fun x c e => ?_, ?_, fun x c e => ?_, fun p hp => ?_, hok, I.len⟩
  · exact keep b o (neL b o e) hb (neC b o e hx) (I.base.keep b o e n hb hx) (I.base.free b o e n hx)
  · obtain ⟨sl, e1⟩ := I.base.slot b o e n hb hx
    obtain ⟨sl', e2⟩ := slot b _ (neL b o e) hb (neC b o e hx) e1 (I.base.free b o e n hx)
    exact ⟨sl', e2⟩
  · obtain ⟨o', e1⟩ := I.base.there b o e hx
    exact free b o' (neC b o e hx) e1 (I.base.free b o e n hx)
  · obtain ⟨o', e1⟩ := I.base.there b o e hx
    exact there b o' (neC b o e hx) e1
  · obtain ⟨m1, e1⟩ := I.base.tbls b ps e
    obtain ⟨m2, e2⟩ := tbls b _ e1
    exact ⟨m1 ++ m2, by rw [e2, Array.append_assoc]⟩
  · obtain ⟨m, hn, hl⟩ := I.loc
    refine ⟨m, ns m hn, fun i x v e1 e2 e3 => ?_⟩
    obtain ⟨u, r, l⟩ := hl i x v e1 e2 e3
    refine ⟨u, r, ?_⟩
    rcases l with l | ⟨k, c, e, z⟩
    · exact .inl l
    · exact .inr ⟨k, c, e, cellK x c e _ z⟩
  · obtain ⟨v, z⟩ := I.cell x c e
    exact ⟨v, cellK x c e v z⟩
  · obtain ⟨m, ⟨o, _, _, ho, _⟩, _⟩ := I.loc
    exact free _ o (fun z => (hch _ z).2.1 rfl) ho I.free
  · obtain ⟨v, o, ho, hd⟩ := I.cell x c e
    exact free c o (fun z => (hch c z).2.2.1 x c e rfl) ho (I.freeC x c e)
  · obtain ⟨e, n, ne, nf, d⟩ := I.pin p hp
    have nch : p.1 ∉ ch := fun z => (hch p.1 z).2.2.2 p hp rfl
    exact ⟨keep p.1 p.2 ne nf nch e n, free p.1 p.2 nch e n, ne, nf, d⟩
theorem Inv.un {t' : Nat} (I : Inv X pins σ H s) (u : Un X.fs [] H H' s.heap h') (hok : HOk X.prog X.w H' h') : Inv X pins σ H' { s with heap := h', toks := t' } := by
  obtain ⟨m, ⟨o, es, ep, ho, r⟩, _⟩ := id I.loc
  obtain ⟨sl, hL⟩ := u.any ho I.free (by simp)
  exact I.step (g' := s.gens) (d' := s.drawn) (ch := []) (fun _ z => nomatch z) (fun b o _ hb _ e n => u.keep b o e n hb (by simp)) (fun b o _ hb _ e n => u.slot b o e n hb (by simp)) (fun b o _ e n => u.free b o e n (by simp)) (fun b o _ e => u.there b o e (by simp)) u.tups u.frzs u.tbls (fun m' hm => by
    obtain ⟨o', es', ep', ho', r'⟩ := hm
    rw [ho] at ho'; cases ho'
    exact ⟨_, es', ep', hL, r'⟩) hok I.bare
theorem Inv.call {g' : Array GenState} {t' : Nat} {d' : Drawn} {ch : List Addr} (I : Inv X pins σ H s) (u : Un (frs X.stack) ch H H' s.heap h') (hok : HOk X.prog X.w H' h') (hg : AllBare g')
    (hch : ∀ b ∈ ch, (b ∈ X.ex ∨ X.s₀.heap.objs.size ≤ b) ∧ b ≠ X.env.locals ∧ (∀ x c, X.env.cells.lookup x = some c → c ≠ b) ∧ ∀ p ∈ X.pn ++ pins, p.1 ≠ b) :
    Inv X pins σ H' { s with heap := h', gens := g', drawn := d', toks := t' } := by
  obtain ⟨m, ⟨o, es, ep, ho, r⟩, _⟩ := id I.loc
  obtain ⟨sl, hL⟩ := u.any ho I.free fun z => (hch _ z).2.1 rfl
  exact I.step (ch := ch) hch (fun b o hL hb hc e n => u.keep b o e n (fun z => (List.mem_cons.mp (I.stkSub b z)).elim hL hb) hc) (fun b o _ _ hc e n => u.any e n hc) (fun b o hc e n => u.free b o e n hc) (fun b o hc e => u.there b o e hc) u.tups u.frzs u.tbls (fun m' hm => by
    obtain ⟨o', es', ep', ho', r'⟩ := hm
    rw [ho] at ho'; cases ho'
    exact ⟨_, es', ep', hL, r'⟩) hok hg
theorem Inv.turned {t' : Nat} {it : Addr} (I : Inv X pins σ H s) (k : ∀ b o, b ≠ it → s.heap.get? b = some o → h'.get? b = some o) (hn : H it = none) (hL : it ≠ X.env.locals)
    (h1 : it ∈ X.ex ∨ X.s₀.heap.objs.size ≤ it) (h2 : ∀ x c, X.env.cells.lookup x = some c → c ≠ it) (h3 : ∀ p ∈ X.pn ++ pins, p.1 ≠ it) : Inv X pins σ H { s with heap := h', toks := t' } := by
  have nit : ∀ b u, H b = some u → b ≠ it := fun b u e z => by rw [z, hn] at e; cases e
  refine I.step (g' := s.gens) (d' := s.drawn) (ch := [it]) (fun b hb => ?_) (fun b o _ _ hc e _ => k b o (fun z => hc (by simp [z])) e) (fun b o _ _ hc e _ => ⟨o.slots, k b o (fun z => hc (by simp [z])) e⟩) (fun _ _ _ _ n => n)
    (fun b o hc e => ⟨o, k b o (fun z => hc (by simp [z])) e⟩) (fun _ _ e => e) (fun _ _ _ e => e) (fun b ps e => ⟨#[], by rw [e]; simp⟩) (fun m hm => ?_) (fun b u e => ?_) I.bare
  · have e : b = it := by simpa using hb
    subst e
    exact ⟨h1, hL, h2, h3⟩
  · obtain ⟨o, es, ep, ho, r⟩ := hm
    exact ⟨o, es, ep, k _ o (Ne.symm hL) ho, r⟩
  · refine (I.hok b u e).stay (fun c v hc q => k c v ?_ q) (fun _ q => q) (fun _ _ q => q) fun _ _ _ q => q
    rcases hc with z | z
    · rw [z]; exact nit b u e
    · exact nit c _ z
theorem Inv.tok (I : Inv X pins σ H s) (t : Nat) : Inv X pins σ H { s with toks := t } := I.un (h' := s.heap) (t' := t) Un.refl I.hok
theorem Inv.kept {t' : Nat} (I : Inv X pins σ H s) (k : ∀ b u, s.heap.get? b = some u → h'.get? b = some u) : Inv X pins σ H { s with heap := h', toks := t' } := I.un (Un.kept k) (I.hok.kept k)
theorem Inv.laid {a : Addr} {o : HO} {t' : Nat} (I : Inv X pins σ H s) (k : ∀ b u, s.heap.get? b = some u → h'.get? b = some u) (hp : s.heap.objs.size ≤ a) (new : ObjOk X.prog X.w (upd H a o) h' a o) :
    Inv X pins σ (upd H a o) { s with heap := h', toks := t' } := I.un (Un.laid k hp (I.hok.fresh hp)) (I.hok.laid k hp new)
theorem Inv.write {x e : Addr} {o : HO} {t' : Nat} (I : Inv X pins σ H s) (mu : Mut (H x)) (he : e = x ∨ H e = some (.own x)) (k : ∀ b u, b ≠ e → s.heap.get? b = some u → h'.get? b = some u) (heo : ∃ u, h'.get? e = some u)
    (new : ObjOk X.prog X.w (upd H x o) h' x o) : Inv X pins σ (upd H x o) { s with heap := h', toks := t' } := I.un (Un.write mu he k heo) (I.hok.write mu he k heo new)
theorem Inv.pins_of {pins' : List (Addr × Obj)} (I : Inv X pins σ H s) (h : ∀ p ∈ pins', s.heap.get? p.1 = some p.2 ∧ H p.1 = none ∧ p.1 ≠ X.env.locals ∧ p.1 ∉ X.fs ∧ ∀ v, p.2.data ≠ .cell v) : Inv X pins' σ H s :=
  ⟨I.ok, I.os, I.bare, I.base, I.loc, I.cell, I.free, I.freeC, fun p hp => (List.mem_append.mp hp).elim (fun z => I.pin p (List.mem_append_left _ z)) (h p), I.hok, I.len⟩
theorem nodup_ix {N : List Str} (hN : N.Nodup) {i j : Nat} {x : Str} (a : N[i]? = some x) (b : N[j]? = some x) : i = j := by
  obtain ⟨h1, e1⟩ := List.getElem?_eq_some_iff.mp a
  obtain ⟨h2, e2⟩ := List.getElem?_eq_some_iff.mp b
  exact (List.getElem_inj hN).mp (e1.trans e2.symm)
theorem store_ok2 {M : Model} {A : Around} {E : Value → Shared → Prop} {i : Nat} {x : Str} {v : V} {u : Value} {Q : Unit → Shared → Prop} (I : Inv X pins σ H s) (hN : X.N.Nodup) (hi : X.N[i]? = some x) (hx : Loc X.env.scope x) (r : RelV v u)
    (h : ∀ s', Inv X pins (σ.set i (some v)) H s' → (∃ a, Heap.SameBut a s.heap s'.heap ∧ (a = X.env.locals ∨ X.env.cells.lookup x = some a)) → Q () s') (hf : X.fn x = true ∨ X.env.scope.names.lookup x = some .local := by first | exact .inl rfl | exact .inr rfl | assumption) : wpAny M A (storeName X.env x u) Q E s := by
  obtain ⟨m, hn, hl⟩ := id I.loc
  have hcls : (X.env.scope.kind == .class || (X.env.scope.kind == .module && X.env.locals != X.env.globals)) = false := by rw [I.ok.kind]; rfl
  have hiσ : i < σ.length := by rw [I.len]; exact (List.getElem?_eq_some_iff.mp hi).1
  have cne := I.cne
  have tracked : ∀ {a : Addr} {h' : Heap}, (∃ o, s.heap.get? a = some o ∧ H a = none) → Heap.SameBut a s.heap h' → HOk X.prog X.w H h' := fun {a h'} ha hs b ob e => by
    obtain ⟨_, _, hfree⟩ := ha
    refine (I.hok b ob e).stay (fun c w' hc q => (hs.2 c ?_).trans q) (fun _ q => q) (fun _ _ q => q) fun _ _ _ q => q
    rintro rfl
    rcases hc with rfl | hc
    · rw [hfree] at e; cases e
    · rw [hfree] at hc; cases hc
  rcases hx with hk | hk
  · refine wpAny_storeName_local hk hn (fun h' hn' hs => ?_) hcls
    obtain ⟨oL, _, _, hoL, _⟩ := id hn
    refine h _ ⟨I.ok, I.os, I.bare, ⟨fun b o e n hb hx => ?_, fun b o e n hb hx => ?_, I.base.free, fun b o e hx => ?_, I.base.tups, I.base.frzs, I.base.tbls⟩, ⟨_, hn', fun j y v' e1 e2 e3 => ?_⟩, fun y c e => ?_, I.free, I.freeC, fun p hp => ?_, tracked ⟨oL, hoL, I.free⟩ hs, by simpa using I.len⟩ ⟨_, hs, .inl rfl⟩
    · exact (hs.2 b (Nat.ne_of_lt (Nat.lt_of_lt_of_le (Heap.lt_size e) I.ok.above))).trans (I.base.keep b o e n hb hx)
    · obtain ⟨sl, e1⟩ := I.base.slot b o e n hb hx
      exact ⟨sl, (hs.2 b (Nat.ne_of_lt (Nat.lt_of_lt_of_le (Heap.lt_size e) I.ok.above))).trans e1⟩
    · obtain ⟨o', e1⟩ := I.base.there b o e hx
      exact ⟨o', (hs.2 b (Nat.ne_of_lt (Nat.lt_of_lt_of_le (Heap.lt_size e) I.ok.above))).trans e1⟩
    · by_cases hj : j = i
      · subst hj
        rw [hi] at e1; cases e1
        rw [List.getElem?_set_self hiσ] at e2
        cases e2
        exact ⟨u, r, .inl ⟨hk, by simp⟩⟩
      · rw [List.getElem?_set_ne (Ne.symm hj)] at e2
        obtain ⟨u', r', q⟩ := hl j y v' e1 e2 e3
        refine ⟨u', r', ?_⟩
        rcases q with ⟨k, e⟩ | ⟨k, c, e, z⟩
        · refine .inl ⟨k, ?_⟩
          have : y ≠ x := fun e => hj (nodup_ix hN e1 (e ▸ hi))
          simp [this, e]
        · exact .inr ⟨k, c, e, z.sameBut hs (cne y c e)⟩
    · obtain ⟨w', z⟩ := I.cell y c e
      exact ⟨w', z.sameBut hs (cne y c e)⟩
    · obtain ⟨e, n, ne, nf, d⟩ := I.pin p hp
      exact ⟨(hs.2 p.1 ne).trans e, n, ne, nf, d⟩
  · have hfn : X.fn x = true := by
      rcases hf with z | z
      · exact z
      · rw [z] at hk; cases hk
    obtain ⟨c, hc⟩ := I.ok.has x (.inl hk)
    obtain ⟨w', z⟩ := I.cell x c hc
    refine wpAny_storeName_cell I.ok.kind hk hc z (fun h' hc' hs => ?_)
    obtain ⟨oc, hoc, hocd⟩ := id z
    refine h { s with heap := h' } ⟨I.ok, I.os, I.bare, ⟨fun b o e n hb hx => ?_, fun b o e n hb hx => ?_, I.base.free, fun b o e hx => ?_, I.base.tups, I.base.frzs, I.base.tbls⟩, ⟨m, hn.sameBut hs (Ne.symm (cne x c hc)), fun j y v' e1 e2 e3 => ?_⟩, fun y c' e => ?_, I.free, I.freeC, fun p hp => ?_, tracked ⟨oc, hoc, I.freeC x c hc⟩ hs, by simpa using I.len⟩ ⟨c, hs, .inr hc⟩
    · exact (hs.2 b (Nat.ne_of_lt (Nat.lt_of_lt_of_le (Heap.lt_size e) (I.ok.cab x c hfn hc)))).trans (I.base.keep b o e n hb hx)
    · obtain ⟨sl, e1⟩ := I.base.slot b o e n hb hx
      exact ⟨sl, (hs.2 b (Nat.ne_of_lt (Nat.lt_of_lt_of_le (Heap.lt_size e) (I.ok.cab x c hfn hc)))).trans e1⟩
    · obtain ⟨o', e1⟩ := I.base.there b o e hx
      exact ⟨o', (hs.2 b (Nat.ne_of_lt (Nat.lt_of_lt_of_le (Heap.lt_size e) (I.ok.cab x c hfn hc)))).trans e1⟩
    · by_cases hj : j = i
      · subst hj
        rw [hi] at e1; cases e1
        rw [List.getElem?_set_self hiσ] at e2
        cases e2
        exact ⟨u, r, .inr ⟨.inl hk, c, hc, hc'⟩⟩
      · rw [List.getElem?_set_ne (Ne.symm hj)] at e2
        obtain ⟨u', r', q⟩ := hl j y v' e1 e2 e3
        refine ⟨u', r', ?_⟩
        rcases q with q | ⟨k, c', e, z'⟩
        · exact .inl q
        · refine .inr ⟨k, c', e, z'.sameBut hs ?_⟩
          rintro rfl
          exact hj (nodup_ix hN e1 (I.ok.inj _ _ _ e hc ▸ hi))
    · by_cases hcc : c' = c
      · subst hcc; exact ⟨_, hc'⟩
      · obtain ⟨w2, z2⟩ := I.cell y c' e
        exact ⟨w2, z2.sameBut hs hcc⟩
    · obtain ⟨e, n, ne, nf, d⟩ := I.pin p hp
      refine ⟨(hs.2 p.1 ?_).trans e, n, ne, nf, d⟩
      intro q
      rw [q, hoc] at e
      have q' : oc = p.2 := Option.some.inj e
      exact d w' (by rw [← q']; exact hocd)
theorem store_ok {M : Model} {A : Around} {E : Value → Shared → Prop} {i : Nat} {x : Str} {v : V} {u : Value} {Q : Unit → Shared → Prop} (I : Inv X pins σ H s) (hN : X.N.Nodup) (hi : X.N[i]? = some x) (hx : Loc X.env.scope x) (r : RelV v u)
    (h : ∀ s', Inv X pins (σ.set i (some v)) H s' → Q () s') (hf : X.fn x = true ∨ X.env.scope.names.lookup x = some .local := by first | exact .inl rfl | exact .inr rfl | assumption) : wpAny M A (storeName X.env x u) Q E s :=
  store_ok2 I hN hi hx r (fun s' I' _ => h s' I') hf
theorem Inv.call' {s' : Shared} {ch : List Addr} (I : Inv X pins σ H s) (ho : s'.os = s.os) (u : Un (frs X.stack) ch H H' s.heap s'.heap) (hok : HOk X.prog X.w H' s'.heap) (hg : AllBare s'.gens)
    (hch : ∀ b ∈ ch, (b ∈ X.ex ∨ X.s₀.heap.objs.size ≤ b) ∧ b ≠ X.env.locals ∧ (∀ x c, X.env.cells.lookup x = some c → c ≠ b) ∧ ∀ p ∈ X.pn ++ pins, p.1 ≠ b) : Inv X pins σ H' s' := by
  obtain ⟨h', g', d', t', o'⟩ := s'
  have e : o' = s.os := ho
  subst e
  exact I.call (g' := g') (t' := t') (d' := d') u hok hg hch
end
abbrev XK := Value → Option Addr → Hp → Prop
abbrev St := List (Option V)
abbrev VK := V → Hp → Prop
abbrev TE := St → Hp → VK → Prop
abbrev TT := St → Hp → (Bool → Hp → Prop) → Prop
abbrev TA := St → Hp → (List V → Hp → Prop) → Prop
structure Ends where
  nx : St → Hp → Prop
  rt : VK
  bk : St → Hp → Prop := fun _ _ => False
  ct : St → Hp → Prop := fun _ _ => False
abbrev TS := Ends → St → Hp → Prop
def EP (X : Cx) (pins : List (Addr × Obj)) (σ : St) (Q : VK) (u : Value) (s' : Shared) : Prop := ∃ v H', Inv X pins σ H' s' ∧ RelV v u ∧ Q v H'
def TP (X : Cx) (pins : List (Addr × Obj)) (σ : St) (Q : Bool → Hp → Prop) (b : Bool) (s' : Shared) : Prop := ∃ H', Inv X pins σ H' s' ∧ Q b H'
def AP (X : Cx) (pins : List (Addr × Obj)) (σ : St) (Q : List V → Hp → Prop) (us : List Value) (s' : Shared) : Prop := ∃ vs H', Inv X pins σ H' s' ∧ Vals vs us ∧ Q vs H'
def SP (X : Cx) (pins : List (Addr × Obj)) (D : Ends) (f : Flow) (s' : Shared) : Prop :=
  match f with
  | .next => ∃ σ' H', Inv X pins σ' H' s' ∧ D.nx σ' H'
  | .brk => ∃ σ' H', Inv X pins σ' H' s' ∧ D.bk σ' H'
  | .cont => ∃ σ' H', Inv X pins σ' H' s' ∧ D.ct σ' H'
  | .ret u => ∃ v σ' H', Inv X pins σ' H' s' ∧ RelV v u ∧ D.rt v H'
def PE (X : Cx) (e : Expr) (t : TE) : Prop :=
  ∀ (pins : List (Addr × Obj)) (s : Shared) (σ : St) (H : Hp) (Q : VK), Inv X pins σ H s → t σ H Q → wpAny (model X.prog X.w) X.A (eval e X.env) (EP X pins σ Q) X.xe s
def PT (X : Cx) (e : Expr) (t : TT) : Prop :=
  ∀ (pins : List (Addr × Obj)) (s : Shared) (σ : St) (H : Hp) (Q : Bool → Hp → Prop), Inv X pins σ H s → t σ H Q → wpAny (model X.prog X.w) X.A (isTrue e X.env (eval e X.env)) (TP X pins σ Q) X.xe s
def PW (X : Cx) (e : Expr) (t : TT) : Prop :=
  ∀ (whole : Sem Value) (pins : List (Addr × Obj)) (s : Shared) (σ : St) (H : Hp) (Q : Bool → Hp → Prop), Inv X pins σ H s → t σ H Q → wpAny (model X.prog X.w) X.A (isTrue e X.env whole) (TP X pins σ Q) X.xe s
theorem PW.pt {X : Cx} {e : Expr} {t : TT} (h : PW X e t) : PT X e t := h _
def PA (X : Cx) (es : List Expr) (t : TA) : Prop :=
  ∀ (pos : Pos) (pins : List (Addr × Obj)) (s : Shared) (σ : St) (H : Hp) (Q : List V → Hp → Prop), Inv X pins σ H s → t σ H Q → wpAny (model X.prog X.w) X.A (spliced (backTo pos (starEach es X.env))) (AP X pins σ Q) X.xe s
def PS (X : Cx) (st : Stmt) (t : TS) : Prop :=
  ∀ (pins : List (Addr × Obj)) (s : Shared) (σ : St) (H : Hp) (D : Ends), Inv X pins σ H s → t D σ H → wpAny (model X.prog X.w) X.A (exec st X.env) (SP X pins D) X.xe s
def PSs (X : Cx) (st : List Stmt) (t : TS) : Prop :=
  ∀ (pins : List (Addr × Obj)) (s : Shared) (σ : St) (H : Hp) (D : Ends), Inv X pins σ H s → t D σ H → wpAny (model X.prog X.w) X.A (execs st X.env) (SP X pins D) X.xe s
theorem thn {α : Type} {t : Sem α} {Q Q' : α → Shared → Prop} {M : Model} {A : Around} {E : Value → Shared → Prop} {s : Shared} (h : wpAny M A t Q E s) (hQ : ∀ a s, Q a s → Q' a s) : wpAny M A t Q' E s := wpAny_mono h hQ fun _ _ x => x
end L2
namespace L2
open PySem PySem.Spec PyProof.Rows
section
variable {X : Cx}
def tVar (i : Nat) : TE := fun σ H Q => ∃ v, σ[i]? = some (some v) ∧ Q v H
def tC (v : V) : TE := fun _ H Q => Q v H
theorem pe_var {i : Nat} {x : Str} {pos : Pos} (hN : X.N[i]? = some x) (hv : Vis X.env.scope x) (hd : (x == ("__debug__" : Str)) = false := by decide) (hcd : (x == ("__classdict__" : Str)) = false := by decide) : PE X (.Name x pos) (tVar i) := by
  intro pins s σ H Q I h
  obtain ⟨v, e, h⟩ := h
  obtain ⟨m, hn, hl⟩ := I.loc
  obtain ⟨u, r, l⟩ := hl i x v hN e hv
  have fin : EP X pins σ Q u s := ⟨v, H, I, r, h⟩
  rcases l with ⟨hk, hm⟩ | ⟨hk, c, hc, hcell⟩
  · exact wpAny_Name (wpAny_loadName_local I.ok.kind hk hn hm fin) hd
  · rcases hk with hk | hk
    · exact wpAny_Name (wpAny_loadName_cell I.ok.kind hk hc hcell fin) hd
    · exact wpAny_Name (wpAny_loadName_free I.ok.kind hk hc hcell fin hcd) hd
theorem pe_int {i j pos} : PE X (.Constant (.int i) j pos) (tC (.int i)) := fun _ _ _ H _ I h => wpAny_Constant_int ⟨.int i, H, I.tok _, ⟨_, rfl⟩, h⟩
theorem pe_bl {b j pos} : PE X (.Constant (.bool b) j pos) (tC (.bl b)) := fun _ _ _ H _ I h => Constant_bool ⟨.bl b, H, I, rfl, h⟩
theorem pe_str {x j pos} : PE X (.Constant (.str x) j pos) (tC (.str x)) := fun _ _ _ H _ I h => Calls.Constant_str ⟨.str x, H, I.tok _, ⟨_, rfl⟩, h⟩
def Gl (X : Cx) (x : Str) : Prop := X.env.kindOf x = some .globalImplicit
theorem ld_glob {E : Value → Shared → Prop} {pins : List (Addr × Obj)} {s : Shared} {σ : St} {H : Hp} {x : Str} {u : Value} {pos : Pos} {Q : Value → Shared → Prop} (I : Inv X pins σ H s) (hg : Gl X x) (hm : X.mg x = some u) (h : Q u s)
    (hd : (x == ("__debug__" : Str)) = false := by decide) : wpAny (model X.prog X.w) X.A (eval (.Name x pos) X.env) Q E s :=
  Calls.Name_function_global I.ok.kind hg (Calls.loadGlobal_global (by rw [I.ok.glob]; exact I.mod.glob.keeps I.bk) hm h) hd
theorem ld_blt {E : Value → Shared → Prop} {pins : List (Addr × Obj)} {s : Shared} {σ : St} {H : Hp} {x : Str} {u : Value} {pos : Pos} {Q : Value → Shared → Prop} (I : Inv X pins σ H s) (hg : Gl X x) (hm : X.mg x = none) (hv : bootBuiltins x = some u) (h : Q u s)
    (hn : x ≠ "__name__" := by decide) (hd : (x == ("__debug__" : Str)) = false := by decide) : wpAny (model X.prog X.w) X.A (eval (.Name x pos) X.env) Q E s := by
  obtain ⟨mb, h1, h2⟩ := I.mod.blt
  exact Calls.Name_function_global I.ok.kind hg (Calls.loadGlobal_builtin (by rw [I.ok.glob]; exact I.mod.glob.keeps I.bk) hm (by rw [I.ok.blt]; exact h1.keeps I.bk) ((h2 x hn).trans hv) h) hd
theorem pe_bltn {x : Str} {v : V} {u : Value} {pos : Pos} (hg : Gl X x) (hm : X.mg x = none) (hv : bootBuiltins x = some u) (r : RelV v u) (hn : x ≠ "__name__" := by decide) (hd : (x == ("__debug__" : Str)) = false := by decide) : PE X (.Name x pos) (tC v) :=
  fun _ _ _ H _ I h => ld_blt I hg hm hv ⟨v, H, I, r, h⟩ hn hd
def t2I (ta tb : TE) (k : Int → Int → Hp → Prop) : St → Hp → Prop := fun σ H => ta σ H fun x H1 => tb σ H1 fun y H2 => ∃ i j, x = .int i ∧ y = .int j ∧ k i j H2
def tAdd (ta tb : TE) : TE := fun σ H Q => t2I ta tb (fun i j H2 => Q (.int (i + j)) H2) σ H
def tSub (ta tb : TE) : TE := fun σ H Q => t2I ta tb (fun i j H2 => Q (.int (i - j)) H2) σ H
def tMul (ta tb : TE) : TE := fun σ H Q => t2I ta tb (fun i j H2 => (-(2 ^ 64) < i ∧ i < 2 ^ 64) ∧ Q (.int (i * j)) H2) σ H
variable {a b : Expr} {ta tb : TE} {pos : Pos}
def PC (X : Cx) (op : CmpOp) (a b : Expr) (t : TE) : Prop :=
  ∀ (pins : List (Addr × Obj)) (s : Shared) (σ : St) (H : Hp) (Q : VK), Inv X pins σ H s → t σ H Q →
    wpAny (model X.prog X.w) X.A (eval a X.env) (fun v s₁ => wpAny (model X.prog X.w) X.A (eval b X.env) (fun u s₂ => wpAny (model X.prog X.w) X.A (compareOp op v u) (EP X pins σ Q) X.xe s₂) X.xe s₁) X.xe s
theorem nobehind (b : Expr) {op : CmpOp} (h : op ≠ .In) (h2 : op ≠ .NotIn) : behindInMarks op b = false := by
  have e1 : (op == CmpOp.In) = false := by cases op <;> first | rfl | exact absurd rfl h
  have e2 : (op == CmpOp.NotIn) = false := by cases op <;> first | rfl | exact absurd rfl h2
  cases b <;> simp [behindInMarks, e1, e2]
def tCmp (p : Int → Int → Bool) (ta tb : TE) : TE := fun σ H Q => t2I ta tb (fun i j H2 => Q (.bl (p i j)) H2) σ H
abbrev tLt : TE → TE → TE := tCmp fun i j => decide (i < j)
abbrev tLe : TE → TE → TE := tCmp fun i j => decide (i ≤ j)
abbrev tGt : TE → TE → TE := tCmp fun i j => decide (j < i)
abbrev tGe : TE → TE → TE := tCmp fun i j => decide (j ≤ i)
abbrev tEqI : TE → TE → TE := tCmp fun i j => decide (i = j)
abbrev tNeI : TE → TE → TE := tCmp fun i j => !decide (i = j)
def tIsN (ta : TE) : TE := fun σ H Q => ta σ H fun x H1 => Q (.bl (decide (x = .non))) H1
def tNotN (ta : TE) : TE := fun σ H Q => ta σ H fun x H1 => Q (.bl (!decide (x = .non))) H1
theorem RelV.none_iff {x : V} {v : Value} (r : RelV x v) : (v == Value.none) = decide (x = .non) := by
  cases x with
  | non => cases r; rfl
  | bl _ => cases r; rfl
  | int _ => obtain ⟨t, rfl⟩ := r; rfl
  | str _ => obtain ⟨t, rfl⟩ := r; rfl
  | byt _ => obtain ⟨t, rfl⟩ := r; rfl
  | flt _ => obtain ⟨t, rfl⟩ := r; rfl
  | ref _ => cases r; rfl
  | ty _ => cases r; rfl
theorem pc_isN {j pos'} (ha : PE X a ta) : PC X .Is a (.Constant .none j pos') (tIsN ta) := by
  intro pins s σ H Q I h
  refine thn (ha pins s σ H _ I h) fun v s1 ⟨x, H1, I1, r1, q1⟩ => ?_
  exact Constant_none (is_none_gen ⟨.bl _, H1, I1, by rw [r1.none_iff]; rfl, q1⟩)
def tB (t : TE) : TT := fun σ H Q => t σ H fun x H1 => ∃ c, x = .bl c ∧ Q c H1
theorem pe_cmp {op : CmpOp} {t : TE} (h : PC X op a b t) (h1 : behindInMarks op b = false := by first | exact nobehind _ (by decide) (by decide) | rfl) : PE X (.Compare a [op] [b] pos) t := fun pins s σ H Q I hw => wpAny_Compare1 (h pins s σ H Q I hw) h1
theorem pt_cmp {op : CmpOp} {t : TE} (h : PC X op a b t) (h1 : behindInMarks op b = false := by first | exact nobehind _ (by decide) (by decide) | rfl) : PT X (.Compare a [op] [b] pos) (tB t) := by
  intro pins s σ H Q I hw
  refine wpAny_isTrue_Compare1 (thn (h pins s σ H _ I hw) fun v s1 h1 => thn h1 fun u s2 h2 => thn h2 fun c s3 ⟨x, H1, I1, r1, q1⟩ => ?_) h1
  obtain ⟨d, rfl, q⟩ := q1
  cases r1
  exact wpAny_truthy_bool ⟨H1, I1, q⟩
theorem pt_val {e : Expr} {t : TE} (h : PE X e t) (he : ∀ whole, isTrue e X.env whole = (do let v ← whole; standAt e.pos; holding [v] (truthy v)) := by intro _; rfl) : PT X e (tB t) := by
  intro pins s σ H Q I hw
  refine isTrue_plain (thn (h pins s σ H _ I hw) fun v s1 ⟨x, H1, I1, r1, q1⟩ => ?_) (he _)
  obtain ⟨d, rfl, q⟩ := q1
  cases r1
  exact wpAny_truthy_bool ⟨H1, I1, q⟩
variable {tA tB' : TT} {rest : List Expr}
def tAnd (t u : TT) : TT := fun σ H Q => t σ H fun c H1 => if c = true then u σ H1 Q else Q false H1
def tOr (t u : TT) : TT := fun σ H Q => t σ H fun c H1 => if c = true then Q true H1 else u σ H1 Q
def tNot (t : TT) : TT := fun σ H Q => t σ H fun c H1 => Q (!c) H1
theorem pw_and1 (ha : PT X a tA) : PW X (.BoolOp .And [a] pos) tA := by
  intro wh pins s σ H Q I h
  refine isTrue_and (thn (ha pins s σ H Q I h) fun c s1 e => ?_)
  cases c with
  | true => exact isTrue_and_nil e
  | false => exact e
theorem pw_or1 (ha : PT X a tA) : PW X (.BoolOp .Or [a] pos) tA := by
  intro wh pins s σ H Q I h
  refine isTrue_or (thn (ha pins s σ H Q I h) fun c s1 e => ?_)
  cases c with
  | false => exact isTrue_or_nil e
  | true => exact e
theorem pw_and (ha : PT X a tA) (hb : PW X (.BoolOp .And (b :: rest) pos) tB') : PW X (.BoolOp .And (a :: b :: rest) pos) (tAnd tA tB') := by
  intro wh pins s σ H Q I h
  refine isTrue_and (thn (ha pins s σ H _ I h) fun c s1 ⟨H1, I1, q1⟩ => ?_)
  cases c with
  | true => exact hb wh pins s1 σ H1 Q I1 q1
  | false => exact ⟨H1, I1, q1⟩
theorem pw_or (ha : PT X a tA) (hb : PW X (.BoolOp .Or (b :: rest) pos) tB') : PW X (.BoolOp .Or (a :: b :: rest) pos) (tOr tA tB') := by
  intro wh pins s σ H Q I h
  refine isTrue_or (thn (ha pins s σ H _ I h) fun c s1 ⟨H1, I1, q1⟩ => ?_)
  cases c with
  | true => exact ⟨H1, I1, q1⟩
  | false => exact hb wh pins s1 σ H1 Q I1 q1
theorem pt_not (ha : PT X a tA) : PT X (.UnaryOp .Not a pos) (tNot tA) := by
  intro pins s σ H Q I h
  exact isTrue_not (ha pins s σ H (fun c H1 => Q (!c) H1) I h)
def tAndV (ta tb : TE) : TE := fun σ H Q => ta σ H fun x H1 => ∃ c, x = .bl c ∧ if c = true then tb σ H1 Q else Q (.bl false) H1
def tOrV (ta tb : TE) : TE := fun σ H Q => ta σ H fun x H1 => ∃ c, x = .bl c ∧ if c = true then Q (.bl true) H1 else tb σ H1 Q
def tNotV (ta : TE) : TE := fun σ H Q => ta σ H fun x H1 => ∃ c, x = .bl c ∧ Q (.bl (!c)) H1
theorem pe_one {op} {t : TE} (h : PE X a t) : PE X (.BoolOp op [a] pos) t := fun pins s σ H Q I hw => BoolOp_one (h pins s σ H Q I hw)
theorem pe_and (ha : PE X a ta) (hb : PE X (.BoolOp .And (b :: rest) pos) tb) : PE X (.BoolOp .And (a :: b :: rest) pos) (tAndV ta tb) := by
  intro pins s σ H Q I h
  refine BoolOp_and (thn (ha pins s σ H _ I h) fun v s1 ⟨x, H1, I1, r1, q1⟩ => ?_)
  obtain ⟨c, rfl, q1⟩ := q1
  cases r1
  refine wpAny_truthy_bool ?_
  cases c with
  | true => exact hb pins s1 σ H1 Q I1 q1
  | false => exact ⟨.bl false, H1, I1, rfl, q1⟩
def tIf (t : TT) (ta tb : TE) : TE := fun σ H Q => t σ H fun c H1 => if c = true then ta σ H1 Q else tb σ H1 Q
end
end L2
namespace L2
open PySem PySem.Spec PyProof.Rows
def SqL (K : PySem.W.Frag) (H : Hp) (a : Addr) (xs : List V) : Prop :=
  Rd H a (.lst xs) ∨
    ∃ (o : Obj) (its : Array Value) (n : Nat), K.lookup a = some o ∧ o.cls = .type "list" ∧ o.dict = none ∧ o.data = .seq its n ∧ its.size ≤ sizeLine ∧ Vals xs its.toList
def SqT (K : PySem.W.Frag) (H : Hp) (a : Addr) (xs : List V) : Prop :=
  Rd H a (.tup xs) ∨
    ∃ (o : Obj) (its : Array Value) (n : Nat), K.lookup a = some o ∧ o.cls = .type "tuple" ∧ o.data = .seq its n ∧ its.size ≤ sizeLine ∧ Vals xs its.toList
def absV : Value → Option V
  | .none => some .non
  | .bool b => some (.bl b)
  | .int i _ => some (.int i)
  | .str x _ => some (.str x)
  | .bytes b _ => some (.byt b)
  | .float b _ => some (.flt b)
  | .ref a => some (.ref a)
  | .type n => some (.ty n)
  | _ => none
theorem RelV.abs {x : V} {u : Value} (r : RelV x u) : absV u = some x := by
  cases x with
  | non => cases r; rfl
  | bl _ => cases r; rfl
  | int _ => obtain ⟨t, rfl⟩ := r; rfl
  | str _ => obtain ⟨t, rfl⟩ := r; rfl
  | byt _ => obtain ⟨t, rfl⟩ := r; rfl
  | flt _ => obtain ⟨t, rfl⟩ := r; rfl
  | ref _ => cases r; rfl
  | ty _ => cases r; rfl
theorem RelV.inj {x y : V} {u : Value} (r : RelV x u) (q : RelV y u) : x = y := Option.some.inj (r.abs.symm.trans q.abs)
theorem Vals.inj : ∀ {xs ys : List V} {us : List Value}, Vals xs us → Vals ys us → xs = ys
  | _, _, _, .nil, .nil => rfl
  | _, _, _, .cons r t, .cons r' t' => by rw [r.inj r', Vals.inj t t']
section
variable {X : Cx} {pins : List (Addr × Obj)} {σ : St} {H : Hp} {s : Shared} {a : Addr} {xs ys : List V}
theorem SqL.of {K : PySem.W.Frag} (h : H a = some (.lst xs)) : SqL K H a xs := .inl (.inl h)
theorem SqT.of {K : PySem.W.Frag} (h : H a = some (.tup xs)) : SqT K H a xs := .inl (.inl h)
theorem Inv.list (I : Inv X pins σ H s) (h : SqL X.K H a xs) : ∃ its : List Value, Vals xs its ∧ PlainL s.heap a its.toArray ∧ xs.length ≤ sizeLine := by
  rcases h with h | ⟨o, its, n, hk, hc, hd, hs, hz, r⟩
  · obtain ⟨z, its, n, r, e⟩ := h.ok I.hok
    exact ⟨its, r, ⟨_, n, e, rfl, rfl, rfl⟩, z⟩
  · refine ⟨its.toList, r, ⟨o, n, I.kIn a o hk, hc, hd, by simpa using hs⟩, ?_⟩
    have e := r.length
    simp only [Array.length_toList] at e
    omega
theorem Inv.tuple (I : Inv X pins σ H s) (h : SqT X.K H a xs) : ∃ its : List Value, Vals xs its ∧ IsTup s.heap a its.toArray ∧ xs.length ≤ sizeLine := by
  rcases h with h | ⟨o, its, n, hk, hc, hs, hz, r⟩
  · obtain ⟨z, its, r, p⟩ := h.ok I.hok
    exact ⟨its, r, p, z⟩
  · refine ⟨its.toList, r, ⟨o, I.kIn a o hk, hc, n, by simpa using hs⟩, ?_⟩
    have e := r.length
    simp only [Array.length_toList] at e
    omega
theorem Inv.list_inj (I : Inv X pins σ H s) (h : SqL X.K H a xs) (h' : SqL X.K H a ys) : xs = ys := by
  obtain ⟨its, r, ⟨o, n, e, _, _, d⟩, _⟩ := I.list h
  obtain ⟨its', r', ⟨o', n', e', _, _, d'⟩, _⟩ := I.list h'
  rw [e] at e'; cases e'
  rw [d] at d'
  injection d' with d1 _
  have : its = its' := by simpa using congrArg Array.toList d1
  subst this
  exact r.inj r'
theorem Inv.tuple_inj (I : Inv X pins σ H s) (h : SqT X.K H a xs) (h' : SqT X.K H a ys) : xs = ys := by
  obtain ⟨its, r, ⟨o, e, _, n, d⟩, _⟩ := I.tuple h
  obtain ⟨its', r', ⟨o', e', _, n', d'⟩, _⟩ := I.tuple h'
  rw [e] at e'; cases e'
  rw [d] at d'
  injection d' with d1 _
  have : its = its' := by simpa using congrArg Array.toList d1
  subst this
  exact r.inj r'
end
abbrev Cx.wish (X : Cx) (E : Value → Shared → Prop) : Cx := { X with xe := E }
abbrev Cx.nox (X : Cx) : Cx := X.wish fun _ _ => False
theorem Cx.Ok.wish {X : Cx} (ok : X.Ok) (E : Value → Shared → Prop) : (X.wish E).Ok :=
  ⟨ok.mod, ok.kind, ok.glob, ok.blt, ok.above, ok.inj, ok.has, ok.cab, ok.hd, ok.frames, ok.stk, ok.exf, ok.bs, ok.bsz, ok.noex, ok.exfs, ok.funs, ok.frf⟩
theorem Cx.Ok.unwish {X : Cx} {E : Value → Shared → Prop} (ok : (X.wish E).Ok) : X.Ok :=
  ⟨ok.mod, ok.kind, ok.glob, ok.blt, ok.above, ok.inj, ok.has, ok.cab, ok.hd, ok.frames, ok.stk, ok.exf, ok.bs, ok.bsz, ok.noex, ok.exfs, ok.funs, ok.frf⟩
section
variable {X : Cx} {pins : List (Addr × Obj)} {σ : St} {H : Hp} {s : Shared} {E : Value → Shared → Prop}
theorem Inv.wish (I : Inv X pins σ H s) (E : Value → Shared → Prop) : Inv (X.wish E) pins σ H s := ⟨I.ok.wish E, I.os, I.bare, I.base, I.loc, I.cell, I.free, I.freeC, I.pin, I.hok, I.len⟩
theorem Inv.unwish (I : Inv (X.wish E) pins σ H s) : Inv X pins σ H s := ⟨I.ok.unwish, I.os, I.bare, I.base, I.loc, I.cell, I.free, I.freeC, I.pin, I.hok, I.len⟩
theorem SP.unwish {D : Ends} {f : Flow} {s' : Shared} (h : SP (X.wish E) pins D f s') : SP X pins D f s' := by
  cases f with
  | next => obtain ⟨σ', H', I, q⟩ := h; exact ⟨σ', H', I.unwish, q⟩
  | brk => obtain ⟨σ', H', I, q⟩ := h; exact ⟨σ', H', I.unwish, q⟩
  | cont => obtain ⟨σ', H', I, q⟩ := h; exact ⟨σ', H', I.unwish, q⟩
  | ret u => obtain ⟨v, σ', H', I, r, q⟩ := h; exact ⟨v, σ', H', I.unwish, r, q⟩
theorem PE.nox {e : Expr} {t : TE} (h : PE X.nox e t) : PE X e t := fun pins s σ H Q I hw =>
  wpAny_mono (h pins s σ H Q (I.wish _) hw) (fun _ _ ⟨v, H', I', r, q⟩ => ⟨v, H', I'.unwish, r, q⟩) fun _ _ z => False.elim z
theorem PT.nox {e : Expr} {t : TT} (h : PT X.nox e t) : PT X e t := fun pins s σ H Q I hw =>
  wpAny_mono (h pins s σ H Q (I.wish _) hw) (fun _ _ ⟨H', I', q⟩ => ⟨H', I'.unwish, q⟩) fun _ _ z => False.elim z
theorem PSs.nox {st : List Stmt} {t : TS} (h : PSs X.nox st t) : PSs X st t := fun pins s σ H D I hw =>
  wpAny_mono (h pins s σ H D (I.wish _) hw) (fun _ _ q => q.unwish) fun _ _ z => False.elim z
end
section
variable {X : Cx} {st : Stmt} {rest : List Stmt} {t u : TS} {e : Expr} {te : TE} {pos : Pos}
def tNext : TS := fun D σ H => D.nx σ H
def tSeq (t u : TS) : TS := fun D σ H => t { D with nx := u D } σ H
theorem pss_nil : PSs X [] tNext := fun _ _ σ H _ I h => wpAny_execs_nil ⟨σ, H, I, h⟩
theorem pss_cons (h1 : PS X st t) (h2 : PSs X rest u) : PSs X (st :: rest) (tSeq t u) := by
  intro pins s σ H D I h
  refine wpAny_execs_cons (thn (h1 pins s σ H { D with nx := u D } I h) fun f s1 q => ?_)
  cases f with
  | next =>
    obtain ⟨σ', H', I', q⟩ := q
    exact h2 pins s1 σ' H' D I' q
  | ret v => exact q
  | brk => exact q
  | cont => exact q
theorem pss_one (h1 : PS X st t) : PSs X [st] t := by
  intro pins s σ H D I h
  refine wpAny_execs_cons (thn (h1 pins s σ H D I h) fun f s1 q => ?_)
  cases f with
  | next => exact wpAny_execs_nil q
  | ret v => exact q
  | brk => exact q
  | cont => exact q
def tBreak : TS := fun D σ H => D.bk σ H
def tCont : TS := fun D σ H => D.ct σ H
theorem Inv.quiet {pins : List (Addr × Obj)} {σ : St} {H : Hp} {s : Shared} (I : Inv X pins σ H s) : interactive X.env = false := by simp [interactive, I.ok.kind]
def tDrop (te : TE) : TS := fun D σ H => te σ H fun _ H1 => D.nx σ H1
theorem ps_expr (he : PE X e te) (hs : swapsWith e none pos.line X.env = pure false := by rfl) : PS X (.Expr e pos) (tDrop te) := by
  intro pins s σ H D I h
  exact wpAny_Expr_any (thn (he pins s σ H _ I h) fun v s1 ⟨x, H1, I1, r1, q1⟩ => ⟨σ, H1, I1, q1⟩) I.quiet hs
def tRet (te : TE) : TS := fun D σ H => te σ H D.rt
theorem ps_ret (he : PE X e te) : PS X (.Return (some e) pos) (tRet te) := by
  intro pins s σ H D I h
  exact wpAny_Return_some (thn (he pins s σ H _ I h) fun v s1 ⟨x, H1, I1, r1, q1⟩ => ⟨x, σ, H1, I1, r1, q1⟩)
def tRetN : TS := fun D _ H => D.rt .non H
def tIfS (c : TT) (t u : TS) : TS := fun D σ H => c σ H fun b H1 => if b = true then t D σ H1 else u D σ H1
theorem ps_if {c : Expr} {a b : List Stmt} {tc : TT} (hc : PT X c tc) (ha : PSs X a t) (hb : PSs X b u) : PS X (.If c a b pos) (tIfS tc t u) := by
  intro pins s σ H D I h
  refine wpAny_If (thn (hc pins s σ H _ I h) fun d s1 ⟨H1, I1, q1⟩ => ?_)
  cases d with
  | true => exact ha pins s1 σ H1 D I1 q1
  | false => exact hb pins s1 σ H1 D I1 q1
def tNever : TS := fun _ _ _ => False
end
abbrev TG := V → St → Hp → (St → Hp → Prop) → Prop
abbrev TGs := List V → St → Hp → (St → Hp → Prop) → Prop
def PG (X : Cx) (target : Expr) (t : TG) : Prop :=
  ∀ (pins : List (Addr × Obj)) (s : Shared) (σ : St) (H : Hp) (v : V) (u : Value) (Q : St → Hp → Prop), Inv X pins σ H s → RelV v u → t v σ H Q →
    wpAny (model X.prog X.w) X.A (assign target X.env u) (fun _ s' => ∃ σ' H', Inv X pins σ' H' s' ∧ Q σ' H') X.xe s
def PGs (X : Cx) (ts : List Expr) (t : TGs) : Prop :=
  ∀ (pins : List (Addr × Obj)) (s : Shared) (σ : St) (H : Hp) (vs : List V) (us : List Value) (Q : St → Hp → Prop), Inv X pins σ H s → Vals vs us → t vs σ H Q →
    wpAny (model X.prog X.w) X.A (assignInOrder ((assignEach ts X.env).map (·.2)) us) (fun _ s' => ∃ σ' H', Inv X pins σ' H' s' ∧ Q σ' H') X.xe s
abbrev TSet := V → V → V → Hp → (Hp → Prop) → Prop
def PSet (X : Cx) (t : TSet) : Prop :=
  ∀ (pins : List (Addr × Obj)) (s : Shared) (σ : St) (H : Hp) (o i v : V) (ov iv u : Value) (Q : Hp → Prop), Inv X pins σ H s → RelV o ov → RelV i iv → RelV v u → t o i v H Q →
    wpAny (model X.prog X.w) X.A (setItem ov iv u) (fun _ s' => ∃ H', Inv X pins σ H' s' ∧ Q H') X.xe s
abbrev TIp := V → V → Hp → VK → Prop
def PIp (X : Cx) (op : Operator) (t : TIp) : Prop :=
  ∀ (pins : List (Addr × Obj)) (s : Shared) (σ : St) (H : Hp) (x y : V) (v u : Value) (Q : VK), Inv X pins σ H s → RelV x v → RelV y u → t x y H Q →
    wpAny (model X.prog X.w) X.A (inplaceOp op v u) (EP X pins σ Q) X.xe s
section
variable {X : Cx} {pos : Pos}
def gName (i : Nat) : TG := fun v σ H Q => Q (σ.set i (some v)) H
theorem pg_name {i : Nat} {x : Str} (hN : X.N.Nodup) (hi : X.N[i]? = some x) (hx : Loc X.env.scope x) (hf : X.fn x = true ∨ X.env.scope.names.lookup x = some .local := by first | exact .inl rfl | exact .inr rfl | assumption) : PG X (.Name x pos) (gName i) := by
  intro pins s σ H v u Q I r h
  exact wpAny_assign_Name (store_ok I hN hi hx r (fun s' I' => ⟨_, H, I', h⟩) hf)
def gNil : TGs := fun vs σ H Q => vs = [] ∧ Q σ H
def gCons (t : TG) (u : TGs) : TGs := fun vs σ H Q => ∃ v r, vs = v :: r ∧ t v σ H fun σ' H' => u r σ' H' Q
theorem pgs_nil : PGs X [] gNil := by
  intro pins s σ H vs us Q I r h
  obtain ⟨e, h⟩ := h
  subst e
  cases r
  exact assignInOrder_nil ⟨σ, H, I, h⟩
theorem pgs_cons {e : Expr} {es : List Expr} {t : TG} {u : TGs} (h1 : PG X e t) (h2 : PGs X es u)
    (hs : (assignEach (e :: es) X.env).map (·.2) = assign e X.env :: (assignEach es X.env).map (·.2) := by rfl) : PGs X (e :: es) (gCons t u) := by
  intro pins s σ H vs us Q I r h
  obtain ⟨v, vr, e1, h⟩ := h
  subst e1
  cases r with
  | cons r rr =>
    rw [hs]
    refine assignInOrder_cons (thn (h1 pins s σ H _ _ _ I r h) fun _ s1 ⟨σ1, H1, I1, q1⟩ => ?_)
    exact h2 pins s1 σ1 H1 _ _ Q I1 rr q1
def gTup (K : PySem.W.Frag) (n : Nat) (t : TGs) : TG := fun v σ H Q => ∃ a xs, v = .ref a ∧ SqT K H a xs ∧ xs.length = n ∧ t xs σ H Q
theorem pg_tup {es : List Expr} {k : Nat} {t : TGs} {n : Nat} (hc : X.calm = true) (h : PGs X es t)
    (hn : (assignEach es X.env).length = n := by rfl) (hst : (assignEach es X.env).findIdx? (·.1) = none := by rfl) : PG X (.Tuple es k pos) (gTup X.K n t) := by
  intro pins s σ H v u Q I r hw
  obtain ⟨a, xs, e1, hq, hl, hw⟩ := hw
  subst e1
  cases r
  obtain ⟨its, rv, ht, hz⟩ := I.tuple hq
  refine assign_Tuple_tuple (I.ok.hd hc) ht (by simp [hn, ← hl, rv.length]) hst fun h' hx => ?_
  have I1 : Inv X pins σ H { s with heap := h' } := I.kept (t' := s.toks) fun b o e => hx b o (Nat.ne_of_lt (Heap.lt_size e)) e
  exact h pins _ σ H xs _ Q I1 (by simpa using rv) hw
def gSub (to ti : TE) (t : TSet) : TG := fun v σ H Q => to σ H fun o H1 => ti σ H1 fun i H2 => t o i v H2 fun H3 => Q σ H3
theorem pg_sub {o i : Expr} {to ti : TE} {t : TSet} (ho : PE X o to) (hi : PE X i ti) (hs : PSet X t)
    (ha : ∀ v, assign (.Subscript o i pos) X.env v = (do
      let ov ← holding [v] (eval o X.env)
      let iv ← holding [v, ov] (eval i X.env)
      standAt pos
      holding [v, ov, iv] (setItem ov iv v)
      release [v, ov, iv] []) := by intro _; rfl) : PG X (.Subscript o i pos) (gSub to ti t) := by
  intro pins s σ H v u Q I r h
  rw [ha]
  refine wpAny_bind (wpAny_holding (thn (ho pins s σ H _ I h) fun ov s1 ⟨x, H1, I1, r1, q1⟩ => ?_))
  refine wpAny_bind (wpAny_holding (thn (hi pins s1 σ H1 _ I1 q1) fun iv s2 ⟨y, H2, I2, r2, q2⟩ => ?_))
  refine wpAny_bind (wpAny_standAt (wpAny_bind (wpAny_holding (thn (hs pins s2 σ H2 x y v ov iv u _ I2 r1 r2 r q2) fun _ s3 ⟨H3, I3, q3⟩ => ?_))))
  exact wpAny_release ⟨σ, H3, I3, q3⟩
def tAsg (te : TE) (g : TG) : TS := fun D σ H => te σ H fun x H1 => g x σ H1 D.nx
theorem ps_asg {tg e : Expr} {te : TE} {g : TG} (he : PE X e te) (hg : PG X tg g) (hs : swapsWithSole [tg] e pos.line X.env = pure false := by rfl) (hw : swappedStores [tg] e X.env = pure none := by rfl)
    (h1 : (assignEach [tg] X.env).map (·.2) = [assign tg X.env] := by rfl) : PS X (.Assign [tg] e pos) (tAsg te g) := by
  intro pins s σ H D I h
  refine wpAny_Assign_stores (thn (he pins s σ H _ I h) fun v s1 ⟨x, H1, I1, r1, q1⟩ => ?_) hs hw
  rw [h1]
  exact thn (hg pins s1 σ H1 x v _ I1 r1 q1) fun _ s2 q => q
theorem ps_set {i : Nat} {x : Str} {e : Expr} {te : TE} {pos' : Pos} (hN : X.N.Nodup) (hi : X.N[i]? = some x) (hx : Loc X.env.scope x) (he : PE X e te) (hs : swapsWith e (some (.Name x pos')) pos.line X.env = pure false := by rfl) (hf : X.fn x = true ∨ X.env.scope.names.lookup x = some .local := by first | exact .inl rfl | exact .inr rfl | assumption) :
    PS X (.Assign [.Name x pos'] e pos) (tAsg te (gName i)) := by
  intro pins s σ H D I h
  refine wpAny_Assign_Name (thn (he pins s σ H _ I h) fun v s1 ⟨y, H1, I1, r1, q1⟩ => ?_) hs
  exact store_ok I1 hN hi hx r1 (fun s2 I2 => ⟨_, H1, I2, q1⟩) hf
def tPar (i j : Nat) (ta : TA) : TS := fun D σ H => ta σ H fun vs H1 => ∃ v w, vs = [v, w] ∧ D.nx ((σ.set i (some v)).set j (some w)) H1
def tAug (i : Nat) (te : TE) (ti : TIp) : TS := fun D σ H => ∃ x, σ[i]? = some (some x) ∧ te σ H fun y H1 => ti x y H1 fun z H2 => D.nx (σ.set i (some z)) H2
def tAugS (to ti te : TE) (tget : V → V → Hp → VK → Prop) (tip : TIp) (tset : TSet) : TS := fun D σ H => to σ H fun o H1 => ti σ H1 fun i H2 => tget o i H2 fun x H3 => te σ H3 fun y H4 => tip x y H4 fun z H5 => tset o i z H5 fun H6 => D.nx σ H6
def PGet (X : Cx) (t : V → V → Hp → VK → Prop) : Prop :=
  ∀ (pins : List (Addr × Obj)) (s : Shared) (σ : St) (H : Hp) (o i : V) (ov iv : Value) (Q : VK), Inv X pins σ H s → RelV o ov → RelV i iv → t o i H Q →
    wpAny (model X.prog X.w) X.A (getItem ov iv) (EP X pins σ Q) X.xe s
def ipI (f : Int → Int → Int) : TIp := fun x y H Q => ∃ i j, x = .int i ∧ y = .int j ∧ Q (.int (f i j)) H
end
section
variable {X : Cx} {pos : Pos}
def tWhile (c : TT) (tb : TS) : TS := fun D σ H => ∃ W : Nat → St → Hp → Prop, (∃ m, W m σ H) ∧ ∀ m σ H, W m σ H →
  c σ H fun b H1 => if b = true then ∃ N : St → Hp → Prop, (∀ σ' H', N σ' H' → ∃ m', m' < m ∧ W m' σ' H') ∧ tb { D with nx := N, ct := N, bk := D.nx } σ H1 else D.nx σ H1
end
structure It where
  go : Nat → Hp → Prop
  yld : Nat → Hp → V → Hp → Prop
  stop : Nat → Hp → Prop
def FpOk (X : Cx) (pins : List (Addr × Obj)) (H : Hp) (b : Addr) : Prop :=
  H b = none ∧ b ≠ X.env.locals ∧ b ∉ X.fs ∧ (b ∈ X.ex ∨ X.s₀.heap.objs.size ≤ b) ∧ (∀ x c, X.env.cells.lookup x = some c → c ≠ b) ∧ ∀ p ∈ X.pn ++ pins, p.1 ≠ b
theorem Inv.fpOk {X : Cx} {pins : List (Addr × Obj)} {σ : St} {H H' : Hp} {s : Shared} {b : Addr} (I : Inv X pins σ H s) (hb : s.heap.objs.size ≤ b) (hn : H' b = none) : FpOk X pins H' b := by
  refine ⟨hn, Nat.ne_of_gt (Nat.lt_of_lt_of_le I.lt hb), I.nofs hb, .inr (Nat.le_trans I.sz hb), fun x c e z => ?_, fun p hp z => ?_⟩
  · obtain ⟨v, q⟩ := I.cell x c e
    exact absurd (Nat.lt_of_lt_of_le q.lt (by rw [z]; exact hb)) (Nat.lt_irrefl _)
  · exact absurd (Nat.lt_of_lt_of_le (Heap.lt_size (I.pin p hp).1) (by rw [z]; exact hb)) (Nat.lt_irrefl _)
structure Turn (P : Program) (w : World) (K : PySem.W.Frag) (tg : Expr) (J : It) (fp : List Addr) (it : Addr) (tn : Nat → Heap → Prop) : Prop where
  mem : it ∈ fp
  obj : ∀ i h, tn i h → ∀ b ∈ fp, ∃ o, h.get? b = some o ∧ ∀ v, o.data ≠ .cell v
  keep : ∀ i h h', tn i h → (∀ b ∈ fp, ∀ o, h.get? b = some o → h'.get? b = some o) → tn i h'
  item : ∀ (X : Cx), X.prog = P → X.w = w → X.K = K → X.calm = true → ∀ (i : Nat) (pins : List (Addr × Obj)) (s : Shared) (σ : St) (H : Hp) (E : Value → Shared → Prop), Inv X pins σ H s → (∀ b ∈ fp, FpOk X pins H b) → tn i s.heap → J.go i H →
    wpAny (model P w) X.A (pyNext (.ref it)) (fun r s1 => ∃ u, r = some u ∧
      wpAny (model P w) X.A (letOwnedTupleGo tg (.ref it) u) (fun _ s2 => ∃ x H', Inv X pins σ H' s2 ∧ RelV x u ∧ J.yld i H x H' ∧ tn (i + 1) s2.heap ∧ ∀ b ∈ fp, H' b = none) E s1) E s
  done : ∀ (X : Cx), X.prog = P → X.w = w → X.K = K → X.calm = true → ∀ (i : Nat) (pins : List (Addr × Obj)) (s : Shared) (σ : St) (H : Hp) (E : Value → Shared → Prop), Inv X pins σ H s → (∀ b ∈ fp, FpOk X pins H b) → tn i s.heap → J.stop i H →
    wpAny (model P w) X.A (pyNext (.ref it)) (fun r s1 => r = none ∧ Inv X pins σ H s1) E s
  self : ∀ (A : Around) (i : Nat) (s : Shared) (Q : Value → Shared → Prop) (E : Value → Shared → Prop), tn i s.heap → Q (.ref it) s → wpAny (model P w) A (pyIter (.ref it)) Q E s
abbrev TI := St → Hp → (It → Hp → Prop) → Prop
def PIE (X : Cx) (pins : List (Addr × Obj)) (σ : St) (tg : Expr) (R : It → Hp → Prop) (itv : Value) (s2 : Shared) : Prop :=
  ∃ (it : Addr) (fp : List Addr) (tn : Nat → Heap → Prop) (J : It) (H' : Hp), itv = .ref it ∧ Inv X pins σ H' s2 ∧ Turn X.prog X.w X.K tg J fp it tn ∧ tn 0 s2.heap ∧ (∀ b ∈ fp, FpOk X pins H' b) ∧ R J H'
def PI (X : Cx) (tg iter : Expr) (wi : TI) : Prop :=
  ∀ (pins : List (Addr × Obj)) (s : Shared) (σ : St) (H : Hp) (R : It → Hp → Prop), Inv X pins σ H s → wi σ H R →
    wpAny (model X.prog X.w) X.A (eval iter X.env) (fun v s1 => wpAny (model X.prog X.w) X.A (pyIter v) (PIE X pins σ tg R) X.xe s1) X.xe s
theorem go_of {M : Model} {A : Around} {E : Value → Shared → Prop} {s : Shared} {tg : Expr} {it : Addr} {u : Value} {o : Obj} {n : String} {vs : Array Value} {Q : Unit → Shared → Prop} (ho : s.heap.get? it = some o) (hc : o.cls = .type n) (hd : o.data = .fields vs)
    (hn : ["enumerate", "zip", "dict_itemiterator", "dict_reverseitemiterator", "odict_iterator", "itertools.zip_longest", "itertools.pairwise"].contains n = false) (hQ : Q () s) : wpAny M A (letOwnedTupleGo tg (.ref it) u) Q E s := by
  unfold letOwnedTupleGo
  cases tg <;> first
    | exact wpAny_pure hQ
    | (cases u <;> first
        | exact wpAny_pure hQ
        | (refine wpAny_bind (wpAny_load ho ?_)
           rw [hc, hd]
           show wpAny M A (if (["enumerate", "zip", "dict_itemiterator", "dict_reverseitemiterator", "odict_iterator", "itertools.zip_longest", "itertools.pairwise"].contains n && vs[0]? == some (rawInt _)) = true then _ else _) Q E s
           rw [if_neg (by intro h; rw [hn, Bool.false_and] at h; cases h)]
           exact wpAny_pure hQ))
def Itl (K : PySem.W.Frag) (a : Addr) : It :=
  ⟨fun i H => ∃ xs x, SqL K H a xs ∧ xs[i]? = some x, fun i H x H' => H' = H ∧ ∀ xs, SqL K H a xs → xs[i]? = some x, fun i H => ∃ xs, SqL K H a xs ∧ xs.length ≤ i⟩
def Itt (K : PySem.W.Frag) (a : Addr) : It :=
  ⟨fun i H => ∃ xs x, SqT K H a xs ∧ xs[i]? = some x, fun i H x H' => H' = H ∧ ∀ xs, SqT K H a xs → xs[i]? = some x, fun i H => ∃ xs, SqT K H a xs ∧ xs.length ≤ i⟩
def Itr (lo : Int) (n : Nat) : It := ⟨fun i _ => i < n, fun i H x H' => H' = H ∧ x = .int (lo + i), fun i _ => n ≤ i⟩
theorem turn_list {P : Program} {w : World} {K : PySem.W.Frag} {tg : Expr} (a it : Addr) : Turn P w K tg (Itl K a) [it] it (fun i h => h.IsListIter it a i) where
  mem := by simp
  obj := fun i h st b hb => by
    have e : b = it := by simpa using hb
    subst e
    obtain ⟨o, e, c, d⟩ := st
    exact ⟨o, e, fun v z => by rw [d] at z; cases z⟩
  keep := fun i h h' st k => st.at fun o e => k it (by simp) o e
  item := by
    intro X hP hw hK hc i pins s σ H E I hf st hg
    subst hP hw hK
    obtain ⟨xs, x, hq, hx⟩ := hg
    obtain ⟨its, rv, p, hz⟩ := I.list hq
    obtain ⟨u, hu, ru⟩ := rv.get hx
    obtain ⟨f0, f1, f2, f3, f4, f5⟩ := hf it (by simp)
    refine wpAny_pyNext_list_item st p.isList (x := u) (by simpa using hu) fun h' st' sb => ?_
    have I1 : Inv X pins σ H { s with heap := h' } := I.turned (t' := s.toks) (fun b o hb e => (sb.2 b hb).trans e) f0 f1 f3 f4 f5
    obtain ⟨o, e, c, d⟩ := id st'
    exact ⟨u, rfl, go_of (s := { s with heap := h' }) e c d (by decide) ⟨x, H, I1, ru, ⟨rfl, fun ys hy => by rw [I.list_inj hy hq]; exact hx⟩, st', fun b hb => (hf b hb).1⟩⟩
  done := by
    intro X hP hw hK hc i pins s σ H E I hf st hg
    subst hP hw hK
    obtain ⟨xs, hq, hx⟩ := hg
    obtain ⟨its, rv, p, hz⟩ := I.list hq
    obtain ⟨f0, f1, f2, f3, f4, f5⟩ := hf it (by simp)
    have hl := rv.length
    exact wpAny_pyNext_list_end (I.ok.hd hc) st p.isList (by simp; omega) fun h' eb => ⟨rfl, I.turned (t' := s.toks) (fun b o hb e => eb b o hb e) f0 f1 f3 f4 f5⟩
  self := fun _ _ _ _ _ st h => wpAny_pyIter_listiter st h
theorem turn_tuple {P : Program} {w : World} {K : PySem.W.Frag} {tg : Expr} (a it : Addr) : Turn P w K tg (Itt K a) [it] it (fun i h => h.IsTupleIter it a i) where
  mem := by simp
  obj := fun i h st b hb => by
    have e : b = it := by simpa using hb
    subst e
    obtain ⟨o, e, c, d⟩ := st
    exact ⟨o, e, fun v z => by rw [d] at z; cases z⟩
  keep := fun i h h' st k => st.at fun o e => k it (by simp) o e
  item := by
    intro X hP hw hK hc i pins s σ H E I hf st hg
    subst hP hw hK
    obtain ⟨xs, x, hq, hx⟩ := hg
    obtain ⟨its, rv, p, hz⟩ := I.tuple hq
    obtain ⟨u, hu, ru⟩ := rv.get hx
    obtain ⟨f0, f1, f2, f3, f4, f5⟩ := hf it (by simp)
    refine wpAny_pyNext_tuple_item st (show s.heap.IsTuple a its.toArray from p) (x := u) (by simpa using hu) fun h' st' sb => ?_
    have I1 : Inv X pins σ H { s with heap := h' } := I.turned (t' := s.toks) (fun b o hb e => (sb.2 b hb).trans e) f0 f1 f3 f4 f5
    obtain ⟨o, e, c, d⟩ := id st'
    exact ⟨u, rfl, go_of (s := { s with heap := h' }) e c d (by decide) ⟨x, H, I1, ru, ⟨rfl, fun ys hy => by rw [I.tuple_inj hy hq]; exact hx⟩, st', fun b hb => (hf b hb).1⟩⟩
  done := by
    intro X hP hw hK hc i pins s σ H E I hf st hg
    subst hP hw hK
    obtain ⟨xs, hq, hx⟩ := hg
    obtain ⟨its, rv, p, hz⟩ := I.tuple hq
    obtain ⟨f0, f1, f2, f3, f4, f5⟩ := hf it (by simp)
    have hl := rv.length
    exact wpAny_pyNext_tuple_end (I.ok.hd hc) st (show s.heap.IsTuple a its.toArray from p) (by simp; omega) fun h' eb => ⟨rfl, I.turned (t' := s.toks) (fun b o hb e => eb b o hb e) f0 f1 f3 f4 f5⟩
  self := fun _ _ _ _ _ st h => wpAny_pyIter_tupleiter st h
theorem turn_range {P : Program} {w : World} {K : PySem.W.Frag} {tg : Expr} (it : Addr) (lo : Int) (n : Nat) : Turn P w K tg (Itr lo n) [it] it (fun i h => IsRangeIter h it (lo + (i : Nat) * 1) ((n : Int) - (i : Nat)) 1) where
  mem := by simp
  obj := fun i h st b hb => by
    have e : b = it := by simpa using hb
    subst e
    exact ⟨_, st, fun v z => by
      have z' : Data.fields _ = Data.cell v := z
      cases z'⟩
  keep := fun i h h' st k => k it (by simp) _ st
  item := by
    intro X hP hw hK hc i pins s σ H E I hf st hg
    subst hP hw hK
    obtain ⟨f0, f1, f2, f3, f4, f5⟩ := hf it (by simp)
    have W := Walks.range (prog := X.prog) (w := X.w) (I.ok.hd hc) it lo 1 n
    refine W.item i s _ _ hg st fun v h' tk hv st' kk => ?_
    obtain ⟨t, rfl⟩ := hv
    have I1 : Inv X pins σ H { s with heap := h', toks := tk } := I.turned (fun b o hb e => kk b o (by simpa using hb) e) f0 f1 f3 f4 f5
    refine ⟨_, rfl, go_of (s := { s with heap := h', toks := tk }) (n := "range_iterator") st' rfl rfl (by decide) ⟨.int (lo + i), H, I1, ⟨t, ?_⟩, ⟨rfl, rfl⟩, st', fun b hb => (hf b hb).1⟩⟩
    rw [Int.mul_one]
  done := by
    intro X hP hw hK hc i pins s σ H E I hf st hg
    subst hP hw hK
    obtain ⟨f0, f1, f2, f3, f4, f5⟩ := hf it (by simp)
    exact wpAny_pyNext_range_end (I.ok.hd hc) st (by have : n ≤ i := hg; omega) fun h' eb => ⟨rfl, I.turned (t' := s.toks) (fun b o hb e => eb b o hb e) f0 f1 f3 f4 f5⟩
  self := fun _ _ _ _ _ st h => wpAny_pyIter_rangeiter st h
end L2
namespace L2
open PySem PySem.Spec PyProof.Rows
section
variable {X : Cx} {tg : Expr}
def iList (K : PySem.W.Frag) (tl : TE) : TI := fun σ H R => tl σ H fun x H1 => ∃ a, x = .ref a ∧ (∃ xs, SqL K H1 a xs) ∧ R (Itl K a) H1
def iTup (K : PySem.W.Frag) (tl : TE) : TI := fun σ H R => tl σ H fun x H1 => ∃ a, x = .ref a ∧ (∃ xs, SqT K H1 a xs) ∧ R (Itt K a) H1
theorem range_it {pins : List (Addr × Obj)} {σ : St} {H : Hp} {s : Shared} {R : It → Hp → Prop} {E : Value → Shared → Prop} {lo hi : Int} {t u v : Tok} {tk : Nat} (I : Inv X pins σ H s) (h1 : -(2 ^ 62) ≤ lo) (h2 : lo < 2 ^ 62) (h3 : -(2 ^ 62) ≤ hi) (h4 : hi < 2 ^ 62)
    (q : R (Itr lo (hi - lo).toNat) H) : wpAny (model X.prog X.w) X.A (pyIter (.ref s.heap.objs.size)) (PIE X pins σ tg R) E { s with heap := s.heap.push { cls := .type "range", data := .fields #[.int lo t, .int hi u, .int 1 v] }, toks := tk } := by
  refine wpAny_pyIter_range (IsRange.new ..) (small_one h1 h2 h3 h4) ?_
  have I1 : Inv X pins σ H { s with heap := s.heap.push { cls := .type "range", data := .fields #[.int lo t, .int hi u, .int 1 v] }, toks := tk } := I.kept fun b o e => Heap.get?_push_of_some _ e
  refine ⟨(s.heap.push { cls := .type "range", data := .fields #[.int lo t, .int hi u, .int 1 v] }).objs.size, [(s.heap.push { cls := .type "range", data := .fields #[.int lo t, .int hi u, .int 1 v] }).objs.size], _, _, H, rfl,
    I1.kept (t' := tk) fun b o e => Heap.get?_push_of_some _ e, turn_range _ lo (hi - lo).toNat, ?_, fun b hb => ?_, q⟩
  · have e1 : lo + ((0 : Nat) : Int) * 1 = lo := by simp
    have e2 : (((hi - lo).toNat : Nat) : Int) - ((0 : Nat) : Int) = Builtin.Range.rangeSize lo hi 1 := by rw [rangeSize_one]; split <;> omega
    show IsRangeIter _ _ (lo + ((0 : Nat) : Int) * 1) ((((hi - lo).toNat : Nat) : Int) - ((0 : Nat) : Int)) 1
    rw [e1, e2]
    exact Heap.get?_push_size _ rfl
  · have e : b = (s.heap.push { cls := .type "range", data := .fields #[.int lo t, .int hi u, .int 1 v] }).objs.size := by simpa using hb
    subst e
    exact I1.fpOk (Nat.le_refl _) (I1.hok.fresh (Nat.le_refl _))
def iRng1 (ta : TA) : TI := fun σ H R => ta σ H fun vs H1 => ∃ j : Int, vs = [.int j] ∧ -(2 ^ 62) ≤ j ∧ j < 2 ^ 62 ∧ R (Itr 0 j.toNat) H1
def iRng2 (ta : TA) : TI := fun σ H R => ta σ H fun vs H1 => ∃ i j : Int, vs = [.int i, .int j] ∧ (-(2 ^ 62) ≤ i ∧ i < 2 ^ 62 ∧ -(2 ^ 62) ≤ j ∧ j < 2 ^ 62) ∧ R (Itr i (j - i).toNat) H1
theorem pi_range1 {a : Expr} {ta : TA} {p pos : Pos} (hg : Gl X "range") (hm : X.mg "range" = none) (ha : PA X [a] ta) (hs : starEach [a] X.env = [(false, eval a X.env)] := by rfl) : PI X tg (.Call (.Name "range" p) [a] [] pos) (iRng1 ta) := by
  intro pins s σ H R I h
  refine Call_ (ld_blt I hg hm boot_range (PyProof.Rows.callWith_type1 (thn (ha pos pins s σ H _ I h) fun us s1 ⟨vs, H1, I1, r1, q1⟩ => ?_) hs rfl))
  obtain ⟨j, e, q1, q2, q⟩ := q1
  subst e
  cases r1 with
  | cons r rr =>
    cases rr
    obtain ⟨t, rfl⟩ := r
    exact call_range_1 (range_it I1 (by omega) (by omega) q1 q2 (by simpa using q))
def tFor (wi : TI) (g : TG) (tb : TS) : TS := fun D σ H => wi σ H fun J H1 => ∃ W : Nat → Nat → St → Hp → Prop, (∃ m, W 0 m σ H1) ∧ ∀ i m σ H, W i m σ H →
  (J.stop i H ∧ D.nx σ H) ∨ (J.go i H ∧ ∃ N : St → Hp → Prop, (∀ σ' H', N σ' H' → ∃ m', m' < m ∧ W (i + 1) m' σ' H') ∧ ∀ x H', J.yld i H x H' → g x σ H' fun σ2 H2 => tb { D with nx := N, ct := N, bk := D.nx } σ2 H2)
def pinsAt (fp : List Addr) (h : Heap) : List (Addr × Obj) := fp.filterMap fun b => (h.get? b).map fun o => (b, o)
theorem mem_pinsAt {fp : List Addr} {h : Heap} {b : Addr} {o : Obj} (hb : b ∈ fp) (e : h.get? b = some o) : (b, o) ∈ pinsAt fp h := List.mem_filterMap.mpr ⟨b, hb, by rw [e]; rfl⟩
theorem of_pinsAt {fp : List Addr} {h : Heap} {p : Addr × Obj} (hp : p ∈ pinsAt fp h) : p.1 ∈ fp ∧ h.get? p.1 = some p.2 := by
  obtain ⟨b, hb, e⟩ := List.mem_filterMap.mp hp
  cases q : h.get? b with
  | none => rw [q] at e; cases e
  | some o =>
    rw [q] at e
    have e' : (b, o) = p := Option.some.inj e
    subst e'
    exact ⟨hb, q⟩
theorem Inv.pinned {pins : List (Addr × Obj)} {σ : St} {H : Hp} {s : Shared} {fp : List Addr} (I : Inv X pins σ H s) (hf : ∀ b ∈ fp, FpOk X pins H b) (ho : ∀ b ∈ fp, ∃ o, s.heap.get? b = some o ∧ ∀ v, o.data ≠ .cell v) : Inv X (pins ++ pinsAt fp s.heap) σ H s :=
  I.pins_of fun p hp => (List.mem_append.mp hp).elim (fun z => I.pin p (List.mem_append_right _ z)) fun z => by
    obtain ⟨hb, e⟩ := of_pinsAt z
    obtain ⟨f0, f1, f2, _⟩ := hf p.1 hb
    obtain ⟨o, e', d⟩ := ho p.1 hb
    rw [e] at e'; cases e'
    exact ⟨e, f0, f1, f2, d⟩
theorem Inv.unpinned {pins pl : List (Addr × Obj)} {σ : St} {H : Hp} {s : Shared} (I : Inv X (pins ++ pl) σ H s) : Inv X pins σ H s := I.pins_of fun p hp => I.pin p (List.mem_append_right _ (List.mem_append_left _ hp))
theorem ps_for {iter : Expr} {body : List Stmt} {wi : TI} {g : TG} {tb : TS} {pos : Pos} (hp : PassesOwn (model X.prog X.w) X.A X.env X.xe) (hc : X.calm = true) (hi : PI X tg iter wi) (hg : PG X tg g) (hb : PSs X body tb)
    (hs : ∀ x, foldedSetIterable iter X.env x = pure x := by intro _; rfl) : PS X (.For tg iter body [] pos) (tFor wi g tb) := by
  intro pins s σ H D I h
  refine wpAny_For (thn (hi pins s σ H _ I h) fun v s1 h1 => thn h1 fun itv s2 h2 => ?_) hs
  obtain ⟨it, fp, tn, J, H2, e, I2, T, st2, f2, W, ⟨m0, w0⟩, turn⟩ := h2
  subst e
  have stat : ∀ {H' : Hp}, (∀ b ∈ fp, H' b = none) → ∀ b ∈ fp, FpOk X pins H' b := fun hn b hb => ⟨hn b hb, (f2 b hb).2⟩
  refine codeAny_forLoop_any (fun n s' => ∃ i σ' H', Inv X pins σ' H' s' ∧ tn i s'.heap ∧ (∀ b ∈ fp, H' b = none) ∧ W i n σ' H') ?_ m0 ⟨0, σ, H2, I2, st2, fun b hb => (f2 b hb).1, w0⟩
  rintro n s3 ⟨i, σ3, H3, I3, st3, fr3, w3⟩
  rcases turn i n σ3 H3 w3 with ⟨stop, qn⟩ | ⟨go, N, hN, step⟩
  · refine wpAny_passesOwn hp (thn (T.done X rfl rfl rfl hc i pins s3 σ3 H3 X.xe I3 (stat fr3) st3 stop) fun r s4 ⟨hr, I4⟩ => ?_)
    subst hr
    exact wpAny_execs_nil ⟨σ3, H3, I4, qn⟩
  · refine wpAny_passesOwn hp (thn (T.item X rfl rfl rfl hc i pins s3 σ3 H3 X.xe I3 (stat fr3) st3 go) fun r s4 ⟨u, hr, h4⟩ => ?_)
    subst hr
    refine wpAny_passesOwn hp (thn h4 fun _ s5 ⟨x, H5, I5, r5, y5, st5, fr5⟩ => ?_)
    have I5' := I5.pinned (stat fr5) (T.obj _ _ st5)
    refine wpAny_passesOwn hp (thn (hg _ s5 σ3 H5 x u _ I5' r5 (step x H5 y5)) fun _ s6 ⟨σ6, H6, I6, q6⟩ => ?_)
    refine wpAny_passesOwn hp (thn (hb _ s6 σ6 H6 _ I6 q6) fun f s7 q7 => ?_)
    have again : ∀ {σ7 : St} {H7 : Hp}, Inv X (pins ++ pinsAt fp s5.heap) σ7 H7 s7 → N σ7 H7 → ∃ m, m < n ∧ ∃ i σ' H', Inv X pins σ' H' s7 ∧ tn i s7.heap ∧ (∀ b ∈ fp, H' b = none) ∧ W i m σ' H' := fun {σ7 H7} I7 n7 => by
      obtain ⟨m', hm, w7⟩ := hN σ7 H7 n7
      refine ⟨m', hm, i + 1, σ7, H7, I7.unpinned, T.keep _ _ _ st5 fun b hb o e => (I7.pin (b, o) (List.mem_append_right _ (List.mem_append_right _ (mem_pinsAt hb e)))).1, fun b hb => ?_, w7⟩
      obtain ⟨o, e, d⟩ := T.obj _ _ st5 b hb
      exact (I7.pin (b, o) (List.mem_append_right _ (List.mem_append_right _ (mem_pinsAt hb e)))).2.1
    cases f with
    | next => obtain ⟨σ7, H7, I7, n7⟩ := q7; exact again I7 n7
    | cont => obtain ⟨σ7, H7, I7, n7⟩ := q7; exact again I7 n7
    | brk => obtain ⟨σ7, H7, I7, q7⟩ := q7; exact ⟨σ7, H7, I7.unpinned, q7⟩
    | ret v => obtain ⟨x7, σ7, H7, I7, r7, q7⟩ := q7; exact ⟨x7, σ7, H7, I7.unpinned, r7, q7⟩
end
end L2
namespace L2
open PySem PySem.Spec PyProof.Rows
abbrev R2 := V → V → Hp → VK → Prop
def OpR (X : Cx) (f : Value → Value → Sem Value) (r : R2) : Prop :=
  ∀ (pins : List (Addr × Obj)) (s : Shared) (σ : St) (H : Hp) (x y : V) (v u : Value) (Q : VK), Inv X pins σ H s → RelV x v → RelV y u → r x y H Q →
    wpAny (model X.prog X.w) X.A (f v u) (EP X pins σ Q) X.xe s
def UnR (X : Cx) (f : Value → Sem Value) (r : V → Hp → VK → Prop) : Prop :=
  ∀ (pins : List (Addr × Obj)) (s : Shared) (σ : St) (H : Hp) (x : V) (v : Value) (Q : VK), Inv X pins σ H s → RelV x v → r x H Q →
    wpAny (model X.prog X.w) X.A (f v) (EP X pins σ Q) X.xe s
def CallR (X : Cx) (f : Value) (r : List V → Hp → VK → Prop) : Prop :=
  ∀ (pins : List (Addr × Obj)) (s : Shared) (σ : St) (H : Hp) (xs : List V) (us : List Value) (Q : VK), Inv X pins σ H s → Vals xs us → r xs H Q →
    wpAny (model X.prog X.w) X.A (call f us) (EP X pins σ Q) X.xe s
def TruR (X : Cx) (r : V → Hp → (Bool → Hp → Prop) → Prop) : Prop :=
  ∀ (pins : List (Addr × Obj)) (s : Shared) (σ : St) (H : Hp) (x : V) (v : Value) (Q : Bool → Hp → Prop), Inv X pins σ H s → RelV x v → r x H Q →
    wpAny (model X.prog X.w) X.A (truthy v) (TP X pins σ Q) X.xe s
def tOp (r : R2) (ta tb : TE) : TE := fun σ H Q => ta σ H fun x H1 => tb σ H1 fun y H2 => r x y H2 Q
def tUn (r : V → Hp → VK → Prop) (ta : TE) : TE := fun σ H Q => ta σ H fun x H1 => r x H1 Q
def rI (C : Int → Int → Prop) (g : Int → Int → V) : R2 := fun x y H Q => ∃ i j, x = .int i ∧ y = .int j ∧ C i j ∧ Q (g i j) H
def rI0 (g : Int → Int → V) : R2 := fun x y H Q => ∃ i j, x = .int i ∧ y = .int j ∧ Q (g i j) H
def rU (g : Int → V) : V → Hp → VK → Prop := fun x H Q => ∃ i, x = .int i ∧ Q (g i) H
section
variable {X : Cx} {a b c : Expr} {ta tb tc : TE} {pos : Pos}
theorem binT (ha : PE X a ta) (hb : PE X b tb) {pins : List (Addr × Obj)} {s : Shared} {σ : St} {H : Hp} {R : V → V → Hp → Prop} (I : Inv X pins σ H s)
    (h : ta σ H fun x H1 => tb σ H1 fun y H2 => R x y H2) {Q : Value → Shared → Prop} {f : Value → Value → Sem Value}
    (hf : ∀ v u s2 x y H2, Inv X pins σ H2 s2 → RelV x v → RelV y u → R x y H2 → wpAny (model X.prog X.w) X.A (f v u) Q X.xe s2) :
    wpAny (model X.prog X.w) X.A (eval a X.env) (fun v s₁ => wpAny (model X.prog X.w) X.A (eval b X.env) (fun u s₂ => wpAny (model X.prog X.w) X.A (f v u) Q X.xe s₂) X.xe s₁) X.xe s := by
  refine thn (ha pins s σ H _ I h) fun v s1 ⟨x, H1, I1, r1, q1⟩ => ?_
  refine thn (hb pins s1 σ H1 _ I1 q1) fun u s2 ⟨y, H2, I2, r2, q2⟩ => ?_
  exact hf v u s2 x y H2 I2 r1 r2 q2
theorem pe_op {op : Operator} {r : R2} (ho : OpR X (binaryOp op) r) (ha : PE X a ta) (hb : PE X b tb) : PE X (.BinOp a op b pos) (tOp r ta tb) := by
  intro pins s σ H Q I h
  exact wpAny_BinOp (binT ha hb I h fun v u s2 x y H2 I2 rx ry q => ho pins s2 σ H2 x y v u Q I2 rx ry q)
theorem pe_un {op : UnaryOp} {r : V → Hp → VK → Prop} (ho : UnR X (unaryOp op) r) (ha : PE X a ta) : PE X (.UnaryOp op a pos) (tUn r ta) := by
  intro pins s σ H Q I h
  exact UnaryOp_ (thn (ha pins s σ H _ I h) fun v s1 ⟨x, H1, I1, r1, q1⟩ => ho pins s1 σ H1 x v Q I1 r1 q1)
theorem opI {f : Value → Value → Sem Value} {C : Int → Int → Prop} {g : Int → Int → Int}
    (rule : ∀ (i j : Int) (t u : Tok) (s : Shared) (Q : Value → Shared → Prop) (E : Value → Shared → Prop), C i j → Q (.int (g i j) s.toks) { s with toks := s.toks + 1 } → wpAny (model X.prog X.w) X.A (f (.int i t) (.int j u)) Q E s) :
    OpR X f (rI C fun i j => .int (g i j)) := by
  intro pins s σ H x y v u Q I rx ry h
  obtain ⟨i, j, rfl, rfl, hc, q⟩ := h
  obtain ⟨t, rfl⟩ := rx
  obtain ⟨t', rfl⟩ := ry
  exact rule i j t t' s _ _ hc ⟨.int (g i j), H, I.tok _, ⟨_, rfl⟩, q⟩
theorem opI0 {f : Value → Value → Sem Value} {g : Int → Int → Int}
    (rule : ∀ (i j : Int) (t u : Tok) (s : Shared) (Q : Value → Shared → Prop) (E : Value → Shared → Prop), Q (.int (g i j) s.toks) { s with toks := s.toks + 1 } → wpAny (model X.prog X.w) X.A (f (.int i t) (.int j u)) Q E s) :
    OpR X f (rI0 fun i j => .int (g i j)) := by
  intro pins s σ H x y v u Q I rx ry h
  obtain ⟨i, j, rfl, rfl, q⟩ := h
  obtain ⟨t, rfl⟩ := rx
  obtain ⟨t', rfl⟩ := ry
  exact rule i j t t' s _ _ ⟨.int (g i j), H, I.tok _, ⟨_, rfl⟩, q⟩
theorem opB0 {f : Value → Value → Sem Value} {g : Int → Int → Bool}
    (rule : ∀ (i j : Int) (t u : Tok) (s : Shared) (Q : Value → Shared → Prop) (E : Value → Shared → Prop), Q (.bool (g i j)) s → wpAny (model X.prog X.w) X.A (f (.int i t) (.int j u)) Q E s) :
    OpR X f (rI0 fun i j => .bl (g i j)) := by
  intro pins s σ H x y v u Q I rx ry h
  obtain ⟨i, j, rfl, rfl, q⟩ := h
  obtain ⟨t, rfl⟩ := rx
  obtain ⟨t', rfl⟩ := ry
  exact rule i j t t' s _ _ ⟨.bl (g i j), H, I, rfl, q⟩
def CDiv (i j : Int) : Prop := 0 < j ∧ j < 1073741824
def CDivN (i j : Int) : Prop := j ≠ 0 ∧ j.natAbs < 1073741824
def CPow (i j : Int) : Prop := 0 ≤ j ∧ j ≤ 1000000 ∧ i.natAbs < 2 ^ 64
def CMul (i j : Int) : Prop := (-(2 ^ 64) < i ∧ i < 2 ^ 64) ∨ (-(2 ^ 64) < j ∧ j < 2 ^ 64)
theorem CMul.ok {i j : Int} (h : CMul i j) : IntMulOk i j := by
  rcases h with ⟨h1, h2⟩ | ⟨h1, h2⟩
  · exact .of_left (intBits_le_64 h1 h2)
  · exact .of_right (intBits_le_64 h1 h2)
theorem op_add : OpR X (binaryOp .Add) (rI0 fun i j => .int (i + j)) := opI0 fun _ _ _ _ _ _ _ q => add_int q
theorem op_sub : OpR X (binaryOp .Sub) (rI0 fun i j => .int (i - j)) := opI0 fun _ _ _ _ _ _ _ q => sub_int q
theorem op_mul : OpR X (binaryOp .Mult) (rI CMul fun i j => .int (i * j)) := opI fun _ _ _ _ _ _ _ hc q => mul_int q hc.ok
theorem op_mod : OpR X (binaryOp .Mod) (rI (fun _ j => 0 < j) fun i j => .int (i % j)) := opI fun i j _ _ _ _ _ hc q => by
  have h1 : (0 : Int) < j := hc
  exact mod_int' (by omega) (by rw [Int.fmod_eq_emod_of_nonneg i (by omega)]; exact q)
theorem unI {f : Value → Sem Value} {g : Int → Int}
    (rule : ∀ (i : Int) (t : Tok) (s : Shared) (Q : Value → Shared → Prop) (E : Value → Shared → Prop), Q (.int (g i) s.toks) { s with toks := s.toks + 1 } → wpAny (model X.prog X.w) X.A (f (.int i t)) Q E s) :
    UnR X f (rU fun i => .int (g i)) := by
  intro pins s σ H x v Q I rx h
  obtain ⟨i, rfl, q⟩ := h
  obtain ⟨t, rfl⟩ := rx
  exact rule i t s _ _ ⟨.int (g i), H, I.tok _, ⟨_, rfl⟩, q⟩
theorem un_neg : UnR X (unaryOp .USub) (rU fun i => .int (-i)) := unI fun _ _ _ _ _ q => neg_int q
end
def scal : V → V → Bool
  | .non, .non => true | .non, .int _ => true | .int _, .non => true | .non, .bl _ => true | .bl _, .non => true | .non, .str _ => true | .str _, .non => true
  | .int _, .int _ => true | .bl _, .bl _ => true | .str _, .str _ => true | .byt _, .byt _ => true
  | .int _, .str _ => true | .str _, .int _ => true | .bl _, .str _ => true | .str _, .bl _ => true
  | _, _ => false
def rEq : R2 := fun x y H Q => scal x y = true ∧ Q (.bl (decide (x = y))) H
def rNe : R2 := fun x y H Q => scal x y = true ∧ Q (.bl (!decide (x = y))) H
theorem dec_int {i j : Int} : decide (V.int i = V.int j) = (i == j) := by
  rw [Bool.eq_iff_iff]
  simp
theorem dec_bl {i j : Bool} : decide (V.bl i = V.bl j) = (i == j) := by
  rw [Bool.eq_iff_iff]
  simp
theorem dec_str {i j : Str} : decide (V.str i = V.str j) = (i == j) := by
  rw [Bool.eq_iff_iff]
  simp
theorem dec_byt {i j : Array UInt8} : decide (V.byt i = V.byt j) = (i.toList == j.toList) := by
  rw [Bool.eq_iff_iff]
  cases i
  cases j
  simp
section
variable {X : Cx} {a b c : Expr} {ta tb tc : TE} {pos : Pos}
theorem fin_bl {pins : List (Addr × Obj)} {σ : St} {H : Hp} {s : Shared} {Q : VK} {k k' : Bool} (I : Inv X pins σ H s) (q : Q (.bl k) H) (e : k = k') : EP X pins σ Q (.bool k') s := by
  subst e
  exact ⟨.bl k, H, I, rfl, q⟩
theorem op_eq : OpR X (compareOp .Eq) rEq := by
  intro pins s σ H x y v u Q I rx ry h
  obtain ⟨hs, q⟩ := h
  cases x with
  | non =>
    cases rx
    cases y with
    | non => cases ry; exact PySem.EqNone.eq_none_none (fin_bl I q (by simp))
    | bl j => cases ry; exact PySem.EqNone.eq_none_bool (fin_bl I q (by simp))
    | int j => obtain ⟨t', rfl⟩ := ry; exact PySem.EqNone.eq_none_int (fin_bl I q (by simp))
    | str j => obtain ⟨t', rfl⟩ := ry; exact PySem.EqNone.eq_none_str (fin_bl I q (by simp))
    | _ => exact absurd (show false = true from hs) Bool.false_ne_true
  | bl i =>
    cases rx
    cases y with
    | non => cases ry; exact PySem.EqNone.eq_bool_none (fin_bl I q (by simp))
    | bl j => cases ry; exact eq_bool (fin_bl I q dec_bl)
    | str j => obtain ⟨t', rfl⟩ := ry; exact PySem.EqMixed.eq_bool_str (fin_bl I q (by simp))
    | _ => exact absurd (show false = true from hs) Bool.false_ne_true
  | int i =>
    obtain ⟨t, rfl⟩ := rx
    cases y with
    | non => cases ry; exact PySem.EqNone.eq_int_none (fin_bl I q (by simp))
    | int j => obtain ⟨t', rfl⟩ := ry; exact eq_int (fin_bl I q dec_int)
    | str j => obtain ⟨t', rfl⟩ := ry; exact PySem.EqMixed.eq_int_str (fin_bl I q (by simp))
    | _ => exact absurd (show false = true from hs) Bool.false_ne_true
  | str i =>
    obtain ⟨t, rfl⟩ := rx
    cases y with
    | non => cases ry; exact PySem.EqNone.eq_str_none (fin_bl I q (by simp))
    | bl j => cases ry; exact PySem.EqMixed.eq_str_bool (fin_bl I q (by simp))
    | int j => obtain ⟨t', rfl⟩ := ry; exact PySem.EqMixed.eq_str_int (fin_bl I q (by simp))
    | str j => obtain ⟨t', rfl⟩ := ry; exact eq_str (fin_bl I q dec_str)
    | _ => exact absurd (show false = true from hs) Bool.false_ne_true
  | byt i =>
    obtain ⟨t, rfl⟩ := rx
    cases y with
    | byt j => obtain ⟨t', rfl⟩ := ry; exact PySem.W.eq_bytes (fin_bl I q dec_byt)
    | _ => exact absurd (show false = true from hs) Bool.false_ne_true
  | _ => cases y <;> exact absurd (show false = true from hs) Bool.false_ne_true
theorem op_ne : OpR X (compareOp .NotEq) rNe := by
  intro pins s σ H x y v u Q I rx ry h
  obtain ⟨hs, q⟩ := h
  cases x with
  | non =>
    cases rx
    cases y with
    | non => cases ry; exact PySem.EqNone.ne_none_none (fin_bl I q (by simp))
    | bl j => cases ry; exact PySem.EqNone.ne_none_bool (fin_bl I q (by simp))
    | int j => obtain ⟨t', rfl⟩ := ry; exact PySem.EqNone.ne_none_int (fin_bl I q (by simp))
    | str j => obtain ⟨t', rfl⟩ := ry; exact PySem.EqNone.ne_none_str (fin_bl I q (by simp))
    | _ => exact absurd (show false = true from hs) Bool.false_ne_true
  | bl i =>
    cases rx
    cases y with
    | non => cases ry; exact PySem.EqNone.ne_bool_none (fin_bl I q (by simp))
    | bl j => cases ry; exact ne_bool (fin_bl I q (congrArg not dec_bl))
    | str j => obtain ⟨t', rfl⟩ := ry; exact PySem.EqMixed.ne_bool_str (fin_bl I q (by simp))
    | _ => exact absurd (show false = true from hs) Bool.false_ne_true
  | int i =>
    obtain ⟨t, rfl⟩ := rx
    cases y with
    | non => cases ry; exact PySem.EqNone.ne_int_none (fin_bl I q (by simp))
    | int j => obtain ⟨t', rfl⟩ := ry; exact ne_int (fin_bl I q (congrArg not dec_int))
    | str j => obtain ⟨t', rfl⟩ := ry; exact PySem.EqMixed.ne_int_str (fin_bl I q (by simp))
    | _ => exact absurd (show false = true from hs) Bool.false_ne_true
  | str i =>
    obtain ⟨t, rfl⟩ := rx
    cases y with
    | non => cases ry; exact PySem.EqNone.ne_str_none (fin_bl I q (by simp))
    | bl j => cases ry; exact PySem.EqMixed.ne_str_bool (fin_bl I q (by simp))
    | int j => obtain ⟨t', rfl⟩ := ry; exact PySem.EqMixed.ne_str_int (fin_bl I q (by simp))
    | str j => obtain ⟨t', rfl⟩ := ry; exact ne_str (fin_bl I q (congrArg not dec_str))
    | _ => exact absurd (show false = true from hs) Bool.false_ne_true
  | byt i =>
    obtain ⟨t, rfl⟩ := rx
    cases y with
    | byt j => obtain ⟨t', rfl⟩ := ry; exact PySem.W.ne_bytes (fin_bl I q (congrArg not dec_byt))
    | _ => exact absurd (show false = true from hs) Bool.false_ne_true
  | _ => cases y <;> exact absurd (show false = true from hs) Bool.false_ne_true
theorem op_lt : OpR X (compareOp .Lt) (rI0 fun i j => .bl (decide (i < j))) := opB0 fun _ _ _ _ _ _ _ q => lt_int q
theorem op_le : OpR X (compareOp .LtE) (rI0 fun i j => .bl (decide (i ≤ j))) := opB0 fun _ _ _ _ _ _ _ q => le_int q
theorem op_gt : OpR X (compareOp .Gt) (rI0 fun i j => .bl (decide (j < i))) := opB0 fun _ _ _ _ _ _ _ q => gt_int q
def isObj : HO → Bool
  | .lst _ => true
  | .ins _ _ _ => true
  | _ => false
theorem OpR.or {f : Value → Value → Sem Value} {r r' : R2} (h : OpR X f r) (h' : OpR X f r') : OpR X f (fun x y H Q => r x y H Q ∨ r' x y H Q) := by
  intro pins s σ H x y v u Q I rx ry q
  rcases q with q | q
  · exact h pins s σ H x y v u Q I rx ry q
  · exact h' pins s σ H x y v u Q I rx ry q
theorem nomark (b : Expr) {op : CmpOp} (h : op ≠ .In := by decide) (h2 : op ≠ .NotIn := by decide) : behindInMarks op b = false := by
  have e1 : (op == CmpOp.In) = false := by cases op <;> first | rfl | exact absurd rfl h
  have e2 : (op == CmpOp.NotIn) = false := by cases op <;> first | rfl | exact absurd rfl h2
  cases b <;> simp [behindInMarks, e1, e2]
theorem pe_cmpR {op : CmpOp} {r : R2} (ho : OpR X (compareOp op) r) (ha : PE X a ta) (hb : PE X b tb) (hm : behindInMarks op b = false) : PE X (.Compare a [op] [b] pos) (tOp r ta tb) := by
  intro pins s σ H Q I h
  exact wpAny_Compare1 (binT ha hb I h fun v u s2 x y H2 I2 rx ry q => ho pins s2 σ H2 x y v u Q I2 rx ry q) hm
def tTest (t : TE) : TT := fun σ H Q => t σ H fun x H' => ∃ k, x = .bl k ∧ Q k H'
theorem pt_cmpR {op : CmpOp} {r : R2} (ho : OpR X (compareOp op) r) (ha : PE X a ta) (hb : PE X b tb) (hm : behindInMarks op b = false) : PT X (.Compare a [op] [b] pos) (tTest (tOp r ta tb)) := by
  intro pins s σ H Q I h
  refine wpAny_isTrue_Compare1 (thn (ha pins s σ H _ I h) fun v s1 ⟨x, H1, I1, r1, q1⟩ => thn (hb pins s1 σ H1 _ I1 q1) fun u s2 ⟨y, H2, I2, r2, q2⟩ =>
    thn (ho pins s2 σ H2 x y v u _ I2 r1 r2 q2) fun c s3 ⟨z, H3, I3, r3, k, e, q3⟩ => ?_) hm
  subst e
  cases r3
  exact wpAny_truthy_bool ⟨H3, I3, q3⟩
def tChain (r r' : R2) (ta tb tc : TE) : TE := fun σ H Q => ta σ H fun x H1 => tb σ H1 fun y H2 => r x y H2 fun z H3 => ∃ k, z = .bl k ∧
  (if k = true then tc σ H3 fun w' H4 => r' y w' H4 Q else Q (.bl false) H3)
def TruV (K : PySem.W.Frag) (x : V) (H : Hp) (k : Bool) : Prop :=
  match x with
  | .non => k = false
  | .bl b => k = b
  | .int i => k = (i != 0)
  | .str y => y.length ≤ sizeLine ∧ k = ((y.length : Int) != 0)
  | .byt y => y.size ≤ sizeLine ∧ k = ((y.size : Int) != 0)
  | .ref p => (∃ xs, SqL K H p xs ∧ k = !xs.isEmpty) ∨ (∃ xs, SqT K H p xs ∧ k = !xs.isEmpty) ∨ ∃ kvs, H p = some (.dK kvs) ∧ k = !kvs.isEmpty
  | _ => False
theorem line63 : (sizeLine : Nat) < 2 ^ 63 := by rw [sizeLine_eq]; decide
theorem op_add_str : OpR X (binaryOp .Add) (fun x y H Q => ∃ i j, x = .str i ∧ y = .str j ∧ i.length + j.length ≤ sizeLine ∧ Q (.str (i ++ j)) H) := by
  intro pins s σ H x y v u Q I rx ry h
  obtain ⟨i, j, rfl, rfl, hz, q⟩ := h
  obtain ⟨t, rfl⟩ := rx
  obtain ⟨t', rfl⟩ := ry
  exact add_str (fun t' tk => ⟨.str (i ++ j), H, I.tok _, ⟨_, rfl⟩, q⟩) hz
def PlainIxT (b : Expr) : Prop := ∀ o i, subscripted b false o i = operate [o, i] (getItem o i)
theorem vals1 {x : V} {us : List Value} (r : Vals [x] us) : ∃ u, us = [u] ∧ RelV x u := by
  cases r with
  | cons r1 r2 => cases r2; exact ⟨_, rfl, r1⟩
theorem vals2 {x y : V} {us : List Value} (r : Vals [x, y] us) : ∃ u w', us = [u, w'] ∧ RelV x u ∧ RelV y w' := by
  cases r with
  | cons r1 r2 =>
    cases r2 with
    | cons r3 r4 => cases r4; exact ⟨_, _, rfl, r1, r3⟩
def LenV (K : PySem.W.Frag) (x : V) (H : Hp) (n : Nat) : Prop :=
  match x with
  | .str y => y.length ≤ sizeLine ∧ n = y.length
  | .byt y => y.size ≤ sizeLine ∧ n = y.size
  | .ref p => (∃ xs, SqL K H p xs ∧ n = xs.length) ∨ ∃ xs, SqT K H p xs ∧ n = xs.length
  | _ => False
end
end L2
namespace L2
open PySem PySem.Spec PyProof.Rows
structure ObjM (h : Heap) (x dx C : Addr) (mA : Str → Option Value) : Prop where
  obj : h.get? x = some (PySem.W.instObj C dx)
  ns : h.Ns1 dx mA
  ne : dx ≠ x
theorem lookIn_ns {h : Heap} {dx : Addr} {mA : Str → Option Value} (n : h.Ns1 dx mA) : ∃ od, h.get? dx = some od ∧ ∀ name, PySem.W.lookIn name od = some (mA name) := by
  obtain ⟨o, es, ep, ho, hd, hk, _, hm⟩ := n
  refine ⟨o, ho, fun name => ?_⟩
  have e := hm name
  unfold nsFind findBy at e
  rw [← Array.find?_toList] at e
  unfold PySem.W.lookIn
  rw [hd]
  dsimp only
  split
  · rename_i y q
    rw [q] at e
    exact congrArg some e
  · rename_i q
    rw [q] at e
    have a : es.toList.any (·.refKey) = false := by
      rw [List.any_eq_false]
      intro y hy
      obtain ⟨z, t, hkey⟩ := hk y (Array.mem_toList_iff.mp hy)
      simp [DictEntry.refKey, hkey]
    have a' : ¬ es.toList.any (·.refKey) = true := by rw [a]; exact Bool.false_ne_true
    rw [if_neg a']
    exact congrArg some e
theorem ObjM.look {h : Heap} {x dx C : Addr} {mA : Str → Option Value} (I : ObjM h x dx C mA) : ∃ od, PySem.W.InstAt h x (PySem.W.instObj C dx) C (some od) ∧ ∀ name, PySem.W.lookIn name od = some (mA name) :=
  let ⟨od, ho, hl⟩ := lookIn_ns I.ns
  ⟨od, ⟨I.obj, rfl, rfl, ho⟩, hl⟩
section
variable {prog : Program} {w : World} {A : Around} {E : Value → Shared → Prop} {s : Shared} {K : PySem.W.Frag} {x dx C f : Addr} {mA : Str → Option Value} {name : Str} {v : Value}
end
def putF (f : Str) (v : V) : List (Str × V) → List (Str × V)
  | [] => [(f, v)]
  | (g, x) :: r => if g = f then (g, v) :: r else (g, x) :: putF f v r
theorem RelO.none_of {o : Option Value} (r : RelO none o) : o = none := by
  cases o with
  | none => rfl
  | some u => exact (show False from r).elim
section
variable {P : Program} {w : World} {H H' : Hp} {h h' : Heap} {a C dx : Addr} {fs fs' : List (Str × V)}
theorem ins_get (hok : HOk P w H h) (e : H a = some (.ins C dx fs)) : ∃ mA, ObjM h a dx C mA ∧ (∀ f, RelO (fs.lookup f) (mA f)) ∧ PySem.Within mA (fs.map (·.1)) ∧ fs.length ≤ 1000 ∧ H dx = some (.own a) := by
  obtain ⟨d, z, ne, ob, mA, n, r, q⟩ := (show ObjOk P w H h a (.ins C dx fs) from hok a _ e)
  exact ⟨mA, ⟨ob, n, ne⟩, r, q, z, d⟩
end
structure Cls (K : PySem.W.Frag) (C : Addr) : Prop where
  pg : PySem.W.plainGet K C Str.empty = true
  hd : PySem.W.hasDictIn K C = true
  po : PySem.W.plainOver K C = true
  sa : PySem.W.findIn K (.ref C) "__setattr__" = some (some (.builtin "object.__setattr__"))
theorem Cls.get {K : PySem.W.Frag} {C : Addr} (c : Cls K C) (f : Str) : PySem.W.plainGet K C f = true := c.pg
def NoAttr (K : PySem.W.Frag) (C : Addr) (f : Str) : Prop := PySem.W.findIn K (.ref C) f = some none
structure Con (K : PySem.W.Frag) (C : Addr) (f : Str) (v : V) (u : Value) : Prop where
  at_ : PySem.W.findIn K (.ref C) f = some (some u)
  rel : RelV v u
  get : PySem.W.specialIn K u "__get__" = some none
  cp : PySem.W.copiedNames.contains f = false
structure Meth (K : PySem.W.Frag) (C : Addr) (m : Str) (f : Addr) : Prop where
  at_ : PySem.W.findIn K (.ref C) m = some (some (.ref f))
  fn : PySem.W.isFn K (.ref f) = true
  kp : PySem.W.keepIn K (.ref f) = true
section
variable {X : Cx} {pins : List (Addr × Obj)} {σ : St} {H : Hp} {s : Shared} {a C dx : Addr} {fs : List (Str × V)} {f : Str} {v : V} {A : Around} {E : Value → Shared → Prop}
theorem Inv.made (I : Inv X pins σ H s) : Inv X pins σ (upd (upd H s.heap.objs.size (.own (s.heap.objs.size + 1))) (s.heap.objs.size + 1) (.ins C s.heap.objs.size []))
    { s with heap := (s.heap.push PySem.W.emptyDict).push (PySem.W.instObj C s.heap.objs.size) } := by
  have e1 : (s.heap.push PySem.W.emptyDict).get? s.heap.objs.size = some PySem.W.emptyDict := Heap.get?_push_size s.heap rfl
  have e2 : ((s.heap.push PySem.W.emptyDict).push (PySem.W.instObj C s.heap.objs.size)).get? (s.heap.objs.size + 1) = some (PySem.W.instObj C s.heap.objs.size) := by
    have := Heap.get?_push_size (s.heap.push PySem.W.emptyDict) (o := PySem.W.instObj C s.heap.objs.size) rfl
    rwa [Heap.size_push] at this
  have e3 : (s.heap.push PySem.W.emptyDict).Ns s.heap.objs.size (fun _ => none) := ⟨PySem.W.emptyDict, #[], _, e1, rfl, (fun e he => absurd he (by simp)), fun _ => rfl⟩
  have I1 := I.laid (a := s.heap.objs.size) (o := .own (s.heap.objs.size + 1)) (h' := s.heap.push PySem.W.emptyDict) (t' := s.toks) (fun b u q => Heap.get?_push_of_some _ q) (Nat.le_refl _) ⟨_, e1⟩
  refine I1.laid (a := s.heap.objs.size + 1) (o := .ins C s.heap.objs.size []) (t' := s.toks) (fun b u q => Heap.get?_push_of_some _ q) (Nat.le_of_eq (Heap.size_push _ _)) ?_
  have ne : s.heap.objs.size ≠ s.heap.objs.size + 1 := Nat.ne_of_lt (Nat.lt_succ_self _)
  refine ⟨by rw [upd_ne ne, upd_same], Nat.zero_le _, ne, e2, fun _ => none, (Heap.Ns1.of_empty e3).at fun o q => Heap.get?_push_of_some _ q, fun _ => True.intro, fun y hy => absurd rfl hy⟩
end
def tFld (K : PySem.W.Frag) (ta : TE) (f : Str) : TE := fun σ H Q => ta σ H fun x H1 => ∃ a C dx fs v, x = .ref a ∧ H1 a = some (.ins C dx fs) ∧ Cls K C ∧ NoAttr K C f ∧ fs.lookup f = some v ∧ Q v H1
def tCon (K : PySem.W.Frag) (ta : TE) (f : Str) : TE := fun σ H Q => ta σ H fun x H1 => ∃ a C dx fs v u, x = .ref a ∧ H1 a = some (.ins C dx fs) ∧ Cls K C ∧ Con K C f v u ∧ fs.lookup f = none ∧ Q v H1
def sFld (K : PySem.W.Frag) (ta tv : TE) (f : Str) : TS := fun D σ H => tv σ H fun y H1 => ta σ H1 fun x H2 => ∃ a C dx fs, x = .ref a ∧ H2 a = some (.ins C dx fs) ∧ Cls K C ∧ NoAttr K C f ∧ fs.length < 1000 ∧
  D.nx σ (upd H2 a (.ins C dx (putF f y fs)))
def InOp (X : Cx) (op : Operator) (rd : V → V → Hp → VK → Prop) : Prop :=
  ∀ (pins : List (Addr × Obj)) (s : Shared) (σ : St) (H : Hp) (x y : V) (u v : Value) (Q : VK), Inv X pins σ H s → RelV x u → RelV y v → rd x y H Q → wpAny (model X.prog X.w) X.A (inplaceOp op u v) (EP X pins σ Q) X.xe s
def sFldAug (K : PySem.W.Frag) (ta tv : TE) (rd : V → V → Hp → VK → Prop) (f : Str) : TS := fun D σ H => ta σ H fun x H1 => ∃ a C dx fs v, x = .ref a ∧ H1 a = some (.ins C dx fs) ∧ Cls K C ∧ NoAttr K C f ∧ fs.lookup f = some v ∧
  tv σ H1 fun y H2 => rd v y H2 fun z H3 => ∃ dx' fs', H3 a = some (.ins C dx' fs') ∧ fs'.length < 1000 ∧ D.nx σ (upd H3 a (.ins C dx' (putF f z fs')))
section
variable {X : Cx} {o e value : Expr} {f : Str} {pos pos' tpos : Pos} {ta tv : TE}
def rAdd : V → V → Hp → VK → Prop := fun x y H Q => ∃ i j, x = .int i ∧ y = .int j ∧ Q (.int (i + j)) H
def rSub : V → V → Hp → VK → Prop := fun x y H Q => ∃ i j, x = .int i ∧ y = .int j ∧ Q (.int (i - j)) H
end
section
variable {X : Cx} {pins : List (Addr × Obj)} {σ : St} {H : Hp} {s : Shared} {A : Around} {E : Value → Shared → Prop} {Q : Value → Shared → Prop} {c : Value} {b : Bool}
inductive TyOf (K : PySem.W.Frag) (H : Hp) : V → Value → Prop where
  | non : TyOf K H .non (.type "NoneType")
  | bl (x : Bool) : TyOf K H (.bl x) (.type "bool")
  | int (i : Int) : TyOf K H (.int i) (.type "int")
  | str (x : Str) : TyOf K H (.str x) (.type "str")
  | flt (x : UInt64) : TyOf K H (.flt x) (.type "float")
  | lst {a : Addr} {xs : List V} (e : H a = some (.lst xs)) : TyOf K H (.ref a) (.type "list")
  | frz {a : Addr} {o : Obj} {xs : List V} (e : H a = some (.frz o (.lst xs))) : TyOf K H (.ref a) (.type "list")
  | tup {a : Addr} {xs : List V} (e : H a = some (.tup xs)) : TyOf K H (.ref a) (.type "tuple")
  | dK {a : Addr} {kvs : List (Key × V)} (e : H a = some (.dK kvs)) : TyOf K H (.ref a) (.type "dict")
  | dT {a : Addr} {kvs : List (List Key × V)} (e : H a = some (.dT kvs)) : TyOf K H (.ref a) (.type "dict")
  | ins {a C dx : Addr} {fs : List (Str × V)} (e : H a = some (.ins C dx fs)) (cl : Cls K C) (ha : PySem.W.findIn K (.ref C) "__class__" = some (some (.builtin "object.__class__")))
      (hn : PySem.W.specialIn K (.builtin "object.__class__") "__get__" = some (some (.builtin "getset_descriptor.__get__"))) (htk : PySem.W.takesIn K (.builtin "object.__class__") = some true)
      (hm : PySem.W.mroIn K C (.type "object") = some true) : TyOf K H (.ref a) (.ref C)
theorem isinst_ok {x : V} {u t : Value} (I : Inv X pins σ H s) (rx : RelV x u) (ty : TyOf X.K H x t) (e : PySem.W.kitOne X.K t c = some b) (h : ∀ tk, Q (.bool b) { s with toks := tk }) :
    wpAny (model X.prog X.w) A (call (.builtin "isinstance") [u, c]) Q E s := by
  cases ty with
  | non => cases (show u = Value.none from rx); exact PySem.W.kia_one PySem.W.kitx_none I.kIn True.intro e (fun z => nomatch z) h
  | bl y => cases (show u = Value.bool y from rx); exact PySem.W.kia_one PySem.W.kitx_bool I.kIn True.intro e (fun z => nomatch z) h
  | int i => obtain ⟨t, q⟩ := (show ∃ t, u = Value.int i t from rx); cases q; exact PySem.W.kia_one PySem.W.kitx_int I.kIn True.intro e (fun z => nomatch z) h
  | str y => obtain ⟨t, q⟩ := (show ∃ t, u = Value.str y t from rx); cases q; exact PySem.W.kia_one PySem.W.kitx_str I.kIn True.intro e (fun z => nomatch z) h
  | flt y => obtain ⟨t, q⟩ := (show ∃ t, u = Value.float y t from rx); cases q; exact PySem.W.kia_one PySem.W.kitx_float I.kIn True.intro e (fun z => nomatch z) h
  | @lst a xs ea =>
    cases (show u = Value.ref a from rx)
    obtain ⟨_, _, n, _, h1⟩ := (show ObjOk X.prog X.w H s.heap a (.lst xs) from I.hok a _ ea)
    exact PySem.W.kia_one PySem.W.kitx_list I.kIn ⟨_, h1, rfl⟩ e (fun z => nomatch z) h
  | @frz a ob xs ea =>
    cases (show u = Value.ref a from rx)
    obtain ⟨_, _, _, n, _, h1⟩ := (show ObjOk X.prog X.w H s.heap a (.frz ob (.lst xs)) from I.hok a _ ea)
    exact PySem.W.kia_one PySem.W.kitx_list I.kIn ⟨_, h1, rfl⟩ e (fun z => nomatch z) h
  | @tup a xs ea =>
    cases (show u = Value.ref a from rx)
    obtain ⟨_, _, _, p⟩ := (show ObjOk X.prog X.w H s.heap a (.tup xs) from I.hok a _ ea)
    obtain ⟨o, h1, h2, _⟩ := p
    exact PySem.W.kia_one PySem.W.kitx_tuple I.kIn ⟨o, h1, h2⟩ e (fun z => nomatch z) h
  | @dK a kvs ea =>
    cases (show u = Value.ref a from rx)
    obtain ⟨_, _, vs, _, p⟩ := (show ObjOk X.prog X.w H s.heap a (.dK kvs) from I.hok a _ ea)
    obtain ⟨o, es, ep, h1, h2, _⟩ := p
    exact PySem.W.kia_one PySem.W.kitx_dict I.kIn ⟨o, h1, h2.1⟩ e (fun z => nomatch z) h
  | @dT a kvs ea =>
    cases (show u = Value.ref a from rx)
    obtain ⟨_, _, xs, _, o, es, ep, h1, h2, _⟩ := (show ObjOk X.prog X.w H s.heap a (.dT kvs) from I.hok a _ ea)
    exact PySem.W.kia_one PySem.W.kitx_dict I.kIn ⟨o, h1, h2.1⟩ e (fun z => nomatch z) h
  | @ins a C dx fs ea cl ha hn htk hm =>
    cases (show u = Value.ref a from rx)
    obtain ⟨mA, O, _⟩ := ins_get I.hok ea
    obtain ⟨od, J, _⟩ := O.look
    exact PySem.W.kia_one (PySem.W.kitx_own (cl.get _) cl.hd ha hn htk hm) I.kIn J e (fun z => nomatch z) h
end
end L2
namespace L2
open PySem PySem.Spec PyProof.Rows
structure Room (k : Nat) (A : Around) : Prop where
  hd : A.handled = none
  dp : A.depth + 3 * k + 5 < recursionLimit
  un : A.units + 16 * k + 200 < cLine
theorem Room.mono {j k : Nat} {A : Around} (r : Room k A) (h : j ≤ k) : Room j A := ⟨r.hd, by have := r.dp; omega, by have := r.un; omega⟩
theorem Room.deeper {k : Nat} {A : Around} (r : Room (k + 1) A) (env : Env) : Room k (A.deeper env) :=
  ⟨r.hd, by have := r.dp; show A.depth + 1 + 3 * k + 5 < _; omega, by have := r.un; show A.units + 3 + 16 * k + 200 < _; omega⟩
theorem Room.in1 {k : Nat} {A : Around} (r : Room (k + 1) A) : Room k A.in1 :=
  ⟨r.hd, by have := r.dp; show A.depth + 3 * k + 5 < _; omega, by have := r.un; show A.units + 1 + 16 * k + 200 < _; omega⟩
theorem make_depth {A : Around} {C : Addr} {us : List Value} {kw : List (Str × Value)} : (A.under (.builtin "type.__call__" ⟨.ref C :: us, kw⟩)).depth = A.depth + 1 := by
  first | rfl | simp [Around.under, Code.weight, Code.isCreation, Code.isGuard, Code.isCaller, Code.frames, Code.isFrame, guardIds]
theorem make_units {A : Around} {C : Addr} {us : List Value} {kw : List (Str × Value)} : (A.under (.builtin "type.__call__" ⟨.ref C :: us, kw⟩)).units = A.units + 1 := by
  first | rfl | simp [Around.under, Code.cUnits, Code.frames, Code.isFrame]
theorem Room.make {k : Nat} {A : Around} (r : Room (k + 1) A) (C : Addr) (us : List Value) (kw : List (Str × Value)) : Room k (A.under (.builtin "type.__call__" ⟨.ref C :: us, kw⟩)) :=
  ⟨r.hd, by have := r.dp; rw [make_depth]; omega, by have := r.un; rw [make_units]; omega⟩
theorem Room.depth {k : Nat} {A : Around} (r : Room k A) : A.depth < recursionLimit := by have := r.dp; omega
theorem Room.units {k : Nat} {A : Around} (r : Room k A) : A.units + 64 < cLine := by have := r.un; omega
def tNil : TA := fun _ H Q => Q [] H
def tCons (ta : TE) (tr : TA) : TA := fun σ H Q => ta σ H fun x H1 => tr σ H1 fun xs H2 => Q (x :: xs) H2
section
variable {X : Cx} {e : Expr} {es : List Expr} {te : TE} {t : TA} {pos : Pos}
theorem pa_nil : PA X [] tNil := fun _ _ _ _ H Q I h => Calls.spliced_nil ⟨[], H, I, .nil, h⟩
theorem pa_cons (ha : PE X e te) (hr : PA X es t) (hs : starEach (e :: es) X.env = (false, eval e X.env) :: starEach es X.env := by rfl) : PA X (e :: es) (tCons te t) := by
  intro pos pins s σ H Q I h
  rw [hs]
  show wpAny _ _ (spliced ((false, eval e X.env) :: backTo pos (starEach es X.env))) _ _ s
  refine Calls.spliced_cons (thn (ha pins s σ H _ I h) fun u s1 ⟨x, H1, I1, r1, q1⟩ => ?_)
  exact thn (hr pos pins s1 σ H1 _ I1 q1) fun us s2 ⟨xs, H2, I2, r2, q2⟩ => ⟨x :: xs, H2, I2, .cons r1 r2, q2⟩
def tTup (t : TA) : TE := fun σ H Q => t σ H fun xs H1 => xs.length ≤ sizeLine ∧ ∀ p, H1 p = none → Q (.ref p) (upd H1 p (.tup xs))
def tLst (t : TA) : TE := fun σ H Q => t σ H fun xs H1 => xs.length ≤ sizeLine ∧ ∀ p, H1 p = none → Q (.ref p) (upd H1 p (.lst xs))
theorem pe_tup {x1} (h : PA X es t) : PE X (.Tuple es x1 pos) (tTup t) := by
  intro pins s σ H Q I hq
  refine wpAny_Tuple_spliced (thn (h pos pins s σ H _ I hq) fun us s1 ⟨xs, H1, I1, r, z, q⟩ => ⟨by rw [← r.length]; exact z, ?_⟩)
  have hf : H1 s1.heap.objs.size = none := I1.hok.fresh (Nat.le_refl _)
  refine ⟨.ref s1.heap.objs.size, upd H1 s1.heap.objs.size (.tup xs), I1.laid (t' := s1.toks) (fun b u e => Heap.get?_push_of_some _ e) (Nat.le_refl _) ?_, rfl, q _ hf⟩
  exact ⟨z, us, r, ⟨_, Heap.get?_push_size _ rfl, rfl, _, rfl⟩⟩
theorem pe_lst (h : PA X es t) : PE X (.List es pos) (tLst t) := by
  intro pins s σ H Q I hq
  refine wpAny_List_spliced (thn (h pos pins s σ H _ I hq) fun us s1 ⟨xs, H1, I1, r, z, q⟩ => ⟨by rw [← r.length]; exact z, ?_⟩)
  have hf : H1 s1.heap.objs.size = none := I1.hok.fresh (Nat.le_refl _)
  refine ⟨.ref s1.heap.objs.size, upd H1 s1.heap.objs.size (.lst xs), I1.laid (t' := s1.toks) (fun b u e => Heap.get?_push_of_some _ e) (Nat.le_refl _) ?_, rfl, q _ hf⟩
  exact ⟨z, us, 0, r, Heap.get?_push_size _ rfl⟩
end
abbrev Sp := List V → Hp → VK → XK → Prop
abbrev CXT := List Env → Hp → Shared → XK → Value → Shared → Prop
structure Env0 (P : Program) (w : World) (K : PySem.W.Frag) (mg : Str → Option Value) (base : Heap) (A : Around) (outer : List Env) (s : Shared) (H : Hp) : Prop where
  frames : A.frames = some outer
  mod : Mod K mg base
  bs : ∀ b o, base.get? b = some o → s.heap.get? b = some o ∧ H b = none
  bsz : base.objs.size ≤ s.heap.objs.size
  funs : s.heap.FunFrames base outer
  frf : ∀ b ∈ frs outer, H b = none
  hok : HOk P w H s.heap
  bare : AllBare s.gens
def CE (outer : List Env) (P : Program) (w : World) (H : Hp) (s : Shared) (Q : VK) (u : Value) (s' : Shared) : Prop :=
  ∃ v H', s'.os = s.os ∧ AllBare s'.gens ∧ Un (frs outer) [] H H' s.heap s'.heap ∧ HOk P w H' s'.heap ∧ RelV v u ∧ Q v H'
def CR (CX : CXT) (outer : List Env) (P : Program) (w : World) (H : Hp) (s : Shared) (Q : VK) (E : XK) (r : Result) (s' : Shared) : Prop :=
  match r with
  | .ok (.ret u) => CE outer P w H s Q u s'
  | .ok _ => False
  | .error e => CX outer H s E e s'
structure FnOk (P : Program) (w : World) (K : PySem.W.Frag) (mg : Str → Option Value) (base : Heap) (CX : CXT) (k : Nat) (f : Addr) (fd : FuncData) (ps : List Str) (sp : Sp) : Prop where
  len : ∀ vs H Q E, sp vs H Q E → vs.length = ps.length
  run : ∀ (A : Around) (outer : List Env) (s : Shared) (H : Hp) (args : Args) (us : List Value) (vs : List V) (Q : VK) (E : XK), Room k A → Env0 P w K mg base A outer s H → BindsTo s fd args (ps.zip us) → Vals vs us → sp vs H Q E →
    codeAny (model P w) A (.call (.ref f) args) (CR CX outer P w H s Q E) s
theorem FnOk.mono {P : Program} {w : World} {K : PySem.W.Frag} {mg : Str → Option Value} {base : Heap} {CX : CXT} {j k : Nat} {f : Addr} {fd : FuncData} {ps : List Str} {sp : Sp} (F : FnOk P w K mg base CX j f fd ps sp) (h : j ≤ k) :
    FnOk P w K mg base CX k f fd ps sp := ⟨F.len, fun A outer s H args us vs Q E hr => F.run A outer s H args us vs Q E (hr.mono h)⟩
theorem FnOk.imp {P : Program} {w : World} {K : PySem.W.Frag} {mg : Str → Option Value} {base : Heap} {CX : CXT} {k : Nat} {f : Addr} {fd : FuncData} {ps : List Str} {sp sp' : Sp} (F : FnOk P w K mg base CX k f fd ps sp)
    (h : ∀ vs H Q E, sp' vs H Q E → sp vs H Q E) : FnOk P w K mg base CX k f fd ps sp' :=
  ⟨fun vs H Q E q => F.len vs H Q E (h _ _ _ _ q), fun A outer s H args us vs Q E hr he hb hv hs => F.run A outer s H args us vs Q E hr he hb hv (h _ _ _ _ hs)⟩
theorem Env0.make {P : Program} {w : World} {K : PySem.W.Frag} {mg : Str → Option Value} {base : Heap} {A : Around} {outer : List Env} {s : Shared} {H : Hp} (e : Env0 P w K mg base A outer s H) (C : Addr) (us : List Value) (kw : List (Str × Value)) :
    Env0 P w K mg base (A.under (.builtin "type.__call__" ⟨.ref C :: us, kw⟩)) outer s H := ⟨by first | exact e.frames | (simpa [Around.under, Code.envs, Code.isFrame, pushEnvs] using e.frames), e.mod, e.bs, e.bsz, e.funs, e.frf, e.hok, e.bare⟩
theorem Env0.in1 {P : Program} {w : World} {K : PySem.W.Frag} {mg : Str → Option Value} {base : Heap} {A : Around} {outer : List Env} {s : Shared} {H : Hp} (e : Env0 P w K mg base A outer s H) :
    Env0 P w K mg base A.in1 outer s H := ⟨e.frames, e.mod, e.bs, e.bsz, e.funs, e.frf, e.hok, e.bare⟩
section
variable {X : Cx} {pins : List (Addr × Obj)} {σ : St} {H : Hp} {s s' : Shared}
theorem Inv.env0 (I : Inv X pins σ H s) : Env0 X.prog X.w X.K X.mg X.base X.A X.stack s H :=
  ⟨I.ok.frames, I.ok.mod, I.bs, Nat.le_trans I.ok.bsz I.sz, I.stack, I.stkFree, I.hok, I.bare⟩
theorem Inv.after {Q : VK} {u : Value} (I : Inv X pins σ H s) (h : CE X.stack X.prog X.w H s Q u s') : EP X pins σ Q u s' := by
  obtain ⟨v, H', os, bare, un, hok, r, q⟩ := h
  obtain ⟨hh, g, d, t, os'⟩ := s'
  obtain rfl : os' = s.os := os
  exact ⟨v, H', I.call (h' := hh) (g' := g) (d' := d) (t' := t) (ch := []) un hok bare (fun b z => absurd z (by simp)), r, q⟩
end
def tCall (sp : Sp) (dvs : List V) (E : XK) (t : TA) : TE := fun σ H Q => t σ H fun vs H1 => sp (vs ++ dvs) H1 Q E
def tMeth (C : Addr) (m : Str) (sp : Sp) (dvs : List V) (E : XK) (ta : TE) (t : TA) : TE := fun σ H Q => ta σ H fun x H1 => ∃ a dx fs, x = .ref a ∧ H1 a = some (.ins C dx fs) ∧ fs.lookup m = none ∧
  t σ H1 fun vs H2 => sp (x :: (vs ++ dvs)) H2 Q E
def tMake (C : Addr) (sp : Sp) (dvs : List V) (E : XK) (t : TA) : TE := fun σ H Q => t σ H fun vs H1 => ∀ x dx, H1 x = none → H1 dx = none → dx ≠ x →
  sp (.ref x :: (vs ++ dvs)) (upd (upd H1 dx (.own x)) x (.ins C dx [])) (fun v H2 => v = .non ∧ Q (.ref x) H2) E
def Binds (K : PySem.W.Frag) (fd : FuncData) (ps : List Str) (ds : List Value) : Prop :=
  ∀ (s : Shared) (us : List Value), K.In s.heap → (us ++ ds).length = ps.length → BindsTo s fd ⟨us, []⟩ (ps.zip (us ++ ds))
theorem Binds.all {K : PySem.W.Frag} {fd : FuncData} {ps : List Str} (h : ∀ us : List Value, us.length = ps.length → bindArgs fd ⟨us, []⟩ = pure (ps.zip us)) : Binds K fd ps [] := fun s us _ hl => by
  rw [List.append_nil] at hl ⊢
  exact .of_eq (h us hl)
def Passes (CX : CXT) (X : Cx) (E : XK) : Prop := ∀ (pins : List (Addr × Obj)) (σ : St) (H : Hp) (s : Shared) (e : Value) (s' : Shared), Inv X pins σ H s → CX X.stack H s E e s' → X.xe e s'
section
variable {X : Cx} {CX : CXT} {k : Nat} {f C : Addr} {fd : FuncData} {ps : List Str} {sp : Sp} {dvs : List V} {ds : List Value} {E : XK} {x m : Str} {p pos apos : Pos} {e o : Expr} {es : List Expr} {ta : TE} {t : TA}
theorem run_fn {pins : List (Addr × Obj)} {σ : St} {H : Hp} {s : Shared} {Q : VK} {us : List Value} {vs : List V} (F : FnOk X.prog X.w X.K X.mg X.base CX k f fd ps sp) (hr : Room k X.A) (hb : Binds X.K fd ps ds) (hd : Vals dvs ds) (hx : Passes CX X E)
    (I : Inv X pins σ H s) (r : Vals vs us) (h : sp (vs ++ dvs) H Q E) : wpAny (model X.prog X.w) X.A (call (.ref f) us) (EP X pins σ Q) X.xe s := by
  have r2 : Vals (vs ++ dvs) (us ++ ds) := r.append hd
  have hl : (us ++ ds).length = ps.length := by rw [← r2.length]; exact F.len _ _ _ _ h
  refine wpAny_call (codeAny_mono (F.run X.A X.stack s H ⟨us, []⟩ (us ++ ds) (vs ++ dvs) Q E hr I.env0 (hb s us I.kIn hl) r2 h) fun r s' hq => ?_)
  cases r with
  | error e => exact hx pins σ H s e s' I hq
  | ok fl =>
    cases fl with
    | ret u => exact I.after hq
    | next => exact False.elim hq
    | brk => exact False.elim hq
    | cont => exact False.elim hq
theorem pe_call (F : FnOk X.prog X.w X.K X.mg X.base CX k f fd ps sp) (hr : Room k X.A) (hg : Gl X x) (hm : X.mg x = some (.ref f)) (hk : PySem.W.keepIn X.K (.ref f) = true) (hb : Binds X.K fd ps ds) (hd : Vals dvs ds) (hx : Passes CX X E)
    (ha : PA X (e :: es) t) (hdb : (x == ("__debug__" : Str)) = false := by decide) (he : starEach (e :: es) X.env = (false, eval e X.env) :: starEach es X.env := by rfl) (hpl : (backTo pos (starEach es X.env)).any (·.1) = false := by rfl) :
    PE X (.Call (.Name x p) (e :: es) [] pos) (tCall sp dvs E t) := by
  intro pins s σ H Q I h
  refine wpAny_Call_Name_kw (ld_glob I hg hm ?_ hdb)
  refine PySem.W.callWith_K (h₀ := X.base) I.ok.mod.kin hk (thn (ha pos pins s σ H _ I h) fun us s1 ⟨vs, H1, I1, r, q⟩ => ⟨I1.kIn, ?_⟩) he hpl
  exact run_fn F hr hb hd hx I1 r q
structure Mk (K : PySem.W.Frag) (C f : Addr) : Prop where
  makes : PySem.W.makesIn K C = true
  init : PySem.W.findIn K (.ref C) "__init__" = some (some (.ref f))
  fn : PySem.W.isFn K (.ref f) = true
  kp : PySem.W.keepIn K (.ref C) = true
end
def PK (X : Cx) (kws : List Keyword) (t : TA) : Prop :=
  ∀ (pos : Pos) (pins : List (Addr × Obj)) (s : Shared) (σ : St) (H : Hp) (Q : List V → Hp → Prop), Inv X pins σ H s → t σ H Q → wpAny (model X.prog X.w) X.A (evalAll ((backToKw pos (keywordEach kws X.env)).map (·.2))) (AP X pins σ Q) X.xe s
section
variable {X : Cx} {CX : CXT} {k : Nat} {f C : Addr} {fd : FuncData} {ps ks : List Str} {sp : Sp} {E : XK} {x m : Str} {p pos apos kpos : Pos} {e o : Expr} {es : List Expr} {kws : List Keyword} {te ta : TE} {t tk : TA} {nm : Option Str}
structure KBinds (K : PySem.W.Frag) (fd : FuncData) (ps ks : List Str) (g : List Value → List Value → List Value) (gV : List V → List V → List V) : Prop where
  to : ∀ (s : Shared) (us ws : List Value), K.In s.heap → (g us ws).length = ps.length → BindsTo s fd ⟨us, ks.zip ws⟩ (ps.zip (g us ws))
  rel : ∀ {vs : List V} {us : List Value} {zs : List V} {ws : List Value}, Vals vs us → Vals zs ws → Vals (gV vs zs) (g us ws)
def tCallK (sp : Sp) (gV : List V → List V → List V) (E : XK) (t tk : TA) : TE := fun σ H Q => t σ H fun vs H1 => tk σ H1 fun zs H2 => sp (gV vs zs) H2 Q E
variable {g : List Value → List Value → List Value} {gV : List V → List V → List V}
end
structure FnScope (N P : List Str) (sc : Scope) : Prop where
  kind : sc.kind = .function
  co : sc.isCoroutine = false
  gen : sc.isGenerator = false
  nd : N.Nodup
  pre : N.take P.length = P
  par : ∀ x ∈ P, sc.names.lookup x = some .local ∨ sc.names.lookup x = some .cell
  nofree : ∀ y ∈ sc.names, y.2 ≠ .free
theorem bindL_out {kindOf : Str → Option NameKind} {x : Str} : ∀ {binds : List (Str × Value)} {m : Str → Option Value}, (∀ v, (x, v) ∉ binds) → bindL kindOf binds m x = m x
  | [], _, _ => rfl
  | (n, v) :: r, m, h => by
    unfold bindL
    rw [bindL_out fun w hw => h w (List.mem_cons_of_mem _ hw)]
    split
    · have : x ≠ n := by rintro rfl; exact h v List.mem_cons_self
      simp [this]
    · rfl
theorem bindC_out {kindOf : Str → Option NameKind} {x : Str} : ∀ {binds : List (Str × Value)} {m : Str → Option Value}, (∀ v, (x, v) ∉ binds) → bindC kindOf binds m x = m x
  | [], _, _ => rfl
  | (n, v) :: r, m, h => by
    unfold bindC
    rw [bindC_out fun w hw => h w (List.mem_cons_of_mem _ hw)]
    split
    · rfl
    · have : x ≠ n := by rintro rfl; exact h v List.mem_cons_self
      simp [this]
theorem bindL_get {kindOf : Str → Option NameKind} {x : Str} {v : Value} : ∀ {P : List Str} {vs : List Value} {i : Nat} {m : Str → Option Value}, P.Nodup → P[i]? = some x → vs[i]? = some v → kindOf x = some .local →
    bindL kindOf (P.zip vs) m x = some v
  | [], _, _, _, _, h, _, _ => by simp at h
  | _ :: _, [], _, _, _, _, h, _ => by simp at h
  | p :: P, w :: vs, 0, m, nd, h1, h2, hk => by
    simp at h1 h2; subst h1; subst h2
    show bindL kindOf ((p, w) :: P.zip vs) m p = _
    unfold bindL
    rw [bindL_out fun v hv => (List.nodup_cons.mp nd).1 (List.of_mem_zip hv).1, if_pos hk]
    simp
  | p :: P, w :: vs, i + 1, m, nd, h1, h2, hk => by
    show bindL kindOf ((p, w) :: P.zip vs) m x = _
    unfold bindL
    exact bindL_get (i := i) (List.nodup_cons.mp nd).2 (by simpa using h1) (by simpa using h2) hk
theorem bindC_get {kindOf : Str → Option NameKind} {x : Str} {v : Value} : ∀ {P : List Str} {vs : List Value} {i : Nat} {m : Str → Option Value}, P.Nodup → P[i]? = some x → vs[i]? = some v → kindOf x ≠ some .local →
    bindC kindOf (P.zip vs) m x = some v
  | [], _, _, _, _, h, _, _ => by simp at h
  | _ :: _, [], _, _, _, _, h, _ => by simp at h
  | p :: P, w :: vs, 0, m, nd, h1, h2, hk => by
    simp at h1 h2; subst h1; subst h2
    show bindC kindOf ((p, w) :: P.zip vs) m p = _
    unfold bindC
    rw [bindC_out fun v hv => (List.nodup_cons.mp nd).1 (List.of_mem_zip hv).1, if_neg hk]
    simp
  | p :: P, w :: vs, i + 1, m, nd, h1, h2, hk => by
    show bindC kindOf ((p, w) :: P.zip vs) m x = _
    unfold bindC
    exact bindC_get (i := i) (List.nodup_cons.mp nd).2 (by simpa using h1) (by simpa using h2) hk
def start (N : List Str) (vs : List V) : St := vs.map some ++ List.replicate (N.length - vs.length) none
def cxOf (CX : CXT) (P : Program) (w : World) (K : PySem.W.Frag) (mg : Str → Option Value) (base : Heap) (N : List Str) (qual : Str) (scope : Scope) (f : Addr) (cd : Value) (A : Around) (outer : List Env) (s : Shared) (H : Hp) (E : XK) : Cx where
  prog := P
  w := w
  K := K
  mg := mg
  base := base
  A := A.deeper (envOfC qual scope s.heap.objs.size f cd)
  N := N
  s₀ := s
  H₀ := H
  env := envOfC qual scope s.heap.objs.size f cd
  outer := outer
  stack := envOfC qual scope s.heap.objs.size f cd :: outer
  ex := []
  calm := true
  fn := fun _ => true
  pn := []
  xe := fun e s' => wpAny (model P w) (A.deeper (envOfC qual scope s.heap.objs.size f cd)) (leaving (envOfC qual scope s.heap.objs.size f cd) e) (fun _ s'' => CX outer H s E e s'') (fun e' s'' => CX outer H s E e' s'') s'
theorem cell_has {sc : Scope} {n : Nat} {x : Str} (h : sc.names.lookup x = some .cell) : ∃ c, (cellsFrom n sc.names []).lookup x = some c := by
  have q := PySem.W.cellsFrom_some sc.names n [] (.inl h)
  exact Option.isSome_iff_exists.mp q
theorem inv_start {CX : CXT} {P : Program} {w : World} {K : PySem.W.Frag} {mg : Str → Option Value} {base : Heap} {N ps : List Str} {qual : Str} {scope : Scope} {f : Addr} {cd : Value} {A : Around} {outer : List Env} {s s1 : Shared} {H : Hp} {E : XK} {us : List Value} {vs : List V}
    (S : FnScope N ps scope) (hd : A.handled = none) (e0 : Env0 P w K mg base A outer s H) (hl : vs.length = ps.length) (r : Vals vs us)
    (x : InCallC s s.heap.objs.size (bindL (envOfC qual scope s.heap.objs.size f cd).kindOf (ps.zip us) fun _ => none) (cellsFrom (s.heap.objs.size + 1) scope.names []) (bindC (envOfC qual scope s.heap.objs.size f cd).kindOf (ps.zip us) fun _ => none) s1) :
    Inv (cxOf CX P w K mg base N qual scope f cd A outer s H E) [] (start N vs) H s1 := by
  have hpl : ps.length ≤ N.length := by have := congrArg List.length S.pre; rw [List.length_take] at this; omega
  obtain ⟨h1, tk, rfl, hk⟩ := x.done
  have noA : ∀ b : Addr, b ∉ (cxOf CX P w K mg base N qual scope f cd A outer s H E).ex := fun b z => absurd (show b ∈ ([] : List Addr) from z) (by simp)
  refine ⟨⟨e0.mod, S.kind, rfl, rfl, Nat.le_refl _, fun y z c h1 h2 => ?_, fun y hy => ?_, fun y c _ h => ?_, fun _ => hd, Around.frames_deeper e0.frames, .inr ⟨rfl, rfl⟩, fun b z => absurd z (noA b), e0.bs, e0.bsz, fun b _ _ => noA b, fun b z => absurd z (noA b), e0.funs, e0.frf⟩,
    rfl, e0.bare, Un.kept hk, ⟨_, x.toInCall.ns, fun i y v h1 h2 h3 => ?_⟩, fun y c h => ⟨_, x.cell y c h⟩, e0.hok.fresh (Nat.le_refl _), fun y c h => ?_, fun p hp => absurd (show p ∈ ([] : List (Addr × Obj)) from hp) (by simp), e0.hok.kept hk, ?_⟩
  · exact name_of_addr x.apart (PySem.mem_of_lookup h1) (PySem.mem_of_lookup h2)
  · have hy : scope.names.lookup y = some .cell ∨ scope.names.lookup y = some .free := hy
    rcases hy with hy | hy
    · exact cell_has hy
    · exact absurd rfl (S.nofree _ (PySem.mem_of_lookup hy))
  · exact Nat.le_of_lt (x.above y c (PySem.mem_of_lookup h))
  · have hi : i < vs.length := by
      unfold start at h2
      by_cases hi : i < vs.length
      · exact hi
      · rw [List.getElem?_append_right (by simpa using hi)] at h2
        rw [List.getElem?_replicate] at h2
        split at h2 <;> cases h2
    have ha : vs[i]? = some v := by
      unfold start at h2
      rw [List.getElem?_append_left (by simpa using hi), List.getElem?_map] at h2
      cases e : vs[i]? with
      | none => rw [e] at h2; cases h2
      | some a => rw [e] at h2; cases h2; rfl
    obtain ⟨u, hu, rv⟩ := r.get ha
    have hp : ps[i]? = some y := by
      rw [← S.pre, List.getElem?_take_of_lt (by omega)]; exact h1
    have ndP : ps.Nodup := by rw [← S.pre]; exact S.nd.sublist (List.take_sublist _ _)
    refine ⟨u, rv, ?_⟩
    rcases S.par y (List.mem_of_getElem? hp) with k | k
    · exact .inl ⟨k, bindL_get ndP hp hu k⟩
    · obtain ⟨c, e⟩ := cell_has (n := s.heap.objs.size + 1) k
      refine .inr ⟨.inl k, c, e, ?_⟩
      have q := x.cell y c e
      rw [bindC_get ndP hp hu (by show scope.names.lookup y ≠ _; rw [k]; decide)] at q
      exact q
  · exact e0.hok.fresh (Nat.le_of_lt (x.above y c (PySem.mem_of_lookup h)))
  · unfold start
    show _ = N.length
    rw [List.length_append, List.length_map, List.length_replicate]
    omega
theorem fn_of {CX : CXT} {P : Program} {w : World} {K : PySem.W.Frag} {mg : Str → Option Value} {base : Heap} {k : Nat} {f : Addr} {name qual : Str} {params : Arguments} {body : List Stmt} {scope : Scope} {dV kV doc pm cdv ct oc : Value} {an od : Option Addr}
    {osl : Array (Option Value)} {N ps : List Str} {sp : Sp} (lk : K.lookup f = some ⟨oc, od, .func (PySem.W.fnOf name qual params body scope dV kV doc pm an cdv ct), osl⟩) (hcd : PySem.W.codeIn K cdv qual = true) (S : FnScope N ps scope)
    (len : ∀ vs H Q E, sp vs H Q E → vs.length = ps.length)
    (hbody : ∀ (A : Around) (outer : List Env) (s : Shared) (H : Hp) (vs : List V) (Q : VK) (E : XK), Room k (A.deeper (envOfC qual scope s.heap.objs.size f cdv)) → sp vs H Q E →
      ∃ t, PSs (cxOf CX P w K mg base N qual scope f cdv A outer s H E) body t ∧ t { nx := fun _ H' => Q .non H', rt := Q } (start N vs) H) :
    FnOk P w K mg base CX (k + 1) f (PySem.W.fnOf name qual params body scope dV kV doc pm an cdv ct) ps sp := by
  refine ⟨len, fun A outer s H args us vs Q E hr e0 hb r hsp => ?_⟩
  have hl := len _ _ _ _ hsp
  have KX : K.In s.heap := e0.mod.kin.keeps fun b o e => (e0.bs b o e).1
  have lim : s.heap.NoLimit := e0.mod.nolimit.keeps fun b o e => (e0.bs b o e).1
  have hkind : ∀ y ∈ ps.zip us, scope.names.lookup y.1 = some .local ∨ (scope.names.lookup y.1 = some .cell ∧ ((cellsFrom (s.heap.objs.size + 1) scope.names []).lookup y.1).isSome = true) := fun ⟨n, v⟩ hy => by
    rcases S.par n (List.of_mem_zip hy).1 with q | q
    · exact .inl q
    · exact .inr ⟨q, PySem.W.cellsFrom_some _ _ _ (.inl q)⟩
  refine codeAny_call_function hr.depth (KX _ _ lk) rfl S.co S.gen rfl (PySem.W.codeRec_of KX hcd) (hb _ _ _ _ ?_)
  refine wpAny_newFunctionEnv_cells S.kind hkind fun env he s1 x => ?_
  subst he
  refine ⟨lim.keeps x.toInCall.keep, codeAny_func ?_⟩
  obtain ⟨t, ht, hq⟩ := hbody A outer s H vs Q E (hr.deeper _) hsp
  have I : Inv (cxOf CX P w K mg base N qual scope f cdv A outer s H E) [] (start N vs) H s1 := inv_start S hr.hd e0 hl r x
  refine wpAny_mono (ht [] s1 (start N vs) H _ I hq) (fun fl s' hs => ?_) fun e s' hs => hs
  have fin : ∀ {σ' : St} {H' : Hp} {v : V} {u : Value}, Inv (cxOf CX P w K mg base N qual scope f cdv A outer s H E) [] σ' H' s' → RelV v u → Q v H' → CE outer P w H s Q u s' :=
    fun {σ' H' v u} J rv q => ⟨v, H', J.os, J.bare, J.base, J.hok, rv, q⟩
  cases fl with
  | ret u =>
    obtain ⟨v, σ', H', J, rv, q⟩ := hs
    exact fin J rv q
  | next =>
    obtain ⟨σ', H', J, q⟩ := hs
    exact fin (v := V.non) (u := Value.none) J rfl q
  | brk =>
    obtain ⟨_, _, _, q⟩ := hs
    exact False.elim q
  | cont =>
    obtain ⟨_, _, _, q⟩ := hs
    exact False.elim q
end L2
namespace L2
open PySem PySem.Spec PyProof.Rows
section
variable {X : Cx} {x : Str} {p pos : Pos} {e : Expr} {es : List Expr} {t : TA} {id T : String} {r : List V → Hp → VK → Prop}
def tCB (r : List V → Hp → VK → Prop) (t : TA) : TE := fun σ H Q => t σ H fun vs H1 => r vs H1 Q
theorem pe_callB (hc : CallR X (.builtin id) r) (hg : Gl X x) (hm : X.mg x = none) (hv : bootBuiltins x = some (.builtin id)) (ha : PA X (e :: es) t) (hn : x ≠ "__name__" := by decide) (hdb : (x == ("__debug__" : Str)) = false := by decide)
    (he : starEach (e :: es) X.env = (false, eval e X.env) :: starEach es X.env := by rfl) (hpl : (backTo pos (starEach es X.env)).any (·.1) = false := by rfl) : PE X (.Call (.Name x p) (e :: es) [] pos) (tCB r t) := by
  intro pins s σ H Q I h
  refine wpAny_Call_Name_kw (ld_blt I hg hm hv ?_ hn hdb)
  exact PyProof.Rows.callWith_builtin1 (thn (ha pos pins s σ H _ I h) fun us s1 ⟨vs, H1, I1, r1, q1⟩ => hc pins s1 σ H1 vs us Q I1 r1 q1) he hpl
theorem pe_callTy (hc : CallR X (.type T) r) (hg : Gl X x) (hm : X.mg x = none) (hv : bootBuiltins x = some (.type T)) (ha : PA X (e :: es) t) (hn : x ≠ "__name__" := by decide) (hdb : (x == ("__debug__" : Str)) = false := by decide)
    (he : starEach (e :: es) X.env = (false, eval e X.env) :: starEach es X.env := by rfl) (hpl : (backTo pos (starEach es X.env)).any (·.1) = false := by rfl) : PE X (.Call (.Name x p) (e :: es) [] pos) (tCB r t) := by
  intro pins s σ H Q I h
  refine wpAny_Call_Name_kw (ld_blt I hg hm hv ?_ hn hdb)
  exact PyProof.Rows.callWith_type1 (thn (ha pos pins s σ H _ I h) fun us s1 ⟨vs, H1, I1, r1, q1⟩ => hc pins s1 σ H1 vs us Q I1 r1 q1) he hpl
end
end L2
namespace HT
open PySem PyProof.Rows
def lexLt : List Int → List Int → Bool
  | [], [] => false
  | [], _ :: _ => true
  | _ :: _, [] => false
  | x :: xs, y :: ys => if x = y then lexLt xs ys else decide (x < y)
section
open PySem.SeqAt
open PySem.AutoSeq1 (wpAny_loadPart')
open PySem.MeetsSeq PySem.MeetsSeq2 PySem.MeetsSeq3
end
section
variable {prog : Program} {w : World} {A : Around} {E : Value → Shared → Prop} {s : Shared}
theorem cat_tup {t b : Addr} {vs ws : List Value} {Q : Value → Shared → Prop} (ht : IsTup s.heap t vs.toArray) (hb : IsTup s.heap b ws.toArray) (hv : vs ≠ [])
    (h1 : ws = [] → Q (.ref t) s) (h2 : ws ≠ [] → Q (.ref s.heap.objs.size) { s with heap := s.heap.push { cls := .type "tuple", data := .seq (vs ++ ws).toArray } })
    (hsz : vs.length + ws.length ≤ sizeLine) : wpAny (model prog w) A (binaryOp .Add (.ref t) (.ref b)) Q E s := by
  obtain ⟨⟨cls, dd, data, sl⟩, ho, hc, n, hd⟩ := id ht
  obtain ⟨⟨cls2, dd2, data2, sl2⟩, ho2, hc2, n2, hd2⟩ := id hb
  simp only at hc hd hc2 hd2
  subst hc hd hc2 hd2
  have e : vs.toArray ++ ws.toArray = (vs ++ ws).toArray := by simp
  by_cases hw : ws = []
  · exact concat_meets ⟨_, ho, rfl⟩ ⟨_, ho2, rfl⟩ noFill_tuple_add seq_tuple_add PySem.F.slot_tuple_add PySem.F.entry_tuple_add (PySem.F.args_tuple_add_2 _ _)
      (tuple_addW1 t b vs.toArray ws.toArray n n2 dd dd2 sl sl2 (by simpa using hv) (by simp [hw])) ⟨ho, ho2, h1 hw⟩
  · refine concat_meets ⟨_, ho, rfl⟩ ⟨_, ho2, rfl⟩ noFill_tuple_add seq_tuple_add PySem.F.slot_tuple_add PySem.F.entry_tuple_add (PySem.F.args_tuple_add_2 _ _)
      (tuple_addW2 t b vs.toArray ws.toArray n n2 dd dd2 sl sl2 (by simpa using hv) (by simpa using hw) (by rw [List.size_toArray, List.size_toArray]; exact hsz)) ⟨ho, ho2, ?_⟩
    rw [e]
    exact h2 hw
def sIx (n d : Nat) : Option Int → Nat
  | none => d
  | some v => if v < 0 then (v + (n : Int)).toNat else min v.toNat n
theorem sIx_le (n d : Nat) (hd : d ≤ n) (o : Option Int) : sIx n d o ≤ n := by
  cases o with
  | none => exact hd
  | some v =>
    show (if v < 0 then (v + (n : Int)).toNat else min v.toNat n) ≤ n
    by_cases hv : v < 0
    · rw [if_pos hv]; omega
    · rw [if_neg hv]; exact Nat.min_le_right _ _
theorem clip_eq (v : Int) (n d : Nat) : (if v < 0 then max (v + (n : Int)) 0 else min v (n : Int)) = ((sIx n d (some v) : Nat) : Int) := by
  show (if v < 0 then max (v + (n : Int)) 0 else min v (n : Int)) = (((if v < 0 then (v + (n : Int)).toNat else min v.toNat n) : Nat) : Int)
  by_cases hv : v < 0
  · simp only [if_pos hv]; omega
  · simp only [if_neg hv]; omega
theorem adjust_gen (lo hi : Option Int) (n : Nat) : Builtin.Slice.sliceAdjust lo hi 1 (n : Int) = (((sIx n 0 lo : Nat) : Int), ((sIx n n hi : Nat) : Int)) := by
  have h1 : ¬ ((1 : Int) < 0) := by omega
  unfold Builtin.Slice.sliceAdjust
  simp only [h1, if_false]
  refine Prod.ext ?_ ?_
  · cases lo with
    | none => rfl
    | some v => exact clip_eq v n 0
  · cases hi with
    | none => rfl
    | some v => exact clip_eq v n n
theorem places_gen (i j : Nat) : Builtin.Slice.slicePlaces (i : Int) (j : Int) 1 = j - i := by
  unfold Builtin.Slice.slicePlaces
  have h1 : (1 : Int) > 0 := by omega
  simp only [h1, if_true, Int.ediv_one]
  split <;> omega
theorem slicePart_ {v : Value} {o : Option Int} {Q : Option Int → Shared → Prop} (p : IsPart v o) (h : Q o s) : wpAny (model prog w) A (Builtin.Slice.slicePartIndex v) Q E s := by
  cases p with
  | none => exact slicePart_none h
  | int i t => exact slicePart_int h
theorem sliceApplied_gen {sl : Addr} {vl vu : Value} {lo hi : Option Int} {n : Nat} {Q : Int × Int × Nat → Shared → Prop} (hs : s.heap.IsSliceOf sl vl vu .none) (pl : IsPart vl lo) (pu : IsPart vu hi)
    (h : Q (((sIx n 0 lo : Nat) : Int), 1, sIx n n hi - sIx n 0 lo) s) : wpAny (model prog w) A (Builtin.Slice.sliceApplied (.ref sl) (pure (n : Int))) Q E s := by
  obtain ⟨os, hos, hcs, hds⟩ := id hs
  unfold Builtin.Slice.sliceApplied Builtin.Slice.sliceFields
  refine wpAny_bind (wpAny_bind (wpAny_field hos hds (x := vl) rfl (wpAny_bind (wpAny_field hos hds (x := vu) rfl (wpAny_bind (wpAny_field hos hds (x := .none) rfl (wpAny_pure ?_)))))))
  refine wpAny_bind (slicePart_none ?_)
  show wpAny _ _ (if ((1 : Int) == 0) = true then _ else _) _ _ s
  rw [if_neg (by decide)]
  refine wpAny_bind (slicePart_ pl (wpAny_bind (slicePart_ pu (wpAny_bind (wpAny_pure ?_)))))
  show wpAny _ _ (match Builtin.Slice.sliceAdjust lo hi 1 (n : Int) with | (lo, hi) => pure (lo, (1 : Int), Builtin.Slice.slicePlaces lo hi 1)) _ _ s
  rw [adjust_gen lo hi n]
  show wpAny _ _ (pure (((sIx n 0 lo : Nat) : Int), (1 : Int), Builtin.Slice.slicePlaces ((sIx n 0 lo : Nat) : Int) ((sIx n n hi : Nat) : Int) 1)) _ _ s
  rw [places_gen]
  exact wpAny_pure h
theorem pick_gen (xs : Array Value) (i k : Nat) : ((List.range k).filterMap fun (m : Nat) => xs[((i : Int) + (m : Int) * 1).toNat]?).toArray = ((xs.toList.drop i).take k).toArray := by
  have e : (fun (m : Nat) => xs[((i : Int) + (m : Int) * 1).toNat]?) = fun m => xs[i + m]? := by
    funext m
    have : ((i : Int) + (m : Int) * 1).toNat = i + m := by omega
    rw [this]
  rw [e]
  have := pick_run xs i k
  rw [List.filterMap_map] at this
  have e2 : ((fun x => xs[x]?) ∘ fun x => i + x) = fun m => xs[i + m]? := rfl
  rw [e2] at this
  rw [this]
theorem getItem_tuple_cut {t sl : Addr} {items : Array Value} {vl vu : Value} {lo hi : Option Int} {Q : Value → Shared → Prop} (ht : IsTup s.heap t items) (hs : s.heap.IsSliceOf sl vl vu .none) (pl : IsPart vl lo) (pu : IsPart vu hi)
    (hw : ¬ (sIx items.size 0 lo = 0 ∧ sIx items.size items.size hi = items.size))
    (h : Q (.ref s.heap.objs.size) { s with heap := s.heap.push { cls := .type "tuple", data := .seq ((items.toList.drop (sIx items.size 0 lo)).take (sIx items.size items.size hi - sIx items.size 0 lo)).toArray } })
    (hsz : items.size ≤ sizeLine) : wpAny (model prog w) A (getItem (.ref t) (.ref sl)) Q E s := by
  have htake : sizeOk (.seq ((items.toList.drop (sIx items.size 0 lo)).take (sIx items.size items.size hi - sIx items.size 0 lo)).toArray) := by
    show ((items.toList.drop (sIx items.size 0 lo)).take (sIx items.size items.size hi - sIx items.size 0 lo)).toArray.size ≤ sizeLine
    rw [List.size_toArray, List.length_take, List.length_drop, Array.length_toList]
    omega
  have hj : sIx items.size items.size hi ≤ items.size := sIx_le _ _ (Nat.le_refl _) hi
  obtain ⟨os, hos, hcs, hds⟩ := id hs
  have hTs : s.TypeIs (.ref sl) "slice" := ⟨os, hos, hcs⟩
  unfold getItem
  try with_reducible refine wpAny_holding ?_
  first | refine wpAny_bind (wpAny_pure ?_) | skip
  refine wpAny_bind (wpAny_sequenceKey ht.typeIs (by decide) ?_)
  refine wpAny_bind (wpAny_callSpecial?_slot (name := Str.ofString "__getitem__") ht.typeIs PyProof.Rows.slot_tuple_getitem
    (wpAny_call_entry PyProof.Rows.slot_tuple_getitem ht.typeIs entry_tuple_getitem ?_ (args_tuple_getitem _ _)))
  show wpAny _ _ (Builtin.Tuple.tupleItemsOf (.ref t) >>= _) _ _ s
  refine wpAny_bind (tupleItemsOf_ ht ?_)
  refine wpAny_bind (wpAny_typeOf hTs ?_)
  rw [if_pos (by decide)]
  refine wpAny_bind (sliceApplied_gen hs pl pu ?_)
  have hno : ¬ ((((sIx items.size 0 lo : Nat) : Int) == 0 && (1 : Int) == 1 && (sIx items.size items.size hi - sIx items.size 0 lo) == items.size) = true) := by
    intro q
    rw [Bool.and_eq_true, Bool.and_eq_true] at q
    have q1 : ((sIx items.size 0 lo : Nat) : Int) = 0 := eq_of_beq q.1.1
    have q2 : sIx items.size items.size hi - sIx items.size 0 lo = items.size := eq_of_beq q.2
    exact hw ⟨by omega, by omega⟩
  show wpAny _ _ (if (((sIx items.size 0 lo : Nat) : Int) == 0 && (1 : Int) == 1 && (sIx items.size items.size hi - sIx items.size 0 lo) == items.size) = true then _ else _) _ _ s
  rw [if_neg hno, pick_gen]
  first
    | exact wpAny_bind (m := Builtin.Tuple.tupleExact _) (wpAny_newObj_type (wpAny_pure ⟨_, rfl, wpAny_pure h⟩) htake)
    | exact wpAny_bind (m := Builtin.Tuple.tupleExact _) (wpAny_newObj_type (wpAny_bind (wpAny_pure (wpAny_pure ⟨_, rfl, wpAny_pure h⟩))) htake)
    | exact wpAny_bind (wpAny_bind (m := Builtin.Tuple.tupleExact _) (wpAny_newObj_type (wpAny_pure (wpAny_pure ⟨_, rfl, wpAny_pure h⟩)) htake))
    | exact wpAny_bind (wpAny_bind (m := Builtin.Tuple.tupleExact _) (wpAny_newObj_type (wpAny_pure ⟨_, rfl, wpAny_pure h⟩) htake))
end
end HT
namespace L2
open PySem PySem.Spec PyProof.Rows
abbrev TO := St → Hp → (Option Int → Hp → Prop) → Prop
def PO (X : Cx) (e : Option Expr) (t : TO) : Prop :=
  ∀ (pins : List (Addr × Obj)) (s : Shared) (σ : St) (H : Hp) (Q : Option Int → Hp → Prop), Inv X pins σ H s → t σ H Q →
    wpAny (model X.prog X.w) X.A (evalPart e X.env) (fun u s' => ∃ o H', Inv X pins σ H' s' ∧ IsPart u o ∧ Q o H') X.xe s
def tNoPart : TO := fun _ H Q => Q none H
def tPart (t : TE) : TO := fun σ H Q => t σ H fun x H1 => ∃ i, x = .int i ∧ Q (some i) H1
section
variable {X : Cx} {e : Expr} {te : TE} {lo hi : Option Expr} {tl th : TO} {pos p2 : Pos}
theorem po_none : PO X none tNoPart := by
  intro pins s σ H Q I h
  rw [evalPart_none]
  exact wpAny_pure ⟨none, H, I, .none, h⟩
theorem po_some (h : PE X e te) : PO X (some e) (tPart te) := by
  intro pins s σ H Q I hw
  rw [evalPart_some]
  refine thn (h pins s σ H _ I hw) fun u s1 ⟨x, H1, I1, r1, q1⟩ => ?_
  obtain ⟨i, rfl, q⟩ := q1
  obtain ⟨t, rfl⟩ := r1
  exact ⟨some i, H1, I1, .int i t, q⟩
def SlR (X : Cx) (r : V → Option Int → Option Int → Hp → VK → Prop) : Prop :=
  ∀ (pins : List (Addr × Obj)) (s : Shared) (σ : St) (H : Hp) (x : V) (v vl vu : Value) (lo hi : Option Int) (sl : Addr) (Q : VK), Inv X pins σ H s → RelV x v → s.heap.IsSliceOf sl vl vu .none → IsPart vl lo → IsPart vu hi → r x lo hi H Q →
    ∃ T id, typeLookup (.type T) "__getitem__" = pure (some (.builtin id)) ∧ s.TypeIs v T ∧ wpAny (model X.prog X.w) X.A (getItem v (.ref sl)) (EP X pins σ Q) X.xe s
theorem SlR.or {r r' : V → Option Int → Option Int → Hp → VK → Prop} (h : SlR X r) (h' : SlR X r') : SlR X (fun x lo hi H Q => r x lo hi H Q ∨ r' x lo hi H Q) := by
  intro pins s σ H x v vl vu lo hi sl Q I rx hs pl pu q
  rcases q with q | q
  · exact h pins s σ H x v vl vu lo hi sl Q I rx hs pl pu q
  · exact h' pins s σ H x v vl vu lo hi sl Q I rx hs pl pu q
def tSl (r : V → Option Int → Option Int → Hp → VK → Prop) (te : TE) (tl th : TO) : TE := fun σ H Q => te σ H fun x H1 => tl σ H1 fun l H2 => th σ H2 fun u H3 => r x l u H3 Q
theorem pe_slice {r : V → Option Int → Option Int → Hp → VK → Prop} (hr : SlR X r) (he : PE X e te) (hl : PO X lo tl) (hu : PO X hi th) : PE X (.Subscript e (.Slice lo hi none p2) pos) (tSl r te tl th) := by
  intro pins s σ H Q I h
  refine Subscript_ (thn (he pins s σ H _ I h) fun v s1 ⟨x, H1, I1, r1, q1⟩ => ?_)
  refine wpAny_Slice (thn (hl pins s1 σ H1 _ I1 q1) fun vl s2 ⟨l, H2, I2, pl, q2⟩ => thn (hu pins s2 σ H2 _ I2 q2) fun vu s3 ⟨u, H3, I3, pu, q3⟩ => ?_)
  rw [evalPart_none]
  refine wpAny_pure ?_
  have I4 : Inv X pins σ H3 { s3 with heap := s3.heap.push { cls := .type "slice", data := .fields #[vl, vu, .none] } } := I3.kept (t' := s3.toks) fun b ob q => Heap.get?_push_of_some _ q
  obtain ⟨T, id, hT, ht, hg⟩ := hr pins { s3 with heap := s3.heap.push { cls := .type "slice", data := .fields #[vl, vu, .none] } } σ H3 x v vl vu l u s3.heap.objs.size Q I4 r1 (Heap.IsSliceOf.new ..) pl pu q3
  show wpAny (model X.prog X.w) X.A (subscriptTail e (.Slice lo hi none p2) v (.ref s3.heap.objs.size)) (EP X pins σ Q) X.xe { s3 with heap := s3.heap.push { cls := .type "slice", data := .fields #[vl, vu, .none] } }
  exact tail_any (ops := [.ref s3.heap.objs.size, v]) ht hT hg (by with_unfolding_all rfl)
def cutV (xs : List V) (lo hi : Option Int) : List V := (xs.drop (HT.sIx xs.length 0 lo)).take (HT.sIx xs.length xs.length hi - HT.sIx xs.length 0 lo)
theorem cutV_length (xs : List V) (lo hi : Option Int) : (cutV xs lo hi).length ≤ xs.length := by
  unfold cutV
  rw [List.length_take, List.length_drop]
  omega
def rSlT (K : PySem.W.Frag) : V → Option Int → Option Int → Hp → VK → Prop := fun x lo hi H Q => ∃ a xs, x = .ref a ∧ SqT K H a xs ∧
  ¬ (HT.sIx xs.length 0 lo = 0 ∧ HT.sIx xs.length xs.length hi = xs.length) ∧ ∀ p, H p = none → Q (.ref p) (upd H p (.tup (cutV xs lo hi)))
theorem sl_tup : SlR X (rSlT X.K) := by
  intro pins s σ H x v vl vu lo hi sl Q I rx hs pl pu h
  obtain ⟨a, xs, rfl, hx, hw, q⟩ := h
  cases rx
  obtain ⟨its, r, ht, hz⟩ := I.tuple hx
  have hlen : its.toArray.size = xs.length := by rw [List.size_toArray]; exact r.length.symm
  refine ⟨"tuple", _, PyProof.Rows.slot_tuple_getitem.lookup, ht.typeIs, ?_⟩
  refine HT.getItem_tuple_cut ht hs pl pu (by rw [hlen]; exact hw) ?_ (by rw [hlen]; exact hz)
  rw [hlen]
  refine ⟨.ref s.heap.objs.size, _, I.laid (t' := s.toks) (o := .tup (cutV xs lo hi)) (fun b ob q => Heap.get?_push_of_some _ q) (Nat.le_refl _) ?_, rfl, q _ (I.hok.fresh (Nat.le_refl _))⟩
  exact ⟨Nat.le_trans (cutV_length xs lo hi) hz, _, (r.drop (HT.sIx xs.length 0 lo)).take (HT.sIx xs.length xs.length hi - HT.sIx xs.length 0 lo), IsTup.new _ _⟩
def rLtT (K : PySem.W.Frag) : R2 := fun x y H Q => ∃ a b ns ms, x = .ref a ∧ y = .ref b ∧ SqT K H a (ns.map V.int) ∧ SqT K H b (ms.map V.int) ∧ Q (.bl (HT.lexLt ns ms)) H
def rCatT (K : PySem.W.Frag) : R2 := fun x y H Q => ∃ a b xs ys, x = .ref a ∧ y = .ref b ∧ SqT K H a xs ∧ SqT K H b ys ∧ xs ≠ [] ∧ xs.length + ys.length ≤ sizeLine ∧
  (ys = [] → Q (.ref a) H) ∧ (ys ≠ [] → ∀ p, H p = none → Q (.ref p) (upd H p (.tup (xs ++ ys))))
theorem Vals.nil_iff {xs : List V} {us : List Value} (r : Vals xs us) : us = [] ↔ xs = [] := by
  cases r with
  | nil => simp
  | cons _ _ => simp
theorem op_catT : OpR X (binaryOp .Add) (rCatT X.K) := by
  intro pins s σ H x y v u Q I rx ry h
  obtain ⟨a, b, xs, ys, rfl, rfl, ha, hb, hx, hz, q1, q2⟩ := h
  cases rx
  cases ry
  obtain ⟨its, r1, p1, _⟩ := I.tuple ha
  obtain ⟨its2, r2, p2, _⟩ := I.tuple hb
  refine HT.cat_tup p1 p2 (fun z => hx (r1.nil_iff.mp z)) (fun z => ⟨.ref a, H, I, rfl, q1 (r2.nil_iff.mp z)⟩) (fun z => ?_) (by rw [← r1.length, ← r2.length]; exact hz)
  refine ⟨.ref s.heap.objs.size, _, I.laid (t' := s.toks) (o := .tup (xs ++ ys)) (fun b ob q => Heap.get?_push_of_some _ q) (Nat.le_refl _) ?_, rfl, q2 (fun w => z (r2.nil_iff.mpr w)) _ (I.hok.fresh (Nat.le_refl _))⟩
  exact ⟨by rw [List.length_append]; exact hz, _, r1.append r2, IsTup.new _ _⟩
end
end L2
namespace L2
open PySem PySem.Spec PyProof.Rows
def ixN (n : Nat) (i : Int) : Option Nat := if 0 ≤ i then (if i < n then some i.toNat else none) else if -(n : Int) ≤ i then some (i + n).toNat else none
def atI {α : Type} (xs : List α) (i : Int) : Option α := (ixN xs.length i).bind fun j => xs[j]?
theorem ixN_seq {n : Nat} {i : Int} {j : Nat} (h : ixN n i = some j) : seqIndex? i n = some j ∧ j < n ∧ -(n : Int) ≤ i ∧ i < n := by
  unfold ixN at h
  by_cases h0 : 0 ≤ i
  · rw [if_pos h0] at h
    by_cases h1 : i < n
    · rw [if_pos h1] at h
      have e : i.toNat = j := Option.some.inj h
      exact ⟨by rw [seqIndex_of h0 h1, e], by omega, by omega, h1⟩
    · rw [if_neg h1] at h; cases h
  · rw [if_neg h0] at h
    by_cases h1 : -(n : Int) ≤ i
    · rw [if_pos h1] at h
      have e : (i + n).toNat = j := Option.some.inj h
      exact ⟨by rw [seqIndex_neg (by omega) h1, e], by omega, h1, by omega⟩
    · rw [if_neg h1] at h; cases h
theorem atI_get {α : Type} {xs : List α} {i : Int} {v : α} (h : atI xs i = some v) : ∃ j, seqIndex? i xs.length = some j ∧ xs[j]? = some v ∧ j < xs.length ∧ -(xs.length : Int) ≤ i ∧ i < xs.length := by
  unfold atI at h
  cases e : ixN xs.length i with
  | none => rw [e] at h; cases h
  | some j =>
    rw [e] at h
    obtain ⟨h1, h2, h3, h4⟩ := ixN_seq e
    exact ⟨j, h1, h, h2, h3, h4⟩
def PlainIx (b : Expr) : Prop := ∀ o i, subscripted b false o i = operate [o, i] (getItem o i)
def IxR (X : Cx) (r : R2) : Prop :=
  ∀ (value slice : Expr) (pins : List (Addr × Obj)) (s : Shared) (σ : St) (H : Hp) (x y : V) (v u : Value) (Q : VK), Inv X pins σ H s → RelV x v → RelV y u → r x y H Q →
    subscripted slice false v u = operate [v, u] (getItem v u) → wpAny (model X.prog X.w) X.A (subscriptTail value slice v u) (EP X pins σ Q) X.xe s
def MtR (X : Cx) (id : String) (r : V → List V → Hp → VK → Prop) : Prop :=
  ∀ (pins : List (Addr × Obj)) (s : Shared) (σ : St) (H : Hp) (x : V) (xs : List V) (v : Value) (us : List Value) (Q : VK), Inv X pins σ H s → RelV x v → Vals xs us → r x xs H Q →
    wpAny (model X.prog X.w) X.A (call (.builtin id) (v :: us)) (EP X pins σ Q) X.xe s
section
variable {X : Cx} {a b : Expr} {ta tb : TE} {pos : Pos}
theorem IxR.or {r r' : R2} (h : IxR X r) (h' : IxR X r') : IxR X (fun x y H Q => r x y H Q ∨ r' x y H Q) := by
  intro value slice pins s σ H x y v u Q I rx ry q hs
  rcases q with q | q
  · exact h value slice pins s σ H x y v u Q I rx ry q hs
  · exact h' value slice pins s σ H x y v u Q I rx ry q hs
theorem MtR.or {id : String} {r r' : V → List V → Hp → VK → Prop} (h : MtR X id r) (h' : MtR X id r') : MtR X id (fun x xs H Q => r x xs H Q ∨ r' x xs H Q) := by
  intro pins s σ H x xs v us Q I rx rs q
  rcases q with q | q
  · exact h pins s σ H x xs v us Q I rx rs q
  · exact h' pins s σ H x xs v us Q I rx rs q
theorem pe_ix {r : R2} (hr : IxR X r) (ha : PE X a ta) (hb : PE X b tb) (hs : PlainIx b) : PE X (.Subscript a b pos) (tOp r ta tb) := by
  intro pins s σ H Q I h
  exact Subscript_ (binT ha hb I h fun v u s2 x y H2 I2 rx ry q => hr a b pins s2 σ H2 x y v u Q I2 rx ry q (hs _ _))
def rIxL (K : PySem.W.Frag) : R2 := fun x y H Q => ∃ p xs i v, x = .ref p ∧ y = .int i ∧ SqL K H p xs ∧ atI xs i = some v ∧ Q v H
def rIxT (K : PySem.W.Frag) : R2 := fun x y H Q => ∃ p xs i v, x = .ref p ∧ y = .int i ∧ SqT K H p xs ∧ atI xs i = some v ∧ Q v H
def rIxS : R2 := fun x y H Q => ∃ z i c, x = .str z ∧ y = .int i ∧ z.length ≤ sizeLine ∧ atI z.cps.toList i = some c ∧ Q (.str ⟨#[c]⟩) H
theorem ix_list : IxR X (rIxL X.K) := by
  intro value slice pins s σ H x y v u Q I rx ry h hs
  obtain ⟨p, xs, i, z, rfl, rfl, hq, he, q⟩ := h
  cases rx
  obtain ⟨t, rfl⟩ := ry
  obtain ⟨its, r, pl, hz⟩ := I.list hq
  obtain ⟨j, h1, h2, h3, h4, h5⟩ := atI_get he
  obtain ⟨w, ew, rw'⟩ := r.get h2
  have hl := r.length
  have hn := line63
  have fin : EP X pins σ Q w s := ⟨z, H, I, rw', q⟩
  by_cases h0 : 0 ≤ i
  · have hj : i.toNat = j := by
      rw [seqIndex_of h0 h5] at h1
      exact Option.some.inj h1
    exact item_listR pl.isList h0 (by omega) (by rw [hj]; simpa using ew) fin hs
  · have hj : (i + (its.toArray.size : Int)).toNat = j := by
      rw [seqIndex_neg (by omega) h4] at h1
      rw [List.size_toArray, ← hl]
      exact Option.some.inj h1
    exact subscriptTail_builtinR (x := w) pl.isList.typeIs slot_list_getitem.lookup
      (wpAny_getItem_list_neg (Q := fun r s' => r = w ∧ EP X pins σ Q r s') pl.isList (by omega) (by rw [List.size_toArray] <;> omega) (by omega) (by rw [hj]; simpa using ew) ⟨rfl, fin⟩) hs
theorem ix_tup : IxR X (rIxT X.K) := by
  intro value slice pins s σ H x y v u Q I rx ry h hs
  obtain ⟨p, xs, i, z, rfl, rfl, hq, he, q⟩ := h
  cases rx
  obtain ⟨t, rfl⟩ := ry
  obtain ⟨its, r, pl, hz⟩ := I.tuple hq
  obtain ⟨j, h1, h2, h3, h4, h5⟩ := atI_get he
  obtain ⟨w, ew, rw'⟩ := r.get h2
  have hl := r.length
  have hn := line63
  have fin : EP X pins σ Q w s := ⟨z, H, I, rw', q⟩
  exact subscriptTail_builtinR (x := w) pl.typeIs slot_tuple_getitem.lookup
    (getItem_tuple (j := j) (Q := fun r s' => r = w ∧ EP X pins σ Q r s') pl (by omega) (by omega) (by rw [List.size_toArray, ← hl]; exact h1) (by simpa using ew) ⟨rfl, fin⟩) hs
theorem ix_str : IxR X rIxS := by
  intro value slice pins s σ H x y v u Q I rx ry h hs
  obtain ⟨z, i, c, rfl, rfl, hz, he, q⟩ := h
  obtain ⟨t, rfl⟩ := rx
  obtain ⟨t', rfl⟩ := ry
  obtain ⟨j, h1, h2, h3, h4, h5⟩ := atI_get he
  have hl : z.cps.toList.length = z.length := by simp [Str.length]
  rw [hl] at h1 h4 h5
  have hn := line63
  exact tail_any (typeIs_str s z t) slot_str_getitem.lookup (getItem_str (c := c) (by
    have e1 : decide (i < -(2 ^ 63 : Int)) = false := decide_eq_false (by omega)
    have e2 : decide (i ≥ 2 ^ 63) = false := decide_eq_false (by omega)
    rw [e1, e2, Bool.or_false]) (by rw [h1]; simpa using h2) ⟨.str ⟨#[c]⟩, H, I.tok _, ⟨_, rfl⟩, q⟩) hs
def rIx (K : PySem.W.Frag) : R2 := fun x y H Q => rIxL K x y H Q ∨ rIxT K x y H Q ∨ rIxS x y H Q
theorem mapSeq_set (its : List Value) (n j : Nat) (u : Value) : Obj.mapSeq (·.setIfInBounds j u) { cls := .type "list", data := .seq its.toArray n } = { cls := .type "list", data := .seq (its.set j u).toArray n } := by
  simp [Obj.mapSeq]
theorem Inv.lst {pins : List (Addr × Obj)} {σ : St} {H : Hp} {s : Shared} {p : Addr} {xs : List V} (I : Inv X pins σ H s) (h : H p = some (.lst xs)) :
    ∃ (its : List Value) (n : Nat), Vals xs its ∧ s.heap.get? p = some { cls := .type "list", data := .seq its.toArray n } ∧ xs.length ≤ sizeLine := by
  obtain ⟨z, its, n, r, e⟩ := I.hok p _ h
  exact ⟨its, n, r, e, z⟩
theorem Inv.lstUpd {pins : List (Addr × Obj)} {σ : St} {H : Hp} {s : Shared} {p : Addr} {xs ys : List V} {its its' : List Value} {n n' : Nat} {f : Obj → Obj} (I : Inv X pins σ H s) (h : H p = some (.lst xs))
    (ho : s.heap.get? p = some { cls := .type "list", data := .seq its.toArray n }) (hf : f { cls := .type "list", data := .seq its.toArray n } = { cls := .type "list", data := .seq its'.toArray n' }) (r : Vals ys its') (hz : ys.length ≤ sizeLine) (t : Nat) :
    Inv X pins σ (upd H p (.lst ys)) { s with heap := s.heap.update p f, toks := t } := by
  have e : (s.heap.update p f).get? p = some { cls := .type "list", data := .seq its'.toArray n' } := by
    rw [Heap.get?_update_self f ho (by rw [hf] <;> rfl), hf]
  refine I.write (x := p) (e := p) (by rw [h]; trivial) (.inl rfl) (fun b u hb q => (Heap.get?_update_other _ _ (Ne.symm hb)).trans q) ⟨_, e⟩ ?_
  exact ⟨hz, its', n', r, e⟩
def rSetL : V → V → V → Hp → (Hp → Prop) → Prop := fun o i v H Q => ∃ p xs k j, o = .ref p ∧ i = .int k ∧ H p = some (.lst xs) ∧ ixN xs.length k = some j ∧ Q (upd H p (.lst (xs.set j v)))
theorem set_list : PSet X rSetL := by
  intro pins s σ H o i v ov iv u Q I ro ri rv h
  obtain ⟨p, xs, k, j, rfl, rfl, hp, hj, q⟩ := h
  cases ro
  obtain ⟨t, rfl⟩ := ri
  obtain ⟨its, n, r, ho, hz⟩ := I.lst hp
  obtain ⟨h1, h2, h3, h4⟩ := ixN_seq hj
  have hl := r.length
  have hn := line63
  have I' : Inv X pins σ (upd H p (.lst (xs.set j v))) { s with heap := s.heap.update p (Obj.mapSeq (·.setIfInBounds j u)) } :=
    I.lstUpd hp ho (mapSeq_set its n j u) (r.set rv j) (by rw [List.length_set]; exact hz) s.toks
  by_cases h0 : 0 ≤ k
  · have hk : k.toNat = j := by
      rw [seqIndex_of h0 h4] at h1
      exact Option.some.inj h1
    exact PySem.W.ki_setAt ho h0 (by omega) (by rw [List.size_toArray, ← hl]; exact h4) (by rw [hk]; exact ⟨_, I', q⟩)
  · have hk : (k + (its.toArray.size : Int)).toNat = j := by
      rw [seqIndex_neg (by omega) h3] at h1
      rw [List.size_toArray, ← hl]
      exact Option.some.inj h1
    exact PySem.W.ki_setBack ho (by omega) (by rw [List.size_toArray, ← hl]; exact h3) (by omega) (by rw [hk]; exact ⟨_, I', q⟩)
theorem slice_bounds (lo hi : Option Int) (n : Nat) : (sliceBounds lo hi none n).1 = ((HT.sIx n 0 lo : Nat) : Int) ∧ (sliceBounds lo hi none n).2.1 = ((HT.sIx n n hi : Nat) : Int) ∧ (sliceBounds lo hi none n).2.2 = 1 := by
  refine ⟨?_, ?_, rfl⟩
  · cases lo with
    | none => simp [sliceBounds, HT.sIx]
    | some i =>
      simp only [sliceBounds, HT.sIx, Option.getD_none, show (1 : Int) > 0 by decide, if_true]
      by_cases h : i < 0
      · simp only [h, if_true] <;> omega
      · simp only [h, if_false] <;> omega
  · cases hi with
    | none => simp [sliceBounds, HT.sIx]
    | some i =>
      simp only [sliceBounds, HT.sIx, Option.getD_none, show (1 : Int) > 0 by decide, if_true]
      by_cases h : i < 0
      · simp only [h, if_true] <;> omega
      · simp only [h, if_false] <;> omega
theorem slicePick_cut (its : List Value) (lo hi : Option Int) : slicePick its.toArray lo hi none = ((its.drop (HT.sIx its.length 0 lo)).take (HT.sIx its.length its.length hi - HT.sIx its.length 0 lo)).toArray := by
  obtain ⟨h1, h2, h3⟩ := slice_bounds lo hi its.toArray.size
  unfold slicePick
  rw [h1, h2, h3]
  simp only [sliceRange_one, pick_run, List.size_toArray] <;> rfl
def rSlL (K : PySem.W.Frag) : V → Option Int → Option Int → Hp → VK → Prop := fun x lo hi H Q => ∃ a xs, x = .ref a ∧ SqL K H a xs ∧ ∀ p, H p = none → Q (.ref p) (upd H p (.lst (cutV xs lo hi)))
theorem sl_list : SlR X (rSlL X.K) := by
  intro pins s σ H x v vl vu lo hi sl Q I rx hs pl pu h
  obtain ⟨a, xs, rfl, hx, q⟩ := h
  cases rx
  obtain ⟨its, r, ht, hz⟩ := I.list hx
  have hlen := r.length
  refine ⟨"list", _, slot_list_getitem.lookup, ht.isList.typeIs, ?_⟩
  refine wpAny_getItem_list_slice ht.isList hs pl pu .none (by simp) ?_ (by rw [List.size_toArray] <;> omega)
  rw [slicePick_cut, ← hlen]
  refine ⟨.ref s.heap.objs.size, _, I.laid (t' := s.toks) (o := .lst (cutV xs lo hi)) (fun b ob q => Heap.get?_push_of_some _ q) (Nat.le_refl _) ?_, rfl, q _ (I.hok.fresh (Nat.le_refl _))⟩
  exact ⟨Nat.le_trans (cutV_length xs lo hi) hz, _, 0, (r.drop (HT.sIx xs.length 0 lo)).take (HT.sIx xs.length xs.length hi - HT.sIx xs.length 0 lo), Heap.get?_push_size _ rfl⟩
def flatV : V → Bool
  | .non => true
  | .bl _ => true
  | .int _ => true
  | .str _ => true
  | _ => false
def eqV : V → V → Bool
  | .non, .non => true
  | .bl a, .bl b => a == b
  | .bl a, .int b => (if a then 1 else 0) == b
  | .int a, .bl b => a == (if b then 1 else 0)
  | .int a, .int b => a == b
  | .str a, .str b => a == b
  | _, _ => false
theorem eqAt_V {A : Around} {s : Shared} {y x : V} {u v : Value} (ry : RelV y u) (rx : RelV x v) (fy : flatV y = true) (fx : flatV x = true) : SeqAt.EqAt A s u v (eqV y x) := by
  cases y with
  | non =>
    cases ry
    cases x with
    | non => cases rx; exact SeqAt.EqAt.same _
    | bl b => cases rx; exact SeqAt.EqAt.none_bool b
    | int b => obtain ⟨t, rfl⟩ := rx; exact SeqAt.EqAt.none_int b t
    | str b => obtain ⟨t, rfl⟩ := rx; exact SeqAt.EqAt.none_str b t
    | _ => exact absurd (show false = true from fx) Bool.false_ne_true
  | bl a =>
    cases ry
    cases x with
    | non => cases rx; exact SeqAt.EqAt.bool_none a
    | bl b => cases rx; exact SeqAt.EqAt.bool_bool a b
    | int b => obtain ⟨t, rfl⟩ := rx; exact SeqAt.EqAt.bool_int a b t
    | str b => obtain ⟨t, rfl⟩ := rx; exact SeqAt.EqAt.bool_str a b t
    | _ => exact absurd (show false = true from fx) Bool.false_ne_true
  | int a =>
    obtain ⟨t', rfl⟩ := ry
    cases x with
    | non => cases rx; exact SeqAt.EqAt.int_none a t'
    | bl b => cases rx; exact SeqAt.EqAt.int_bool a t' b
    | int b => obtain ⟨t, rfl⟩ := rx; exact SeqAt.EqAt.int_int a t' b t
    | str b => obtain ⟨t, rfl⟩ := rx; exact SeqAt.EqAt.int_str a t' b t
    | _ => exact absurd (show false = true from fx) Bool.false_ne_true
  | str a =>
    obtain ⟨t', rfl⟩ := ry
    cases x with
    | non => cases rx; exact SeqAt.EqAt.str_none a t'
    | bl b => cases rx; exact SeqAt.EqAt.str_bool a t' b
    | int b => obtain ⟨t, rfl⟩ := rx; exact SeqAt.EqAt.str_int a t' b t
    | str b => obtain ⟨t, rfl⟩ := rx; exact SeqAt.EqAt.str_str a t' b t
    | _ => exact absurd (show false = true from fx) Bool.false_ne_true
  | _ => exact absurd (show false = true from fy) Bool.false_ne_true
def eqU (x : V) (u : Value) : Bool := match u with
  | .none => eqV .non x
  | .bool b => eqV (.bl b) x
  | .int i _ => eqV (.int i) x
  | .str z _ => eqV (.str z) x
  | _ => false
theorem eqU_of {x y : V} {u : Value} (r : RelV y u) (f : flatV y = true) : eqU x u = eqV y x := by
  cases y with
  | non => cases r; rfl
  | bl b => cases r; rfl
  | int i => obtain ⟨t, rfl⟩ := r; rfl
  | str z => obtain ⟨t, rfl⟩ := r; rfl
  | _ => exact absurd (show false = true from f) Bool.false_ne_true
theorem any_eqU {x : V} : ∀ {xs : List V} {us : List Value}, Vals xs us → xs.all flatV = true → us.any (eqU x) = xs.any fun y => eqV y x
  | _, _, .nil, _ => rfl
  | y :: xs, u :: us, .cons r t, f => by
    rw [List.all_cons, Bool.and_eq_true] at f
    rw [List.any_cons, List.any_cons, eqU_of r f.1, any_eqU t f.2]
theorem mem_eqAt {A : Around} {s : Shared} {x : V} {v : Value} (rx : RelV x v) (fx : flatV x = true) : ∀ {xs : List V} {us : List Value}, Vals xs us → xs.all flatV = true → ∀ u ∈ us, SeqAt.EqAt A s u v (eqU x u)
  | _, _, .nil, _ => fun u hu => by cases hu
  | y :: xs, u :: us, .cons r t, f => fun u' hu => by
    rw [List.all_cons, Bool.and_eq_true] at f
    rcases List.mem_cons.mp hu with rfl | hu
    · rw [eqU_of r f.1]; exact eqAt_V r rx f.1 fx
    · exact mem_eqAt rx fx t f.2 u' hu
def inV (x : V) (xs : List V) : Bool := xs.any fun y => eqV y x
def rIn (K : PySem.W.Frag) (neg : Bool) : R2 := fun x y H Q => ∃ p xs, y = .ref p ∧ (SqL K H p xs ∨ SqT K H p xs) ∧ flatV x = true ∧ xs.all flatV = true ∧ Q (.bl (if neg then !inV x xs else inV x xs)) H
theorem op_in_seq : OpR X (compareOp .In) (rIn X.K false) := by
  intro pins s σ H x y v u Q I rx ry h
  obtain ⟨p, xs, rfl, hq, fx, fs, q⟩ := h
  cases ry
  rcases hq with hq | hq
  · obtain ⟨its, r, pl, hz⟩ := I.list hq
    refine SeqAt.in_listAt (eqU x) pl.isList (fun w hw => mem_eqAt rx fx r fs w (by simpa using hw)) ⟨.bl _, H, I, rfl, ?_⟩
    rw [show its.toArray.any (eqU x) = its.any (eqU x) by simp, any_eqU r fs]
    exact q
  · obtain ⟨its, r, pl, hz⟩ := I.tuple hq
    refine SeqAt.in_tupleAt (eqU x) pl (fun w hw => mem_eqAt rx fx r fs w (by simpa using hw)) ⟨.bl _, H, I, rfl, ?_⟩
    rw [show its.toArray.any (eqU x) = its.any (eqU x) by simp, any_eqU r fs]
    exact q
theorem op_notIn_seq : OpR X (compareOp .NotIn) (rIn X.K true) := by
  intro pins s σ H x y v u Q I rx ry h
  obtain ⟨p, xs, rfl, hq, fx, fs, q⟩ := h
  cases ry
  rcases hq with hq | hq
  · obtain ⟨its, r, pl, hz⟩ := I.list hq
    refine SeqAt.notIn_listAt (eqU x) pl.isList (fun w hw => mem_eqAt rx fx r fs w (by simpa using hw)) ⟨.bl _, H, I, rfl, ?_⟩
    rw [show its.toArray.any (eqU x) = its.any (eqU x) by simp, any_eqU r fs]
    exact q
  · obtain ⟨its, r, pl, hz⟩ := I.tuple hq
    refine SeqAt.notIn_tupleAt (eqU x) pl (fun w hw => mem_eqAt rx fx r fs w (by simpa using hw)) ⟨.bl _, H, I, rfl, ?_⟩
    rw [show its.toArray.any (eqU x) = its.any (eqU x) by simp, any_eqU r fs]
    exact q
theorem call_len_seq : CallR X (.builtin "len") (fun xs H Q => ∃ p ys, xs = [.ref p] ∧ (SqL X.K H p ys ∨ SqT X.K H p ys) ∧ Q (.int ys.length) H) := by
  intro pins s σ H xs us Q I r h
  obtain ⟨p, ys, rfl, hq, q⟩ := h
  obtain ⟨u, rfl, rx⟩ := vals1 r
  cases rx
  have hn := line63
  rcases hq with hq | hq
  · obtain ⟨its, r', pl, hz⟩ := I.list hq
    have hlen := r'.length
    exact Calls.call_len_list pl.isList (by simp only [List.size_toArray] <;> omega) ⟨.int ys.length, H, I.tok _, ⟨s.toks + 1, by rw [List.size_toArray, hlen]⟩, q⟩
  · obtain ⟨its, r', pl, hz⟩ := I.tuple hq
    have hlen := r'.length
    exact len_tuple pl (by simp only [List.size_toArray] <;> omega) ⟨.int ys.length, H, I.tok _, ⟨s.toks + 1, by rw [List.size_toArray, hlen]⟩, q⟩
theorem call_len_str : CallR X (.builtin "len") (fun xs H Q => ∃ z, xs = [.str z] ∧ z.length ≤ sizeLine ∧ Q (.int z.length) H) := by
  intro pins s σ H xs us Q I r h
  obtain ⟨z, rfl, hz, q⟩ := h
  obtain ⟨u, rfl, t, rfl⟩ := vals1 r
  have hn := line63
  exact len_str (by omega) ⟨.int z.length, H, I.tok _, ⟨_, rfl⟩, q⟩
theorem CallR.or {f : Value} {r r' : List V → Hp → VK → Prop} (h : CallR X f r) (h' : CallR X f r') : CallR X f (fun xs H Q => r xs H Q ∨ r' xs H Q) := by
  intro pins s σ H xs us Q I rs q
  rcases q with q | q
  · exact h pins s σ H xs us Q I rs q
  · exact h' pins s σ H xs us Q I rs q
theorem call_list_of : CallR X (.type "list") (fun xs H Q => ∃ p ys, xs = [.ref p] ∧ (SqL X.K H p ys ∨ SqT X.K H p ys) ∧ ∀ l, H l = none → Q (.ref l) (upd H l (.lst ys))) := by
  intro pins s σ H xs us Q I r h
  obtain ⟨p, ys, rfl, hq, q⟩ := h
  obtain ⟨u, rfl, rx⟩ := vals1 r
  cases rx
  have fin : ∀ (its : List Value), Vals ys its → ys.length ≤ sizeLine → ∀ (h' : Heap) (c' : Nat), (∀ b o', s.heap.get? b = some o' → h'.get? b = some o') →
      h'.get? s.heap.objs.size = some { cls := .type "list", dict := none, data := .seq its.toArray c', slots := #[] } → EP X pins σ Q (.ref s.heap.objs.size) { s with heap := h' } := fun its r' hz h' c' kp e =>
    ⟨.ref s.heap.objs.size, _, I.laid (t' := s.toks) kp (Nat.le_refl _) (show ObjOk X.prog X.w _ h' _ (.lst ys) from ⟨hz, its, c', r', e⟩), rfl, q _ (I.hok.fresh (Nat.le_refl _))⟩
  rcases hq with hq | hq
  · obtain ⟨its, r', pl, hz⟩ := I.list hq
    have hlen := r'.length
    obtain ⟨o, ho, hc, n, hd⟩ := pl.isList
    exact call_list_seq p (.inl rfl) ho hc hd (fun h' c' kp e => fin its r' hz h' c' kp e) (by simp only [List.size_toArray] <;> omega)
  · obtain ⟨its, r', pl, hz⟩ := I.tuple hq
    have hlen := r'.length
    obtain ⟨o, ho, hc, n, hd⟩ := pl
    exact call_list_seq p (.inr rfl) ho hc hd (fun h' c' kp e => fin its r' hz h' c' kp e) (by simp only [List.size_toArray] <;> omega)
theorem call_tuple_of : CallR X (.type "tuple") (fun xs H Q => ∃ p ys, xs = [.ref p] ∧ ((SqL X.K H p ys ∧ ∀ l, H l = none → Q (.ref l) (upd H l (.tup ys))) ∨ (SqT X.K H p ys ∧ Q (.ref p) H))) := by
  intro pins s σ H xs us Q I r h
  obtain ⟨p, ys, rfl, h⟩ := h
  obtain ⟨u, rfl, rx⟩ := vals1 r
  cases rx
  rcases h with ⟨hq, q⟩ | ⟨hq, q⟩
  · obtain ⟨its, r', pl, hz⟩ := I.list hq
    have hlen := r'.length
    refine call_tuple_list pl.isList (fun h' kp => ?_) (by simp only [List.size_toArray] <;> omega)
    have I1 : Inv X pins σ H { s with heap := h' } := I.kept (t' := s.toks) kp
    have I2 : Inv X pins σ (upd H h'.objs.size (.tup ys)) { s with heap := h'.push { cls := .type "tuple", data := .seq its.toArray } } :=
      I1.laid (t' := s.toks) (fun b o e => Heap.get?_push_of_some _ e) (Nat.le_refl _) (show ObjOk X.prog X.w _ _ _ (.tup ys) from ⟨hz, its, r', IsTup.new _ _⟩)
    exact ⟨.ref h'.objs.size, _, I2, rfl, q _ (I1.hok.fresh (Nat.le_refl _))⟩
  · obtain ⟨its, r', pl, hz⟩ := I.tuple hq
    exact call_tuple_same pl ⟨.ref p, H, I, rfl, q⟩
def tyV (K : PySem.W.Frag) (T : String) (x : V) (H : Hp) : Prop := match x with
  | .str _ => T = "str"
  | .int _ => T = "int"
  | .ref p => (T = "list" ∧ ∃ xs, SqL K H p xs) ∨ (T = "tuple" ∧ ∃ o, K.lookup p = some o ∧ o.cls = .type "tuple" ∧ o.dict = none) ∨
      (T = "dict" ∧ ((∃ kvs, H p = some (.dK kvs)) ∨ ∃ kvs, H p = some (.dT kvs))) ∨ (T = "set" ∧ ∃ S n, H p = some (.set S n))
  | _ => False
theorem tyV_is {pins : List (Addr × Obj)} {σ : St} {H : Hp} {s : Shared} {T : String} {x : V} {v : Value} (I : Inv X pins σ H s) (r : RelV x v) (ty : tyV X.K T x H) :
    s.TypeIs v T ∧ ∀ a, v = .ref a → ∃ ob, s.heap.get? a = some ob ∧ ob.dict = none := by
  cases x with
  | str z =>
    obtain ⟨t, rfl⟩ := r
    cases (show T = "str" from ty)
    exact ⟨typeIs_str s z t, fun _ e => nomatch e⟩
  | int i =>
    obtain ⟨t, rfl⟩ := r
    cases (show T = "int" from ty)
    exact ⟨typeIs_int s i t, fun _ e => nomatch e⟩
  | ref p =>
    cases r
    rcases ty with ⟨rfl, xs, hq⟩ | ⟨rfl, o, hk, hc, hd⟩ | ⟨rfl, hk⟩ | ⟨rfl, S, n, hk⟩
    · obtain ⟨its, _, pl, _⟩ := I.list hq
      refine ⟨pl.isList.typeIs, fun a e => ?_⟩
      cases e
      obtain ⟨o, n, e, c, hd, _⟩ := pl
      exact ⟨o, e, hd⟩
    · refine ⟨⟨o, I.kIn p o hk, hc⟩, fun a e => ?_⟩
      cases e
      exact ⟨o, I.kIn _ o hk, hd⟩
    · have z : ∃ o, s.heap.get? p = some o ∧ o.ExactDict := by
        rcases hk with ⟨kvs, hk⟩ | ⟨kvs, hk⟩
        · obtain ⟨_, _, _, _, o, _, _, e, ex, _⟩ := I.hok p _ hk
          exact ⟨o, e, ex⟩
        · obtain ⟨_, _, _, _, o, _, _, e, ex, _⟩ := I.hok p _ hk
          exact ⟨o, e, ex⟩
      obtain ⟨o, e, ex⟩ := z
      refine ⟨⟨o, e, ex.1⟩, fun a e2 => ?_⟩
      cases e2
      exact ⟨o, e, ex.2.1⟩
    · obtain ⟨o, _, _, _, e, ex, _⟩ := I.hok p _ hk
      refine ⟨⟨o, e, ex.1⟩, fun a e2 => ?_⟩
      cases e2
      exact ⟨o, e, ex.2.1⟩
  | _ => exact False.elim ty
def tBM0 (K : PySem.W.Frag) (T : String) (r : V → List V → Hp → VK → Prop) (to : TE) : TE := fun σ H Q => to σ H fun x H1 => tyV K T x H1 ∧ r x [] H1 Q
def tBM (K : PySem.W.Frag) (T : String) (r : V → List V → Hp → VK → Prop) (to : TE) (t : TA) : TE := fun σ H Q => to σ H fun x H1 => tyV K T x H1 ∧ t σ H1 fun xs H2 => r x xs H2 Q
variable {o e : Expr} {es : List Expr} {to : TE} {t : TA} {name : Str} {apos cpos : Pos} {T id : String} {r : V → List V → Hp → VK → Prop}
theorem pe_bm (pa : PlainAttrs T) (slot : Slot T name id) (hty : typeOf (.builtin id) = pure (.type "method_descriptor")) (hm : MtR X id r) (ho : PE X o to) (ha : PA X (e :: es) t)
    (hbase : attributeBase o name X.env (eval o X.env) = eval o X.env := by rfl)
    (hfew : ((backTo cpos (starEach (e :: es) X.env)).all (fun x => !x.1) && (backToKw cpos (keywordEach [] X.env)).all (fun x => x.1.isSome)
      && decide ((e :: es).length + ([] : List Keyword).length + (if ([] : List Keyword).isEmpty then 0 else 1) < 30)) = true := by rfl)
    (hline : (apos.endLine == cpos.line) = true := by rfl) (hs : starEach (e :: es) X.env = (false, eval e X.env) :: starEach es X.env := by rfl) (hplain : (backTo cpos (starEach es X.env)).any (·.1) = false := by rfl) :
    PE X (.Call (.Attribute o name apos) (e :: es) [] cpos) (tBM X.K T r to t) := by
  intro pins s σ H Q I h
  refine wpAny_Call_method_late hbase hfew hline rfl (thn (ho pins s σ H _ I h) fun v s1 ⟨x, H1, I1, r1, ty, q1⟩ => ?_)
  obtain ⟨h1, h2⟩ := tyV_is I1 r1 ty
  refine ⟨T, id, pa, slot, hty, h1, h2, ?_⟩
  have hA := ha cpos pins s1 σ H1 _ I1 q1
  rw [hs] at hA ⊢
  refine Calls.callWith_builtin (by show (false || (backTo cpos (starEach es X.env)).any (·.1)) = false; rw [hplain] <;> rfl) (Calls.evalArgs_plain ?_)
  exact thn hA fun us s2 ⟨vs, H2, I2, r2, q2⟩ => hm pins s2 σ H2 x vs v us Q I2 r1 r2 q2
end
end L2
namespace L2
open PySem PySem.Spec PyProof.Rows
def MtM (X : Cx) (id : String) (r : V → List V → Hp → VK → Prop) : Prop :=
  ∀ (pins : List (Addr × Obj)) (s : Shared) (σ : St) (H : Hp) (x : V) (xs : List V) (v : Value) (us : List Value) (Q : VK), Inv X pins σ H s → RelV x v → Vals xs us → r x xs H Q →
    wpAny (model X.prog X.w) X.A (call (.builtin id) (v :: us)) (EP X pins σ Q) X.xe s
theorem Vals.one : ∀ {x : V} {us : List Value}, Vals [x] us → ∃ u, us = [u] ∧ RelV x u
  | _, _, .cons r .nil => ⟨_, rfl, r⟩
theorem Vals.two : ∀ {x y : V} {us : List Value}, Vals [x, y] us → ∃ u v, us = [u, v] ∧ RelV x u ∧ RelV y v
  | _, _, _, .cons r (.cons q .nil) => ⟨_, _, rfl, r, q⟩
theorem Vals.zero : ∀ {us : List Value}, Vals [] us → us = []
  | _, .nil => rfl
theorem Vals.dropLast {xs : List V} {us : List Value} (h : Vals xs us) : Vals xs.dropLast us.dropLast := by
  induction h with
  | nil => exact .nil
  | cons r t ih =>
    cases t with
    | nil => exact .nil
    | cons q t' => exact .cons r ih
theorem Vals.eraseIdx : ∀ {xs : List V} {us : List Value} (i : Nat), Vals xs us → Vals (xs.eraseIdx i) (us.eraseIdx i)
  | _, _, _, .nil => .nil
  | _, _, 0, .cons _ t => t
  | _, _, i + 1, .cons r t => .cons r (Vals.eraseIdx i t)
theorem Vals.reverse {xs : List V} {us : List Value} (h : Vals xs us) : Vals xs.reverse us.reverse := by
  induction h with
  | nil => exact .nil
  | cons r t ih => rw [List.reverse_cons, List.reverse_cons]; exact Vals.append ih (.cons r .nil)
theorem Vals.rep {xs : List V} {us : List Value} (h : Vals xs us) : ∀ k : Nat, Vals (List.replicate k xs).flatten (List.replicate k us).flatten
  | 0 => .nil
  | k + 1 => by
    rw [List.replicate_succ, List.replicate_succ, List.flatten_cons, List.flatten_cons]
    exact Vals.append h (Vals.rep h k)
section
variable {X : Cx} {pins : List (Addr × Obj)} {σ : St} {H : Hp} {s : Shared} {l b : Addr} {xs ys zs : List V}
theorem Inv.lset {its its' : List Value} {n : Nat} {f : Array Value → Array Value} {t' : Nat} (I : Inv X pins σ H s) (hH : H l = some (.lst xs))
    (e : s.heap.get? l = some { cls := .type "list", data := .seq its.toArray n }) (hf : f its.toArray = its'.toArray) (hv : Vals ys its') (hz : ys.length ≤ sizeLine) :
    Inv X pins σ (upd H l (.lst ys)) { s with heap := s.heap.update l (Obj.mapSeq f), toks := t' } := by
  have q := PySem.IsL.update e f
  rw [hf] at q
  refine I.write (x := l) (e := l) (by rw [hH]; exact trivial) (.inl rfl) (fun b' u hb hu => (Heap.get?_update_other s.heap (Obj.mapSeq f) (Ne.symm hb)).trans hu) ⟨_, q⟩ ?_
  exact ⟨hz, its', _, hv, q⟩
theorem Inv.lnew {its : List Value} {t' : Nat} (I : Inv X pins σ H s) (hv : Vals ys its) (hz : ys.length ≤ sizeLine) :
    Inv X pins σ (upd H s.heap.objs.size (.lst ys)) { s with heap := s.heap.push { cls := .type "list", data := .seq its.toArray }, toks := t' } :=
  I.laid (fun _ _ q => Heap.get?_push_of_some _ q) (Nat.le_refl _) ⟨hz, its, 0, hv, Heap.get?_push_size _ rfl⟩
theorem Inv.fresh (I : Inv X pins σ H s) : H s.heap.objs.size = none := I.hok.fresh (Nat.le_refl _)
theorem Inv.lstM (I : Inv X pins σ H s) (hH : H l = some (.lst xs)) : xs.length ≤ sizeLine ∧ ∃ (its : List Value) (n : Nat), Vals xs its ∧ xs.length = its.length ∧ s.heap.get? l = some { cls := .type "list", data := .seq its.toArray n } := by
  obtain ⟨z, its, n, r, e⟩ := I.hok l _ hH
  exact ⟨z, its, n, r, r.length, e⟩
end
section
variable {X : Cx}
def rAppend : V → List V → Hp → VK → Prop := fun x vs H Q => ∃ l xs y, x = .ref l ∧ vs = [y] ∧ H l = some (.lst xs) ∧ xs.length < sizeLine ∧ Q .non (upd H l (.lst (xs ++ [y])))
theorem mt_append : MtM X "list.append" rAppend := by
  intro pins s σ H x vs v us Q I rx rv h
  obtain ⟨l, xs, y, rfl, rfl, hH, hz, q⟩ := h
  cases rx
  obtain ⟨u, rfl, ru⟩ := rv.one
  obtain ⟨z, its, n, r, hl, e⟩ := I.lstM hH
  refine call_meets F.slot_list_append ⟨_, e, rfl⟩ F.entry_list_append (F.args_list_append_2 _ _) (PySem.list_append l its.toArray n u (by rw [List.size_toArray]; omega)) ⟨e, ?_⟩
  refine ⟨.non, _, I.lset (its' := its ++ [u]) hH e (by simp) (r.append (.cons ru .nil)) ?_, rfl, q⟩
  rw [List.length_append, List.length_singleton]
  omega
def rExtend : V → List V → Hp → VK → Prop := fun x vs H Q => ∃ l b xs zs, x = .ref l ∧ vs = [.ref b] ∧ H l = some (.lst xs) ∧ H b = some (.lst zs) ∧ xs.length + zs.length ≤ sizeLine ∧ Q .non (upd H l (.lst (xs ++ zs)))
def rPop : V → List V → Hp → VK → Prop := fun x vs H Q => ∃ l xs y, x = .ref l ∧ vs = [] ∧ H l = some (.lst xs) ∧ xs[xs.length - 1]? = some y ∧ Q y (upd H l (.lst xs.dropLast))
def rPopAt : V → List V → Hp → VK → Prop := fun x vs H Q => ∃ l xs i k y, x = .ref l ∧ vs = [.int i] ∧ H l = some (.lst xs) ∧ -(2 ^ 63) ≤ i ∧ i < 2 ^ 63 ∧ seqIndex? i xs.length = some k ∧ xs[k]? = some y ∧ Q y (upd H l (.lst (xs.eraseIdx k)))
def rReverse : V → List V → Hp → VK → Prop := fun x vs H Q => ∃ l xs, x = .ref l ∧ vs = [] ∧ H l = some (.lst xs) ∧ Q .non (upd H l (.lst xs.reverse))
def rClear : V → List V → Hp → VK → Prop := fun x vs H Q => ∃ l xs, x = .ref l ∧ vs = [] ∧ H l = some (.lst xs) ∧ Q .non (upd H l (.lst []))
def rCat : R2 := fun x y H Q => ∃ l b xs zs, x = .ref l ∧ y = .ref b ∧ H l = some (.lst xs) ∧ H b = some (.lst zs) ∧ xs.length + zs.length ≤ sizeLine ∧ ∀ p, H p = none → Q (.ref p) (upd H p (.lst (xs ++ zs)))
def rRep : R2 := fun x y H Q => ∃ l k xs, x = .ref l ∧ y = .int k ∧ H l = some (.lst xs) ∧ -(2 ^ 63) ≤ k ∧ k < 2 ^ 63 ∧ xs.length * k.toNat ≤ sizeLine ∧
  ∀ p, H p = none → Q (.ref p) (upd H p (.lst (List.replicate k.toNat xs).flatten))
end
section
variable {prog : Program} {w : World} {A : Around} {E : Value → Shared → Prop} {s : Shared}
set_option maxRecDepth 100000 in
end
section
variable {X : Cx}
end
end L2
namespace Att
open PySem PySem.W PySem.Calls PyProof.Rows
theorem ints_of_wellAll {P : Params} {h : Heap} : ∀ (ns : List Int) (vs : List Value), WellAll P h vs (ns.map WData.int) → IntsAre vs ns := by
  intro ns
  induction ns with
  | nil =>
    intro vs w
    rw [List.map_nil] at w
    cases w
    exact .nil
  | cons n ns ih =>
    intro vs w
    rw [List.map_cons] at w
    cases w with
    | cons a b =>
      cases a
      exact .cons _ _ (ih _ b)
theorem script_of {l : OpenLaw} {n : Nat} (hn : l.most = some n) {P : Params} {h : Heap} {args : List WData} {vals : List Value}
    (hpre : l.row.toRowW.claim.pre args = true) (hwl : WellAll P h vals args) :
    ∃ a vs ns, vals = [Value.ref a] ∧ args = [WData.list (ns.map WData.int)] ∧ h.get? a = some { cls := .type "list", data := .seq vs.toArray } ∧ IntsAre vs ns ∧ ns.length ≤ n := by
  have hsh : WShape.hasAll [] args [.list .int] = true := (pre_splitW hpre).1
  have hc : l.pre.holds [] { args := args } = true := (pre_splitW hpre).2
  obtain ⟨d, r, rfl, h1, h2⟩ := hasAllW_cons hsh
  obtain rfl := hasAllW_nil h2
  obtain ⟨xs, rfl, h3⟩ := hasW_list h1
  obtain ⟨ns, rfl⟩ := items_int h3
  have hlen : ns.length ≤ n := by
    unfold OpenLaw.pre at hc
    have h4 : (WTm.not (.lt (.lit (.int (n : Int))) (.len (.arg 0)))).holds [] { args := [.list (ns.map .int)] } = true := by
      have h4 := (holds_andW hc).1
      rw [hn] at h4
      exact h4
    have h5 := condW_of h4 (w_not (w_lt w_lit (w_len_list (w_arg rfl))))
    rw [List.length_map] at h5
    refine Nat.le_of_not_lt fun q => ?_
    have q' : (n : Int) < ((ns.length : Nat) : Int) := by omega
    first
      | (rw [decide_eq_true q'] at h5; exact absurd h5 (by decide))
      | (simp at h5; omega)
  cases hwl with
  | cons w1 w2 =>
    cases w2
    cases w1 with
    | list ho hall => exact ⟨_, _, ns, rfl, rfl, ho, ints_of_wellAll ns _ hall, hlen⟩
theorem post_true (l : OpenLaw) (args : List WData) : l.row.toRowW.claim.post args (.bool true) args = true :=
  postW_of (r := l.row.toRowW) (X := (true == true))
    (show WShape.has [] (.bool true) .bool = true by first | rfl | decide | simp [WShape.has, WShape.arms, WShape.armsAll])
    (show (WTm.eq .res (.lit (.bool true))).value [] { args := args, res := some (.bool true), after := args } = some (.bool (true == true)) from w_eq_bool (w_res rfl) w_lit) rfl
theorem attach_call {l : OpenLaw} {n : Nat} {q : Program} {loose : List Str} {XP : (Str → Option Value) → Heap → Prop} {YP : World → Heap → Prop} {d : DefRec}
    (hn : l.most = some n) (hdf : d.params.defaults = [])
    (call : ∀ (w : World) (s₀ s₁ : Shared) (mg mb : Str → Option Value) (fa : Addr) (o : Obj) (pm cd doc : Value) (a : Addr) (vs : List Value) (ns : List Int),
      Ground q loose [] XP w s₀ mg mb s₁.heap → YP w s₁.heap →
      s₁.heap.get? fa = some o → o.data = .func (docDef d.name d.params d.body d.scope pm cd doc) → s₁.heap.CodeRec cd d.name → mg d.name = some (.ref fa) →
      s₁.heap.get? a = some { cls := .type "list", data := .seq vs.toArray } → IntsAre vs ns → ns.length ≤ n → s₁.gens = #[] →
      codeAny (model l.prog w) callerA (.call (.ref fa) ⟨[.ref a], []⟩) (fun r s' => r = .ok (.ret (.bool true)) ∧ OldK s₁.heap s'.heap ∧ s'.os = s₁.os ∧ AllBare s'.gens) s₁) :
    WalkO q loose XP YP l.row.toRowW d [] (fun f vs => PySem.call f vs) := by
  intro w s₀ s₁ mg mb G Y fa o pm cd doc dV kV ho hd hcd hD hmg hg args vals as hpre hlay hrd hwl hlo
  obtain rfl : dV = .none := Dflts.none hD hdf
  obtain rfl : kV = .none := Dflts.noKw hD
  obtain ⟨a, vs, ns, rfl, rfl, hobj, hints, hlen⟩ := script_of hn hpre hwl
  refine enter_call (codeAny_mono (call w s₀ s₁ mg mb fa o pm cd doc a vs ns G Y ho (fd_plain hd) hcd hmg hobj hints hlen hg) fun r s' hq => ?_)
  obtain ⟨rfl, h2, h3, h4⟩ := hq
  exact ⟨.inl ⟨.bool true, .bool true, [], rfl, fun _ => rfl, .bool true, post_true l _, fun _ => ⟨List.Pairwise.nil, fun _ hm => (nomatch hm)⟩⟩, h2, h3, h4⟩
section
variable {prog : Program} {w : World} {A : Around} {E : Value → Shared → Prop} {s : Shared} {K : Frag}
def noObjs (h : Heap) : Heap := { h with objs := #[] }
def ledger (h : Heap) (L d : Addr) : List (Addr × Obj) := (List.range h.objs.size).filterMap fun a => if a = L ∨ a = d then none else (h.get? a).map fun o => (a, o)
end
end Att
namespace L2
open PySem PySem.Spec PyProof.Rows
theorem vals_ints : ∀ {vs : List Value} {ns : List Int}, IntsAre vs ns → Vals (ns.map V.int) vs
  | _, _, .nil => .nil
  | _, _, .cons n t h => .cons ⟨t, rfl⟩ (vals_ints h)
def Only (H : Hp) : Prop := ∀ b, H b = none ∨ ∃ o xs, H b = some (.frz o (.lst xs))
theorem law_call {P : Program} {w : World} {K : PySem.W.Frag} {mg mb : Str → Option Value} {CX : CXT} {k : Nat} {fa a : Addr} {fd : FuncData} {x : Str} {sp : Sp} {s₁ : Shared} {vs : List Value} {ns : List Int}
    (KX : K.In s₁.heap) (hns : s₁.heap.Ns mainGlobals mg) (hb : s₁.heap.Ns builtinsNs mb) (hbb : ∀ x : Str, x ≠ "__name__" → mb x = bootBuiltins x) (hlim : s₁.heap.NoLimit) (hg : s₁.gens = #[])
    (ha : s₁.heap.get? a = some { cls := .type "list", data := .seq vs.toArray }) (hi : IntsAre vs ns) (hl : ns.length ≤ sizeLine) (hr : Room k callerA)
    (F : ∀ base : Heap, K.In base → base.Ns mainGlobals mg → FnOk P w K mg base CX k fa fd [x] sp) (hbind : ∀ (s : Shared) (u : Value), BindsTo s fd ⟨[u], []⟩ [(x, u)])
    (hsp : ∀ H : Hp, Only H → SqL K H a (ns.map V.int) → sp [.ref a] H (fun v _ => v = .bl true) fun _ _ _ => False)
    (hCX : ∀ H e s', CX [] H s₁ (fun _ _ _ => False) e s' → False) :
    codeAny (model P w) callerA (.call (.ref fa) ⟨[.ref a], []⟩) (fun r s' => r = .ok (.ret (.bool true)) ∧ OldK s₁.heap s'.heap ∧ s'.os = s₁.os ∧ AllBare s'.gens) s₁ := by
  have rv := vals_ints hi
  have lenV := hi.length
  have core : ∀ H : Hp, Only H → SqL K H a (ns.map V.int) → HOk P w H s₁.heap → (∀ b, H b ≠ none → b = a) → (H a ≠ none → K.lookup a = none) →
      codeAny (model P w) callerA (.call (.ref fa) ⟨[.ref a], []⟩) (fun r s' => r = .ok (.ret (.bool true)) ∧ OldK s₁.heap s'.heap ∧ s'.os = s₁.os ∧ AllBare s'.gens) s₁ := by
    intro H hO hS hok hA hK
    have base_of : ∀ {b : Addr} {o : Obj}, s₁.heap.get? b = some o → H b = none → (hidT s₁.heap H).get? b = some o := fun e n => hidT_get e n
    have noA : ∀ {b : Addr} {o : Obj} {es : Array DictEntry} {ep : Nat}, s₁.heap.get? b = some o → o.data = .dict es ep → H b = none := fun {b o es ep} e d => by
      cases q : H b with
      | none => rfl
      | some u =>
        have e' : b = a := hA b (by rw [q]; simp)
        subst e'
        rw [ha] at e; cases e
        have d' : Data.seq vs.toArray _ = Data.dict es ep := d
        cases d'
    have nsK : ∀ {b : Addr} {m : Str → Option Value}, s₁.heap.Ns b m → (hidT s₁.heap H).Ns b m := fun {b m} ⟨o, es, ep, e, d, r⟩ => ⟨o, es, ep, base_of e (noA e d), d, r⟩
    have hKb : K.In (hidT s₁.heap H) := fun b o e => base_of (KX b o e) (by
      cases q : H b with
      | none => rfl
      | some u =>
        have e' : b = a := hA b (by rw [q]; simp)
        subst e'
        rw [hK (by rw [q]; simp)] at e; cases e)
    have hM : Mod K mg (hidT s₁.heap H) := ⟨hKb, nsK hns, ⟨mb, nsK hb, hbb⟩, let ⟨mc, h1, h2⟩ := hlim; ⟨mc, nsK h1, h2⟩⟩
    have e0 : Env0 P w K mg (hidT s₁.heap H) callerA [] s₁ H := ⟨rfl, hM, fun b o e => of_hidT e, Nat.le_of_eq (hidT_size _ _), trivial, fun b hb => absurd (show b ∈ ([] : List Addr) from hb) (by simp), hok, .of_eq hg⟩
    refine codeAny_mono ((F _ hKb (nsK hns)).run callerA [] s₁ H ⟨[.ref a], []⟩ [.ref a] [.ref a] _ _ hr e0 (hbind s₁ (.ref a)) (.cons rfl .nil) (hsp H hO hS)) fun r s' h => ?_
    cases r with
    | error e => exact (hCX H e s' h).elim
    | ok fl =>
      cases fl with
      | next => exact False.elim h
      | brk => exact False.elim h
      | cont => exact False.elim h
      | ret u =>
        obtain ⟨v, H', os, bare, un, hok', r', q⟩ := h
        have q' : v = .bl true := q
        subst q'
        obtain rfl : u = Value.bool true := r'
        refine ⟨rfl, OldK.of_keep fun b o e => ?_, os, bare⟩
        cases q : H b with
        | none => exact un.keep b o e q (by intro z; exact absurd (show b ∈ ([] : List Addr) from z) (by simp)) (by simp)
        | some u =>
          rcases hO b with z | ⟨ob, xs, z⟩
          · rw [q] at z; cases z
          · have z2 := un.frzs b ob _ z
            obtain ⟨e1, _⟩ := hok b _ z
            obtain ⟨e2, _⟩ := hok' b _ z2
            rw [e] at e1; cases e1
            exact e2
  cases hk : K.lookup a with
  | some o =>
    have e := KX a o hk
    rw [ha] at e
    cases e
    refine core (fun _ => none) (fun _ => .inl rfl) (.inr ⟨_, vs.toArray, _, hk, rfl, rfl, rfl, by rw [List.size_toArray, lenV]; exact hl, by simpa using rv⟩) (fun b u z => by have z' : (none : Option HO) = some u := z; cases z') (fun b z => absurd rfl z) fun z => absurd rfl z
  | none =>
    refine core (fun b => if b = a then some (.frz { cls := .type "list", data := .seq vs.toArray } (.lst (ns.map V.int))) else none) (fun b => ?_) (.inl (.inr ⟨{ cls := .type "list", data := .seq vs.toArray }, if_pos rfl⟩)) (fun b u z => ?_) (fun b z => ?_) fun _ => hk
    · by_cases hb : b = a
      · exact .inr ⟨_, _, if_pos hb⟩
      · exact .inl (if_neg hb)
    · by_cases hb : b = a
      · have z' := (if_pos hb).symm.trans z
        cases z'
        subst hb
        exact ⟨ha, by rw [List.length_map]; exact hl, vs, _, rv, ha⟩
      · have z' := (if_neg hb).symm.trans z
        cases z'
    · by_cases hb : b = a
      · exact hb
      · exact absurd (if_neg hb) z
end L2
namespace L2
open PySem PySem.Spec PyProof.Rows
abbrev KOf {K : PySem.W.Frag} {h : Heap} (_ : K.In h) : PySem.W.Frag := K
theorem walk_of {l : PySem.W.OpenLaw} {n k : Nat} {q : Program} {loose : List Str} {XP : (Str → Option Value) → Heap → Prop} {YP : World → Heap → Prop} {d : DefRec} {K : Params → PySem.W.Frag} {CX : World → CXT} {sp : World → Sp} {x : Str}
    (hn : l.most = some n) (hn2 : n ≤ sizeLine) (hdf : d.params.defaults = []) (hr : Room k callerA)
    (hY : ∀ (w : World) (h : Heap), YP w h → (K w.params).In h)
    (F : ∀ (w : World) (mg : Str → Option Value) (fa : Addr) (h : Heap), (K w.params).In h → h.Ns mainGlobals mg → mg d.name = some (.ref fa) →
      ∃ fd : FuncData, (∀ (s : Shared) (u : Value), BindsTo s fd ⟨[u], []⟩ [(x, u)]) ∧
        ∀ base : Heap, (K w.params).In base → base.Ns mainGlobals mg → FnOk l.prog w (K w.params) mg base (CX w) k fa fd [x] (sp w))
    (hsp : ∀ (w : World) (H : Hp) (a : Addr) (ns : List Int), ns.length ≤ n → Only H → SqL (K w.params) H a (ns.map V.int) → sp w [.ref a] H (fun v _ => v = .bl true) fun _ _ _ => False)
    (hCX : ∀ (w : World) (H : Hp) (s : Shared) (e : Value) (s' : Shared), CX w [] H s (fun _ _ _ => False) e s' → False) :
    PySem.W.WalkO q loose XP YP l.row.toRowW d [] (fun f vs => PySem.call f vs) := by
  refine Att.attach_call hn hdf fun w s₀ s₁ mg mb fa o pm cd doc a vs ns G Y ho hd hcd hmg hobj hints hlen hg => ?_
  have KX := hY w _ Y
  obtain ⟨fd, hb, hF⟩ := F w mg fa _ KX G.T.g hmg
  exact law_call KX G.T.g G.T.b G.T.builtins G.T.nolimit hg hobj hints (Nat.le_trans hlen hn2) hr hF hb (fun H hO hS => hsp w H a ns hlen hO hS) fun H e s' => hCX w H s₁ e s'
end L2
namespace L2
open PySem PySem.Spec PyProof.Rows
def inClass (s : Stmt) (j : Nat) : Stmt := match s with
  | .ClassDef _ _ _ body _ _ _ _ _ _ _ => body.getD j (.Pass ⟨0, 0, 0, 0⟩)
  | _ => .Pass ⟨0, 0, 0, 0⟩
def defArgs (s : Stmt) : Arguments := match s with
  | .FunctionDef _ a _ _ _ _ _ _ _ _ => a
  | _ => { posonlyargs := [], args := [], vararg := none, kwonlyargs := [], kw_defaults := [], kwarg := none, defaults := [] }
def defBody (s : Stmt) : List Stmt := match s with
  | .FunctionDef _ _ b _ _ _ _ _ _ _ => b
  | _ => []
def defScope (s : Stmt) : Scope := match s with
  | .FunctionDef _ _ _ _ _ _ sc _ _ _ => sc
  | _ => { kind := .function, names := [], isGenerator := false, isCoroutine := false }
abbrev CX0 : CXT := fun _ _ _ _ _ _ => False
abbrev E0 : XK := fun _ _ _ => False
theorem pass0 {X : Cx} : Passes CX0 X E0 := fun _ _ _ _ _ _ _ h => h.elim
structure Fun (K : PySem.W.Frag) (x qual : Str) (st : Stmt) (f : Addr) (fd : FuncData) : Prop where
  ex : ∃ (oc : Value) (od : Option Addr) (kV doc pm : Value) (an : Option Addr) (cdv ct : Value) (osl : Array (Option Value)),
    fd = PySem.W.fnOf x qual (defArgs st) (defBody st) (defScope st) .none kV doc pm an cdv ct ∧ K.lookup f = some ⟨oc, od, .func fd, osl⟩ ∧ PySem.W.codeIn K cdv qual = true
  kp : PySem.W.keepIn K (.ref f) = true
section
variable {P : Program} {w : World} {K : PySem.W.Frag} {mg : Str → Option Value} {base : Heap}
theorem Fun.ok {x qual : Str} {st : Stmt} {f : Addr} {fd : FuncData} {N ps : List Str} {k : Nat} {sp : Sp} (F : Fun K x qual st f fd) (S : FnScope N ps (defScope st)) (len : ∀ vs H Q E, sp vs H Q E → vs.length = ps.length)
    (hbody : ∀ (cdv : Value) (A : Around) (outer : List Env) (s : Shared) (H : Hp) (vs : List V) (Q : VK) (E : XK), Room k (A.deeper (envOfC qual (defScope st) s.heap.objs.size f cdv)) → sp vs H Q E →
      ∃ t, PSs (cxOf CX0 P w K mg base N qual (defScope st) f cdv A outer s H E).nox (defBody st) t ∧ t { nx := fun _ H' => Q .non H', rt := Q } (start N vs) H) : FnOk P w K mg base CX0 (k + 1) f fd ps sp := by
  obtain ⟨oc, od, kV, doc, pm, an, cdv, ct, osl, rfl, lk, hcd⟩ := F.ex
  refine fn_of lk hcd S len fun A outer s H vs Q E hr hsp => ?_
  obtain ⟨t, h, q⟩ := hbody cdv A outer s H vs Q E hr hsp
  exact ⟨t, h.nox, q⟩
theorem Fun.binds {x qual : Str} {st : Stmt} {f : Addr} {fd : FuncData} {ps : List Str} (F : Fun K x qual st f fd)
    (h : ∀ (kV doc pm : Value) (an : Option Addr) (cdv ct : Value) (us : List Value), us.length = ps.length → bindArgs (PySem.W.fnOf x qual (defArgs st) (defBody st) (defScope st) .none kV doc pm an cdv ct) ⟨us, []⟩ = pure (ps.zip us)) : Binds K fd ps [] := by
  obtain ⟨oc, od, kV, doc, pm, an, cdv, ct, osl, rfl, lk, hcd⟩ := F.ex
  exact .all (h kV doc pm an cdv ct)
theorem fun_mk {x qual : Str} {st : Stmt} {f : Addr} {oc : Value} {od an : Option Addr} {osl : Array (Option Value)} {kV doc pm cdv ct : Value} (l : K.lookup f = some ⟨oc, od, .func (PySem.W.fnOf x qual (defArgs st) (defBody st) (defScope st) .none kV doc pm an cdv ct), osl⟩)
    (c : PySem.W.codeIn K cdv qual = true) (k : PySem.W.keepIn K (.ref f) = true) : Fun K x qual st f (PySem.W.fnOf x qual (defArgs st) (defBody st) (defScope st) .none kV doc pm an cdv ct) := ⟨⟨oc, od, kV, doc, pm, an, cdv, ct, osl, rfl, l, c⟩, k⟩
end
section
variable {X : Cx}
theorem pv (i : Nat) {x : Str} {pos : Pos} (hN : X.N[i]? = some x := by rfl) (hv : Vis X.env.scope x := by first | exact Or.inl rfl | exact Or.inr (Or.inl rfl) | exact Or.inr (Or.inr rfl)) (hd : (x == ("__debug__" : Str)) = false := by decide)
    (hcd : (x == ("__classdict__" : Str)) = false := by decide) : PE X (.Name x pos) (tVar i) := pe_var hN hv hd hcd
end
theorem iteF {A B : Prop} (h : B) : if false = true then A else B := by
  rw [if_neg Bool.false_ne_true]
  exact h
theorem iteT {A B : Prop} (h : A) : if true = true then A else B := by
  rw [if_pos rfl]
  exact h
def Same (H H' : Hp) : Prop := ∀ b o, H b = some o → H' b = some o
theorem Same.refl (H : Hp) : Same H H := fun _ _ h => h
theorem Same.trans {H H1 H2 : Hp} (a : Same H H1) (b : Same H1 H2) : Same H H2 := fun c o h => b c o (a c o h)
theorem Same.free {H H' : Hp} (e : Same H H') {l : Addr} (h : H' l = Option.none) : H l = Option.none := by
  cases q : H l with
  | none => rfl
  | some o =>
    rw [e l o q] at h
    cases h
theorem Same.seq {K : PySem.W.Frag} {H H' : Hp} {a : Addr} {xs : List V} (e : Same H H') (h : SqL K H a xs) : SqL K H' a xs := by
  rcases h with (h | ⟨o, h⟩) | h
  · exact .inl (.inl (e _ _ h))
  · exact .inl (.inr ⟨o, e _ _ h⟩)
  · exact .inr h
end L2
namespace L2
open PySem PySem.Spec PyProof.Rows
section
variable {κ : Type} [DecidableEq κ]
def valV (kvs : List (κ × V)) (k : κ) : Option V := (kvs.find? fun kv => decide (kv.1 = k)).map (·.2)
def putK (kvs : List (κ × V)) (k : κ) (v : V) : List (κ × V) :=
  if (kvs.any fun kv => decide (kv.1 = k)) = true then kvs.map (fun kv => if kv.1 = k then (kv.1, v) else kv) else kvs ++ [(k, v)]
def a7m (kvs : List (κ × V)) (k : κ) : List (κ × V) := kvs.filter fun kv => decide (kv.1 ≠ k)
theorem a33 {p : κ × V} {r : List (κ × V)} {k : κ} (e : p.1 = k) : valV (p :: r) k = some p.2 := by simp [valV, List.find?_cons, e]
theorem a34 {p : κ × V} {r : List (κ × V)} {k : κ} (e : ¬ p.1 = k) : valV (p :: r) k = valV r k := by simp [valV, List.find?_cons, e]
theorem a5M (k : κ) : ∀ kvs : List (κ × V), (kvs.any fun kv => decide (kv.1 = k)) = (valV kvs k).isSome
  | [] => rfl
  | p :: r => by
    rw [List.any_cons]
    by_cases e : p.1 = k
    · simp only [a33 e, decide_eq_true e, Bool.true_or, Option.isSome_some]
    · rw [a34 e, decide_eq_false e, Bool.false_or]; exact a5M k r
theorem RelO.isSome_eq {o : Option V} {u : Option Value} (r : RelO o u) : o.isSome = u.isSome := by
  cases o with
  | none => cases u with
    | none => rfl
    | some _ => exact (show False from r).elim
  | some _ => cases u with
    | none => exact (show False from r).elim
    | some _ => rfl
theorem RelO.getD {o : Option V} {u : Option Value} {d : V} {d' : Value} (r : RelO o u) (rd : RelV d d') : RelV (o.getD d) (u.getD d') := by
  cases o with
  | none => cases u with
    | none => exact rd
    | some _ => exact (show False from r).elim
  | some _ => cases u with
    | none => exact (show False from r).elim
    | some _ => exact r
theorem KV.val {kvs : List (κ × V)} {vs : List (κ × Value)} (r : KV kvs vs) (k : κ) : RelO (valV kvs k) (valueAt vs k) := by
  unfold KV at r
  induction r with
  | nil => exact True.intro
  | @cons p q ps qs h t ih =>
    obtain ⟨h1, h2⟩ := h
    by_cases e : p.1 = k
    · have e' : q.1 = k := h1.symm.trans e
      have b : valueAt (q :: qs) k = some q.2 := by simp [valueAt, List.find?_cons, e']
      rw [a33 e, b]; exact h2
    · have e' : ¬ q.1 = k := fun z => e (h1.trans z)
      have b : valueAt (q :: qs) k = valueAt qs k := by simp [valueAt, List.find?_cons, e']
      rw [a34 e, b]; exact ih
theorem KV.any {kvs : List (κ × V)} {vs : List (κ × Value)} (r : KV kvs vs) (k : κ) : (kvs.any fun kv => decide (kv.1 = k)) = vs.any fun kv => decide (kv.1 = k) := by
  unfold KV at r
  induction r with
  | nil => rfl
  | cons h t ih => rw [List.any_cons, List.any_cons, ih, h.1]
theorem KV.repl {kvs : List (κ × V)} {vs : List (κ × Value)} (r : KV kvs vs) (k : κ) {y : V} {u : Value} (ry : RelV y u) :
    KV (kvs.map fun kv => if kv.1 = k then (kv.1, y) else kv) (vs.map fun kv => if kv.1 = k then (kv.1, u) else kv) := by
  unfold KV at r ⊢
  induction r with
  | nil => exact .nil
  | @cons p q ps qs h t ih =>
    rw [List.map_cons, List.map_cons]
    refine .cons ?_ ih
    obtain ⟨h1, h2⟩ := h
    by_cases e : p.1 = k
    · rw [if_pos e, if_pos (h1.symm.trans e)]; exact ⟨h1, ry⟩
    · rw [if_neg e, if_neg (fun z => e (h1.trans z))]; exact ⟨h1, h2⟩
theorem KV.put {kvs : List (κ × V)} {vs : List (κ × Value)} (r : KV kvs vs) (k : κ) {y : V} {u : Value} (ry : RelV y u) : KV (putK kvs k y) (stored vs k u) := by
  unfold putK stored
  rw [r.any k]
  by_cases e : (vs.any fun kv => decide (kv.1 = k)) = true
  · rw [if_pos e, if_pos e]; exact r.repl k ry
  · rw [if_neg e, if_neg e]; exact Paired.snoc r ⟨rfl, ry⟩
theorem KV.drop {kvs : List (κ × V)} {vs : List (κ × Value)} (r : KV kvs vs) (k : κ) : KV (a7m kvs k) (without vs k) := by
  unfold KV at r ⊢
  unfold a7m without
  induction r with
  | nil => exact .nil
  | @cons p q ps qs h t ih =>
    obtain ⟨h1, h2⟩ := h
    rw [List.filter_cons, List.filter_cons]
    by_cases e : p.1 = k
    · have a : ¬ decide (p.1 ≠ k) = true := by simp [e]
      have b : ¬ decide (q.1 ≠ k) = true := by simp [h1.symm.trans e]
      rw [if_neg a, if_neg b]; exact ih
    · have e' : ¬ q.1 = k := fun z => e (h1.trans z)
      have a : decide (p.1 ≠ k) = true := by simp [e]
      have b : decide (q.1 ≠ k) = true := by simp [e']
      rw [if_pos a, if_pos b]; exact .cons ⟨h1, h2⟩ ih
theorem KV.keys {kvs : List (κ × V)} {vs : List (κ × Value)} (r : KV kvs vs) : kvs.map (·.1) = vs.map (·.1) := by
  unfold KV at r
  induction r with
  | nil => rfl
  | cons h t ih => rw [List.map_cons, List.map_cons, ih, h.1]
theorem KV.length {kvs : List (κ × V)} {vs : List (κ × Value)} (r : KV kvs vs) : kvs.length = vs.length := Paired.length r
end
abbrev KT (H : Hp) : List (List Key × V) → List (List Key × Addr × Value) → Prop := Paired fun p q => p.1 = q.1 ∧ H q.2.1 = some (.tup (p.1.map kV)) ∧ RelV p.2 q.2.2
theorem KT.val {H : Hp} {kvs : List (List Key × V)} {xs : List (List Key × Addr × Value)} (r : KT H kvs xs) (k : List Key) : RelO (valV kvs k) ((atKey xs k).map (·.2)) := by
  induction r with
  | nil => exact True.intro
  | @cons p q ps qs h t ih =>
    obtain ⟨h1, _, h2⟩ := h
    by_cases e : p.1 = k
    · have e' : q.1 = k := h1.symm.trans e
      have b : atKey (q :: qs) k = some q.2 := by simp [atKey, List.find?_cons, e']
      rw [a33 e, b]; exact h2
    · have e' : ¬ q.1 = k := fun z => e (h1.trans z)
      have b : atKey (q :: qs) k = atKey qs k := by simp [atKey, List.find?_cons, e']
      rw [a34 e, b]; exact ih
theorem KT.repl {H : Hp} {kvs : List (List Key × V)} {xs : List (List Key × Addr × Value)} (r : KT H kvs xs) (k : List Key) {y : V} {u : Value} (ry : RelV y u) :
    KT H (kvs.map fun kv => if kv.1 = k then (kv.1, y) else kv) (xs.map (putAt k u)) := by
  induction r with
  | nil => exact .nil
  | @cons p q ps qs h t ih =>
    rw [List.map_cons, List.map_cons]
    refine .cons ?_ ih
    obtain ⟨h1, h2, h3⟩ := h
    unfold putAt
    by_cases e : p.1 = k
    · rw [if_pos e, if_pos (h1.symm.trans e)]; exact ⟨h1, h2, ry⟩
    · rw [if_neg e, if_neg (fun z => e (h1.trans z))]; exact ⟨h1, h2, h3⟩
theorem KT.put {H : Hp} {kvs : List (List Key × V)} {xs : List (List Key × Addr × Value)} (r : KT H kvs xs) (k : List Key) {b : Addr} {y : V} {u : Value} (hb : H b = some (.tup (k.map kV))) (ry : RelV y u) :
    KT H (putK kvs k y) (storedH xs k b u) := by
  have e : (kvs.any fun kv => decide (kv.1 = k)) = (atKey xs k).isSome := by
    rw [a5M, (r.val k).isSome_eq, Option.isSome_map]
  unfold putK storedH
  rw [e]
  by_cases q : (atKey xs k).isSome = true
  · rw [if_pos q, if_pos q]; exact r.repl k ry
  · rw [if_neg q, if_neg q]; exact Paired.snoc r ⟨rfl, hb, ry⟩
theorem KT.keeps {H H' : Hp} {kvs : List (List Key × V)} {xs : List (List Key × Addr × Value)} (r : KT H kvs xs) (ht : ∀ b ys, H b = some (.tup ys) → H' b = some (.tup ys)) : KT H' kvs xs :=
  Paired.mapP r fun _ _ z => ⟨z.1, ht _ _ z.2.1, z.2.2⟩
section
variable {P : Program} {w : World} {H : Hp} {h : Heap} {a : Addr}
end
def DGet (H : Hp) (a : Addr) (y : V) (r : Option V) : Prop :=
  (∃ kvs k, Rd H a (.dK kvs) ∧ y = kV k ∧ r = valV kvs k) ∨ ∃ kvs k b, Rd H a (.dT kvs) ∧ y = .ref b ∧ H b = some (.tup (k.map kV)) ∧ r = valV kvs k
def DPut (H : Hp) (a : Addr) (y v : V) (H' : Hp) : Prop :=
  (∃ kvs k, H a = some (.dK kvs) ∧ y = kV k ∧ kvs.length < sizeLine ∧ H' = upd H a (.dK (putK kvs k v))) ∨
  ∃ kvs k b, H a = some (.dT kvs) ∧ y = .ref b ∧ H b = some (.tup (k.map kV)) ∧ kvs.length < sizeLine ∧ H' = upd H a (.dT (putK kvs k v))
theorem DGet.k {H : Hp} {a : Addr} {kvs : List (Key × V)} {k : Key} (e : H a = some (.dK kvs)) : DGet H a (kV k) (valV kvs k) := .inl ⟨kvs, k, .inl e, rfl, rfl⟩
theorem DGet.t {H : Hp} {a b : Addr} {kvs : List (List Key × V)} {k : List Key} (e : H a = some (.dT kvs)) (eb : H b = some (.tup (k.map kV))) : DGet H a (.ref b) (valV kvs k) := .inr ⟨kvs, k, b, .inl e, rfl, eb, rfl⟩
theorem DPut.k {H : Hp} {a : Addr} {kvs : List (Key × V)} {k : Key} {v : V} (e : H a = some (.dK kvs)) (hl : kvs.length < sizeLine) : DPut H a (kV k) v (upd H a (.dK (putK kvs k v))) := .inl ⟨kvs, k, e, rfl, hl, rfl⟩
theorem DPut.t {H : Hp} {a b : Addr} {kvs : List (List Key × V)} {k : List Key} {v : V} (e : H a = some (.dT kvs)) (eb : H b = some (.tup (k.map kV))) (hl : kvs.length < sizeLine) :
    DPut H a (.ref b) v (upd H a (.dT (putK kvs k v))) := .inr ⟨kvs, k, b, e, rfl, eb, hl, rfl⟩
section
variable {X : Cx} {pins : List (Addr × Obj)} {σ : St} {H : Hp} {s : Shared} {a : Addr} {y v : V} {u r : Value} {o : Option V} {A : Around} {E : Value → Shared → Prop}
theorem Inv.big (I : Inv X pins σ H s) : sysModules < s.heap.objs.size := by
  have h : mainGlobals < s.heap.objs.size := (I.mod.glob.keeps I.bk).lt
  exact Nat.lt_trans (by decide) h
end
section
variable {X : Cx} {pins : List (Addr × Obj)} {σ : St} {H : Hp} {s : Shared} {a : Addr} {kvs : List (Key × V)} {k : Key} {u : Value} {A : Around} {E : Value → Shared → Prop}
end
def NoSl (i : Expr) : Prop := ∀ ov iv, subscripted i false ov iv = operate [ov, iv] (getItem ov iv)
def tDGet (td ty : TE) : TE := fun σ H Q => td σ H fun x H1 => ty σ H1 fun y H2 => ∃ a v, x = .ref a ∧ DGet H2 a y (some v) ∧ Q v H2
def tDIn (ty td : TE) : TE := fun σ H Q => ty σ H fun y H1 => td σ H1 fun x H2 => ∃ a o, x = .ref a ∧ DGet H2 a y o ∧ Q (.bl o.isSome) H2
def tDNotIn (ty td : TE) : TE := fun σ H Q => ty σ H fun y H1 => td σ H1 fun x H2 => ∃ a o, x = .ref a ∧ DGet H2 a y o ∧ Q (.bl (!o.isSome)) H2
def sDPut (td ty tv : TE) : TS := fun D σ H => tv σ H fun v H1 => td σ H1 fun x H2 => ty σ H2 fun y H3 => ∃ a H4, x = .ref a ∧ DPut H3 a y v H4 ∧ D.nx σ H4
def sDAug (td ty tv : TE) (rd : V → V → Hp → VK → Prop) : TS := fun D σ H => td σ H fun x H1 => ty σ H1 fun y H2 => ∃ a v, x = .ref a ∧ DGet H2 a y (some v) ∧
  tv σ H2 fun y2 H3 => rd v y2 H3 fun z H4 => ∃ H5, DPut H4 a y z H5 ∧ D.nx σ H5
def sDDel (td ty : TE) : TS := fun D σ H => td σ H fun x H1 => ty σ H1 fun y H2 => ∃ a kvs k, x = .ref a ∧ H2 a = some (.dK kvs) ∧ y = kV k ∧ (valV kvs k).isSome = true ∧ D.nx σ (upd H2 a (.dK (a7m kvs k)))
section
variable {X : Cx} {o i e value : Expr} {pos pos' tpos : Pos} {td ty tv : TE}
end
def tDNewK : TE := fun _ H Q => ∀ p, H p = none → Q (.ref p) (upd H p (.dK []))
def tDNewT : TE := fun _ H Q => ∀ p, H p = none → Q (.ref p) (upd H p (.dT []))
section
variable {X : Cx} {pos : Pos}
end
def a6O : List (TE × TE) → St → Hp → (List (V × V) → Hp → Prop) → Prop
  | [], _, H, Q => Q [] H
  | (tk, tv) :: r, σ, H, Q => tk σ H fun x H1 => tv σ H1 fun y H2 => a6O r σ H2 fun ps H3 => Q ((x, y) :: ps) H3
abbrev VV : List (V × V) → List (Value × Value) → Prop := Paired fun p q => RelV p.1 q.1 ∧ RelV p.2 q.2
def PPs (X : Cx) (pos : Pos) (keys : List (Option Expr)) (values : List Expr) (trs : List (TE × TE)) : Prop :=
  ∀ (pins : List (Addr × Obj)) (s : Shared) (σ : St) (H : Hp) (Q : List (V × V) → Hp → Prop), Inv X pins σ H s → a6O trs σ H Q →
    wpAny (model X.prog X.w) X.A (evalPairs (pairTrees keys values X.env pos)) (fun vs s' => ∃ ps H', Inv X pins σ H' s' ∧ VV ps vs ∧ Q ps H') X.xe s
def mergeK (kvs more : List (Key × V)) : List (Key × V) := more.foldl (fun acc kv => putK acc kv.1 kv.2) kvs
def tDisp (trs : List (TE × TE)) : TE := fun σ H Q => ∀ p, H p = none → a6O trs σ (upd H p (.dK [])) fun ps H2 => H2 p = some (.dK []) ∧ ∃ kvs : List (Key × V), ps = kvs.map (fun kv => (kV kv.1, kv.2)) ∧ kvs.length ≤ 15 ∧ Q (.ref p) (upd H2 p (.dK (mergeK [] kvs)))
structure M1 (X : Cx) (o : Expr) (m : Str) (apos : Pos) (e : Expr) (cpos : Pos) : Prop where
  base : attributeBase o m X.env (eval o X.env) = eval o X.env
  few : ((backTo cpos (starEach [e] X.env)).all (fun x => !x.1) && (backToKw cpos (keywordEach [] X.env)).all (fun x => x.1.isSome)
    && decide (([e] : List Expr).length + ([] : List Keyword).length + (if ([] : List Keyword).isEmpty then 0 else 1) < 30)) = true
  line : (apos.endLine == cpos.line) = true
  trees : backTo cpos (starEach [e] X.env) = [(false, eval e X.env)]
structure M2 (X : Cx) (o : Expr) (m : Str) (apos : Pos) (e f : Expr) (cpos : Pos) : Prop where
  base : attributeBase o m X.env (eval o X.env) = eval o X.env
  few : ((backTo cpos (starEach [e, f] X.env)).all (fun x => !x.1) && (backToKw cpos (keywordEach [] X.env)).all (fun x => x.1.isSome)
    && decide (([e, f] : List Expr).length + ([] : List Keyword).length + (if ([] : List Keyword).isEmpty then 0 else 1) < 30)) = true
  line : (apos.endLine == cpos.line) = true
  trees : backTo cpos (starEach [e, f] X.env) = [(false, eval e X.env), (false, eval f X.env)]
def IsD (H : Hp) (a : Addr) : Prop := (∃ kvs, Rd H a (.dK kvs)) ∨ ∃ kvs, Rd H a (.dT kvs)
section
variable {X : Cx} {pins : List (Addr × Obj)} {σ : St} {H : Hp} {s : Shared} {a : Addr} {y d : V} {u r : Value} {o : Option V} {A : Around} {E : Value → Shared → Prop}
end
def tDGet1 (td ty : TE) : TE := fun σ H Q => td σ H fun x H1 => ∃ a, x = .ref a ∧ IsD H1 a ∧ ty σ H1 fun y H2 => ∃ o, DGet H2 a y o ∧ Q (o.getD .non) H2
def tDGet2 (td ty tx : TE) : TE := fun σ H Q => td σ H fun x H1 => ∃ a, x = .ref a ∧ IsD H1 a ∧ ty σ H1 fun y H2 => tx σ H2 fun z H3 => ∃ o, DGet H3 a y o ∧ Q (o.getD z) H3
def tDPop1 (td ty : TE) : TE := fun σ H Q => td σ H fun x H1 => ∃ a, x = .ref a ∧ IsD H1 a ∧ ty σ H1 fun y H2 => ∃ kvs k v, H2 a = some (.dK kvs) ∧ y = kV k ∧ valV kvs k = some v ∧ Q v (upd H2 a (.dK (a7m kvs k)))
def tDPop2 (td ty tx : TE) : TE := fun σ H Q => td σ H fun x H1 => ∃ a, x = .ref a ∧ IsD H1 a ∧ ty σ H1 fun y H2 => tx σ H2 fun z H3 => ∃ kvs k, H3 a = some (.dK kvs) ∧ y = kV k ∧
  (∀ v, valV kvs k = some v → Q v (upd H3 a (.dK (a7m kvs k)))) ∧ (valV kvs k = none → Q z H3)
section
variable {X : Cx} {o e f : Expr} {apos cpos : Pos} {td ty tx : TE}
end
end L2
namespace L3
open PySem
inductive D where
  | non | bl (b : Bool) | int (i : Int) | str (x : Str) | tup (ds : List D) | lst (ds : List D) | obj (c : String) (ns : List Str) (ds : List D) | fn (k : Nat) (ds : List D)
inductive O where
  | lst (ds : List D) | obj (c : String) (ns : List Str) (ds : List D) | dic (kvs : List (List Int × Int))
def O.val : O → D
  | .lst ds => .lst ds
  | .obj c ns ds => .obj c ns ds
  | .dic _ => .non
inductive S where
  | sh (d : D) | own (o : O)
def S.val : S → D
  | .sh d => d
  | .own o => o.val
def S.nd : S → Bool
  | .own (.dic _) => false
  | _ => true
inductive R where
  | ok (s : S) | exc (x : D)
abbrev MEnv := List (Option S)
inductive Out where
  | next (ρ : MEnv) | brk (ρ : MEnv) | cont (ρ : MEnv) | ret (s : S) | exc (x : D)
abbrev ME := MEnv → Option R
abbrev MC := MEnv → Option Out
inductive RI where
  | ok (ds : List D) | exc (x : D)
abbrev MI := MEnv → Option RI
abbrev MB := D → MEnv → Option MEnv
@[reducible] def okD (d : D) : Option R := some (.ok (.sh d))
@[reducible] def okI (i : Int) : Option R := okD (.int i)
@[reducible] def okB (b : Bool) : Option R := okD (.bl b)
@[reducible] def okL (ds : List D) : Option R := some (.ok (.own (.lst ds)))
def a0N (r : Option R) (k : D → Option R) : Option R := match r with
  | some (.ok s) => k s.val
  | some (.exc x) => some (.exc x)
  | none => none
def a2D (r : Option R) (k : S → Option Out) : Option Out := match r with
  | some (.ok s) => k s
  | some (.exc x) => some (.exc x)
  | none => none
@[simp] theorem bindV_ok (s : S) (k : D → Option R) : a0N (some (.ok s)) k = k s.val := rfl
@[simp] theorem bindV_exc (x : D) (k : D → Option R) : a0N (some (.exc x)) k = some (.exc x) := rfl
@[simp] theorem bindV_none (k : D → Option R) : a0N none k = none := rfl
@[simp] theorem bindO_ok (s : S) (k : S → Option Out) : a2D (some (.ok s)) k = k s := rfl
@[simp] theorem bindO_exc (x : D) (k : S → Option Out) : a2D (some (.exc x)) k = some (.exc x) := rfl
@[simp] theorem bindO_none (k : S → Option Out) : a2D none k = none := rfl
@[simp] theorem S.val_sh (d : D) : (S.sh d).val = d := rfl
@[simp] theorem S.val_own (o : O) : (S.own o).val = o.val := rfl
@[simp] theorem O.val_lst (ds : List D) : (O.lst ds).val = .lst ds := rfl
@[simp] theorem O.val_obj (c : String) (ns : List Str) (ds : List D) : (O.obj c ns ds).val = .obj c ns ds := rfl
def eVar (i : Nat) : ME := fun ρ => match ρ[i]? with
  | some (some (.sh d)) => okD d
  | _ => none
def eAny (i : Nat) : ME := fun ρ => match ρ[i]? with
  | some (some (.own (.dic _))) => none
  | some (some s) => okD s.val
  | _ => none
def eC (d : D) : ME := fun _ => okD d
def eUn (f : D → Option R) (a : ME) : ME := fun ρ => a0N (a ρ) f
def eBin (f : D → D → Option R) (a b : ME) : ME := fun ρ => a0N (a ρ) fun x => a0N (b ρ) fun y => f x y
def a1W : List ME → MEnv → (List D → Option R) → Option R
  | [], _, k => k []
  | e :: es, ρ, k => a0N (e ρ) fun d => a1W es ρ fun ds => k (d :: ds)
def a0h (f : List D → Option R) (as : List ME) : ME := fun ρ => a1W as ρ f
def flat : D → Bool
  | .non => true | .bl _ => true | .int _ => true | .str _ => true | _ => false
def a3x : Option R → Option R
  | some (.ok s) => if flat s.val then okD s.val else none
  | _ => none
def a0i (f : List D → Option R) (as : List ME) : ME := fun ρ => a3x (a1W as ρ f)
def lim : Nat := 1000000
def eTup (as : List ME) : ME := a0h (fun ds => if ds.length ≤ lim then okD (.tup ds) else none) as
def eLst (as : List ME) : ME := a0h (fun ds => if ds.length ≤ lim then okL ds else none) as
def asB : D → (Bool → Option R) → Option R
  | .bl b, k => k b
  | _, _ => none
def eAnd (a b : ME) : ME := fun ρ => a0N (a ρ) fun x => asB x fun c => if c = true then b ρ else okB false
def eOr (a b : ME) : ME := fun ρ => a0N (a ρ) fun x => asB x fun c => if c = true then okB true else b ρ
def dNot (x : D) : Option R := asB x fun c => okB (!c)
def eNot (a : ME) : ME := eUn dNot a
def eIf (c a b : ME) : ME := fun ρ => a0N (c ρ) fun x => asB x fun t => if t = true then a ρ else b ρ
def sSeq (a b : MC) : MC := fun ρ => match a ρ with
  | some (.next ρ') => b ρ'
  | o => o
def a0L : MC := fun ρ => some (.next ρ)
def sBrk : MC := fun ρ => some (.brk ρ)
def sCont : MC := fun ρ => some (.cont ρ)
def sSet (i : Nat) (e : ME) : MC := fun ρ => a2D (e ρ) fun s => some (.next (ρ.set i (some s)))
def sExpr (e : ME) : MC := fun ρ => a2D (e ρ) fun _ => some (.next ρ)
def sRet (e : ME) : MC := fun ρ => a2D (e ρ) fun s => some (.ret s)
def asBO : D → (Bool → Option Out) → Option Out
  | .bl b, k => k b
  | _, _ => none
def sIf (c : ME) (a b : MC) : MC := fun ρ => a2D (c ρ) fun s => asBO s.val fun t => if t = true then a ρ else b ρ
def dem (i : Nat) (ρ : MEnv) : MEnv := match ρ[i]? with
  | some (some (.own (.dic _))) => ρ
  | some (some (.own o)) => ρ.set i (some (.sh o.val))
  | _ => ρ
def sDem (i : Nat) (c : MC) : MC := fun ρ => c (dem i ρ)
def ownL (i : Nat) (ρ : MEnv) (k : List D → Option Out) : Option Out := match ρ[i]? with
  | some (some (.own (.lst ds))) => k ds
  | _ => none
def a2K (i : Nat) (e : ME) : MC := fun ρ => ownL i ρ fun ds => a2D (e ρ) fun s => if ds.length < lim then some (.next (ρ.set i (some (.own (.lst (ds ++ [s.val])))))) else none
def a4n : D → Option (List D)
  | .lst ds => some ds
  | .tup ds => some ds
  | _ => none
def sExtend (i : Nat) (e : ME) : MC := fun ρ => ownL i ρ fun ds => a2D (e ρ) fun s => match a4n s.val with
  | some es => if ds.length + es.length ≤ lim then some (.next (ρ.set i (some (.own (.lst (ds ++ es)))))) else none
  | none => none
def ixD (n : Nat) (i : Int) : Option Nat := if 0 ≤ i then (if i < n then some i.toNat else none) else if -(n : Int) ≤ i then some (i + n).toNat else none
def a1C (i : Nat) (k e : ME) : MC := fun ρ => a2D (e ρ) fun s => ownL i ρ fun ds => a2D (k ρ) fun z => match z.val with
  | .int j => (match ixD ds.length j with
    | some n => some (.next (ρ.set i (some (.own (.lst (ds.set n s.val))))))
    | none => none)
  | _ => none
def a0Z (j : Nat) : MB := fun d ρ => some (ρ.set j (some (.sh d)))
def a5R : List Nat → List D → MEnv → MEnv
  | j :: js, d :: ds, ρ => a5R js ds (ρ.set j (some (.sh d)))
  | _, _, ρ => ρ
def bTup (js : List Nat) : MB := fun d ρ => match d with
  | .tup ds => if ds.length = js.length then some (a5R js ds ρ) else none
  | _ => none
def forD (bd : MB) (body : MC) : List D → MEnv → Option Out
  | [], ρ => some (.next ρ)
  | d :: ds, ρ => match bd d ρ with
    | none => none
    | some ρ1 => match body ρ1 with
      | some (.next ρ2) => forD bd body ds ρ2
      | some (.cont ρ2) => forD bd body ds ρ2
      | some (.brk ρ2) => some (.next ρ2)
      | o => o
def sFor (it : MI) (bd : MB) (body : MC) : MC := fun ρ => match it ρ with
  | some (.ok ds) => forD bd body ds ρ
  | some (.exc x) => some (.exc x)
  | none => none
def iSeq (e : ME) : MI := fun ρ => match e ρ with
  | some (.ok s) => (a4n s.val).map .ok
  | some (.exc x) => some (.exc x)
  | none => none
def rng (lo hi : Int) : List D := (List.range (hi - lo).toNat).map fun (k : Nat) => D.int (lo + k)
def a2T (i : Int) : Bool := decide (-(2 ^ 62) ≤ i) && decide (i < 2 ^ 62)
def iArg (e : ME) (ρ : MEnv) (k : D → Option RI) : Option RI := match e ρ with
  | some (.ok s) => k s.val
  | some (.exc x) => some (.exc x)
  | none => none
def a0E (e : ME) : MI := fun ρ => iArg e ρ fun x => match x with
  | .int hi => if a2T hi = true then some (.ok (rng 0 hi)) else none
  | _ => none
def iRange2 (a b : ME) : MI := fun ρ => iArg a ρ fun x => iArg b ρ fun y => match x, y with
  | .int lo, .int hi => if a2T lo = true ∧ a2T hi = true then some (.ok (rng lo hi)) else none
  | _, _ => none
def zipD : D → D → Option RI
  | .lst xs, .lst ys => some (.ok (List.zipWith (fun u v => D.tup [u, v]) xs ys))
  | .tup xs, .tup ys => some (.ok (List.zipWith (fun u v => D.tup [u, v]) xs ys))
  | _, _ => none
def iZip (a b : ME) : MI := fun ρ => iArg a ρ fun x => iArg b ρ fun y => zipD x y
def a2i (bd : MB) (cond elt : ME) (ρ : MEnv) : List D → List D → Option R
  | [], acc => if acc.length ≤ lim then okL acc else none
  | d :: ds, acc => match bd d ρ with
    | none => none
    | some ρ1 => a0N (cond ρ1) fun c => asB c fun t => if t = true then a0N (elt ρ1) fun x => a2i bd cond elt ρ ds (acc ++ [x]) else a2i bd cond elt ρ ds acc
def a0H (js : List Nat) (ρ : MEnv) : MEnv := js.foldl (fun ρ j => ρ.set j none) ρ
def a05 (js : List Nat) (it : MI) (bd : MB) (cond elt : ME) : ME := fun ρ => match it ρ with
  | some (.ok ds) => if ds.length ≤ lim then a2i bd cond elt (a0H js ρ) ds [] else none
  | some (.exc x) => some (.exc x)
  | none => none
def a6G (c : ME) (body : MC) : Nat → MEnv → Option Out
  | 0, _ => none
  | n + 1, ρ => a2D (c ρ) fun s => asBO s.val fun t => if t = true then (match body ρ with
      | some (.next ρ2) => a6G c body n ρ2
      | some (.cont ρ2) => a6G c body n ρ2
      | some (.brk ρ2) => some (.next ρ2)
      | o => o) else some (.next ρ)
def sWhile (fuel : MEnv → Nat) (c : ME) (body : MC) : MC := fun ρ => a6G c body (fuel ρ) ρ
def a1B (n : Nat) (ds : List D) : MEnv := ds.map (fun d => some (.sh d)) ++ List.replicate (n - ds.length) none
def outR : Option Out → Option R
  | some (.ret s) => some (.ok s)
  | some (.next _) => okD .non
  | some (.exc x) => some (.exc x)
  | _ => none
def fnD (np n : Nat) (g : MC) : List D → Option R := fun ds => if ds.length = np then outR (g (a1B n ds)) else none
def dAdd : D → D → Option R
  | .int i, .int j => okI (i + j)
  | .str x, .str y => if x.length + y.length ≤ lim then okD (.str (x ++ y)) else none
  | .tup xs, .tup ys => if xs.length + ys.length ≤ lim then okD (.tup (xs ++ ys)) else none
  | .lst xs, .lst ys => if xs.length + ys.length ≤ lim then okL (xs ++ ys) else none
  | _, _ => none
def dSub : D → D → Option R
  | .int i, .int j => okI (i - j)
  | _, _ => none
def a2E (i : Int) : Bool := decide (-(2 ^ 64) < i) && decide (i < 2 ^ 64)
def dMul : D → D → Option R
  | .int i, .int j => if (a2E i || a2E j) = true then okI (i * j) else none
  | _, _ => none
def dRep (ds : List D) : D → Option R
  | .int k => if -(2 ^ 60) ≤ k ∧ k < 2 ^ 60 ∧ ds.length * k.toNat ≤ lim then okL (List.replicate k.toNat ds).flatten else none
  | _ => none
def eRep (a b : ME) : ME := fun ρ => match a ρ with
  | some (.ok (.own (.lst ds))) => a0N (b ρ) (dRep ds)
  | some (.exc x) => some (.exc x)
  | _ => none
def dMod : D → D → Option R
  | .int i, .int j => if 0 < j then okI (i % j) else none
  | _, _ => none
def dFdiv : D → D → Option R
  | .int i, .int j => if 0 < j ∧ j < 1073741824 then okI (i / j) else none
  | _, _ => none
def dCmp (p : Int → Int → Bool) : D → D → Option R
  | .int i, .int j => okB (p i j)
  | _, _ => none
def dLt := dCmp fun i j => decide (i < j)
def dLe := dCmp fun i j => decide (i ≤ j)
def dGt := dCmp fun i j => decide (j < i)
def dGe := dCmp fun i j => decide (j ≤ i)
def eqF : D → D → Option Bool
  | .int i, .int j => some (decide (i = j))
  | .str x, .str y => some (decide (x = y))
  | .bl x, .bl y => some (decide (x = y))
  | .non, .non => some true
  | .non, .int _ => some false | .int _, .non => some false | .non, .str _ => some false | .str _, .non => some false | .non, .bl _ => some false | .bl _, .non => some false
  | .int _, .str _ => some false | .str _, .int _ => some false | .bl _, .str _ => some false | .str _, .bl _ => some false
  | _, _ => none
def dEq (x y : D) : Option R := match eqF x y with
  | some b => okB b
  | none => none
def dNe (x y : D) : Option R := match eqF x y with
  | some b => okB (!b)
  | none => none
def dIsN : D → Option R
  | .non => okB true
  | _ => okB false
def dNotN : D → Option R
  | .non => okB false
  | _ => okB true
def atD {α : Type} (xs : List α) (i : Int) : Option α := (ixD xs.length i).bind fun j => xs[j]?
def dIx : D → D → Option R
  | .tup ds, .int i => (atD ds i).bind okD
  | .lst ds, .int i => (atD ds i).bind okD
  | .str x, .int i => if x.length ≤ lim then (atD x.cps.toList i).bind fun c => okD (.str ⟨#[c]⟩) else none
  | _, _ => none
def dLen : D → Option R
  | .tup ds => okI ds.length
  | .lst ds => okI ds.length
  | .str x => if x.length ≤ lim then okI x.length else none
  | _ => none
def intsOf : List D → Option (List Int)
  | [] => some []
  | .int i :: r => (intsOf r).map (i :: ·)
  | _ :: _ => none
def blsOf : List D → Option (List Bool)
  | [] => some []
  | .bl i :: r => (blsOf r).map (i :: ·)
  | _ :: _ => none
def dSum : D → Option R
  | .lst ds => (intsOf ds).bind fun ns => okI ns.sum
  | _ => none
def dAll : D → Option R
  | .lst ds => (blsOf ds).bind fun bs => okB (bs.all id)
  | _ => none
def dAny : D → Option R
  | .lst ds => (blsOf ds).bind fun bs => okB (bs.any id)
  | _ => none
def a2o : D → Option R
  | .lst ds => okD (.tup ds)
  | .tup ds => okD (.tup ds)
  | _ => none
def dList : D → Option R
  | .lst ds => okL ds
  | .tup ds => okL ds
  | _ => none
def a2W : D → D → Option R
  | .int lo, .int hi => if a2T lo = true ∧ a2T hi = true ∧ (hi - lo).toNat ≤ lim then okL (rng lo hi) else none
  | _, _ => none
def kindD : D → String
  | .non => "NoneType" | .bl _ => "bool" | .int _ => "int" | .str _ => "str" | .tup _ => "tuple" | .lst _ => "list" | .obj c _ _ => c | .fn _ _ => "function"
def dIsT (T : String) : D → Option R
  | .obj _ _ _ => none
  | .fn _ _ => none
  | d => okB (kindD d == T || (kindD d == "bool" && T == "int"))
def f1 (F : D → Option R) : List D → Option R
  | [d] => F d
  | _ => none
def f2 (F : D → D → Option R) : List D → Option R
  | [d, e] => F d e
  | _ => none
def a1X : ME := eC (.bl true)
end L3
namespace L3
open PySem
def dShl : D → D → Option R
  | .int i, .int j => if 0 ≤ j ∧ j ≤ 1000000 ∧ i.natAbs < 2 ^ 64 then okI (i * 2 ^ j.toNat) else none
  | _, _ => none
def dShr : D → D → Option R
  | .int i, .int j => if 0 ≤ j then okI (i / 2 ^ j.toNat) else none
  | _, _ => none
def dBand : D → D → Option R
  | .int i, .int j => if 0 ≤ i ∧ 0 ≤ j then okI ((i.toNat &&& j.toNat : Nat) : Int) else none
  | _, _ => none
def dBor : D → D → Option R
  | .int i, .int j => if 0 ≤ i ∧ 0 ≤ j then okI ((i.toNat ||| j.toNat : Nat) : Int) else none
  | _, _ => none
def dPow : D → D → Option R
  | .int i, .int j => if 0 ≤ j ∧ j ≤ 1000000 ∧ i.natAbs < 2 ^ 64 then okI (i ^ j.toNat) else none
  | _, _ => none
def dNeg : D → Option R
  | .int i => okI (-i)
  | _ => none
def dAbs : D → Option R
  | .int i => okI (if i < 0 then -i else i)
  | _ => none
def dMax2 : D → D → Option R
  | .int i, .int j => okI (if j > i then j else i)
  | _, _ => none
def dMin2 : D → D → Option R
  | .int i, .int j => okI (if j < i then j else i)
  | _, _ => none
def dInt : D → Option R
  | .int i => okI i
  | .bl b => okI (if b then 1 else 0)
  | _ => none
def bitLen (i : Int) : Nat := if i == 0 then 0 else i.natAbs.log2 + 1
def dBitLen : D → Option R
  | .int i => okI (bitLen i : Int)
  | _ => none
def truD : D → Option Bool
  | .non => some false
  | .bl b => some b
  | .int i => some (i != 0)
  | .str y => if y.length ≤ lim then some ((y.length : Int) != 0) else none
  | .tup ds => some (!ds.isEmpty)
  | .lst ds => some (!ds.isEmpty)
  | _ => none
def dTru (d : D) : Option R := (truD d).bind fun b => okB b
def eTru (a : ME) : ME := eUn dTru a
def eChain (f g : D → D → Option R) (a b c : ME) : ME := fun ρ => a0N (a ρ) fun x => a0N (b ρ) fun y => a0N (f x y) fun z => asB z fun t => if t = true then a0N (c ρ) fun w => g y w else okB false
end L3
namespace L3
open PySem
def enumD : D → Option RI
  | .lst xs => some (.ok ((List.range xs.length).zipWith (fun (i : Nat) d => D.tup [.int i, d]) xs))
  | .tup xs => some (.ok ((List.range xs.length).zipWith (fun (i : Nat) d => D.tup [.int i, d]) xs))
  | _ => none
def a4o (a : ME) : MI := fun ρ => iArg a ρ enumD
def eqD : D → D → Bool
  | .non, .non => true
  | .bl a, .bl b => a == b
  | .bl a, .int b => (if a then 1 else 0) == b
  | .int a, .bl b => a == (if b then 1 else 0)
  | .int a, .int b => a == b
  | .str a, .str b => a == b
  | _, _ => false
def inD (x : D) (ds : List D) : Bool := ds.any fun y => eqD y x
def dIn (neg : Bool) (x y : D) : Option R := match a4n y with
  | some ds => if flat x = true ∧ ds.all flat = true then okB (if neg then !inD x ds else inD x ds) else none
  | none => none
def sIxD (n d : Nat) : Option Int → Nat
  | none => d
  | some v => if v < 0 then (v + (n : Int)).toNat else min v.toNat n
def cutD (ds : List D) (lo hi : Option Int) : List D := (ds.drop (sIxD ds.length 0 lo)).take (sIxD ds.length ds.length hi - sIxD ds.length 0 lo)
def a3Z (x : D) (lo hi : Option Int) : Option R := match x with
  | .tup ds => if sIxD ds.length 0 lo = 0 ∧ sIxD ds.length ds.length hi = ds.length then none else okD (.tup (cutD ds lo hi))
  | .lst ds => okL (cutD ds lo hi)
  | _ => none
def a64 (o : Option ME) (ρ : MEnv) (k : Option Int → Option R) : Option R := match o with
  | none => k none
  | some e => a0N (e ρ) fun d => match d with
    | .int i => k (some i)
    | _ => none
def a08 (e : ME) (lo hi : Option ME) : ME := fun ρ => a0N (e ρ) fun x => a64 lo ρ fun l => a64 hi ρ fun h => a3Z x l h
end L3
namespace L3
open PySem
def insD (k : Int) : List Int → List Int
  | [] => [k]
  | x :: r => if k < x then k :: x :: r else if k = x then x :: r else x :: insD k r
def sortD (ns : List Int) : List Int := ns.foldr insD []
def fewD (ns : List Int) : Bool := decide (ns.length ≤ 4) && ns.all fun n => decide (0 ≤ n) && decide (n < 32)
def dSortSet : D → Option R
  | .lst ds => (intsOf ds).bind fun ns => if fewD ns = true then okL ((sortD ns).map D.int) else none
  | _ => none
def fldD (f : Str) : List Str → List D → Option D
  | n :: ns, d :: ds => if f == n then some d else fldD f ns ds
  | _, _ => none
def dFld (cs : List String) (f : Str) : D → Option R
  | .obj c ns ds => if cs.contains c = true then (fldD f ns ds).bind okD else none
  | _ => none
def eMeth (m : Str) (tb : String → Option (List D → Option R)) (o : ME) (as : List ME) : ME := fun ρ => a0N (o ρ) fun x => match x with
  | .obj c ns ds => if ns.contains m = true then none else (match tb c with
    | some F => a1W as ρ fun vs => F (.obj c ns ds :: vs)
    | none => none)
  | _ => none
def dIsC (tb : String → Option Bool) : D → Option R
  | .obj c _ _ => (tb c).bind fun b => okB b
  | _ => none
abbrev a5c := O → List D → Option O
abbrev MG := MEnv → O → Option O
def eArgsV : List ME → MEnv → Option (List D)
  | [], _ => some []
  | e :: es, ρ => match e ρ with
    | some (.ok s) => (eArgsV es ρ).map (s.val :: ·)
    | _ => none
def putN (f : Str) : List Str → List Str
  | [] => [f]
  | n :: r => if n = f then n :: r else n :: putN f r
def putD (f : Str) (d : D) : List Str → List D → List D
  | [], _ => [d]
  | n :: ns, x :: ds => if n = f then d :: ds else x :: putD f d ns ds
  | _ :: _, [] => []
def iNext : MG := fun _ o => some o
def iSeq2 (g h : MG) : MG := fun ρ o => (g ρ o).bind (h ρ)
def iSetF (cs : List String) (f : Str) (e : ME) : MG := fun ρ o => match e ρ, o with
  | some (.ok s), .obj c ns ds => if cs.contains c = true ∧ ns.length = ds.length ∧ ns.length < 900 then some (.obj c (putN f ns) (putD f s.val ns ds)) else none
  | _, _ => none
def iBase (F : a5c) (as : List ME) : MG := fun ρ o => (eArgsV as ρ).bind (F o)
def fnI (np n : Nat) (g : MG) : a5c := fun o ds => if ds.length + 1 = np then g (none :: a1B (n - 1) ds) o else none
def eMake (c : String) (F : a5c) (as : List ME) : ME := fun ρ => a1W as ρ fun ds => match F (.obj c [] []) ds with
  | some o => some (.ok (.own o))
  | none => none
end L3
namespace L3
open PySem
def dMulS : D → D → Option R
  | .str x, .int n => if x.length = 1 ∧ (n = 1 ∨ n = 2) then okD (.str (if n = 1 then x else ⟨x.cps ++ x.cps⟩)) else none
  | _, _ => none
def dNeNil : D → D → Option R
  | .lst ds, .lst [] => okB (!ds.isEmpty)
  | _, _ => none
end L3
namespace L3
open PySem
def eqXs (f : D → D → Option Bool) : List D → List D → Option Bool
  | [], [] => some true
  | x :: xs, y :: ys => (f x y).bind fun b => (eqXs f xs ys).bind fun c => some (b && c)
  | _, _ => some false
def eqX : Nat → D → D → Option Bool
  | 0, _, _ => none
  | _ + 1, .int i, .int j => some (i == j)
  | _ + 1, .str x, .str y => some (x == y)
  | n + 1, .tup xs, .tup ys => eqXs (eqX n) xs ys
  | n + 1, .lst xs, .lst ys => if xs.length = ys.length then eqXs (eqX n) xs ys else some false
  | _ + 1, _, _ => none
def dEqX (n : Nat) (x y : D) : Option R := (eqX n x y).bind fun b => okB b
def dNeX (n : Nat) (x y : D) : Option R := (eqX n x y).bind fun b => okB (!b)
def inX (n : Nat) (x : D) : List D → Option Bool
  | [] => some false
  | y :: ys => (eqX n y x).bind fun b => (inX n x ys).bind fun c => some (b || c)
def dInX (neg : Bool) (n : Nat) (x : D) : D → Option R
  | .lst ds => (inX n x ds).bind fun b => okB (if neg then !b else b)
  | _ => none
end L3
namespace L3
def sClear (i : Nat) : MC := fun ρ => ownL i ρ fun _ => some (.next (ρ.set i (some (.own (.lst [])))))
def sRetV (i : Nat) : MC := fun ρ => match ρ[i]? with
  | some (some s) => if s.nd = true then some (.ret s) else none
  | _ => none
end L3
namespace L3
open PySem
def sCompApp (i : Nat) (js : List Nat) (it : MI) (bd : MB) (elt : ME) (z : D) : MC := fun ρ => match it ρ with
  | some (.ok (d :: ds)) => if ds.length < lim then (match bd d (a0H js ρ) with
    | some ρ1 => (match elt ρ1 with
      | some (.ok (.own (.lst es))) => (match a2i bd a1X elt (a0H js ρ) ds [] with
        | some (.ok (.own (.lst r))) => if es.length < lim then some (.next (ρ.set i (some (.own (.lst (.lst (es ++ [z]) :: r)))))) else none
        | _ => none)
      | _ => none)
    | none => none) else none
  | _ => none
end L3
namespace L3
open PySem
def dSort2 : D → Option R
  | .lst [.tup (.int m :: xs), .tup (.int n :: ys)] => if m < n then okL [.tup (.int m :: xs), .tup (.int n :: ys)] else if n < m then okL [.tup (.int n :: ys), .tup (.int m :: xs)] else none
  | _ => none
end L3
namespace L3
open PySem
def dRevL : D → Option R
  | .lst ds => okL ds.reverse
  | _ => none
abbrev Tb := List (List Int × Int)
def getI (kvs : Tb) (k : List Int) : Option Int := (kvs.find? fun p => decide (p.1 = k)).map (·.2)
def putI (kvs : Tb) (k : List Int) (v : Int) : Tb :=
  if (kvs.any fun p => decide (p.1 = k)) = true then kvs.map (fun p => if p.1 = k then (p.1, v) else p) else kvs ++ [(k, v)]
def ownT (i : Nat) (ρ : MEnv) : Option Tb := match ρ[i]? with
  | some (some (.own (.dic kvs))) => some kvs
  | _ => none
def keyOf (r : Option R) : Option (List Int) := match r with
  | some (.ok (.sh (.tup ds))) => intsOf ds
  | _ => none
def eGet (i : Nat) (g : ME) (z : Int) : ME := fun ρ => (ownT i ρ).bind fun kvs => (keyOf (g ρ)).bind fun k => okI ((getI kvs k).getD z)
def sNewT (i : Nat) : MC := fun ρ => some (.next (ρ.set i (some (.own (.dic [])))))
def wholeOf (r : Option R) : Option Int := match r with
  | some (.ok (.sh (.int v))) => some v
  | _ => none
def sPutT (i : Nat) (gk ge : ME) : MC := fun ρ => (wholeOf (ge ρ)).bind fun v => (ownT i ρ).bind fun kvs => (keyOf (gk ρ)).bind fun k => if kvs.length < lim then some (.next (ρ.set i (some (.own (.dic (putI kvs k v)))))) else none
end L3
namespace L3
open PySem
abbrev sgn (c : Nat) : D := .str ⟨#[c]⟩
def signs (x : Str) : List D := x.cps.toList.map sgn
def iStr (e : ME) : MI := fun ρ => match e ρ with
  | some (.ok (.sh (.str x))) => some (.ok (signs x))
  | _ => none
def dInS (neg : Bool) (x y : D) : Option R := match x, y with
  | .str x, .str y => (match x.cps.toList with
    | [c] => okB (if neg then !decide (c ∈ y.cps.toList) else decide (c ∈ y.cps.toList))
    | _ => none)
  | _, _ => none
def dSlS (x : D) (lo hi : Option Int) : Option R := match x with
  | .str z => if z.length ≤ lim then okD (.str (Txt.slice z lo hi)) else none
  | _ => none
def eSliceS (e : ME) (lo hi : Option ME) : ME := fun ρ => a0N (e ρ) fun x => a64 lo ρ fun l => a64 hi ρ fun h => dSlS x l h
def dStarts (x y : D) : Option R := match x, y with
  | .str x, .str y => okB (Txt.startswith x y)
  | _, _ => none
def dFindS (x y : D) : Option R := match x, y with
  | .str x, .str y => okI (Txt.find x y)
  | _, _ => none
def strsOf : List D → Option (List Str)
  | [] => some []
  | .str z :: r => (strsOf r).map (z :: ·)
  | _ :: _ => none
def dJoinS (x y : D) : Option R := match x, y with
  | .str x, .lst ds => (strsOf ds).bind fun zs => if JoinOk x zs = true then okD (.str (Txt.join x zs)) else none
  | _, _ => none
def dIntT (x : D) : Option R := match x with
  | .str z => if z.length ≤ 640 then (PySem.intText? z).bind fun n => okI n else none
  | _ => none
def dStrI (x : D) : Option R := match x with
  | .int i => if i.natAbs.log2 < 1920 then okD (.str (Str.ofString (toString i))) else none
  | _ => none
def eStrM (f : D → D → Option R) (go ge : ME) : ME := fun ρ => a0N (go ρ) fun x => match x with
  | .str z => a0N (ge ρ) fun y => f (.str z) y
  | _ => none
end L3
namespace L3
mutual
def noFn : D → Bool
  | .fn _ _ => false
  | .tup ds => a2u ds
  | .lst ds => a2u ds
  | .obj _ _ ds => a2u ds
  | .non => true
  | .bl _ => true
  | .int _ => true
  | .str _ => true
def a2u : List D → Bool
  | [] => true
  | d :: ds => noFn d && a2u ds
end
abbrev MCl := MEnv → Option D
def a3v (ρ : MEnv) : List Nat → Option (List D)
  | [] => some []
  | i :: r => match ρ[i]? with
    | some (some (.sh d)) => (a3v ρ r).map (d :: ·)
    | _ => none
def dems : List Nat → MEnv → MEnv
  | [], ρ => ρ
  | i :: r, ρ => dems r (dem i ρ)
def cLam (k : Nat) (is : List Nat) : MCl := fun ρ => (a3v (dems is ρ) is).map (.fn k)
def cSeq (a : MC) (b : MCl) : MCl := fun ρ => match a ρ with
  | some (.next ρ') => b ρ'
  | _ => none
def cIf (c : ME) (a b : MCl) : MCl := fun ρ => match c ρ with
  | some (.ok s) => (match s.val with
    | .bl t => if t = true then a ρ else b ρ
    | _ => none)
  | _ => none
def fnC (np n : Nat) (g : MCl) : List D → Option R := fun ds => if ds.length = np then (g (a1B n ds)).map (fun d => .ok (.sh d)) else none
def fnL (n : Nat) (g : ME) : List D → Option R := fun ds => g (a1B n ds)
def a2x (T : Nat → Option (List D → Option R)) (i : Nat) (ga : ME) : ME := fun ρ => match ρ[i]? with
  | some (some (.sh (.fn k ds))) => a0N (ga ρ) fun d => if noFn d && a2u ds then (match T k with
    | some F => a3x (F (d :: ds))
    | none => none) else none
  | _ => none
end L3
namespace L3
def dLZ : List D → Option R
  | [.lst xs, .lst ys] => if xs.length = ys.length then okL (List.zipWith (fun a b => .tup [a, b]) xs ys) else none
  | _ => none
end L3
namespace L2
open PySem PySem.Spec PyProof.Rows
section
variable {X : Cx} {tg : Expr}
def iSq (K : PySem.W.Frag) (tl : TE) : TI := fun σ H R => tl σ H fun x H1 => ∃ a, x = .ref a ∧ (((∃ xs, SqL K H1 a xs) ∧ R (Itl K a) H1) ∨ ((∃ xs, SqT K H1 a xs) ∧ R (Itt K a) H1))
theorem pi_seq {l : Expr} {tl : TE} (hl : PE X l tl) : PI X tg l (iSq X.K tl) := by
  intro pins s σ H R I h
  refine thn (hl pins s σ H _ I h) fun v s1 ⟨x, H1, I1, r1, a, e, q1⟩ => ?_
  subst e
  cases r1
  have f1 : ∀ b ∈ [s1.heap.objs.size], FpOk X pins H1 b := fun b hb => by
    rw [List.mem_singleton.mp hb]
    exact I1.fpOk (Nat.le_refl _) (I1.hok.fresh (Nat.le_refl _))
  rcases q1 with ⟨⟨xs, hq⟩, q⟩ | ⟨⟨xs, hq⟩, q⟩
  · obtain ⟨its, rv, p, hz⟩ := I1.list hq
    exact wpAny_pyIter_list p.isList ⟨s1.heap.objs.size, [s1.heap.objs.size], _, _, H1, rfl, I1.kept (t' := s1.toks) (fun b o e => Heap.get?_push_of_some _ e), turn_list a _, ⟨_, Heap.get?_push_size _ rfl, rfl, rfl⟩, f1, q⟩
  · obtain ⟨its, rv, p, hz⟩ := I1.tuple hq
    exact wpAny_pyIter_tuple (show s1.heap.IsTuple a its.toArray from p) ⟨s1.heap.objs.size, [s1.heap.objs.size], _, _, H1, rfl, I1.kept (t' := s1.toks) (fun b o e => Heap.get?_push_of_some _ e), turn_tuple a _, ⟨_, Heap.get?_push_size _ rfl, rfl, rfl⟩, f1, q⟩
end
def clOf (scope : Scope) (env : PySem.Env) : List (Str × Addr) := scope.names.foldl (fun cs x => if x.2 == .free then (x.1, (env.cells.lookup x.1).getD 0) :: cs else cs) []
def a1m (sc psc : Scope) (vars : List Str) : Bool :=
  (sc.kind == .function) && sc.names.all fun y => (sc.names.lookup y.1 == some y.2) && (match y.2 with
    | .local => vars.contains y.1
    | .cell => false
    | .free => psc.names.lookup y.1 == some .cell || psc.names.lookup y.1 == some .free
    | _ => true)
def a24 (N vars : List Str) (js : List Nat) : Bool := (List.range N.length).all fun i => js.contains i || !(vars.contains (N.getD i (Str.ofString "")))
def a1V (js : List Nat) (σ : St) : St := js.foldl (fun σ j => σ.set j none) σ
theorem a2H (js : List Nat) : ∀ σ : St, (a1V js σ).length = σ.length := by
  induction js with
  | nil => intro σ; rfl
  | cons j js ih => intro σ; show (a1V js (σ.set j none)).length = _; rw [ih, List.length_set]
theorem a5D (js : List Nat) : ∀ (σ : St) (i : Nat) (v : V), (a1V js σ)[i]? = some (some v) → i ∉ js ∧ σ[i]? = some (some v) := by
  induction js with
  | nil => intro σ i v h; exact ⟨by simp, h⟩
  | cons j js ih =>
    intro σ i v h
    obtain ⟨h1, h2⟩ := ih (σ.set j none) i v h
    by_cases hj : j = i
    · subst hj
      by_cases hl : j < σ.length
      · rw [List.getElem?_set_self hl] at h2; cases h2
      · rw [List.getElem?_eq_none (by rw [List.length_set]; omega)] at h2; cases h2
    · rw [List.getElem?_set_ne hj] at h2
      exact ⟨by simp [h1, Ne.symm hj], h2⟩
section
variable {sc psc : Scope} {vars : List Str}
theorem a3l (h : a1m sc psc vars = true) : sc.kind = .function := by
  unfold a1m at h
  exact eq_of_beq (Bool.and_eq_true_iff.mp h).1
theorem a3C (h : a1m sc psc vars = true) : ∀ y ∈ sc.names, sc.names.lookup y.1 = some y.2 ∧ (y.2 = .local → y.1 ∈ vars) ∧ y.2 ≠ .cell ∧ (y.2 = .free → psc.names.lookup y.1 = some .cell ∨ psc.names.lookup y.1 = some .free) := by
  intro y hy
  unfold a1m at h
  have h2 := List.all_eq_true.mp (Bool.and_eq_true_iff.mp h).2 y hy
  obtain ⟨h3, h4⟩ := Bool.and_eq_true_iff.mp h2
  refine ⟨eq_of_beq h3, fun e => ?_, fun e => ?_, fun e => ?_⟩
  · rw [e] at h4; exact List.contains_iff_mem.mp h4
  · rw [e] at h4; cases h4
  · rw [e] at h4
    rcases Bool.or_eq_true_iff.mp h4 with z | z
    · exact .inl (eq_of_beq z)
    · exact .inr (eq_of_beq z)
theorem a1t {α β : Type} [BEq α] [LawfulBEq α] : ∀ {l : List (α × β)} {x : α} {v : β}, l.lookup x = some v → (x, v) ∈ l
  | [], _, _, h => by cases h
  | (y, w) :: l, x, v, h => by
    rw [List.lookup_cons] at h
    cases hb : x == y with
    | true =>
      rw [hb] at h
      cases h
      rw [eq_of_beq hb]
      exact List.mem_cons_self
    | false =>
      rw [hb] at h
      exact List.mem_cons_of_mem _ (a1t h)
end
theorem clOf_in (scope : Scope) (env : PySem.Env) : ∀ (l : List (Str × NameKind)) (acc : List (Str × Addr)), (∀ p ∈ acc, env.cells.lookup p.1 = some p.2) → (∀ y ∈ l, y.2 = .free → ∃ c, env.cells.lookup y.1 = some c) →
    ∀ p ∈ l.foldl (fun cs x => if x.2 == .free then (x.1, (env.cells.lookup x.1).getD 0) :: cs else cs) acc, env.cells.lookup p.1 = some p.2 := by
  intro l
  induction l with
  | nil => intro acc h _; exact h
  | cons y l ih =>
    intro acc h hf
    rw [List.foldl_cons]
    refine ih _ ?_ fun z hz => hf z (List.mem_cons_of_mem _ hz)
    split
    · rename_i hb
      intro p hp
      rcases List.mem_cons.mp hp with e | hp
      · obtain ⟨c, hc⟩ := hf y List.mem_cons_self (eq_of_beq hb)
        rw [e, hc]
        rfl
      · exact h p hp
    · exact h
theorem clOf_has (scope : Scope) (env : PySem.Env) : ∀ (l : List (Str × NameKind)) (acc : List (Str × Addr)) (x : Str), ((x, NameKind.free) ∈ l ∨ ∃ c, (x, c) ∈ acc) →
    ∃ c, (x, c) ∈ l.foldl (fun cs x => if x.2 == .free then (x.1, (env.cells.lookup x.1).getD 0) :: cs else cs) acc := by
  intro l
  induction l with
  | nil =>
    intro acc x h
    rcases h with h | h
    · cases h
    · exact h
  | cons y l ih =>
    intro acc x h
    rw [List.foldl_cons]
    refine ih _ x ?_
    rcases h with h | ⟨c, h⟩
    · rcases List.mem_cons.mp h with e | h
      · subst e
        exact .inr ⟨_, by rw [if_pos (by rfl)]; exact List.mem_cons_self⟩
      · exact .inl h
    · refine .inr ⟨c, ?_⟩
      split
      · exact List.mem_cons_of_mem _ h
      · exact h
theorem a2X {scope : Scope} {env : PySem.Env} (hf : ∀ y ∈ scope.names, y.2 = .free → ∃ c, env.cells.lookup y.1 = some c) : closureFor scope env = pure (clOf scope env) := by
  have go : ∀ (l : List (Str × NameKind)) (acc : List (Str × Addr)), (∀ y ∈ l, y.2 = .free → ∃ c, env.cells.lookup y.1 = some c) →
      (forIn l acc fun x cs => do
        if x.2 == .free then pure (ForInStep.yield ((x.1, ← cellOf env x.1) :: cs)) else pure (ForInStep.yield cs) : Sem (List (Str × Addr))) =
      pure (l.foldl (fun cs x => if x.2 == .free then (x.1, (env.cells.lookup x.1).getD 0) :: cs else cs) acc) := by
    intro l
    induction l with
    | nil => intro acc _; rfl
    | cons y l ih =>
      intro acc h
      rw [List.forIn_cons, List.foldl_cons]
      cases hb : y.2 == NameKind.free with
      | true =>
        obtain ⟨c, hc⟩ := h y List.mem_cons_self (eq_of_beq hb)
        have e1 : cellOf env y.1 = pure c := by unfold cellOf; rw [hc]
        simp only [if_true, e1, pure_bind, hc, Option.getD_some]
        exact ih _ fun z hz => h z (List.mem_cons_of_mem _ hz)
      | false =>
        simp only [Bool.false_eq_true, if_false, pure_bind]
        exact ih _ fun z hz => h z (List.mem_cons_of_mem _ hz)
  have := go scope.names [] hf
  unfold closureFor
  simpa [clOf] using this
end L2
namespace L2
open PySem PySem.Spec PyProof.Rows
def a1y (X : Cx) (scope : Scope) (fp : List Addr) (s : Shared) (H : Hp) (C : Addr) : Cx :=
  { X with s₀ := s, H₀ := H, env := compEnvC scope (clOf scope X.env) C X.env, outer := X.stack, ex := fp, fn := fun _ => false, pn := [], xe := fun _ _ => False }
theorem a3t (f : Str → NameKind → NameKind) : ∀ (l : List (Str × NameKind)) (x : Str), (l.map fun y => (y.1, f y.1 y.2)).lookup x = (l.lookup x).map (f x)
  | [], _ => rfl
  | (n, k) :: l, x => by
    rw [List.map_cons, List.lookup_cons, List.lookup_cons]
    cases hb : x == n with
    | true => rw [eq_of_beq hb]; rfl
    | false => exact a3t f l x
theorem a2F (scope : Scope) (env : PySem.Env) (x : Str) : (relabel scope env).names.lookup x = (scope.names.lookup x).map fun k => if (k == NameKind.free && env.scope.kind == .function && env.kindOf x == some .cell) = true then NameKind.cell else k := by
  rw [← a3t (fun n k => if (k == NameKind.free && env.scope.kind == .function && env.kindOf n == some .cell) = true then NameKind.cell else k)]
  unfold relabel
  dsimp only
  congr 1
  refine List.map_congr_left fun y _ => ?_
  obtain ⟨n, k⟩ := y
  dsimp only
  split <;> rfl
theorem a2q {scope psc : Scope} {env : PySem.Env} {vars : List Str} {x : Str} (hc : a1m scope psc vars = true) (h : (relabel scope env).names.lookup x = some .cell ∨ (relabel scope env).names.lookup x = some .free) : scope.names.lookup x = some .free := by
  rw [a2F] at h
  cases hl : scope.names.lookup x with
  | none => rw [hl] at h; simp at h
  | some k =>
    obtain ⟨_, h2, h3, _⟩ := a3C hc _ (a1t hl)
    rw [hl] at h
    cases k with
    | free => rfl
    | cell => exact absurd rfl h3
    | _ => simp at h
theorem a5l {scope psc : Scope} {env : PySem.Env} {vars : List Str} {x : Str} (hc : a1m scope psc vars = true) (h : Vis (relabel scope env) x) :
    (x ∈ vars) ∨ (scope.names.lookup x = some .free ∧ ((relabel scope env).names.lookup x = some .cell ∨ (relabel scope env).names.lookup x = some .free)) := by
  rcases h with h | h | h
  · rw [a2F] at h
    cases hl : scope.names.lookup x with
    | none => rw [hl] at h; simp at h
    | some k =>
      obtain ⟨_, h2, h3, _⟩ := a3C hc _ (a1t hl)
      rw [hl] at h
      cases k with
      | «local» => exact .inl (h2 rfl)
      | cell => exact absurd rfl h3
      | free =>
        simp only [Option.map_some] at h
        split at h <;> simp at h
      | _ => simp at h
  · exact .inr ⟨a2q hc (.inl h), .inl h⟩
  · exact .inr ⟨a2q hc (.inr h), .inr h⟩
theorem a5G {scope psc : Scope} {env : PySem.Env} {vars : List Str} (hc : a1m scope psc vars = true) (hf : ∀ y ∈ scope.names, y.2 = .free → ∃ c, env.cells.lookup y.1 = some c) :
    (∀ x c, (clOf scope env).lookup x = some c → env.cells.lookup x = some c) ∧ ∀ x, scope.names.lookup x = some .free → ∃ c, (clOf scope env).lookup x = some c ∧ env.cells.lookup x = some c := by
  have h1 : ∀ x c, (clOf scope env).lookup x = some c → env.cells.lookup x = some c := fun x c e => clOf_in scope env scope.names [] (fun _ z => nomatch z) hf (x, c) (a1t e)
  refine ⟨h1, fun x e => ?_⟩
  obtain ⟨c, hm⟩ := clOf_has scope env scope.names [] x (.inl (a1t e))
  cases q : (clOf scope env).lookup x with
  | some d => exact ⟨d, rfl, h1 x d q⟩
  | none =>
    have := List.lookup_eq_none_iff.mp q _ hm
    simp at this
section
variable {X : Cx} {pins : List (Addr × Obj)} {σ : St} {H : Hp} {s : Shared} {scope : Scope} {vars : List Str} {js : List Nat} {fp : List Addr} {C : Addr} {h₁ : Heap} {tk : Nat}
theorem a3B (I : Inv X pins σ H s) (hc : a1m scope X.env.scope vars = true) : ∀ y ∈ scope.names, y.2 = .free → ∃ c, X.env.cells.lookup y.1 = some c := fun y hy e => by
  obtain ⟨_, _, _, h⟩ := a3C hc y hy
  exact I.ok.has y.1 (h e)
theorem inv_comp (I : Inv X pins σ H s) (hc : a1m scope X.env.scope vars = true) (hj : a24 X.N vars js = true) (hC : C = s.heap.objs.size) (hfp : ∀ b ∈ fp, FpOk X pins H b) (hfo : ∀ b ∈ fp, b < s.heap.objs.size)
    {m : Str → Option Value} (hns : h₁.Ns C m) (keep : ∀ b o, s.heap.get? b = some o → h₁.get? b = some o) :
    Inv (a1y X scope fp s H C) [] (a1V js σ) H { s with heap := h₁, toks := tk } := by
  have hf := a3B I hc
  obtain ⟨cl1, cl2⟩ := a5G hc hf
  have ok : (a1y X scope fp s H C).Ok := by
    refine ⟨I.ok.mod, ?_, I.ok.glob, I.ok.blt, Nat.le_of_eq hC.symm, fun x y c h1 h2 => I.ok.inj x y c (cl1 x c h1) (cl1 y c h2), fun x hx => ?_, (fun x c z => nomatch z), I.ok.hd, I.ok.frames, Or.inl rfl, fun b hb => ?_, I.bs, Nat.le_trans I.ok.bsz I.sz, fun b o e hb => ?_, fun b hb z => ?_, I.stack, I.stkFree⟩
    · show scope.kind = .function
      exact a3l hc
    · obtain ⟨c, z, _⟩ := cl2 x (a2q hc hx)
      exact ⟨c, z⟩
    · obtain ⟨_, _, _, _, f4, _⟩ := hfp b hb
      refine ⟨fun z => ?_, fun x c e => f4 x c (cl1 x c e)⟩
      have h1 := hfo b hb
      have h2 : b = C := z
      rw [h2, hC] at h1
      exact Nat.lt_irrefl _ h1
    · obtain ⟨_, _, _, f3, _⟩ := hfp b hb
      rcases f3 with z | z
      · exact I.ok.noex b o e z
      · exact absurd (Nat.lt_of_lt_of_le (Heap.lt_size (I.ok.bs b o e).1) z) (Nat.lt_irrefl _)
    · obtain ⟨_, f1, f2, _⟩ := hfp b hb
      rcases List.mem_cons.mp (I.stkSub b z) with e | e
      · exact f1 e
      · exact f2 e
  refine ⟨ok, rfl, I.bare, Un.kept keep, ⟨m, hns, fun i x v e1 e2 e3 => ?_⟩, fun x c e => ?_, ?_, fun x c e => I.freeC x c (cl1 x c e), (fun p hp => nomatch hp), I.hok.kept keep, ?_⟩
  · obtain ⟨nj, e2⟩ := a5D js σ i v e2
    rcases a5l hc e3 with hm | ⟨ef, hk⟩
    · exfalso
      have hi : i < X.N.length := (List.getElem?_eq_some_iff.mp e1).1
      have hq := List.all_eq_true.mp hj i (List.mem_range.mpr hi)
      rcases Bool.or_eq_true_iff.mp hq with z | z
      · exact nj (List.contains_iff_mem.mp z)
      · rw [List.getD_eq_getElem?_getD, show X.N[i]? = some x from e1] at z
        have hm' : vars.contains x = true := List.contains_iff_mem.mpr hm
        rw [Option.getD_some, hm'] at z
        cases z
    · obtain ⟨c, z1, z2⟩ := cl2 x ef
      obtain ⟨m0, _, hl⟩ := I.loc
      obtain ⟨_, _, _, hp⟩ := a3C hc _ (a1t ef)
      have hv : Vis X.env.scope x := (hp rfl).elim (fun z => .inr (.inl z)) fun z => .inr (.inr z)
      obtain ⟨u, r, l⟩ := hl i x v e1 e2 hv
      refine ⟨u, r, .inr ⟨hk, c, z1, ?_⟩⟩
      rcases l with ⟨k, _⟩ | ⟨_, c', e, q⟩
      · have k' : X.env.scope.names.lookup x = some .local := k
        rcases hp rfl with z | z
        · have z' : X.env.scope.names.lookup x = some .cell := z
          rw [k'] at z'; cases z'
        · have z' : X.env.scope.names.lookup x = some .free := z
          rw [k'] at z'; cases z'
      · rw [z2] at e
        cases e
        obtain ⟨o, ho, hd⟩ := q
        exact ⟨o, keep _ o ho, hd⟩
  · obtain ⟨v, o, ho, hd⟩ := I.cell x c (cl1 x c e)
    exact ⟨v, o, keep _ o ho, hd⟩
  · exact I.hok.fresh (Nat.le_of_eq hC.symm)
  · rw [a2H]
    exact I.len
end
abbrev Fl : Value → Shared → Prop := fun _ _ => False
theorem fl {α : Type} {M : Model} {A : Around} {t : Sem α} {Q Q' : α → Shared → Prop} {E : Value → Shared → Prop} {s : Shared} (h : wpAny M A t Q Fl s) (k : ∀ a s, Q a s → Q' a s) : wpAny M A t Q' E s := wpAny_mono h k fun _ _ z => z.elim
def a7q (ifs : List Expr) (env : PySem.Env) : Sem Bool := forIn ifs true fun c r => if r = true then do let ok ← isTrue c env (eval c env); pure (ForInStep.yield ok) else pure (ForInStep.yield r)
theorem a7p {prog : Program} {w : World} {A : Around} {R : Result → Shared → Prop} {s : Shared} {elt target iter : Expr} {ifs : List Expr} {scope : Scope} {pos : Pos} {it acc : Value} {env : PySem.Env} (Iv : Nat → Shared → Prop)
    (turn : ∀ n s, Iv n s → wpAny (model prog w) A (pyNext it) (fun r s₁ => match r with
      | none => R (.ok .next) s₁
      | some v => wpAny (model prog w) A (letOwnedTupleGo target it v) (fun _ s₂ => wpAny (model prog w) A (assign target env v) (fun _ s₃ => wpAny (model prog w) A (a7q ifs env) (fun ok s₄ =>
          if ok = true then wpAny (model prog w) A (eval elt env) (fun x s₅ => wpAny (model prog w) A (call (.builtin "list.append") [acc, x]) (fun _ s₆ => ∃ m, m < n ∧ Iv m s₆) Fl s₅) Fl s₄
          else ∃ m, m < n ∧ Iv m s₄) Fl s₃) Fl s₂) Fl s₁) Fl s)
    (n : Nat) (h : Iv n s) : codeAny (model prog w) A (.compLoop (.ListComp elt [⟨target, iter, ifs, 0⟩] scope pos) 0 it acc env) R s := by
  refine codeAny_loop rfl Iv (fun n s hI => ?_) n h
  show wpAny _ A ((compTurn (.ListComp elt [⟨target, iter, ifs, 0⟩] scope pos) 0 it acc env).onRaise _) _ _ s
  refine wpAny_noted ?_
  rw [compTurn_list]
  refine wpAny_bind (wpAny_standAt (wpAny_bind (fl (turn n s hI) fun r s₁ h₁ => ?_)))
  cases r with
  | none => exact wpAny_pure h₁
  | some v =>
    refine wpAny_bind (fl h₁ fun _ s₂ h₂ => wpAny_bind (fl h₂ fun _ s₃ h₃ => wpAny_bind (fl h₃ fun ok s₄ h₄ => ?_)))
    cases ok with
    | false => exact wpAny_pure ⟨rfl, h₄⟩
    | true => exact wpAny_bind (wpAny_bind (fl h₄ fun x s₅ h₅ => wpAny_bind (fl h₅ fun _ s₆ h₆ => wpAny_pure (wpAny_pure ⟨rfl, h₆⟩))))
def PIf (X : Cx) (ifs : List Expr) (t : TT) : Prop := ∀ (pins : List (Addr × Obj)) (s : Shared) (σ : St) (H : Hp) (Q : Bool → Hp → Prop), Inv X pins σ H s → t σ H Q → wpAny (model X.prog X.w) X.A (a7q ifs X.env) (TP X pins σ Q) X.xe s
def tTrue : TT := fun _ H Q => Q true H
theorem pif_nil {X : Cx} : PIf X [] tTrue := fun pins s σ H Q I h => wpAny_tests_nil ⟨H, I, h⟩
theorem pif_one {X : Cx} {c : Expr} {t : TT} (h : PT X c t) : PIf X [c] t := fun pins s σ H Q I q => wpAny_tests_one (h pins s σ H Q I q)
def CompW (J : It) (g : TG) (tt : TT) (te : TE) (a : Addr) (Q : VK) (W : Nat → Nat → St → List V → Hp → Prop) : Prop := ∀ i m σ ys H, W i m σ ys H → H a = some (.lst ys) ∧
  ((J.stop i H ∧ Q (.ref a) H) ∨ (J.go i H ∧ ∀ x H1, J.yld i H x H1 → g x σ H1 fun σ2 H2 => tt σ2 H2 fun b H3 =>
    if b = true then te σ2 H3 fun y H4 => H4 a = some (.lst ys) ∧ ys.length < sizeLine ∧ ∃ m', m' < m ∧ W (i + 1) m' σ2 (ys ++ [y]) (upd H4 a (.lst (ys ++ [y]))) else ∃ m', m' < m ∧ W (i + 1) m' σ2 ys H3))
def tComp (js : List Nat) (wi : TI) (g : TG) (tt : TT) (te : TE) : TE := fun σ H Q => wi σ H fun J H1 => ∀ a, H1 a = none → ∃ W, (∃ m, W 0 m (a1V js σ) [] (upd H1 a (.lst []))) ∧ CompW J g tt te a Q W
section
variable {X : Cx} {scope : Scope} {vars : List Str} {js : List Nat} {elt tg iter : Expr} {ifs : List Expr} {pos : Pos} {wi : TI} {g : TG} {tt : TT} {te : TE}
theorem a46 {pins : List (Addr × Obj)} {s : Shared} {σ : St} {H : Hp} {it : Addr} {fp : List Addr} {tn : Nat → Heap → Prop} {J : It} {Q : VK} {E : Value → Shared → Prop} {RR : Value → Addr → Result → Shared → Prop} (hc : a1m scope X.env.scope vars = true) (hj : a24 X.N vars js = true) (hcalm : X.calm = true)
    (hg : ∀ fp s H C, PG (a1y X scope fp s H C) tg g) (ht : ∀ fp s H C, PIf (a1y X scope fp s H C) ifs tt) (he : ∀ fp s H C, PE (a1y X scope fp s H C) elt te)
    (I : Inv X pins σ H s) (T : Turn X.prog X.w X.K tg J fp it tn) (st : tn 0 s.heap) (hfp : ∀ b ∈ fp, FpOk X pins H b) (q : ∀ a, H a = none → ∃ W, (∃ m, W 0 m (a1V js σ) [] (upd H a (.lst []))) ∧ CompW J g tt te a Q W)
    (fin : ∀ a C H' s' m, Inv X pins σ H' s' → s'.heap.Ns C m → H' C = none → C ≠ X.env.locals → X.s₀.heap.objs.size ≤ C → (∀ x c, X.env.cells.lookup x = some c → c ≠ C) → (∀ p ∈ X.pn ++ pins, p.1 ≠ C) → Q (.ref a) H' → RR (.ref a) C (.ok .next) s') :
    wpAny (model X.prog X.w) X.A (newList []) (fun acc s₃ => wpAny (model X.prog X.w) X.A (newFunctionEnv scope X.env.globals (clOf scope X.env) [] X.env.qual none .none (some X.env)) (fun cenv s₄ =>
      codeAny (model X.prog X.w) X.A (.compStart (.ListComp elt [⟨tg, iter, ifs, 0⟩] scope pos) 0 (.ref it) acc { cenv with scope := relabel scope X.env }) (RR acc cenv.locals) s₄) E s₃) E s := by
  have nocell : ∀ y ∈ scope.names, y.2 ≠ .cell := fun y hy => (a3C hc y hy).2.2.1
  refine wpAny_newObj_type (wpAny_newFunctionEnv nocell (by intro y hy; simp at hy) (fun h₁ hns hsb => ?_) (a3l hc))
  dsimp only at hns hsb ⊢
  generalize hA : s.heap.objs.size = a at *
  have fa : H a = none := by rw [← hA]; exact I.fresh
  obtain ⟨W, ⟨m0, w0⟩, hW⟩ := q a fa
  have I3 : Inv X pins σ (upd H a (.lst [])) { s with heap := s.heap.push { cls := .type "list", data := .seq ([] : List Value).toArray } } := by
    rw [← hA]
    exact I.lnew (t' := s.toks) (ys := []) (its := []) .nil (Nat.zero_le _)
  generalize hB : s.heap.push { cls := .type "list", dict := none, data := .seq ([] : List Value).toArray } = hp at *
  have szp : hp.objs.size = a + 1 := by rw [← hB, Heap.size_push, hA]
  have keep : ∀ b o, hp.get? b = some o → h₁.get? b = some o := fun b o e => (hsb.2 b (Nat.ne_of_lt (Heap.lt_size e))).trans (Heap.get?_push_of_some _ e)
  have up : ∀ b o, s.heap.get? b = some o → hp.get? b = some o := fun b o e => by rw [← hB]; exact Heap.get?_push_of_some _ e
  have lo : ∀ b ∈ fp, b < a := fun b hb => by
    obtain ⟨o, e, _⟩ := T.obj 0 _ st b hb
    rw [← hA]
    exact Heap.lt_size e
  have hfp3 : ∀ b ∈ fp, FpOk X pins (upd H a (.lst [])) b := fun b hb => ⟨by rw [upd_ne (Nat.ne_of_lt (lo b hb))]; exact (hfp b hb).1, (hfp b hb).2⟩
  have I4 := inv_comp (tk := s.toks + ([] : List (Str × Value)).length) I3 hc hj rfl hfp3 (fun b hb => by show b < hp.objs.size; rw [szp]; exact Nat.lt_succ_of_lt (lo b hb)) hns keep
  generalize hX : a1y X scope fp { s with heap := hp } (upd H a (.lst [])) hp.objs.size = X' at I4
  have eP : X'.prog = X.prog := by rw [← hX]; rfl
  have eW : X'.w = X.w := by rw [← hX]; rfl
  have eK : X'.K = X.K := by rw [← hX]; rfl
  have eA : X'.A = X.A := by rw [← hX]; rfl
  have eC : X'.calm = true := by rw [← hX]; exact hcalm
  have eL : X'.env.locals = hp.objs.size := by rw [← hX]; rfl
  have eE : X'.env = compEnvC scope (clOf scope X.env) hp.objs.size X.env := by rw [← hX]; rfl
  have eX : X'.ex = fp := by rw [← hX]; rfl
  have exe : X'.xe = Fl := by rw [← hX]; rfl
  have epn : X'.pn = [] := by rw [← hX]; rfl
  have hg' : PG X' tg g := by rw [← hX]; exact hg _ _ _ _
  have ht' : PIf X' ifs tt := by rw [← hX]; exact ht _ _ _ _
  have he' : PE X' elt te := by rw [← hX]; exact he _ _ _ _
  have stat : ∀ {H' : Hp}, (∀ b ∈ fp, H' b = none) → ∀ b ∈ fp, FpOk X' [] H' b := fun hn b hb => by
    have hb' : b ∈ X'.ex := by rw [eX]; exact hb
    exact ⟨hn b hb, (I4.ok.exf b hb').1, I4.ok.exfs b hb', .inl hb', (I4.ok.exf b hb').2, fun p hp => by rw [epn] at hp; cases hp⟩
  have back : ∀ {σ' : St} {H' : Hp} {s' : Shared}, Inv X' [] σ' H' s' → Q (.ref a) H' → RR (.ref a) hp.objs.size (.ok .next) s' := fun {σ' H' s'} J qf => by
    obtain ⟨m, hn, _⟩ := J.loc
    rw [eL] at hn
    have hfree := J.free
    rw [eL] at hfree
    have jos := J.os
    have jbase := J.base
    have jhok := J.hok
    rw [← hX] at jos jbase jhok
    refine fin a _ H' s' m (I3.call' (ch := fp) jos jbase jhok J.bare fun b hb => ⟨(hfp b hb).2.2.2.1, (hfp b hb).2.1, (hfp b hb).2.2.2.2.1, (hfp b hb).2.2.2.2.2⟩) hn hfree (Nat.ne_of_gt I3.lt) I3.sz (fun x c e z => ?_) (fun p hp' z => ?_) qf
    · obtain ⟨v, o, ho, _⟩ := I3.cell x c e
      have := Heap.lt_size ho
      rw [z] at this
      exact Nat.lt_irrefl _ this
    · have := Heap.lt_size (I3.pin p hp').1
      rw [z] at this
      exact Nat.lt_irrefl _ this
  have st1 : tn 0 h₁ := T.keep 0 _ _ st fun b hb o e => keep b o (up b o e)
  have loop : codeAny (model X.prog X.w) X.A (.compLoop (.ListComp elt [⟨tg, iter, ifs, 0⟩] scope pos) 0 (.ref it) (.ref a) X'.env) (RR (.ref a) hp.objs.size) { s with heap := h₁, toks := s.toks + ([] : List (Str × Value)).length } := by
    refine a7p (fun n s' => ∃ i σ' ys H', Inv X' [] σ' H' s' ∧ tn i s'.heap ∧ (∀ b ∈ fp, H' b = none) ∧ W i n σ' ys H') ?_ m0 ⟨0, _, [], _, I4, st1, fun b hb => (hfp3 b hb).1, w0⟩
    rintro n s3 ⟨i, σ3, ys, H3, J3, st3, fr3, w3⟩
    obtain ⟨ha, hw⟩ := hW i n σ3 ys H3 w3
    rcases hw with ⟨stop, qn⟩ | ⟨go, step⟩
    · have z := T.done X' eP eW eK eC i [] s3 σ3 H3 Fl J3 (stat fr3) st3 stop
      rw [eA] at z
      refine thn z fun r s4 ⟨hr, J4⟩ => ?_
      subst hr
      exact back J4 qn
    · have z := T.item X' eP eW eK eC i [] s3 σ3 H3 Fl J3 (stat fr3) st3 go
      rw [eA] at z
      refine thn z fun r s4 ⟨u, hr, h4⟩ => ?_
      subst hr
      refine thn h4 fun _ s5 ⟨x, H5, J5, r5, y5, st5, fr5⟩ => ?_
      have J5' := J5.pinned (stat fr5) (T.obj _ _ st5)
      have z5 := hg' _ s5 σ3 H5 x u _ J5' r5 (step x H5 y5)
      rw [eP, eW, eA, exe] at z5
      refine thn z5 fun _ s6 ⟨σ6, H6, J6, q6⟩ => ?_
      have z6 := ht' _ s6 σ6 H6 _ J6 q6
      rw [eP, eW, eA, exe] at z6
      refine thn z6 fun ok s7 ⟨H7, J7, q7⟩ => ?_
      have again : ∀ {σ8 : St} {H8 : Hp} {s8 : Shared} {ys8 : List V} {m' : Nat}, Inv X' ([] ++ pinsAt fp s5.heap) σ8 H8 s8 → m' < n → W (i + 1) m' σ8 ys8 H8 → ∃ m, m < n ∧ ∃ i σ' ys H', Inv X' [] σ' H' s8 ∧ tn i s8.heap ∧ (∀ b ∈ fp, H' b = none) ∧ W i m σ' ys H' := fun {σ8 H8 s8 ys8 m'} J8 hm w8 => by
        refine ⟨m', hm, i + 1, σ8, ys8, H8, J8.unpinned, T.keep _ _ _ st5 fun b hb o e => (J8.pin (b, o) (List.mem_append_right _ (List.mem_append_right _ (mem_pinsAt hb e)))).1, fun b hb => ?_, w8⟩
        obtain ⟨o, e, d⟩ := T.obj _ _ st5 b hb
        exact (J8.pin (b, o) (List.mem_append_right _ (List.mem_append_right _ (mem_pinsAt hb e)))).2.1
      cases ok with
      | false =>
        rw [if_neg Bool.false_ne_true] at q7 ⊢
        obtain ⟨m', hm, w7⟩ := q7
        exact again J7 hm w7
      | true =>
        rw [if_pos rfl] at q7 ⊢
        have z7 := he' _ s7 σ6 H7 _ J7 q7
        rw [eP, eW, eA, exe] at z7
        refine thn z7 fun v s8 ⟨y, H8, J8, r8, h8, hl8, m', hm, w8⟩ => ?_
        have z8 := mt_append _ s8 σ6 H8 (.ref a) [y] (.ref a) [v] (fun _ H9 => H9 = upd H8 a (.lst (ys ++ [y]))) J8 rfl (.cons r8 .nil) ⟨a, ys, y, rfl, rfl, h8, hl8, rfl⟩
        rw [eP, eW, eA, exe] at z8
        refine thn z8 fun _ s9 ⟨_, H9, J9, _, q9⟩ => ?_
        subst q9
        exact again J9 hm w8
  rw [eE] at loop
  exact codeAny_compStart_list loop (T.self _ 0 _ _ _ st1 loop)
theorem pe_comp (hc : a1m scope X.env.scope vars = true) (hj : a24 X.N vars js = true) (hcalm : X.calm = true) (hi : PI X tg iter wi)
    (hg : ∀ fp s H C, PG (a1y X scope fp s H C) tg g) (ht : ∀ fp s H C, PIf (a1y X scope fp s H C) ifs tt) (he : ∀ fp s H C, PE (a1y X scope fp s H C) elt te) (hs : ∀ x, foldedSetIterable iter X.env x = pure x := by intro _; rfl) :
    PE X (.ListComp elt [⟨tg, iter, ifs, 0⟩] scope pos) (tComp js wi g tt te) := by
  intro pins s σ H Q I h
  rw [eval_ListComp]
  refine wpAny_comprehension_free (use := none) rfl hs (a2X (a3B I hc)) (a3l hc) (fun y hy e => by rw [(a3C hc y hy).1, e]) (thn (hi pins s σ H _ I h) fun v s1 h1 => thn h1 fun itv s2 h2 => ?_)
  obtain ⟨it, fp, tn, J, H2, e, I2, T, st2, f2, q⟩ := h2
  subst e
  refine a46 (RR := fun acc C => compPost (model X.prog X.w) X.A X.xe none (EP X pins σ Q) acc C) hc hj hcalm hg ht he I2 T st2 f2 q ?_
  intro a C H' s' m J' hn hC hL hS hcell hpin q'
  exact ⟨m, hn, fun h' sb => ⟨.ref a, H', J'.turned (t' := s'.toks) (fun b o hb e => (sb.2 b hb).trans e) hC hL (.inr hS) hcell hpin, rfl, q'⟩⟩
theorem a6d {i : Nat} {x : Str} {pos' spos : Pos} (hN : X.N.Nodup) (hi' : X.N[i]? = some x) (hx : Loc X.env.scope x) (hc : a1m scope X.env.scope vars = true) (hj : a24 X.N vars js = true) (hcalm : X.calm = true) (hi : PI X tg iter wi)
    (hg : ∀ fp s H C, PG (a1y X scope fp s H C) tg g) (ht : ∀ fp s H C, PIf (a1y X scope fp s H C) ifs tt) (he : ∀ fp s H C, PE (a1y X scope fp s H C) elt te)
    (hsw : swapsWith (.ListComp elt [⟨tg, iter, ifs, 0⟩] scope pos) (some (.Name x pos')) spos.line X.env = pure true := by rfl) (hs : ∀ x, foldedSetIterable iter X.env x = pure x := by intro _; rfl)
    (hf : X.fn x = true ∨ X.env.scope.names.lookup x = some .local := by first | exact .inl rfl | exact .inr rfl | assumption) :
    PS X (.Assign [.Name x pos'] (.ListComp elt [⟨tg, iter, ifs, 0⟩] scope pos) spos) (tAsg (tComp js wi g tt te) (gName i)) := by
  intro pins s σ H D I h
  rw [exec_Assign_Name_used _ _ _ _ hsw]
  refine wpAny_bind (wpAny_standAt (wpAny_bind ?_))
  show wpAny _ X.A (do let _ ← comprehension (.ListComp elt [⟨tg, iter, ifs, 0⟩] scope pos) scope X.env _ (newList []) false (eval iter X.env) (some (assign (.Name x pos') X.env))) _ _ s
  refine wpAny_bind (wpAny_mono (wpAny_comprehension_free (use := some (assign (.Name x pos') X.env)) (Q := fun _ s' => SP X pins D .next s') rfl hs (a2X (a3B I hc)) (a3l hc) (fun y hy e => by rw [(a3C hc y hy).1, e])
    (thn (hi pins s σ H _ I h) fun v s1 h1 => thn h1 fun itv s2 h2 => ?_)) (fun _ s' hq => wpAny_pure (wpAny_pure hq)) fun _ _ e => e)
  obtain ⟨it, fp, tn, J, H2, e, I2, T, st2, f2, q⟩ := h2
  subst e
  refine a46 (RR := fun acc C => compPost (model X.prog X.w) X.A X.xe (some (assign (.Name x pos') X.env)) (fun _ s' => SP X pins D .next s') acc C) hc hj hcalm hg ht he I2 T st2 f2 q ?_
  intro a C H' s' m J' hn hC hL hS hcell hpin q'
  refine wpAny_assign_Name (store_ok2 J' hN hi' hx (v := .ref a) rfl (fun s'' J2 ⟨b, sb, hb⟩ => ?_) hf)
  have hCb : C ≠ b := by
    rcases hb with z | z
    · rw [z]; exact hL
    · exact (hcell x b z).symm
  exact ⟨m, hn.sameBut sb hCb, fun h' sb' => ⟨_, H', J2.turned (t' := s''.toks) (fun b o hb e => (sb'.2 b hb).trans e) hC hL (.inr hS) hcell hpin, q'⟩⟩
end
end L2
namespace L2
open PySem PySem.Spec PyProof.Rows
section
variable {X : Cx} {pins : List (Addr × Obj)} {σ : St} {H : Hp} {s : Shared} {l : Addr} {xs : List V}
def rCatR (K : PySem.W.Frag) : R2 := fun x y H Q => ∃ l b xs zs, x = .ref l ∧ y = .ref b ∧ SqL K H l xs ∧ SqL K H b zs ∧ xs.length + zs.length ≤ sizeLine ∧ ∀ p, H p = none → Q (.ref p) (upd H p (.lst (xs ++ zs)))
theorem op_catR : OpR X (binaryOp .Add) (rCatR X.K) := fun pins s σ H x y v u Q I rx ry ⟨l, b, xs, zs, ex, ey, hH, hB, hz, q⟩ => by
  subst ex ey
  cases rx
  cases ry
  obtain ⟨i1, r1, p1, _⟩ := I.list hH
  obtain ⟨i2, r2, p2, _⟩ := I.list hB
  obtain ⟨⟨c1, d1, t1, s1⟩, o1, k1, n1, g1⟩ := p1.isList
  obtain ⟨⟨c2, d2, t2, s2⟩, o2, k2, n2, g2⟩ := p2.isList
  simp only at k1 g1 k2 g2
  subst k1 g1 k2 g2
  have l1 := r1.length
  have l2 := r2.length
  have ea : i1.toArray ++ i2.toArray = (i1 ++ i2).toArray := by simp
  refine concat_meets ⟨_, o1, rfl⟩ ⟨_, o2, rfl⟩ noFill_list_add seq_list_add PySem.F.slot_list_add PySem.F.entry_list_add (PySem.F.args_list_add_2 _ _) (list_addW l b _ _ n1 n2 d1 d2 s1 s2 (by rw [List.size_toArray, List.size_toArray, ← l1, ← l2]; exact hz)) ⟨o1, o2, ?_⟩
  rw [ea]
  exact ⟨.ref _, _, I.lnew (t' := s.toks) (r1.append r2) (by rw [List.length_append]; exact hz), rfl, q _ I.fresh⟩
theorem op_catT0 : OpR X (binaryOp .Add) (fun x y H Q => ∃ a b ys, x = .ref a ∧ y = .ref b ∧ SqT X.K H a [] ∧ SqT X.K H b ys ∧ Q (.ref b) H) := fun pins s σ H x y v u Q I rx ry ⟨a, b, ys, ex, ey, ha, hb, q⟩ => by
  subst ex ey
  cases rx
  cases ry
  obtain ⟨i1, r1, ⟨⟨c1, d1, t1, s1⟩, o1, k1, n1, g1⟩, _⟩ := I.tuple ha
  obtain ⟨i2, r2, ⟨⟨c2, d2, t2, s2⟩, o2, k2, n2, g2⟩, _⟩ := I.tuple hb
  cases r1
  simp only at k1 g1 k2 g2
  subst k1 g1 k2 g2
  exact concat_meets ⟨_, o1, rfl⟩ ⟨_, o2, rfl⟩ noFill_tuple_add seq_tuple_add PySem.F.slot_tuple_add PySem.F.entry_tuple_add (PySem.F.args_tuple_add_2 _ _)
    (tuple_addW0 a b _ _ n1 n2 d1 d2 s1 s2 (by rfl)) ⟨o1, o2, ⟨.ref b, H, I, rfl, q⟩⟩
theorem a3Q (ns : List Int) : ∀ k, k ≤ ns.length → preSum (fun i => (ns[i]?).getD 0) k = (ns.take k).sum
  | 0, _ => by simp [preSum]
  | k + 1, h => by
    have hk : k < ns.length := h
    rw [List.take_add_one, List.getElem?_eq_getElem hk, List.sum_append, ← a3Q ns k (Nat.le_of_lt hk)]
    simp [preSum, List.getElem?_eq_getElem hk]
theorem a7u (hc : X.calm = true) : CallR X (.builtin "sum") (fun xs H Q => ∃ (p : Addr) (ns : List Int), xs = [.ref p] ∧ SqL X.K H p (ns.map V.int) ∧ Q (.int ns.sum) H) := fun pins s σ H xs us Q I r ⟨p, ns, ex, hq, q⟩ => by
  subst ex
  obtain ⟨u, rfl, rx⟩ := vals1 r
  cases rx
  obtain ⟨its, rv, pl, hz⟩ := I.list hq
  have hlt : p < s.heap.objs.size := by obtain ⟨_, e, _⟩ := pl.isList; exact Heap.lt_size e
  have hlen : its.length = ns.length := by rw [← rv.length, List.length_map]
  have up : ∀ b o, s.heap.get? b = some o → (s.heap.push { cls := .type "list_iterator", data := .fields #[.ref p, .int 0 0] }).get? b = some o := fun b o e => Heap.get?_push_of_some _ e
  refine call_sum_walkG (wpAny_pyIter_list pl.isList ⟨_, _, _, _, _, _, fun i => (ns[i]?).getD 0, rfl, Walks.list (A := X.A.in1) (I.ok.hd hc) s.heap.objs.size p (Nat.ne_of_lt hlt) its.toArray, ⟨⟨_, Heap.get?_push_size _ rfl, rfl, rfl⟩, pl.isList.push _⟩, fun b hb => ?_, fun i v hv => ?_, fun h' tk t' hk => ?_⟩)
  · rw [show ({ s with heap := s.heap.push { cls := .type "list_iterator", data := .fields #[.ref p, .int 0 0] } } : Shared).heap.objs.size = s.heap.objs.size + 1 from Heap.size_push ..]
    rcases List.mem_cons.mp hb with e | e
    · rw [e]; exact Nat.lt_succ_self _
    · rw [List.mem_singleton.mp e]; exact Nat.lt_succ_of_lt hlt
  · have hv' : its[i]? = some v := by simpa using hv
    have hi : i < ns.length := by rw [← hlen]; exact (List.getElem?_eq_some_iff.mp hv').1
    obtain ⟨u, e, ru⟩ := rv.get (i := i) (x := .int ns[i]) (by rw [List.getElem?_map, List.getElem?_eq_getElem hi]; rfl)
    rw [hv'] at e
    cases e
    obtain ⟨t, e⟩ := ru
    exact ⟨t, by show v = Value.int ((ns[i]?).getD 0) t; rw [e, List.getElem?_eq_getElem hi]; rfl⟩
  · have es : preSum (fun i => (ns[i]?).getD 0) its.toArray.size = ns.sum := by rw [List.size_toArray, hlen, a3Q ns _ (Nat.le_refl _), List.take_length]
    refine ⟨.int ns.sum, H, I.kept (t' := tk) fun b o e => hk b o (by simpa using Nat.ne_of_lt (Heap.lt_size e)) (up b o e), ⟨t', by rw [es]⟩, q⟩
theorem a7F (bs : List Bool) : (List.range bs.length).all (fun i => (bs[i]?).getD false) = bs.all id := by
  rw [Bool.eq_iff_iff, List.all_eq_true, List.all_eq_true]
  constructor
  · intro h b hb
    obtain ⟨i, hi, rfl⟩ := List.mem_iff_getElem.mp hb
    have := h i (List.mem_range.mpr hi)
    rwa [List.getElem?_eq_getElem hi] at this
  · intro h i hi
    have hi' := List.mem_range.mp hi
    rw [List.getElem?_eq_getElem hi']
    exact h _ (List.getElem_mem hi')
theorem a6z (I : Inv X pins σ H s) (hc : X.calm = true) {p : Addr} {bs : List Bool} (hq : SqL X.K H p (bs.map V.bl)) {E : Value → Shared → Prop} {Q : Value → Shared → Prop} {cmb : List Nat → (Nat → Bool) → Bool}
    (k : ∀ (h' : Heap) (tk : Nat), (∀ b o, s.heap.get? b = some o → h'.get? b = some o) → Q (.bool (cmb (List.range bs.length) fun i => (bs[i]?).getD false)) { s with heap := h', toks := tk }) :
    wpAny (model X.prog X.w) X.A.in1 (pyIter (.ref p)) (fun it s₂ => ∃ I fp wr n P St tr, it = .ref I ∧ Walks X.prog X.w X.A.in1 I fp wr n P St ∧ St 0 s₂.heap ∧ TruthOf X.prog X.w X.A.in1 P tr ∧
      ∀ h' tk, (∀ b o, b ∉ wr → s₂.heap.get? b = some o → h'.get? b = some o) → Q (.bool (cmb (List.range n) tr)) { s₂ with heap := h', toks := tk }) E s := by
  obtain ⟨its, rv, pl, hz⟩ := I.list hq
  have hlt : p < s.heap.objs.size := by obtain ⟨_, e, _⟩ := pl.isList; exact Heap.lt_size e
  have hlen : its.length = bs.length := by rw [← rv.length, List.length_map]
  refine wpAny_pyIter_list pl.isList ⟨_, _, _, _, _, _, fun i => (bs[i]?).getD false, rfl, Walks.list (A := X.A.in1) (I.ok.hd hc) s.heap.objs.size p (Nat.ne_of_lt hlt) its.toArray, ⟨⟨_, Heap.get?_push_size _ rfl, rfl, rfl⟩, pl.isList.push _⟩, fun i v s' Q' E' hv hQ => ?_, fun h' tk hk => ?_⟩
  · have hv' : its[i]? = some v := by simpa using hv
    have hi : i < bs.length := by rw [← hlen]; exact (List.getElem?_eq_some_iff.mp hv').1
    obtain ⟨u, e, ru⟩ := rv.get (i := i) (x := .bl bs[i]) (by rw [List.getElem?_map, List.getElem?_eq_getElem hi]; rfl)
    rw [hv'] at e
    cases e
    cases (show v = Value.bool bs[i] from ru)
    have hQ2 : Q' ((bs[i]?).getD false) s' := hQ
    rw [List.getElem?_eq_getElem hi] at hQ2
    exact wpAny_pure hQ2
  · rw [List.size_toArray, hlen]
    exact k h' tk fun b o e => hk b o (by simpa using Nat.ne_of_lt (Heap.lt_size e)) (Heap.get?_push_of_some _ e)
theorem a7v (hc : X.calm = true) : CallR X (.builtin "all") (fun xs H Q => ∃ (p : Addr) (bs : List Bool), xs = [.ref p] ∧ SqL X.K H p (bs.map V.bl) ∧ Q (.bl (bs.all id)) H) := fun pins s σ H xs us Q I r ⟨p, bs, ex, hq, q⟩ => by
  subst ex
  obtain ⟨u, rfl, rx⟩ := vals1 r
  cases rx
  refine call_all_walk (a6z (cmb := fun l f => l.all f) I hc hq fun h' tk hk => ?_)
  exact ⟨.bl (bs.all id), H, I.kept (t' := tk) hk, by rw [a7F]; rfl, q⟩
theorem a6J : ∀ {xs : List V} {us : List Value}, xs.length = us.length → (∀ (i : Nat) x u, xs[i]? = some x → us[i]? = some u → RelV x u) → Vals xs us
  | [], [], _, _ => .nil
  | x :: xs, u :: us, hl, h => .cons (h 0 x u rfl rfl) (a6J (by simpa using hl) fun i x' u' e1 e2 => h (i + 1) x' u' (by simpa using e1) (by simpa using e2))
  | [], _ :: _, hl, _ => by simp at hl
  | _ :: _, [], hl, _ => by simp at hl
theorem vals_rng {lo : Int} {acc : Array Value} {n : Nat} (h : ItemsOf (fun i v => ∃ t, v = .int (lo + i * 1) t) acc n) : Vals ((List.range n).map fun k : Nat => V.int (lo + k)) acc.toList := by
  refine a6J (by rw [List.length_map, List.length_range, ← h.1, Array.length_toList]) fun i x u e1 e2 => ?_
  obtain ⟨t, rfl⟩ := h.2 i u (by rw [← Array.getElem?_toList]; exact e2)
  rw [List.getElem?_map] at e1
  cases q : (List.range n)[i]? with
  | none => rw [q] at e1; cases e1
  | some k =>
    rw [q] at e1
    cases e1
    have hk : i < n := by
      have := (List.getElem?_eq_some_iff.mp q).1
      rwa [List.length_range] at this
    rw [List.getElem?_range hk] at q
    cases q
    exact ⟨t, by rw [Int.mul_one]⟩
theorem a5H : CallR X (.type "range") (fun xs H Q => ∃ lo hi, xs = [.int lo, .int hi] ∧ ∀ p, H p = none → Q (.ref p) (upd H p (.rng lo hi))) := fun pins s σ H xs us Q I r ⟨lo, hi, ex, q⟩ => by
  subst ex
  obtain ⟨u, w, rfl, ⟨t, rfl⟩, ⟨t', rfl⟩⟩ := vals2 r
  refine call_range_2 ⟨.ref s.heap.objs.size, _, I.laid (t' := s.toks + 1) (o := .rng lo hi) (fun b o e => Heap.get?_push_of_some _ e) (Nat.le_refl _) ⟨_, _, _, Heap.get?_push_size _ rfl⟩, rfl, q _ I.fresh⟩
theorem a49 (hc : X.calm = true) : CallR X (.type "list") (fun xs H Q => ∃ p lo hi, xs = [.ref p] ∧ H p = some (.rng lo hi) ∧ (-(2 ^ 62) ≤ lo ∧ lo < 2 ^ 62 ∧ -(2 ^ 62) ≤ hi ∧ hi < 2 ^ 62) ∧ (hi - lo).toNat ≤ sizeLine ∧
    ∀ l, H l = none → Q (.ref l) (upd H l (.lst ((List.range (hi - lo).toNat).map fun k : Nat => V.int (lo + k))))) := fun pins s σ H xs us Q I r ⟨p, lo, hi, ex, hp, ⟨b1, b2, b3, b4⟩, hz, q⟩ => by
  subst ex
  obtain ⟨u, rfl, ru⟩ := vals1 r
  cases ru
  obtain ⟨t, u, v, e⟩ := I.hok p _ hp
  refine call_list_range (n := (hi - lo).toNat) (I.ok.hd hc) (show IsRange s.heap p lo hi 1 t u v from e) (small_one b1 b2 b3 b4) (by rw [rangeSize_one]; split <;> omega) hz fun h' tk acc c kp e' it => ?_
  exact ⟨.ref s.heap.objs.size, _, I.laid (t' := tk) (o := .lst ((List.range (hi - lo).toNat).map fun k : Nat => V.int (lo + k))) kp (Nat.le_refl _) ⟨by rw [List.length_map, List.length_range]; exact hz, acc.toList, c, vals_rng it, by simpa using e'⟩, rfl, q _ I.fresh⟩
theorem a6t {x : V} {u : Value} {t : String} {T : String} {b : Bool} (I : Inv X pins σ H s) (rx : RelV x u) (ty : TyOf X.K H x (.type t) ∨ (t = "tuple" ∧ ∃ a xs, x = .ref a ∧ SqT X.K H a xs) ∨ (t = "list" ∧ ∃ a xs, x = .ref a ∧ SqL X.K H a xs)) (e : PySem.W.kitOne X.K (.type t) (.type T) = some b) {Q : Value → Shared → Prop} {E : Value → Shared → Prop} {A : Around}
    (h : ∀ tk, Q (.bool b) { s with toks := tk }) : wpAny (model X.prog X.w) A (call (.builtin "isinstance") [u, .type T]) Q E s := by
  rcases ty with ty | ⟨rfl, a, xs, rfl, hq⟩ | ⟨rfl, a, xs, rfl, hq⟩
  · exact isinst_ok I rx ty e h
  · cases (show u = Value.ref a from rx)
    obtain ⟨its, _, ⟨o, h1, h2, _⟩, _⟩ := I.tuple hq
    exact PySem.W.kia_one PySem.W.kitx_tuple I.kIn ⟨o, h1, h2⟩ e (fun z => nomatch z) h
  · cases (show u = Value.ref a from rx)
    obtain ⟨its, _, pl, _⟩ := I.list hq
    obtain ⟨o, h1, h2, _⟩ := pl.isList
    exact PySem.W.kia_one PySem.W.kitx_list I.kIn ⟨o, h1, h2⟩ e (fun z => nomatch z) h
theorem a5I : CallR X (.builtin "isinstance") (fun xs H Q => ∃ x t T b, xs = [x, .ty T] ∧ (TyOf X.K H x (.type t) ∨ (t = "tuple" ∧ ∃ a xs, x = .ref a ∧ SqT X.K H a xs) ∨ (t = "list" ∧ ∃ a xs, x = .ref a ∧ SqL X.K H a xs)) ∧ PySem.W.kitOne X.K (.type t) (.type T) = some b ∧ Q (.bl b) H) := fun pins s σ H xs us Q I r ⟨x, t, T, b, ex, ty, e, q⟩ => by
  subst ex
  obtain ⟨u, w, rfl, ru, rw'⟩ := vals2 r
  cases (show w = Value.type T from rw')
  exact a6t I ru ty e fun tk => ⟨.bl b, H, I.tok tk, rfl, q⟩
end
end L2
namespace L2
open PySem PySem.Spec PyProof.Rows
section
variable {prog : Program} {w : World} {A : Around} {E : Value → Shared → Prop} {s : Shared}
theorem a3V {it t : Addr} {i : Nat} {items : Array Value} {x : Value} {Q : Value → Shared → Prop} (hit : s.heap.IsTupleIter it t i) (ht : s.heap.IsTuple t items) (hx : items[i]? = some x)
    (hQ : ∀ h', h'.IsTupleIter it t (i + 1) → Heap.SameBut it s.heap h' → Q x { s with heap := h' }) : wpAny (model prog w) A (Builtin.SmallTypes.nextOf (.ref it)) Q E s := by
  obtain ⟨o, ho, hc, hd⟩ := id hit
  obtain ⟨ot, hot, _, nt, hdt⟩ := ht
  unfold Builtin.SmallTypes.nextOf
  refine wpAny_bind (wpAny_callSpecial?_slot (name := Str.ofString "__next__") hit.typeIs F.slot_tuple_iterator_next (wpAny_call_entry F.slot_tuple_iterator_next hit.typeIs F.entry_tuple_iterator_next ?_ (F.args_tuple_iterator_next_1 _)))
  show wpAny _ _ (field (.ref it) 0 >>= _) _ _ s; refine wpAny_bind (wpAny_field ho hd (x := .ref t) rfl ?_)
  show wpAny _ _ (if (Value.ref t == Value.none) = true then _ else _) _ _ s; rw [if_neg (show ¬ ((Value.ref t == Value.none) = true) from Bool.false_ne_true)]
  show wpAny _ _ (field (.ref it) 1 >>= _) _ _ s; refine wpAny_bind (wpAny_field ho hd (x := .int i 0) rfl ?_)
  show wpAny _ _ (seqItems? (.ref t) >>= _) _ _ s; refine wpAny_bind (wpAny_seqItems hot hdt ?_); simp only [Int.toNat_natCast, hx]
  refine wpAny_bind (wpAny_setField ho hd (by simp) (wpAny_pure ⟨x, rfl, wpAny_pure (hQ _ ⟨_, Heap.get?_update_self _ ho (Obj.isFreed_of_fields (Obj.data_mapFields hd _)), (Obj.cls_mapFields ..).trans hc, ?_⟩ (Heap.SameBut.update ..))⟩))
  rw [Obj.data_mapFields hd]; simp [rawInt]
theorem a4U {it t : Addr} {i : Nat} {items : Array Value} {Q : Value → Shared → Prop} (hh : A.handled = none) (hit : s.heap.IsTupleIter it t i) (ht : s.heap.IsTuple t items) (hx : items[i]? = none)
    (hE : ∀ h' e, Heap.ExtBut it s.heap h' → (∃ o, h'.get? e = some o ∧ o.cls = .type "StopIteration") → E (.ref e) { s with heap := h' }) : wpAny (model prog w) A (Builtin.SmallTypes.nextOf (.ref it)) Q E s := by
  obtain ⟨o, ho, hc, hd⟩ := id hit
  obtain ⟨ot, hot, _, nt, hdt⟩ := ht
  unfold Builtin.SmallTypes.nextOf
  refine wpAny_bind (wpAny_callSpecial?_slot (name := Str.ofString "__next__") hit.typeIs F.slot_tuple_iterator_next (wpAny_call_entry F.slot_tuple_iterator_next hit.typeIs F.entry_tuple_iterator_next ?_ (F.args_tuple_iterator_next_1 _)))
  show wpAny _ _ (field (.ref it) 0 >>= _) _ _ s; refine wpAny_bind (wpAny_field ho hd (x := .ref t) rfl ?_)
  show wpAny _ _ (if (Value.ref t == Value.none) = true then _ else _) _ _ s; rw [if_neg (show ¬ ((Value.ref t == Value.none) = true) from Bool.false_ne_true)]
  show wpAny _ _ (field (.ref it) 1 >>= _) _ _ s; refine wpAny_bind (wpAny_field ho hd (x := .int i 0) rfl ?_)
  show wpAny _ _ (seqItems? (.ref t) >>= _) _ _ s; refine wpAny_bind (wpAny_seqItems hot hdt ?_); simp only [Int.toNat_natCast, hx]
  refine wpAny_bind (wpAny_rule (wpAny_bind (wpAny_setField ho hd (by simp) ?_))); show wpAny _ _ (newExc (.type "StopIteration") [] >>= _) _ _ _
  refine wpAny_bind ?_; simp only [newExc, newTuple]; refine wpAny_bind (wpAny_newObj_type ?_ (by size_fits))
  refine wpAny_bind (m := firstArgMember _ _) (wpAny_of_eq (a := Value.none) (by first | rfl | (simp only [firstArgMember]; rfl)) ?_); refine wpAny_newObj_type ?_ (by size_fits); simp only [raiseNew]
  refine wpAny_bind (wpAny_handled ?_); first | rw [show A.in1.handled = none from hh] | rw [hh]
  exact wpAny_bind (wpAny_pure (wpAny_throw (hE _ _ (((Heap.SameBut.update ..).extBut.push _).push _) ⟨_, Heap.get?_push_size _ rfl, rfl⟩)))
end
structure Nx (prog : Program) (w : World) (A : Around) (it l : Addr) (st : Nat → Heap → Prop) (val : Nat → Option Value) : Prop where
  item : ∀ (s : Shared) (k : Nat) (x : Value) (Q : Value → Shared → Prop) (E : Value → Shared → Prop), st k s.heap → val k = some x → (∀ h', st (k + 1) h' → Heap.SameBut it s.heap h' → Q x { s with heap := h' }) → wpAny (model prog w) A (Builtin.SmallTypes.nextOf (.ref it)) Q E s
  stop : ∀ (s : Shared) (k : Nat) (Q : Value → Shared → Prop) (E : Value → Shared → Prop), st k s.heap → val k = none →
    (∀ h' e, Heap.ExtBut it s.heap h' → (∃ o, h'.get? e = some o ∧ o.cls = .type "StopIteration") → E (.ref e) { s with heap := h' }) → wpAny (model prog w) A (Builtin.SmallTypes.nextOf (.ref it)) Q E s
  ext : ∀ (k : Nat) (h h' : Heap), st k h → (∀ b, b = it ∨ b = l → ∀ o, h.get? b = some o → h'.get? b = some o) → st k h'
  there : ∀ (k : Nat) (h : Heap), st k h → (∃ o, h.get? it = some o ∧ ∀ v, o.data ≠ .cell v) ∧ ∃ o, h.get? l = some o
theorem nx_list {prog : Program} {w : World} {A : Around} (hh : A.handled = none) {it l : Addr} (ne : l ≠ it) (items : Array Value) : Nx prog w A it l (fun k h => h.IsListIter it l k ∧ h.IsList l items) (fun k => items[k]?) where
  item := fun s k x Q E st e h => wpAny_nextOf_list_item st.1 st.2 e fun h' a b => h h' ⟨a, st.2.extBut b.extBut ne⟩ b
  stop := fun s k Q E st e h => wpAny_nextOf_list_end hh st.1 st.2 e h
  ext := fun k h h' st kp => ⟨st.1.at fun o e => kp it (.inl rfl) o e, st.2.at fun o e => kp l (.inr rfl) o e⟩
  there := fun k h st => by
    obtain ⟨⟨o, e, c, d⟩, ⟨o2, e2, _⟩⟩ := st
    exact ⟨⟨o, e, fun v z => by rw [d] at z; cases z⟩, o2, e2⟩
theorem nx_tup {prog : Program} {w : World} {A : Around} (hh : A.handled = none) {it l : Addr} (ne : l ≠ it) (items : Array Value) : Nx prog w A it l (fun k h => h.IsTupleIter it l k ∧ h.IsTuple l items) (fun k => items[k]?) where
  item := fun s k x Q E st e h => a3V st.1 st.2 e fun h' a b => h h' ⟨a, st.2.extBut b.extBut ne⟩ b
  stop := fun s k Q E st e h => a4U hh st.1 st.2 e h
  ext := fun k h h' st kp => ⟨st.1.at fun o e => kp it (.inl rfl) o e, st.2.at fun o e => kp l (.inr rfl) o e⟩
  there := fun k h st => by
    obtain ⟨⟨o, e, c, d⟩, ⟨o2, e2, _⟩⟩ := st
    exact ⟨⟨o, e, fun v z => by rw [d] at z; cases z⟩, o2, e2⟩
section
variable {prog : Program} {w : World} {A : Around} {E : Value → Shared → Prop} {s : Shared} {z TI TO i1 i2 l1 l2 : Addr} {k : Nat} {st1 st2 : Nat → Heap → Prop} {v1 v2 : Nat → Option Value} {a b : Value}
theorem a6E {x y : Value} {Q : Value → Shared → Prop} (N1 : Nx prog w A i1 l1 st1 v1) (N2 : Nx prog w A i2 l2 st2 v2) (D : ZipApart z TI TO i1 i2 l1 l2) (hz : IsZip s.heap z TI TO .none) (hTI : IsPair s.heap TI (.ref i1) (.ref i2)) (hTO : IsPair s.heap TO a b)
    (h1 : st1 k s.heap) (h2 : st2 k s.heap) (hx : v1 k = some x) (hy : v2 k = some y)
    (hQ : ∀ h', IsZip h' z TI TO (rawInt s.heap.objs.size) → IsPair h' TO x y → st1 (k + 1) h' → st2 (k + 1) h' → IsPair h' s.heap.objs.size x y → h'.objs.size = s.heap.objs.size + 1 →
      (∀ c o, c ≠ z → c ≠ TO → c ≠ i1 → c ≠ i2 → s.heap.get? c = some o → h'.get? c = some o) → Q (.ref s.heap.objs.size) { s with heap := h' }) :
    wpAny (model prog w) A (Builtin.«zip.__next__» ⟨[.ref z], []⟩) (fun fin s' => ∃ v, fin = .done (.ret v) ∧ Q v s') E s := by
  show wpAny _ _ (field (.ref z) 2 >>= _) _ _ _; refine wpAny_bind (wpAny_field hz rfl (x := .bool false) rfl ?_)
  show wpAny _ _ (field (.ref z) 3 >>= _) _ _ _; refine wpAny_bind (wpAny_field hz rfl (x := .ref TI) rfl ?_); refine wpAny_bind (wpAny_seqItems hTI rfl ?_)
  show wpAny _ _ (Builtin.SmallTypes.ownedTupleIsFree (.ref z) >>= _) _ _ _; refine wpAny_bind ?_; unfold Builtin.SmallTypes.ownedTupleIsFree
  refine wpAny_bind (wpAny_field hz rfl (x := .none) rfl (wpAny_pure ?_)); simp only [if_true]; refine wpAny_bind (wpAny_rule ?_); refine wpAny_bind (wpAny_field hz rfl (x := .ref TO) rfl ?_)
  refine wpAny_bind (wpAny_setField_rec hz (by simp) fun g1 z1 e1 => ?_); replace z1 : IsZip g1 z TI TO .ellipsis := z1
  refine wpAny_bind ?_; simp only [List.zipIdx_cons, List.zipIdx_nil, List.forIn_cons, List.forIn_nil]
  have j1 : st1 k g1 := N1.ext k _ _ h1 fun c hc o q => by rcases hc with rfl | rfl; exact e1.extBut _ _ D.i1z q; exact e1.extBut _ _ D.l1z q
  refine wpAny_bind (wpAny_bind (wpAny_onRaise ?_)); show wpAny _ _ (Builtin.SmallTypes.nextOf (.ref i1) >>= _) _ _ _
  refine wpAny_bind (N1.item _ k x _ _ j1 hx fun g2 j1' e2 => wpAny_pure ?_)
  have t2 : IsPair g2 TO a b := e2.extBut _ _ D.TOi1 (e1.extBut _ _ D.TOz hTO)
  refine wpAny_bind (wpAny_seqItems t2 rfl ?_); refine wpAny_bind (wpAny_updateSeq_pair t2 fun g3 t3 e3 => ?_); replace t3 : IsPair g3 TO x b := t3; refine wpAny_bind (wpAny_letGo (wpAny_pure ?_))
  have j2 : st2 k g3 := N2.ext k _ _ h2 fun c hc o q => by
    rcases hc with rfl | rfl
    · exact e3.extBut _ _ D.TOi2.symm (e2.extBut _ _ D.i12.symm (e1.extBut _ _ D.i2z q))
    · exact e3.extBut _ _ D.l2TO (e2.extBut _ _ D.l2i1 (e1.extBut _ _ D.l2z q))
  refine wpAny_bind (wpAny_bind (wpAny_onRaise ?_)); show wpAny _ _ (Builtin.SmallTypes.nextOf (.ref i2) >>= _) _ _ _
  refine wpAny_bind (N2.item _ k y _ _ j2 hy fun g4 j2' e4 => wpAny_pure ?_)
  have t4 : IsPair g4 TO x b := e4.extBut _ _ D.TOi2 t3
  refine wpAny_bind (wpAny_seqItems t4 rfl ?_); refine wpAny_bind (wpAny_updateSeq_pair t4 fun g5 t5 e5 => ?_); replace t5 : IsPair g5 TO x y := t5; refine wpAny_bind (wpAny_letGo (wpAny_pure (wpAny_pure ?_)))
  refine wpAny_bind (wpAny_seqItems t5 rfl ?_); refine wpAny_bind (wpAny_newTuple ?_)
  have sz : g5.objs.size = s.heap.objs.size := by rw [e5.1, e4.1, e3.1, e2.1, e1.1]
  have z5 : IsZip g5 z TI TO .ellipsis := e5.extBut _ _ D.TOz.symm (e4.extBut _ _ D.i2z.symm (e3.extBut _ _ D.TOz.symm (e2.extBut _ _ D.i1z.symm z1)))
  have k5 : ∀ c o, c ≠ z → c ≠ TO → c ≠ i1 → c ≠ i2 → s.heap.get? c = some o → g5.get? c = some o := fun c o c1 c2 c3 c4 q => e5.extBut _ _ c2 (e4.extBut _ _ c4 (e3.extBut _ _ c2 (e2.extBut _ _ c3 (e1.extBut _ _ c1 q))))
  have j15 : st1 (k + 1) g5 := N1.ext _ _ _ j1' fun c hc o q => by
    rcases hc with rfl | rfl
    · exact e5.extBut _ _ D.TOi1.symm (e4.extBut _ _ D.i12 (e3.extBut _ _ D.TOi1.symm q))
    · exact e5.extBut _ _ D.l1TO (e4.extBut _ _ D.l1i2 (e3.extBut _ _ D.l1TO q))
  have j25 : st2 (k + 1) g5 := N2.ext _ _ _ j2' fun c hc o q => by
    rcases hc with rfl | rfl
    · exact e5.extBut _ _ D.TOi2.symm q
    · exact e5.extBut _ _ D.l2TO q
  have zlt : z < g5.objs.size := Heap.lt_size z5
  show wpAny _ _ (Builtin.SmallTypes.ownedTupleHandOut (.ref z) (.ref g5.objs.size) >>= _) _ _ _; refine wpAny_bind ?_; unfold Builtin.SmallTypes.ownedTupleHandOut
  have z6 : IsZip (g5.push { cls := .type "tuple", data := .seq #[x, y] }) z TI TO .ellipsis := Heap.get?_push_of_some _ z5
  refine wpAny_bind (wpAny_setField_rec z6 (by simp) fun g7 z7 e7 => ?_); replace z7 : IsZip g7 z TI TO (rawInt g5.objs.size) := z7
  refine wpAny_setField_rec z7 (by simp) fun g8 z8 e8 => ?_; replace z8 : IsZip g8 z TI TO (rawInt g5.objs.size) := z8
  have up : ∀ c o, c ≠ z → g5.get? c = some o → g8.get? c = some o := fun c o c1 q => e8.extBut _ _ c1 (e7.extBut _ _ c1 (Heap.get?_push_of_some _ q))
  have t8 : IsPair g8 g5.objs.size x y := e8.extBut _ _ (Nat.ne_of_gt zlt) (e7.extBut _ _ (Nat.ne_of_gt zlt) (Heap.get?_push_size _ rfl))
  have s8 : g8.objs.size = g5.objs.size + 1 := by rw [e8.1, e7.1, Heap.size_push]
  rw [sz] at z8 t8 s8
  refine wpAny_pure ⟨_, rfl, ?_⟩; show Q (.ref g5.objs.size) _; rw [sz]
  refine hQ g8 z8 (up _ _ D.TOz t5) (N1.ext _ _ _ j15 fun c hc o q => ?_) (N2.ext _ _ _ j25 fun c hc o q => ?_) t8 s8 fun c o c1 c2 c3 c4 q => up c o c1 (k5 c o c1 c2 c3 c4 q)
  · rcases hc with rfl | rfl; exact up _ o D.i1z q; exact up _ o D.l1z q
  · rcases hc with rfl | rfl; exact up _ o D.i2z q; exact up _ o D.l2z q
theorem zipN_end {Q : Fin → Shared → Prop} (N1 : Nx prog w A i1 l1 st1 v1) (N2 : Nx prog w A i2 l2 st2 v2) (D : ZipApart z TI TO i1 i2 l1 l2) (hz : IsZip s.heap z TI TO .none) (hTI : IsPair s.heap TI (.ref i1) (.ref i2)) (hTO : IsPair s.heap TO a b)
    (h1 : st1 k s.heap) (h2 : st2 k s.heap) (hend : v1 k = none ∨ v2 k = none)
    (hE : ∀ h' e, (∀ c o, c ≠ z → c ≠ TO → c ≠ i1 → c ≠ i2 → s.heap.get? c = some o → h'.get? c = some o) → (∃ o, h'.get? e = some o ∧ o.cls = .type "StopIteration") → E (.ref e) { s with heap := h' }) :
    wpAny (model prog w) A (Builtin.«zip.__next__» ⟨[.ref z], []⟩) Q E s := by
  show wpAny _ _ (field (.ref z) 2 >>= _) _ _ _; refine wpAny_bind (wpAny_field hz rfl (x := .bool false) rfl ?_)
  show wpAny _ _ (field (.ref z) 3 >>= _) _ _ _; refine wpAny_bind (wpAny_field hz rfl (x := .ref TI) rfl ?_); refine wpAny_bind (wpAny_seqItems hTI rfl ?_)
  show wpAny _ _ (Builtin.SmallTypes.ownedTupleIsFree (.ref z) >>= _) _ _ _; refine wpAny_bind ?_; unfold Builtin.SmallTypes.ownedTupleIsFree
  refine wpAny_bind (wpAny_field hz rfl (x := .none) rfl (wpAny_pure ?_)); simp only [if_true]; refine wpAny_bind (wpAny_rule ?_); refine wpAny_bind (wpAny_field hz rfl (x := .ref TO) rfl ?_)
  refine wpAny_bind (wpAny_setField_rec hz (by simp) fun g1 z1 e1 => ?_); replace z1 : IsZip g1 z TI TO .ellipsis := z1
  refine wpAny_bind ?_; simp only [List.zipIdx_cons, List.zipIdx_nil, List.forIn_cons, List.forIn_nil]
  have j1 : st1 k g1 := N1.ext k _ _ h1 fun c hc o q => by rcases hc with rfl | rfl; exact e1.extBut _ _ D.i1z q; exact e1.extBut _ _ D.l1z q
  refine wpAny_bind (wpAny_bind (wpAny_onRaise ?_)); show wpAny _ _ (Builtin.SmallTypes.nextOf (.ref i1) >>= _) _ _ _
  cases hx : v1 k with
  | none =>
    refine wpAny_bind (N1.stop _ k _ _ j1 hx fun g2 e e2 he => ?_)
    obtain ⟨oe, hoe, hce⟩ := he
    have z2 : IsZip g2 z TI TO .ellipsis := e2 _ _ D.i1z.symm z1
    have hez : e ≠ z := fun x => by subst x; rw [z2] at hoe; cases hoe; simp at hce
    exact wpAny_setField_rec z2 (by simp) fun g3 _ e3 => hE g3 e (fun c o c1 _ c3 _ x => e3.extBut _ _ c1 (e2 _ _ c3 (e1.extBut _ _ c1 x))) ⟨oe, e3.extBut _ _ hez hoe, hce⟩
  | some x =>
    have hy : v2 k = none := by rcases hend with h | h; rw [hx] at h; cases h; exact h
    refine wpAny_bind (N1.item _ k x _ _ j1 hx fun g2 j1' e2 => wpAny_pure ?_)
    have t2 : IsPair g2 TO a b := e2.extBut _ _ D.TOi1 (e1.extBut _ _ D.TOz hTO)
    refine wpAny_bind (wpAny_seqItems t2 rfl ?_); refine wpAny_bind (wpAny_updateSeq_pair t2 fun g3 t3 e3 => ?_); refine wpAny_bind (wpAny_letGo (wpAny_pure ?_))
    have j2 : st2 k g3 := N2.ext k _ _ h2 fun c hc o q => by
      rcases hc with rfl | rfl
      · exact e3.extBut _ _ D.TOi2.symm (e2.extBut _ _ D.i12.symm (e1.extBut _ _ D.i2z q))
      · exact e3.extBut _ _ D.l2TO (e2.extBut _ _ D.l2i1 (e1.extBut _ _ D.l2z q))
    refine wpAny_bind (wpAny_bind (wpAny_onRaise ?_)); show wpAny _ _ (Builtin.SmallTypes.nextOf (.ref i2) >>= _) _ _ _
    refine wpAny_bind (N2.stop _ k _ _ j2 hy fun g4 e e4 he => ?_)
    obtain ⟨oe, hoe, hce⟩ := he
    have z4 : IsZip g4 z TI TO .ellipsis := e4 _ _ D.i2z.symm (e3.extBut _ _ D.TOz.symm (e2.extBut _ _ D.i1z.symm z1))
    have hez : e ≠ z := fun x => by subst x; rw [z4] at hoe; cases hoe; simp at hce
    exact wpAny_setField_rec z4 (by simp) fun g5 _ e5 => hE g5 e (fun c o c1 c2 c3 c4 x => e5.extBut _ _ c1 (e4 _ _ c4 (e3.extBut _ _ c2 (e2.extBut _ _ c3 (e1.extBut _ _ c1 x))))) ⟨oe, e5.extBut _ _ hez hoe, hce⟩
end
end L2
namespace L2
open PySem PySem.Spec PyProof.Rows
section
variable {X : Cx} {pins : List (Addr × Obj)} {σ : St} {H : Hp} {s : Shared} {h' : Heap}
theorem Inv.turnedN {t' : Nat} {ch : List Addr} (I : Inv X pins σ H s) (k : ∀ b o, b ∉ ch → s.heap.get? b = some o → h'.get? b = some o) (hf : ∀ b ∈ ch, FpOk X pins H b) : Inv X pins σ H { s with heap := h', toks := t' } := by
  have nch : ∀ b u, H b = some u → b ∉ ch := fun b u e z => by rw [(hf b z).1] at e; cases e
  refine I.step (g' := s.gens) (d' := s.drawn) (ch := ch) (fun b hb => ⟨(hf b hb).2.2.2.1, (hf b hb).2.1, (hf b hb).2.2.2.2.1, (hf b hb).2.2.2.2.2⟩) (fun b o _ _ hc e _ => k b o hc e) (fun b o _ _ hc e _ => ⟨o.slots, k b o hc e⟩) (fun _ _ _ _ n => n)
    (fun b o hc e => ⟨o, k b o hc e⟩) (fun _ _ e => e) (fun _ _ _ e => e) (fun b ps e => ⟨#[], by rw [e]; simp⟩) (fun m hm => ?_) (fun b u e => ?_) I.bare
  · obtain ⟨o, es, ep, ho, r⟩ := hm
    exact ⟨o, es, ep, k _ o (fun z => (hf _ z).2.1 rfl) ho, r⟩
  · refine (I.hok b u e).stay (fun c v hc q => k c v ?_ q) (fun _ q => q) (fun _ _ q => q) fun _ _ _ q => q
    rcases hc with z | z
    · rw [z]; exact nch b u e
    · exact nch c _ z
theorem Inv.track {a : Addr} {o : HO} (I : Inv X pins σ H s) (hf : FpOk X pins H a) (new : ObjOk X.prog X.w (upd H a o) s.heap a o) : Inv X pins σ (upd H a o) s := by
  have ne : ∀ b u, H b = some u → b ≠ a := fun b u e z => by rw [z, hf.1] at e; cases e
  have z := I.step (g' := s.gens) (d' := s.drawn) (t' := s.toks) (h' := s.heap) (H' := upd H a o) (ch := [a]) (fun b hb => by rw [List.mem_singleton.mp hb]; exact ⟨hf.2.2.2.1, hf.2.1, hf.2.2.2.2.1, hf.2.2.2.2.2⟩) (fun b o _ _ _ e _ => e) (fun b o _ _ _ e _ => ⟨o.slots, e⟩)
    (fun b u hc _ n => by rw [upd_ne (fun z => hc (by simp [z]))]; exact n) (fun b o _ e => ⟨o, e⟩) (fun b xs e => by rw [upd_ne (ne b _ e)]; exact e) (fun b u v e => by rw [upd_ne (ne b _ e)]; exact e) (fun b ps e => ⟨#[], by rw [upd_ne (ne b _ e), e]; simp⟩) (fun m hm => hm) (fun b u e => ?_) I.bare
  · exact z
  · by_cases hb : b = a
    · subst hb
      rw [upd_same] at e
      cases e
      exact new
    · rw [upd_ne hb] at e
      exact (I.hok b u e).stay (fun _ _ _ q => q) (fun c q => by rw [upd_ne (ne c _ q)]; exact q) (fun c xs q => by rw [upd_ne (ne c _ q)]; exact q) fun c ob u q => by rw [upd_ne (ne c _ q)]; exact q
end
def SqX (K : PySem.W.Frag) (H : Hp) : Bool → Addr → List V → Prop
  | true, a, xs => SqL K H a xs
  | false, a, xs => SqT K H a xs
def itX (h : Heap) : Bool → Addr → Addr → Nat → Prop
  | true, it, l, k => h.IsListIter it l k
  | false, it, l, k => h.IsTupleIter it l k
def isX (h : Heap) : Bool → Addr → Array Value → Prop
  | true, l, its => h.IsList l its
  | false, l, its => h.IsTuple l its
theorem nx_X {prog : Program} {w : World} {A : Around} (hh : A.handled = none) {it l : Addr} (ne : l ≠ it) (items : Array Value) (b : Bool) : Nx prog w A it l (fun k h => itX h b it l k ∧ isX h b l items) (fun k => items[k]?) := by
  cases b with
  | true => exact nx_list hh ne items
  | false => exact nx_tup hh ne items
theorem Inv.seqX {X : Cx} {pins : List (Addr × Obj)} {σ : St} {H : Hp} {s : Shared} {b : Bool} {a : Addr} {xs : List V} (I : Inv X pins σ H s) (h : SqX X.K H b a xs) : ∃ its : List Value, Vals xs its ∧ isX s.heap b a its.toArray ∧ a < s.heap.objs.size := by
  cases b with
  | true =>
    obtain ⟨its, r, p, _⟩ := I.list h
    refine ⟨its, r, p.isList, ?_⟩
    obtain ⟨_, e, _⟩ := p.isList
    exact Heap.lt_size e
  | false =>
    obtain ⟨its, r, p, _⟩ := I.tuple h
    refine ⟨its, r, p, ?_⟩
    obtain ⟨_, e, _⟩ := p
    exact Heap.lt_size e
theorem Inv.seqX_inj {X : Cx} {pins : List (Addr × Obj)} {σ : St} {H : Hp} {s : Shared} {b : Bool} {a : Addr} {xs ys : List V} (I : Inv X pins σ H s) (h : SqX X.K H b a xs) (h' : SqX X.K H b a ys) : xs = ys := by
  cases b with
  | true => exact I.list_inj h h'
  | false => exact I.tuple_inj h h'
def Itz (K : PySem.W.Frag) (b1 : Bool) (l1 : Addr) (b2 : Bool) (l2 : Addr) : It :=
  ⟨fun i H => ∃ xs ys x y, SqX K H b1 l1 xs ∧ SqX K H b2 l2 ys ∧ xs[i]? = some x ∧ ys[i]? = some y,
   fun i H x H' => ∃ p u v, x = .ref p ∧ H p = none ∧ H' = upd H p (.tup [u, v]) ∧ (∀ xs, SqX K H b1 l1 xs → xs[i]? = some u) ∧ ∀ ys, SqX K H b2 l2 ys → ys[i]? = some v,
   fun i H => ∃ xs ys, SqX K H b1 l1 xs ∧ SqX K H b2 l2 ys ∧ (xs.length ≤ i ∨ ys.length ≤ i)⟩
theorem turn_zip {P : Program} {w : World} {K : PySem.W.Frag} {elts : List Expr} {kt : Nat} {tp : Pos} (b1 b2 : Bool) (z TI TO i1 i2 l1 l2 : Addr) (D : ZipApart z TI TO i1 i2 l1 l2) :
    Turn P w K (.Tuple elts kt tp) (Itz K b1 l1 b2 l2) [z, TI, TO, i1, i2] z (fun i h => IsZip h z TI TO .none ∧ IsPair h TI (.ref i1) (.ref i2) ∧ (∃ a b, IsPair h TO a b) ∧ itX h b1 i1 l1 i ∧ itX h b2 i2 l2 i) where
  mem := by simp
  obj := fun i h ⟨hz, hTI, ⟨a, b, hTO⟩, j1, j2⟩ c hc => by
    have rec1 : ∀ (b : Bool) (it l : Addr), itX h b it l i → ∃ o, h.get? it = some o ∧ ∀ v, o.data ≠ .cell v := fun b it l j => by
      cases b with
      | true => obtain ⟨o, e, _, d⟩ := j; exact ⟨o, e, fun v z => by rw [d] at z; cases z⟩
      | false => obtain ⟨o, e, _, d⟩ := j; exact ⟨o, e, fun v z => by rw [d] at z; cases z⟩
    rcases List.mem_cons.mp hc with rfl | hc
    · exact ⟨_, hz, fun v z => nomatch z⟩
    rcases List.mem_cons.mp hc with rfl | hc
    · exact ⟨_, hTI, fun v z => nomatch z⟩
    rcases List.mem_cons.mp hc with rfl | hc
    · exact ⟨_, hTO, fun v z => nomatch z⟩
    rcases List.mem_cons.mp hc with rfl | hc
    · exact rec1 b1 _ _ j1
    · rw [List.mem_singleton.mp hc]; exact rec1 b2 _ _ j2
  keep := fun i h h' ⟨hz, hTI, ⟨a, b, hTO⟩, j1, j2⟩ k => by
    have rec1 : ∀ (b : Bool) (it l : Addr), it ∈ [z, TI, TO, i1, i2] → itX h b it l i → itX h' b it l i := fun b it l m j => by
      cases b with
      | true => exact Heap.IsListIter.at j fun o e => k it m o e
      | false => exact Heap.IsTupleIter.at j fun o e => k it m o e
    exact ⟨k z (by simp) _ hz, k TI (by simp) _ hTI, ⟨a, b, k TO (by simp) _ hTO⟩, rec1 b1 _ _ (by simp) j1, rec1 b2 _ _ (by simp) j2⟩
  item := by
    intro X hP hw hK hc i pins s σ H E I hf ⟨hz, hTI, ⟨a, b, hTO⟩, j1, j2⟩ ⟨xs, ys, x, y, q1, q2, hx, hy⟩
    subst hP hw hK
    obtain ⟨t1, r1, p1, _⟩ := I.seqX q1
    obtain ⟨t2, r2, p2, _⟩ := I.seqX q2
    obtain ⟨u1, e1, ru1⟩ := r1.get hx
    obtain ⟨u2, e2, ru2⟩ := r2.get hy
    have hT : s.TypeIs (.ref z) "zip" := ⟨_, hz, rfl⟩
    have N1 := nx_X (prog := X.prog) (w := X.w) (A := X.A.in1) (I.ok.hd hc) D.l1i1 t1.toArray b1
    have N2 := nx_X (prog := X.prog) (w := X.w) (A := X.A.in1) (I.ok.hd hc) D.l2i2 t2.toArray b2
    unfold pyNext
    refine wpAny_bind (wpAny_attempt (wpAny_callSpecial?_slot (name := Str.ofString "__next__") hT F.slot_zip_next (wpAny_call_entry F.slot_zip_next hT F.entry_zip_next
      (a6E N1 N2 D hz hTI hTO ⟨j1, p1⟩ ⟨j2, p2⟩ (by simpa using e1) (by simpa using e2) fun g zg tg s1 s2 pg sz kg => wpAny_pure ⟨_, rfl, ?_⟩) (F.args_zip_next_1 _))))
    refine wpAny_letOwnedTupleGo_zip zg fun g2 zg2 sb => ?_
    have keepg : ∀ c o, c ∉ [z, TO, i1, i2] → s.heap.get? c = some o → g2.get? c = some o := fun c o hc e => by
      have c1 : c ≠ z ∧ c ≠ TO ∧ c ≠ i1 ∧ c ≠ i2 := by simpa using hc
      exact sb.extBut _ _ c1.1 (kg c o c1.1 c1.2.1 c1.2.2.1 c1.2.2.2 e)
    have I1 : Inv X pins σ H { s with heap := g2 } := I.turnedN (t' := s.toks) keepg fun c hc => hf c (by
      have : c = z ∨ c = TO ∨ c = i1 ∨ c = i2 := by simpa using hc
      rcases this with rfl | rfl | rfl | rfl <;> simp)
    have zlt : z < s.heap.objs.size := Heap.lt_size hz
    have pT : IsPair g2 s.heap.objs.size u1 u2 := sb.extBut _ _ (Nat.ne_of_gt zlt) pg
    have fT : FpOk X pins H s.heap.objs.size := I.fpOk (Nat.le_refl _) I.fresh
    have I2 : Inv X pins σ (upd H s.heap.objs.size (.tup [x, y])) { s with heap := g2 } := I1.track fT ⟨by show 2 ≤ sizeLine; decide, [u1, u2], .cons ru1 (.cons ru2 .nil), ⟨_, pT, rfl, _, rfl⟩⟩
    have mv : ∀ (b : Bool) (it l : Addr), it ≠ z → itX g b it l (i + 1) → itX g2 b it l (i + 1) := fun b it l ne j => by
      cases b with
      | true => exact Heap.IsListIter.at j fun o e => sb.extBut _ _ ne e
      | false => exact Heap.IsTupleIter.at j fun o e => sb.extBut _ _ ne e
    refine ⟨.ref s.heap.objs.size, _, I2, rfl, ⟨_, x, y, rfl, I.fresh, rfl, fun xs' q => by rw [I.seqX_inj q q1]; exact hx, fun ys' q => by rw [I.seqX_inj q q2]; exact hy⟩,
      ⟨zg2, sb.extBut _ _ D.TIz (kg _ _ D.TIz D.TITO D.TIi1 D.TIi2 hTI), ⟨_, _, sb.extBut _ _ D.TOz tg⟩, mv b1 _ _ D.i1z s1.1, mv b2 _ _ D.i2z s2.1⟩, fun c hc => ?_⟩
    rw [upd_ne]
    · exact (hf c hc).1
    · intro e
      have hlt : ∀ c ∈ [z, TI, TO, i1, i2], c < s.heap.objs.size := fun c hc => by
        have r1 : ∀ (b : Bool) (it l : Addr), itX s.heap b it l i → it < s.heap.objs.size := fun b it l j => by
          cases b with
          | true => obtain ⟨o, e, _⟩ := j; exact Heap.lt_size e
          | false => obtain ⟨o, e, _⟩ := j; exact Heap.lt_size e
        have : c = z ∨ c = TI ∨ c = TO ∨ c = i1 ∨ c = i2 := by simpa using hc
        rcases this with rfl | rfl | rfl | rfl | rfl
        · exact zlt
        · exact Heap.lt_size hTI
        · exact Heap.lt_size hTO
        · exact r1 b1 _ _ j1
        · exact r1 b2 _ _ j2
      have := hlt c hc
      rw [e] at this
      exact Nat.lt_irrefl _ this
  done := by
    intro X hP hw hK hc i pins s σ H E I hf ⟨hz, hTI, ⟨a, b, hTO⟩, j1, j2⟩ ⟨xs, ys, q1, q2, hl⟩
    subst hP hw hK
    obtain ⟨t1, r1, p1, _⟩ := I.seqX q1
    obtain ⟨t2, r2, p2, _⟩ := I.seqX q2
    have hT : s.TypeIs (.ref z) "zip" := ⟨_, hz, rfl⟩
    have N1 := nx_X (prog := X.prog) (w := X.w) (A := X.A.in1) (I.ok.hd hc) D.l1i1 t1.toArray b1
    have N2 := nx_X (prog := X.prog) (w := X.w) (A := X.A.in1) (I.ok.hd hc) D.l2i2 t2.toArray b2
    have le1 := r1.length
    have le2 := r2.length
    have hend : (t1.toArray)[i]? = none ∨ (t2.toArray)[i]? = none := by
      rcases hl with h | h
      · exact .inl (by simp; omega)
      · exact .inr (by simp; omega)
    unfold pyNext
    refine wpAny_bind (wpAny_attempt (wpAny_callSpecial?_slot (name := Str.ofString "__next__") hT F.slot_zip_next (wpAny_call_entry F.slot_zip_next hT F.entry_zip_next (zipN_end N1 N2 D hz hTI hTO ⟨j1, p1⟩ ⟨j2, p2⟩ hend fun g e kg ⟨o, ho, hc⟩ => ?_) (F.args_zip_next_1 _))))
    refine wpAny_bind (wpAny_isInstance (T := "StopIteration") (b := true) ⟨o, ho, hc⟩ isSubtype_stop (wpAny_pure ⟨rfl, I.turnedN (ch := [z, TO, i1, i2]) (t' := s.toks) (fun c o hc e => ?_) fun c hc => hf c ?_⟩))
    · have c1 : c ≠ z ∧ c ≠ TO ∧ c ≠ i1 ∧ c ≠ i2 := by simpa using hc
      exact kg c o c1.1 c1.2.1 c1.2.2.1 c1.2.2.2 e
    · have : c = z ∨ c = TO ∨ c = i1 ∨ c = i2 := by simpa using hc
      rcases this with rfl | rfl | rfl | rfl <;> simp
  self := fun A i s Q E st h => wpAny_pyIter_zip st.1 h
abbrev zt1 (h : Heap) (l1 : Addr) : Heap := h.push { cls := .type "tuple_iterator", data := .fields #[.ref l1, .int 0 0] }
abbrev zt2 (h : Heap) (l1 l2 : Addr) : Heap := (zt1 h l1).push { cls := .type "tuple_iterator", data := .fields #[.ref l2, .int 0 0] }
abbrev zt3 (h : Heap) (l1 l2 : Addr) : Heap := (zt2 h l1 l2).push { cls := .type "tuple", data := .seq #[.ref h.objs.size, .ref (zt1 h l1).objs.size] }
abbrev zt4 (h : Heap) (l1 l2 : Addr) : Heap := (zt3 h l1 l2).push { cls := .type "tuple", data := .seq #[.none, .none] }
abbrev zt5 (h : Heap) (l1 l2 : Addr) : Heap := (zt4 h l1 l2).push { cls := .type "zip", data := .fields #[.none, .bool false, .bool false, .ref (zt2 h l1 l2).objs.size, .ref (zt3 h l1 l2).objs.size] }
theorem a57 {h : Heap} {a : Addr} {its : Array Value} (x : h.IsTuple a its) (o : Obj) : (h.push o).IsTuple a its := Heap.IsTuple.at x fun _ e => Heap.get?_push_of_some _ e
theorem a4j (l1 l2 : Addr) (xs ys : Array Value) :
    Meets (Builtin.«zip.__new__» ⟨[.type "zip", .ref l1, .ref l2], []⟩) (fun _ R s => s.heap.IsTuple l1 xs ∧ s.heap.IsTuple l2 ys ∧ R (.ok (.ret (.ref (zt4 s.heap l1 l2).objs.size))) { s with heap := zt5 s.heap l1 l2 }) :=
  .of_wp fun prog w A R s h => by
    obtain ⟨hp, g, d, tk, os⟩ := s
    obtain ⟨hl1, hl2, h⟩ := h
    have hsub := sub_zip
    have q1 : Heap.IsTuple (Shared.heap ⟨hp, g, d, tk, os⟩) l1 xs := hl1
    have q2 : Heap.IsTuple (Shared.heap ⟨hp.push { cls := .type "tuple_iterator", data := .fields #[.ref l1, .int 0 0] }, g, d, tk, os⟩) l2 ys := a57 hl2 _
    wp_walk using wpAny_pyIter_tuple q1, wpAny_pyIter_tuple q2
    exact ⟨_, rfl, h⟩
section
variable {prog : Program} {w : World} {A : Around} {E : Value → Shared → Prop} {s : Shared}
theorem a7t {b : Bool} {l1 l2 : Addr} {xs ys : Array Value} {Q : Value → Shared → Prop} (h1 : isX s.heap b l1 xs) (h2 : isX s.heap b l2 ys)
    (h : ∀ h', IsZip h' (s.heap.objs.size + 4) (s.heap.objs.size + 2) (s.heap.objs.size + 3) .none → IsPair h' (s.heap.objs.size + 2) (.ref s.heap.objs.size) (.ref (s.heap.objs.size + 1)) → IsPair h' (s.heap.objs.size + 3) .none .none →
      itX h' b s.heap.objs.size l1 0 → itX h' b (s.heap.objs.size + 1) l2 0 → (∀ c o, s.heap.get? c = some o → h'.get? c = some o) → Q (.ref (s.heap.objs.size + 4)) { s with heap := h' }) :
    wpAny (model prog w) A (call (.type "zip") [.ref l1, .ref l2]) Q E s := by
  cases b with
  | true => exact call_zip_2 h1 h2 fun h' a1 a2 a3 a4 a5 _ a7 => h h' a1 a2 a3 a4 a5 a7
  | false =>
    refine callType_new F.called_zip (by decide) (F.typeCall_zip_2 _ _) (F.newCall_zip_2 _ _) (fun obj => F.args_object_init_3 obj _ _) F.entry_zip_new (a4j l1 l2 xs ys) ⟨h1, h2, ?_⟩
    have n1 : (zt1 s.heap l1).objs.size = s.heap.objs.size + 1 := Heap.size_push ..
    have n2 : (zt2 s.heap l1 l2).objs.size = s.heap.objs.size + 2 := by rw [Heap.size_push, n1]
    have n3 : (zt3 s.heap l1 l2).objs.size = s.heap.objs.size + 3 := by rw [Heap.size_push, n2]
    have n4 : (zt4 s.heap l1 l2).objs.size = s.heap.objs.size + 4 := by rw [Heap.size_push, n3]
    have p (o : Obj) {h : Heap} {c : Addr} {u : Obj} (e : h.get? c = some u) : (h.push o).get? c = some u := Heap.get?_push_of_some _ e
    have g5 : (zt5 s.heap l1 l2).get? (zt4 s.heap l1 l2).objs.size = some _ := Heap.get?_push_size _ rfl
    have g4 : (zt5 s.heap l1 l2).get? (zt3 s.heap l1 l2).objs.size = some _ := p _ (Heap.get?_push_size _ rfl)
    have g3 : (zt5 s.heap l1 l2).get? (zt2 s.heap l1 l2).objs.size = some _ := p _ (p _ (Heap.get?_push_size _ rfl))
    have g2 : (zt5 s.heap l1 l2).get? (zt1 s.heap l1).objs.size = some _ := p _ (p _ (p _ (Heap.get?_push_size _ rfl)))
    have g1 : (zt5 s.heap l1 l2).get? s.heap.objs.size = some _ := p _ (p _ (p _ (p _ (Heap.get?_push_size _ rfl))))
    show _ ∧ _
    rw [n2, n3, n4] at g5; rw [n1, n2] at g3; rw [n3] at g4; rw [n1] at g2; rw [n4]
    exact ⟨⟨_, g5, rfl⟩, h _ g5 g3 g4 ⟨_, g1, rfl, rfl⟩ ⟨_, g2, rfl, rfl⟩ fun c o x => p _ (p _ (p _ (p _ (p _ x))))⟩
end
section
variable {X : Cx}
def iZipX (K : PySem.W.Frag) (ta : TA) : TI := fun σ H R => ta σ H fun vs H1 => ∃ b l1 l2, vs = [.ref l1, .ref l2] ∧ (∃ xs, SqX K H1 b l1 xs) ∧ (∃ ys, SqX K H1 b l2 ys) ∧ R (Itz K b l1 b l2) H1
theorem pi_zip {a b : Expr} {ta : TA} {p pos : Pos} {elts : List Expr} {kt : Nat} {tp : Pos} (hg : Gl X "zip") (hm : X.mg "zip" = none) (ha : PA X [a, b] ta) (hs : starEach [a, b] X.env = [(false, eval a X.env), (false, eval b X.env)] := by rfl) (hs2 : starEach [b] X.env = [(false, eval b X.env)] := by rfl) :
    PI X (.Tuple elts kt tp) (.Call (.Name "zip" p) [a, b] [] pos) (iZipX X.K ta) := by
  intro pins s σ H R I h
  refine Call_ (ld_blt I hg hm boot_zip (PyProof.Rows.callWith_type1 (thn (ha pos pins s σ H _ I h) fun us s1 ⟨vs, H1, I1, r1, b, l1, l2, e, ⟨xs, q1⟩, ⟨ys, q2⟩, q⟩ => ?_) (by rw [hs, hs2]) (by rw [hs2]; rfl)))
  subst e
  obtain ⟨u, w, rfl, r1, r2⟩ := vals2 r1
  cases r1
  cases r2
  obtain ⟨t1, _, p1, lt1⟩ := I1.seqX q1
  obtain ⟨t2, _, p2, lt2⟩ := I1.seqX q2
  refine a7t p1 p2 fun h' z1 z2 z3 j1 j2 kp => wpAny_pyIter_zip z1 ?_
  have D : ZipApart (s1.heap.objs.size + 4) (s1.heap.objs.size + 2) (s1.heap.objs.size + 3) s1.heap.objs.size (s1.heap.objs.size + 1) l1 l2 := zipApart_new lt1 lt2
  refine ⟨_, _, _, _, H1, rfl, I1.kept (t' := s1.toks) kp, turn_zip b b _ _ _ _ _ l1 l2 D, ⟨z1, z2, ⟨_, _, z3⟩, j1, j2⟩, fun c hc => ?_, q⟩
  have hle : s1.heap.objs.size ≤ c := by
    have : c = s1.heap.objs.size + 4 ∨ c = s1.heap.objs.size + 2 ∨ c = s1.heap.objs.size + 3 ∨ c = s1.heap.objs.size ∨ c = s1.heap.objs.size + 1 := by simpa using hc
    rcases this with rfl | rfl | rfl | rfl | rfl
    · exact Nat.le_add_right _ _
    · exact Nat.le_add_right _ _
    · exact Nat.le_add_right _ _
    · exact Nat.le_refl _
    · exact Nat.le_add_right _ _
  exact I1.fpOk hle (I1.hok.fresh hle)
end
end L2
namespace L2
open PySem PySem.Spec PyProof.Rows
theorem a7n {prog : Program} {w : World} {A : Around} (hh : A.handled = none) {it l : Addr} (ne : l ≠ it) (items : Array Value) : Draws prog w A it [it, l] items.size (fun i v => items[i]? = some v) (fun i h => h.IsTupleIter it l i ∧ h.IsTuple l items) where
  live := fun _ _ st => by obtain ⟨⟨o, e, _⟩, _⟩ := st; exact ⟨o, e⟩
  frame := fun _ _ _ st k => ⟨Heap.IsTupleIter.at st.1 fun o e => k it (by simp) o e, Heap.IsTuple.at st.2 fun o e => k l (by simp) o e⟩
  item := fun i s Q E hi st hQ => a3V st.1 st.2 (Array.getElem?_eq_getElem hi) fun g a b => hQ _ g s.toks (Array.getElem?_eq_getElem hi) ⟨a, st.2.extBut b.extBut ne⟩ b
  done := fun s Q E st hE => a4U hh st.1 st.2 (by simp) hE
theorem draws_X {prog : Program} {w : World} {A : Around} (hh : A.handled = none) {it l : Addr} (ne : l ≠ it) (items : Array Value) (b : Bool) : Draws prog w A it [it, l] items.size (fun i v => items[i]? = some v) (fun i h => itX h b it l i ∧ isX h b l items) := by
  cases b with
  | true => exact Draws.list hh it l ne items
  | false => exact a7n hh ne items
def Ite (K : PySem.W.Frag) (b : Bool) (l : Addr) : It :=
  ⟨fun i H => ∃ xs x, SqX K H b l xs ∧ xs[i]? = some x,
   fun i H x H' => ∃ p u, x = .ref p ∧ H p = none ∧ H' = upd H p (.tup [.int i, u]) ∧ ∀ xs, SqX K H b l xs → xs[i]? = some u,
   fun i H => ∃ xs, SqX K H b l xs ∧ xs.length ≤ i⟩
theorem itX_rec {h : Heap} {b : Bool} {it l : Addr} {i : Nat} (j : itX h b it l i) : ∃ o, h.get? it = some o ∧ ∀ v, o.data ≠ .cell v := by
  cases b with
  | true => obtain ⟨o, e, _, d⟩ := j; exact ⟨o, e, fun v z => by rw [d] at z; cases z⟩
  | false => obtain ⟨o, e, _, d⟩ := j; exact ⟨o, e, fun v z => by rw [d] at z; cases z⟩
theorem itX_at {h h' : Heap} {b : Bool} {it l : Addr} {i : Nat} (j : itX h b it l i) (k : ∀ o, h.get? it = some o → h'.get? it = some o) : itX h' b it l i := by
  cases b with
  | true => exact Heap.IsListIter.at j k
  | false => exact Heap.IsTupleIter.at j k
theorem a6K {P : Program} {w : World} {K : PySem.W.Frag} {elts : List Expr} {kt : Nat} {tp : Pos} (b : Bool) (e it l : Addr) (hei : e ≠ it) (hle : l ≠ e) (hli : l ≠ it) :
    Turn P w K (.Tuple elts kt tp) (Ite K b l) [e, it] e (fun i h => (∃ old, IsEnum h e it i old) ∧ itX h b it l i) where
  mem := by simp
  obj := fun i h ⟨⟨old, he⟩, j⟩ c hc => by
    rcases List.mem_cons.mp hc with rfl | hc
    · exact ⟨_, he, fun v z => nomatch z⟩
    · rw [List.mem_singleton.mp hc]; exact itX_rec j
  keep := fun i h h' ⟨⟨old, he⟩, j⟩ k => ⟨⟨old, k e (by simp) _ he⟩, itX_at j fun o z => k it (by simp) o z⟩
  item := by
    intro X hP hw hK hc i pins s σ H E I hf ⟨⟨old, he⟩, j⟩ ⟨xs, x, q1, hx⟩
    subst hP hw hK
    obtain ⟨t1, r1, p1, lt1⟩ := I.seqX q1
    obtain ⟨u1, e1, ru1⟩ := r1.get hx
    have hi : i < t1.toArray.size := by
      have := (List.getElem?_eq_some_iff.mp e1).1
      simpa using this
    have W := WalksT.enumerateD (draws_X (prog := X.prog) (w := X.w) (A := X.A.in1) (I.ok.hd hc) hli t1.toArray b) e hei (by simp [hei, Ne.symm hle]) (by simp)
    refine W.item i s _ _ hi ⟨⟨old, he⟩, j, p1⟩ fun T vals h' tk ⟨t, v, hv, ev⟩ hT isT mid kp => ?_
    have ev1 : v = u1 := by
      have : t1[i]? = some v := by simpa using hv
      rw [e1] at this
      exact (Option.some.inj this).symm
    subst ev1
    refine ⟨_, rfl, W.go elts kt tp i T { s with heap := h', toks := tk } _ _ mid fun h2 st2 kp2 => ?_⟩
    have Tn : T ∉ [e, it] := W.apart i T h' mid
    have I1 : Inv X pins σ H { s with heap := h2, toks := tk } := I.turnedN (t' := tk) (ch := [e, it]) (fun c o hc z => kp2 c o hc (kp c o hc z)) hf
    have fT : FpOk X pins H T := I.fpOk hT (I.hok.fresh hT)
    have I2 : Inv X pins σ (upd H T (.tup [.int i, x])) { s with heap := h2, toks := tk } := I1.track fT ⟨by show 2 ≤ sizeLine; decide, [.int i t, v], .cons ⟨t, rfl⟩ (.cons ru1 .nil), by
      rw [ev] at isT
      exact Heap.IsTuple.at isT fun o z => kp2 T o Tn z⟩
    refine ⟨.ref T, _, I2, rfl, ⟨T, x, rfl, fT.1, rfl, fun xs' q => by rw [I.seqX_inj q q1]; exact hx⟩, ⟨st2.1, st2.2.1⟩, fun c hc => ?_⟩
    rw [upd_ne]
    · exact (hf c hc).1
    · intro z; subst z; exact Tn hc
  done := by
    intro X hP hw hK hc i pins s σ H E I hf ⟨⟨old, he⟩, j⟩ ⟨xs, q1, hl⟩
    subst hP hw hK
    obtain ⟨t1, r1, p1, lt1⟩ := I.seqX q1
    have le1 := r1.length
    have hT : s.TypeIs (.ref e) "enumerate" := ⟨_, he, rfl⟩
    have N1 := nx_X (prog := X.prog) (w := X.w) (A := X.A.in1) (I.ok.hd hc) hli t1.toArray b
    unfold pyNext
    refine wpAny_bind (wpAny_attempt (wpAny_callSpecial?_slot (name := Str.ofString "__next__") hT F.slot_enumerate_next (wpAny_call_entry F.slot_enumerate_next hT F.entry_enumerate_next ?_ (F.args_enumerate_next_1 _))))
    show wpAny _ _ (field (.ref e) 2 >>= _) _ _ _
    refine wpAny_bind (wpAny_field he rfl (x := .ref it) rfl (wpAny_bind (N1.stop s i _ _ ⟨j, p1⟩ (by simp; omega) fun g z kg ⟨o, ho, hc⟩ => ?_)))
    refine wpAny_bind (wpAny_isInstance (T := "StopIteration") (b := true) ⟨o, ho, hc⟩ isSubtype_stop (wpAny_pure ⟨rfl, I.turnedN (ch := [e, it]) (t' := s.toks) (fun c o hc z => kg c o ?_ z) hf⟩))
    intro z
    exact hc (by simp [z])
  self := fun A i s Q E st h => by
    obtain ⟨⟨old, he⟩, _⟩ := st
    exact wpAny_pyIter_enum he h
abbrev et1 (h : Heap) (l : Addr) : Heap := h.push { cls := .type "tuple_iterator", data := .fields #[.ref l, .int 0 0] }
abbrev et2 (h : Heap) (l : Addr) : Heap := (et1 h l).push { cls := .type "enumerate", data := .fields #[.none, .bool false, .ref h.objs.size, rawInt 0, .none, .none] }
theorem a3H (l : Addr) (xs : Array Value) :
    Meets (Builtin.«enumerate.__new__» ⟨[.type "enumerate", .ref l], []⟩) (fun _ R s => s.heap.IsTuple l xs ∧ R (.ok (.ret (.ref (et1 s.heap l).objs.size))) { s with heap := et2 s.heap l }) :=
  .of_wp fun prog w A R s h => by
    obtain ⟨hp, g, d, tk, os⟩ := s
    obtain ⟨hl, h⟩ := h
    have hsub := sub_enumerate
    have q1 : Heap.IsTuple (Shared.heap ⟨hp, g, d, tk, os⟩) l xs := hl
    wp_walk using wpAny_pyIter_tuple q1
    refine wpAny_stack_any fun st => wpAny_pure ?_
    split
    · rename_i c _ _ _ _ _
      cases (c == Value.type "enumerate") <;> (wp_walk using wpAny_pyIter_tuple q1; exact ⟨_, rfl, h⟩)
    · wp_walk using wpAny_pyIter_tuple q1; exact ⟨_, rfl, h⟩
section
variable {prog : Program} {w : World} {A : Around} {E : Value → Shared → Prop} {s : Shared}
theorem a6x {b : Bool} {l : Addr} {xs : Array Value} {Q : Value → Shared → Prop} (h1 : isX s.heap b l xs)
    (h : ∀ h', IsEnum h' (s.heap.objs.size + 1) s.heap.objs.size 0 .none → itX h' b s.heap.objs.size l 0 → (∀ c o, s.heap.get? c = some o → h'.get? c = some o) → Q (.ref (s.heap.objs.size + 1)) { s with heap := h' }) :
    wpAny (model prog w) A (call (.type "enumerate") [.ref l]) Q E s := by
  cases b with
  | true => exact call_enumerate_list h1 fun h' a1 a2 _ a4 => h h' a1 a2 a4
  | false =>
    refine callType_new F.called_enumerate (by decide) (F.typeCall_enumerate_1 _) (F.newCall_enumerate_1 _) (fun obj => F.args_object_init_2 obj _) F.entry_enumerate_new (a3H l xs) ⟨h1, ?_⟩
    have n1 : (et1 s.heap l).objs.size = s.heap.objs.size + 1 := Heap.size_push ..
    have g2 : (et2 s.heap l).get? (et1 s.heap l).objs.size = some _ := Heap.get?_push_size _ rfl
    have g1 : (et2 s.heap l).get? s.heap.objs.size = some _ := Heap.get?_push_of_some _ (Heap.get?_push_size _ rfl)
    show _ ∧ _
    rw [n1] at g2; rw [n1]
    exact ⟨⟨_, g2, rfl⟩, h _ g2 ⟨_, g1, rfl, rfl⟩ fun c o x => Heap.get?_push_of_some _ (Heap.get?_push_of_some _ x)⟩
end
section
variable {X : Cx}
theorem a7A : bootBuiltins "enumerate" = some (.type "enumerate") := by decide +kernel
def iEnumX (K : PySem.W.Frag) (ta : TA) : TI := fun σ H R => ta σ H fun vs H1 => ∃ b l, vs = [.ref l] ∧ (∃ xs, SqX K H1 b l xs) ∧ R (Ite K b l) H1
theorem pi_enum {a : Expr} {ta : TA} {p pos : Pos} {elts : List Expr} {kt : Nat} {tp : Pos} (hg : Gl X "enumerate") (hm : X.mg "enumerate" = none) (ha : PA X [a] ta) (hs : starEach [a] X.env = [(false, eval a X.env)] := by rfl) :
    PI X (.Tuple elts kt tp) (.Call (.Name "enumerate" p) [a] [] pos) (iEnumX X.K ta) := by
  intro pins s σ H R I h
  refine Call_ (ld_blt I hg hm a7A (PyProof.Rows.callWith_type1 (thn (ha pos pins s σ H _ I h) fun us s1 ⟨vs, H1, I1, r1, b, l, e, ⟨xs, q1⟩, q⟩ => ?_) hs rfl))
  subst e
  obtain ⟨u, rfl, r2⟩ := vals1 r1
  obtain rfl : u = Value.ref l := r2
  obtain ⟨t1, _, p1, lt1⟩ := I1.seqX q1
  refine a6x p1 fun h' z1 j1 kp => ?_
  show wpAny _ _ (pyIter (.ref (s1.heap.objs.size + 1))) _ _ _
  refine wpAny_pyIter_enum z1 ?_
  refine ⟨_, _, _, _, H1, rfl, I1.kept (t' := s1.toks) kp, a6K b (s1.heap.objs.size + 1) s1.heap.objs.size l (Nat.succ_ne_self _) (Nat.ne_of_lt (Nat.lt_succ_of_lt lt1)) (Nat.ne_of_lt lt1), ⟨⟨_, z1⟩, j1⟩, fun c hc => ?_, q⟩
  have hle : s1.heap.objs.size ≤ c := by
    have : c = s1.heap.objs.size + 1 ∨ c = s1.heap.objs.size := by simpa using hc
    rcases this with rfl | rfl
    · exact Nat.le_add_right _ _
    · exact Nat.le_refl _
  exact I1.fpOk hle (I1.hok.fresh hle)
end
end L2
namespace L2
open PySem
abbrev Rise (xs : Array Nat) : Prop := xs.toList.Pairwise (· < ·)
theorem a5h {xs : Array Nat} (h : Rise xs) {i k : Nat} (hik : i < k) (hk : k < xs.size) : xs[i]'(by omega) < xs[k] := by
  have := List.pairwise_iff_getElem.mp h i k (by simpa using (by omega : i < xs.size)) (by simpa using hk) hik
  simpa using this
theorem a4z {xs : Array Nat} (h : Rise xs) (j : Nat) : ∀ (fuel lo hi : Nat), lo ≤ hi → hi ≤ xs.size → hi - lo ≤ fuel → (∀ i (hi' : i < xs.size), i < lo → xs[i] < j) → (∀ i (hi' : i < xs.size), hi ≤ i → j ≤ xs[i]) →
    SetTable.below.go xs j fuel lo hi ≤ xs.size ∧ (∀ i (hi' : i < xs.size), i < SetTable.below.go xs j fuel lo hi → xs[i] < j) ∧ ∀ i (hi' : i < xs.size), SetTable.below.go xs j fuel lo hi ≤ i → j ≤ xs[i]
  | 0, lo, hi, h1, h2, h3, h4, h5 => by
    have e : lo = hi := by omega
    subst e
    exact ⟨h2, h4, h5⟩
  | fuel + 1, lo, hi, h1, h2, h3, h4, h5 => by
    unfold SetTable.below.go
    by_cases hl : lo < hi
    · rw [if_pos hl]
      have hm : (lo + hi) / 2 < xs.size := by omega
      have hg : xs.getD ((lo + hi) / 2) j = xs[(lo + hi) / 2] := by simp [hm]
      dsimp only
      rw [hg]
      by_cases hc : xs[(lo + hi) / 2] < j
      · rw [if_pos hc]
        refine a4z h j fuel _ _ (by omega) h2 (by omega) (fun i hi' hlt => ?_) h5
        by_cases e : i = (lo + hi) / 2
        · subst e; exact hc
        · exact Nat.lt_trans (a5h h (by omega) hm) hc
      · rw [if_neg hc]
        refine a4z h j fuel _ _ (by omega) (by omega) (by omega) h4 (fun i hi' hle => ?_)
        by_cases e : i = (lo + hi) / 2
        · subst e; omega
        · have := a5h h (show (lo + hi) / 2 < i by omega) hi'; omega
    · rw [if_neg hl]
      have e : lo = hi := by omega
      subst e
      exact ⟨h2, h4, h5⟩
theorem a30 {xs : Array Nat} (h : Rise xs) (j : Nat) : SetTable.below xs j ≤ xs.size ∧ (∀ i (hi' : i < xs.size), i < SetTable.below xs j → xs[i] < j) ∧ ∀ i (hi' : i < xs.size), SetTable.below xs j ≤ i → j ≤ xs[i] := by
  unfold SetTable.below
  exact a4z h j xs.size 0 xs.size (Nat.zero_le _) (Nat.le_refl _) (by omega) (fun _ _ z => absurd z (Nat.not_lt_zero _)) (fun i hi' z => absurd hi' (by omega))
theorem a2R {α : Type} (xs : Array α) (p : Nat) (x : α) (hp : p ≤ xs.size) : (SetTable.insertAt xs p x).toList = xs.toList.take p ++ x :: xs.toList.drop p := by
  unfold SetTable.insertAt
  simp [Array.toList_extract]
  rw [List.take_of_length_le (by simp)]
theorem a2g {α : Type} (xs : Array α) (p : Nat) (x : α) (hp : p ≤ xs.size) : (SetTable.insertAt xs p x).toList.Perm (x :: xs.toList) := by
  rw [a2R xs p x hp]
  refine List.perm_middle.trans ?_
  rw [List.take_append_drop]
theorem a2Q {α : Type} (xs : Array α) (p : Nat) (x : α) (hp : p ≤ xs.size) : (SetTable.insertAt xs p x).size = xs.size + 1 := by
  rw [← Array.length_toList, (a2g xs p x hp).length_eq]; simp
structure Tb (t : SetTable) (m : Nat) : Prop where
  mask : t.mask = 7
  dum : t.dummies = #[]
  plain : t.plain = true
  size : t.place.size = m
  rise : Rise t.place
  le : ∀ j ∈ t.place.toList, j ≤ 7
theorem Tb.fits {t : SetTable} {m : Nat} (T : Tb t m) (hm : m ≤ 7) : t.fits m = true := by
  unfold SetTable.fits SetTable.fill
  rw [T.size, T.dum, T.mask]
  simp
  omega
theorem Tb.notFull {t : SetTable} {m : Nat} (T : Tb t m) (hm : m ≤ 4) : t.tooFull = false := by
  unfold SetTable.tooFull SetTable.fill
  rw [T.size, T.dum, T.mask]
  simp
  omega
theorem Tb.slot {t : SetTable} {m : Nat} (T : Tb t m) (j : Nat) : (t.slot j = .empty ∧ j ∉ t.place.toList) ∨ (∃ i, t.slot j = .live i) ∧ j ∈ t.place.toList := by
  unfold SetTable.slot
  dsimp only
  by_cases h : (t.place[SetTable.below t.place j]? == some j) = true
  · rw [if_pos h]
    have e : t.place[SetTable.below t.place j]? = some j := eq_of_beq h
    rw [← Array.getElem?_toList] at e
    exact .inr ⟨⟨_, rfl⟩, List.mem_of_getElem? e⟩
  · rw [if_neg h]
    have hd : SetTable.has t.dummies j = false := by rw [T.dum]; rfl
    rw [if_neg (by rw [hd]; exact Bool.false_ne_true)]
    refine .inl ⟨rfl, fun hm => h ?_⟩
    obtain ⟨i, hi, e⟩ := List.getElem_of_mem hm
    have hi' : i < t.place.size := by simpa using hi
    have e' : t.place[i] = j := by simpa using e
    obtain ⟨h1, h2, h3⟩ := a30 T.rise j
    have hb : SetTable.below t.place j = i := by
      by_cases l : SetTable.below t.place j ≤ i
      · by_cases l2 : SetTable.below t.place j = i
        · exact l2
        · have hlt : SetTable.below t.place j < t.place.size := by omega
          have a := h3 _ hlt (Nat.le_refl _)
          have b := a5h T.rise (show SetTable.below t.place j < i by omega) hi'
          omega
      · have := h2 i hi' (by omega); omega
    rw [hb, Array.getElem?_eq_getElem hi', e']
    exact beq_self_eq_true _
theorem a6B {h : Int} (h0 : 0 ≤ h) (h1 : h < 32) : SetTable.bits h = h.toNat := by
  unfold SetTable.bits
  rw [Int.emod_eq_of_lt h0 (by omega)]
theorem four_in {l : List Nat} {a b c d : Nat} (hl : l.length ≤ 3) (h1 : a ∈ l) (h2 : b ∈ l) (h3 : c ∈ l) (h4 : d ∈ l) (n : [a, b, c, d].Nodup) : False := by
  have hs : [a, b, c, d] ⊆ l := by
    intro x hx
    simp at hx
    rcases hx with rfl | rfl | rfl | rfl <;> assumption
  have := List.Nodup.length_le_of_subset n hs
  simp at this
  omega
theorem Tb.free {t : SetTable} {m : Nat} (T : Tb t m) (hm : m ≤ 3) {h : Int} (h0 : 0 ≤ h) (h1 : h < 32) : ∃ j, t.freeSlot h = some (j, false) ∧ j ≤ 7 ∧ j ∉ t.place.toList := by
  obtain ⟨n, rfl⟩ : ∃ n : Nat, h = n := ⟨h.toNat, by omega⟩
  have hb : SetTable.bits (n : Int) = n := by rw [a6B h0 h1]; rfl
  have hn : n < 32 := by omega
  have hl : t.place.toList.length ≤ 3 := by rw [Array.length_toList, T.size]; exact hm
  have run : ∀ (i : Nat), SetTable.runEnd t.mask i = i ∨ 7 < i := fun i => by
    unfold SetTable.runEnd
    rw [T.mask]
    by_cases q : i + 9 ≤ 7
    · omega
    · rw [if_neg q]; exact .inl rfl
  have hrun : ∀ i, SetTable.runEnd t.mask i - i = 0 := fun i => by
    unfold SetTable.runEnd
    rw [T.mask, if_neg (by omega)]
    omega
  have adv : ∀ (i p : Nat), p / 32 = 0 → t.advance ⟨i, 0, i, p, none⟩ = ⟨(i * 5 + 1) % 8, 0, (i * 5 + 1) % 8, 0, none⟩ := fun i p hp => by
    unfold SetTable.advance SetTable.leap
    rw [if_neg (Nat.lt_irrefl 0)]
    dsimp only
    rw [hp, hrun, T.mask]
  have step : ∀ (fuel i p : Nat), p / 32 = 0 → (∃ r, SetTable.probe.go t (fun _ => (n : Int) + 1) n (fuel + 1) ⟨i, 0, i, p, none⟩ = some r ∧ r = .empty i none ∧ i ∉ t.place.toList) ∨ (i ∈ t.place.toList ∧ SetTable.probe.go t (fun _ => (n : Int) + 1) n (fuel + 1) ⟨i, 0, i, p, none⟩ = SetTable.probe.go t (fun _ => (n : Int) + 1) n fuel ⟨(i * 5 + 1) % 8, 0, (i * 5 + 1) % 8, 0, none⟩) := fun fuel i p hp => by
    rcases T.slot i with ⟨e, ni⟩ | ⟨⟨k, e⟩, hi⟩
    · refine .inl ⟨.empty i none, ?_, rfl, ni⟩
      unfold SetTable.probe.go
      dsimp only
      rw [e]
    · refine .inr ⟨hi, ?_⟩
      conv => lhs; unfold SetTable.probe.go
      dsimp only
      rw [e]
      dsimp only
      rw [if_neg (by simp; omega), adv i p hp]
  have hps : t.probeStart (n : Int) = ⟨n % 8, 0, n % 8, n, none⟩ := by
    unfold SetTable.probeStart
    dsimp only
    rw [hb, hrun, T.mask]
  have fin : ∀ {j : Nat} {r : SetTable.Met}, j < 8 → SetTable.probe.go t (fun _ => (n : Int) + 1) n (10 * SetTable.turns t.mask) ⟨n % 8, 0, n % 8, n, none⟩ = some r → r = .empty j none → j ∉ t.place.toList → ∃ j, t.freeSlot (n : Int) = some (j, false) ∧ j ≤ 7 ∧ j ∉ t.place.toList := fun {j r} hj e er nj => by
    refine ⟨j, ?_, by omega, nj⟩
    unfold SetTable.freeSlot SetTable.probe
    rw [hps, e, er]
    rfl
  have hf : 10 * SetTable.turns t.mask = 216 + 1 + 1 + 1 + 1 := by unfold SetTable.turns; rw [T.mask]
  rw [hf] at fin
  have h8 : n % 8 < 8 := Nat.mod_lt _ (by decide)
  rcases step (216 + 1 + 1 + 1) (n % 8) n (by omega) with ⟨r, e, er, nj⟩ | ⟨i1, e1⟩
  · exact fin h8 e er nj
  rcases step (216 + 1 + 1) ((n % 8 * 5 + 1) % 8) 0 rfl with ⟨r, e, er, nj⟩ | ⟨i2, e2⟩
  · exact fin (by omega) (e1.trans e) er nj
  rcases step (216 + 1) (((n % 8 * 5 + 1) % 8 * 5 + 1) % 8) 0 rfl with ⟨r, e, er, nj⟩ | ⟨i3, e3⟩
  · exact fin (by omega) ((e1.trans e2).trans e) er nj
  rcases step 216 ((((n % 8 * 5 + 1) % 8 * 5 + 1) % 8 * 5 + 1) % 8) 0 rfl with ⟨r, e, er, nj⟩ | ⟨i4, e4⟩
  · exact fin (by omega) (((e1.trans e2).trans e3).trans e) er nj
  exact (four_in hl i1 i2 i3 i4 (by
    have : n % 8 = 0 ∨ n % 8 = 1 ∨ n % 8 = 2 ∨ n % 8 = 3 ∨ n % 8 = 4 ∨ n % 8 = 5 ∨ n % 8 = 6 ∨ n % 8 = 7 := by omega
    rcases this with h | h | h | h | h | h | h | h <;> rw [h] <;> decide)).elim
theorem Tb.put {t : SetTable} {m : Nat} (T : Tb t m) {j : Nat} (hj : j ≤ 7) (nj : j ∉ t.place.toList) : Tb (t.put j).1 (m + 1) ∧ (t.put j).2 ≤ m ∧ (t.put j).1.led = t.led := by
  obtain ⟨h1, h2, h3⟩ := a30 T.rise j
  have hd : SetTable.has t.dummies j = false := by rw [T.dum]; rfl
  have hz : SetTable.below t.place j ≤ m := by rw [← T.size]; exact h1
  unfold SetTable.put
  dsimp only
  rw [if_neg (by rw [hd]; exact Bool.false_ne_true)]
  refine ⟨⟨T.mask, T.dum, T.plain, ?_, ?_, fun k hk => ?_⟩, hz, rfl⟩
  · show (SetTable.insertAt t.place (SetTable.below t.place j) j).size = _
    rw [a2Q _ _ _ h1, T.size]
  · show (SetTable.insertAt t.place (SetTable.below t.place j) j).toList.Pairwise (· < ·)
    rw [a2R _ _ _ h1]
    refine List.pairwise_append.mpr ⟨List.Pairwise.sublist (List.take_sublist _ _) T.rise, List.pairwise_cons.mpr ⟨fun k hk => ?_, List.Pairwise.sublist (List.drop_sublist _ _) T.rise⟩, fun a ha b hb => ?_⟩
    · obtain ⟨i, hi, e⟩ := List.getElem_of_mem hk
      rw [List.getElem_drop] at e
      rw [List.length_drop, Array.length_toList] at hi
      have a := h3 (SetTable.below t.place j + i) (by omega) (by omega)
      have e' : t.place[SetTable.below t.place j + i]'(by omega) = k := by simpa using e
      have : k ≠ j := fun z => nj (by rw [← z]; exact List.mem_of_mem_drop hk)
      omega
    · obtain ⟨i, hi, e⟩ := List.getElem_of_mem ha
      rw [List.getElem_take] at e
      rw [List.length_take, Array.length_toList] at hi
      have a1 := h2 i (by omega) (by omega)
      have e' : t.place[i]'(by omega) = a := by simpa using e
      rcases List.mem_cons.mp hb with rfl | hb
      · omega
      · obtain ⟨i2, hi2, e2⟩ := List.getElem_of_mem hb
        rw [List.getElem_drop] at e2
        rw [List.length_drop, Array.length_toList] at hi2
        have a2 := h3 (SetTable.below t.place j + i2) (by omega) (by omega)
        have e3 : t.place[SetTable.below t.place j + i2]'(by omega) = b := by simpa using e2
        omega
  · have hk' : k ∈ (SetTable.insertAt t.place (SetTable.below t.place j) j).toList := hk
    have := (a2g _ _ j h1).mem_iff.mp hk'
    rcases List.mem_cons.mp this with rfl | z
    · exact hj
    · exact T.le k z
theorem Tb.lay {t : SetTable} {m : Nat} (T : Tb t m) (hm : m ≤ 3) {h : Int} (h0 : 0 ≤ h) (h1 : h < 32) (es : Array (Int × Value)) (he : es.size = m) (x : Value) : ∃ es' t', layNew t es h x = (es', t', false, false) ∧ Tb t' (m + 1) ∧ t'.led = t.led ∧ es'.toList.Perm ((h, x) :: es.toList) ∧ es'.size = m + 1 := by
  obtain ⟨j, ej, hj, nj⟩ := T.free hm h0 h1
  obtain ⟨T', hp, hled⟩ := T.put hj nj
  have hsz : (SetTable.insertAt es (t.put j).2 (h, x)).size = m + 1 := by rw [a2Q _ _ _ (by omega), he]
  have hfit := T'.fits (by omega)
  refine ⟨SetTable.insertAt es (t.put j).2 (h, x), (t.put j).1, ?_, T', hled, a2g _ _ _ (by omega), hsz⟩
  unfold layNew
  rw [ej]
  dsimp only
  rw [hsz, hfit]
  unfold SetTable.orStandIn
  rw [hfit]
  rfl
end L2
namespace L2
open PySem PySem.Spec PyProof.Rows
inductive EsK : List (Int × Value) → List Int → Prop
  | nil : EsK [] []
  | cons (k : Int) (tk : Tok) {es ks} : EsK es ks → EsK ((hashInt k, .int k tk) :: es) (k :: ks)
theorem EsK.length {es : List (Int × Value)} {ks : List Int} (h : EsK es ks) : es.length = ks.length := by
  induction h with
  | nil => rfl
  | cons k tk _ ih => rw [List.length_cons, List.length_cons, ih]
theorem EsK.perm {es es' : List (Int × Value)} (p : es'.Perm es) : ∀ {ks : List Int}, EsK es ks → ∃ ks', EsK es' ks' ∧ ks'.Perm ks := by
  have q := p.symm
  clear p
  induction q with
  | nil => intro ks h; cases h; exact ⟨[], .nil, .refl _⟩
  | cons x _ ih =>
    intro ks h
    cases h with
    | cons k tk t => obtain ⟨ks', e, p⟩ := ih t; exact ⟨k :: ks', .cons k tk e, p.cons k⟩
  | swap x y l =>
    intro ks h
    cases h with
    | cons k tk t => cases t with
      | cons k2 tk2 t2 => exact ⟨k2 :: k :: _, .cons k2 tk2 (.cons k tk t2), List.Perm.swap _ _ _⟩
  | trans _ _ ih1 ih2 =>
    intro ks h
    obtain ⟨k1, e1, p1⟩ := ih1 h
    obtain ⟨k2, e2, p2⟩ := ih2 e1
    exact ⟨k2, e2, p2.trans p1⟩
theorem EsK.elems {prog : Program} {w : World} {es : List (Int × Value)} {ks : List Int} (h : EsK es ks) : ElemsOf (intKind prog w) es := by
  induction h with
  | nil => intro e he; cases he
  | cons k tk _ ih =>
    intro e he
    rcases List.mem_cons.mp he with rfl | he
    · exact ⟨⟨k, by simp [intKind, Value.isInt], rfl⟩, rfl⟩
    · exact ih e he
theorem EsK.find {es : List (Int × Value)} {ks : List Int} (h : EsK es ks) (k : Int) : (es.findIdx? fun e => Value.isInt k e.2).isSome = decide (k ∈ ks) := by
  induction h with
  | nil => rfl
  | cons k' tk _ ih =>
    rw [List.findIdx?_cons]
    by_cases e : k = k'
    · subst e; simp [Value.isInt]
    · have : Value.isInt k (Value.int k' tk) = false := by simp [Value.isInt, Ne.symm e, e]
      simp only [this]
      rw [if_neg Bool.false_ne_true, Option.isSome_map, ih]
      simp [e]
theorem EsK.ints {es : List (Int × Value)} {ks : List Int} (h : EsK es ks) : IntsAre (es.map (·.2)) ks := by
  induction h with
  | nil => exact .nil
  | cons k tk _ ih => exact .cons k tk ih
def SetX (w : World) (h : Heap) (a : Addr) (ks : List Int) : Prop := ∃ o es ep t ks', h.get? a = some o ∧ o.ExactSet ∧ o.data = .set es ep t ∧ EsK es.toList ks' ∧ ks'.Perm ks ∧ Tb t es.size ∧ t.led = !w.params.followText "set-order"
theorem SetX.at {w : World} {h h' : Heap} {a : Addr} {ks : List Int} (S : SetX w h a ks) (k : ∀ o, h.get? a = some o → h'.get? a = some o) : SetX w h' a ks := by
  obtain ⟨o, es, ep, t, ks', ho, r⟩ := S
  exact ⟨o, es, ep, t, ks', k o ho, r⟩
theorem hash_fin : ∀ n : Fin 32, hashInt ((n.val : Nat) : Int) = ((n.val : Nat) : Int) := by decide +kernel
theorem a3X {k : Int} (h0 : 0 ≤ k) (h1 : k < 32) : hashInt k = k := by
  have h := hash_fin ⟨k.toNat, by omega⟩
  rwa [show (((⟨k.toNat, by omega⟩ : Fin 32).val : Nat) : Int) = k from Int.toNat_of_nonneg h0] at h
section
variable {prog : Program} {w : World} {A : Around} {E : Value → Shared → Prop} {s : Shared}
theorem setx_add {a : Addr} {ks : List Int} {k : Int} {tk : Tok} {Q : Bool → Shared → Prop} (S : SetX w s.heap a ks) (h0 : 0 ≤ k) (h1 : k < 32) (hl : ks.length ≤ 4) (hl2 : k ∉ ks → ks.length ≤ 3)
    (h : ∀ h' b, Heap.SameBut a s.heap h' → SetX w h' a (if k ∈ ks then ks else k :: ks) → Q b { s with heap := h', toks := s.toks + 1 }) : wpAny (model prog w) A (setAdd a (.int k tk)) Q E s := by
  obtain ⟨o, es, ep, t, ks', ho, hex, hd, hes, hp, T, hled⟩ := S
  have hsz : es.size = ks.length := by rw [← Array.length_toList, hes.length, hp.length_eq]
  have hf := T.fits (by omega)
  have hel : ElemsOf (intKind prog w) es.toList := hes.elems
  have hkey : (intKind prog w).is k (.int k tk) = true := by simp [intKind, Value.isInt]
  unfold setAdd
  refine wpAny_holding (wpAny_bind ((intKind prog w).pyHash hkey ?_))
  unfold setAddHashed setAddHashedIn
  refine wpAny_holding (wpAny_bind (wpAny_setState_of ho hd hf ?_))
  dsimp only
  rw [byScan_of (knd := intKind prog w) rfl (by unfold scanBound; omega) hel, if_pos rfl]
  unfold setAddByScan
  refine wpAny_bind (wpAny_bind (wpAny_rule (wpAny_bind (wpAny_setScan_of (s := { s with toks := s.toks + 1 }) hkey ho hd hf hel ?_))))
  have hfi := hes.find k
  have hfi' : ∀ r, es.toList.findIdx? (fun e => (intKind prog w).is k e.2) = r → r.isSome = decide (k ∈ ks') := fun r e => by rw [← e]; exact hfi
  have hmem : k ∈ ks' ↔ k ∈ ks := hp.mem_iff
  cases hr : es.toList.findIdx? (fun e => (intKind prog w).is k e.2) with
  | some j =>
    have hk : k ∈ ks := hmem.mp (by have := hfi' _ hr; simpa using this.symm)
    dsimp only
    refine wpAny_pure (wpAny_pure (h s.heap false (Heap.SameBut.refl a s.heap) ?_))
    rw [if_pos hk]
    exact ⟨o, es, ep, t, ks', ho, hex, hd, hes, hp, T, hled⟩
  | none =>
    have hk : k ∉ ks := fun z => by have := hfi' _ hr; rw [decide_eq_true (hmem.mpr z)] at this; cases this
    have h3 := hl2 hk
    obtain ⟨es', t', el, T', hl', hpm, hsz'⟩ := T.lay (by omega) (h := hashInt k) (by rw [a3X h0 h1]; exact h0) (by rw [a3X h0 h1]; exact h1) es rfl (.int k tk)
    have el' : layNew t es ((intKind prog w).hash k) (.int k tk) = (es', t', false, false) := el
    dsimp only
    rw [el']
    dsimp only
    refine wpAny_bind ?_
    show wpAny _ _ (pure ()) _ _ _
    refine wpAny_pure ?_
    rw [T'.plain, if_pos rfl, hashByValue_scannable 8 rfl]
    refine wpAny_bind (wpAny_pure ?_)
    rw [if_pos (show plainKind (Value.int k tk) = true from rfl)]
    refine wpAny_bind (wpAny_storeSet_of (s := { s with toks := s.toks + 1 }) ho hd ?_ (by rw [hsz', sizeLine_eq]; omega))
    rw [T'.notFull (by omega)]
    simp only [Bool.not_false, Bool.and_false, Bool.false_eq_true, if_false]
    refine wpAny_pure (wpAny_pure (h _ true (Heap.SameBut.update s.heap a (Obj.putSet es' t')) ?_))
    rw [if_neg hk]
    obtain ⟨ks2, e2, p2⟩ := EsK.perm hpm (.cons k tk hes)
    have hg : (s.heap.update a (Obj.putSet es' t')).get? a = some { o with data := .set es' (ep + 1) t' } := by
      have z := Heap.get?_update_self (Obj.putSet es' t') ho (by rw [putSet_of es' t' hd]; rfl)
      rw [putSet_of es' t' hd] at z; exact z
    exact ⟨_, es', ep + 1, t', ks2, hg, hex, rfl, e2, p2.trans (hp.cons k), by rw [hsz']; exact T', by rw [hl']; exact hled⟩
end
end L2
namespace L2
open PySem PySem.Spec PyProof.Rows
section
variable {prog : Program} {w : World} {A : Around} {E : Value → Shared → Prop} {s : Shared}
theorem a6V {R : Result → Shared → Prop} {S I l : Addr} {items : Array Value} {ns : List Int} (hh : A.in1.handled = none) (hli : l ≠ I) (hSI : S ≠ I) (hSl : S ≠ l) (hi : IntsAre items.toList ns) (hr : ∀ n ∈ ns, 0 ≤ n ∧ n < 32) (h4 : ns.length ≤ 4) :
    ∀ (k i : Nat) (s : Shared) (ks : List Int), items.size - i = k → i ≤ items.size → s.heap.IsListIter I l i → s.heap.IsList l items → SetX w s.heap S ks → ks.length ≤ i → (∀ n, n ∈ ks ↔ n ∈ ns.take i) → ks.Nodup →
      (∀ h' tk ks', (∀ b o, b ≠ S → b ≠ I → s.heap.get? b = some o → h'.get? b = some o) → SetX w h' S ks' → (∀ n, n ∈ ks' ↔ n ∈ ns) → ks'.Nodup → R (.ok (.ret .none)) { s with heap := h', toks := tk }) →
      codeAny (model prog w) A (.builtin "set.update.loop" ⟨[.ref S, .ref I], []⟩) R s := by
  have hlen : items.size = ns.length := by rw [← Array.length_toList]; exact hi.length
  have W := Walks.list (prog := prog) (w := w) hh I l hli items
  intro k
  induction k with
  | zero =>
    intro i s ks hk hile st hl S1 hkl hm nd hR
    obtain rfl : i = items.size := by omega
    refine codeAny_builtin PyProof.Rows.F.entry_set_update_loop ?_
    rw [Around.under_plainId PyProof.Rows.F.plain_set_update_loop _]
    refine wpAny_bind (m := pyNext (.ref I)) (W.done s _ _ ⟨st, hl⟩ fun h' tk kp => ?_)
    refine wpAny_pure (hR h' tk ks (fun b o _ hb e => kp b o (by simpa using hb) e) (S1.at fun o e => kp S o (by simpa using hSI) e) (fun n => ?_) nd)
    rw [hm n, hlen, List.take_length]
  | succ k ih =>
    intro i s ks hk hile st hl S1 hkl hm nd hR
    have hlt : i < items.size := by omega
    refine codeAny_builtin PyProof.Rows.F.entry_set_update_loop ?_
    rw [Around.under_plainId PyProof.Rows.F.plain_set_update_loop _]
    refine wpAny_bind (m := pyNext (.ref I)) (W.item i s _ _ hlt ⟨st, hl⟩ fun v h' tk hv st' kp => ?_)
    obtain ⟨t, rfl⟩ := PyProof.Rows.IntsAre.int_at hi i v (by rw [Array.getElem?_toList]; exact hv)
    have hmem : ns.getD i 0 ∈ ns := by rw [List.getD_eq_getElem?_getD, List.getElem?_eq_getElem (by omega)]; exact List.getElem_mem _
    have S2 : SetX w h' S ks := S1.at fun o e => kp S o (by simpa using hSI) e
    obtain ⟨r0, r1⟩ := hr _ hmem
    refine wpAny_bind (m := holding _ _) (wpAny_holding (setx_add (s := { s with heap := h', toks := tk }) S2 r0 r1 (by omega) (fun _ => by omega) fun h2 b sb S3 => ?_))
    refine wpAny_pure ⟨plainId_quiet PyProof.Rows.F.plain_set_update_loop _, ih (i + 1) _ _ (by omega) hlt ?_ ?_ S3 ?_ ?_ ?_ fun h3 tk3 ks3 kp3 S4 m4 n4 => ?_⟩
    · exact st'.1.extBut sb.extBut (Ne.symm hSI)
    · exact st'.2.extBut sb.extBut (Ne.symm hSl)
    · split
      · omega
      · rw [List.length_cons]; omega
    · intro n
      have htake : ns.take (i + 1) = ns.take i ++ [ns.getD i 0] := by
        rw [List.take_add_one, List.getElem?_eq_getElem (by omega), List.getD_eq_getElem?_getD, List.getElem?_eq_getElem (by omega)]
        rfl
      rw [htake, List.mem_append, List.mem_singleton, ← hm n]
      split
      · rename_i hin
        constructor
        · exact .inl
        · rintro (z | rfl)
          · exact z
          · exact hin
      · rw [List.mem_cons, or_comm]
    · split
      · exact nd
      · rename_i hin; exact List.nodup_cons.mpr ⟨hin, nd⟩
    · refine hR h3 tk3 ks3 (fun b o hb1 hb2 e => kp3 b o hb1 hb2 (sb.extBut b o hb1 (kp b o (by simpa using hb2) e))) S4 m4 n4
theorem setx_new (a : Value) {Q₁ : Value → Shared → Prop} (h : Q₁ (.ref s.heap.objs.size) { s with heap := s.heap.push { cls := .type "set", dict := none, data := .set #[] 0 (.fresh 0 0 (!w.params.followText "set-order")) } }) :
    codeAny (model prog w) A (.call (.builtin "set.__new__") ⟨[.type "set", a], []⟩) (wants Q₁ E) s := by
  refine codeAny_of_tree (wpAny_bind (m := checkBuiltinCall "set.__new__" ⟨[.type "set", a], []⟩) (wpAny_of_eq (PySem.F.newCall_set_1 a) (wpAny_pure ⟨plainId_quiet PySem.F.plain_set_new _, codeAny_builtin PySem.F.entry_set_new ?_⟩)))
  rw [Around.under_plainId PySem.F.plain_set_new _]; unfold Builtin.«set.__new__» Builtin.Frozenset.newClass; have hsub := sub_set_self
  obtain ⟨hp, g, d, tk, os⟩ := s; dsimp only; wp_walk
  refine wpAny_askSetting (wpAny_pure ?_); dsimp only; simp only [newObj]
  exact wpAny_bind (wpAny_alloc (wpAny_pure (wpAny_pure h)))
theorem a6a {h : Heap} {a : Addr} (e : h.get? a = some { cls := .type "set", dict := none, data := .set #[] 0 (.fresh 0 0 (!w.params.followText "set-order")) }) : SetX w h a [] :=
  ⟨_, #[], 0, _, [], e, ⟨rfl, rfl, rfl⟩, rfl, .nil, .refl _, ⟨rfl, rfl, rfl, rfl, .nil, fun j hj => by cases hj⟩, rfl⟩
set_option maxHeartbeats 4000000 in
theorem call_setx {l : Addr} {items : Array Value} {ns : List Int} {Q : Value → Shared → Prop} (hh : A.handled = none) (hl : s.heap.IsList l items) (hi : IntsAre items.toList ns) (hr : ∀ n ∈ ns, 0 ≤ n ∧ n < 32) (h4 : ns.length ≤ 4)
    (h : ∀ (h' : Heap) (tk : Nat) (ks : List Int), SetX w h' s.heap.objs.size ks → (∀ n, n ∈ ks ↔ n ∈ ns) → ks.Nodup → (∀ b o, s.heap.get? b = some o → h'.get? b = some o) → Q (.ref s.heap.objs.size) { s with heap := h', toks := tk }) :
    wpAny (model prog w) A (call (.type "set") [.ref l]) Q E s := by
  obtain ⟨c, tl, hmro⟩ := PySem.F.called_set.mro; have hmade := PySem.F.called_set.made; have hsub := PySem.F.called_set.sub
  refine wpAny_call (codeAny_of_tree ?_); show wpAny _ _ (callAny (.type "set") _) _ _ _
  refine wpAny_pure ⟨Code.quiet_builtin _ (by decide +kernel), codeAny_builtin PySem.F.entry_type_call ?_⟩
  rw [Around.under_plain (weight_type_call_type "set" [.ref l] []) rfl]
  have h1 := PySem.F.called_set.notType; have h2 := PySem.F.called_set.canCreate; have hct := PySem.F.typeCall_set_1 (.ref l)
  repeat (any_goals (first | assumption | wp_step))
  generalize hO : ({ cls := .type "set", dict := none, data := .set #[] 0 (.fresh 0 0 (!w.params.followText "set-order")) } : Obj) = O0
  refine codeAny_mono (setx_new (.ref l) (E := E) (Q₁ := fun obj s₁ => obj = .ref s.heap.objs.size ∧ s₁ = { s with heap := s.heap.push O0 }) (by rw [hO]; exact ⟨rfl, rfl⟩)) fun r s₁ hr1 => ?_
  cases r with
  | error e => exact hr1
  | ok fl => cases fl with
    | ret obj =>
      obtain ⟨rfl, rfl⟩ := hr1
      have hS : (s.heap.push O0).get? s.heap.objs.size = some O0 := Heap.get?_push_size _ (by rw [← hO]; rfl)
      have hT : Shared.TypeIs { s with heap := s.heap.push O0 } (.ref s.heap.objs.size) "set" := ⟨_, hS, by rw [← hO]⟩
      have hli := PySem.F.called_set.init.lookup; have hbi := PySem.F.called_set.init.bind (.ref s.heap.objs.size)
      repeat (any_goals (first | assumption | wp_step))
      refine codeAny_mono (codeAny_call_builtin (R := wants (fun r s₂ => r = .none ∧ ∃ h' tk ks, s₂ = { s with heap := h', toks := tk } ∧ SetX w h' s.heap.objs.size ks ∧ (∀ n, n ∈ ks ↔ n ∈ ns) ∧ ks.Nodup ∧ ∀ b o, s.heap.get? b = some o → h'.get? b = some o) E) PySem.F.called_set.init.plain PySem.F.entry_set_init (check_set_init_1 hT ?_)) fun r₂ s₂ hr₂ => ?_
      · obtain ⟨⟨oc, od, odt, osl⟩, hol, hcl, nl, hdl⟩ := hl
        replace hcl : oc = .type "list" := hcl
        replace hdl : odt = .seq items nl := hdl
        subst hcl hdl
        have hol' : (s.heap.push O0).get? l = some _ := Heap.get?_push_of_some _ hol
        have hsls := PySem.F.sub_list_set; have hslf := PySem.F.sub_list_frozenset; have hne : (Value.type "list" == Value.type "dict") = false := by decide
        have hl1 : (s.heap.push O0).IsList l items := ⟨_, hol', rfl, nl, rfl⟩
        have hlS : l < s.heap.objs.size := Heap.lt_size hol
        have hS0 : (s.heap.push O0).get? s.heap.objs.size = some { cls := .type "set", dict := none, data := .set #[] 0 (.fresh 0 0 (!w.params.followText "set-order")) } := by rw [hO]; exact hS
        unfold Builtin.«set.__init__» noKeywords Builtin.Frozenset.updateFrom; generalize hPI : pyIter = PI; subst hO; wp_walk; subst hPI
        refine wpAny_pyIter_list hl1 (wpAny_bind (wpAny_runValue ?_))
        have n1 : (s.heap.push { cls := .type "set", dict := none, data := .set #[] 0 (.fresh 0 0 (!w.params.followText "set-order")) }).objs.size = s.heap.objs.size + 1 := Heap.size_push ..
        have hit : ((s.heap.push { cls := .type "set", dict := none, data := .set #[] 0 (.fresh 0 0 (!w.params.followText "set-order")) }).push { cls := .type "list_iterator", data := .fields #[.ref l, .int 0 0] }).get? (s.heap.objs.size + 1) = some { cls := .type "list_iterator", data := .fields #[.ref l, .int 0 0] } := by rw [← n1]; exact Heap.get?_push_size _ rfl
        rw [n1]
        refine a6V (I := s.heap.objs.size + 1) (by simp [hh]) (Nat.ne_of_lt (Nat.lt_succ_of_lt hlS)) (Nat.ne_of_lt (Nat.lt_succ_self _)) (Nat.ne_of_gt hlS) hi hr h4 (items.size - 0) 0 _ [] rfl (Nat.zero_le _) ⟨_, hit, rfl, rfl⟩ (hl1.push _) (a6a (Heap.get?_push_of_some _ hS0)) (Nat.le_refl _) (fun n => by simp) .nil fun h' tk ks kp S1 m1 nd => ?_
        refine wpAny_pure (wpAny_pure ⟨rfl, h', tk, ks, rfl, S1, m1, nd, fun b o e => ?_⟩)
        have hb := Heap.lt_size e
        exact kp b o (Nat.ne_of_lt hb) (Nat.ne_of_lt (Nat.lt_succ_of_lt hb)) (Heap.get?_push_of_some _ (Heap.get?_push_of_some _ e))
      · cases r₂ with
        | error e => exact hr₂
        | ok fl₂ => cases fl₂ with
          | ret r =>
            obtain ⟨rfl, h', tk, ks, rfl, S1, m1, nd, kp⟩ := hr₂
            repeat (any_goals (first | assumption | wp_step))
            exact h _ _ ks S1 m1 nd kp
          | _ => exact hr₂.elim
    | _ => exact hr1.elim
end
end L2
namespace L2
open PySem PySem.Spec PyProof.Rows
def SetE (h : Heap) (a : Addr) (es : Array (Int × Value)) (ep : Nat) (t : SetTable) : Prop := ∃ o, h.get? a = some o ∧ o.ExactSet ∧ o.data = .set es ep t
def ordOf (w : World) (a : Addr) (es : Array (Int × Value)) (ep : Nat) : Array (Int × Value) := if w.params.followText "set-order" = true then pickOrder (w.params.setOrder a ep) es else es
def markOf (w : World) (t : SetTable) (i : Nat) : Nat := if w.params.followText "set-order" = true then 0 else if i = 0 then 0 else t.place.getD (i - 1) 0 + 1
abbrev itObj (a : Addr) (slot i n ep : Nat) : Obj := { cls := .type "set_iterator", dict := none, data := .fields #[rawInt slot, rawInt i, .ref a, rawInt n, rawInt ep], slots := #[] }
section
variable {prog : Program} {w : World} {A : Around} {E : Value → Shared → Prop} {s : Shared} {a it : Addr} {es : Array (Int × Value)} {ep : Nat} {t : SetTable}
theorem SetE.state (S : SetE s.heap a es ep t) (hf : t.fits es.size = true) {Q : (Array (Int × Value) × Nat × SetTable) → Shared → Prop} (h : Q (es, ep, t) s) : wpAny (model prog w) A (setState a) Q E s := by
  obtain ⟨o, ho, _, hd⟩ := S
  exact wpAny_setState_of ho hd hf h
end
end L2
namespace L2
open PySem PySem.Spec PyProof.Rows
section
variable {prog : Program} {w : World} {A : Around} {E : Value → Shared → Prop} {s : Shared} {a : Addr} {es : Array (Int × Value)} {ep : Nat} {t : SetTable}
theorem SetE.at {h h' : Heap} (S : SetE h a es ep t) (k : ∀ o, h.get? a = some o → h'.get? a = some o) : SetE h' a es ep t := by
  obtain ⟨o, ho, r⟩ := S
  exact ⟨o, k o ho, r⟩
end
end L2
namespace L2
open PySem PySem.Spec PyProof.Rows
section
variable {X : Cx}
def few (ns : List Int) : Prop := ns.length ≤ 4 ∧ ∀ n ∈ ns, 0 ≤ n ∧ n < 32
def setO (w : World) (a : Addr) (ks : List Int) : HO := .ext fun h => SetX w h a ks
end
end L2
namespace L2
open PySem PySem.Spec PyProof.Rows PySem.W
section
variable {prog : Program} {w : World} {A : Around} {E : Value → Shared → Prop} {s : Shared} {p q : Addr} {xp xq : List Value} {m n : Int} {t u : Tok}
end
section
variable {X : Cx}
end
end L2
namespace L2
open PySem PySem.Spec PyProof.Rows PySem.W
section
variable {prog : Program} {w : World} {A : Around} {E : Value → Shared → Prop} {s : Shared} {it l : Addr}
end
def revO (it l : Addr) (n : Nat) : HO := .ext fun h => h.IsRevIter it l ((n : Int) - 1)
section
variable {X : Cx} {pins : List (Addr × Obj)} {σ : St} {s : Shared}
theorem Inv.drop {H0 : Hp} {it : Addr} {φ : Heap → Prop} (I : Inv X pins σ (upd H0 it (.ext φ)) s) (hn : H0 it = none) : Inv X pins σ H0 s := by
  have ne : ∀ b u, H0 b = some u → b ≠ it := fun b u e z => by rw [z, hn] at e; cases e
  have ne2 : ∀ b u, upd H0 it (.ext φ) b = some u → (∀ ψ, u ≠ .ext ψ) → H0 b = some u := fun b u e hu => by
    by_cases z : b = it
    · subst z; rw [upd_same] at e; cases e; exact absurd rfl (hu φ)
    · rwa [upd_ne z] at e
  refine I.un (h' := s.heap) (t' := s.toks) ⟨fun b o q _ _ _ => q, fun b o q _ _ _ => ⟨o.slots, q⟩, fun b o q n _ => ?_, fun b o q _ => ⟨o, q⟩, fun b xs q => ne2 b _ q (fun ψ z => nomatch z), fun b o u q => ne2 b _ q (fun ψ z => nomatch z), fun b ps q => ⟨#[], by rw [ne2 b _ q (fun ψ z => nomatch z)]; simp⟩⟩ fun b u e => ?_
  · by_cases z : b = it
    · rw [z]; exact hn
    · rwa [upd_ne z] at n
  · have q := I.hok b u (by rw [upd_ne (ne b u e)]; exact e)
    exact q.stay (fun c v _ r => r) (fun c r => ne2 c _ r (fun ψ z => nomatch z)) (fun c xs r => ne2 c _ r (fun ψ z => nomatch z)) fun c ob u r => ne2 c _ r (fun ψ z => nomatch z)
end
end L2
namespace L2
open PySem PySem.Spec PyProof.Rows
def oneS (c : Nat) : V := .str ⟨#[c]⟩
def Its (x : Str) : It := ⟨fun i _ => i < x.cps.size, fun i H v H' => H' = H ∧ ∃ c, x.cps[i]? = some c ∧ v = oneS c, fun i _ => x.cps.size ≤ i⟩
section
variable {X : Cx} {tg : Expr}
def iTx (tl : TE) : TI := fun σ H R => tl σ H fun x H1 => ∃ z, x = .str z ∧ R (Its z) H1
end
end L2
namespace L2
open PySem PySem.Spec PyProof.Rows PySem.W
theorem a32 {p q : Pos} {c cv : Value} : ∀ (l : List Value), TriplesOk l → codeAmong p (l ++ [rawInt q.line, rawInt q.col, c]) = some cv → codeAmong p l = some cv ∨ ((q.line = p.line ∧ q.col = p.col) ∧ cv = c)
  | [], _, h => by
    have h' : (if (q.line : Int) == (p.line : Int) && (q.col : Int) == (p.col : Int) then some c else none) = some cv := h
    split at h'
    · rename_i hh
      cases h'
      simp at hh
      exact .inr ⟨⟨by have := hh.1; omega, by have := hh.2; omega⟩, rfl⟩
    · cases h'
  | .int a x :: .int b y :: d :: rest, t, h => by
    have t' : TriplesOk rest := t
    have h' : (if a == p.line && b == p.col then some d else codeAmong p (rest ++ [rawInt q.line, rawInt q.col, c])) = some cv := h
    show (if a == p.line && b == p.col then some d else codeAmong p rest) = some cv ∨ _
    split at h'
    · rename_i hh; rw [if_pos hh]; exact .inl h'
    · rename_i hh
      rw [if_neg hh]
      exact a32 rest t' h'
structure LamT where
  params : Arguments
  body : Expr
  scope : Scope
  qual : Str
  par : Str
  fv : List Str
abbrev LamT.obj (L : LamT) (clos : List (Str × Addr)) (pm : Value) (c : Addr) (ctv : Value) : Obj := kla_obj "<lambda>" L.qual L.params L.body L.scope clos pm c ctv
def BltM (mg : Str → Option Value) (h : Heap) : Prop :=
  ∃ bm o, mg "__builtins__" = some (.ref bm) ∧ bm ≠ builtinsNs ∧ bm ≠ mainGlobals ∧ h.get? bm = some o ∧ o.cls = .type "module" ∧ o.dict = some builtinsNs ∧ o.data = .plain
def a5K (good : Pos → Option Str) : Prop := ∀ p q : Pos, p.line = q.line → p.col = q.col → good p = good q
def tLam (L : LamT) (P : Addr) (good : Pos → Option Str) (clos : List (Str × Addr)) : TE := fun _ H Q => H P = some (.tab good) ∧
  ∀ (H0 : Hp) (a : Addr) (pm : Value) (c : Addr) (ctv : Value), Same H H0 → H0 a = none → Q (.ref a) (upd H0 a (.frz (L.obj clos pm c ctv) (.fnc c L.qual)))
section
variable {X : Cx}
theorem pe_lam {L : LamT} {P c : Addr} {good : Pos → Option Str} {clos : List (Str × Addr)} {pos : Pos} (hgp : a5K good) (hC : CodeHd X.base c P) (hcode : X.env.code = .ref c) (hB : BltM X.mg X.base) (hq : X.env.qual ++ "<lambda>" = L.qual) (hg : good pos = some L.qual)
    (hcl : closureFor L.scope X.env = pure clos) (hdef : defaultsOf L.params X.env = ([], [])) : PE X (.Lambda L.params L.body L.scope pos) (tLam L P good clos) := by
  intro pins s σ H Q I ⟨hP, h⟩
  refine kla_eval hdef ?_
  rw [hq]
  obtain ⟨ps, eP, tr, hgood⟩ := I.hok P _ hP
  obtain ⟨bm, ob, b1, b2, b3, b4, b5, b6, b7⟩ := hB
  have nP : ∀ b o, X.base.get? b = some o → b ≠ P := fun b o e z => by
    have := (I.bs b o e).2
    rw [z, hP] at this; cases this
  have hgP : mainGlobals ≠ P := by
    obtain ⟨o, es, ep, e, _⟩ := I.mod.glob
    exact nP _ _ e
  have hB' : s.heap.BuiltinsAt X.mg P := ⟨bm, ob, b1, b2, b3, nP _ _ b4, I.bk _ _ b4, b5, b6, b7⟩
  have hG : s.heap.Ns mainGlobals X.mg := I.mod.glob.keeps I.bk
  cases hc : codeAmong pos ps.toList with
  | none =>
    refine kla_makeFunction (mg := X.mg) hcl I.ok.glob hG hcode (hC.keeps I.bk) eP tr hc hgP hB' fun c' ctv h' tk hx hge hlt hrec htb => ?_
    obtain ⟨c₂, oc, vs, t, e2, hoc, hd, hv⟩ := hrec
    cases e2
    have f1 : H c' = none := I.hok.fresh hge
    have cP : c' ≠ P := fun z => by rw [z, hP] at f1; cases f1
    have s1 : Same H (upd H c' (.frz oc (.own c'))) := fun b u e => by rw [upd_ne (ne_of_none e f1)]; exact e
    have sz : s.heap.objs.size ≤ h'.objs.size := Nat.le_of_lt (Nat.lt_of_le_of_lt hge hlt)
    have ok1 : HOk X.prog X.w (upd H c' (.frz oc (.own c'))) h' := fun b u e => by
      by_cases hb : b = c'
      · subst hb; rw [upd_same] at e; cases e; exact ⟨hoc, ⟨oc, hoc⟩⟩
      · rw [upd_ne hb] at e
        by_cases hbP : b = P
        · subst hbP
          rw [hP] at e; cases e
          refine ⟨_, htb, ?_, fun p cv hgp' hcv => ?_⟩
          · rw [Array.toList_append]; exact TriplesOk_snoc _ _ _ _ tr
          · rw [Array.toList_append] at hcv
            rcases a32 _ tr hcv with z | ⟨⟨z1, z2⟩, z3⟩
            · obtain ⟨c2, oc2, q2, vs2, t2, r1, r2, r3⟩ := hgood p cv hgp' z
              exact ⟨c2, oc2, q2, vs2, t2, r1, s1 _ _ r2, r3⟩
            · exact ⟨c', oc, L.qual, vs, t, z3, upd_same, by rw [← hgp pos p z1 z2]; exact hg, hd, hv⟩
        · refine (I.hok b u e).stay (fun x v hxb q => hx x v (fun z => ?_) q) (fun x q => s1 _ _ q) (fun x xs q => s1 _ _ q) fun x o v q => s1 _ _ q
          rcases hxb with z' | z'
          · exact hbP (z'.symm.trans z)
          · rw [z, hP] at z'; cases z'
    have I1 : Inv X pins σ (upd H c' (.frz oc (.own c'))) { s with heap := h', toks := tk } := I.un (t' := tk) ⟨fun b o q n _ _ => hx b o (fun z => by rw [z, hP] at n; cases n) q,
        fun b o q n _ _ => ⟨o.slots, hx b o (fun z => by rw [z, hP] at n; cases n) q⟩, fun b o q n _ => by rw [upd_ne (Nat.ne_of_lt (Nat.lt_of_lt_of_le (Heap.lt_size q) hge))]; exact n, fun b o q _ => by
          by_cases hb : b = P
          · subst hb; exact ⟨_, htb⟩
          · exact ⟨o, hx b o hb q⟩, fun b xs q => s1 _ _ q, fun b o u q => s1 _ _ q, fun b qs q => ⟨#[], by rw [s1 _ _ q]; simp⟩⟩ ok1
    have f2 : upd H c' (.frz oc (.own c')) h'.objs.size = none := I1.hok.fresh (Nat.le_refl _)
    exact ⟨.ref h'.objs.size, _, I1.laid (o := .frz (L.obj clos ((X.mg "__name__").getD .none) c' ctv) (.fnc c' L.qual)) (fun b u q => Heap.get?_push_of_some _ q) (Nat.le_refl _)
      ⟨Heap.get?_push_size _ rfl, ⟨_, Heap.get?_push_size _ rfl⟩, oc, vs, t, by rw [upd_ne (Nat.ne_of_lt hlt), upd_same], hd, hv⟩, rfl, h _ _ _ _ _ s1 f2⟩
  | some cv =>
    obtain ⟨c', oc, q, vs, t, rfl, hc', hgq, hd, hv⟩ := hgood pos cv (by rw [hg]; rfl) hc
    rw [hg] at hgq
    cases hgq
    refine kla_makeFunctionHit (mg := X.mg) hcl I.ok.glob hG hcode (hC.keeps I.bk) eP tr hc hB' fun ctv h' tk hk hsz => ?_
    have f2 : H h'.objs.size = none := I.hok.fresh hsz
    have ne : c' ≠ h'.objs.size := ne_of_none hc' f2
    exact ⟨.ref h'.objs.size, _, I.laid (o := .frz (L.obj clos ((X.mg "__name__").getD .none) c' ctv) (.fnc c' L.qual)) (t' := tk) (fun b u q => Heap.get?_push_of_some _ (hk b u q)) hsz
      ⟨Heap.get?_push_size _ rfl, ⟨_, Heap.get?_push_size _ rfl⟩, oc, vs, t, by rw [upd_ne ne]; exact hc', hd, hv⟩, rfl, h _ _ _ _ _ (.refl _) f2⟩
end
end L2
namespace L2
open PySem PySem.Spec PyProof.Rows PySem.W
theorem a2y : ∀ (names : List (Str × NameKind)) (n : Nat) (acc : List (Str × Addr)), cellsFrom n names acc = cellsFrom n names [] ++ acc
  | [], _, _ => rfl
  | (x, k) :: r, n, acc => by
    unfold cellsFrom
    split
    · rw [a2y r (n + 1) ((x, n) :: acc), a2y r (n + 1) [(x, n)], List.append_assoc]; rfl
    · exact a2y r n acc
theorem a2z {α : Type} {x : Str} : ∀ {l m : List (Str × α)}, (l ++ m).lookup x = (match l.lookup x with | some c => some c | none => m.lookup x)
  | [], m => rfl
  | (y, c) :: l, m => by
    rw [List.cons_append, List.lookup_cons, List.lookup_cons]
    cases x == y with
    | true => rfl
    | false => exact a2z
structure InD (s₀ : Shared) (env : Env) (clos : List (Str × Addr)) (x : Str) (v : Value) (s : Shared) : Prop where
  inc : ∃ m, InCall s₀ env.locals m s ∧ Look env s.heap m x v
  cell : ∀ n c, (n, c) ∈ env.cells → ∃ u, s.heap.IsCell c u
  apart : env.cells.Pairwise fun x y => x.2 ≠ y.2
  above : ∀ n c, (n, c) ∈ env.cells → (n, c) ∈ clos ∨ env.locals < c
section
variable {M : Model} {A : Around} {E : Value → Shared → Prop} {s : Shared}
theorem a6R {env : Env} {x : Str} {v : Value} (f : Str × Value → PUnit → Sem (ForInStep PUnit)) (hf : ∀ n v u, f (n, v) u = (do storeName env n v; pure (.yield ⟨⟩))) (hk : env.scope.kind = .function)
    {m : Str → Option Value} (hns : s.heap.Ns env.locals m) (hx : env.kindOf x = some .local ∨ (env.kindOf x = some .cell ∧ ∃ c, env.cells.lookup x = some c ∧ env.locals < c)) (cl : ∀ n c, (n, c) ∈ env.cells → ∃ u, s.heap.IsCell c u) (ne : ∀ n c, (n, c) ∈ env.cells → c ≠ env.locals)
    {Q : PUnit → Shared → Prop} (h : ∀ h' m' e tk, h'.Ns env.locals m' → Look env h' m' x v → Heap.SameBut e s.heap h' → env.locals ≤ e → (∀ n c, (n, c) ∈ env.cells → ∃ u, h'.IsCell c u) → Q ⟨⟩ { s with heap := h', toks := tk }) : wpAny M A (forIn [(x, v)] ⟨⟩ f) Q E s := by
  rw [List.forIn_cons, hf]
  rcases hx with hl | ⟨hl, c, hc, hLc⟩
  · refine wpAny_bind (wpAny_bind (wpAny_storeName_local hl hns (fun h' hn' hs' => wpAny_pure ?_) (by rw [hk]; rfl)))
    show wpAny M A (forIn [] _ _) Q E _
    rw [List.forIn_nil]
    refine wpAny_pure (h h' _ env.locals _ hn' (.inl ⟨hl, ?_⟩) hs' (Nat.le_refl _) fun n c hm => ?_)
    · simp
    · obtain ⟨u, hu⟩ := cl n c hm
      exact ⟨u, hu.sameBut hs' (ne n c hm)⟩
  · obtain ⟨u, hu⟩ := cl x c (PySem.mem_of_lookup hc)
    refine wpAny_bind (wpAny_bind (wpAny_storeName_cell hk hl hc hu fun h' hc' hs' => wpAny_pure ?_))
    show wpAny M A (forIn [] _ _) Q E _
    rw [List.forIn_nil]
    refine wpAny_pure (h h' m c _ (hns.sameBut hs' (Nat.ne_of_lt hLc)) (.inr ⟨.inl hl, c, hc, hc'⟩) hs' (Nat.le_of_lt hLc) fun n c2 hm => ?_)
    by_cases z : c2 = c
    · subst z; exact ⟨_, hc'⟩
    · obtain ⟨u2, hu2⟩ := cl n c2 hm
      exact ⟨u2, hu2.sameBut hs' z⟩
theorem a6k {scope : Scope} {globals : Addr} {clos : List (Str × Addr)} {x : Str} {v : Value} {qual : Str} {func : Option Addr} {code : Value} {builtins : Addr} {Q : Env → Shared → Prop}
    (hk : scope.kind = .function) (hx : scope.names.lookup x = some .local ∨ scope.names.lookup x = some .cell)
    (hc : ∀ n c, (n, c) ∈ clos → ∃ u, s.heap.IsCell c u) (ha : clos.Pairwise fun x y => x.2 ≠ y.2)
    (hQ : ∀ env, env = newEnv scope s.heap.objs.size globals (cellsFrom (s.heap.objs.size + 1) scope.names clos) qual func code none builtins → ∀ s', InD s env clos x v s' → Q env s') :
    wpAny M A (newFunctionEnv scope globals clos [(x, v)] qual func code none builtins) Q E s := by
  simp only [newFunctionEnv, Option.isSome_none, Bool.false_eq_true, if_false]
  refine wpAny_bind (wpAny_alloc ?_)
  refine wpAny_bind (wpAny_layCells _ (fun name kind cells => by cases hkc : kind == NameKind.cell <;> simp [hkc]) _ _ _ _ ?_)
  have ok := cellsFrom_ok scope.names (s.heap.push { cls := .type "frame", data := .dict #[] }) (s.heap.objs.size + 1) [] ⟨fun _ _ hm => (nomatch hm), List.Pairwise.nil⟩ (by rw [Heap.size_push]; exact Nat.le_refl _)
  rw [Heap.size_push] at ok
  rw [show ({ s with heap := s.heap.push { cls := .type "frame", data := .dict #[] } } : Shared).heap.objs.size = s.heap.objs.size + 1 from Heap.size_push ..]
  have eC : cellsFrom (s.heap.objs.size + 1) scope.names clos = cellsFrom (s.heap.objs.size + 1) scope.names [] ++ clos := a2y _ _ _
  have kp : ∀ b o, s.heap.get? b = some o → (pushCells (s.heap.push { cls := .type "frame", data := .dict #[] }) scope.names).get? b = some o := fun b o e => pushCells_keeps _ _ b o (Heap.get?_push_of_some _ e)
  have hns : (pushCells (s.heap.push { cls := .type "frame", data := .dict #[] }) scope.names).Ns s.heap.objs.size (fun _ => none) := (Heap.Ns.new s.heap (.type "frame")).keeps (pushCells_keeps _ _)
  have cl : ∀ n c, (n, c) ∈ cellsFrom (s.heap.objs.size + 1) scope.names clos → ∃ u, (pushCells (s.heap.push { cls := .type "frame", data := .dict #[] }) scope.names).IsCell c u := fun n c hm => by
    rw [eC] at hm
    rcases List.mem_append.mp hm with z | z
    · exact ⟨none, (ok.empty n c z).1⟩
    · obtain ⟨u, hu⟩ := hc n c z
      exact ⟨u, hu.keeps kp⟩
  have ab : ∀ n c, (n, c) ∈ cellsFrom (s.heap.objs.size + 1) scope.names clos → (n, c) ∈ clos ∨ s.heap.objs.size < c := fun n c hm => by
    rw [eC] at hm
    rcases List.mem_append.mp hm with z | z
    · exact .inr (ok.empty n c z).2
    · exact .inl z
  have ne : ∀ n c, (n, c) ∈ cellsFrom (s.heap.objs.size + 1) scope.names clos → c ≠ s.heap.objs.size := fun n c hm => by
    rcases ab n c hm with z | z
    · obtain ⟨u, hu⟩ := hc n c z
      exact Nat.ne_of_lt hu.lt
    · exact Nat.ne_of_gt z
  have ap : (cellsFrom (s.heap.objs.size + 1) scope.names clos).Pairwise fun x y => x.2 ≠ y.2 := by
    rw [eC]
    refine List.pairwise_append.mpr ⟨ok.apart, ha, fun a hm b hb z => ?_⟩
    have l1 := (ok.empty a.1 a.2 hm).2
    obtain ⟨u, hu⟩ := hc b.1 b.2 hb
    have z' : a.2 = b.2 := z
    exact Nat.lt_irrefl _ (Nat.lt_trans (z' ▸ hu.lt : a.2 < s.heap.objs.size) l1)
  have hx' : scope.names.lookup x = some .local ∨ (scope.names.lookup x = some .cell ∧ ∃ c, (cellsFrom (s.heap.objs.size + 1) scope.names clos).lookup x = some c ∧ s.heap.objs.size < c) := by
    rcases hx with z | z
    · exact .inl z
    · obtain ⟨c, e⟩ := cell_has (n := s.heap.objs.size + 1) z
      exact .inr ⟨z, c, by rw [eC, a2z, e], (ok.empty x c (PySem.mem_of_lookup e)).2⟩
  refine wpAny_bind (a6R (s := { s with heap := pushCells (s.heap.push { cls := .type "frame", data := .dict #[] }) scope.names }) (env := newEnv scope s.heap.objs.size globals (cellsFrom (s.heap.objs.size + 1) scope.names clos) qual func code none builtins) _ (fun _ _ _ => rfl) hk hns hx' cl ne fun h' m' e tk ns lk sb le cc => wpAny_pure ?_)
  exact hQ _ rfl _ ⟨⟨m', ⟨⟨h', tk, rfl⟩, ns, fun b o q => sb.extBut b o (Nat.ne_of_lt (Nat.lt_of_lt_of_le (Heap.lt_size q) le)) (kp b o q), Nat.le_refl _⟩, lk⟩, cc, ap, ab⟩
end
end L2
namespace L2
open PySem PySem.Spec PyProof.Rows PySem.W
theorem a2k {y : Str} {c : Addr} : ∀ (names : List (Str × NameKind)) (n : Nat) (acc : List (Str × Addr)), (y, c) ∈ cellsFrom n names acc → (y, c) ∈ acc ∨ (y, NameKind.cell) ∈ names
  | [], _, _, h => .inl h
  | (x, k) :: r, n, acc, h => by
    unfold cellsFrom at h
    split at h
    · rename_i hk
      rcases a2k r _ _ h with z | z
      · rcases List.mem_cons.mp z with z | z
        · cases z
          rw [eq_of_beq hk]
          exact .inr List.mem_cons_self
        · exact .inl z
      · exact .inr (List.mem_cons_of_mem _ z)
    · rcases a2k r _ _ h with z | z
      · exact .inl z
      · exact .inr (List.mem_cons_of_mem _ z)
theorem a2G {α : Type} {y : Str} {c : α} : ∀ {fv : List Str} {cs : List α} {j : Nat}, fv.Nodup → fv[j]? = some y → cs[j]? = some c → (fv.zip cs).lookup y = some c
  | [], _, _, _, h, _ => by simp at h
  | _ :: _, [], _, _, _, h => by simp at h
  | f :: fv, d :: cs, 0, nd, h1, h2 => by
    simp at h1 h2; subst h1; subst h2
    simp [List.lookup_cons]
  | f :: fv, d :: cs, j + 1, nd, h1, h2 => by
    have h1' : fv[j]? = some y := by simpa using h1
    have ne : (y == f) = false := by
      apply beq_false_of_ne
      rintro rfl
      exact (List.nodup_cons.mp nd).1 (List.mem_of_getElem? h1')
    rw [List.zip_cons_cons, List.lookup_cons, ne]
    exact a2G (List.nodup_cons.mp nd).2 h1' (by simpa using h2)
def without (H : Hp) (cs : List Addr) : Hp := fun b => if b ∈ cs then none else H b
def back (H : Hp) (cs : List Addr) (H2 : Hp) : Hp := fun b => if b ∈ cs then H b else H2 b
def a1d (H : Hp) (cs : List Addr) (xs : List V) : Prop := Paired (fun (c : Addr) (x : V) => ∃ o u, H c = some (.frz o (.own c)) ∧ o.data = .cell (some u) ∧ RelV x u) cs xs
theorem a1d.mono {H H' : Hp} {cs : List Addr} {xs : List V} (s : Same H H') (h : a1d H cs xs) : a1d H' cs xs := Paired.mapP h fun _ _ ⟨o, u, e, r⟩ => ⟨o, u, s _ _ e, r⟩
theorem a1d.mem {H : Hp} : ∀ {cs : List Addr} {xs : List V}, a1d H cs xs → ∀ c ∈ cs, ∃ o u, H c = some (.frz o (.own c)) ∧ o.data = .cell (some u)
  | _ :: _, _ :: _, .cons ⟨o, u, e, d, _⟩ t, c, hc => by
    rcases List.mem_cons.mp hc with rfl | hc
    · exact ⟨o, u, e, d⟩
    · exact a1d.mem t c hc
theorem a1d.get {H : Hp} : ∀ {cs : List Addr} {xs : List V} {j : Nat} {x : V}, a1d H cs xs → xs[j]? = some x → ∃ c o u, cs[j]? = some c ∧ H c = some (.frz o (.own c)) ∧ o.data = .cell (some u) ∧ RelV x u
  | c :: _, _ :: _, 0, x, .cons ⟨o, u, e, d, r⟩ t, h => by
    simp at h; subst h
    exact ⟨c, o, u, rfl, e, d, r⟩
  | _ :: _, _ :: _, j + 1, x, .cons _ t, h => by
    obtain ⟨c, o, u, h1, h2⟩ := a1d.get (j := j) t (by simpa using h)
    exact ⟨c, o, u, by simpa using h1, h2⟩
  | [], [], j, x, .nil, h => by simp at h
theorem a1d.length {H : Hp} : ∀ {cs : List Addr} {xs : List V}, a1d H cs xs → cs.length = xs.length
  | [], [], .nil => rfl
  | _ :: _, _ :: _, .cons _ t => by rw [List.length_cons, List.length_cons, a1d.length t]
theorem a3d {H : Hp} {cs : List Addr} {b : Addr} {u : HO} (h : without H cs b = some u) : b ∉ cs ∧ H b = some u := by
  unfold without at h
  split at h
  · cases h
  · rename_i n; exact ⟨n, h⟩
theorem a2p {H : Hp} {cs : List Addr} {b : Addr} (h : H b = none) : without H cs b = none := by
  unfold without; split
  · rfl
  · exact h
theorem a1Y {H : Hp} {cs : List Addr} {b : Addr} (h : b ∉ cs) : without H cs b = H b := by unfold without; rw [if_neg h]
theorem a4B {H H2 : Hp} {cs : List Addr} {b : Addr} (h : b ∉ cs) : back H cs H2 b = H2 b := by unfold back; rw [if_neg h]
theorem a20 {H H2 : Hp} {cs : List Addr} {b : Addr} (h : b ∈ cs) : back H cs H2 b = H b := by unfold back; rw [if_pos h]
theorem ObjOk.to {P : Program} {w : World} {H H' : Hp} {h : Heap} {a : Addr} {o : HO} (x : ObjOk P w H h a o) (k : ∀ b v, H b = some v → (∀ ob u z, v = .frz ob u → ob.data ≠ .cell z) → H' b = some v) : ObjOk P w H' h a o := by
  induction o with
  | lst xs => exact x
  | tup xs => exact x
  | dK kvs => exact x
  | dT kvs =>
    obtain ⟨z, y, xs, r, rest⟩ := x
    exact ⟨z, y, xs, Paired.mapP r fun p q z => ⟨z.1, k _ _ z.2.1 (fun _ _ _ e => nomatch e), z.2.2⟩, rest⟩
  | set S n => exact x
  | ins C dx fs => exact ⟨k _ _ x.1 (fun _ _ _ e => nomatch e), x.2⟩
  | own y => exact x
  | xd fs => exact x
  | rng lo hi => exact x
  | frz ob u ih => exact ⟨x.1, ih x.2⟩
  | tbl ps => exact x
  | tab good =>
    obtain ⟨ps, e, tr, q⟩ := x
    refine ⟨ps, e, tr, fun p cv hg hc => ?_⟩
    obtain ⟨c, oc, qq, vs, t, e1, e2, e3, e4, e5⟩ := q p cv hg hc
    exact ⟨c, oc, qq, vs, t, e1, k _ _ e2 (fun ob u z e => by cases e; rw [e4]; exact fun e => nomatch e), e3, e4, e5⟩
  | fnc c q =>
    obtain ⟨y, oc, vs, t, e1, e2, e3⟩ := x
    exact ⟨y, oc, vs, t, k _ _ e1 (fun ob u z e => by cases e; rw [e2]; exact fun e => nomatch e), e2, e3⟩
  | met f y => exact x
  | ext φ => exact x
theorem HOk.without {P : Program} {w : World} {H : Hp} {h : Heap} {cs : List Addr} (x : HOk P w H h) (hc : ∀ c ∈ cs, ∃ o u, H c = some (.frz o (.own c)) ∧ o.data = .cell (some u)) : HOk P w (without H cs) h := fun a o e => by
  obtain ⟨_, e⟩ := a3d e
  refine ObjOk.to (x a o e) fun b v hb nc => ?_
  rw [a1Y]
  · exact hb
  · intro hm
    obtain ⟨ob, u, q, d⟩ := hc b hm
    rw [hb] at q; cases q
    exact nc _ _ _ rfl d
structure a2m (N : List Str) (L : LamT) : Prop where
  kind : L.scope.kind = .function
  co : L.scope.isCoroutine = false
  gen : L.scope.isGenerator = false
  nd : N.Nodup
  pre : N.take (1 + L.fv.length) = L.par :: L.fv
  par : L.scope.names.lookup L.par = some .local ∨ L.scope.names.lookup L.par = some .cell
  fvs : ∀ y ∈ L.fv, L.scope.names.lookup y = some .free ∧ (y, NameKind.cell) ∉ L.scope.names
  all : ∀ y, L.scope.names.lookup y = some .free → y ∈ L.fv
abbrev a3g (L : LamT) (n f c : Addr) (clos : List (Str × Addr)) : Env := newEnv L.scope n mainGlobals (cellsFrom (n + 1) L.scope.names clos) (L.qual ++ ".<locals>.") (some f) (.ref c) none builtinsNs
def cxLam (P : Program) (w : World) (K : PySem.W.Frag) (mg : Str → Option Value) (base : Heap) (N : List Str) (L : LamT) (f c : Addr) (clos : List (Str × Addr)) (A : Around) (outer : List Env) (s : Shared) (H : Hp) : Cx where
  prog := P
  w := w
  K := K
  mg := mg
  base := base
  A := A.deeper (a3g L s.heap.objs.size f c clos)
  N := N
  s₀ := s
  H₀ := H
  env := a3g L s.heap.objs.size f c clos
  outer := outer
  stack := a3g L s.heap.objs.size f c clos :: outer
  ex := []
  calm := true
  fn := fun x => L.scope.names.lookup x == some .cell
  pn := []
  xe := fun _ _ => False
section
variable {P : Program} {w : World} {K : PySem.W.Frag} {mg : Str → Option Value} {base : Heap} {N : List Str} {L : LamT} {f c : Addr} {cs : List Addr} {A : Around} {outer : List Env} {s s1 : Shared} {H : Hp} {u : Value} {v : V} {xs : List V}
theorem Env0.without (e : Env0 P w K mg base A outer s H) (hc : ∀ c ∈ cs, ∃ o u, H c = some (.frz o (.own c)) ∧ o.data = .cell (some u)) : Env0 P w K mg base A outer s (L2.without H cs) :=
  ⟨e.frames, e.mod, fun b o q => ⟨(e.bs b o q).1, a2p (e.bs b o q).2⟩, e.bsz, e.funs, fun b hb => a2p (e.frf b hb), e.hok.without hc, e.bare⟩
theorem a5d {cs : List Addr} {fv : List Str} {y : Str} {c : Addr} (h : (y, c) ∈ fv.zip cs) : c ∈ cs := (List.of_mem_zip h).2
theorem a4F : ∀ {fv : List Str} {cs : List Addr}, cs.Nodup → (fv.zip cs).Pairwise fun x y => x.2 ≠ y.2
  | [], _, _ => .nil
  | _ :: _, [], _ => .nil
  | f :: fv, c :: cs, nd => by
    rw [List.zip_cons_cons]
    refine List.pairwise_cons.mpr ⟨fun y hy z => ?_, a4F (List.nodup_cons.mp nd).2⟩
    have z' : c = y.2 := z
    exact (List.nodup_cons.mp nd).1 (z' ▸ a5d (y := y.1) (c := y.2) hy)
theorem inv_lam (S : a2m N L) (hd : A.handled = none) (e0 : Env0 P w K mg base A outer s H) (hcs : a1d H cs xs) (nd : cs.Nodup) (hl : cs.length = L.fv.length) (r : RelV v u)
    (x : InD s (a3g L s.heap.objs.size f c (L.fv.zip cs)) (L.fv.zip cs) L.par u s1) :
    Inv (cxLam P w K mg base N L f c (L.fv.zip cs) A outer s (without H cs)) [] (start N (v :: xs)) (without H cs) s1 := by
  have e1 := e0.without hcs.mem
  have hpl : 1 + L.fv.length ≤ N.length := by have := congrArg List.length S.pre; rw [List.length_take, List.length_cons] at this; omega
  obtain ⟨m, inc, lk⟩ := x.inc
  obtain ⟨h1, tk, rfl, hk⟩ := inc.done
  have noA : ∀ b : Addr, b ∉ (cxLam P w K mg base N L f c (L.fv.zip cs) A outer s (without H cs)).ex := fun b z => absurd (show b ∈ ([] : List Addr) from z) (by simp)
  have eC : (a3g L s.heap.objs.size f c (L.fv.zip cs)).cells = cellsFrom (s.heap.objs.size + 1) L.scope.names [] ++ L.fv.zip cs := a2y _ _ _
  have hxl : xs.length = L.fv.length := by rw [← hcs.length]; exact hl
  have fvc : ∀ (j : Nat) (y : Str), L.fv[j]? = some y → ∀ c', cs[j]? = some c' → (a3g L s.heap.objs.size f c (L.fv.zip cs)).cells.lookup y = some c' := fun j y hy c' hc' => by
    rw [eC, a2z]
    have nf : L.fv.Nodup := by
      have : (L.par :: L.fv).Nodup := by rw [← S.pre]; exact S.nd.sublist (List.take_sublist _ _)
      exact (List.nodup_cons.mp this).2
    cases q : (cellsFrom (s.heap.objs.size + 1) L.scope.names []).lookup y with
    | none => exact a2G nf hy hc'
    | some d =>
      rcases a2k _ _ _ (PySem.mem_of_lookup q) with z | z
      · cases z
      · exact absurd z (S.fvs y (List.mem_of_getElem? hy)).2
  refine ⟨⟨e0.mod, S.kind, rfl, rfl, Nat.le_refl _, fun y z c h1 h2 => ?_, fun y hy => ?_, fun y c' hf h => ?_, fun _ => hd, Around.frames_deeper e0.frames, .inr ⟨rfl, rfl⟩, fun b z => absurd z (noA b), e1.bs, e1.bsz, fun b _ _ => noA b, fun b z => absurd z (noA b), e1.funs, e1.frf⟩,
    rfl, e1.bare, Un.kept hk, ⟨m, inc.ns, fun i y v' h1 h2 h3 => ?_⟩, fun y c h => x.cell y c (PySem.mem_of_lookup h), e1.hok.fresh (Nat.le_refl _), fun y c' h => ?_, fun p hp => absurd (show p ∈ ([] : List (Addr × Obj)) from hp) (by simp), e1.hok.kept hk, ?_⟩
  · exact name_of_addr x.apart (PySem.mem_of_lookup h1) (PySem.mem_of_lookup h2)
  · have hy : L.scope.names.lookup y = some .cell ∨ L.scope.names.lookup y = some .free := hy
    show ∃ c', (a3g L s.heap.objs.size f c (L.fv.zip cs)).cells.lookup y = some c'
    rcases hy with hy | hy
    · obtain ⟨c', q⟩ := cell_has (n := s.heap.objs.size + 1) hy
      exact ⟨c', by rw [eC, a2z, q]⟩
    · obtain ⟨j, hj, ej⟩ := List.getElem_of_mem (S.all y hy)
      have hj' : j < cs.length := by rw [hl]; exact hj
      exact ⟨cs[j], fvc j y (by rw [List.getElem?_eq_getElem hj, ej]) _ (List.getElem?_eq_getElem hj')⟩
  · have hf : L.scope.names.lookup y = some .cell := eq_of_beq hf
    rcases x.above y c' (PySem.mem_of_lookup h) with z | z
    · have hm := (List.of_mem_zip z).1
      rw [(S.fvs y hm).1] at hf; cases hf
    · exact Nat.le_of_lt z
  · cases i with
    | zero =>
      have hy : y = L.par := by
        have q := congrArg (·[0]?) S.pre
        simp only [List.getElem?_take_of_lt (show 0 < 1 + L.fv.length by omega)] at q
        have h1' : N[0]? = some y := h1
        rw [h1'] at q
        simpa using q
      subst hy
      have hv : v' = v := by
        have h2' : (start N (v :: xs))[0]? = some (some v') := h2
        unfold start at h2'
        simpa using h2'.symm
      subst hv
      exact ⟨u, r, lk⟩
    | succ j =>
      have hj : j < xs.length := by
        have h2' : (start N (v :: xs))[j + 1]? = some (some v') := h2
        unfold start at h2'
        by_cases z : j < xs.length
        · exact z
        · rw [List.getElem?_append_right (by simp; omega), List.getElem?_replicate] at h2'
          split at h2' <;> cases h2'
      have hv : xs[j]? = some v' := by
        have h2' : (start N (v :: xs))[j + 1]? = some (some v') := h2
        unfold start at h2'
        rw [List.getElem?_append_left (by simp; omega), List.getElem?_map] at h2'
        simpa using h2'
      have hy : L.fv[j]? = some y := by
        have q := congrArg (·[j + 1]?) S.pre
        simp only [List.getElem?_take_of_lt (show j + 1 < 1 + L.fv.length by omega)] at q
        have h1' : N[j + 1]? = some y := h1
        rw [h1'] at q
        simpa using q.symm
      obtain ⟨c', o, u', hc', hH, hdat, rv⟩ := hcs.get hv
      refine ⟨u', rv, .inr ⟨.inr (S.fvs y (List.mem_of_getElem? hy)).1, c', fvc j y hy c' hc', ⟨o, hk _ _ (e0.hok c' _ hH).1, hdat⟩⟩⟩
  · rcases x.above y c' (PySem.mem_of_lookup h) with z | z
    · show without H cs c' = none
      unfold without
      rw [if_pos (a5d z)]
    · exact e1.hok.fresh (Nat.le_of_lt z)
  · unfold start
    show _ = N.length
    rw [List.length_append, List.length_map, List.length_replicate, List.length_cons]
    omega
theorem run_lam {k : Nat} {a : Addr} {pm ctv : Value} {Q : VK} {t : TE} (S : a2m N L) (hbind : ∀ (pm : Value) (clos : List (Str × Addr)) (c : Addr) (ctv u : Value), bindArgs (kla_fn "<lambda>" L.qual L.params L.body L.scope clos pm (.ref c) ctv) ⟨[u], []⟩ = pure [(L.par, u)])
    (hr : Room (k + 1) A) (e0 : Env0 P w K mg base A outer s H) (ha : H a = some (.frz (L.obj (L.fv.zip cs) pm c ctv) (.fnc c L.qual))) (hcs : a1d H cs xs) (nd : cs.Nodup) (hl : cs.length = L.fv.length) (r : RelV v u)
    (hb : PE (cxLam P w K mg base N L a c (L.fv.zip cs) A outer s (without H cs)) L.body t) (ht : t (start N (v :: xs)) (without H cs) fun v' H2 => Q v' (back H cs H2)) :
    codeAny (model P w) A (.call (.ref a) ⟨[u], []⟩) (CR CX0 outer P w H s Q E0) s := by
  obtain ⟨eA, _, oc, vs, tk, hcode, hdd, hv⟩ := e0.hok a _ ha
  have hrec : s.heap.CodeRec (.ref c) L.qual := ⟨c, oc, vs, tk, rfl, (e0.hok c _ hcode).1, hdd, hv⟩
  have lim : s.heap.NoLimit := e0.mod.nolimit.keeps fun b o e => (e0.bs b o e).1
  refine kla_callFunE hr.depth eA rfl S.co S.gen rfl hrec ?_
  rw [hbind]
  refine wpAny_pure (a6k S.kind S.par (fun y c' hm => ?_) (a4F nd) fun env he s1 x => ?_)
  · obtain ⟨o, u', q, d⟩ := hcs.mem c' (a5d hm)
    exact ⟨some u', o, (e0.hok c' _ q).1, d⟩
  subst he
  obtain ⟨m, inc, _⟩ := id x.inc
  refine ⟨lim.keeps inc.keep, kla_codeExpr ?_⟩
  have I := inv_lam (c := c) (f := a) S hr.hd e0 hcs nd hl r x
  refine wpAny_mono (hb [] s1 _ _ _ I ht) (fun uu s' ⟨v', H2, J, rv, q⟩ => ?_) fun _ _ z => z.elim
  have un : Un (frs outer) [] (without H cs) H2 s.heap s'.heap := J.base
  have inH : ∀ b, b ∈ cs → ∃ o u, H b = some (.frz o (.own b)) ∧ o.data = .cell (some u) ∧ s'.heap.get? b = some o ∧ H2 b = none := fun b hb => by
    obtain ⟨o, u', q, d⟩ := hcs.mem b hb
    have g := (e0.hok b _ q).1
    have n : without H cs b = none := by unfold without; rw [if_pos hb]
    exact ⟨o, u', q, d, un.keep b o g n (fun z => by rw [e0.frf b z] at q; cases q) (by simp), un.free b o g n (by simp)⟩
  have sm : ∀ b o, H2 b = some o → back H cs H2 b = some o := fun b o e => by
    rw [a4B]
    · exact e
    · intro hb
      obtain ⟨_, _, _, _, _, z⟩ := inH b hb
      rw [z] at e; cases e
  have wo : ∀ b, H b = none → without H cs b = none ∧ b ∉ cs := fun b n => ⟨a2p n, fun hb => by
    obtain ⟨_, _, q, _⟩ := inH b hb
    rw [q] at n; cases n⟩
  have lift : ∀ b o, H b = some o → b ∉ cs → without H cs b = some o := fun b o e hb => by rw [a1Y hb]; exact e
  refine ⟨v', back H cs H2, J.os, J.bare, ⟨fun b o g n => un.keep b o g (wo b n).1, fun b o g n => un.slot b o g (wo b n).1, fun b o g n hx => by rw [a4B (wo b n).2]; exact un.free b o g (wo b n).1 hx, un.there, fun b ys e => ?_, fun b o z e => ?_, fun b ps e => ?_⟩, fun b o e => ?_, rv, q⟩
  · by_cases hb : b ∈ cs
    · rw [a20 hb]; exact e
    · exact sm _ _ (un.tups b ys (lift _ _ e hb))
  · by_cases hb : b ∈ cs
    · rw [a20 hb]; exact e
    · exact sm _ _ (un.frzs b o z (lift _ _ e hb))
  · by_cases hb : b ∈ cs
    · exact ⟨#[], by rw [a20 hb, e]; simp⟩
    · obtain ⟨more, z⟩ := un.tbls b ps (lift _ _ e hb)
      exact ⟨more, sm _ _ z⟩
  · by_cases hb : b ∈ cs
    · obtain ⟨o', u', q', d, g, _⟩ := inH b hb
      rw [a20 hb, q'] at e
      cases e
      exact ⟨g, ⟨o', g⟩⟩
    · rw [a4B hb] at e
      exact (J.hok b o e).stay (fun _ _ _ z => z) (fun _ z => sm _ _ z) (fun _ _ z => sm _ _ z) fun _ _ _ z => sm _ _ z
end
end L2
namespace L2
open PySem PySem.Spec PyProof.Rows PySem.W
abbrev a3F (h : Heap) (z TI TO T : Addr) (b : Bool) : Prop :=
  h.get? z = some { cls := .type "zip", dict := none, data := .fields #[rawInt T, .bool b, .bool false, .ref TI, .ref TO], slots := #[] }
section
variable {prog : Program} {w : World} {A : Around} {E : Value → Shared → Prop} {s : Shared}
theorem a7w {z TI TO T : Addr} {b : Bool} {oT : Obj} {Q : Bool → Shared → Prop} (hz : a3F s.heap z TI TO T b) (hT : s.heap.get? T = some oT)
    (hQ : ∀ h', a3F h' z TI TO T true → Heap.SameBut z s.heap h' → Q false { s with heap := h' }) : wpAny (model prog w) A (Builtin.SmallTypes.ownedTupleIsFree (.ref z)) Q E s := by
  unfold Builtin.SmallTypes.ownedTupleIsFree
  refine wpAny_bind (wpAny_field hz rfl (x := rawInt T) rfl ?_)
  show wpAny _ _ (loadIfAlive ((T : Int).toNat) >>= _) _ _ _
  rw [Int.toNat_natCast]
  refine wpAny_bind (kdx_alive hT ?_)
  simp only [Option.isNone_some, Bool.false_eq_true, if_false]
  refine wpAny_bind (wpAny_field hz rfl (x := .bool b) rfl ?_)
  cases b with
  | true =>
    rw [if_neg (show ¬ ((Value.bool true != Value.bool true) = true) from Bool.false_ne_true)]
    exact wpAny_pure (hQ s.heap hz (Heap.SameBut.refl _ _))
  | false =>
    rw [if_pos (show (Value.bool false != Value.bool true) = true from rfl)]
    refine wpAny_bind (wpAny_setField_rec hz (by simp) fun h₃ he₃ hs₃ => ?_)
    exact wpAny_pure (hQ h₃ he₃ hs₃)
theorem a6F {z TI TO i1 i2 l1 l2 T : Addr} {b : Bool} {oT : Obj} {k1 k2 : Nat} {xs ys : Array Value} {x y : Value} {Q : Value → Shared → Prop} (D : ZipApart z TI TO i1 i2 l1 l2)
    (hz : a3F s.heap z TI TO T b) (hT : s.heap.get? T = some oT) (hTI : IsPair s.heap TI (.ref i1) (.ref i2))
    (h1 : s.heap.IsListIter i1 l1 k1) (h2 : s.heap.IsListIter i2 l2 k2) (hl1 : s.heap.IsList l1 xs) (hl2 : s.heap.IsList l2 ys) (hx : xs[k1]? = some x) (hy : ys[k2]? = some y)
    (hQ : ∀ h', a3F h' z TI TO T true → h'.IsListIter i1 l1 (k1 + 1) → h'.IsListIter i2 l2 (k2 + 1) → IsPair h' s.heap.objs.size x y → h'.objs.size = s.heap.objs.size + 1 →
      (∀ c o, c ≠ z → c ≠ i1 → c ≠ i2 → s.heap.get? c = some o → h'.get? c = some o) → Q (.ref s.heap.objs.size) { s with heap := h' }) :
    wpAny (model prog w) A (Builtin.«zip.__next__» ⟨[.ref z], []⟩) (fun fin s' => ∃ v, fin = .done (.ret v) ∧ Q v s') E s := by
  show wpAny _ _ (field (.ref z) 2 >>= _) _ _ _
  refine wpAny_bind (wpAny_field hz rfl (x := .bool false) rfl ?_)
  show wpAny _ _ (field (.ref z) 3 >>= _) _ _ _
  refine wpAny_bind (wpAny_field hz rfl (x := .ref TI) rfl ?_)
  refine wpAny_bind (wpAny_seqItems hTI rfl ?_)
  show wpAny _ _ (Builtin.SmallTypes.ownedTupleIsFree (.ref z) >>= _) _ _ _
  refine wpAny_bind (a7w hz hT fun h₁ hz₁ hs₁ => ?_)
  simp only [Bool.false_eq_true, if_false]
  rw [← Array.forIn_toList]
  simp only [List.forIn_cons, List.forIn_nil]
  refine wpAny_bind (wpAny_bind (wpAny_bind (wpAny_holding ?_)))
  show wpAny _ _ (Builtin.SmallTypes.nextOf (.ref i1) >>= _) _ _ _
  refine wpAny_bind (wpAny_nextOf_list_item (h1.extBut hs₁.extBut D.i1z) (hl1.extBut hs₁.extBut D.l1z) hx fun h₂ h1₂ hs₂ => wpAny_pure ?_)
  refine wpAny_pure ?_
  refine wpAny_bind (wpAny_bind (wpAny_holding ?_))
  show wpAny _ _ (Builtin.SmallTypes.nextOf (.ref i2) >>= _) _ _ _
  refine wpAny_bind (wpAny_nextOf_list_item ((h2.extBut hs₁.extBut D.i2z).extBut hs₂.extBut D.i12.symm)
    ((hl2.extBut hs₁.extBut D.l2z).extBut hs₂.extBut D.l2i1) hy fun h₄ h2₄ hs₄ => wpAny_pure ?_)
  refine wpAny_pure (wpAny_pure ?_)
  refine wpAny_bind (wpAny_newTuple ?_ (by show (2 : Nat) ≤ sizeLine; decide))
  have hsz : h₄.objs.size = s.heap.objs.size := by rw [hs₄.1, hs₂.1, hs₁.1]
  have kp : ∀ c o, c ≠ z → c ≠ i1 → c ≠ i2 → s.heap.get? c = some o → h₄.get? c = some o := fun c o c1 c2 c3 e => hs₄.extBut _ _ c3 (hs₂.extBut _ _ c2 (hs₁.extBut _ _ c1 e))
  have hz₄ : a3F h₄ z TI TO T true := hs₄.extBut _ _ D.i2z.symm (hs₂.extBut _ _ D.i1z.symm hz₁)
  refine wpAny_pure ⟨_, rfl, ?_⟩
  show Q (.ref h₄.objs.size) _
  have hp : IsPair (h₄.push { cls := .type "tuple", data := .seq #[x, y] }) s.heap.objs.size x y := by rw [← hsz]; exact Heap.get?_push_size _ rfl
  rw [hsz]
  exact hQ _ (Heap.get?_push_of_some _ hz₄) ((h1₂.extBut hs₄.extBut D.i12).at fun o e => Heap.get?_push_of_some _ e) (h2₄.at fun o e => Heap.get?_push_of_some _ e) hp (by rw [Heap.size_push, hsz]) fun c o c1 c2 c3 e => Heap.get?_push_of_some _ (kp c o c1 c2 c3 e)
theorem zipB_end {z TI TO i1 i2 l1 l2 T : Addr} {b : Bool} {oT : Obj} {k1 : Nat} {xs : Array Value} {Q : Fin → Shared → Prop} (hh : A.handled = none) (D : ZipApart z TI TO i1 i2 l1 l2)
    (hz : a3F s.heap z TI TO T b) (hT : s.heap.get? T = some oT) (hTI : IsPair s.heap TI (.ref i1) (.ref i2)) (h1 : s.heap.IsListIter i1 l1 k1) (hl1 : s.heap.IsList l1 xs) (hx : xs[k1]? = none)
    (hE : ∀ h' e, (∀ c o, c ≠ z → c ≠ i1 → s.heap.get? c = some o → h'.get? c = some o) → (∃ o, h'.get? e = some o ∧ o.cls = .type "StopIteration") → E (.ref e) { s with heap := h' }) :
    wpAny (model prog w) A (Builtin.«zip.__next__» ⟨[.ref z], []⟩) Q E s := by
  show wpAny _ _ (field (.ref z) 2 >>= _) _ _ _
  refine wpAny_bind (wpAny_field hz rfl (x := .bool false) rfl ?_)
  show wpAny _ _ (field (.ref z) 3 >>= _) _ _ _
  refine wpAny_bind (wpAny_field hz rfl (x := .ref TI) rfl ?_)
  refine wpAny_bind (wpAny_seqItems hTI rfl ?_)
  show wpAny _ _ (Builtin.SmallTypes.ownedTupleIsFree (.ref z) >>= _) _ _ _
  refine wpAny_bind (a7w hz hT fun h₁ hz₁ hs₁ => ?_)
  simp only [Bool.false_eq_true, if_false]
  rw [← Array.forIn_toList]
  simp only [List.forIn_cons, List.forIn_nil]
  refine wpAny_bind (wpAny_bind (wpAny_bind (wpAny_holding ?_)))
  show wpAny _ _ (Builtin.SmallTypes.nextOf (.ref i1) >>= _) _ _ _
  refine wpAny_bind (wpAny_nextOf_list_end hh (h1.extBut hs₁.extBut D.i1z) (hl1.extBut hs₁.extBut D.l1z) hx fun h₂ e hs₂ he => ?_)
  exact hE h₂ e (fun c o c1 c2 q => hs₂ _ _ c2 (hs₁.extBut _ _ c1 q)) he
structure ZSt (h : Heap) (z TI TO i1 i2 l1 l2 S : Addr) (xs ys : Array Value) (i : Nat) : Prop where
  zip : (i = 0 ∧ IsZip h z TI TO .none) ∨ ∃ T b oT, a3F h z TI TO T b ∧ h.get? T = some oT ∧ T ∉ [z, TO, i1, i2, S]
  ti : IsPair h TI (.ref i1) (.ref i2)
  to : ∃ a b, IsPair h TO a b
  it1 : h.IsListIter i1 l1 i
  it2 : h.IsListIter i2 l2 i
  ls1 : h.IsList l1 xs
  ls2 : h.IsList l2 ys
theorem ZSt.keep {h h' : Heap} {z TI TO i1 i2 l1 l2 S : Addr} {xs ys : Array Value} {i : Nat} (x : ZSt h z TI TO i1 i2 l1 l2 S xs ys i) (k : ∀ b o, b ≠ S → h.get? b = some o → h'.get? b = some o) (hS : S ∉ [z, TI, TO, i1, i2, l1, l2]) : ZSt h' z TI TO i1 i2 l1 l2 S xs ys i := by
  have n : ∀ c ∈ [z, TI, TO, i1, i2, l1, l2], c ≠ S := fun c hc e => hS (e ▸ hc)
  refine ⟨?_, k _ _ (n _ (by simp)) x.ti, let ⟨a, b, e⟩ := x.to; ⟨a, b, k _ _ (n _ (by simp)) e⟩, x.it1.at fun o e => k _ o (n _ (by simp)) e, x.it2.at fun o e => k _ o (n _ (by simp)) e, x.ls1.at fun o e => k _ o (n _ (by simp)) e, x.ls2.at fun o e => k _ o (n _ (by simp)) e⟩
  rcases x.zip with ⟨e, q⟩ | ⟨T, b, oT, q, t, m⟩
  · exact .inl ⟨e, k _ _ (n _ (by simp)) q⟩
  · exact .inr ⟨T, b, oT, k _ _ (n _ (by simp)) q, k _ _ (fun e => m (by simp [e])) t, m⟩
theorem zst_item {z TI TO i1 i2 l1 l2 S : Addr} {i : Nat} {xs ys : Array Value} {x y : Value} {Q : Option Value → Shared → Prop} (D : ZipApart z TI TO i1 i2 l1 l2) (st : ZSt s.heap z TI TO i1 i2 l1 l2 S xs ys i) (hS : S < s.heap.objs.size) (hx : xs[i]? = some x) (hy : ys[i]? = some y)
    (hQ : ∀ h', ZSt h' z TI TO i1 i2 l1 l2 S xs ys (i + 1) → IsPair h' s.heap.objs.size x y → h'.objs.size = s.heap.objs.size + 1 → (∀ c o, c ∉ [z, TO, i1, i2] → s.heap.get? c = some o → h'.get? c = some o) → Q (some (.ref s.heap.objs.size)) { s with heap := h' }) :
    wpAny (model prog w) A (pyNext (.ref z)) Q E s := by
  obtain ⟨zp, ti, ⟨a, b, to⟩, j1, j2, q1, q2⟩ := st
  have lt : ∀ {c o}, s.heap.get? c = some o → s.heap.objs.size ≠ c := fun e => Nat.ne_of_gt (Heap.lt_size e)
  have n1 : s.heap.objs.size ≠ i1 := by obtain ⟨_, e, _⟩ := j1; exact lt e
  have n2 : s.heap.objs.size ≠ i2 := by obtain ⟨_, e, _⟩ := j2; exact lt e
  rcases zp with ⟨_, hz⟩ | ⟨T, b', oT, hz, hT, hm⟩
  · refine wpAny_pyNext_zip_item D hz ti to j1 j2 q1 q2 hx hy fun h' a1 a2 a3 a4 a5 a6 hk => ?_
    refine hQ h' ⟨.inr ⟨_, false, _, a1, a5, ?_⟩, hk _ _ D.TIz D.TITO D.TIi1 D.TIi2 ti, ⟨_, _, a2⟩, a3, a4, q1.at fun o e => hk _ o D.l1z D.l1TO D.l1i1 D.l1i2 e, q2.at fun o e => hk _ o D.l2z D.l2TO D.l2i1 D.l2i2 e⟩ a5 a6 fun c o hc e =>
      hk c o (fun x => hc (by simp [x])) (fun x => hc (by simp [x])) (fun x => hc (by simp [x])) (fun x => hc (by simp [x])) e
    simp only [List.mem_cons, List.not_mem_nil, or_false, not_or]
    exact ⟨lt hz, lt to, n1, n2, Nat.ne_of_gt hS⟩
  · have hTy : s.TypeIs (.ref z) "zip" := ⟨_, hz, rfl⟩
    unfold pyNext
    refine wpAny_bind (wpAny_attempt (wpAny_callSpecial?_slot (name := Str.ofString "__next__") hTy PySem.F.slot_zip_next (wpAny_call_entry PySem.F.slot_zip_next hTy PySem.F.entry_zip_next
      (a6F D hz hT ti j1 j2 q1 q2 hx hy fun h' a1 a3 a4 a5 a6 hk => wpAny_pure ?_) (PySem.F.args_zip_next_1 _))))
    simp only [List.mem_cons, List.not_mem_nil, or_false, not_or] at hm
    exact hQ h' ⟨.inr ⟨T, true, oT, a1, hk _ _ hm.1 hm.2.2.1 hm.2.2.2.1 hT, by simp only [List.mem_cons, List.not_mem_nil, or_false, not_or]; exact hm⟩, hk _ _ D.TIz D.TIi1 D.TIi2 ti, ⟨_, _, hk _ _ D.TOz D.TOi1 D.TOi2 to⟩, a3, a4, q1.at fun o e => hk _ o D.l1z D.l1i1 D.l1i2 e, q2.at fun o e => hk _ o D.l2z D.l2i1 D.l2i2 e⟩ a5 a6 fun c o hc e =>
      hk c o (fun x => hc (by simp [x])) (fun x => hc (by simp [x])) (fun x => hc (by simp [x])) e
theorem zst_done {z TI TO i1 i2 l1 l2 S : Addr} {i : Nat} {xs ys : Array Value} {Q : Option Value → Shared → Prop} (hh : A.handled = none) (D : ZipApart z TI TO i1 i2 l1 l2) (st : ZSt s.heap z TI TO i1 i2 l1 l2 S xs ys i) (hx : xs[i]? = none)
    (hQ : ∀ h', (∀ c o, c ∉ [z, TO, i1, i2] → s.heap.get? c = some o → h'.get? c = some o) → Q none { s with heap := h' }) :
    wpAny (model prog w) A (pyNext (.ref z)) Q E s := by
  obtain ⟨zp, ti, ⟨a, b, to⟩, j1, j2, q1, q2⟩ := st
  rcases zp with ⟨_, hz⟩ | ⟨T, b', oT, hz, hT, hm⟩
  · exact wpAny_pyNext_zip_end hh D hz ti to j1 j2 q1 q2 (.inl hx) fun h' hk => hQ h' fun c o hc e => hk c o (fun x => hc (by simp [x])) (fun x => hc (by simp [x])) (fun x => hc (by simp [x])) (fun x => hc (by simp [x])) e
  · have hTy : s.TypeIs (.ref z) "zip" := ⟨_, hz, rfl⟩
    unfold pyNext
    refine wpAny_bind (wpAny_attempt (wpAny_callSpecial?_slot (name := Str.ofString "__next__") hTy PySem.F.slot_zip_next (wpAny_call_entry PySem.F.slot_zip_next hTy PySem.F.entry_zip_next
      (zipB_end hh D hz hT ti j1 q1 hx fun h' e hk he => ?_) (PySem.F.args_zip_next_1 _))))
    obtain ⟨o, ho, hc⟩ := he
    refine wpAny_bind (wpAny_isInstance (T := "StopIteration") (b := true) ⟨o, ho, hc⟩ isSubtype_stop ?_)
    exact wpAny_pure (hQ _ fun c o hc e => hk c o (fun x => hc (by simp [x])) (fun x => hc (by simp [x])) e)
structure ZG (xs ys : Array Value) (lo : Addr) (h : Heap) (ts : List Addr) : Prop where
  rise : ts.Pairwise (· < ·)
  above : ∀ a ∈ ts, lo < a
  pairs : ∀ (j : Nat) (a : Addr), ts[j]? = some a → ∃ x y, xs[j]? = some x ∧ ys[j]? = some y ∧ IsPair h a x y
theorem zst_loop {R : Result → Shared → Prop} {z TI TO i1 i2 l1 l2 S : Addr} {xs ys : Array Value} (hh : A.handled = none) (D : ZipApart z TI TO i1 i2 l1 l2) (hS : S ∉ [z, TI, TO, i1, i2, l1, l2]) (hxy : xs.size = ys.size) (hn : xs.size ≤ sizeLine) (res : Value) {h₁ : Heap}
    (lo : Addr) (hlo : ∀ c ∈ [z, TO, i1, i2, S], c ≤ lo)
    (hR : ∀ h' tk acc c ts, (∀ b o, b ∉ [z, TO, i1, i2, S] → h₁.get? b = some o → h'.get? b = some o) → h'.get? S = some { cls := .type "list", dict := none, data := .seq acc c, slots := #[] } → ts.length = xs.size → ZG xs ys lo h' ts →
      acc.toList = ts.map Value.ref → R (.ok (.ret res)) { s with heap := h', toks := tk }) :
    ∀ (k i : Nat) (h : Heap) (tk c : Nat) (acc : Array Value) (ts : List Addr), xs.size - i = k → i ≤ xs.size → ZSt h z TI TO i1 i2 l1 l2 S xs ys i → (∀ b o, b ∉ [z, TO, i1, i2, S] → h₁.get? b = some o → h.get? b = some o) →
      h.get? S = some { cls := .type "list", dict := none, data := .seq acc c, slots := #[] } → acc.toList = ts.map Value.ref → ts.length = i → ZG xs ys lo h ts → lo < h.objs.size →
      codeAny (model prog w) A (.builtin "list.extend.loop" ⟨[.ref S, .ref z, res], []⟩) R { s with heap := h, toks := tk } := by
  have nS : ∀ c ∈ [z, TI, TO, i1, i2, l1, l2], c ≠ S := fun c hc e => hS (e ▸ hc)
  have hSw : S ∉ [z, TO, i1, i2] := fun hm => hS (by simp at hm ⊢; rcases hm with e | e | e | e <;> simp [e])
  have gm : ∀ {h h' : Heap} {ts : List Addr}, ZG xs ys lo h ts → (∀ b o, b ∉ [z, TO, i1, i2, S] → h.get? b = some o → h'.get? b = some o) → ZG xs ys lo h' ts := fun g k => ⟨g.rise, g.above, fun j a hj => by
    obtain ⟨x, y, e1, e2, e3⟩ := g.pairs j a hj
    exact ⟨x, y, e1, e2, k _ _ (fun hm => absurd (Nat.lt_of_lt_of_le (g.above a (List.mem_of_getElem? hj)) (hlo a hm)) (Nat.lt_irrefl _)) e3⟩⟩
  have sub : ∀ b, b ∉ [z, TO, i1, i2, S] → b ∉ [z, TO, i1, i2] ∧ b ≠ S := fun b hb => by
    simp only [List.mem_cons, List.not_mem_nil, or_false, not_or] at hb ⊢
    exact ⟨⟨hb.1, hb.2.1, hb.2.2.1, hb.2.2.2.1⟩, hb.2.2.2.2⟩
  intro k
  induction k with
  | zero =>
    intro i h tk c acc ts hk hi hst hkeep hSS hacc hal hG hlt
    refine codeAny_builtin PySem.F.entry_extend_loop ?_
    rw [Around.under_plainId PySem.F.plain_extend_loop _]
    show wpAny _ A.in1 (pyNext (.ref z) >>= _) _ _ _
    refine wpAny_bind (zst_done (s := { s with heap := h, toks := tk }) (A := A.in1) hh D hst (Array.getElem?_eq_none (by omega)) fun h' he => ?_)
    exact wpAny_pure (hR h' tk acc c ts (fun b o hb e => he b o (sub b hb).1 (hkeep b o hb e)) (he S _ hSw hSS) (by omega) (gm hG fun b o hb e => he b o (sub b hb).1 e) hacc)
  | succ k ih =>
    intro i h tk c acc ts hk hi hst hkeep hSS hacc hal hG hlt
    have hix : i < xs.size := by omega
    have hiy : i < ys.size := by omega
    have hsz : acc.size = i := by rw [← Array.length_toList, hacc, List.length_map, hal]
    refine codeAny_builtin PySem.F.entry_extend_loop ?_
    rw [Around.under_plainId PySem.F.plain_extend_loop _]
    show wpAny _ A.in1 (pyNext (.ref z) >>= _) _ _ _
    refine wpAny_bind (zst_item (s := { s with heap := h, toks := tk }) (A := A.in1) D hst (Heap.lt_size hSS) (Array.getElem?_eq_getElem hix) (Array.getElem?_eq_getElem hiy) fun h' hst' hp hz' he => ?_)
    have hSS' := he S _ hSw hSS
    have hlS : h.objs.size ≠ S := Nat.ne_of_gt (Heap.lt_size hSS)
    show wpAny _ A.in1 (updateSeq S (·.push (.ref h.objs.size)) >>= _) _ _ _
    refine wpAny_bind ?_
    have oth : ∀ b o, b ≠ S → h'.get? b = some o → (h'.update S (Obj.mapSeq (·.push (.ref h.objs.size)))).get? b = some o := fun b o hb e => (Heap.get?_update_other _ _ (Ne.symm hb)).trans e
    refine wpAny_updateSeq hSS' rfl (wpAny_pure ⟨plainId_quiet PySem.F.plain_extend_loop _, ih (i + 1) _ tk _ (acc.push (.ref h.objs.size)) (ts ++ [h.objs.size]) (by omega) hix (hst'.keep oth hS) (fun b o hb e => oth b o (sub b hb).2 (he b o (sub b hb).1 (hkeep b o hb e))) (Heap.get?_update_self _ hSS' rfl)
      (by rw [Array.toList_push, hacc, List.map_append]; rfl) (by rw [List.length_append, hal]; rfl) ?_ ?_⟩) (by rw [hsz]; omega) (by show (acc.push _).size ≤ sizeLine + 1; rw [Array.size_push, hsz]; omega)
    · refine ⟨List.pairwise_append.mpr ⟨hG.rise, List.pairwise_singleton _ _, fun a ha b hb => ?_⟩, fun a ha => ?_, fun j a hj => ?_⟩
      · rw [List.mem_singleton.mp hb]
        obtain ⟨j, hj⟩ := List.mem_iff_getElem?.mp ha
        obtain ⟨_, _, _, _, e⟩ := hG.pairs j a hj
        exact Heap.lt_size e
      · rcases List.mem_append.mp ha with z1 | z1
        · exact hG.above a z1
        · rw [List.mem_singleton.mp z1]; exact hlt
      · by_cases hjl : j < ts.length
        · rw [List.getElem?_append_left hjl] at hj
          obtain ⟨x, y, e1, e2, e3⟩ := hG.pairs j a hj
          have hm : a ∉ [z, TO, i1, i2, S] := fun hm => absurd (Nat.lt_of_lt_of_le (hG.above a (List.mem_of_getElem? hj)) (hlo a hm)) (Nat.lt_irrefl _)
          exact ⟨x, y, e1, e2, oth _ _ (sub a hm).2 (he _ _ (sub a hm).1 e3)⟩
        · rw [List.getElem?_append_right (by omega)] at hj
          have hj0 : j - ts.length = 0 := by
            cases q : j - ts.length with
            | zero => rfl
            | succ m => rw [q] at hj; simp at hj
          rw [hj0] at hj
          simp at hj
          subst hj
          have hji : j = i := by omega
          subst hji
          exact ⟨_, _, Array.getElem?_eq_getElem hix, Array.getElem?_eq_getElem hiy, oth _ _ hlS hp⟩
    · have e1 : (h'.update S (Obj.mapSeq (·.push (.ref h.objs.size)))).objs.size = h'.objs.size := (Heap.SameBut.update ..).1
      rw [e1, hz']
      exact Nat.lt_succ_of_lt hlt
theorem zip_len : typeLookup (.type "zip") "__len__" = pure none := by rw [typeLookup_type, builtinLookup_eq_fast]; kernel_rfl
theorem zip_hint : typeLookup (.type "zip") "__length_hint__" = pure none := by rw [typeLookup_type, builtinLookup_eq_fast]; kernel_rfl
theorem hint_zip {z : Addr} (hT : s.TypeIs (.ref z) "zip") {Q : Bool → Shared → Prop} (h : Q true s) : wpAny (model prog w) A (Builtin.List.listLengthHint (.ref z)) Q E s := by
  unfold Builtin.List.listLengthHint
  refine wpAny_bind (wpAny_specialOf hT zip_len ?_)
  show wpAny _ A (specialOf (Value.ref z) (Str.ofString "__length_hint__") >>= _) _ _ _
  refine wpAny_bind (wpAny_specialOf hT zip_hint ?_)
  exact wpAny_pure h
theorem a48 {z TI TO i1 i2 l1 l2 : Addr} {xs ys : Array Value} {Q : Value → Shared → Prop} (hh : A.handled = none) (D : ZipApart z TI TO i1 i2 l1 l2) (hz : IsZip s.heap z TI TO .none) (ti : IsPair s.heap TI (.ref i1) (.ref i2)) (to : IsPair s.heap TO .none .none)
    (j1 : s.heap.IsListIter i1 l1 0) (j2 : s.heap.IsListIter i2 l2 0) (q1 : s.heap.IsList l1 xs) (q2 : s.heap.IsList l2 ys) (hxy : xs.size = ys.size) (hn : xs.size ≤ sizeLine)
    (h : ∀ (h' : Heap) (tk : Nat) (acc : Array Value) (c : Nat) (ts : List Addr), (∀ b o, b ∉ [z, TO, i1, i2] → s.heap.get? b = some o → h'.get? b = some o) → h'.get? s.heap.objs.size = some { cls := .type "list", data := .seq acc c } → ts.length = xs.size → ZG xs ys s.heap.objs.size h' ts → acc.toList = ts.map Value.ref →
      Q (.ref s.heap.objs.size) { s with heap := h', toks := tk }) :
    wpAny (model prog w) A (call (.type "list") [.ref z]) Q E s := by
  have lz : z < s.heap.objs.size := Heap.lt_size hz
  have lTI : TI < s.heap.objs.size := Heap.lt_size ti
  have lTO : TO < s.heap.objs.size := Heap.lt_size to
  have li1 : i1 < s.heap.objs.size := by obtain ⟨_, e, _⟩ := j1; exact Heap.lt_size e
  have li2 : i2 < s.heap.objs.size := by obtain ⟨_, e, _⟩ := j2; exact Heap.lt_size e
  have ll1 : l1 < s.heap.objs.size := by obtain ⟨_, e, _⟩ := q1; exact Heap.lt_size e
  have ll2 : l2 < s.heap.objs.size := by obtain ⟨_, e, _⟩ := q2; exact Heap.lt_size e
  have hSf : s.heap.objs.size ∉ [z, TI, TO, i1, i2, l1, l2] := by
    simp only [List.mem_cons, List.not_mem_nil, or_false, not_or]
    exact ⟨Nat.ne_of_gt lz, Nat.ne_of_gt lTI, Nat.ne_of_gt lTO, Nat.ne_of_gt li1, Nat.ne_of_gt li2, Nat.ne_of_gt ll1, Nat.ne_of_gt ll2⟩
  refine callType_codes (Q₁ := fun ob s1 => ob = .ref s.heap.objs.size ∧ s1 = { s with heap := s.heap.push { cls := .type "list", data := .seq #[] } }) PySem.F.called_list (PySem.F.typeCall_list_1 _) PySem.F.entry_list_init (code_list_new _ ⟨rfl, rfl⟩) fun ob s1 h1 => ?_
  obtain ⟨rfl, rfl⟩ := h1
  have hS0 : (s.heap.push { cls := .type "list", data := .seq #[] }).get? s.heap.objs.size = some { cls := .type "list", data := .seq #[] } := Heap.get?_push_size _ rfl
  refine ⟨⟨_, hS0, rfl⟩, PySem.F.args_list_init_2 _ _, ?_⟩
  have kp : ∀ b o, s.heap.get? b = some o → (s.heap.push { cls := .type "list", data := .seq #[] }).get? b = some o := fun b o e => Heap.get?_push_of_some _ e
  have gsz : (s.heap.push { cls := .type "list", data := .seq #[] }).objs.size = s.heap.objs.size + 1 := Heap.size_push ..
  generalize s.heap.push { cls := .type "list", data := .seq #[] } = g at hS0 kp gsz
  have st0 : ∀ h1 : Heap, (∀ b o, b ≠ s.heap.objs.size → g.get? b = some o → h1.get? b = some o) → ZSt h1 z TI TO i1 i2 l1 l2 s.heap.objs.size xs ys 0 := fun h1 k1 => by
    have k : ∀ b o, s.heap.get? b = some o → h1.get? b = some o := fun b o e => k1 b o (Nat.ne_of_lt (Heap.lt_size e)) (kp b o e)
    exact ⟨.inl ⟨rfl, k _ _ hz⟩, k _ _ ti, ⟨_, _, k _ _ to⟩, j1.at fun o e => k _ o e, j2.at fun o e => k _ o e, q1.at fun o e => k _ o e, q2.at fun o e => k _ o e⟩
  have loop : ∀ (h1 : Heap) (c1 : Nat), (∀ b o, b ≠ s.heap.objs.size → g.get? b = some o → h1.get? b = some o) → h1.objs.size = g.objs.size → h1.get? s.heap.objs.size = some { cls := .type "list", data := .seq #[] c1 } →
      codeAny (model prog w) A.in1 (.builtin "list.extend.loop" ⟨[.ref s.heap.objs.size, .ref z, .none], []⟩) (fun r s' => r = .ok (.ret .none) ∧ Q (.ref s.heap.objs.size) s') { s with heap := h1 } := fun h1 c1 k1 z1 e1 => by
    refine zst_loop (s := s) (A := A.in1) (h₁ := h1) hh D hSf hxy hn .none s.heap.objs.size (fun c hc => ?_) (fun h' tk acc c ts hk hS hl hG ha => ⟨rfl, h h' tk acc c ts (fun b o hb e => hk b o (fun hm => ?_) (k1 b o (Nat.ne_of_lt (Heap.lt_size e)) (kp b o e))) hS hl hG ha⟩) xs.size 0 h1 s.toks c1 #[] [] rfl (Nat.zero_le _) (st0 h1 k1) (fun _ _ _ e => e) e1 rfl rfl ⟨.nil, fun _ hm => (nomatch hm), fun j a hj => by simp at hj⟩ (by rw [z1, gsz]; exact Nat.lt_succ_self _)
    · simp only [List.mem_cons, List.not_mem_nil, or_false] at hc
      rcases hc with rfl | rfl | rfl | rfl | rfl
      · exact Nat.le_of_lt lz
      · exact Nat.le_of_lt lTO
      · exact Nat.le_of_lt li1
      · exact Nat.le_of_lt li2
      · exact Nat.le_refl _
    · simp only [List.mem_cons, List.not_mem_nil, or_false, not_or] at hm hb
      rcases hm with e' | e' | e' | e' | e'
      · exact hb.1 e'
      · exact hb.2.1 e'
      · exact hb.2.2.1 e'
      · exact hb.2.2.2 e'
      · exact absurd (Heap.lt_size e) (by rw [e']; exact Nat.lt_irrefl _)
  show wpAny _ _ (do let old ← Builtin.List.listItems (.ref s.heap.objs.size); Builtin.List.listUpdate (.ref s.heap.objs.size) (fun _ => #[]); letGo old.toList.reverse; Builtin.List.listExtendWith (.ref s.heap.objs.size) (.ref z) .none) _ _ _
  refine wpAny_bind (listItems_at hS0 rfl (wpAny_bind (listUpdate_at hS0 rfl ?_ (Nat.zero_le _) (Nat.zero_le _))))
  have hS1 := Heap.get?_update_self (Obj.mapSeq (fun _ => (#[] : Array Value))) hS0 rfl
  have o1 : ∀ b o, b ≠ s.heap.objs.size → g.get? b = some o → (g.update s.heap.objs.size (Obj.mapSeq (fun _ => (#[] : Array Value)))).get? b = some o := fun b o hb e => (Heap.get?_update_other _ _ (Ne.symm hb)).trans e
  have z1 : (g.update s.heap.objs.size (Obj.mapSeq (fun _ => (#[] : Array Value)))).objs.size = g.objs.size := (Heap.SameBut.update ..).1
  generalize g.update s.heap.objs.size (Obj.mapSeq (fun _ => (#[] : Array Value))) = g1 at hS1 o1 z1
  refine wpAny_bind (wpAny_letGo ?_)
  unfold Builtin.List.listExtendWith
  have hz1 : IsZip g1 z TI TO .none := o1 _ _ (Nat.ne_of_lt lz) (kp _ _ hz)
  have hT : Shared.TypeIs { s with heap := g1 } (.ref z) "zip" := ⟨_, hz1, rfl⟩
  refine wpAny_bind (wpAny_typeOf hT ?_)
  have n1 : Builtin.List.listSameRef (.ref s.heap.objs.size) (.ref z) = false := by simp [Builtin.List.listSameRef, Nat.ne_of_gt lz]
  have n2 : (Value.type "zip" == Value.type "list") = false := by decide
  have n3 : (Value.type "zip" == Value.type "tuple") = false := by decide
  simp only [n1, n2, n3, Bool.or_false, Bool.false_eq_true, if_false]
  refine wpAny_bind (wpAny_pyIter_zip (s := { s with heap := g1 }) hz1 (wpAny_bind (wpAny_holding (hint_zip hT ?_))))
  show wpAny _ A.in1.in1 (rule "list.extend.makes-room" >>= fun _ => Builtin.List.listTouch (.ref s.heap.objs.size) >>= fun _ => again (.builtin "list.extend.loop" ⟨[.ref s.heap.objs.size, .ref z, .none], []⟩)) _ _ _
  refine wpAny_bind (wpAny_rule (wpAny_bind ?_))
  show wpAny _ A.in1.in1 (updateSeq s.heap.objs.size (·.push .none) >>= fun _ => updateSeq s.heap.objs.size (·.pop)) _ _ _
  refine wpAny_bind (wpAny_updateSeq hS1 rfl ?_)
  have hS2 := Heap.get?_update_self (Obj.mapSeq (·.push Value.none)) hS1 rfl
  refine wpAny_updateSeq hS2 rfl ?_
  have hS3 := Heap.get?_update_self (Obj.mapSeq (·.pop)) hS2 rfl
  have oth : ∀ b o, b ≠ s.heap.objs.size → g.get? b = some o → ((g1.update s.heap.objs.size (Obj.mapSeq (·.push Value.none))).update s.heap.objs.size (Obj.mapSeq (·.pop))).get? b = some o :=
    fun b o hb e => (Heap.get?_update_other _ _ (Ne.symm hb)).trans ((Heap.get?_update_other _ _ (Ne.symm hb)).trans (o1 b o hb e))
  have z3 : ((g1.update s.heap.objs.size (Obj.mapSeq (·.push Value.none))).update s.heap.objs.size (Obj.mapSeq (·.pop))).objs.size = g.objs.size := by rw [(Heap.SameBut.update ..).1, (Heap.SameBut.update ..).1, z1]
  refine wpAny_pure ⟨plainId_quiet PySem.F.plain_extend_loop _, ?_⟩
  exact codeAny_mono (loop _ _ oth z3 hS3) fun r s' ⟨er, q⟩ => by subst er; exact ⟨rfl, q⟩
end
end L2
namespace L2
open PySem PySem.Spec PyProof.Rows PySem.W
theorem a7z : bootBuiltins "zip" = some (.type "zip") := by decide +kernel
theorem a6y : bootBuiltins "list" = some (.type "list") := by decide +kernel
def a1L (tp : List (Addr × List V)) (H : Hp) : Hp := fun b => match tp.lookup b with
  | some p => some (.tup p)
  | none => H b
theorem a2v {α : Type} : ∀ {l : List (Addr × α)} {n : Addr}, (∀ p ∈ l, p.1 ≠ n) → l.lookup n = none
  | [], _, _ => rfl
  | (k, v) :: r, n, h => by
    rw [List.lookup_cons, beq_false_of_ne (Ne.symm (h (k, v) List.mem_cons_self))]
    exact a2v fun p hp => h p (List.mem_cons_of_mem _ hp)
theorem a2L {α : Type} {c : α} : ∀ {ts : List Addr} {ps : List α} {j : Nat} {t : Addr}, ts.Nodup → ts[j]? = some t → ps[j]? = some c → (ts.zip ps).lookup t = some c
  | [], _, _, _, _, h, _ => by simp at h
  | _ :: _, [], _, _, _, _, h => by simp at h
  | f :: ts, d :: ps, 0, t, nd, h1, h2 => by
    simp at h1 h2; subst h1; subst h2
    simp [List.lookup_cons]
  | f :: ts, d :: ps, j + 1, t, nd, h1, h2 => by
    have h1' : ts[j]? = some t := by simpa using h1
    have ne : (t == f) = false := beq_false_of_ne (by rintro rfl; exact (List.nodup_cons.mp nd).1 (List.mem_of_getElem? h1'))
    rw [List.zip_cons_cons, List.lookup_cons, ne]
    exact a2L (List.nodup_cons.mp nd).2 h1' (by simpa using h2)
def tLZ (K : PySem.W.Frag) (ta : TA) : TE := fun σ H Q => ta σ H fun vs H1 => ∃ (l1 l2 : Addr) (xs ys : List V), vs = [.ref l1, .ref l2] ∧ SqL K H1 l1 xs ∧ SqL K H1 l2 ys ∧ xs.length = ys.length ∧
  ∀ (ts : List Addr) (S : Addr), ts.length = xs.length → ts.Nodup → (∀ t ∈ ts, H1 t = none ∧ t ≠ S) → H1 S = none → Q (.ref S) (upd (a1L (ts.zip (List.zipWith (fun a b => [a, b]) xs ys)) H1) S (.lst (ts.map V.ref)))
theorem a61 : ∀ (ts : List Addr), Vals (ts.map V.ref) (ts.map Value.ref)
  | [] => .nil
  | t :: ts => .cons rfl (a61 ts)
section
variable {X : Cx}
theorem a6e {a b : Expr} {ta : TA} {p p' pos' pos : Pos} (hc : X.calm = true) (hg : Gl X "list") (hm : X.mg "list" = none) (hg2 : Gl X "zip") (hm2 : X.mg "zip" = none) (ha : PA X [a, b] ta)
    (hs : starEach [a, b] X.env = [(false, eval a X.env), (false, eval b X.env)] := by rfl) (hs2 : starEach [b] X.env = [(false, eval b X.env)] := by rfl)
    (hs3 : starEach [.Call (.Name "zip" p') [a, b] [] pos'] X.env = (false, eval (.Call (.Name "zip" p') [a, b] [] pos') X.env) :: starEach [] X.env := by rfl) (hpl2 : (backTo pos (starEach [] X.env)).any (·.1) = false := by rfl) :
    PE X (.Call (.Name "list" p) [.Call (.Name "zip" p') [a, b] [] pos'] [] pos) (tLZ X.K ta) := by
  intro pins s σ H Q I h
  refine wpAny_Call_Name_kw (ld_blt I hg hm a6y (PyProof.Rows.callWith_type1 ?_ hs3 hpl2) (by decide) (by decide))
  rw [hs3]
  show wpAny _ _ (spliced ((false, eval (.Call (.Name "zip" p') [a, b] [] pos') X.env) :: backTo pos (starEach [] X.env))) _ _ s
  refine Calls.spliced_cons (wpAny_Call_Name_kw (ld_blt I hg2 hm2 a7z (PyProof.Rows.callWith_type1 (thn (ha pos' pins s σ H _ I h) fun us s1 ⟨vs, H1, I1, r1, l1, l2, xs, ys, e, q1, q2, hxy, q⟩ => ?_) (by rw [hs, hs2]) (by rw [hs2]; rfl)) (by decide) (by decide)))
  subst e
  obtain ⟨u, w', rfl, r1, r2⟩ := vals2 r1
  cases r1
  cases r2
  obtain ⟨t1, v1, p1, z1⟩ := I1.list q1
  obtain ⟨t2, v2, p2, z2⟩ := I1.list q2
  have lt1 : l1 < s1.heap.objs.size := by obtain ⟨_, e, _⟩ := p1.isList; exact Heap.lt_size e
  have lt2 : l2 < s1.heap.objs.size := by obtain ⟨_, e, _⟩ := p2.isList; exact Heap.lt_size e
  refine call_zip_2 p1.isList p2.isList fun h' hz ti to j1 j2 hsz kp => ?_
  have D : ZipApart (s1.heap.objs.size + 4) (s1.heap.objs.size + 2) (s1.heap.objs.size + 3) s1.heap.objs.size (s1.heap.objs.size + 1) l1 l2 := zipApart_new lt1 lt2
  refine Calls.spliced_nil ?_
  refine a48 (s := { s1 with heap := h' }) (I1.ok.hd hc) D hz ti to j1 j2 (p1.isList.at fun o e => kp _ o e) (p2.isList.at fun o e => kp _ o e) (by rw [List.size_toArray, List.size_toArray, ← v1.length, ← v2.length, hxy]) (by rw [List.size_toArray, ← v1.length]; exact z1) fun h2 tk acc c ts hk hS hl hG hacc => ?_
  have hS : h2.get? h'.objs.size = some { cls := .type "list", data := .seq acc c } := hS
  have hG : ZG t1.toArray t2.toArray h'.objs.size h2 ts := hG
  have hk : ∀ b o, b ∉ [s1.heap.objs.size + 4, s1.heap.objs.size + 3, s1.heap.objs.size, s1.heap.objs.size + 1] → h'.get? b = some o → h2.get? b = some o := hk
  have old : ∀ b o, s1.heap.get? b = some o → h2.get? b = some o := fun b o e => hk b o (fun hm => by
    have hb := Heap.lt_size e
    simp only [List.mem_cons, List.not_mem_nil, or_false] at hm
    rcases hm with rfl | rfl | rfl | rfl
    · exact absurd hb (Nat.not_lt.mpr (Nat.le_add_right _ _))
    · exact absurd hb (Nat.not_lt.mpr (Nat.le_add_right _ _))
    · exact absurd hb (Nat.lt_irrefl _)
    · exact absurd hb (Nat.not_lt.mpr (Nat.le_add_right _ _))) (kp b o e)
  have big : s1.heap.objs.size ≤ h'.objs.size := by rw [hsz]; exact Nat.le_add_right _ _
  have tbig : ∀ t ∈ ts, s1.heap.objs.size ≤ t := fun t ht => Nat.le_trans big (Nat.le_of_lt (hG.above t ht))
  have fS : H1 h'.objs.size = none := I1.hok.fresh big
  have fT : ∀ t ∈ ts, H1 t = none ∧ t ≠ h'.objs.size := fun t ht => ⟨I1.hok.fresh (tbig t ht), Nat.ne_of_gt (hG.above t ht)⟩
  have nd : ts.Nodup := hG.rise.imp fun h => Nat.ne_of_lt h
  have hl' : ts.length = xs.length := by rw [hl, List.size_toArray, v1.length]
  have nl : ∀ b, b ∉ ts → (ts.zip (List.zipWith (fun a b => [a, b]) xs ys)).lookup b = none := fun b hb => a2v fun p hp e => hb (e ▸ (List.of_mem_zip (show (p.1, p.2) ∈ _ from hp)).1)
  have at0 : ∀ b, b ∉ ts → b ≠ h'.objs.size → upd (a1L (ts.zip (List.zipWith (fun a b => [a, b]) xs ys)) H1) h'.objs.size (.lst (ts.map V.ref)) b = H1 b := fun b h1 h2 => by
    rw [upd_ne h2]; unfold a1L; rw [nl b h1]
  have sm : Same H1 (upd (a1L (ts.zip (List.zipWith (fun a b => [a, b]) xs ys)) H1) h'.objs.size (.lst (ts.map V.ref))) := fun b o e => by
    rw [at0 b (fun hb => by rw [(fT b hb).1] at e; cases e) (fun hb => by rw [hb, fS] at e; cases e)]; exact e
  have hok : HOk X.prog X.w (upd (a1L (ts.zip (List.zipWith (fun a b => [a, b]) xs ys)) H1) h'.objs.size (.lst (ts.map V.ref))) h2 := fun b o e => by
    by_cases hb : b = h'.objs.size
    · subst hb
      rw [upd_same] at e; cases e
      refine ⟨by rw [List.length_map, hl']; exact z1, ts.map Value.ref, c, a61 ts, ?_⟩
      rw [hS, ← hacc]
    · by_cases hbt : b ∈ ts
      · obtain ⟨j, hj⟩ := List.mem_iff_getElem?.mp hbt
        obtain ⟨x, y, e1, e2, e3⟩ := hG.pairs j b hj
        have e1 : t1[j]? = some x := by simpa using e1
        have e2 : t2[j]? = some y := by simpa using e2
        have hjx : j < xs.length := by rw [v1.length]; exact (List.getElem?_eq_some_iff.mp e1).1
        have hjy : j < ys.length := by rw [← hxy]; exact hjx
        obtain ⟨u1, f1, g1⟩ := v1.get (List.getElem?_eq_getElem hjx)
        obtain ⟨u2, f2, g2⟩ := v2.get (List.getElem?_eq_getElem hjy)
        rw [e1] at f1; cases f1
        rw [e2] at f2; cases f2
        have lk : (ts.zip (List.zipWith (fun a b => [a, b]) xs ys)).lookup b = some [xs[j], ys[j]] := a2L nd hj (by rw [List.getElem?_zipWith, List.getElem?_eq_getElem hjx, List.getElem?_eq_getElem hjy])
        rw [upd_ne hb] at e
        unfold a1L at e
        rw [lk] at e
        cases e
        exact ⟨by show (2 : Nat) ≤ sizeLine; decide, [x, y], .cons g1 (.cons g2 .nil), ⟨_, e3, rfl, _, rfl⟩⟩
      · rw [at0 b hbt hb] at e
        exact (I1.hok b o e).stay (fun d v _ z => old d v z) (fun d z => sm _ _ z) (fun d ws z => sm _ _ z) fun d ob v z => sm _ _ z
  have I2 : Inv X pins σ (upd (a1L (ts.zip (List.zipWith (fun a b => [a, b]) xs ys)) H1) h'.objs.size (.lst (ts.map V.ref))) { s1 with heap := h2, toks := tk } := I1.un (t' := tk) ⟨fun b o e _ _ _ => old b o e, fun b o e _ _ _ => ⟨o.slots, old b o e⟩, fun b o e n _ => by
      have hb := Heap.lt_size e
      rw [at0 b (fun hm => absurd (Nat.lt_of_lt_of_le hb (tbig b hm)) (Nat.lt_irrefl _)) (fun hm => absurd (Nat.lt_of_lt_of_le hb (hm ▸ big)) (Nat.lt_irrefl _))]; exact n, fun b o e _ => ⟨o, old b o e⟩, fun b ws e => sm _ _ e, fun b o z e => sm _ _ e, fun b ps e => ⟨#[], by rw [sm _ _ e]; simp⟩⟩ hok
  exact ⟨.ref h'.objs.size, _, I2, rfl, q ts h'.objs.size hl' nd fT fS⟩
end
end L2
namespace L3
open PySem PySem.Spec PyProof.Rows L2
structure Ct where
  K : PySem.W.Frag
  cls : String → Addr
  clo : Nat → Hp → Addr → List V → Prop
  cloM : ∀ {k : Nat} {H H' : Hp} {a : Addr} {xs : List V}, Same H H' → clo k H a xs → clo k H' a xs
  tb : Hp
def ctOf (K : PySem.W.Frag) (cls : String → Addr) : Ct := ⟨K, cls, fun _ _ _ _ => False, fun _ h => h, fun _ => none⟩
mutual
def Rep (Γ : Ct) (H : Hp) : D → V → Prop
  | .non, v => v = .non
  | .bl b, v => v = .bl b
  | .int i, v => v = .int i
  | .str x, v => v = .str x
  | .tup ds, v => ∃ a xs, v = .ref a ∧ SqT Γ.K H a xs ∧ RepL Γ H ds xs
  | .lst ds, v => ∃ a xs, v = .ref a ∧ SqL Γ.K H a xs ∧ RepL Γ H ds xs
  | .obj c ns ds, v => ∃ a dx xs, v = .ref a ∧ H a = some (.ins (Γ.cls c) dx (ns.zip xs)) ∧ RepL Γ H ds xs
  | .fn k ds, v => ∃ a xs, v = .ref a ∧ Γ.clo k H a xs ∧ RepL Γ H ds xs
def RepL (Γ : Ct) (H : Hp) : List D → List V → Prop
  | [], xs => xs = []
  | d :: ds, xs => ∃ x r, xs = x :: r ∧ Rep Γ H d x ∧ RepL Γ H ds r
end
theorem a0K {K : PySem.W.Frag} {H H' : Hp} {a : Addr} {xs : List V} (e : Same H H') (h : SqT K H a xs) : SqT K H' a xs := by
  rcases h with (h | ⟨o, h⟩) | h
  · exact .inl (.inl (e _ _ h))
  · exact .inl (.inr ⟨o, e _ _ h⟩)
  · exact .inr h
mutual
theorem Rep.mono {Γ : Ct} {H H' : Hp} (e : Same H H') : ∀ {d : D} {v : V}, Rep Γ H d v → Rep Γ H' d v
  | .non, _, r => by unfold Rep at r ⊢; exact r
  | .bl _, _, r => by unfold Rep at r ⊢; exact r
  | .int _, _, r => by unfold Rep at r ⊢; exact r
  | .str _, _, r => by unfold Rep at r ⊢; exact r
  | .tup ds, _, r => by
    unfold Rep at r ⊢
    obtain ⟨a, xs, e1, q, r⟩ := r
    exact ⟨a, xs, e1, a0K e q, RepL.mono e r⟩
  | .lst ds, _, r => by
    unfold Rep at r ⊢
    obtain ⟨a, xs, e1, q, r⟩ := r
    exact ⟨a, xs, e1, Same.seq e q, RepL.mono e r⟩
  | .obj c ns ds, _, r => by
    unfold Rep at r ⊢
    obtain ⟨a, dx, xs, e1, q, r⟩ := r
    exact ⟨a, dx, xs, e1, e _ _ q, RepL.mono e r⟩
  | .fn k ds, _, r => by
    unfold Rep at r ⊢
    obtain ⟨a, xs, e1, q, r⟩ := r
    exact ⟨a, xs, e1, Γ.cloM e q, RepL.mono e r⟩
theorem RepL.mono {Γ : Ct} {H H' : Hp} (e : Same H H') : ∀ {ds : List D} {xs : List V}, RepL Γ H ds xs → RepL Γ H' ds xs
  | [], _, r => by unfold RepL at r ⊢; exact r
  | d :: ds, _, r => by
    unfold RepL at r ⊢
    obtain ⟨x, r', e1, q, r2⟩ := r
    exact ⟨x, r', e1, Rep.mono e q, RepL.mono e r2⟩
end
section
variable {Γ : Ct} {H H' : Hp}
theorem a00 {v : V} : Rep Γ H .non v ↔ v = .non := by unfold Rep; exact Iff.rfl
theorem a0r {b : Bool} {v : V} : Rep Γ H (.bl b) v ↔ v = .bl b := by unfold Rep; exact Iff.rfl
theorem a0k {i : Int} {v : V} : Rep Γ H (.int i) v ↔ v = .int i := by unfold Rep; exact Iff.rfl
theorem a0D {x : Str} {v : V} : Rep Γ H (.str x) v ↔ v = .str x := by unfold Rep; exact Iff.rfl
theorem a0G {ds : List D} {v : V} : Rep Γ H (.tup ds) v ↔ ∃ a xs, v = .ref a ∧ SqT Γ.K H a xs ∧ RepL Γ H ds xs := by
  constructor
  · intro h; unfold Rep at h; exact h
  · intro h; unfold Rep; exact h
theorem a0M {ds : List D} {v : V} : Rep Γ H (.lst ds) v ↔ ∃ a xs, v = .ref a ∧ SqL Γ.K H a xs ∧ RepL Γ H ds xs := by
  constructor
  · intro h; unfold Rep at h; exact h
  · intro h; unfold Rep; exact h
theorem a5j {c : String} {ns : List Str} {ds : List D} {v : V} : Rep Γ H (.obj c ns ds) v ↔ ∃ a dx xs, v = .ref a ∧ H a = some (.ins (Γ.cls c) dx (ns.zip xs)) ∧ RepL Γ H ds xs := by
  constructor
  · intro h; unfold Rep at h; exact h
  · intro h; unfold Rep; exact h
theorem a5T {k : Nat} {ds : List D} {v : V} : Rep Γ H (.fn k ds) v ↔ ∃ a xs, v = .ref a ∧ Γ.clo k H a xs ∧ RepL Γ H ds xs := by
  constructor
  · intro h; unfold Rep at h; exact h
  · intro h; unfold Rep; exact h
theorem a03 {xs : List V} : RepL Γ H [] xs ↔ xs = [] := by unfold RepL; exact Iff.rfl
theorem a0t {d : D} {ds : List D} {xs : List V} : RepL Γ H (d :: ds) xs ↔ ∃ x r, xs = x :: r ∧ Rep Γ H d x ∧ RepL Γ H ds r := by
  constructor
  · intro h; unfold RepL at h; exact h
  · intro h; unfold RepL; exact h
theorem RepL.nil : RepL Γ H [] [] := a03.mpr rfl
theorem RepL.cons {d : D} {ds : List D} {x : V} {xs : List V} (h : Rep Γ H d x) (t : RepL Γ H ds xs) : RepL Γ H (d :: ds) (x :: xs) := a0t.mpr ⟨x, xs, rfl, h, t⟩
theorem RepL.length : ∀ {ds : List D} {xs : List V}, RepL Γ H ds xs → ds.length = xs.length
  | [], xs, h => by rw [a03.mp h]; rfl
  | d :: ds, xs, h => by
    obtain ⟨x, r, e, _, t⟩ := a0t.mp h
    rw [e, List.length_cons, List.length_cons, RepL.length t]
theorem RepL.append : ∀ {ds es : List D} {xs ys : List V}, RepL Γ H ds xs → RepL Γ H es ys → RepL Γ H (ds ++ es) (xs ++ ys)
  | [], es, xs, ys, h, h' => by rw [a03.mp h]; exact h'
  | d :: ds, es, xs, ys, h, h' => by
    obtain ⟨x, r, e, q, t⟩ := a0t.mp h
    rw [e]
    exact .cons q (RepL.append t h')
theorem RepL.get : ∀ {ds : List D} {xs : List V} {i : Nat} {d : D}, RepL Γ H ds xs → ds[i]? = some d → ∃ x, xs[i]? = some x ∧ Rep Γ H d x
  | [], xs, i, d, h, e => by simp at e
  | d :: ds, xs, 0, d', h, e => by
    obtain ⟨x, r, e1, q, t⟩ := a0t.mp h
    simp at e
    subst e e1
    exact ⟨x, rfl, q⟩
  | d :: ds, xs, i + 1, d', h, e => by
    obtain ⟨x, r, e1, q, t⟩ := a0t.mp h
    obtain ⟨y, e2, q2⟩ := RepL.get (i := i) t (by simpa using e)
    subst e1
    exact ⟨y, by simpa using e2, q2⟩
theorem RepL.take : ∀ {ds : List D} {xs : List V} (n : Nat), RepL Γ H ds xs → RepL Γ H (ds.take n) (xs.take n)
  | _, _, 0, _ => .nil
  | [], xs, n + 1, h => by rw [a03.mp h]; exact .nil
  | d :: ds, xs, n + 1, h => by
    obtain ⟨x, r, e, q, t⟩ := a0t.mp h
    subst e
    exact .cons q (RepL.take n t)
theorem RepL.drop : ∀ {ds : List D} {xs : List V} (n : Nat), RepL Γ H ds xs → RepL Γ H (ds.drop n) (xs.drop n)
  | _, _, 0, h => h
  | [], xs, n + 1, h => by rw [a03.mp h]; exact .nil
  | d :: ds, xs, n + 1, h => by
    obtain ⟨x, r, e, q, t⟩ := a0t.mp h
    subst e
    exact RepL.drop n t
theorem RepL.rep {ds : List D} {xs : List V} (h : RepL Γ H ds xs) : ∀ k : Nat, RepL Γ H (List.replicate k ds).flatten (List.replicate k xs).flatten
  | 0 => .nil
  | k + 1 => by
    rw [List.replicate_succ, List.replicate_succ, List.flatten_cons, List.flatten_cons]
    exact h.append (RepL.rep h k)
theorem RepL.set {d : D} {x : V} (q : Rep Γ H d x) : ∀ {ds : List D} {xs : List V} (i : Nat), RepL Γ H ds xs → RepL Γ H (ds.set i d) (xs.set i x)
  | [], xs, i, h => by rw [a03.mp h]; exact .nil
  | e :: ds, xs, 0, h => by
    obtain ⟨y, r, e1, _, t⟩ := a0t.mp h
    subst e1
    exact .cons q t
  | e :: ds, xs, i + 1, h => by
    obtain ⟨y, r, e1, q1, t⟩ := a0t.mp h
    subst e1
    exact .cons q1 (RepL.set q i t)
theorem RepL.ints : ∀ (ns : List Int), RepL Γ H (ns.map D.int) (ns.map V.int)
  | [] => .nil
  | n :: ns => .cons (a0k.mpr rfl) (RepL.ints ns)
theorem RepL.intsOf : ∀ {ds : List D} {xs : List V} {ns : List Int}, RepL Γ H ds xs → intsOf ds = some ns → xs = ns.map V.int
  | [], xs, ns, h, e => by
    cases e
    exact a03.mp h
  | .int i :: ds, xs, ns, h, e => by
    obtain ⟨x, r, e1, q, t⟩ := a0t.mp h
    unfold L3.intsOf at e
    cases e2 : L3.intsOf ds with
    | none => rw [e2] at e; cases e
    | some ms =>
      rw [e2] at e
      cases e
      rw [e1, a0k.mp q, RepL.intsOf t e2, List.map_cons]
  | .non :: ds, xs, ns, h, e => by cases e
  | .bl _ :: ds, xs, ns, h, e => by cases e
  | .str _ :: ds, xs, ns, h, e => by cases e
  | .tup _ :: ds, xs, ns, h, e => by cases e
  | .lst _ :: ds, xs, ns, h, e => by cases e
  | .fn _ _ :: ds, xs, ns, h, e => by cases e
  | .obj _ _ _ :: ds, xs, ns, h, e => by cases e
theorem RepL.blsOf : ∀ {ds : List D} {xs : List V} {ns : List Bool}, RepL Γ H ds xs → blsOf ds = some ns → xs = ns.map V.bl
  | [], xs, ns, h, e => by
    cases e
    exact a03.mp h
  | .bl i :: ds, xs, ns, h, e => by
    obtain ⟨x, r, e1, q, t⟩ := a0t.mp h
    unfold L3.blsOf at e
    cases e2 : L3.blsOf ds with
    | none => rw [e2] at e; cases e
    | some ms =>
      rw [e2] at e
      cases e
      rw [e1, a0r.mp q, RepL.blsOf t e2, List.map_cons]
  | .non :: ds, xs, ns, h, e => by cases e
  | .int _ :: ds, xs, ns, h, e => by cases e
  | .str _ :: ds, xs, ns, h, e => by cases e
  | .tup _ :: ds, xs, ns, h, e => by cases e
  | .lst _ :: ds, xs, ns, h, e => by cases e
  | .fn _ _ :: ds, xs, ns, h, e => by cases e
  | .obj _ _ _ :: ds, xs, ns, h, e => by cases e
theorem a38 {d : D} {v : V} (h : Rep Γ H d v) (f : flat d = true) : Rep Γ H' d v := by
  cases d with
  | non => exact a00.mpr (a00.mp h)
  | bl _ => exact a0r.mpr (a0r.mp h)
  | int _ => exact a0k.mpr (a0k.mp h)
  | str _ => exact a0D.mpr (a0D.mp h)
  | tup _ => cases f
  | lst _ => cases f
  | fn _ _ => cases f
  | obj _ _ _ => cases f
end
def RepO (Γ : Ct) (Hs : Hp) : O → HO → Prop
  | .lst ds, ho => ∃ xs, ho = .lst xs ∧ RepL Γ Hs ds xs
  | .obj c ns ds, ho => ∃ dx xs, ho = .ins (Γ.cls c) dx (ns.zip xs) ∧ RepL Γ Hs ds xs
  | .dic _, _ => False
def kvT (kvs : List (List Int × Int)) : List (List Key × V) := kvs.map fun p => (p.1.map Sum.inl, V.int p.2)
def RepW (Γ : Ct) (Hs : Hp) : O → HO → Prop
  | .lst ds, ho => ∃ xs, ho = .lst xs ∧ RepL Γ Hs ds xs
  | .obj c ns ds, ho => ∃ dx xs, ho = .ins (Γ.cls c) dx (ns.zip xs) ∧ RepL Γ Hs ds xs
  | .dic kvs, ho => ho = .dT (kvT kvs)
theorem RepO.w {Γ : Ct} {H : Hp} {o : O} {ho : HO} (h : RepO Γ H o ho) : RepW Γ H o ho := by
  cases o with
  | lst ds => exact h
  | obj c ns ds => exact h
  | dic _ => exact h.elim
theorem RepW.o {Γ : Ct} {H : Hp} {o : O} {ho : HO} (h : RepW Γ H o ho) (n : ∀ kvs, o ≠ .dic kvs) : RepO Γ H o ho := by
  cases o with
  | lst ds => exact h
  | obj c ns ds => exact h
  | dic kvs => exact (n kvs rfl).elim
theorem RepW.mono {Γ : Ct} {H H' : Hp} (e : Same H H') {o : O} {ho : HO} (h : RepW Γ H o ho) : RepW Γ H' o ho := by
  cases o with
  | lst ds => obtain ⟨xs, e1, r⟩ := h; exact ⟨xs, e1, r.mono e⟩
  | obj c ns ds => obtain ⟨dx, xs, e1, r⟩ := h; exact ⟨dx, xs, e1, r.mono e⟩
  | dic _ => exact h
theorem RepO.mono {Γ : Ct} {H H' : Hp} (e : Same H H') {o : O} {ho : HO} (h : RepO Γ H o ho) : RepO Γ H' o ho := by
  cases o with
  | dic _ => exact h.elim
  | lst ds => obtain ⟨xs, e1, r⟩ := h; exact ⟨xs, e1, r.mono e⟩
  | obj c ns ds => obtain ⟨dx, xs, e1, r⟩ := h; exact ⟨dx, xs, e1, r.mono e⟩
theorem RepO.val {Γ : Ct} {H : Hp} {o : O} {ho : HO} {a : Addr} (h : RepO Γ H o ho) (e : H a = some ho) : Rep Γ H o.val (.ref a) := by
  cases o with
  | dic _ => exact h.elim
  | lst ds => obtain ⟨xs, e1, r⟩ := h; subst e1; exact a0M.mpr ⟨a, xs, rfl, .of e, r⟩
  | obj c ns ds => obtain ⟨dx, xs, e1, r⟩ := h; subst e1; exact a5j.mpr ⟨a, dx, xs, rfl, e, r⟩
structure Grow (Hs H Hs' H' : Hp) : Prop where
  s : Same Hs Hs'
  h : Same H H'
  i : Same Hs' H'
  n : ∀ b o, Hs' b = some o → Hs b = some o ∨ H b = none
theorem Grow.refl {Hs H : Hp} (e : Same Hs H) : Grow Hs H Hs H := ⟨.refl _, .refl _, e, fun _ _ q => .inl q⟩
theorem Grow.trans {Hs H Hs1 H1 Hs2 H2 : Hp} (a : Grow Hs H Hs1 H1) (b : Grow Hs1 H1 Hs2 H2) : Grow Hs H Hs2 H2 :=
  ⟨a.s.trans b.s, a.h.trans b.h, b.i, fun c o q => (b.n c o q).elim (fun z => a.n c o z) fun z => .inr (a.h.free z)⟩
theorem Grow.only {Hs H H' : Hp} (e : Same Hs H) (k : Same H H') : Grow Hs H Hs H' := ⟨.refl _, k, e.trans k, fun _ _ q => .inl q⟩
theorem a0Q {H : Hp} {p : Addr} {o : HO} (h : H p = none) : Same H (upd H p o) := fun b u e => by rw [upd_ne (ne_of_none e h)]; exact e
theorem Grow.new {Hs H : Hp} {p : Addr} {o : HO} (e : Same Hs H) (h : H p = none) : Grow Hs H (upd Hs p o) (upd H p o) :=
  ⟨a0Q (e.free h), a0Q h, fun b u q => by
    by_cases hb : b = p
    · subst hb; rw [upd_same] at q ⊢; exact q
    · rw [upd_ne hb] at q ⊢; exact e _ _ q, fun b u q => by
    by_cases hb : b = p
    · subst hb; exact .inr h
    · rw [upd_ne hb] at q; exact .inl q⟩
theorem Grow.newOwn {Hs H : Hp} {p : Addr} {o : HO} (e : Same Hs H) (h : H p = none) : Grow Hs H Hs (upd H p o) := .only e (a0Q h)
theorem Grow.share {Hs H Hs' H' : Hp} {a : Addr} {ho : HO} (g : Grow Hs H Hs' H') (h0 : H a = none) (h1 : Hs' a = none) (h2 : H' a = some ho) : Grow Hs H (upd Hs' a ho) H' ∧ Same Hs' (upd Hs' a ho) :=
  ⟨⟨g.s.trans (a0Q h1), g.h, fun b u q => by
    by_cases hb : b = a
    · subst hb; rw [upd_same] at q; cases q; exact h2
    · rw [upd_ne hb] at q; exact g.i _ _ q, fun b u q => by
    by_cases hb : b = a
    · subst hb; exact .inr h0
    · rw [upd_ne hb] at q; exact g.n _ _ q⟩, a0Q h1⟩
inductive RepN (Γ : Ct) (H Hs' H' : Hp) (o : O) (v : V) : Prop
  | mk (a : Addr) (ho : HO) (ev : v = .ref a) (h0 : H a = none) (h1 : Hs' a = none) (h2 : H' a = some ho) (q : RepO Γ Hs' o ho)
def RepS (Γ : Ct) (H Hs' H' : Hp) : S → V → Prop
  | .sh d, v => Rep Γ Hs' d v
  | .own o, v => RepN Γ H Hs' H' o v
theorem RepS.of {Γ : Ct} {H Hs' H' : Hp} {d : D} {v : V} (h : Rep Γ Hs' d v) : RepS Γ H Hs' H' (.sh d) v := h
theorem RepS.share {Γ : Ct} {Hs H Hs' H' : Hp} {s : S} {v : V} (g : Grow Hs H Hs' H') (r : RepS Γ H Hs' H' s v) : ∃ Hs'', Grow Hs H Hs'' H' ∧ Same Hs' Hs'' ∧ Rep Γ Hs'' s.val v := by
  cases s with
  | sh d => exact ⟨Hs', g, .refl _, r⟩
  | own o =>
    obtain ⟨a, ho, rfl, h0, h1, h2, q⟩ := r
    obtain ⟨g', e⟩ := g.share h0 h1 h2
    exact ⟨_, g', e, (q.mono e).val upd_same⟩
theorem RepS.look {Γ : Ct} {Hs H Hs' H' : Hp} {s : S} {v : V} (g : Grow Hs H Hs' H') (r : RepS Γ H Hs' H' s v) : Rep Γ H' s.val v := by
  cases s with
  | sh d => exact Rep.mono g.i r
  | own o =>
    obtain ⟨a, ho, rfl, h0, h1, h2, q⟩ := r
    exact (q.mono g.i).val h2
theorem RepS.back {Γ : Ct} {H H1 Hs' H' : Hp} {s : S} {v : V} (k : Same H H1) (r : RepS Γ H1 Hs' H' s v) : RepS Γ H Hs' H' s v := by
  cases s with
  | sh d => exact r
  | own o =>
    obtain ⟨a, ho, e, h0, h1, h2, q⟩ := r
    exact ⟨a, ho, e, k.free h0, h1, h2, q⟩
inductive OwnAt (Γ : Ct) (B1 Hs H : Hp) (x : Option (Option V)) (o : O) : Prop
  | mk (a : Addr) (ho : HO) (e1 : x = some (some (.ref a))) (e2 : B1 a = none) (e3 : Hs a = none) (e4 : H a = some ho) (q : RepW Γ Hs o ho)
structure RE (Γ : Ct) (B0 B1 Hs H : Hp) (σ : L2.St) (ρ : MEnv) : Prop where
  b : Grow B0 B1 Hs H
  sh : ∀ (i : Nat) (d : D), ρ[i]? = some (some (.sh d)) → ∃ v, σ[i]? = some (some v) ∧ Rep Γ Hs d v
  own : ∀ (i : Nat) (o : O), ρ[i]? = some (some (.own o)) → OwnAt Γ B1 Hs H σ[i]? o
  apart : ∀ (i j : Nat) (o u : O) (a : Addr), i ≠ j → ρ[i]? = some (some (.own o)) → ρ[j]? = some (some (.own u)) → σ[i]? = some (some (.ref a)) → σ[j]? ≠ some (some (.ref a))
  len : ρ.length = σ.length
  tb : Same Γ.tb Hs
section
variable {Γ : Ct} {B0 B1 Hs H Hs' H' : Hp} {σ : L2.St} {ρ : MEnv}
theorem RE.grow (r : RE Γ B0 B1 Hs H σ ρ) (g : Grow Hs H Hs' H') : RE Γ B0 B1 Hs' H' σ ρ where
  tb := r.tb.trans g.s
  b := r.b.trans g
  sh := fun i d e => let ⟨v, e1, q⟩ := r.sh i d e; ⟨v, e1, q.mono g.s⟩
  own := fun i o e => by
    obtain ⟨a, ho, e1, e2, e3, e4, q⟩ := r.own i o e
    refine ⟨a, ho, e1, e2, ?_, g.h _ _ e4, q.mono g.s⟩
    cases z : Hs' a with
    | none => rfl
    | some u =>
      rcases g.n a u z with z' | z'
      · rw [e3] at z'; cases z'
      · rw [e4] at z'; cases z'
  apart := r.apart
  len := r.len
theorem RE.setSh (r : RE Γ B0 B1 Hs H σ ρ) {i : Nat} {d : D} {v : V} (hi : i < σ.length) (q : Rep Γ Hs d v) : RE Γ B0 B1 Hs H (σ.set i (some v)) (ρ.set i (some (.sh d))) where
  tb := r.tb
  b := r.b
  sh := fun j e hj => by
    by_cases h : i = j
    · subst h
      rw [List.getElem?_set_self (by rw [r.len]; exact hi)] at hj
      cases hj
      exact ⟨v, List.getElem?_set_self hi, q⟩
    · rw [List.getElem?_set_ne h] at hj ⊢
      exact r.sh j e hj
  own := fun j o hj => by
    by_cases h : i = j
    · subst h
      rw [List.getElem?_set_self (by rw [r.len]; exact hi)] at hj
      cases hj
    · rw [List.getElem?_set_ne h] at hj ⊢
      exact r.own j o hj
  apart := fun j k o u a hjk hj hk ha => by
    have n1 : i ≠ j := fun z => by subst z; rw [List.getElem?_set_self (by rw [r.len]; exact hi)] at hj; cases hj
    have n2 : i ≠ k := fun z => by subst z; rw [List.getElem?_set_self (by rw [r.len]; exact hi)] at hk; cases hk
    rw [List.getElem?_set_ne n1] at hj ha
    rw [List.getElem?_set_ne n2] at hk ⊢
    exact r.apart j k o u a hjk hj hk ha
  len := by rw [List.length_set, List.length_set, r.len]
theorem RE.setOwn (r : RE Γ B0 B1 Hs H σ ρ) {i : Nat} {o : O} {a : Addr} {ho : HO} (hi : i < σ.length) (b1 : B1 a = none) (h1 : Hs a = none) (h2 : H a = some ho) (q : RepW Γ Hs o ho)
    (new : ∀ (j : Nat) (u : O), j ≠ i → ρ[j]? = some (some (.own u)) → σ[j]? ≠ some (some (.ref a))) : RE Γ B0 B1 Hs H (σ.set i (some (.ref a))) (ρ.set i (some (.own o))) where
  tb := r.tb
  b := r.b
  sh := fun j e hj => by
    by_cases h : i = j
    · subst h
      rw [List.getElem?_set_self (by rw [r.len]; exact hi)] at hj
      cases hj
    · rw [List.getElem?_set_ne h] at hj ⊢
      exact r.sh j e hj
  own := fun j u hj => by
    by_cases h : i = j
    · subst h
      rw [List.getElem?_set_self (by rw [r.len]; exact hi)] at hj
      cases hj
      exact ⟨a, ho, List.getElem?_set_self hi, b1, h1, h2, q⟩
    · rw [List.getElem?_set_ne h] at hj ⊢
      exact r.own j u hj
  apart := fun j k u u' c hjk hj hk ha => by
    by_cases hij : i = j
    · subst hij
      rw [List.getElem?_set_self hi] at ha
      cases ha
      rw [List.getElem?_set_ne hjk] at hk ⊢
      exact new k u' (Ne.symm hjk) hk
    · rw [List.getElem?_set_ne hij] at hj ha
      by_cases hik : i = k
      · subst hik
        rw [List.getElem?_set_self hi]
        intro z
        cases z
        exact new j u (Ne.symm hij) hj ha
      · rw [List.getElem?_set_ne hik] at hk ⊢
        exact r.apart j k u u' c hjk hj hk ha
  len := by rw [List.length_set, List.length_set, r.len]
theorem RE.setS (r : RE Γ B0 B1 Hs H σ ρ) (g : Grow Hs H Hs' H') {i : Nat} {s : S} {v : V} (hi : i < σ.length) (q : RepS Γ H Hs' H' s v) : RE Γ B0 B1 Hs' H' (σ.set i (some v)) (ρ.set i (some s)) := by
  cases s with
  | sh d => exact (r.grow g).setSh hi q
  | own o =>
    obtain ⟨a, ho, rfl, h0, h1, h2, q⟩ := q
    refine (r.grow g).setOwn hi (r.b.h.free h0) h1 h2 q.w fun j u _ hj z => ?_
    obtain ⟨c, hc, e1, _, _, e4, _⟩ := r.own j u hj
    rw [z] at e1
    cases e1
    rw [h0] at e4
    cases e4
theorem RE.write (r : RE Γ B0 B1 Hs H σ ρ) {i : Nat} {o o' : O} {a : Addr} {ho' : HO} (e : ρ[i]? = some (some (.own o))) (ea : σ[i]? = some (some (.ref a))) (q : RepW Γ Hs o' ho') : RE Γ B0 B1 Hs (upd H a ho') σ (ρ.set i (some (.own o'))) := by
  obtain ⟨c, ho, e1, e2, e3, e4, _⟩ := r.own i o e
  rw [ea] at e1
  cases e1
  have hi : i < ρ.length := (List.getElem?_eq_some_iff.mp e).1
  refine ⟨⟨r.b.s, fun b u z => ?_, fun b u z => ?_, r.b.n⟩, fun j d hj => ?_, fun j u hj => ?_, fun j k u u' c hjk hj hk ha => ?_, by rw [List.length_set, r.len], r.tb⟩
  · rw [upd_ne (ne_of_none z e2)]; exact r.b.h _ _ z
  · rw [upd_ne (ne_of_none z e3)]; exact r.b.i _ _ z
  · by_cases h : i = j
    · subst h
      rw [List.getElem?_set_self hi] at hj
      cases hj
    · rw [List.getElem?_set_ne h] at hj
      exact r.sh j d hj
  · by_cases h : i = j
    · subst h
      rw [List.getElem?_set_self hi] at hj
      cases hj
      exact ⟨a, ho', ea, e2, e3, upd_same, q⟩
    · rw [List.getElem?_set_ne h] at hj
      obtain ⟨c, hc, f1, f2, f3, f4, f5⟩ := r.own j u hj
      refine ⟨c, hc, f1, f2, f3, ?_, f5⟩
      rw [upd_ne]
      · exact f4
      · intro z
        subst z
        exact r.apart i j o u c h e hj ea f1
  · have old : ∀ (m : Nat) (u : O), (ρ.set i (some (.own o')))[m]? = some (some (.own u)) → ∃ u', ρ[m]? = some (some (.own u')) := fun m u hm => by
      by_cases h : i = m
      · subst h; exact ⟨o, e⟩
      · rw [List.getElem?_set_ne h] at hm; exact ⟨u, hm⟩
    obtain ⟨x, hx⟩ := old j u hj
    obtain ⟨y, hy⟩ := old k u' hk
    exact r.apart j k x y c hjk hx hy ha
theorem RE.dem (r : RE Γ B0 B1 Hs H σ ρ) (i : Nat) : ∃ Hs', Same Hs Hs' ∧ RE Γ B0 B1 Hs' H σ (dem i ρ) := by
  unfold L3.dem
  split
  · exact ⟨Hs, .refl _, r⟩
  · rename_i o hno e
    obtain ⟨a, ho, e1, e2, e3, e4, q⟩ := r.own i o e
    have q := q.o fun kvs z => by subst z; exact hno kvs rfl
    have hi : i < ρ.length := (List.getElem?_eq_some_iff.mp e).1
    have sm : Same Hs (upd Hs a ho) := a0Q e3
    have sh' : Same (upd Hs a ho) H := fun b u z => by
      by_cases hb : b = a
      · subst hb; rw [upd_same] at z; cases z; exact e4
      · rw [upd_ne hb] at z; exact r.b.i _ _ z
    refine ⟨upd Hs a ho, sm, ⟨⟨r.b.s.trans sm, r.b.h, sh', fun b u z => ?_⟩, fun j d hj => ?_, fun j u hj => ?_, fun j k u u' c hjk hj hk ha => ?_, by rw [List.length_set, r.len], r.tb.trans sm⟩⟩
    · by_cases hb : b = a
      · subst hb; exact .inr e2
      · rw [upd_ne hb] at z; exact r.b.n _ _ z
    · by_cases h : i = j
      · subst h
        rw [List.getElem?_set_self hi] at hj
        cases hj
        exact ⟨.ref a, e1, (q.mono sm).val upd_same⟩
      · rw [List.getElem?_set_ne h] at hj
        obtain ⟨v, f1, f2⟩ := r.sh j d hj
        exact ⟨v, f1, f2.mono sm⟩
    · by_cases h : i = j
      · subst h
        rw [List.getElem?_set_self hi] at hj
        cases hj
      · rw [List.getElem?_set_ne h] at hj
        obtain ⟨c, hc, f1, f2, f3, f4, f5⟩ := r.own j u hj
        refine ⟨c, hc, f1, f2, ?_, f4, f5.mono sm⟩
        rw [upd_ne]
        · exact f3
        · intro z
          subst z
          exact r.apart i j o u c h e hj e1 f1
    · have n1 : i ≠ j := fun z => by subst z; rw [List.getElem?_set_self hi] at hj; cases hj
      have n2 : i ≠ k := fun z => by subst z; rw [List.getElem?_set_self hi] at hk; cases hk
      rw [List.getElem?_set_ne n1] at hj
      rw [List.getElem?_set_ne n2] at hk
      exact r.apart j k u u' c hjk hj hk ha
  · exact ⟨Hs, .refl _, r⟩
end
end L3
namespace L3
open PySem PySem.Spec PyProof.Rows L2
abbrev XW := D → Hp → Hp → Prop
def RQ (Γ : Ct) (W : XW) (Hs H : Hp) (r : R) (Q : VK) : Prop := match r with
  | .ok s => ∀ v Hs' H', Grow Hs H Hs' H' → RepS Γ H Hs' H' s v → Q v H'
  | .exc x => ∀ Hs' H', Grow Hs H Hs' H' → W x Hs' H'
def RL (Γ : Ct) (W : XW) (Hs H : Hp) (r : R) (Q : VK) : Prop := match r with
  | .ok s => ∀ v Hs' H', Grow Hs H Hs' H' → Rep Γ H' s.val v → Q v H'
  | .exc x => ∀ Hs' H', Grow Hs H Hs' H' → W x Hs' H'
def RB (W : XW) (Hs H : Hp) (r : R) (Q : Bool → Hp → Prop) : Prop := match r with
  | .ok s => ∃ b, s.val = .bl b ∧ ∀ Hs' H', Grow Hs H Hs' H' → Q b H'
  | .exc x => ∀ Hs' H', Grow Hs H Hs' H' → W x Hs' H'
section
variable {Γ : Ct} {W : XW} {Hs H Hs1 H1 : Hp} {r : R} {Q Q' : VK}
theorem RQ.grow (q : RQ Γ W Hs H r Q) (g : Grow Hs H Hs1 H1) : RQ Γ W Hs1 H1 r Q := by
  cases r with
  | ok s => exact fun v Hs' H' g' rs => q v Hs' H' (g.trans g') (rs.back g.h)
  | exc x => exact fun Hs' H' g' => q Hs' H' (g.trans g')
theorem RQ.mono (q : RQ Γ W Hs H r Q) (h : ∀ v H, Q v H → Q' v H) : RQ Γ W Hs H r Q' := by
  cases r with
  | ok s => exact fun v Hs' H' g' rs => h _ _ (q v Hs' H' g' rs)
  | exc x => exact q
theorem RL.mono (q : RL Γ W Hs H r Q) (h : ∀ v H, Q v H → Q' v H) : RL Γ W Hs H r Q' := by
  cases r with
  | ok s => exact fun v Hs' H' g' rs => h _ _ (q v Hs' H' g' rs)
  | exc x => exact q
theorem RL.grow (q : RL Γ W Hs H r Q) (g : Grow Hs H Hs1 H1) : RL Γ W Hs1 H1 r Q := by
  cases r with
  | ok s => exact fun v Hs' H' g' rs => q v Hs' H' (g.trans g') rs
  | exc x => exact fun Hs' H' g' => q Hs' H' (g.trans g')
end
inductive tD (Γ : Ct) (W : XW) (g : ME) (σ : L2.St) (H : Hp) (Q : VK) : Prop
  | mk (B0 B1 Hs : Hp) (ρ : MEnv) (r : R) (re : RE Γ B0 B1 Hs H σ ρ) (e : g ρ = some r) (q : RQ Γ W Hs H r Q)
inductive tL (Γ : Ct) (W : XW) (g : ME) (σ : L2.St) (H : Hp) (Q : VK) : Prop
  | mk (B0 B1 Hs : Hp) (ρ : MEnv) (r : R) (re : RE Γ B0 B1 Hs H σ ρ) (e : g ρ = some r) (q : RL Γ W Hs H r Q)
inductive tT (Γ : Ct) (W : XW) (g : ME) (σ : L2.St) (H : Hp) (Q : Bool → Hp → Prop) : Prop
  | mk (B0 B1 Hs : Hp) (ρ : MEnv) (r : R) (re : RE Γ B0 B1 Hs H σ ρ) (e : g ρ = some r) (q : RB W Hs H r Q)
def a6C (Γ : Ct) (W : XW) : List ME → TA
  | [] => tNil
  | g :: gs => tCons (tD Γ W g) (a6C Γ W gs)
def a6D (Γ : Ct) (W : XW) : List ME → TA
  | [] => tNil
  | g :: gs => tCons (tL Γ W g) (a6D Γ W gs)
section
variable {Γ : Ct} {W : XW} {B0 B1 Hs H : Hp} {σ : L2.St} {ρ : MEnv} {r : R} {Q Q' : VK} {g ga : ME} {k : D → Option R}
theorem tD.mono (t : tD Γ W g σ H Q) (h : ∀ v H, Q v H → Q' v H) : tD Γ W g σ H Q' := by
  obtain ⟨B0, B1, Hs, ρ, r, re, e, q⟩ := t
  exact ⟨B0, B1, Hs, ρ, r, re, e, q.mono h⟩
theorem tL.mono (t : tL Γ W g σ H Q) (h : ∀ v H, Q v H → Q' v H) : tL Γ W g σ H Q' := by
  obtain ⟨B0, B1, Hs, ρ, r, re, e, q⟩ := t
  exact ⟨B0, B1, Hs, ρ, r, re, e, q.mono h⟩
theorem tL.toD (t : tL Γ W g σ H Q) : tD Γ W g σ H Q := by
  obtain ⟨B0, B1, Hs, ρ, r, re, e, q⟩ := t
  refine ⟨B0, B1, Hs, ρ, r, re, e, ?_⟩
  cases r with
  | ok s => exact fun v Hs' H' g' rs => q v Hs' H' g' (rs.look g')
  | exc x => exact q
theorem a1p (re : RE Γ B0 B1 Hs H σ ρ) (e : a0N (ga ρ) k = some r) (q : RQ Γ W Hs H r Q) :
    tD Γ W ga σ H (fun v H1 => ∃ Hs1 d, Grow Hs H Hs1 H1 ∧ RE Γ B0 B1 Hs1 H1 σ ρ ∧ Rep Γ Hs1 d v ∧ k d = some r ∧ RQ Γ W Hs1 H1 r Q) := by
  cases h : ga ρ with
  | none => rw [h] at e; cases e
  | some x =>
    rw [h] at e
    refine ⟨B0, B1, Hs, ρ, x, re, h, ?_⟩
    cases x with
    | exc y => cases e; exact q
    | ok s =>
      intro v Hs' H' g' rs
      obtain ⟨Hs'', g2, _, rp⟩ := rs.share g'
      exact ⟨Hs'', s.val, g2, re.grow g2, rp, e, q.grow g2⟩
theorem a1Q : ∀ (gs : List ME) {σ : L2.St} {H : Hp} {Q Q' : List V → Hp → Prop}, (∀ v H, Q v H → Q' v H) → a6C Γ W gs σ H Q → a6C Γ W gs σ H Q'
  | [], _, _, _, _, h, t => h _ _ t
  | g :: gs, _, _, _, _, h, t => tD.mono t fun v H1 t' => a1Q gs (fun vs H2 z => h _ _ z) t'
theorem a3b : ∀ (gs : List ME) {σ : L2.St} {H : Hp} {Q Q' : List V → Hp → Prop}, (∀ v H, Q v H → Q' v H) → a6D Γ W gs σ H Q → a6D Γ W gs σ H Q'
  | [], _, _, _, _, h, t => h _ _ t
  | g :: gs, _, _, _, _, h, t => tL.mono t fun v H1 t' => a3b gs (fun vs H2 z => h _ _ z) t'
theorem a3E : ∀ (gs : List ME) {Hs H : Hp} {k : List D → Option R}, RE Γ B0 B1 Hs H σ ρ → a1W gs ρ k = some r → RQ Γ W Hs H r Q →
    a6C Γ W gs σ H (fun vs H1 => ∃ Hs1 ds, Grow Hs H Hs1 H1 ∧ RE Γ B0 B1 Hs1 H1 σ ρ ∧ RepL Γ Hs1 ds vs ∧ k ds = some r ∧ RQ Γ W Hs1 H1 r Q)
  | [], Hs, H, k, re, e, q => ⟨Hs, [], .refl re.b.i, re, .nil, e, q⟩
  | g :: gs, Hs, H, k, re, e, q => by
    refine (a1p re e q).mono fun v H1 ⟨Hs1, d, g1, re1, rp, e1, q1⟩ => ?_
    refine a1Q gs (fun vs H2 ⟨Hs2, ds, g2, re2, rps, e2, q2⟩ => ?_) (a3E gs re1 e1 q1)
    exact ⟨Hs2, d :: ds, g1.trans g2, re2, .cons (rp.mono g2.s) rps, e2, q2⟩
theorem a31 : ∀ (gs : List ME) {Hs H : Hp} {k : List D → Option R} {d : D}, RE Γ B0 B1 Hs H σ ρ → a3x (a1W gs ρ k) = some (.ok (.sh d)) → RQ Γ W Hs H (.ok (.sh d)) Q →
    a6D Γ W gs σ H (fun vs H1 => ∃ Hs1 ds, Grow Hs H Hs1 H1 ∧ RE Γ B0 B1 Hs1 H1 σ ρ ∧ RepL Γ H1 ds vs ∧ a3x (k ds) = some (.ok (.sh d)) ∧ RQ Γ W Hs1 H1 (.ok (.sh d)) Q)
  | [], Hs, H, k, d, re, e, q => ⟨Hs, [], .refl re.b.i, re, .nil, e, q⟩
  | g :: gs, Hs, H, k, d, re, e, q => by
    have e' : a3x (a0N (g ρ) fun x => a1W gs ρ fun ds => k (x :: ds)) = some (.ok (.sh d)) := e
    cases h : g ρ with
    | none => rw [h] at e'; cases e'
    | some x =>
      rw [h] at e'
      cases x with
      | exc y => cases e'
      | ok s =>
        refine ⟨B0, B1, Hs, ρ, .ok s, re, h, fun v Hs1 H1 g1 rp => ?_⟩
        refine a3b gs (fun vs H2 ⟨Hs2, ds, g2, re2, rps, e2, q2⟩ => ?_) (a31 gs (k := fun ds => k (s.val :: ds)) (re.grow g1) e' (q.grow g1))
        exact ⟨Hs2, s.val :: ds, g1.trans g2, re2, .cons (rp.mono g2.h) rps, e2, q2⟩
end
theorem PE.imp {X : Cx} {e : Expr} {t t' : TE} (h : PE X e t) (i : ∀ pins s σ H Q, Inv X pins σ H s → t' σ H Q → t σ H Q) : PE X e t' := fun pins s σ H Q I q => h pins s σ H Q I (i pins s σ H Q I q)
theorem PT.imp {X : Cx} {e : Expr} {t t' : TT} (h : PT X e t) (i : ∀ pins s σ H Q, Inv X pins σ H s → t' σ H Q → t σ H Q) : PT X e t' := fun pins s σ H Q I q => h pins s σ H Q I (i pins s σ H Q I q)
theorem PW.imp {X : Cx} {e : Expr} {t t' : TT} (h : PW X e t) (i : ∀ σ H Q, t' σ H Q → t σ H Q) : PW X e t' := fun w pins s σ H Q I q => h w pins s σ H Q I (i σ H Q q)
theorem PS.imp {X : Cx} {e : Stmt} {t t' : TS} (h : PS X e t) (i : ∀ pins s σ H D, Inv X pins σ H s → t' D σ H → t D σ H) : PS X e t' := fun pins s σ H D I q => h pins s σ H D I (i pins s σ H D I q)
theorem PSs.imp {X : Cx} {e : List Stmt} {t t' : TS} (h : PSs X e t) (i : ∀ D σ H, t' D σ H → t D σ H) : PSs X e t' := fun pins s σ H D I q => h pins s σ H D I (i D σ H q)
abbrev PD (X : Cx) (Γ : Ct) (W : XW) (e : Expr) (g : ME) : Prop := PE X e (tD Γ W g)
abbrev PL (X : Cx) (Γ : Ct) (W : XW) (e : Expr) (g : ME) : Prop := PE X e (tL Γ W g)
abbrev PTD (X : Cx) (Γ : Ct) (W : XW) (e : Expr) (g : ME) : Prop := PT X e (tT Γ W g)
abbrev PWD (X : Cx) (Γ : Ct) (W : XW) (e : Expr) (g : ME) : Prop := PW X e (tT Γ W g)
abbrev PAD (X : Cx) (Γ : Ct) (W : XW) (es : List Expr) (gs : List ME) : Prop := PA X es (a6C Γ W gs)
abbrev PAL (X : Cx) (Γ : Ct) (W : XW) (es : List Expr) (gs : List ME) : Prop := PA X es (a6D Γ W gs)
section
variable {X : Cx} {Γ : Ct} {W : XW} {e a b : Expr} {g ga gb : ME} {pos : Pos}
theorem PD.look (h : PD X Γ W e g) : PL X Γ W e g := PE.imp h fun _ _ _ _ _ _ t => t.toD
theorem a0a {i : Nat} (h : PE X e (tVar i)) : PD X Γ W e (eVar i) := PE.imp h fun _ _ σ H Q _ ⟨B0, B1, Hs, ρ, r, re, e1, q⟩ => by
  unfold eVar at e1
  split at e1
  · rename_i d hd
    cases e1
    obtain ⟨v, e2, rp⟩ := re.sh i d hd
    exact ⟨v, e2, q v Hs H (.refl re.b.i) rp⟩
  · cases e1
theorem a0u {i : Nat} (h : PE X e (tVar i)) : PL X Γ W e (eAny i) := PE.imp h fun _ _ σ H Q _ ⟨B0, B1, Hs, ρ, r, re, e1, q⟩ => by
  unfold eAny at e1
  split at e1
  · cases e1
  · rename_i s hno hd
    cases e1
    cases s with
    | sh d =>
      obtain ⟨v, e2, rp⟩ := re.sh i d hd
      exact ⟨v, e2, q v Hs H (.refl re.b.i) (Rep.mono re.b.i rp)⟩
    | own o =>
      obtain ⟨c, ho, e2, _, _, e4, rp⟩ := re.own i o hd
      exact ⟨.ref c, e2, q (.ref c) Hs H (.refl re.b.i) (((rp.o fun kvs z => by subst z; exact hno kvs rfl).mono re.b.i).val e4)⟩
  · cases e1
theorem a5p {v : V} {d : D} (h : PE X e (tC v)) (rp : ∀ H, Rep Γ H d v) : PD X Γ W e (eC d) := PE.imp h fun _ _ σ H Q _ ⟨B0, B1, Hs, ρ, r, re, e1, q⟩ => by
  cases e1
  exact q v Hs H (.refl re.b.i) (rp Hs)
theorem a0d {i j} : PD X Γ W (.Constant (.int i) j pos) (eC (.int i)) := a5p pe_int fun _ => a0k.mpr rfl
theorem a5q {i j} : PD X Γ W (.Constant (.bool i) j pos) (eC (.bl i)) := a5p pe_bl fun _ => a0r.mpr rfl
theorem a09 {i j} : PD X Γ W (.Constant (.str i) j pos) (eC (.str i)) := a5p pe_str fun _ => a0D.mpr rfl
theorem pd_neg {i j pos'} : PD X Γ W (.UnaryOp .USub (.Constant (.int i) j pos') pos) (eC (.int (-i))) := PE.imp (pe_un un_neg pe_int) fun _ _ σ H Q _ ⟨B0, B1, Hs, ρ, r, re, e1, q⟩ => by
  cases e1
  exact ⟨i, rfl, q _ Hs H (.refl re.b.i) (RepS.of (a0k.mpr rfl))⟩
inductive rD (Γ : Ct) (W : XW) (f : D → D → Option R) (x y : V) (H : Hp) (Q : VK) : Prop
  | mk (Hs : Hp) (d1 d2 : D) (r : R) (sm : Same Hs H) (r1 : Rep Γ Hs d1 x) (r2 : Rep Γ Hs d2 y) (e : f d1 d2 = some r) (q : RQ Γ W Hs H r Q)
theorem a5P {f : D → D → Option R} {σ : L2.St} {H : Hp} {Q : VK} (t : tD Γ W (eBin f ga gb) σ H Q) : tOp (rD Γ W f) (tD Γ W ga) (tD Γ W gb) σ H Q := by
  obtain ⟨B0, B1, Hs, ρ, r, re, e, q⟩ := t
  refine (a1p re e q).mono fun v H1 ⟨Hs1, d, g1, re1, rp, e1, q1⟩ => ?_
  refine (a1p re1 e1 q1).mono fun u H2 ⟨Hs2, d2, g2, re2, rp2, e2, q2⟩ => ?_
  exact ⟨Hs2, d, d2, r, re2.b.i, rp.mono g2.s, rp2, e2, q2⟩
theorem a0v {op : Operator} {f : D → D → Option R} (ho : OpR X (binaryOp op) (rD Γ W f)) (ha : PD X Γ W a ga) (hb : PD X Γ W b gb) : PD X Γ W (.BinOp a op b pos) (eBin f ga gb) :=
  PE.imp (pe_op ho ha hb) fun _ _ _ _ _ _ t => a5P t
theorem a3S {op : CmpOp} {f : D → D → Option R} (ho : OpR X (compareOp op) (rD Γ W f)) (ha : PD X Γ W a ga) (hb : PD X Γ W b gb) (hm : behindInMarks op b = false := by first | exact nomark _ | rfl) : PD X Γ W (.Compare a [op] [b] pos) (eBin f ga gb) :=
  PE.imp (pe_cmpR ho ha hb hm) fun _ _ _ _ _ _ t => a5P t
theorem tT_of {σ : L2.St} {H : Hp} {Q : Bool → Hp → Prop} (t : tT Γ W g σ H Q) : tD Γ W g σ H (fun x H' => ∃ k, x = .bl k ∧ Q k H') := by
  obtain ⟨B0, B1, Hs, ρ, r, re, e, q⟩ := t
  refine ⟨B0, B1, Hs, ρ, r, re, e, ?_⟩
  cases r with
  | exc x => exact q
  | ok s =>
    obtain ⟨c, ec, q⟩ := q
    intro v Hs' H' g' rs
    obtain ⟨_, g2, _, rp⟩ := rs.share g'
    rw [ec] at rp
    exact ⟨c, a0r.mp rp, q _ _ g'⟩
theorem a0q {op : CmpOp} {f : D → D → Option R} (ho : OpR X (compareOp op) (rD Γ W f)) (ha : PD X Γ W a ga) (hb : PD X Γ W b gb) (hm : behindInMarks op b = false := by first | exact nomark _ | rfl) : PTD X Γ W (.Compare a [op] [b] pos) (eBin f ga gb) :=
  PT.imp (pt_cmpR ho ha hb hm) fun _ _ _ _ _ _ t => a5P (tT_of t)
theorem a26 (h : PD X Γ W e g) (he : ∀ whole, isTrue e X.env whole = (do let v ← whole; standAt e.pos; holding [v] (truthy v)) := by intro _; rfl) : PTD X Γ W e g :=
  PT.imp (pt_val h he) fun _ _ _ _ _ _ t => tT_of t
section
variable {t u : ME} {rest : List Expr}
theorem tT.mono {σ : L2.St} {H : Hp} {Q Q' : Bool → Hp → Prop} (h : tT Γ W g σ H Q) (k : ∀ b H, Q b H → Q' b H) : tT Γ W g σ H Q' := by
  obtain ⟨B0, B1, Hs, ρ, r, re, e, q⟩ := h
  refine ⟨B0, B1, Hs, ρ, r, re, e, ?_⟩
  cases r with
  | exc x => exact q
  | ok s => obtain ⟨c, ec, q⟩ := q; exact ⟨c, ec, fun Hs' H' g' => k _ _ (q Hs' H' g')⟩
theorem RB.grow {Hs H Hs1 H1 : Hp} {r : R} {Q : Bool → Hp → Prop} (q : RB W Hs H r Q) (g : Grow Hs H Hs1 H1) : RB W Hs1 H1 r Q := by
  cases r with
  | exc x => exact fun Hs' H' g' => q Hs' H' (g.trans g')
  | ok s => obtain ⟨c, ec, q⟩ := q; exact ⟨c, ec, fun Hs' H' g' => q Hs' H' (g.trans g')⟩
theorem a21 {x : D} {k : Bool → Option R} {r : R} (h : asB x k = some r) : ∃ c, x = .bl c ∧ k c = some r := by
  cases x with
  | bl c => exact ⟨c, rfl, h⟩
  | non => cases h
  | int _ => cases h
  | str _ => cases h
  | tup _ => cases h
  | lst _ => cases h
  | fn _ _ => cases h
  | obj _ _ _ => cases h
theorem ptd_not (ha : PTD X Γ W a g) : PTD X Γ W (.UnaryOp .Not a pos) (eNot g) := PT.imp (pt_not ha) fun _ _ σ H Q _ t => by
  obtain ⟨B0, B1, Hs, ρ, r, re, e, q⟩ := t
  have e' : a0N (g ρ) dNot = some r := e
  cases h : g ρ with
  | none => rw [h] at e'; cases e'
  | some x =>
    rw [h] at e'
    refine ⟨B0, B1, Hs, ρ, x, re, h, ?_⟩
    cases x with
    | exc y => cases e'; exact q
    | ok s =>
      obtain ⟨c, ec, e2⟩ := a21 (show asB s.val (fun c => okB (!c)) = some r from e')
      cases e2
      obtain ⟨c', ec', q⟩ := q
      cases ec'
      exact ⟨c, ec, q⟩
theorem a2d (ha : PTD X Γ W a g) : PWD X Γ W (.BoolOp .And [a] pos) g := pw_and1 ha
theorem a25 (ha : PTD X Γ W a g) : PWD X Γ W (.BoolOp .Or [a] pos) g := pw_or1 ha
theorem a2r (ha : PTD X Γ W a t) (hb : PWD X Γ W (.BoolOp .And (b :: rest) pos) u) : PWD X Γ W (.BoolOp .And (a :: b :: rest) pos) (eAnd t u) := PW.imp (pw_and ha hb) fun σ H Q h => by
  obtain ⟨B0, B1, Hs, ρ, r, re, e, q⟩ := h
  have e' : a0N (t ρ) (fun x => asB x fun c => if c = true then u ρ else okB false) = some r := e
  cases h : t ρ with
  | none => rw [h] at e'; cases e'
  | some x =>
    rw [h] at e'
    refine ⟨B0, B1, Hs, ρ, x, re, h, ?_⟩
    cases x with
    | exc y => cases e'; exact q
    | ok s =>
      obtain ⟨c, ec, e2⟩ := a21 (show asB s.val _ = some r from e')
      refine ⟨c, ec, fun Hs' H' g' => ?_⟩
      cases c with
      | true => exact ⟨B0, B1, Hs', ρ, r, re.grow g', e2, q.grow g'⟩
      | false =>
        cases e2
        obtain ⟨c', ec', q⟩ := q
        cases ec'
        exact q _ _ g'
theorem a3O (ha : PTD X Γ W a t) (hb : PWD X Γ W (.BoolOp .Or (b :: rest) pos) u) : PWD X Γ W (.BoolOp .Or (a :: b :: rest) pos) (eOr t u) := PW.imp (pw_or ha hb) fun σ H Q h => by
  obtain ⟨B0, B1, Hs, ρ, r, re, e, q⟩ := h
  have e' : a0N (t ρ) (fun x => asB x fun c => if c = true then okB true else u ρ) = some r := e
  cases h : t ρ with
  | none => rw [h] at e'; cases e'
  | some x =>
    rw [h] at e'
    refine ⟨B0, B1, Hs, ρ, x, re, h, ?_⟩
    cases x with
    | exc y => cases e'; exact q
    | ok s =>
      obtain ⟨c, ec, e2⟩ := a21 (show asB s.val _ = some r from e')
      refine ⟨c, ec, fun Hs' H' g' => ?_⟩
      cases c with
      | false => exact ⟨B0, B1, Hs', ρ, r, re.grow g', e2, q.grow g'⟩
      | true =>
        cases e2
        obtain ⟨c', ec', q⟩ := q
        cases ec'
        exact q _ _ g'
theorem PWD.pt (h : PWD X Γ W e g) : PTD X Γ W e g := PW.pt h
theorem a5U {op} (h : PD X Γ W a g) : PD X Γ W (.BoolOp op [a] pos) g := pe_one h
theorem a4L (ha : PD X Γ W a t) (hb : PD X Γ W (.BoolOp .And (b :: rest) pos) u) : PD X Γ W (.BoolOp .And (a :: b :: rest) pos) (eAnd t u) := PE.imp (pe_and ha hb) fun _ _ σ H Q _ h => by
  obtain ⟨B0, B1, Hs, ρ, r, re, e, q⟩ := h
  refine (a1p (k := fun x => asB x fun c => if c = true then u ρ else okB false) re e q).mono fun v H1 ⟨Hs1, d, g1, re1, rp, e1, q1⟩ => ?_
  obtain ⟨c, rfl, e2⟩ := a21 e1
  refine ⟨c, a0r.mp rp, ?_⟩
  cases c with
  | true => exact ⟨B0, B1, Hs1, ρ, r, re1, e2, q1⟩
  | false => cases e2; exact q1 _ Hs1 H1 (.refl re1.b.i) (RepS.of (a0r.mpr rfl))
end
theorem a0g : PAD X Γ W [] [] := pa_nil
theorem a0V {es : List Expr} {gs : List ME} (h : PD X Γ W e g) (t : PAD X Γ W es gs) (hs : starEach (e :: es) X.env = (false, eval e X.env) :: starEach es X.env := by rfl) : PAD X Γ W (e :: es) (g :: gs) := pa_cons h t hs
theorem a0y : PAL X Γ W [] [] := pa_nil
theorem a0o {es : List Expr} {gs : List ME} (h : PL X Γ W e g) (t : PAL X Γ W es gs) (hs : starEach (e :: es) X.env = (false, eval e X.env) :: starEach es X.env := by rfl) : PAL X Γ W (e :: es) (g :: gs) := pa_cons h t hs
inductive spR (Γ : Ct) (W : XW) (F : List D → Option R) (vs : List V) (H : Hp) (Q : VK) : Prop
  | mk (Hs : Hp) (ds : List D) (r : R) (sm : Same Hs H) (rl : RepL Γ Hs ds vs) (e : F ds = some r) (q : RQ Γ W Hs H r Q) (tb : Same Γ.tb Hs)
theorem a3m {F : List D → Option R} {gs : List ME} {σ : L2.St} {H : Hp} {Q : VK} (t : tD Γ W (a0h F gs) σ H Q) : a6C Γ W gs σ H fun vs H1 => spR Γ W F vs H1 Q := by
  obtain ⟨B0, B1, Hs, ρ, r, re, e, q⟩ := t
  exact a1Q gs (fun vs H1 ⟨Hs1, ds, _, re1, rp, e1, q1⟩ => ⟨Hs1, ds, r, re1.b.i, rp, e1, q1, re1.tb⟩) (a3E gs re e q)
theorem a5O {F : List D → Option R} {gs : List ME} {σ : L2.St} {H : Hp} {Q : VK} (t : tD Γ W (a0i F gs) σ H Q) : a6D Γ W gs σ H fun vs H1 => spR Γ W F vs H1 Q := by
  obtain ⟨B0, B1, Hs, ρ, r, re, e, q⟩ := t
  have e' : a3x (a1W gs ρ F) = some r := e
  obtain ⟨d, rfl⟩ : ∃ d, r = .ok (.sh d) := by
    unfold a3x at e'
    split at e'
    · split at e'
      · cases e'; exact ⟨_, rfl⟩
      · cases e'
    · cases e'
  refine a3b gs (fun vs H1 ⟨Hs1, ds, g1, re1, rp, e1, q1⟩ => ?_) (a31 gs re e' q)
  unfold a3x at e1
  split at e1
  · rename_i s hs
    split at e1
    · rename_i hf
      cases e1
      refine ⟨H1, ds, _, .refl _, rp, hs, fun v Hs' H' g' rs => q1 v Hs1 H' (.only re1.b.i g'.h) ?_, re1.tb.trans re1.b.i⟩
      exact a38 (rs.look g') hf
    · cases e1
  · cases e1
section
variable {CX : CXT} {k : Nat} {f : Addr} {fd : FuncData} {ps : List Str} {x : Str} {p : Pos} {es : List Expr} {gs : List ME} {F : List D → Option R}
def spD (Γ : Ct) (W : XW) (F : List D → Option R) : Sp := fun vs H Q _ => spR Γ W F vs H Q
theorem pd_call (G : FnOk X.prog X.w X.K X.mg X.base CX0 k f fd ps (spD Γ W F)) (hr : Room k X.A) (hg : Gl X x) (hm : X.mg x = some (.ref f)) (hk : PySem.W.keepIn X.K (.ref f) = true) (hb : Binds X.K fd ps [])
    (ha : PAD X Γ W (e :: es) gs) (hdb : (x == ("__debug__" : Str)) = false := by decide) (he : starEach (e :: es) X.env = (false, eval e X.env) :: starEach es X.env := by rfl) (hpl : (backTo pos (starEach es X.env)).any (·.1) = false := by rfl) :
    PD X Γ W (.Call (.Name x p) (e :: es) [] pos) (a0h F gs) :=
  PE.imp (pe_call (E := E0) (dvs := []) (ds := []) G hr hg hm hk hb .nil pass0 ha hdb he hpl) fun _ _ _ _ _ _ t => a1Q gs (fun vs H1 z => by show spR Γ W F (vs ++ []) H1 _; rw [List.append_nil]; exact z) (a3m t)
end
section
variable {x : Str} {p : Pos} {es : List Expr} {gs : List ME} {F : List D → Option R} {id T : String}
theorem a3T (hc : CallR X (.builtin id) (spR Γ W F)) (hg : Gl X x) (hm : X.mg x = none) (hv : bootBuiltins x = some (.builtin id)) (ha : PAD X Γ W (e :: es) gs) (hn : x ≠ "__name__" := by decide) (hdb : (x == ("__debug__" : Str)) = false := by decide)
    (he : starEach (e :: es) X.env = (false, eval e X.env) :: starEach es X.env := by rfl) (hpl : (backTo pos (starEach es X.env)).any (·.1) = false := by rfl) : PD X Γ W (.Call (.Name x p) (e :: es) [] pos) (a0h F gs) :=
  PE.imp (pe_callB hc hg hm hv ha hn hdb he hpl) fun _ _ _ _ _ _ t => a3m t
theorem a0x (hc : CallR X (.builtin id) (spR Γ W F)) (hg : Gl X x) (hm : X.mg x = none) (hv : bootBuiltins x = some (.builtin id)) (ha : PAL X Γ W (e :: es) gs) (hn : x ≠ "__name__" := by decide) (hdb : (x == ("__debug__" : Str)) = false := by decide)
    (he : starEach (e :: es) X.env = (false, eval e X.env) :: starEach es X.env := by rfl) (hpl : (backTo pos (starEach es X.env)).any (·.1) = false := by rfl) : PD X Γ W (.Call (.Name x p) (e :: es) [] pos) (a0i F gs) :=
  PE.imp (pe_callB hc hg hm hv ha hn hdb he hpl) fun _ _ _ _ _ _ t => a5O t
theorem a6f (hc : CallR X (.type T) (spR Γ W F)) (hg : Gl X x) (hm : X.mg x = none) (hv : bootBuiltins x = some (.type T)) (ha : PAD X Γ W (e :: es) gs) (hn : x ≠ "__name__" := by decide) (hdb : (x == ("__debug__" : Str)) = false := by decide)
    (he : starEach (e :: es) X.env = (false, eval e X.env) :: starEach es X.env := by rfl) (hpl : (backTo pos (starEach es X.env)).any (·.1) = false := by rfl) : PD X Γ W (.Call (.Name x p) (e :: es) [] pos) (a0h F gs) :=
  PE.imp (pe_callTy hc hg hm hv ha hn hdb he hpl) fun _ _ _ _ _ _ t => a3m t
end
theorem a1S {es : List Expr} {gs : List ME} {x1} (ha : PAD X Γ W es gs) : PD X Γ W (.Tuple es x1 pos) (eTup gs) := PE.imp (pe_tup ha) fun _ _ σ H Q _ t => by
  refine a1Q gs (fun vs H1 ⟨Hs1, ds, r, sm, rp, e1, q1, _⟩ => ?_) (a3m t)
  try dsimp only at e1
  split at e1
  · rename_i hl
    cases e1
    refine ⟨by rw [← rp.length]; exact Nat.le_trans hl (by decide), fun p hp => q1 _ (upd Hs1 p (.tup vs)) _ (.new sm hp) ?_⟩
    exact a0G.mpr ⟨p, vs, rfl, .of upd_same, rp.mono (a0Q (sm.free hp))⟩
  · cases e1
theorem a3R {es : List Expr} {gs : List ME} (ha : PAD X Γ W es gs) : PD X Γ W (.List es pos) (eLst gs) := PE.imp (pe_lst ha) fun _ _ σ H Q _ t => by
  refine a1Q gs (fun vs H1 ⟨Hs1, ds, r, sm, rp, e1, q1, _⟩ => ?_) (a3m t)
  try dsimp only at e1
  split at e1
  · rename_i hl
    cases e1
    refine ⟨by rw [← rp.length]; exact Nat.le_trans hl (by decide), fun p hp => q1 _ Hs1 _ (.newOwn sm hp) ?_⟩
    exact ⟨p, _, rfl, hp, sm.free hp, upd_same, vs, rfl, rp⟩
  · cases e1
theorem a0B {f : D → D → Option R} (ho : IxR X (rD Γ W f)) (ha : PD X Γ W a ga) (hb : PD X Γ W b gb) (hs : PlainIx b := by exact fun _ _ => rfl) : PD X Γ W (.Subscript a b pos) (eBin f ga gb) :=
  PE.imp (pe_ix ho ha hb hs) fun _ _ _ _ _ _ t => a5P t
end
end L3
namespace L3
open PySem PySem.Spec PyProof.Rows L2
def EQ (Γ : Ct) (W : XW) (B0 B1 Hs : Hp) (D : Ends) : Out → Prop
  | .next ρ' => ∀ σ' Hs' H', Same Hs Hs' → RE Γ B0 B1 Hs' H' σ' ρ' → D.nx σ' H'
  | .brk ρ' => ∀ σ' Hs' H', Same Hs Hs' → RE Γ B0 B1 Hs' H' σ' ρ' → D.bk σ' H'
  | .cont ρ' => ∀ σ' Hs' H', Same Hs Hs' → RE Γ B0 B1 Hs' H' σ' ρ' → D.ct σ' H'
  | .ret s => ∀ v Hs' H', Same Hs Hs' → Grow B0 B1 Hs' H' → RepS Γ B1 Hs' H' s v → D.rt v H'
  | .exc x => ∀ Hs' H', Same Hs Hs' → Grow B0 B1 Hs' H' → W x Hs' H'
theorem EQ.from {Γ : Ct} {W : XW} {B0 B1 Hs Hs1 : Hp} {D : Ends} {o : Out} (q : EQ Γ W B0 B1 Hs D o) (k : Same Hs Hs1) : EQ Γ W B0 B1 Hs1 D o := by
  cases o with
  | next ρ => exact fun σ' Hs' H' h => q σ' Hs' H' (k.trans h)
  | brk ρ => exact fun σ' Hs' H' h => q σ' Hs' H' (k.trans h)
  | cont ρ => exact fun σ' Hs' H' h => q σ' Hs' H' (k.trans h)
  | ret s => exact fun v Hs' H' h => q v Hs' H' (k.trans h)
  | exc x => exact fun Hs' H' h => q Hs' H' (k.trans h)
inductive tS (Γ : Ct) (W : XW) (g : MC) (D : Ends) (σ : L2.St) (H : Hp) : Prop
  | mk (B0 B1 Hs : Hp) (ρ : MEnv) (o : Out) (re : RE Γ B0 B1 Hs H σ ρ) (e : g ρ = some o) (q : EQ Γ W B0 B1 Hs D o)
abbrev PSD (X : Cx) (Γ : Ct) (W : XW) (st : Stmt) (g : MC) : Prop := PS X st (tS Γ W g)
abbrev PSsD (X : Cx) (Γ : Ct) (W : XW) (st : List Stmt) (g : MC) : Prop := PSs X st (tS Γ W g)
section
variable {X : Cx} {Γ : Ct} {W : XW} {st : Stmt} {rest a b : List Stmt} {g g1 g2 : MC} {ge gc : ME} {e c : Expr} {pos : Pos}
theorem a0z : PSsD X Γ W [] a0L := PSs.imp pss_nil fun D σ H ⟨B0, B1, Hs, ρ, o, re, e, q⟩ => by
  cases e
  exact q σ Hs H (.refl _) re
theorem a0f (h1 : PSD X Γ W st g1) (h2 : PSsD X Γ W rest g2) : PSsD X Γ W (st :: rest) (sSeq g1 g2) := PSs.imp (pss_cons h1 h2) fun D σ H ⟨B0, B1, Hs, ρ, o, re, e, q⟩ => by
  unfold sSeq at e
  cases h : g1 ρ with
  | none => rw [h] at e; cases e
  | some u =>
    rw [h] at e
    refine ⟨B0, B1, Hs, ρ, u, re, h, ?_⟩
    cases u with
    | next ρ' => exact fun σ' Hs' H' sm re' => ⟨B0, B1, Hs', ρ', o, re', e, q.from sm⟩
    | brk ρ' => cases e; exact q
    | cont ρ' => cases e; exact q
    | ret s => cases e; exact q
    | exc x => cases e; exact q
theorem a0l (h : PSD X Γ W st g) : PSsD X Γ W [st] g := pss_one h
theorem a0U {i : Nat} (h : PSsD X Γ W rest g) : PSsD X Γ W rest (sDem i g) := PSs.imp h fun D σ H ⟨B0, B1, Hs, ρ, o, re, e, q⟩ => by
  obtain ⟨Hs', sm, re'⟩ := re.dem i
  exact ⟨B0, B1, Hs', dem i ρ, o, re', e, q.from sm⟩
theorem tD_O {B0 B1 Hs H : Hp} {σ : L2.St} {ρ : MEnv} {o : Out} {D : Ends} {k : S → Option Out} (re : RE Γ B0 B1 Hs H σ ρ) (e : a2D (ge ρ) k = some o) (q : EQ Γ W B0 B1 Hs D o) :
    tD Γ W ge σ H (fun v H1 => ∃ Hs1 s, Grow Hs H Hs1 H1 ∧ RepS Γ H Hs1 H1 s v ∧ k s = some o) := by
  cases h : ge ρ with
  | none => rw [h] at e; cases e
  | some x =>
    rw [h] at e
    refine ⟨B0, B1, Hs, ρ, x, re, h, ?_⟩
    cases x with
    | exc y => cases e; exact fun Hs' H' g' => q Hs' H' g'.s (re.b.trans g')
    | ok s => exact fun v Hs' H' g' rs => ⟨Hs', s, g', rs, e⟩
theorem a6c {i : Nat} {t : TE} (h : PS X st (tAsg (tD Γ W ge) (gName i))) (hi : i < X.N.length) : PSD X Γ W st (sSet i ge) := PS.imp h fun pins s σ H D I ⟨B0, B1, Hs, ρ, o, re, e, q⟩ => by
  refine (tD_O re e q).mono fun v H1 ⟨Hs1, s, g1, rs, e1⟩ => ?_
  cases e1
  exact q _ Hs1 H1 g1.s (re.setS g1 (by rw [I.len]; exact hi) rs)
theorem psd_set {i : Nat} {x : Str} {pos' : Pos} (hN : X.N.Nodup) (hi : X.N[i]? = some x) (hx : Loc X.env.scope x) (he : PD X Γ W e ge) (hs : swapsWith e (some (.Name x pos')) pos.line X.env = pure false := by rfl)
    (hf : X.fn x = true ∨ X.env.scope.names.lookup x = some .local := by first | exact .inl rfl | exact .inr rfl | assumption) : PSD X Γ W (.Assign [.Name x pos'] e pos) (sSet i ge) :=
  a6c (t := tD Γ W ge) (ps_set hN hi hx he hs hf) (List.getElem?_eq_some_iff.mp hi).1
theorem a0w (he : PD X Γ W e ge) : PSD X Γ W (.Return (some e) pos) (sRet ge) := PS.imp (ps_ret he) fun pins s σ H D I ⟨B0, B1, Hs, ρ, o, re, e, q⟩ => by
  refine (tD_O re e q).mono fun v H1 ⟨Hs1, s, g1, rs, e1⟩ => ?_
  cases e1
  exact q v Hs1 H1 g1.s (re.b.trans g1) (rs.back re.b.h)
theorem a7D {x : D} {k : Bool → Option Out} {o : Out} (h : asBO x k = some o) : ∃ c, x = .bl c ∧ k c = some o := by
  cases x with
  | bl c => exact ⟨c, rfl, h⟩
  | non => cases h
  | int _ => cases h
  | str _ => cases h
  | tup _ => cases h
  | lst _ => cases h
  | fn _ _ => cases h
  | obj _ _ _ => cases h
theorem a06 (hc : PTD X Γ W c gc) (ha : PSsD X Γ W a g1) (hb : PSsD X Γ W b g2) : PSD X Γ W (.If c a b pos) (sIf gc g1 g2) := PS.imp (ps_if hc ha hb) fun pins s σ H D I ⟨B0, B1, Hs, ρ, o, re, e, q⟩ => by
  have e' : a2D (gc ρ) (fun s => asBO s.val fun t => if t = true then g1 ρ else g2 ρ) = some o := e
  cases h : gc ρ with
  | none => rw [h] at e'; cases e'
  | some x =>
    rw [h] at e'
    refine ⟨B0, B1, Hs, ρ, x, re, h, ?_⟩
    cases x with
    | exc y => cases e'; exact fun Hs' H' g' => q Hs' H' g'.s (re.b.trans g')
    | ok s =>
      obtain ⟨t, et, e2⟩ := a7D (show asBO s.val _ = some o from e')
      refine ⟨t, et, fun Hs' H' g' => ?_⟩
      cases t with
      | true => exact ⟨B0, B1, Hs', ρ, o, re.grow g', e2, q.from g'.s⟩
      | false => exact ⟨B0, B1, Hs', ρ, o, re.grow g', e2, q.from g'.s⟩
structure Walk (Γ : Ct) (Hs0 : Hp) (J : It) (ds : List D) : Prop where
  go : ∀ i Hs H, i < ds.length → Same Hs0 Hs → Same Hs H → J.go i H
  stop : ∀ Hs H, Same Hs0 Hs → Same Hs H → J.stop ds.length H
  yld : ∀ i Hs H x H', i < ds.length → Same Hs0 Hs → Same Hs H → J.yld i H x H' → ∃ d Hs', ds[i]? = some d ∧ Grow Hs H Hs' H' ∧ Rep Γ Hs' d x
def IQ (Γ : Ct) (W : XW) (Hs H : Hp) (r : RI) (Q : It → Hp → Prop) : Prop := match r with
  | .ok ds => ∀ J Hs' H', Grow Hs H Hs' H' → Walk Γ Hs' J ds → Q J H'
  | .exc x => ∀ Hs' H', Grow Hs H Hs' H' → W x Hs' H'
inductive tI (Γ : Ct) (W : XW) (gi : MI) (σ : L2.St) (H : Hp) (Q : It → Hp → Prop) : Prop
  | mk (B0 B1 Hs : Hp) (ρ : MEnv) (r : RI) (re : RE Γ B0 B1 Hs H σ ρ) (e : gi ρ = some r) (q : IQ Γ W Hs H r Q)
abbrev PID (X : Cx) (Γ : Ct) (W : XW) (tg iter : Expr) (gi : MI) : Prop := PI X tg iter (tI Γ W gi)
theorem PI.imp {X : Cx} {tg e : Expr} {t t' : TI} (h : PI X tg e t) (i : ∀ pins s σ H Q, Inv X pins σ H s → t' σ H Q → t σ H Q) : PI X tg e t' := fun pins s σ H Q I q => h pins s σ H Q I (i pins s σ H Q I q)
inductive tB3 (Γ : Ct) (js : List Nat) (bd : MB) (v : V) (σ : L2.St) (H : Hp) (Q : L2.St → Hp → Prop) : Prop
  | mk (B0 B1 Hs : Hp) (ρ : MEnv) (d : D) (ρ' : MEnv) (re : RE Γ B0 B1 Hs H σ ρ) (rp : Rep Γ Hs d v) (e : bd d ρ = some ρ') (q : ∀ σ' : L2.St, RE Γ B0 B1 Hs H σ' ρ' → (∀ j : Nat, j ∉ js → σ'[j]? = σ[j]?) → Q σ' H)
abbrev PBD (X : Cx) (Γ : Ct) (tg : Expr) (js : List Nat) (bd : MB) : Prop := PG X tg (tB3 Γ js bd)
theorem PG.imp {X : Cx} {tg : Expr} {t t' : TG} (h : PG X tg t) (i : ∀ pins s v σ H Q, Inv X pins σ H s → t' v σ H Q → t v σ H Q) : PG X tg t' := fun pins s σ H v u Q I r q => h pins s σ H v u Q I r (i pins s v σ H Q I q)
theorem pbd_name {j : Nat} {x : Str} (hN : X.N.Nodup) (hi : X.N[j]? = some x) (hx : Loc X.env.scope x) (hf : X.fn x = true ∨ X.env.scope.names.lookup x = some .local := by first | exact .inl rfl | exact .inr rfl | assumption) : PBD X Γ (.Name x pos) [j] (a0Z j) :=
  PG.imp (pg_name hN hi hx hf) fun pins s v σ H Q I ⟨B0, B1, Hs, ρ, d, ρ', re, rp, e, q⟩ => by
    cases e
    exact q _ (re.setSh (by rw [I.len]; exact (List.getElem?_eq_some_iff.mp hi).1) rp) fun i hi => List.getElem?_set_ne fun z => hi (by simp [z])
theorem a3j {j k : Nat} {x y : Str} {px py : Pos} {kt : Nat} (hK : X.K = Γ.K) (hc : X.calm = true) (hN : X.N.Nodup) (hj : X.N[j]? = some x) (hk : X.N[k]? = some y) (hx : Loc X.env.scope x) (hy : Loc X.env.scope y)
    (fx : X.fn x = true ∨ X.env.scope.names.lookup x = some .local := by first | exact .inl rfl | exact .inr rfl | assumption) (fy : X.fn y = true ∨ X.env.scope.names.lookup y = some .local := by first | exact .inl rfl | exact .inr rfl | assumption)
    (hn : (assignEach [.Name x px, .Name y py] X.env).length = 2 := by rfl) (hst : (assignEach [.Name x px, .Name y py] X.env).findIdx? (·.1) = none := by rfl)
    (hs1 : (assignEach [.Name x px, .Name y py] X.env).map (·.2) = assign (.Name x px) X.env :: (assignEach [.Name y py] X.env).map (·.2) := by rfl) (hs2 : (assignEach [.Name y py] X.env).map (·.2) = assign (.Name y py) X.env :: (assignEach [] X.env).map (·.2) := by rfl) :
    PBD X Γ (.Tuple [.Name x px, .Name y py] kt pos) [j, k] (bTup [j, k]) :=
  PG.imp (pg_tup hc (pgs_cons (pg_name hN hj hx fx) (pgs_cons (pg_name hN hk hy fy) pgs_nil hs2) hs1) hn hst) fun pins s v σ H Q I ⟨B0, B1, Hs, ρ, d, ρ', re, rp, e, q⟩ => by
    have lj : j < σ.length := by rw [I.len]; exact (List.getElem?_eq_some_iff.mp hj).1
    have lk : k < σ.length := by rw [I.len]; exact (List.getElem?_eq_some_iff.mp hk).1
    cases d with
    | tup ds =>
      unfold bTup at e
      dsimp only at e
      split at e
      · rename_i hl
        cases e
        match ds, hl with
        | [d1, d2], _ =>
          obtain ⟨a, xs, rfl, sq, rl⟩ := a0G.mp rp
          obtain ⟨x1, r1, rfl, q1, rl⟩ := a0t.mp rl
          obtain ⟨x2, r2, rfl, q2, rl⟩ := a0t.mp rl
          obtain rfl := a03.mp rl
          refine ⟨a, [x1, x2], rfl, by rw [hK]; exact a0K re.b.i sq, rfl, x1, [x2], rfl, x2, [], rfl, rfl, ?_⟩
          exact q _ ((re.setSh lj q1).setSh (by rw [List.length_set]; exact lk) q2) fun i hi => by
            rw [List.getElem?_set_ne fun z => hi (by simp [z]), List.getElem?_set_ne fun z => hi (by simp [z])]
      · cases e
    | non => cases e
    | bl _ => cases e
    | int _ => cases e
    | str _ => cases e
    | lst _ => cases e
    | fn _ _ => cases e
    | obj _ _ _ => cases e
theorem for_walk {js : List Nat} {bd : MB} {body : MC} {ds : List D} {J : It} {D : Ends} {B0 B1 Hs0 : Hp} {o : Out} (w : Walk Γ Hs0 J ds) (q : EQ Γ W B0 B1 Hs0 D o) {σ : L2.St} {H : Hp} {ρ : MEnv} (re : RE Γ B0 B1 Hs0 H σ ρ) (e : forD bd body ds ρ = some o) :
    ∃ Wv : Nat → Nat → L2.St → Hp → Prop, (∃ m, Wv 0 m σ H) ∧ ∀ i m σ H, Wv i m σ H →
      (J.stop i H ∧ D.nx σ H) ∨ (J.go i H ∧ ∃ N : L2.St → Hp → Prop, (∀ σ' H', N σ' H' → ∃ m', m' < m ∧ Wv (i + 1) m' σ' H') ∧ ∀ x H', J.yld i H x H' → tB3 Γ js bd x σ H' fun σ2 H2 => tS Γ W body { D with nx := N, ct := N, bk := D.nx } σ2 H2) := by
  refine ⟨fun i m σ H => m = ds.length - i ∧ i ≤ ds.length ∧ ∃ Hs ρ, Same Hs0 Hs ∧ RE Γ B0 B1 Hs H σ ρ ∧ forD bd body (ds.drop i) ρ = some o, ⟨_, rfl, Nat.zero_le _, Hs0, ρ, .refl _, re, e⟩, ?_⟩
  rintro i m σ H ⟨rfl, hi, Hs, ρ, sm, re, e⟩
  by_cases hlt : i < ds.length
  · refine .inr ⟨w.go i Hs H hlt sm re.b.i, fun σ' H' => ∃ Hs' ρ', Same Hs0 Hs' ∧ RE Γ B0 B1 Hs' H' σ' ρ' ∧ forD bd body (ds.drop (i + 1)) ρ' = some o, fun σ' H' ⟨Hs', ρ', s', r', e'⟩ => ⟨_, by omega, rfl, hlt, Hs', ρ', s', r', e'⟩, fun x H' y => ?_⟩
    obtain ⟨d, Hs', ed, g', rp⟩ := w.yld i Hs H x H' hlt sm re.b.i y
    have hd : ds.drop i = d :: ds.drop (i + 1) := by
      rw [List.drop_eq_getElem_cons hlt]
      congr 1
      rw [List.getElem?_eq_getElem hlt] at ed
      exact Option.some.inj ed
    rw [hd] at e
    unfold forD at e
    cases h : bd d ρ with
    | none => rw [h] at e; cases e
    | some ρ1 =>
      rw [h] at e
      dsimp only at e
      refine ⟨B0, B1, Hs', ρ, d, ρ1, re.grow g', rp, h, fun σ2 re2 _ => ?_⟩
      cases hb : body ρ1 with
      | none => rw [hb] at e; cases e
      | some u =>
        rw [hb] at e
        refine ⟨B0, B1, Hs', ρ1, u, re2, hb, ?_⟩
        have s1 : Same Hs0 Hs' := sm.trans g'.s
        cases u with
        | next ρ2 => exact fun σ' Hs2 H2 s2 re3 => ⟨Hs2, ρ2, s1.trans s2, re3, e⟩
        | cont ρ2 => exact fun σ' Hs2 H2 s2 re3 => ⟨Hs2, ρ2, s1.trans s2, re3, e⟩
        | brk ρ2 => cases e; exact fun σ' Hs2 H2 s2 re3 => q σ' Hs2 H2 (s1.trans s2) re3
        | ret s => cases e; exact fun v Hs2 H2 s2 => q v Hs2 H2 (s1.trans s2)
        | exc x => cases e; exact fun Hs2 H2 s2 => q Hs2 H2 (s1.trans s2)
  · have ei : i = ds.length := by omega
    subst ei
    rw [List.drop_length] at e
    cases e
    exact .inl ⟨w.stop Hs H sm re.b.i, q σ Hs H sm re⟩
theorem a3p {tg iter : Expr} {gi : MI} {js : List Nat} {bd : MB} {body : List Stmt} (hp : PassesOwn (model X.prog X.w) X.A X.env X.xe) (hc : X.calm = true) (hi : PID X Γ W tg iter gi) (hg : PBD X Γ tg js bd) (hb : PSsD X Γ W body g)
    (hs : ∀ x, foldedSetIterable iter X.env x = pure x := by intro _; rfl) : PSD X Γ W (.For tg iter body [] pos) (sFor gi bd g) := PS.imp (ps_for hp hc hi hg hb hs) fun pins s σ H D I ⟨B0, B1, Hs, ρ, o, re, e, q⟩ => by
  unfold sFor at e
  cases h : gi ρ with
  | none => rw [h] at e; cases e
  | some r =>
    rw [h] at e
    refine ⟨B0, B1, Hs, ρ, r, re, h, ?_⟩
    cases r with
    | exc x => cases e; exact fun Hs' H' g' => q Hs' H' g'.s (re.b.trans g')
    | ok ds => exact fun J Hs' H' g' w => for_walk w (q.from g'.s) (re.grow g') e
theorem a6H {Hs0 : Hp} {a : Addr} {xs : List V} {ds : List D} {K : PySem.W.Frag} (h : SqL K Hs0 a xs) (r : RepL Γ Hs0 ds xs) : Walk Γ Hs0 (Itl K a) ds where
  go := fun i Hs H hi s1 s2 => ⟨xs, xs[i]'(by rw [← r.length]; exact hi), Same.seq (s1.trans s2) h, by rw [List.getElem?_eq_getElem]⟩
  stop := fun Hs H s1 s2 => ⟨xs, Same.seq (s1.trans s2) h, Nat.le_of_eq r.length.symm⟩
  yld := fun i Hs H x H' hi s1 s2 ⟨e, y⟩ => by
    subst e
    obtain ⟨z, e1, q⟩ := r.get (List.getElem?_eq_getElem hi)
    have e2 := y xs (Same.seq (s1.trans s2) h)
    rw [e1] at e2
    cases e2
    exact ⟨_, Hs, List.getElem?_eq_getElem hi, .refl s2, q.mono s1⟩
theorem walk_tup {Hs0 : Hp} {a : Addr} {xs : List V} {ds : List D} {K : PySem.W.Frag} (h : SqT K Hs0 a xs) (r : RepL Γ Hs0 ds xs) : Walk Γ Hs0 (Itt K a) ds where
  go := fun i Hs H hi s1 s2 => ⟨xs, xs[i]'(by rw [← r.length]; exact hi), a0K (s1.trans s2) h, by rw [List.getElem?_eq_getElem]⟩
  stop := fun Hs H s1 s2 => ⟨xs, a0K (s1.trans s2) h, Nat.le_of_eq r.length.symm⟩
  yld := fun i Hs H x H' hi s1 s2 ⟨e, y⟩ => by
    subst e
    obtain ⟨z, e1, q⟩ := r.get (List.getElem?_eq_getElem hi)
    have e2 := y xs (a0K (s1.trans s2) h)
    rw [e1] at e2
    cases e2
    exact ⟨_, Hs, List.getElem?_eq_getElem hi, .refl s2, q.mono s1⟩
theorem walk_rng {Hs0 : Hp} (lo hi : Int) : Walk Γ Hs0 (Itr lo (hi - lo).toNat) (rng lo hi) where
  go := fun i Hs H h s1 s2 => by
    unfold rng at h
    rw [List.length_map, List.length_range] at h
    exact h
  stop := fun Hs H s1 s2 => by
    unfold rng
    rw [List.length_map, List.length_range]
    exact Nat.le_refl _
  yld := fun i Hs H x H' h s1 s2 ⟨e, y⟩ => by
    subst e y
    unfold rng at h ⊢
    rw [List.length_map, List.length_range] at h
    exact ⟨.int (lo + i), Hs, by rw [List.getElem?_map, List.getElem?_range h]; rfl, .refl s2, a0k.mpr rfl⟩
end
end L3
namespace L3
open PySem PySem.Spec PyProof.Rows L2
theorem a4q (js : List Nat) : ∀ ρ : MEnv, (a0H js ρ).length = ρ.length := by
  induction js with
  | nil => intro ρ; rfl
  | cons j js ih => intro ρ; show (a0H js (ρ.set j none)).length = _; rw [ih, List.length_set]
theorem a3a (js : List Nat) : ∀ (ρ : MEnv) (i : Nat) (v : S), (a0H js ρ)[i]? = some (some v) → i ∉ js ∧ ρ[i]? = some (some v) := by
  induction js with
  | nil => intro ρ i v h; exact ⟨by simp, h⟩
  | cons j js ih =>
    intro ρ i v h
    obtain ⟨h1, h2⟩ := ih (ρ.set j none) i v h
    by_cases hj : j = i
    · subst hj
      by_cases hl : j < ρ.length
      · rw [List.getElem?_set_self hl] at h2; cases h2
      · rw [List.getElem?_eq_none (by rw [List.length_set]; omega)] at h2; cases h2
    · rw [List.getElem?_set_ne hj] at h2
      exact ⟨by simp [h1, Ne.symm hj], h2⟩
theorem a5C (js : List Nat) : ∀ (σ : L2.St) (i : Nat), i ∉ js → (a1V js σ)[i]? = σ[i]? := by
  induction js with
  | nil => intro σ i _; rfl
  | cons j js ih =>
    intro σ i h
    have h' : i ≠ j ∧ i ∉ js := by simpa using h
    show (a1V js (σ.set j none))[i]? = _
    rw [ih _ _ h'.2, List.getElem?_set_ne (Ne.symm h'.1)]
section
variable {Γ : Ct} {B0 B1 Hs H : Hp} {σ σ' : L2.St} {ρ ρ' : MEnv}
theorem RE.sub (r : RE Γ B0 B1 Hs H σ ρ) (hl : ρ'.length = σ'.length) (h : ∀ (i : Nat) (s : S), ρ'[i]? = some (some s) → ρ[i]? = some (some s) ∧ σ'[i]? = σ[i]?) : RE Γ B0 B1 Hs H σ' ρ' where
  tb := r.tb
  b := r.b
  sh := fun i d e => by
    obtain ⟨e1, e2⟩ := h i _ e
    obtain ⟨v, e3, q⟩ := r.sh i d e1
    exact ⟨v, e2.trans e3, q⟩
  own := fun i o e => by
    obtain ⟨e1, e2⟩ := h i _ e
    obtain ⟨a, ho, e3, f1, f2, f3, q⟩ := r.own i o e1
    exact ⟨a, ho, e2.trans e3, f1, f2, f3, q⟩
  apart := fun i j o u a hij hi hj ha => by
    obtain ⟨e1, e2⟩ := h i _ hi
    obtain ⟨e3, e4⟩ := h j _ hj
    rw [e4]
    exact r.apart i j o u a hij e1 e3 (e2.symm.trans ha)
  len := hl
theorem RE.other (r : RE Γ B0 B1 Hs H σ ρ) {a : Addr} {ho : HO} (h1 : Hs a = none) (h2 : B1 a = none) (h3 : ∀ (i : Nat) (o : O), ρ[i]? = some (some (.own o)) → σ[i]? ≠ some (some (.ref a))) : RE Γ B0 B1 Hs (upd H a ho) σ ρ where
  tb := r.tb
  b := ⟨r.b.s, fun b u z => by rw [upd_ne (ne_of_none z h2)]; exact r.b.h _ _ z, fun b u z => by rw [upd_ne (ne_of_none z h1)]; exact r.b.i _ _ z, r.b.n⟩
  sh := r.sh
  own := fun i o e => by
    obtain ⟨c, hc, f1, f2, f3, f4, f5⟩ := r.own i o e
    refine ⟨c, hc, f1, f2, f3, ?_, f5⟩
    rw [upd_ne]
    · exact f4
    · intro z
      subst z
      exact h3 i o e f1
  apart := r.apart
  len := r.len
end
theorem Grow.other {Hs H Hs' H' : Hp} {a : Addr} {ho : HO} (g : Grow Hs H Hs' H') (h0 : H a = none) (h1 : Hs' a = none) : Grow Hs H Hs' (upd H' a ho) :=
  ⟨g.s, fun b u z => by rw [upd_ne (ne_of_none z h0)]; exact g.h _ _ z, fun b u z => by rw [upd_ne (ne_of_none z h1)]; exact g.i _ _ z, g.n⟩
theorem Grow.none {Hs H Hs' H' : Hp} {a : Addr} {ho : HO} (g : Grow Hs H Hs' H') (h : Hs a = Option.none) (h' : H a = some ho) : Hs' a = Option.none := by
  cases z : Hs' a with
  | none => rfl
  | some u =>
    rcases g.n a u z with w | w
    · rw [h] at w; cases w
    · rw [h'] at w; cases w
def BdIn (js : List Nat) (bd : MB) : Prop := ∀ d ρ ρ', bd d ρ = some ρ' → ρ'.length = ρ.length ∧ ∀ i : Nat, i ∉ js → ρ'[i]? = ρ[i]?
theorem a1o (j : Nat) : BdIn [j] (a0Z j) := fun d ρ ρ' e => by
  cases e
  exact ⟨by rw [List.length_set], fun i hi => List.getElem?_set_ne fun z => hi (by simp [z])⟩
theorem a4J : ∀ (js : List Nat) (ds : List D) (ρ : MEnv), (a5R js ds ρ).length = ρ.length ∧ ∀ i : Nat, i ∉ js → (a5R js ds ρ)[i]? = ρ[i]?
  | [], _, _ => ⟨rfl, fun _ _ => rfl⟩
  | _ :: _, [], _ => ⟨rfl, fun _ _ => rfl⟩
  | j :: js, d :: ds, ρ => by
    obtain ⟨h1, h2⟩ := a4J js ds (ρ.set j (some (.sh d)))
    refine ⟨h1.trans List.length_set, fun i hi => ?_⟩
    have h' : i ≠ j ∧ i ∉ js := by simpa using hi
    exact (h2 i h'.2).trans (List.getElem?_set_ne (Ne.symm h'.1))
theorem a4A (js : List Nat) : BdIn js (bTup js) := fun d ρ ρ' e => by
  cases d with
  | tup ds =>
    unfold bTup at e
    dsimp only at e
    split at e
    · cases e; exact a4J js ds ρ
    · cases e
  | non => cases e
  | bl _ => cases e
  | int _ => cases e
  | str _ => cases e
  | lst _ => cases e
  | fn _ _ => cases e
  | obj _ _ _ => cases e
section
variable {Γ : Ct} {W : XW} {js : List Nat} {gi : MI} {bd : MB} {cond elt : ME}
theorem a6P {tt : TT} (ht : ∀ σ H Q, tT Γ W cond σ H Q → tt σ H Q) (hb : BdIn js bd) {σ : L2.St} {H : Hp} {Q : VK} (t : tD Γ W (a05 js gi bd cond elt) σ H Q) :
    tComp js (tI Γ W gi) (tB3 Γ js bd) tt (tD Γ W elt) σ H Q := by
  obtain ⟨B0, B1, Hs, ρ, r, re, e, q⟩ := t
  unfold a05 at e
  cases h : gi ρ with
  | none => rw [h] at e; cases e
  | some x =>
    rw [h] at e
    refine ⟨B0, B1, Hs, ρ, x, re, h, ?_⟩
    cases x with
    | exc y => cases e; exact q
    | ok ds =>
      intro J Hs1 H1 g1 w a ha
      dsimp only at e
      have hlim : ds.length ≤ lim := by
        by_cases z : ds.length ≤ lim
        · exact z
        · rw [if_neg z] at e; cases e
      rw [if_pos hlim] at e
      have hs1 : Hs1 a = none := g1.i.free ha
      have h0 : H a = none := g1.h.free ha
      have hb1 : B1 a = none := re.b.h.free h0
      have re1 : RE Γ B0 B1 Hs1 H1 (a1V js σ) (a0H js ρ) := (re.grow g1).sub (by rw [a4q, a2H, re.len]) fun i s z => by
        obtain ⟨z1, z2⟩ := a3a js ρ i s z
        exact ⟨z2, a5C js σ i z1⟩
      have ap1 : ∀ (i : Nat) (o : O), (a0H js ρ)[i]? = some (some (.own o)) → (a1V js σ)[i]? ≠ some (some (.ref a)) := fun i o z z' => by
        obtain ⟨c, hc, f1, _, _, f4, _⟩ := re1.own i o z
        rw [z'] at f1
        cases f1
        rw [ha] at f4
        cases f4
      refine ⟨fun i m σ2 ys H2 => m = ds.length - i ∧ i ≤ ds.length ∧ ∃ Hs2 acc, Same Hs1 Hs2 ∧ Grow Hs H Hs2 H2 ∧ RE Γ B0 B1 Hs2 H2 σ2 (a0H js ρ) ∧ Hs2 a = none ∧
        (∀ (i : Nat) (o : O), (a0H js ρ)[i]? = some (some (.own o)) → σ2[i]? ≠ some (some (.ref a))) ∧ H2 a = some (.lst ys) ∧ RepL Γ Hs2 acc ys ∧ a2i bd cond elt (a0H js ρ) (ds.drop i) acc = some r ∧ acc.length ≤ i, ⟨_, rfl, Nat.zero_le _, Hs1, [], .refl _, g1.other h0 hs1, re1.other hs1 hb1 ap1, hs1, ap1, upd_same, .nil, e, Nat.zero_le _⟩, ?_⟩
      rintro i m σ2 ys H2 ⟨rfl, hi, Hs2, acc, sm, g2, re2, ha2, ap, hy, rl, ec, hacc⟩
      refine ⟨hy, ?_⟩
      by_cases hlt : i < ds.length
      · refine .inr ⟨w.go i Hs2 H2 hlt sm re2.b.i, fun x H3 y => ?_⟩
        obtain ⟨d, Hs3, ed, g3, rp⟩ := w.yld i Hs2 H2 x H3 hlt sm re2.b.i y
        have hd : ds.drop i = d :: ds.drop (i + 1) := by
          rw [List.drop_eq_getElem_cons hlt]
          congr 1
          rw [List.getElem?_eq_getElem hlt] at ed
          exact Option.some.inj ed
        rw [hd] at ec
        unfold a2i at ec
        cases hbd : bd d (a0H js ρ) with
        | none => rw [hbd] at ec; cases ec
        | some ρ1 =>
          rw [hbd] at ec
          dsimp only at ec
          obtain ⟨bl, bo⟩ := hb d _ ρ1 hbd
          refine ⟨B0, B1, Hs3, a0H js ρ, d, ρ1, re2.grow g3, rp, hbd, fun σ4 re4 hσ => ?_⟩
          have low : ∀ {Hs5 H5 : Hp}, RE Γ B0 B1 Hs5 H5 σ4 ρ1 → RE Γ B0 B1 Hs5 H5 σ4 (a0H js ρ) := fun r5 => r5.sub (by rw [← bl, r5.len]) fun k s z => by
            obtain ⟨z1, _⟩ := a3a js ρ k s z
            exact ⟨(bo k z1).trans z, rfl⟩
          have ap4 : ∀ (k : Nat) (o : O), (a0H js ρ)[k]? = some (some (.own o)) → σ4[k]? ≠ some (some (.ref a)) := fun k o z => by
            obtain ⟨z1, _⟩ := a3a js ρ k _ z
            rw [hσ k z1]
            exact ap k o z
          have ha3 := g3.none ha2 hy
          have hy3 := g3.h _ _ hy
          refine ht _ _ _ ?_
          cases hcv : cond ρ1 with
          | none => rw [hcv] at ec; cases ec
          | some c =>
            rw [hcv] at ec
            refine ⟨B0, B1, Hs3, ρ1, c, re4, hcv, ?_⟩
            cases c with
            | exc x =>
              cases ec
              exact fun Hs' H' g' => q Hs' H' ((g2.trans g3).trans g')
            | ok s =>
              obtain ⟨b, eb, ec2⟩ := a21 (show asB s.val _ = some r from ec)
              refine ⟨b, eb, fun Hs5 H5 g5 => ?_⟩
              have ha5 := g5.none ha3 hy3
              have hy5 := g5.h _ _ hy3
              have re5 := re4.grow g5
              cases b with
              | false =>
                rw [if_neg Bool.false_ne_true] at ec2
                refine iteF ?_
                exact ⟨_, by omega, rfl, hlt, Hs5, acc, (sm.trans g3.s).trans g5.s, (g2.trans g3).trans g5, low re5, ha5, ap4, hy5, rl.mono (g3.s.trans g5.s), ec2, by omega⟩
              | true =>
                rw [if_pos rfl] at ec2
                refine iteT ?_
                refine (a1p (k := fun x => a2i bd cond elt (a0H js ρ) (ds.drop (i + 1)) (acc ++ [x])) re5 ec2 ((q.grow (g2.trans g3)).grow g5)).mono fun v H6 ⟨Hs6, z, g6, re6, rp6, ec6, q6⟩ => ?_
                have ha6 := g6.none ha5 hy5
                have hy6 := g6.h _ _ hy5
                have hlen : acc.length = ys.length := rl.length
                have hbig : ys.length < sizeLine := Nat.lt_of_lt_of_le (by omega : ys.length < lim) (by decide)
                refine ⟨hy6, hbig, _, by omega, rfl, hlt, Hs6, acc ++ [z], ((sm.trans g3.s).trans g5.s).trans g6.s, (((g2.trans g3).trans g5).trans g6).other h0 ha6, (low re6).other ha6 hb1 ap4, ha6, ap4, upd_same, (rl.mono ((g3.s.trans g5.s).trans g6.s)).append (.cons rp6 .nil), ec6, by rw [List.length_append, List.length_singleton]; omega⟩
      · have ei : i = ds.length := by omega
        subst ei
        rw [List.drop_length] at ec
        unfold a2i at ec
        split at ec
        · cases ec
          exact .inl ⟨w.stop Hs2 H2 sm re2.b.i, q _ Hs2 H2 g2 ⟨a, _, rfl, h0, ha2, hy, ys, rfl, rl⟩⟩
        · cases ec
end
section
variable {X : Cx} {Γ : Ct} {W : XW} {scope : Scope} {vars : List Str} {js : List Nat} {elt tg iter c : Expr} {pos : Pos} {gi : MI} {bd : MB} {cond ge : ME}
theorem tT_true {σ : L2.St} {H : Hp} {Q : Bool → Hp → Prop} (t : tT Γ W a1X σ H Q) : tTrue σ H Q := by
  obtain ⟨B0, B1, Hs, ρ, r, re, e, q⟩ := t
  cases e
  obtain ⟨b, eb, q⟩ := q
  cases eb
  exact q Hs H (.refl re.b.i)
theorem a2e (hb : BdIn js bd) (hc : a1m scope X.env.scope vars = true) (hj : a24 X.N vars js = true) (hcalm : X.calm = true) (hi : PID X Γ W tg iter gi)
    (hg : ∀ fp s H a, PBD (a1y X scope fp s H a) Γ tg js bd) (he : ∀ fp s H a, PD (a1y X scope fp s H a) Γ W elt ge) (hs : ∀ x, foldedSetIterable iter X.env x = pure x := by intro _; rfl) :
    PD X Γ W (.ListComp elt [⟨tg, iter, [], 0⟩] scope pos) (a05 js gi bd a1X ge) :=
  PE.imp (pe_comp hc hj hcalm hi hg (fun _ _ _ _ => pif_nil) he hs) fun _ _ _ _ _ _ t => a6P (fun _ _ _ z => tT_true z) hb t
variable {i : Nat} {x : Str} {pos' spos : Pos}
theorem a5n {st : Stmt} {t : TE} {ge : ME} (h : PS X st (tAsg t (gName i))) (ht : ∀ σ H Q, tD Γ W ge σ H Q → t σ H Q) (hi : i < X.N.length) : PSD X Γ W st (sSet i ge) := PS.imp h fun pins s σ H D I ⟨B0, B1, Hs, ρ, o, re, e, q⟩ => by
  refine ht _ _ _ ((tD_O re e q).mono fun v H1 ⟨Hs1, s, g1, rs, e1⟩ => ?_)
  cases e1
  exact q _ Hs1 H1 g1.s (re.setS g1 (by rw [I.len]; exact hi) rs)
theorem a27 (hN : X.N.Nodup) (hi' : X.N[i]? = some x) (hx : Loc X.env.scope x) (hb : BdIn js bd) (hc : a1m scope X.env.scope vars = true) (hj : a24 X.N vars js = true) (hcalm : X.calm = true) (hi : PID X Γ W tg iter gi)
    (hg : ∀ fp s H a, PBD (a1y X scope fp s H a) Γ tg js bd) (ht : ∀ fp s H a, PTD (a1y X scope fp s H a) Γ W c cond) (he : ∀ fp s H a, PD (a1y X scope fp s H a) Γ W elt ge)
    (hsw : swapsWith (.ListComp elt [⟨tg, iter, [c], 0⟩] scope pos) (some (.Name x pos')) spos.line X.env = pure true := by rfl) (hs : ∀ x, foldedSetIterable iter X.env x = pure x := by intro _; rfl)
    (hf : X.fn x = true ∨ X.env.scope.names.lookup x = some .local := by first | exact .inl rfl | exact .inr rfl | assumption) :
    PSD X Γ W (.Assign [.Name x pos'] (.ListComp elt [⟨tg, iter, [c], 0⟩] scope pos) spos) (sSet i (a05 js gi bd cond ge)) :=
  a5n (a6d hN hi' hx hc hj hcalm hi hg (fun fp s H a => pif_one (ht fp s H a)) he hsw hs hf) (fun _ _ _ t => a6P (fun _ _ _ z => z) hb t) (List.getElem?_eq_some_iff.mp hi').1
theorem a3q {l : Expr} {g : ME} (hK : X.K = Γ.K) (h : PD X Γ W l g) : PID X Γ W tg l (iSeq g) := PI.imp (pi_seq h) fun _ _ σ H Q _ ⟨B0, B1, Hs, ρ, r, re, e, q⟩ => by
  unfold iSeq at e
  cases hg : g ρ with
  | none => rw [hg] at e; cases e
  | some y =>
    rw [hg] at e
    cases y with
    | exc z =>
      cases e
      exact ⟨B0, B1, Hs, ρ, _, re, hg, q⟩
    | ok s =>
      refine ⟨B0, B1, Hs, ρ, .ok s, re, hg, fun v Hs' H' g' rs => ?_⟩
      obtain ⟨Hs2, g2, _, rp⟩ := rs.share g'
      dsimp only at e
      cases hv : s.val with
      | lst ds =>
        rw [hv] at e rp
        cases e
        obtain ⟨a, xs, rfl, rd, rl⟩ := a0M.mp rp
        rw [← hK] at rd
        exact ⟨a, rfl, .inl ⟨⟨xs, Same.seq g2.i rd⟩, q _ Hs2 H' g2 (a6H rd rl)⟩⟩
      | tup ds =>
        rw [hv] at e rp
        cases e
        obtain ⟨a, xs, rfl, sq, rl⟩ := a0G.mp rp
        rw [← hK] at sq
        exact ⟨a, rfl, .inr ⟨⟨xs, a0K g2.i sq⟩, q _ Hs2 H' g2 (walk_tup sq rl)⟩⟩
      | non => rw [hv] at e; cases e
      | bl _ => rw [hv] at e; cases e
      | int _ => rw [hv] at e; cases e
      | str _ => rw [hv] at e; cases e
      | fn _ _ => rw [hv] at e; cases e
      | obj _ _ _ => rw [hv] at e; cases e
theorem tD_I {B0 B1 Hs H : Hp} {σ : L2.St} {ρ : MEnv} {g : ME} {k : D → Option RI} {r : RI} {Q : It → Hp → Prop} (re : RE Γ B0 B1 Hs H σ ρ) (e : iArg g ρ k = some r) (q : IQ Γ W Hs H r Q) :
    tD Γ W g σ H (fun v H1 => ∃ Hs1 d, Grow Hs H Hs1 H1 ∧ RE Γ B0 B1 Hs1 H1 σ ρ ∧ Rep Γ Hs1 d v ∧ k d = some r ∧ IQ Γ W Hs1 H1 r Q) := by
  unfold iArg at e
  cases h : g ρ with
  | none => rw [h] at e; cases e
  | some x =>
    rw [h] at e
    refine ⟨B0, B1, Hs, ρ, x, re, h, ?_⟩
    cases x with
    | exc y => cases e; exact q
    | ok s =>
      intro v Hs' H' g' rs
      obtain ⟨Hs'', g2, _, rp⟩ := rs.share g'
      refine ⟨Hs'', s.val, g2, re.grow g2, rp, e, ?_⟩
      cases r with
      | ok ds => exact fun J Hs3 H3 g3 w => q J Hs3 H3 (g2.trans g3) w
      | exc y => exact fun Hs3 H3 g3 => q Hs3 H3 (g2.trans g3)
theorem a2S {i : Int} (h : a2T i = true) : -(2 ^ 62) ≤ i ∧ i < 2 ^ 62 := by
  unfold a2T at h
  simpa using h
theorem a0X {a : Expr} {g : ME} {p p' : Pos} (hg : Gl X "range") (hm : X.mg "range" = none) (h : PD X Γ W a g) (hst : starEach (a :: []) X.env = (false, eval a X.env) :: starEach [] X.env := by rfl) (hs : starEach [a] X.env = [(false, eval a X.env)] := by rfl) :
    PID X Γ W tg (.Call (.Name "range" p) [a] [] p') (a0E g) := PI.imp (pi_range1 hg hm (pa_cons h pa_nil hst) hs) fun _ _ σ H Q _ ⟨B0, B1, Hs, ρ, r, re, e, q⟩ => by
  refine (tD_I re e q).mono fun v H1 ⟨Hs1, d, g1, re1, rp, e1, q1⟩ => ?_
  cases d with
  | int hi =>
    dsimp only at e1
    split at e1
    · rename_i hr
      cases e1
      obtain ⟨h1, h2⟩ := a2S hr
      refine ⟨hi, by rw [a0k.mp rp], h1, h2, q1 _ Hs1 H1 (.refl re1.b.i) ?_⟩
      have w := walk_rng (Γ := Γ) (Hs0 := Hs1) 0 hi
      rw [Int.sub_zero] at w
      exact w
    · cases e1
  | non => cases e1
  | bl _ => cases e1
  | str _ => cases e1
  | tup _ => cases e1
  | lst _ => cases e1
  | fn _ _ => cases e1
  | obj _ _ _ => cases e1
end
end L3
namespace L3
open PySem PySem.Spec PyProof.Rows L2
section
variable {X : Cx} {Γ : Ct} {W : XW}
theorem retS {Hs H : Hp} {Q : VK} {d : D} (sm : Same Hs H) (q : RQ Γ W Hs H (.ok (.sh d)) Q) {v : V} (rp : Rep Γ Hs d v) : Q v H := q v Hs H (.refl sm) rp
theorem a5i {Hs H : Hp} {Q : VK} {ds : List D} {xs : List V} (sm : Same Hs H) (q : RQ Γ W Hs H (.ok (.sh (.tup ds))) Q) (rl : RepL Γ Hs ds xs) {p : Addr} (hp : H p = none) : Q (.ref p) (upd H p (.tup xs)) :=
  q _ (upd Hs p (.tup xs)) _ (.new sm hp) (RepS.of (a0G.mpr ⟨p, xs, rfl, .of upd_same, rl.mono (a0Q (sm.free hp))⟩))
theorem a37 {Hs H : Hp} {Q : VK} {ds : List D} {xs : List V} (sm : Same Hs H) (q : RQ Γ W Hs H (.ok (.own (.lst ds))) Q) (rl : RepL Γ Hs ds xs) {p : Addr} (hp : H p = none) : Q (.ref p) (upd H p (.lst xs)) :=
  q _ Hs _ (.newOwn sm hp) ⟨p, _, rfl, hp, sm.free hp, upd_same, xs, rfl, rl⟩
theorem a3W {n : Nat} (h : n ≤ lim) : n ≤ sizeLine := Nat.le_trans h (by decide)
theorem a1D {α : Type} {c : Prop} [Decidable c] {a r : α} (h : (if c then some a else none) = some r) : c ∧ a = r := by
  by_cases z : c
  · rw [if_pos z] at h; exact ⟨z, Option.some.inj h⟩
  · rw [if_neg z] at h; cases h
theorem a0n (hK : X.K = Γ.K) : OpR X (binaryOp .Add) (rD Γ W dAdd) := fun pins s σ H x y v u Q I rx ry ⟨Hs, d1, d2, r, sm, r1, r2, e, q⟩ => by
  cases d1 with
  | int i =>
    cases d2 with
    | int j => cases e; exact op_add pins s σ H x y v u Q I rx ry ⟨i, j, a0k.mp r1, a0k.mp r2, retS sm q (a0k.mpr rfl)⟩
    | non => cases e
    | bl _ => cases e
    | str _ => cases e
    | tup _ => cases e
    | lst _ => cases e
    | fn _ _ => cases e
    | obj _ _ _ => cases e
  | str i =>
    cases d2 with
    | str j =>
      obtain ⟨hl, rfl⟩ := a1D (c := i.length + j.length ≤ lim) e
      exact op_add_str pins s σ H x y v u Q I rx ry ⟨i, j, a0D.mp r1, a0D.mp r2, a3W hl, retS sm q (a0D.mpr rfl)⟩
    | non => cases e
    | bl _ => cases e
    | int _ => cases e
    | tup _ => cases e
    | lst _ => cases e
    | fn _ _ => cases e
    | obj _ _ _ => cases e
  | tup ds =>
    cases d2 with
    | tup es =>
      obtain ⟨hl, rfl⟩ := a1D (c := ds.length + es.length ≤ lim) e
      obtain ⟨a, xs, rfl, qa, la⟩ := a0G.mp r1
      obtain ⟨b, ys, rfl, qb, lb⟩ := a0G.mp r2
      have qa' : SqT X.K H a xs := by rw [hK]; exact a0K sm qa
      have qb' : SqT X.K H b ys := by rw [hK]; exact a0K sm qb
      by_cases h0 : xs = []
      · subst h0
        have e0 : ds = [] := List.length_eq_zero_iff.mp la.length
        subst e0
        exact op_catT0 pins s σ H _ _ v u Q I rx ry ⟨a, b, ys, rfl, rfl, qa', qb', retS sm q (a0G.mpr ⟨b, ys, rfl, qb, lb⟩)⟩
      · refine op_catT pins s σ H _ _ v u Q I rx ry ⟨a, b, xs, ys, rfl, rfl, qa', qb', h0, by rw [← la.length, ← lb.length]; exact a3W hl, fun z => ?_, fun z p hp => a5i sm q (la.append lb) hp⟩
        subst z
        have e0 : es = [] := List.length_eq_zero_iff.mp lb.length
        subst e0
        rw [List.append_nil] at q
        exact retS sm q (a0G.mpr ⟨a, xs, rfl, qa, la⟩)
    | non => cases e
    | bl _ => cases e
    | int _ => cases e
    | str _ => cases e
    | lst _ => cases e
    | fn _ _ => cases e
    | obj _ _ _ => cases e
  | lst ds =>
    cases d2 with
    | lst es =>
      obtain ⟨hl, rfl⟩ := a1D (c := ds.length + es.length ≤ lim) e
      obtain ⟨a, xs, rfl, qa, la⟩ := a0M.mp r1
      obtain ⟨b, ys, rfl, qb, lb⟩ := a0M.mp r2
      exact op_catR pins s σ H _ _ v u Q I rx ry ⟨a, b, xs, ys, rfl, rfl, by rw [hK]; exact Same.seq sm qa, by rw [hK]; exact Same.seq sm qb, by rw [← la.length, ← lb.length]; exact a3W hl, fun p hp => a37 sm q (la.append lb) hp⟩
    | non => cases e
    | bl _ => cases e
    | int _ => cases e
    | str _ => cases e
    | tup _ => cases e
    | fn _ _ => cases e
    | obj _ _ _ => cases e
  | non => cases e
  | bl _ => cases e
  | fn _ _ => cases e
  | obj _ _ _ => cases e
theorem a2A {f : Int → Int → Option R} {g : D → D → Option R} (hg : ∀ d1 d2, g d1 d2 = match d1, d2 with | .int i, .int j => f i j | _, _ => none) {d1 d2 : D} {r : R} (e : g d1 d2 = some r) : ∃ i j, d1 = .int i ∧ d2 = .int j ∧ f i j = some r := by
  rw [hg] at e
  cases d1 with
  | int i =>
    cases d2 with
    | int j => exact ⟨i, j, rfl, rfl, e⟩
    | non => cases e
    | bl _ => cases e
    | str _ => cases e
    | tup _ => cases e
    | lst _ => cases e
    | fn _ _ => cases e
    | obj _ _ _ => cases e
  | non => cases e
  | bl _ => cases e
  | str _ => cases e
  | tup _ => cases e
  | lst _ => cases e
  | fn _ _ => cases e
  | obj _ _ _ => cases e
theorem a3r : OpR X (binaryOp .Sub) (rD Γ W dSub) := fun pins s σ H x y v u Q I rx ry ⟨Hs, d1, d2, r, sm, r1, r2, e, q⟩ => by
  obtain ⟨i, j, rfl, rfl, e⟩ := a2A (f := fun i j => okI (i - j)) (fun _ _ => rfl) e
  cases e
  exact op_sub pins s σ H x y v u Q I rx ry ⟨i, j, a0k.mp r1, a0k.mp r2, retS sm q (a0k.mpr rfl)⟩
theorem a4H {i : Int} (h : a2E i = true) : -(2 ^ 64) < i ∧ i < 2 ^ 64 := by
  unfold a2E at h
  simpa using h
theorem a4e : OpR X (binaryOp .Mod) (rD Γ W dMod) := fun pins s σ H x y v u Q I rx ry ⟨Hs, d1, d2, r, sm, r1, r2, e, q⟩ => by
  obtain ⟨i, j, rfl, rfl, e⟩ := a2A (f := fun i j => if 0 < j then okI (i % j) else none) (fun _ _ => rfl) e
  obtain ⟨h, rfl⟩ := a1D e
  exact op_mod pins s σ H x y v u Q I rx ry ⟨i, j, a0k.mp r1, a0k.mp r2, h, retS sm q (a0k.mpr rfl)⟩
theorem opd_lt : OpR X (compareOp .Lt) (rD Γ W dLt) := fun pins s σ H x y v u Q I rx ry ⟨Hs, d1, d2, r, sm, r1, r2, e, q⟩ => by
  obtain ⟨i, j, rfl, rfl, e⟩ := a2A (f := fun i j => okB (decide (i < j))) (fun _ _ => rfl) e
  cases e
  exact op_lt pins s σ H x y v u Q I rx ry ⟨i, j, a0k.mp r1, a0k.mp r2, retS sm q (a0r.mpr rfl)⟩
theorem opd_le : OpR X (compareOp .LtE) (rD Γ W dLe) := fun pins s σ H x y v u Q I rx ry ⟨Hs, d1, d2, r, sm, r1, r2, e, q⟩ => by
  obtain ⟨i, j, rfl, rfl, e⟩ := a2A (f := fun i j => okB (decide (i ≤ j))) (fun _ _ => rfl) e
  cases e
  exact op_le pins s σ H x y v u Q I rx ry ⟨i, j, a0k.mp r1, a0k.mp r2, retS sm q (a0r.mpr rfl)⟩
theorem a3U : OpR X (compareOp .Gt) (rD Γ W dGt) := fun pins s σ H x y v u Q I rx ry ⟨Hs, d1, d2, r, sm, r1, r2, e, q⟩ => by
  obtain ⟨i, j, rfl, rfl, e⟩ := a2A (f := fun i j => okB (decide (j < i))) (fun _ _ => rfl) e
  cases e
  exact op_gt pins s σ H x y v u Q I rx ry ⟨i, j, a0k.mp r1, a0k.mp r2, retS sm q (a0r.mpr rfl)⟩
theorem a1N : OpR X (binaryOp .Mult) (rD Γ W dMul) := fun pins s σ H x y v u Q I rx ry ⟨Hs, d1, d2, r, sm, r1, r2, e, q⟩ => by
  cases d1 with
  | int i =>
    cases d2 with
    | int j =>
      obtain ⟨hl, rfl⟩ := a1D (c := (a2E i || a2E j) = true) e
      refine op_mul pins s σ H x y v u Q I rx ry ⟨i, j, a0k.mp r1, a0k.mp r2, ?_, retS sm q (a0k.mpr rfl)⟩
      rcases Bool.or_eq_true_iff.mp hl with h | h
      · exact .inl (a4H h)
      · exact .inr (a4H h)
    | non => cases e
    | bl _ => cases e
    | str _ => cases e
    | tup _ => cases e
    | lst _ => cases e
    | fn _ _ => cases e
    | obj _ _ _ => cases e
  | lst _ => cases e
  | non => cases e
  | bl _ => cases e
  | str _ => cases e
  | tup _ => cases e
  | fn _ _ => cases e
  | obj _ _ _ => cases e
theorem a50 {d1 d2 : D} {b : Bool} {x y : V} {H : Hp} (e : eqF d1 d2 = some b) (r1 : Rep Γ H d1 x) (r2 : Rep Γ H d2 y) : scal x y = true ∧ decide (x = y) = b := by
  cases d1 with
  | non =>
    rw [a00.mp r1]
    cases d2 with
    | non => rw [a00.mp r2]; cases e; exact ⟨rfl, rfl⟩
    | bl _ => rw [a0r.mp r2]; cases e; exact ⟨rfl, rfl⟩
    | int _ => rw [a0k.mp r2]; cases e; exact ⟨rfl, rfl⟩
    | str _ => rw [a0D.mp r2]; cases e; exact ⟨rfl, rfl⟩
    | tup _ => cases e
    | lst _ => cases e
    | fn _ _ => cases e
    | obj _ _ _ => cases e
  | bl c =>
    rw [a0r.mp r1]
    cases d2 with
    | non => rw [a00.mp r2]; cases e; exact ⟨rfl, rfl⟩
    | bl c' => rw [a0r.mp r2]; cases e; exact ⟨rfl, by rw [Bool.eq_iff_iff]; simp⟩
    | int _ => cases e
    | str _ => rw [a0D.mp r2]; cases e; exact ⟨rfl, rfl⟩
    | tup _ => cases e
    | lst _ => cases e
    | fn _ _ => cases e
    | obj _ _ _ => cases e
  | int c =>
    rw [a0k.mp r1]
    cases d2 with
    | non => rw [a00.mp r2]; cases e; exact ⟨rfl, rfl⟩
    | bl _ => cases e
    | int c' => rw [a0k.mp r2]; cases e; exact ⟨rfl, by rw [Bool.eq_iff_iff]; simp⟩
    | str _ => rw [a0D.mp r2]; cases e; exact ⟨rfl, rfl⟩
    | tup _ => cases e
    | lst _ => cases e
    | fn _ _ => cases e
    | obj _ _ _ => cases e
  | str c =>
    rw [a0D.mp r1]
    cases d2 with
    | non => rw [a00.mp r2]; cases e; exact ⟨rfl, rfl⟩
    | bl _ => rw [a0r.mp r2]; cases e; exact ⟨rfl, rfl⟩
    | int _ => rw [a0k.mp r2]; cases e; exact ⟨rfl, rfl⟩
    | str c' => rw [a0D.mp r2]; cases e; exact ⟨rfl, by rw [Bool.eq_iff_iff]; simp⟩
    | tup _ => cases e
    | lst _ => cases e
    | fn _ _ => cases e
    | obj _ _ _ => cases e
  | tup _ => cases e
  | lst _ => cases e
  | fn _ _ => cases e
  | obj _ _ _ => cases e
theorem a07 : OpR X (compareOp .Eq) (rD Γ W dEq) := fun pins s σ H x y v u Q I rx ry ⟨Hs, d1, d2, r, sm, r1, r2, e, q⟩ => by
  unfold dEq at e
  cases h : eqF d1 d2 with
  | none => rw [h] at e; cases e
  | some b =>
    rw [h] at e
    cases e
    obtain ⟨h1, h2⟩ := a50 h r1 r2
    exact op_eq pins s σ H x y v u Q I rx ry ⟨h1, by rw [h2]; exact retS sm q (a0r.mpr rfl)⟩
theorem a3s : OpR X (compareOp .NotEq) (rD Γ W dNe) := fun pins s σ H x y v u Q I rx ry ⟨Hs, d1, d2, r, sm, r1, r2, e, q⟩ => by
  unfold dNe at e
  cases h : eqF d1 d2 with
  | none => rw [h] at e; cases e
  | some b =>
    rw [h] at e
    cases e
    obtain ⟨h1, h2⟩ := a50 h r1 r2
    exact op_ne pins s σ H x y v u Q I rx ry ⟨h1, by rw [h2]; exact retS sm q (a0r.mpr rfl)⟩
theorem repL_map {α : Type} {H : Hp} {f : α → D} {g : α → V} (l : List α) (h : ∀ k, Rep Γ H (f k) (g k)) : RepL Γ H (l.map f) (l.map g) := by
  induction l with
  | nil => exact .nil
  | cons a l ih => exact .cons (h a) ih
theorem a7C {H : Hp} {ds : List D} {xs : List V} {i : Int} {d : D} (rl : RepL Γ H ds xs) (e : atD ds i = some d) : ∃ x, atI xs i = some x ∧ Rep Γ H d x := by
  unfold atD at e
  unfold atI
  have hl := rl.length
  have e0 : ixN xs.length i = ixD ds.length i := by rw [hl]; rfl
  rw [e0]
  cases h : ixD ds.length i with
  | none => rw [h] at e; cases e
  | some j =>
    rw [h] at e
    exact rl.get e
theorem ixd (hK : X.K = Γ.K) : IxR X (rD Γ W dIx) := fun value slice pins s σ H x y v u Q I rx ry ⟨Hs, d1, d2, r, sm, r1, r2, e, q⟩ hs => by
  cases d2 with
  | int i =>
    have ey := a0k.mp r2
    cases d1 with
    | tup ds =>
      have e : (atD ds i).bind okD = some r := e
      cases h : atD ds i with
      | none => rw [h] at e; cases e
      | some d =>
        rw [h] at e
        cases e
        obtain ⟨a, xs, rfl, qa, la⟩ := a0G.mp r1
        obtain ⟨z, ez, rz⟩ := a7C la h
        exact ix_tup value slice pins s σ H _ _ v u Q I rx ry ⟨a, xs, i, z, rfl, ey, by rw [hK]; exact a0K sm qa, ez, retS sm q rz⟩ hs
    | lst ds =>
      have e : (atD ds i).bind okD = some r := e
      cases h : atD ds i with
      | none => rw [h] at e; cases e
      | some d =>
        rw [h] at e
        cases e
        obtain ⟨a, xs, rfl, qa, la⟩ := a0M.mp r1
        obtain ⟨z, ez, rz⟩ := a7C la h
        exact ix_list value slice pins s σ H _ _ v u Q I rx ry ⟨a, xs, i, z, rfl, ey, by rw [hK]; exact Same.seq sm qa, ez, retS sm q rz⟩ hs
    | str z =>
      have e' : (if z.length ≤ lim then (atD z.cps.toList i).bind (fun c => okD (.str ⟨#[c]⟩)) else none) = some r := e
      by_cases hl : z.length ≤ lim
      · rw [if_pos hl] at e'
        cases h : atD z.cps.toList i with
        | none => rw [h] at e'; cases e'
        | some c =>
          rw [h] at e'
          cases e'
          exact ix_str value slice pins s σ H _ _ v u Q I rx ry ⟨z, i, c, a0D.mp r1, ey, a3W hl, h, retS sm q (a0D.mpr rfl)⟩ hs
      · rw [if_neg hl] at e'; cases e'
    | non => cases e
    | bl _ => cases e
    | int _ => cases e
    | fn _ _ => cases e
    | obj _ _ _ => cases e
  | non => cases d1 <;> cases e
  | bl _ => cases d1 <;> cases e
  | str _ => cases d1 <;> cases e
  | tup _ => cases d1 <;> cases e
  | lst _ => cases d1 <;> cases e
  | fn _ _ => cases d1 <;> cases e
  | obj _ _ _ => cases d1 <;> cases e
theorem a3y {F : D → Option R} {ds : List D} {r : R} (h : f1 F ds = some r) : ∃ d, ds = [d] ∧ F d = some r := by
  match ds, h with
  | [d], h => exact ⟨d, rfl, h⟩
theorem f2_some {F : D → D → Option R} {ds : List D} {r : R} (h : f2 F ds = some r) : ∃ d e, ds = [d, e] ∧ F d e = some r := by
  match ds, h with
  | [d, e], h => exact ⟨d, e, rfl, h⟩
theorem a5k {H : Hp} {d : D} {xs : List V} (h : RepL Γ H [d] xs) : ∃ x, xs = [x] ∧ Rep Γ H d x := by
  obtain ⟨x, r, e, q, t⟩ := a0t.mp h
  rw [a03.mp t] at e
  exact ⟨x, e, q⟩
theorem a0O (hK : X.K = Γ.K) : CallR X (.builtin "len") (spR Γ W (f1 dLen)) := fun pins s σ H xs us Q I rs ⟨Hs, ds, r, sm, rl, e, q, tb⟩ => by
  obtain ⟨d, rfl, e⟩ := a3y e
  obtain ⟨x, rfl, rp⟩ := a5k rl
  cases d with
  | tup ds =>
    cases e
    obtain ⟨a, ys, rfl, qa, la⟩ := a0G.mp rp
    exact call_len_seq pins s σ H _ us Q I rs ⟨a, ys, rfl, .inr (by rw [hK]; exact a0K sm qa), by rw [← la.length]; exact retS sm q (a0k.mpr rfl)⟩
  | lst ds =>
    cases e
    obtain ⟨a, ys, rfl, qa, la⟩ := a0M.mp rp
    exact call_len_seq pins s σ H _ us Q I rs ⟨a, ys, rfl, .inl (by rw [hK]; exact Same.seq sm qa), by rw [← la.length]; exact retS sm q (a0k.mpr rfl)⟩
  | str z =>
    obtain ⟨hl, rfl⟩ := a1D (c := z.length ≤ lim) e
    rw [a0D.mp rp] at rs
    exact call_len_str pins s σ H _ us Q I rs ⟨z, rfl, a3W hl, retS sm q (a0k.mpr rfl)⟩
  | non => cases e
  | bl _ => cases e
  | int _ => cases e
  | fn _ _ => cases e
  | obj _ _ _ => cases e
theorem a7r (hK : X.K = Γ.K) (hc : X.calm = true) : CallR X (.builtin "sum") (spR Γ W (f1 dSum)) := fun pins s σ H xs us Q I rs ⟨Hs, ds, r, sm, rl, e, q, tb⟩ => by
  obtain ⟨d, rfl, e⟩ := a3y e
  obtain ⟨x, rfl, rp⟩ := a5k rl
  cases d with
  | lst ds =>
    have e : (intsOf ds).bind (fun ns => okI ns.sum) = some r := e
    cases h : intsOf ds with
    | none => rw [h] at e; cases e
    | some ns =>
      rw [h] at e
      cases e
      obtain ⟨a, ys, rfl, qa, la⟩ := a0M.mp rp
      have ey := la.intsOf h
      subst ey
      exact a7u hc pins s σ H _ us Q I rs ⟨a, ns, rfl, by rw [hK]; exact Same.seq sm qa, retS sm q (a0k.mpr rfl)⟩
  | tup _ => cases e
  | str _ => cases e
  | non => cases e
  | bl _ => cases e
  | int _ => cases e
  | fn _ _ => cases e
  | obj _ _ _ => cases e
theorem a7s (hK : X.K = Γ.K) (hc : X.calm = true) : CallR X (.builtin "all") (spR Γ W (f1 dAll)) := fun pins s σ H xs us Q I rs ⟨Hs, ds, r, sm, rl, e, q, tb⟩ => by
  obtain ⟨d, rfl, e⟩ := a3y e
  obtain ⟨x, rfl, rp⟩ := a5k rl
  cases d with
  | lst ds =>
    have e : (blsOf ds).bind (fun bs => okB (bs.all id)) = some r := e
    cases h : blsOf ds with
    | none => rw [h] at e; cases e
    | some ns =>
      rw [h] at e
      cases e
      obtain ⟨a, ys, rfl, qa, la⟩ := a0M.mp rp
      have ey := la.blsOf h
      subst ey
      exact a7v hc pins s σ H _ us Q I rs ⟨a, ns, rfl, by rw [hK]; exact Same.seq sm qa, retS sm q (a0r.mpr rfl)⟩
  | tup _ => cases e
  | str _ => cases e
  | non => cases e
  | bl _ => cases e
  | int _ => cases e
  | fn _ _ => cases e
  | obj _ _ _ => cases e
theorem a2Y (hK : X.K = Γ.K) : CallR X (.type "tuple") (spR Γ W (f1 a2o)) := fun pins s σ H xs us Q I rs ⟨Hs, ds, r, sm, rl, e, q, tb⟩ => by
  obtain ⟨d, rfl, e⟩ := a3y e
  obtain ⟨x, rfl, rp⟩ := a5k rl
  cases d with
  | tup ds =>
    cases e
    obtain ⟨a, ys, rfl, qa, la⟩ := a0G.mp rp
    exact call_tuple_of pins s σ H _ us Q I rs ⟨a, ys, rfl, .inr ⟨by rw [hK]; exact a0K sm qa, retS sm q rp⟩⟩
  | lst ds =>
    cases e
    obtain ⟨a, ys, rfl, qa, la⟩ := a0M.mp rp
    exact call_tuple_of pins s σ H _ us Q I rs ⟨a, ys, rfl, .inl ⟨by rw [hK]; exact Same.seq sm qa, fun p hp => a5i sm q la hp⟩⟩
  | str _ => cases e
  | non => cases e
  | bl _ => cases e
  | int _ => cases e
  | fn _ _ => cases e
  | obj _ _ _ => cases e
theorem cd_list (hK : X.K = Γ.K) : CallR X (.type "list") (spR Γ W (f1 dList)) := fun pins s σ H xs us Q I rs ⟨Hs, ds, r, sm, rl, e, q, tb⟩ => by
  obtain ⟨d, rfl, e⟩ := a3y e
  obtain ⟨x, rfl, rp⟩ := a5k rl
  cases d with
  | tup ds =>
    cases e
    obtain ⟨a, ys, rfl, qa, la⟩ := a0G.mp rp
    exact call_list_of pins s σ H _ us Q I rs ⟨a, ys, rfl, .inr (by rw [hK]; exact a0K sm qa), fun p hp => a37 sm q la hp⟩
  | lst ds =>
    cases e
    obtain ⟨a, ys, rfl, qa, la⟩ := a0M.mp rp
    exact call_list_of pins s σ H _ us Q I rs ⟨a, ys, rfl, .inl (by rw [hK]; exact Same.seq sm qa), fun p hp => a37 sm q la hp⟩
  | str _ => cases e
  | non => cases e
  | bl _ => cases e
  | int _ => cases e
  | fn _ _ => cases e
  | obj _ _ _ => cases e
theorem pd_isN {a : Expr} {g : ME} {j pos pos'} (h : PD X Γ W a g) : PD X Γ W (.Compare a [.Is] [.Constant .none j pos'] pos) (eUn dIsN g) := PE.imp (pe_cmp (pc_isN h)) fun _ _ σ H Q _ ⟨B0, B1, Hs, ρ, r, re, e, q⟩ => by
  refine (a1p re e q).mono fun v H1 ⟨Hs1, d, g1, re1, rp, e1, q1⟩ => ?_
  cases d with
  | non => cases e1; rw [a00.mp rp]; exact q1 _ Hs1 H1 (.refl re1.b.i) (RepS.of (a0r.mpr rfl))
  | bl _ => cases e1; rw [a0r.mp rp]; exact q1 _ Hs1 H1 (.refl re1.b.i) (RepS.of (a0r.mpr rfl))
  | int _ => cases e1; rw [a0k.mp rp]; exact q1 _ Hs1 H1 (.refl re1.b.i) (RepS.of (a0r.mpr rfl))
  | str _ => cases e1; rw [a0D.mp rp]; exact q1 _ Hs1 H1 (.refl re1.b.i) (RepS.of (a0r.mpr rfl))
  | tup _ => cases e1; obtain ⟨a, _, rfl, _⟩ := a0G.mp rp; exact q1 _ Hs1 H1 (.refl re1.b.i) (RepS.of (a0r.mpr rfl))
  | lst _ => cases e1; obtain ⟨a, _, rfl, _⟩ := a0M.mp rp; exact q1 _ Hs1 H1 (.refl re1.b.i) (RepS.of (a0r.mpr rfl))
  | fn _ _ => cases e1; obtain ⟨a, _, rfl, _⟩ := a5T.mp rp; exact q1 _ Hs1 H1 (.refl re1.b.i) (RepS.of (a0r.mpr rfl))
  | obj _ _ _ => cases e1; obtain ⟨a, _, _, rfl, _⟩ := a5j.mp rp; exact q1 _ Hs1 H1 (.refl re1.b.i) (RepS.of (a0r.mpr rfl))
theorem ptd_isN {a : Expr} {g : ME} {j pos pos'} (h : PD X Γ W a g) : PTD X Γ W (.Compare a [.Is] [.Constant .none j pos'] pos) (eUn dIsN g) := PT.imp (pt_cmp (pc_isN h)) fun _ _ σ H Q _ t => by
  have t' := tT_of t
  obtain ⟨B0, B1, Hs, ρ, r, re, e, q⟩ := t'
  refine (a1p re e q).mono fun v H1 ⟨Hs1, d, g1, re1, rp, e1, q1⟩ => ?_
  cases d with
  | non => cases e1; rw [a00.mp rp]; exact q1 _ Hs1 H1 (.refl re1.b.i) (RepS.of (a0r.mpr rfl))
  | bl _ => cases e1; rw [a0r.mp rp]; exact q1 _ Hs1 H1 (.refl re1.b.i) (RepS.of (a0r.mpr rfl))
  | int _ => cases e1; rw [a0k.mp rp]; exact q1 _ Hs1 H1 (.refl re1.b.i) (RepS.of (a0r.mpr rfl))
  | str _ => cases e1; rw [a0D.mp rp]; exact q1 _ Hs1 H1 (.refl re1.b.i) (RepS.of (a0r.mpr rfl))
  | tup _ => cases e1; obtain ⟨a, _, rfl, _⟩ := a0G.mp rp; exact q1 _ Hs1 H1 (.refl re1.b.i) (RepS.of (a0r.mpr rfl))
  | lst _ => cases e1; obtain ⟨a, _, rfl, _⟩ := a0M.mp rp; exact q1 _ Hs1 H1 (.refl re1.b.i) (RepS.of (a0r.mpr rfl))
  | fn _ _ => cases e1; obtain ⟨a, _, rfl, _⟩ := a5T.mp rp; exact q1 _ Hs1 H1 (.refl re1.b.i) (RepS.of (a0r.mpr rfl))
  | obj _ _ _ => cases e1; obtain ⟨a, _, _, rfl, _⟩ := a5j.mp rp; exact q1 _ Hs1 H1 (.refl re1.b.i) (RepS.of (a0r.mpr rfl))
def a3h (K : PySem.W.Frag) (T : String) : Prop := ∀ t ∈ ["NoneType", "bool", "int", "str", "tuple", "list"], PySem.W.kitOne K (.type t) (.type T) = some (t == T || (t == "bool" && T == "int"))
theorem tD_isT {T : String} {g : ME} (hK : X.K = Γ.K) (h : a3h X.K T) {σ : L2.St} {H : Hp} {Q : VK} (t : tD Γ W (eUn (dIsT T) g) σ H Q) :
    tD Γ W g σ H fun x H1 => ∃ y t U b, [x, V.ty T] = [y, V.ty U] ∧ (TyOf X.K H1 y (.type t) ∨ (t = "tuple" ∧ ∃ a xs, y = .ref a ∧ SqT X.K H1 a xs) ∨ (t = "list" ∧ ∃ a xs, y = .ref a ∧ SqL X.K H1 a xs)) ∧ PySem.W.kitOne X.K (.type t) (.type U) = some b ∧ Q (.bl b) H1 := by
  obtain ⟨B0, B1, Hs, ρ, r, re, e, q⟩ := t
  refine (a1p re e q).mono fun v H1 ⟨Hs1, d, g1, re1, rp, e1, q1⟩ => ?_
  have fin : ∀ t : String, dIsT T d = okB (t == T || (t == "bool" && T == "int")) → Q (.bl (t == T || (t == "bool" && T == "int"))) H1 := fun t z => by
    rw [z] at e1
    cases e1
    exact q1 _ Hs1 H1 (.refl re1.b.i) (RepS.of (a0r.mpr rfl))
  cases d with
  | non => rw [a00.mp rp]; exact ⟨_, "NoneType", T, _, rfl, .inl .non, h _ (by simp), fin _ rfl⟩
  | bl _ => rw [a0r.mp rp]; exact ⟨_, "bool", T, _, rfl, .inl (.bl _), h _ (by simp), fin _ rfl⟩
  | int _ => rw [a0k.mp rp]; exact ⟨_, "int", T, _, rfl, .inl (.int _), h _ (by simp), fin _ rfl⟩
  | str _ => rw [a0D.mp rp]; exact ⟨_, "str", T, _, rfl, .inl (.str _), h _ (by simp), fin _ rfl⟩
  | tup _ => obtain ⟨a, xs, rfl, qa, _⟩ := a0G.mp rp; exact ⟨_, "tuple", T, _, rfl, .inr (.inl ⟨rfl, a, xs, rfl, by rw [hK]; exact a0K re1.b.i qa⟩), h _ (by simp), fin _ rfl⟩
  | lst _ =>
    obtain ⟨a, xs, rfl, qa, _⟩ := a0M.mp rp
    exact ⟨_, "list", T, _, rfl, .inr (.inr ⟨rfl, a, xs, rfl, by rw [hK]; exact Same.seq re1.b.i qa⟩), h _ (by simp), fin _ rfl⟩
  | fn _ _ => cases e1
  | obj _ _ _ => cases e1
theorem a14 {a : Expr} {g : ME} {T : String} {tn : Str} {p p' pos : Pos} (hK : X.K = Γ.K) (hk : a3h X.K T) (hg : Gl X "isinstance") (hm : X.mg "isinstance" = none) (hg2 : Gl X tn) (hm2 : X.mg tn = none) (hb : bootBuiltins tn = some (.type T)) (h : PD X Γ W a g)
    (hn : tn ≠ "__name__" := by decide) (hdb : (tn == ("__debug__" : Str)) = false := by decide) (hs1 : starEach [a, .Name tn p'] X.env = (false, eval a X.env) :: starEach [.Name tn p'] X.env := by rfl) (hs2 : starEach [.Name tn p'] X.env = (false, eval (.Name tn p') X.env) :: starEach [] X.env := by rfl)
    (hpl : (backTo pos (starEach [.Name tn p'] X.env)).any (·.1) = false := by rfl) : PD X Γ W (.Call (.Name "isinstance" p) [a, .Name tn p'] [] pos) (eUn (dIsT T) g) :=
  PE.imp (pe_callB a5I hg hm boot_isinstance (pa_cons h (pa_cons (pe_bltn (v := .ty T) hg2 hm2 hb rfl hn hdb) pa_nil hs2) hs1) (by decide) (by decide) hs1 hpl) fun _ _ _ _ _ _ t => tD_isT hK hk t
theorem a4K {a b : Expr} {ga gb : ME} {p p' pos' pos : Pos} (hc : X.calm = true) (hg : Gl X "list") (hm : X.mg "list" = none) (hg2 : Gl X "range") (hm2 : X.mg "range" = none) (ha : PD X Γ W a ga) (hb : PD X Γ W b gb)
    (hs1 : starEach [a, b] X.env = (false, eval a X.env) :: starEach [b] X.env := by rfl) (hs2 : starEach [b] X.env = (false, eval b X.env) :: starEach [] X.env := by rfl) (hpl : (backTo pos' (starEach [b] X.env)).any (·.1) = false := by rfl)
    (hs3 : starEach [.Call (.Name "range" p') [a, b] [] pos'] X.env = (false, eval (.Call (.Name "range" p') [a, b] [] pos') X.env) :: starEach [] X.env := by rfl) (hpl2 : (backTo pos (starEach [] X.env)).any (·.1) = false := by rfl) :
    PD X Γ W (.Call (.Name "list" p) [.Call (.Name "range" p') [a, b] [] pos'] [] pos) (eBin a2W ga gb) :=
  PE.imp (pe_callTy (a49 hc) hg hm boot_list (pa_cons (pe_callTy a5H hg2 hm2 boot_range (pa_cons ha (pa_cons hb pa_nil hs2) hs1) (by decide) (by decide) hs1 hpl) pa_nil hs3) (by decide) (by decide) hs3 hpl2) fun _ _ σ H Q _ ⟨B0, B1, Hs, ρ, r, re, e, q⟩ => by
    refine (a1p re e q).mono fun v H1 ⟨Hs1, d, g1, re1, rp, e1, q1⟩ => ?_
    refine (a1p re1 e1 q1).mono fun u H2 ⟨Hs2, d2, g2, re2, rp2, e2, q2⟩ => ?_
    obtain ⟨lo, hi, rfl, rfl, e2⟩ := a2A (f := fun lo hi => if a2T lo = true ∧ a2T hi = true ∧ (hi - lo).toNat ≤ lim then okL (rng lo hi) else none) (fun _ _ => rfl) e2
    obtain ⟨⟨h1, h2, h3⟩, rfl⟩ := a1D e2
    refine ⟨lo, hi, by rw [a0k.mp rp, a0k.mp rp2], fun p hp => ?_⟩
    have sm := re2.b.i
    refine ⟨p, lo, hi, rfl, upd_same, ⟨(a2S h1).1, (a2S h1).2, (a2S h2).1, (a2S h2).2⟩, a3W h3, fun l hl => ?_⟩
    have hp2 := sm.free hp
    have g3 : Grow Hs2 H2 Hs2 (upd (upd H2 p (.rng lo hi)) l (.lst ((List.range (hi - lo).toNat).map fun k : Nat => V.int (lo + k)))) := .only sm ((a0Q hp).trans (a0Q hl))
    have hl2 : H2 l = none := (a0Q hp).free hl
    refine q2 _ Hs2 _ g3 ⟨l, _, rfl, hl2, sm.free hl2, upd_same, _, rfl, ?_⟩
    unfold rng
    exact repL_map _ fun k => a0k.mpr rfl
theorem pid_zip {a b : Expr} {ga gb : ME} {p pos tp : Pos} {elts : List Expr} {kt : Nat} (hK : X.K = Γ.K) (hg : Gl X "zip") (hm : X.mg "zip" = none) (ha : PD X Γ W a ga) (hb : PD X Γ W b gb)
    (hs1 : starEach [a, b] X.env = (false, eval a X.env) :: starEach [b] X.env := by rfl) (hs2 : starEach [b] X.env = (false, eval b X.env) :: starEach [] X.env := by rfl) (hs3 : starEach [a, b] X.env = [(false, eval a X.env), (false, eval b X.env)] := by rfl) (hs4 : starEach [b] X.env = [(false, eval b X.env)] := by rfl) :
    PID X Γ W (.Tuple elts kt tp) (.Call (.Name "zip" p) [a, b] [] pos) (iZip ga gb) := PI.imp (pi_zip hg hm (pa_cons ha (pa_cons hb pa_nil hs2) hs1) hs3 hs4) fun _ _ σ H Q _ ⟨B0, B1, Hs, ρ, r, re, e, q⟩ => by
  refine (tD_I re e q).mono fun v H1 ⟨Hs1, d, g1, re1, rp, e1, q1⟩ => ?_
  refine (tD_I re1 e1 q1).mono fun u H2 ⟨Hs2, d2, g2, re2, rp2, e2, q2⟩ => ?_
  have rp := rp.mono g2.s
  have sm := re2.b.i
  have step : ∀ (bb : Bool) (l1 l2 : Addr) (xs ys : List V) (ds es : List D), v = .ref l1 → u = .ref l2 → SqX X.K Hs2 bb l1 xs → SqX X.K Hs2 bb l2 ys → RepL Γ Hs2 ds xs → RepL Γ Hs2 es ys → r = .ok (List.zipWith (fun u v => D.tup [u, v]) ds es) →
      ∃ b l1 l2, [v, u] = [V.ref l1, V.ref l2] ∧ (∃ xs, SqX X.K H2 b l1 xs) ∧ (∃ ys, SqX X.K H2 b l2 ys) ∧ Q (Itz X.K b l1 b l2) H2 := fun bb l1 l2 xs ys ds es e1 e2 s1 s2 rl1 rl2 er => by
    subst e1 e2 er
    have mv : ∀ {Hx Hy : Hp} {l : Addr} {zs : List V}, Same Hx Hy → SqX X.K Hx bb l zs → SqX X.K Hy bb l zs := fun {Hx Hy l zs} k s => by
      cases bb with
      | true => exact Same.seq k s
      | false => exact a0K k s
    refine ⟨bb, l1, l2, rfl, ⟨xs, mv sm s1⟩, ⟨ys, mv sm s2⟩, q2 _ Hs2 H2 (.refl sm) ⟨fun i Hs3 H3 hi k1 k2 => ?_, fun Hs3 H3 k1 k2 => ?_, fun i Hs3 H3 x H4 hi k1 k2 y => ?_⟩⟩
    · rw [List.length_zipWith] at hi
      have i1 : i < xs.length := by rw [← rl1.length]; omega
      have i2 : i < ys.length := by rw [← rl2.length]; omega
      exact ⟨xs, ys, xs[i], ys[i], mv (k1.trans k2) s1, mv (k1.trans k2) s2, List.getElem?_eq_getElem i1, List.getElem?_eq_getElem i2⟩
    · refine ⟨xs, ys, mv (k1.trans k2) s1, mv (k1.trans k2) s2, ?_⟩
      rw [List.length_zipWith, ← rl1.length, ← rl2.length]
      omega
    · rw [List.length_zipWith] at hi
      obtain ⟨p, a1, a2, rfl, hp, rfl, f1, f2⟩ := y
      have i1 : i < ds.length := by omega
      have i2 : i < es.length := by omega
      obtain ⟨x1, e1, q1'⟩ := rl1.get (List.getElem?_eq_getElem i1)
      obtain ⟨x2, e2, q2'⟩ := rl2.get (List.getElem?_eq_getElem i2)
      have z1 := f1 xs (mv (k1.trans k2) s1)
      have z2 := f2 ys (mv (k1.trans k2) s2)
      rw [e1] at z1
      rw [e2] at z2
      cases z1
      cases z2
      refine ⟨.tup [ds[i], es[i]], upd Hs3 p (.tup [a1, a2]), ?_, .new k2 hp, ?_⟩
      · rw [List.getElem?_zipWith, List.getElem?_eq_getElem i1, List.getElem?_eq_getElem i2]
      · have k3 : Same Hs3 (upd Hs3 p (.tup [a1, a2])) := a0Q (k2.free hp)
        exact a0G.mpr ⟨p, [a1, a2], rfl, .of upd_same, .cons ((q1'.mono k1).mono k3) (.cons ((q2'.mono k1).mono k3) .nil)⟩
  cases d with
  | lst ds =>
    cases d2 with
    | lst es =>
      cases e2
      obtain ⟨l1, xs, ev, s1, rl1⟩ := a0M.mp rp
      obtain ⟨l2, ys, eu, s2, rl2⟩ := a0M.mp rp2
      rw [← hK] at s1 s2
      exact step true l1 l2 xs ys ds es ev eu s1 s2 rl1 rl2 rfl
    | non => cases e2
    | bl _ => cases e2
    | int _ => cases e2
    | str _ => cases e2
    | tup _ => cases e2
    | fn _ _ => cases e2
    | obj _ _ _ => cases e2
  | tup ds =>
    cases d2 with
    | tup es =>
      cases e2
      obtain ⟨l1, xs, ev, s1, rl1⟩ := a0G.mp rp
      obtain ⟨l2, ys, eu, s2, rl2⟩ := a0G.mp rp2
      rw [← hK] at s1 s2
      exact step false l1 l2 xs ys ds es ev eu s1 s2 rl1 rl2 rfl
    | non => cases e2
    | bl _ => cases e2
    | int _ => cases e2
    | str _ => cases e2
    | lst _ => cases e2
    | fn _ _ => cases e2
    | obj _ _ _ => cases e2
  | non => cases e2
  | bl _ => cases e2
  | int _ => cases e2
  | str _ => cases e2
  | fn _ _ => cases e2
  | obj _ _ _ => cases e2
end
end L3
namespace L3
open PySem PySem.Spec PyProof.Rows L2
section
variable {X : Cx} {Γ : Ct} {W : XW} {i : Nat} {x : Str} {e ex : Expr} {ge gx : ME} {px apos cpos pos : Pos}
theorem a4O {i : Nat} {ρ : MEnv} {k : List D → Option Out} {o : Out} (h : ownL i ρ k = some o) : ∃ ds, ρ[i]? = some (some (.own (.lst ds))) ∧ k ds = some o := by
  unfold ownL at h
  split at h
  · rename_i ds hd; exact ⟨ds, hd, h⟩
  · cases h
theorem a3P (hv : PE X (.Name x px) (tVar i)) (he : PD X Γ W e ge) (hs : starEach [e] X.env = (false, eval e X.env) :: starEach [] X.env := by rfl)
    (hbase : attributeBase (.Name x px) "append" X.env (eval (.Name x px) X.env) = eval (.Name x px) X.env := by rfl)
    (hfew : ((backTo cpos (starEach [e] X.env)).all (fun x => !x.1) && (backToKw cpos (keywordEach [] X.env)).all (fun x => x.1.isSome) && decide ([e].length + ([] : List Keyword).length + (if ([] : List Keyword).isEmpty then 0 else 1) < 30)) = true := by rfl)
    (hline : (apos.endLine == cpos.line) = true := by rfl) (hplain : (backTo cpos (starEach [] X.env)).any (·.1) = false := by rfl) (hsw : swapsWith (.Call (.Attribute (.Name x px) "append" apos) [e] [] cpos) none pos.line X.env = pure false := by rfl) :
    PSD X Γ W (.Expr (.Call (.Attribute (.Name x px) "append" apos) [e] [] cpos) pos) (a2K i ge) :=
  PS.imp (ps_expr (pe_bm PySem.F.plainAttrs_list PySem.F.slot_list_append PySem.F.type_list_append mt_append hv (pa_cons he pa_nil hs) hbase hfew hline hs hplain) hsw) fun pins s σ H En I ⟨B0, B1, Hs, ρ, o, re, eo, q⟩ => by
    obtain ⟨ds, hd, eo⟩ := a4O eo
    obtain ⟨a, ho, e1, e2, e3, e4, xs, rfl, rl⟩ := re.own i _ hd
    refine ⟨.ref a, e1, .inl ⟨rfl, xs, .of e4⟩, (tD_O re eo q).mono fun y H1 ⟨Hs1, s, g1, rs, e5⟩ => ?_⟩
    obtain ⟨hl, rfl⟩ := a1D e5
    obtain ⟨Hs2, g2, _, rp⟩ := rs.share g1
    refine ⟨a, xs, y, rfl, rfl, g2.h _ _ e4, by rw [← rl.length]; exact Nat.lt_of_lt_of_le hl (by decide), q σ Hs2 _ g2.s ((re.grow g2).write hd e1 ⟨_, rfl, (rl.mono g2.s).append (.cons rp .nil)⟩)⟩
end
def W0 : XW := fun _ _ _ => False
theorem a39 {Γ : Ct} {Hs H : Hp} (sm : Same Hs H) {N : List Str} {ds : List D} {vs : List V} (rl : RepL Γ Hs ds vs) (tb : Same Γ.tb Hs) : RE Γ Hs H Hs H (L2.start N vs) (a1B N.length ds) := by
  have hl := rl.length
  have at' : ∀ (i : Nat) (s : S), (a1B N.length ds)[i]? = some (some s) → ∃ d, s = .sh d ∧ ds[i]? = some d := fun i s e => by
    unfold a1B at e
    by_cases hi : i < ds.length
    · rw [List.getElem?_append_left (by simpa using hi), List.getElem?_map, List.getElem?_eq_getElem hi] at e
      cases e
      exact ⟨ds[i], rfl, List.getElem?_eq_getElem hi⟩
    · rw [List.getElem?_append_right (by simpa using hi), List.getElem?_replicate] at e
      split at e <;> cases e
  refine ⟨.refl sm, fun i d e => ?_, fun i o e => ?_, fun i j o u a _ e => ?_, ?_, tb⟩
  · obtain ⟨d', e1, e2⟩ := at' i _ e
    cases e1
    obtain ⟨v, e3, q⟩ := rl.get e2
    refine ⟨v, ?_, q⟩
    have hi : i < vs.length := (List.getElem?_eq_some_iff.mp e3).1
    unfold L2.start
    rw [List.getElem?_append_left (by simpa using hi), List.getElem?_map, e3]
    rfl
  · obtain ⟨_, e1, _⟩ := at' i _ e; cases e1
  · obtain ⟨_, e1, _⟩ := at' i _ e; cases e1
  · unfold a1B L2.start
    rw [List.length_append, List.length_append, List.length_map, List.length_map, List.length_replicate, List.length_replicate, hl]
section
variable {P : Program} {w : World} {K : PySem.W.Frag} {mg : Str → Option Value} {base : Heap} {Γ : Ct}
theorem a5Z {np n : Nat} {g : MC} {ds : List D} {r : R} (h : fnD np n g ds = some r) : ds.length = np ∧ outR (g (a1B n ds)) = some r := by
  unfold fnD at h
  by_cases z : ds.length = np
  · rw [if_pos z] at h; exact ⟨z, h⟩
  · rw [if_neg z] at h; cases h
theorem fn_D {x qual : Str} {st : Stmt} {f : Addr} {fd : FuncData} {N ps : List Str} {k : Nat} {g : MC} (F : Fun K x qual st f fd) (S : FnScope N ps (defScope st))
    (body : ∀ (cdv : Value) (A : Around) (outer : List PySem.Env) (s : Shared) (H : Hp) (E : XK), Room k (A.deeper (envOfC qual (defScope st) s.heap.objs.size f cdv)) → PSsD (cxOf CX0 P w K mg base N qual (defScope st) f cdv A outer s H E).nox Γ W0 (defBody st) g) :
    FnOk P w K mg base CX0 (k + 1) f fd ps (spD Γ W0 (fnD ps.length N.length g)) := by
  refine F.ok S (fun vs H Q E ⟨Hs, ds, r, sm, rl, e, q, tb⟩ => ?_) (fun cdv A outer s H vs Q E hr ⟨Hs, ds, r, sm, rl, e, q, tb⟩ => ?_)
  · rw [← rl.length]; exact (a5Z e).1
  · obtain ⟨_, e⟩ := a5Z e
    refine ⟨tS Γ W0 g, body cdv A outer s H E hr, ?_⟩
    cases h : g (a1B N.length ds) with
    | none => rw [h] at e; cases e
    | some o =>
      rw [h] at e
      refine ⟨Hs, H, Hs, a1B N.length ds, o, a39 sm rl tb, h, ?_⟩
      cases o with
      | next ρ' => cases e; exact fun σ' Hs' H' _ re => q .non Hs' H' re.b (RepS.of (a00.mpr rfl))
      | brk ρ' => cases e
      | cont ρ' => cases e
      | ret s => cases e; exact fun v Hs' H' _ g' rs => q v Hs' H' g' rs
      | exc x => cases e; exact fun Hs' H' _ g' => q Hs' H' g'
theorem fn_rec {x qual : Str} {st : Stmt} {f : Addr} {fd : FuncData} {N ps : List Str} {k : Nat} {g : (List D → Option R) → MC} (F : Fun K x qual st f fd) (S : FnScope N ps (defScope st))
    (body : ∀ (G : List D → Option R) (j : Nat), k ≤ j → FnOk P w K mg base CX0 j f fd ps (spD Γ W0 G) → ∀ (cdv : Value) (A : Around) (outer : List PySem.Env) (s : Shared) (H : Hp) (E : XK), Room j (A.deeper (envOfC qual (defScope st) s.heap.objs.size f cdv)) → PSsD (cxOf CX0 P w K mg base N qual (defScope st) f cdv A outer s H E).nox Γ W0 (defBody st) (g G)) :
    ∀ n, FnOk P w K mg base CX0 (k + n) f fd ps (spD Γ W0 (n.rec (fun _ => none) fun _ G => fnD ps.length N.length (g G)))
  | 0 => ⟨fun vs H Q E ⟨Hs, ds, r, _, _, e, _, _⟩ => (nomatch e), fun A outer s H args us vs Q E _ _ _ _ ⟨Hs, ds, r, _, _, e, _, _⟩ => (nomatch e)⟩
  | n + 1 => fn_D F S (body _ (k + n) (Nat.le_add_right _ _) (fn_rec F S body n))
theorem FnOk.le {f : Addr} {fd : FuncData} {ps : List Str} {k : Nat} {F G : List D → Option R} (h : FnOk P w K mg base CX0 k f fd ps (spD Γ W0 F)) (l : ∀ ds r, G ds = some r → F ds = some r) : FnOk P w K mg base CX0 k f fd ps (spD Γ W0 G) :=
  h.imp fun vs H Q E ⟨Hs, ds, r, sm, rl, e, q, tb⟩ => ⟨Hs, ds, r, sm, rl, l _ _ e, q, tb⟩
end
theorem a42 (K : PySem.W.Frag) : a3h K "tuple" ∧ a3h K "list" ∧ a3h K "bool" ∧ a3h K "int" ∧ a3h K "str" := by
  refine ⟨?_, ?_, ?_, ?_, ?_⟩ <;>
  · intro t ht
    have : t = "NoneType" ∨ t = "bool" ∨ t = "int" ∨ t = "str" ∨ t = "tuple" ∨ t = "list" := by simpa using ht
    rcases this with rfl | rfl | rfl | rfl | rfl | rfl <;> rfl
end L3
namespace L3
open PySem PySem.Spec PyProof.Rows L2
def FnN (P : Program) (w : World) (K : PySem.W.Frag) (mg : Str → Option Value) (base : Heap) (Γ : Ct) (k : Nat) (x : Str) (ps : List Str) (F : List D → Option R) : Prop :=
  ∃ f fd, FnOk P w K mg base CX0 k f fd ps (spD Γ W0 F) ∧ mg x = some (.ref f) ∧ PySem.W.keepIn K (.ref f) = true ∧ Binds K fd ps []
section
variable {X : Cx} {Γ : Ct} {k : Nat} {ps : List Str} {x : Str} {p pos : Pos} {e : Expr} {es : List Expr} {gs : List ME} {F : List D → Option R}
theorem a0P (h : FnN X.prog X.w X.K X.mg X.base Γ k x ps F) (hr : Room k X.A) (hg : Gl X x) (ha : PAD X Γ W0 (e :: es) gs) (hdb : (x == ("__debug__" : Str)) = false := by decide) (he : starEach (e :: es) X.env = (false, eval e X.env) :: starEach es X.env := by rfl) (hpl : (backTo pos (starEach es X.env)).any (·.1) = false := by rfl) :
    PD X Γ W0 (.Call (.Name x p) (e :: es) [] pos) (a0h F gs) := by
  obtain ⟨f, fd, G, hm, hk, hb⟩ := h
  exact pd_call G hr hg hm hk hb ha hdb he hpl
end
structure Laid (K : PySem.W.Frag) (mg : Str → Option Value) (x : Str) (st : Stmt) (ps : List Str) : Prop where
  ex : ∃ f fd, Fun K x x st f fd ∧ mg x = some (.ref f) ∧ Binds K fd ps []
section
variable {P : Program} {w : World} {K : PySem.W.Frag} {mg : Str → Option Value} {base : Heap} {Γ : Ct}
theorem a2h {x : Str} {st : Stmt} {N ps : List Str} {k : Nat} {g : MC} (L : Laid K mg x st ps) (S : FnScope N ps (defScope st))
    (body : ∀ (f : Addr) (cdv : Value) (A : Around) (outer : List PySem.Env) (s : Shared) (H : Hp) (E : XK), Room k (A.deeper (envOfC x (defScope st) s.heap.objs.size f cdv)) → PSsD (cxOf CX0 P w K mg base N x (defScope st) f cdv A outer s H E).nox Γ W0 (defBody st) g) :
    FnN P w K mg base Γ (k + 1) x ps (fnD ps.length N.length g) := by
  obtain ⟨f, fd, F, hm, hb⟩ := L.ex
  exact ⟨f, fd, fn_D F S (body f), hm, F.kp, hb⟩
theorem a6v {x : Str} {st : Stmt} {N ps : List Str} {k : Nat} {g : (List D → Option R) → MC} (L : Laid K mg x st ps) (S : FnScope N ps (defScope st))
    (body : ∀ (f : Addr) (G : List D → Option R) (j : Nat), k ≤ j → FnN P w K mg base Γ j x ps G → ∀ (cdv : Value) (A : Around) (outer : List PySem.Env) (s : Shared) (H : Hp) (E : XK), Room j (A.deeper (envOfC x (defScope st) s.heap.objs.size f cdv)) → PSsD (cxOf CX0 P w K mg base N x (defScope st) f cdv A outer s H E).nox Γ W0 (defBody st) (g G)) (n : Nat) :
    FnN P w K mg base Γ (k + n) x ps (n.rec (fun _ => none) fun _ G => fnD ps.length N.length (g G)) := by
  obtain ⟨f, fd, F, hm, hb⟩ := L.ex
  exact ⟨f, fd, fn_rec F S (fun G j hj ok => body f G j hj ⟨f, fd, ok, hm, F.kp, hb⟩) n, hm, F.kp, hb⟩
theorem FnN.mono {j k : Nat} {x : Str} {ps : List Str} {F : List D → Option R} (h : FnN P w K mg base Γ j x ps F) (l : j ≤ k) : FnN P w K mg base Γ k x ps F := by
  obtain ⟨f, fd, G, r⟩ := h
  exact ⟨f, fd, G.mono l, r⟩
theorem FnN.le {k : Nat} {x : Str} {ps : List Str} {F G : List D → Option R} (h : FnN P w K mg base Γ k x ps F) (l : ∀ ds r, G ds = some r → F ds = some r) : FnN P w K mg base Γ k x ps G := by
  obtain ⟨f, fd, o, r⟩ := h
  exact ⟨f, fd, FnOk.le o l, r⟩
theorem a1O {h : Heap} (X : K.In h) (G : h.Ns mainGlobals mg) {x : Str} {st : Stmt} {ps : List Str} {f : Addr} {oc : Value} {od an : Option Addr} {osl : Array (Option Value)} {kV doc pm cdv ct : Value} (a : PySem.W.nsIn K mainGlobals x = some (some (.ref f)))
    (l : K.lookup f = some ⟨oc, od, .func (PySem.W.fnOf x x (defArgs st) (defBody st) (defScope st) .none kV doc pm an cdv ct), osl⟩) (c : PySem.W.codeIn K cdv x = true) (k : PySem.W.keepIn K (.ref f) = true)
    (hb : ∀ (kV doc pm : Value) (an : Option Addr) (cdv ct : Value) (us : List Value), us.length = ps.length → bindArgs (PySem.W.fnOf x x (defArgs st) (defBody st) (defScope st) .none kV doc pm an cdv ct) ⟨us, []⟩ = pure (ps.zip us)) : Laid K mg x st ps :=
  ⟨f, _, fun_mk l c k, PySem.W.mg_of X G a, (fun_mk l c k).binds hb⟩
end
theorem a3u (K : PySem.W.Frag) : a3h K "tuple" := (a42 K).1
theorem a4m (K : PySem.W.Frag) : a3h K "list" := (a42 K).2.1
theorem a3k (K : PySem.W.Frag) : a3h K "bool" := (a42 K).2.2.1
theorem a7g (K : PySem.W.Frag) : a3h K "int" := (a42 K).2.2.2.1
theorem kit_str (K : PySem.W.Frag) : a3h K "str" := (a42 K).2.2.2.2
theorem a1T : bootBuiltins "tuple" = some (.type "tuple") := by decide +kernel
theorem a4x : bootBuiltins "list" = some (.type "list") := by decide +kernel
theorem a4y : bootBuiltins "bool" = some (.type "bool") := by decide +kernel
theorem bt_int : bootBuiltins "int" = some (.type "int") := by decide +kernel
theorem bt_str : bootBuiltins "str" = some (.type "str") := by decide +kernel
theorem a7x : bootBuiltins "sum" = some (.builtin "sum") := by decide +kernel
theorem a7y : bootBuiltins "all" = some (.builtin "all") := by decide +kernel
def spLaw (K : PySem.W.Frag) : Sp := fun vs H Q _ => ∃ (a : Addr) (ns : List Int), vs = [.ref a] ∧ SqL K H a (ns.map V.int) ∧ ns.length ≤ 63 ∧ ∀ H', Q (.bl true) H'
end L3
namespace L3
open PySem PySem.Spec PyProof.Rows L2
section
variable {X : Cx} {Γ : Ct} {W : XW}
section
variable {a b c : Expr} {ga gb gc : ME} {pos : Pos}
end
theorem repL2 {H : Hp} {d e : D} {xs : List V} (h : RepL Γ H [d, e] xs) : ∃ x y, xs = [x, y] ∧ Rep Γ H d x ∧ Rep Γ H e y := by
  obtain ⟨x, r, e1, q, t⟩ := a0t.mp h
  obtain ⟨y, rfl, q2⟩ := a5k t
  exact ⟨x, y, e1, q, q2⟩
end
end L3
namespace L3
open PySem PySem.Spec PyProof.Rows L2
section
variable {X : Cx} {Γ : Ct} {W : XW}
theorem a3i {K : PySem.W.Frag} {Hx Hy : Hp} {bb : Bool} {l : Addr} {zs : List V} (k : Same Hx Hy) (s : SqX K Hx bb l zs) : SqX K Hy bb l zs := by
  cases bb with
  | true => exact Same.seq k s
  | false => exact a0K k s
theorem pid_enum {a : Expr} {ga : ME} {p pos tp : Pos} {elts : List Expr} {kt : Nat} (hK : X.K = Γ.K) (hg : Gl X "enumerate") (hm : X.mg "enumerate" = none) (ha : PD X Γ W a ga) (hs1 : starEach [a] X.env = (false, eval a X.env) :: starEach [] X.env := by rfl) (hs3 : starEach [a] X.env = [(false, eval a X.env)] := by rfl) :
    PID X Γ W (.Tuple elts kt tp) (.Call (.Name "enumerate" p) [a] [] pos) (a4o ga) := PI.imp (pi_enum hg hm (pa_cons ha pa_nil hs1) hs3) fun _ _ σ H Q _ ⟨B0, B1, Hs, ρ, r, re, e, q⟩ => by
  refine (tD_I re e q).mono fun v H1 ⟨Hs1, d, g1, re1, rp, e1, q1⟩ => ?_
  have sm := re1.b.i
  have step : ∀ (bb : Bool) (l : Addr) (xs : List V) (ds : List D), v = .ref l → SqX X.K Hs1 bb l xs → RepL Γ Hs1 ds xs → r = .ok ((List.range ds.length).zipWith (fun (i : Nat) d => D.tup [.int i, d]) ds) → ∃ b l, [v] = [V.ref l] ∧ (∃ xs, SqX X.K H1 b l xs) ∧ Q (Ite X.K b l) H1 := fun bb l xs ds ev s1 rl er => by
    subst ev er
    have hlen : ((List.range ds.length).zipWith (fun (i : Nat) d => D.tup [.int i, d]) ds).length = ds.length := by rw [List.length_zipWith, List.length_range, Nat.min_self]
    refine ⟨bb, l, rfl, ⟨xs, a3i sm s1⟩, q1 _ Hs1 H1 (.refl sm) ⟨fun i Hs3 H3 hi k1 k2 => ?_, fun Hs3 H3 k1 k2 => ?_, fun i Hs3 H3 x H4 hi k1 k2 y => ?_⟩⟩
    · rw [hlen] at hi
      have i1 : i < xs.length := by rw [← rl.length]; omega
      exact ⟨xs, xs[i], a3i (k1.trans k2) s1, List.getElem?_eq_getElem i1⟩
    · exact ⟨xs, a3i (k1.trans k2) s1, by rw [hlen, rl.length]; exact Nat.le_refl _⟩
    · rw [hlen] at hi
      obtain ⟨p, u, rfl, hp, rfl, f1⟩ := y
      obtain ⟨x1, e1, q1'⟩ := rl.get (List.getElem?_eq_getElem hi)
      have z1 := f1 xs (a3i (k1.trans k2) s1)
      rw [e1] at z1
      cases z1
      refine ⟨.tup [.int i, ds[i]], upd Hs3 p (.tup [.int i, u]), ?_, .new k2 hp, ?_⟩
      · rw [List.getElem?_zipWith, List.getElem?_range hi, List.getElem?_eq_getElem hi]
      · have k3 : Same Hs3 (upd Hs3 p (.tup [.int i, u])) := a0Q (k2.free hp)
        exact a0G.mpr ⟨p, [.int i, u], rfl, .of upd_same, .cons (a0k.mpr rfl) (.cons ((q1'.mono k1).mono k3) .nil)⟩
  cases d with
  | lst ds =>
    cases e1
    obtain ⟨l, xs, ev, s1, rl⟩ := a0M.mp rp
    rw [← hK] at s1
    exact step true l xs ds ev s1 rl rfl
  | tup ds =>
    cases e1
    obtain ⟨l, xs, ev, s1, rl⟩ := a0G.mp rp
    rw [← hK] at s1
    exact step false l xs ds ev s1 rl rfl
  | non => cases e1
  | bl _ => cases e1
  | int _ => cases e1
  | str _ => cases e1
  | fn _ _ => cases e1
  | obj _ _ _ => cases e1
theorem flat_V {d : D} {v : V} {H : Hp} (r : Rep Γ H d v) (f : flat d = true) : flatV v = true := by
  cases d with
  | non => rw [a00.mp r]; rfl
  | bl _ => rw [a0r.mp r]; rfl
  | int _ => rw [a0k.mp r]; rfl
  | str _ => rw [a0D.mp r]; rfl
  | tup _ => cases f
  | lst _ => cases f
  | fn _ _ => cases f
  | obj _ _ _ => cases f
theorem eqD_V {d e : D} {v u : V} {H : Hp} (r1 : Rep Γ H d v) (r2 : Rep Γ H e u) (f1 : flat d = true) (f2 : flat e = true) : eqV v u = eqD d e := by
  cases d with
  | non => rw [a00.mp r1]; cases e with
    | non => rw [a00.mp r2]; rfl
    | bl _ => rw [a0r.mp r2]; rfl
    | int _ => rw [a0k.mp r2]; rfl
    | str _ => rw [a0D.mp r2]; rfl
    | tup _ => cases f2
    | lst _ => cases f2
    | fn _ _ => cases f2
    | obj _ _ _ => cases f2
  | bl _ => rw [a0r.mp r1]; cases e with
    | non => rw [a00.mp r2]; rfl
    | bl _ => rw [a0r.mp r2]; rfl
    | int _ => rw [a0k.mp r2]; rfl
    | str _ => rw [a0D.mp r2]; rfl
    | tup _ => cases f2
    | lst _ => cases f2
    | fn _ _ => cases f2
    | obj _ _ _ => cases f2
  | int _ => rw [a0k.mp r1]; cases e with
    | non => rw [a00.mp r2]; rfl
    | bl _ => rw [a0r.mp r2]; rfl
    | int _ => rw [a0k.mp r2]; rfl
    | str _ => rw [a0D.mp r2]; rfl
    | tup _ => cases f2
    | lst _ => cases f2
    | fn _ _ => cases f2
    | obj _ _ _ => cases f2
  | str _ => rw [a0D.mp r1]; cases e with
    | non => rw [a00.mp r2]; rfl
    | bl _ => rw [a0r.mp r2]; rfl
    | int _ => rw [a0k.mp r2]; rfl
    | str _ => rw [a0D.mp r2]; rfl
    | tup _ => cases f2
    | lst _ => cases f2
    | fn _ _ => cases f2
    | obj _ _ _ => cases f2
  | tup _ => cases f1
  | lst _ => cases f1
  | fn _ _ => cases f1
  | obj _ _ _ => cases f1
theorem inD_V {x : D} {v : V} {H : Hp} (rx : Rep Γ H x v) (fx : flat x = true) : ∀ {ds : List D} {xs : List V}, RepL Γ H ds xs → ds.all flat = true → xs.all flatV = true ∧ inV v xs = inD x ds
  | [], xs, h, _ => by rw [a03.mp h]; exact ⟨rfl, rfl⟩
  | d :: ds, xs, h, f => by
    obtain ⟨y, r, rfl, q, t⟩ := a0t.mp h
    rw [List.all_cons, Bool.and_eq_true] at f
    obtain ⟨i1, i2⟩ := inD_V rx fx t f.2
    refine ⟨by rw [List.all_cons, flat_V q f.1, i1]; rfl, ?_⟩
    show (eqV y v || inV v r) = (eqD d x || inD x ds)
    rw [eqD_V q rx f.1 fx, i2]
theorem a53 {neg : Bool} {d1 d2 : D} {r : R} {Hs H : Hp} {x y : V} {Q : VK} (hK : X.K = Γ.K) (sm : Same Hs H) (r1 : Rep Γ Hs d1 x) (r2 : Rep Γ Hs d2 y) (e : dIn neg d1 d2 = some r) (q : RQ Γ W Hs H r Q) : rIn X.K neg x y H Q := by
  have fin : ∀ (ds : List D) (p : Addr) (xs : List V), y = .ref p → (SqL X.K H p xs ∨ SqT X.K H p xs) → RepL Γ Hs ds xs → (if flat d1 = true ∧ ds.all flat = true then okB (if neg then !inD d1 ds else inD d1 ds) else none) = some r → rIn X.K neg x y H Q := fun ds p xs ey hq rl e => by
    obtain ⟨⟨h1, h2⟩, rfl⟩ := a1D e
    obtain ⟨i1, i2⟩ := inD_V r1 h1 rl h2
    refine ⟨p, xs, ey, hq, flat_V r1 h1, i1, ?_⟩
    rw [i2]
    exact retS sm q (a0r.mpr rfl)
  cases d2 with
  | tup ds => obtain ⟨p, xs, ey, sq, rl⟩ := a0G.mp r2; exact fin ds p xs ey (.inr (by rw [hK]; exact a0K sm sq)) rl e
  | lst ds => obtain ⟨p, xs, ey, sq, rl⟩ := a0M.mp r2; exact fin ds p xs ey (.inl (by rw [hK]; exact Same.seq sm sq)) rl e
  | non => cases e
  | bl _ => cases e
  | int _ => cases e
  | str _ => cases e
  | fn _ _ => cases e
  | obj _ _ _ => cases e
theorem opd_in (hK : X.K = Γ.K) : OpR X (compareOp .In) (rD Γ W (dIn false)) := fun pins s σ H x y v u Q I rx ry ⟨Hs, d1, d2, r, sm, r1, r2, e, q⟩ => op_in_seq pins s σ H x y v u Q I rx ry (a53 hK sm r1 r2 e q)
theorem a65 (hK : X.K = Γ.K) : OpR X (compareOp .NotIn) (rD Γ W (dIn true)) := fun pins s σ H x y v u Q I rx ry ⟨Hs, d1, d2, r, sm, r1, r2, e, q⟩ => op_notIn_seq pins s σ H x y v u Q I rx ry (a53 hK sm r1 r2 e q)
theorem a36 (n d : Nat) (o : Option Int) : HT.sIx n d o = sIxD n d o := by cases o <;> rfl
theorem a55 {H : Hp} {ds : List D} {xs : List V} (rl : RepL Γ H ds xs) (lo hi : Option Int) : RepL Γ H (cutD ds lo hi) (cutV xs lo hi) := by
  unfold cutD cutV
  rw [a36, a36, ← rl.length]
  exact (rl.drop _).take _
def rSlice (Γ : Ct) (W : XW) : V → Option Int → Option Int → Hp → VK → Prop := fun v lo hi H Q => ∃ Hs d r, Same Hs H ∧ Rep Γ Hs d v ∧ a3Z d lo hi = some r ∧ RQ Γ W Hs H r Q
theorem sld (hK : X.K = Γ.K) : SlR X (rSlice Γ W) := fun pins s σ H x v vl vu lo hi sl Q I rx hs pl pu ⟨Hs, d, r, sm, rp, e, q⟩ => by
  cases d with
  | tup ds =>
    obtain ⟨a, xs, rfl, sq, rl⟩ := a0G.mp rp
    have e' : (if sIxD ds.length 0 lo = 0 ∧ sIxD ds.length ds.length hi = ds.length then none else okD (.tup (cutD ds lo hi))) = some r := e
    by_cases hw : sIxD ds.length 0 lo = 0 ∧ sIxD ds.length ds.length hi = ds.length
    · rw [if_pos hw] at e'; cases e'
    · rw [if_neg hw] at e'
      cases e'
      exact sl_tup pins s σ H _ v vl vu lo hi sl Q I rx hs pl pu ⟨a, xs, rfl, by rw [hK]; exact a0K sm sq, by rw [a36, a36, ← rl.length]; exact hw, fun p hp => a5i sm q (a55 rl lo hi) hp⟩
  | lst ds =>
    obtain ⟨a, xs, rfl, sq, rl⟩ := a0M.mp rp
    cases e
    exact sl_list pins s σ H _ v vl vu lo hi sl Q I rx hs pl pu ⟨a, xs, rfl, by rw [hK]; exact Same.seq sm sq, fun p hp => a37 sm q (a55 rl lo hi) hp⟩
  | non => cases e
  | bl _ => cases e
  | int _ => cases e
  | str _ => cases e
  | fn _ _ => cases e
  | obj _ _ _ => cases e
def tP (Γ : Ct) (W : XW) (o : Option ME) : TO := match o with
  | none => tNoPart
  | some g => tPart (tD Γ W g)
abbrev POD (X : Cx) (Γ : Ct) (W : XW) (e : Option Expr) (o : Option ME) : Prop := PO X e (tP Γ W o)
theorem a4c : POD X Γ W none none := po_none
theorem a4b {e : Expr} {g : ME} (h : PD X Γ W e g) : POD X Γ W (some e) (some g) := po_some h
theorem a4M {o : Option ME} {B0 B1 Hs H : Hp} {σ : L2.St} {ρ : MEnv} {k : Option Int → Option R} {r : R} {Q : VK} (re : RE Γ B0 B1 Hs H σ ρ) (e : a64 o ρ k = some r) (q : RQ Γ W Hs H r Q) {Q' : Option Int → Hp → Prop}
    (h : ∀ i H1 Hs1, Grow Hs H Hs1 H1 → RE Γ B0 B1 Hs1 H1 σ ρ → k i = some r → RQ Γ W Hs1 H1 r Q → Q' i H1) : tP Γ W o σ H Q' := by
  cases o with
  | none => exact h none H Hs (.refl re.b.i) re e q
  | some g =>
    have e' : a0N (g ρ) (fun d => match d with | .int i => k (some i) | _ => none) = some r := e
    refine (a1p re e' q).mono fun v H1 ⟨Hs1, d, g1, re1, rp, e1, q1⟩ => ?_
    cases d with
    | int i => exact ⟨i, a0k.mp rp, h (some i) H1 Hs1 g1 re1 e1 q1⟩
    | non => cases e1
    | bl _ => cases e1
    | str _ => cases e1
    | tup _ => cases e1
    | lst _ => cases e1
    | fn _ _ => cases e1
    | obj _ _ _ => cases e1
theorem a4d {e : Expr} {g : ME} {lo hi : Option Expr} {gl gh : Option ME} {pos p2 : Pos} (hK : X.K = Γ.K) (he : PD X Γ W e g) (hl : POD X Γ W lo gl) (hh : POD X Γ W hi gh) : PD X Γ W (.Subscript e (.Slice lo hi none p2) pos) (a08 g gl gh) :=
  PE.imp (pe_slice (sld hK) he hl hh) fun _ _ σ H Q _ ⟨B0, B1, Hs, ρ, r, re, e, q⟩ => by
    refine (a1p re e q).mono fun v H1 ⟨Hs1, d, g1, re1, rp, e1, q1⟩ => ?_
    refine a4M re1 e1 q1 fun l H2 Hs2 g2 re2 e2 q2 => ?_
    refine a4M re2 e2 q2 fun u H3 Hs3 g3 re3 e3 q3 => ?_
    exact ⟨Hs3, d, r, re3.b.i, (rp.mono g2.s).mono g3.s, e3, q3⟩
end
end L3
namespace L3
open PySem PySem.Spec PyProof.Rows L2
section
variable {X : Cx} {Γ : Ct} {W : XW}
end
end L3
namespace L3
open PySem PySem.Spec PyProof.Rows L2
section
variable {X : Cx} {Γ : Ct} {W : XW} {e o : Expr} {es : List Expr} {g go : ME} {gs : List ME} {f m x : Str} {p pos apos : Pos}
end
def MethN (P : Program) (w : World) (K : PySem.W.Frag) (mg : Str → Option Value) (base : Heap) (Γ : Ct) (k : Nat) (m : Str) (ps : List Str) (F : List D → Option R) (cs : List String) : Prop :=
  ∃ f fd, FnOk P w K mg base CX0 k f fd ps (spD Γ W0 F) ∧ Binds K fd ps [] ∧ ∀ c ∈ cs, Cls K (Γ.cls c) ∧ Meth K (Γ.cls c) m f
def TabOk (X : Cx) (Γ : Ct) (m : Str) (tb : String → Option (List D → Option R)) : Prop :=
  ∀ c F, tb c = some F → ∃ k ps cs, c ∈ cs ∧ MethN X.prog X.w X.K X.mg X.base Γ k m ps F cs ∧ Room k X.A
def tbNil : String → Option (List D → Option R) := fun _ => none
def tbG (cs : List String) (F : List D → Option R) (t : String → Option (List D → Option R)) : String → Option (List D → Option R) := fun c => if cs.contains c = true then some F else t c
section
variable {X : Cx} {Γ : Ct} {e o : Expr} {es : List Expr} {g go : ME} {gs : List ME} {f m x : Str} {p pos apos : Pos} {tb : String → Option (List D → Option R)}
end
structure a4E (a : Addr) (Hs H Hs' H' : Hp) : Prop where
  s : Same Hs Hs'
  h : ∀ b o, b ≠ a → H b = some o → H' b = some o
  i : Same Hs' H'
  n : ∀ b o, Hs' b = some o → Hs b = some o ∨ H b = none
theorem Grow.x {a : Addr} {Hs H Hs' H' : Hp} (g : Grow Hs H Hs' H') : a4E a Hs H Hs' H' := ⟨g.s, fun b o _ e => g.h b o e, g.i, g.n⟩
theorem a4E.trans {a : Addr} {Hs H Hs1 H1 Hs2 H2 : Hp} (x : a4E a Hs H Hs1 H1) (y : a4E a Hs1 H1 Hs2 H2) (ha : Hs1 a = none) (hb : ∃ o, H1 a = some o) : a4E a Hs H Hs2 H2 :=
  ⟨x.s.trans y.s, fun b o hb e => y.h b o hb (x.h b o hb e), y.i, fun b o e => by
    rcases y.n b o e with z | z
    · exact x.n b o z
    · by_cases hba : b = a
      · subst hba
        obtain ⟨o', ho'⟩ := hb
        rw [ho'] at z; cases z
      · right
        cases q : H b with
        | none => rfl
        | some u => rw [x.h b u hba q] at z; cases z⟩
theorem a4E.none {a : Addr} {Hs H Hs' H' : Hp} (g : a4E a Hs H Hs' H') {ho : HO} (h : Hs a = Option.none) (h' : H a = some ho) : Hs' a = Option.none := by
  cases q : Hs' a with
  | none => rfl
  | some u =>
    rcases g.n a u q with z | z
    · rw [h] at z; cases z
    · rw [h'] at z; cases z
inductive spI (Γ : Ct) (F : a5c) (vs : List V) (H : Hp) (Q : VK) (E : XK) : Prop
  | mk (a : Addr) (xs : List V) (Hs : Hp) (o : O) (ho : HO) (ds : List D) (o' : O) (ev : vs = .ref a :: xs) (sm : Same Hs H) (hs : Hs a = none) (hh : H a = some ho) (ro : RepO Γ Hs o ho) (rl : RepL Γ Hs ds xs) (e : F o ds = some o')
    (q : ∀ Hs' H' ho', a4E a Hs H Hs' H' → H' a = some ho' → RepO Γ Hs' o' ho' → Q .non H') (tb : Same Γ.tb Hs)
structure InitN (P : Program) (w : World) (K : PySem.W.Frag) (mg : Str → Option Value) (base : Heap) (Γ : Ct) (k : Nat) (c : String) (x : Str) (ps : List Str) (F : a5c) : Prop where
  ex : ∃ f fd, FnOk P w K mg base CX0 k f fd ps (spI Γ F) ∧ Binds K fd ps [] ∧ PySem.W.keepIn K (.ref f) = true ∧ Mk K (Γ.cls c) f ∧ PySem.W.findCls K (.ref (Γ.cls c)) (.type "type") "__init__" = some (.val (.ref f))
  at_ : mg x = some (.ref (Γ.cls c))
  sp : PySem.W.specialIn K (.ref (Γ.cls c)) "__getattribute__" = some (some (.builtin "type.__getattribute__"))
  rd : PySem.W.readsIn K (Γ.cls c) (.type "type") = true
section
variable {X : Cx} {Γ : Ct} {e o : Expr} {es : List Expr} {g go : ME} {gs : List ME} {f m x : Str} {p pos apos : Pos} {k : Nat} {c : String} {ps : List Str} {F : a5c}
end
inductive tX (Γ : Ct) (g : MG) (D : Ends) (σ : L2.St) (H : Hp) : Prop
  | mk (a : Addr) (B0 B1 Hs : Hp) (ρ : MEnv) (o : O) (ho : HO) (o' : O) (re : RE Γ B0 B1 Hs H σ ρ) (hb : B1 a = none) (no : ∀ (i : Nat) (u : O), ρ[i]? ≠ some (some (.own u))) (h0 : σ[0]? = some (some (.ref a))) (hs : Hs a = none) (hh : H a = some ho) (ro : RepO Γ Hs o ho) (e : g ρ o = some o')
    (q : ∀ Hs' H' ho', a4E a Hs H Hs' H' → H' a = some ho' → RepO Γ Hs' o' ho' → D.nx σ H')
abbrev PXD (X : Cx) (Γ : Ct) (st : Stmt) (g : MG) : Prop := PS X st (tX Γ g)
abbrev PXsD (X : Cx) (Γ : Ct) (st : List Stmt) (g : MG) : Prop := PSs X st (tX Γ g)
section
variable {X : Cx} {Γ : Ct} {st : Stmt} {rest : List Stmt} {g h : MG} {e o : Expr} {es : List Expr} {ge : ME} {gs : List ME} {f m x y : Str} {p px pos pos' apos cpos : Pos} {k : Nat} {c : String} {ps : List Str} {F : a5c}
end
end L3
namespace L3
open PySem PySem.Spec PyProof.Rows L2
section
variable {X : Cx} {Γ : Ct} {W : XW} {i : Nat} {x : Str} {e ek : Expr} {ge gk : ME} {px tpos pos : Pos}
theorem ixD_N {n j : Nat} {k : Int} (h : ixD n k = some j) : ixN n k = some j := h
theorem a5m (hv : PE X (.Name x px) (tVar i)) (hk : PD X Γ W ek gk) (he : PD X Γ W e ge)
    (ha : ∀ v, assign (.Subscript (.Name x px) ek tpos) X.env v = (do
      let ov ← holding [v] (eval (.Name x px) X.env)
      let iv ← holding [v, ov] (eval ek X.env)
      standAt tpos
      holding [v, ov, iv] (setItem ov iv v)
      release [v, ov, iv] []) := by intro _; rfl)
    (hs : swapsWithSole [.Subscript (.Name x px) ek tpos] e pos.line X.env = pure false := by rfl) (hw : swappedStores [.Subscript (.Name x px) ek tpos] e X.env = pure none := by rfl)
    (h1 : (assignEach [.Subscript (.Name x px) ek tpos] X.env).map (·.2) = [assign (.Subscript (.Name x px) ek tpos) X.env] := by rfl) : PSD X Γ W (.Assign [.Subscript (.Name x px) ek tpos] e pos) (a1C i gk ge) :=
  PS.imp (ps_asg he (pg_sub hv hk set_list ha) hs hw h1) fun pins s σ H En I ⟨B0, B1, Hs, ρ, o, re, eo, q⟩ => by
    refine (tD_O re eo q).mono fun y H1 ⟨Hs1, s, g1, rs, e5⟩ => ?_
    obtain ⟨Hs2, g2, _, rp⟩ := rs.share g1
    obtain ⟨ds, hd, e6⟩ := a4O e5
    have re2 := re.grow g2
    obtain ⟨a, ho, f1, f2, f3, f4, xs, rfl, rl⟩ := re2.own i _ hd
    refine ⟨.ref a, f1, (tD_O re2 e6 (q.from g2.s)).mono fun z H3 ⟨Hs3, sz, g3, rz, e7⟩ => ?_⟩
    obtain ⟨Hs4, g4, _, rzp⟩ := rz.share g3
    cases hz : sz.val with
    | int j =>
      rw [hz] at e7 rzp
      dsimp only at e7
      cases hx : ixD ds.length j with
      | none => rw [hx] at e7; cases e7
      | some n =>
        rw [hx] at e7
        cases e7
        refine ⟨a, xs, j, n, rfl, a0k.mp rzp, g4.h _ _ f4, by rw [← rl.length]; exact ixD_N hx, ?_⟩
        exact q σ Hs4 _ (g2.s.trans g4.s) ((re2.grow g4).write hd f1 ⟨_, rfl, (rl.mono g4.s).set (rp.mono g4.s) n⟩)
    | non => rw [hz] at e7; cases e7
    | bl _ => rw [hz] at e7; cases e7
    | str _ => rw [hz] at e7; cases e7
    | tup _ => rw [hz] at e7; cases e7
    | lst _ => rw [hz] at e7; cases e7
    | fn _ _ => rw [hz] at e7; cases e7
    | obj _ _ _ => rw [hz] at e7; cases e7
theorem pd_ixB {a b : Expr} {ga gb : ME} {pos : Pos} (hK : X.K = Γ.K) (ha : PL X Γ W a ga) (hb : PL X Γ W b gb) (hs : PlainIx b := by exact fun _ _ => rfl) : PD X Γ W (.Subscript a b pos) (a0i (f2 dIx) [ga, gb]) :=
  PE.imp (pe_ix (ixd (W := W) hK) ha hb hs) fun _ _ σ H Q _ t => by
    refine tL.mono (a5O t) fun x H1 t1 => tL.mono t1 fun y H2 t2 => ?_
    obtain ⟨Hs, ds, r, sm, rl, e, q, tb⟩ := t2
    obtain ⟨d, d', rfl, e'⟩ := f2_some e
    obtain ⟨x1, r1, e1, q1, t1⟩ := a0t.mp rl
    obtain ⟨y1, e2, q2⟩ := a5k t1
    subst e2
    cases e1
    exact ⟨Hs, d, d', r, sm, q1, q2, e', q⟩
end
end L3
namespace L3
open PySem PySem.Spec PyProof.Rows L2
structure LaidM (K : PySem.W.Frag) (cls : String → Addr) (m qual : Str) (st : Stmt) (ps : List Str) (cs : List String) : Prop where
  ex : ∃ f fd, Fun K m qual st f fd ∧ Binds K fd ps [] ∧ ∀ c ∈ cs, Cls K (cls c) ∧ Meth K (cls c) m f
structure LaidI (K : PySem.W.Frag) (mg : Str → Option Value) (cls : String → Addr) (c : String) (x qual : Str) (st : Stmt) (ps : List Str) : Prop where
  ex : ∃ f fd, Fun K "__init__" qual st f fd ∧ Binds K fd ps [] ∧ Mk K (cls c) f ∧ PySem.W.findCls K (.ref (cls c)) (.type "type") "__init__" = some (.val (.ref f))
  at_ : mg x = some (.ref (cls c))
  sp : PySem.W.specialIn K (.ref (cls c)) "__getattribute__" = some (some (.builtin "type.__getattribute__"))
  rd : PySem.W.readsIn K (cls c) (.type "type") = true
section
variable {P : Program} {w : World} {K : PySem.W.Frag} {mg : Str → Option Value} {base : Heap} {Γ : Ct}
end
theorem all_cons {α : Type} {p : α → Prop} {a : α} {l : List α} (h : p a) (t : ∀ c ∈ l, p c) : ∀ c ∈ a :: l, p c := fun c hc => by
  rcases List.mem_cons.mp hc with rfl | h'
  · exact h
  · exact t c h'
def clsF : List (String × Addr) → String → Addr
  | [], _ => 0
  | (c, a) :: r, s => if s = c then a else clsF r s
end L3
namespace L3
open PySem PySem.Spec PyProof.Rows L2
structure IsTab (K : PySem.W.Frag) (cls : String → Addr) (C : Addr) (mg : Str → Option Value) (x : Str) (tb : String → Option Bool) : Prop where
  ok : ∀ c b, tb c = some b → Cls K (cls c) ∧ (PySem.W.findIn K (.ref (cls c)) "__class__" = some (some (.builtin "object.__class__")) ∧ PySem.W.specialIn K (.builtin "object.__class__") "__get__" = some (some (.builtin "getset_descriptor.__get__")) ∧ PySem.W.takesIn K (.builtin "object.__class__") = some true ∧ PySem.W.mroIn K (cls c) (.type "object") = some true) ∧ PySem.W.kitOne K (.ref (cls c)) (.ref C) = some b
  at_ : mg x = some (.ref C)
section
variable {X : Cx} {Γ : Ct} {W : XW}
end
end L3
namespace L3
open PySem PySem.Spec PyProof.Rows L2
section
variable {X : Cx} {Γ : Ct} {W : XW}
end
end L3
namespace L3
open PySem PySem.Spec PyProof.Rows L2
end L3
namespace L3
open PySem PySem.Spec PyProof.Rows L2
section
variable {X : Cx} {Γ : Ct} {W : XW} {es : List Expr} {gs : List ME} {g : ME} {pos : Pos}
theorem padC {c j} (h : PD X Γ W (.Constant c j pos) g) (t : PAD X Γ W es gs) : PAD X Γ W (.Constant c j pos :: es) (g :: gs) := a0V h t rfl
theorem padN {x} (h : PD X Γ W (.Name x pos) g) (t : PAD X Γ W es gs) : PAD X Γ W (.Name x pos :: es) (g :: gs) := a0V h t rfl
theorem padB {a op b} (h : PD X Γ W (.BinOp a op b pos) g) (t : PAD X Γ W es gs) : PAD X Γ W (.BinOp a op b pos :: es) (g :: gs) := a0V h t rfl
theorem padS {a b} (h : PD X Γ W (.Subscript a b pos) g) (t : PAD X Γ W es gs) : PAD X Γ W (.Subscript a b pos :: es) (g :: gs) := a0V h t rfl
theorem padK {f as ks} (h : PD X Γ W (.Call f as ks pos) g) (t : PAD X Γ W es gs) : PAD X Γ W (.Call f as ks pos :: es) (g :: gs) := a0V h t rfl
theorem padU {op a} (h : PD X Γ W (.UnaryOp op a pos) g) (t : PAD X Γ W es gs) : PAD X Γ W (.UnaryOp op a pos :: es) (g :: gs) := a0V h t rfl
end
end L3
namespace L3
open PySem PySem.Spec PyProof.Rows L2
def constD : PySem.Expr → Option D
  | .Constant (.str s) _ _ => some (.str s)
  | .Constant (.int i) _ _ => some (.int i)
  | _ => none
def dsOf : List PySem.Expr → Option (List D)
  | [] => some []
  | e :: es => match constD e, dsOf es with
    | some d, some ds => some (d :: ds)
    | _, _ => none
end L3
namespace L3
open PySem PySem.Spec PyProof.Rows L2
section
variable {X : Cx} {Γ : Ct} {W : XW} {a b : Expr} {ga gb : ME} {pos : Pos}
end
end L3
namespace L3
open PySem PySem.Spec PyProof.Rows L2
section
variable {X : Cx} {Γ : Ct} {W : XW}
theorem psS {i : Nat} {x : Str} {pos' pos : Pos} {e : Expr} {ge : ME} (hN : X.N.Nodup) (hi : X.N[i]? = some x) (he : PD X Γ W e ge) (hx : Loc X.env.scope x := by first | exact Or.inl rfl | exact Or.inr rfl) (hs : swapsWith e (some (.Name x pos')) pos.line X.env = pure false := by rfl)
    (hf : X.fn x = true ∨ X.env.scope.names.lookup x = some .local := by first | exact .inl rfl | exact .inr rfl | assumption) : PSD X Γ W (.Assign [.Name x pos'] e pos) (sSet i ge) := psd_set hN hi hx he hs hf
theorem pbN {j : Nat} {x : Str} {pos : Pos} (hN : X.N.Nodup) (hi : X.N[j]? = some x) (hx : Loc X.env.scope x := by first | exact Or.inl rfl | exact Or.inr rfl) (hf : X.fn x = true ∨ X.env.scope.names.lookup x = some .local := by first | exact .inl rfl | exact .inr rfl | assumption) : PBD X Γ (.Name x pos) [j] (a0Z j) := pbd_name hN hi hx hf
end
end L3
namespace L3
open PySem PySem.Spec PyProof.Rows L2 PySem.SeqAt
section
variable {X : Cx} {Γ : Ct} {W : XW} {pins : List (Addr × Obj)} {σ : L2.St} {H : Hp} {s : Shared}
end
end L3
namespace L3
open PySem PySem.Spec PyProof.Rows L2 PySem.SeqAt
section
variable {X : Cx} {Γ : Ct} {W : XW} {pins : List (Addr × Obj)} {σ : L2.St} {H : Hp} {s : Shared}
end
section
variable {X : Cx} {Γ : Ct} {W : XW}
variable {i : Nat} {x : Str} {px apos cpos pos : Pos}
end
end L3
namespace L3
open PySem PySem.Spec PyProof.Rows L2
section
variable {Γ : Ct} {W : XW} {js : List Nat} {gi : MI} {bd : MB} {elt : ME}
end
section
variable {X : Cx} {Γ : Ct} {W : XW} {scope : Scope} {vars : List Str} {js : List Nat} {elt tg iter c : Expr} {pos pos' spos px p0 sp apos cpos p1 epos : Pos} {gi : MI} {bd : MB} {ge : ME} {i : Nat} {x : Str} {rest : List Stmt} {g2 : MC} {n : Int}
end
end L3
namespace L3
open PySem PySem.Spec PyProof.Rows L2
section
variable {X : Cx} {Γ : Ct} {W : XW}
end
end L3
namespace L3
open PySem PySem.Spec PyProof.Rows L2
section
variable {X : Cx} {Γ : Ct} {W : XW}
theorem RepL.reverse {H : Hp} : ∀ {ds : List D} {xs : List V}, RepL Γ H ds xs → RepL Γ H ds.reverse xs.reverse
  | [], xs, h => by rw [a03.mp h]; exact .nil
  | d :: ds, xs, h => by
    obtain ⟨x, r, rfl, q, t⟩ := a0t.mp h
    rw [List.reverse_cons, List.reverse_cons]
    exact (RepL.reverse t).append (.cons q .nil)
inductive tK (Γ : Ct) (g : ME) (σ : L2.St) (H : Hp) (Q : VK) : Prop
  | mk (B0 B1 Hs : Hp) (ρ : MEnv) (ks : List Int) (re : RE Γ B0 B1 Hs H σ ρ) (e : g ρ = okD (.tup (ks.map D.int))) (q : ∀ b H', Same H H' → H' b = some (.tup (ks.map V.int)) → Q (.ref b) H')
abbrev PK (X : Cx) (Γ : Ct) (e : Expr) (g : ME) : Prop := PE X e (tK Γ g)
variable {i : Nat} {x : Str} {px apos cpos pos pos' zpos : Pos} {k : Expr} {gk : ME}
end
end L3
namespace L3
open PySem PySem.Spec PyProof.Rows L2
section
variable {X : Cx} {Γ : Ct} {W : XW}
def GV (mg : Str → Option Value) (x : Str) (d : D) : Prop := ∃ u v, mg x = some u ∧ RelV v u ∧ ∀ (Γ : Ct) (H : Hp), Rep Γ H d v
theorem GV.str {mg : Str → Option Value} {x z : Str} {t : Tok} (h : mg x = some (.str z t)) : GV mg x (.str z) := ⟨_, .str z, h, ⟨t, rfl⟩, fun _ _ => a0D.mpr rfl⟩
theorem GV.int {mg : Str → Option Value} {x : Str} {i : Int} {t : Tok} (h : mg x = some (.int i t)) : GV mg x (.int i) := ⟨_, .int i, h, ⟨t, rfl⟩, fun _ _ => a0k.mpr rfl⟩
variable {o e : Expr} {go ge : ME} {apos cpos : Pos}
end
end L3
namespace L3
open PySem PySem.Spec PyProof.Rows L2 PySem.W
def Clo (L : LamT) (H : Hp) (a : Addr) (xs : List V) : Prop :=
  ∃ (cs : List Addr) (pm : Value) (c : Addr) (ctv : Value), H a = some (.frz (L.obj (L.fv.zip cs) pm c ctv) (.fnc c L.qual)) ∧ a1d H cs xs ∧ cs.Nodup ∧ cs.length = L.fv.length
theorem Clo.mono {L : LamT} {H H' : Hp} {a : Addr} {xs : List V} (s : Same H H') (h : Clo L H a xs) : Clo L H' a xs := by
  obtain ⟨cs, pm, c, ctv, e, r, q⟩ := h
  exact ⟨cs, pm, c, ctv, s _ _ e, r.mono s, q⟩
def ctP (K : PySem.W.Frag) (cls : String → Addr) (lams : Nat → Option LamT) (P : Addr) (good : Pos → Option Str) : Ct :=
  ⟨K, cls, fun k H a xs => ∃ L, lams k = some L ∧ Clo L H a xs, fun s ⟨L, e, h⟩ => ⟨L, e, h.mono s⟩, fun b => if b = P then some (.tab good) else none⟩
mutual
theorem Rep.to {Γ : Ct} {H H' : Hp} (k : ∀ b u, H b = some u → (∀ o c, u ≠ .frz o (.own c)) → H' b = some u) : ∀ {d : D} {v : V}, noFn d = true → Rep Γ H d v → Rep Γ H' d v
  | .non, _, _, r => by unfold Rep at r ⊢; exact r
  | .bl _, _, _, r => by unfold Rep at r ⊢; exact r
  | .int _, _, _, r => by unfold Rep at r ⊢; exact r
  | .str _, _, _, r => by unfold Rep at r ⊢; exact r
  | .tup ds, _, n, r => by
    unfold Rep at r ⊢
    obtain ⟨a, xs, e1, q, r⟩ := r
    refine ⟨a, xs, e1, ?_, RepL.to k (by unfold noFn at n; exact n) r⟩
    rcases q with (q | ⟨o, q⟩) | q
    · exact .inl (.inl (k _ _ q fun _ _ z => nomatch z))
    · exact .inl (.inr ⟨o, k _ _ q fun _ _ z => by cases z⟩)
    · exact .inr q
  | .lst ds, _, n, r => by
    unfold Rep at r ⊢
    obtain ⟨a, xs, e1, q, r⟩ := r
    refine ⟨a, xs, e1, ?_, RepL.to k (by unfold noFn at n; exact n) r⟩
    rcases q with (q | ⟨o, q⟩) | q
    · exact .inl (.inl (k _ _ q fun _ _ z => nomatch z))
    · exact .inl (.inr ⟨o, k _ _ q fun _ _ z => by cases z⟩)
    · exact .inr q
  | .obj c ns ds, _, n, r => by
    unfold Rep at r ⊢
    obtain ⟨a, dx, xs, e1, q, r⟩ := r
    exact ⟨a, dx, xs, e1, k _ _ q (fun _ _ z => nomatch z), RepL.to k (by unfold noFn at n; exact n) r⟩
  | .fn _ _, _, n, _ => by unfold noFn at n; cases n
theorem RepL.to {Γ : Ct} {H H' : Hp} (k : ∀ b u, H b = some u → (∀ o c, u ≠ .frz o (.own c)) → H' b = some u) : ∀ {ds : List D} {xs : List V}, a2u ds = true → RepL Γ H ds xs → RepL Γ H' ds xs
  | [], _, _, r => by unfold RepL at r ⊢; exact r
  | d :: ds, _, n, r => by
    unfold RepL at r ⊢
    unfold a2u at n
    rw [Bool.and_eq_true] at n
    obtain ⟨x, r', e1, q, r2⟩ := r
    exact ⟨x, r', e1, Rep.to k n.1 q, RepL.to k n.2 r2⟩
end
structure a3K (P : Program) (w : World) (K : PySem.W.Frag) (mg : Str → Option Value) (base : Heap) (Γ : Ct) (j k : Nat) (F : List D → Option R) : Prop where
  fn : ∀ H a xs, Γ.clo k H a xs → ∃ fd u, H a = some (.frz { cls := .type "function", data := .func fd } u)
  run : ∀ (A : Around) (outer : List PySem.Env) (s : Shared) (H Hs : Hp) (a : Addr) (xs : List V) (ds : List D) (v : V) (u : Value) (d : D) (r : S) (Q : VK), Room j A → Env0 P w K mg base A outer s H → Same Hs H → Same Γ.tb Hs → Γ.clo k Hs a xs → RepL Γ Hs ds xs →
    RelV v u → Rep Γ Hs d v → noFn d = true → a2u ds = true → F (d :: ds) = some (.ok r) → flat r.val = true → (∀ v' H', Same H H' → Rep Γ H' r.val v' → Q v' H') → codeAny (model P w) A (.call (.ref a) ⟨[u], []⟩) (CR CX0 outer P w H s Q E0) s
theorem a3K.mono {P : Program} {w : World} {K : PySem.W.Frag} {mg : Str → Option Value} {base : Heap} {Γ : Ct} {i j k : Nat} {F : List D → Option R} (h : a3K P w K mg base Γ i k F) (l : i ≤ j) : a3K P w K mg base Γ j k F :=
  ⟨h.fn, fun A outer s H Hs a xs ds v u d r Q hr => h.run A outer s H Hs a xs ds v u d r Q (hr.mono l)⟩
theorem a7f {P : Program} {w : World} {K : PySem.W.Frag} {mg : Str → Option Value} {base : Heap} {Γ : Ct} {j k : Nat} {g : ME} {N : List Str} {L : LamT} (S : a2m N L)
    (hbind : ∀ (pm : Value) (clos : List (Str × Addr)) (c : Addr) (ctv u : Value), bindArgs (kla_fn "<lambda>" L.qual L.params L.body L.scope clos pm (.ref c) ctv) ⟨[u], []⟩ = pure [(L.par, u)])
    (hclo : ∀ H a xs, Γ.clo k H a xs → Clo L H a xs) (htb : ∀ b o, Γ.tb b = some o → ∃ good, o = .tab good)
    (body : ∀ (A : Around) (outer : List PySem.Env) (s : Shared) (H : Hp) (f c : Addr) (clos : List (Str × Addr)), Room j (A.deeper (a3g L s.heap.objs.size f c clos)) → PD (cxLam P w K mg base N L f c clos A outer s H) Γ W0 L.body g) :
    a3K P w K mg base Γ (j + 1) k (fnL N.length g) := by
  refine ⟨fun H a xs h => ?_, fun A outer s H Hs a xs ds v u d r Q hr e0 sm tb cl rl rv rd n1 n2 e fl hQ => ?_⟩
  · obtain ⟨cs, pm, c, ctv, e, _⟩ := hclo H a xs h
    exact ⟨_, _, e⟩
  · obtain ⟨cs, pm, c, ctv, ha, hcs, nd, hl⟩ := hclo Hs a xs cl
    have kp : ∀ b u, Hs b = some u → (∀ o c, u ≠ .frz o (.own c)) → without Hs cs b = some u := fun b u e n => by
      rw [a1Y]
      · exact e
      · intro hm
        obtain ⟨o, u', q, _⟩ := hcs.mem b hm
        rw [q] at e; cases e
        exact n _ _ rfl
    refine run_lam (t := tD Γ W0 g) S hbind hr e0 (sm _ _ ha) (hcs.mono sm) nd hl rv (body A outer s (without H cs) a c _ (hr.deeper _)) ⟨without Hs cs, without H cs, without Hs cs, a1B N.length (d :: ds), .ok r, ?_, e, ?_⟩
    · refine a39 (fun b o q => ?_) (.cons (rd.to kp n1) (rl.to kp n2)) fun b o q => ?_
      · obtain ⟨hb, q⟩ := a3d q
        rw [a1Y hb]; exact sm _ _ q
      · obtain ⟨good, rfl⟩ := htb b o q
        exact kp _ _ (tb _ _ q) fun _ _ z => nomatch z
    · intro v' Hs' H2 gr rs
      refine hQ v' _ (fun b o q => ?_) (a38 (rs.look gr) fl)
      by_cases hb : b ∈ cs
      · rw [a20 hb]; exact q
      · rw [a4B hb]; exact gr.h _ _ (by rw [a1Y hb]; exact q)
def TabL (X : Cx) (Γ : Ct) (T : Nat → Option (List D → Option R)) : Prop := ∀ k F, T k = some F → ∃ j, Room j X.A ∧ a3K X.prog X.w X.K X.mg X.base Γ j k F
section
variable {X : Cx} {Γ : Ct} {T : Nat → Option (List D → Option R)} {i : Nat} {x : Str} {p pos : Pos} {e : Expr} {ga : ME}
theorem pd_callC (hT : TabL X Γ T) (hv : PE X (.Name x p) (tVar i)) (ha : PAD X Γ W0 [e] [ga])
    (he : starEach [e] X.env = (false, eval e X.env) :: starEach [] X.env := by rfl) :
    PD X Γ W0 (.Call (.Name x p) [e] [] pos) (a2x T i ga) := by
  intro pins s σ H Q I ⟨B0, B1, Hs, ρ, r, re, e1, q⟩
  unfold a2x at e1
  split at e1
  · rename_i k ds hρ
    obtain ⟨v, hσ, rp⟩ := re.sh i _ hρ
    obtain ⟨a, xs, rfl, cl, rl⟩ := a5T.mp rp
    refine wpAny_Call_Name_kw (thn (hv pins s σ H (fun v' H' => v' = .ref a ∧ H' = H) I ⟨_, hσ, rfl, rfl⟩) fun f s1 ⟨v', H', I1, r1, ev, eH⟩ => ?_)
    subst ev; subst eH
    obtain rfl : f = Value.ref a := r1
    have step := a1p re e1 q
    rw [he]
    refine callWith_of (P := fun h => ∃ fd, h.get? a = some { cls := .type "function", data := .func fd }) (by show ((false || (backTo pos (starEach [] X.env)).any (·.1)) || false) = false; rfl) (fun h ⟨fd, eh⟩ => ⟨.frame, .inl rfl, (Looks.ld (part := none) eh).andThen .now⟩) (Calls.evalArgs_plain ?_)
    have ha' := ha pos pins s1 σ H' (fun vs H1 => ∃ v1, vs = [v1] ∧ ∃ Hs1 d, Grow Hs H' Hs1 H1 ∧ RE Γ B0 B1 Hs1 H1 σ ρ ∧ Rep Γ Hs1 d v1 ∧ (if (noFn d && a2u ds) = true then (match T k with | some F => a3x (F (d :: ds)) | none => none) else none) = some r ∧ RQ Γ W0 Hs1 H1 r Q) I1 (step.mono fun v1 H1 z => ⟨v1, rfl, z⟩)
    rw [he] at ha'
    refine thn ha' fun us s2 ⟨vs, H2, I2, r2, v1, evs, Hs1, d, g1, re1, rd, e2, q2⟩ => ?_
    subst evs
    obtain ⟨u, rfl, ru⟩ := vals1 r2
    split at e2
    · rename_i hn
      rw [Bool.and_eq_true] at hn
      split at e2
      · rename_i F hF
        obtain ⟨j, hr, ok⟩ := hT k F hF
        have cl2 := Γ.cloM g1.s cl
        obtain ⟨fd, uo, hfd⟩ := ok.fn Hs1 a xs cl2
        cases hFr : F (d :: ds) with
        | none => rw [hFr] at e2; cases e2
        | some R0 =>
          rw [hFr] at e2
          cases R0 with
          | exc y => cases e2
          | ok s0 =>
            have e3 : (if flat s0.val = true then okD s0.val else none) = some r := e2
            split at e3
            · rename_i hfl
              cases e3
              refine ⟨⟨fd, (I2.hok a _ (g1.i _ _ hfd)).1⟩, ?_⟩
              refine wpAny_call (codeAny_mono (ok.run X.A X.stack s2 H2 Hs1 a xs ds v1 u d s0 Q hr I2.env0 g1.i re1.tb cl2 (rl.mono g1.s) ru rd hn.1 hn.2 hFr hfl fun v' H' sm' rp' => ?_) fun r s' hq => ?_)
              · exact q2 v' Hs1 H' (.only g1.i sm') (RepS.of (a38 rp' hfl))
              · cases r with
                | error e => exact hq.elim
                | ok fl =>
                  cases fl with
                  | ret u => exact I2.after hq
                  | next => exact False.elim hq
                  | brk => exact False.elim hq
                  | cont => exact False.elim hq
            · cases e3
      · cases e2
    · cases e2
  · cases e1
end
end L3
namespace L3
open PySem PySem.Spec PyProof.Rows L2 PySem.W
def SPR (X : Cx) (pins : List (Addr × Obj)) (R : V → L2.St → Hp → Prop) (f : Flow) (s' : Shared) : Prop := match f with
  | .ret u => ∃ v σ' H', Inv X pins σ' H' s' ∧ RelV v u ∧ R v σ' H'
  | _ => False
def PR (X : Cx) (sts : List Stmt) (t : (V → L2.St → Hp → Prop) → L2.St → Hp → Prop) : Prop :=
  ∀ (pins : List (Addr × Obj)) (s : Shared) (σ : L2.St) (H : Hp) (R : V → L2.St → Hp → Prop), Inv X pins σ H s → t R σ H → wpAny (model X.prog X.w) X.A (execs sts X.env) (SPR X pins R) X.xe s
inductive a7G (X : Cx) (lams : Nat → Option LamT) (Γ : Ct) (B0 B1 : Hp) (σ' : L2.St) (H' : Hp) : D → V → Prop
  | mk (Hs' : Hp) (ρ' : MEnv) (k : Nat) (is : List Nat) (ds : List D) (L : LamT) (a : Addr) (pm : Value) (c : Addr) (ctv : Value) (cs : List Addr) (hL : lams k = some L) (re : RE Γ B0 B1 Hs' H' σ' ρ') (ha : Hs' a = some (.frz (L.obj (L.fv.zip cs) pm c ctv) (.fnc c L.qual)))
      (hv : a3v ρ' is = some ds) (hn : is.map (X.N[·]?) = L.fv.map some) (hc : ∀ (j : Nat) (y : Str), L.fv[j]? = some y → ∃ c, cs[j]? = some c ∧ X.env.cells.lookup y = some c) (hl : cs.length = L.fv.length) : a7G X lams Γ B0 B1 σ' H' (.fn k ds) (.ref a)
inductive tR (X : Cx) (lams : Nat → Option LamT) (Γ : Ct) (g : MCl) (R : V → L2.St → Hp → Prop) (σ : L2.St) (H : Hp) : Prop
  | mk (B0 B1 Hs : Hp) (ρ : MEnv) (d : D) (re : RE Γ B0 B1 Hs H σ ρ) (e : g ρ = some d) (q : ∀ v σ' H', a7G X lams Γ B0 B1 σ' H' d v → R v σ' H')
abbrev PRD (X : Cx) (lams : Nat → Option LamT) (Γ : Ct) (sts : List Stmt) (g : MCl) : Prop := PR X sts (tR X lams Γ g)
theorem RE.dems {Γ : Ct} {B0 B1 H : Hp} {σ : L2.St} : ∀ (is : List Nat) {Hs : Hp} {ρ : MEnv}, RE Γ B0 B1 Hs H σ ρ → ∃ Hs', Same Hs Hs' ∧ RE Γ B0 B1 Hs' H σ (L3.dems is ρ)
  | [], Hs, ρ, re => ⟨Hs, .refl _, re⟩
  | i :: is, Hs, ρ, re => by
    obtain ⟨Hs1, s1, re1⟩ := re.dem i
    obtain ⟨Hs2, s2, re2⟩ := RE.dems is re1
    exact ⟨Hs2, s1.trans s2, re2⟩
theorem fm_all {g : Str → Option Addr} : ∀ {fv : List Str}, (∀ y ∈ fv, ∃ c, g y = some c) → (fv.filterMap g).length = fv.length ∧ ∀ (j : Nat) (y : Str), fv[j]? = some y → ∃ c, (fv.filterMap g)[j]? = some c ∧ g y = some c
  | [], _ => ⟨rfl, fun j y h => by simp at h⟩
  | f :: fv, h => by
    obtain ⟨c, hc⟩ := h f List.mem_cons_self
    obtain ⟨h1, h2⟩ := fm_all (fv := fv) fun y hy => h y (List.mem_cons_of_mem _ hy)
    have e : (f :: fv).filterMap g = c :: fv.filterMap g := by rw [List.filterMap_cons, hc]
    rw [e]
    refine ⟨by rw [List.length_cons, List.length_cons, h1], fun j y hy => ?_⟩
    cases j with
    | zero =>
      simp at hy; subst hy
      exact ⟨c, rfl, hc⟩
    | succ j =>
      obtain ⟨c', q1, q2⟩ := h2 j y (by simpa using hy)
      exact ⟨c', by simpa using q1, q2⟩
section
variable {X : Cx} {Γ : Ct} {lams : Nat → Option LamT} {st : Stmt} {rest a : List Stmt} {g1 : MC} {g2 ga gb : MCl} {gc : ME} {c : Expr} {pos pos' : Pos}
theorem a63 (h1 : PSD X Γ W0 st g1) (h2 : PRD X lams Γ rest g2) : PRD X lams Γ (st :: rest) (cSeq g1 g2) := by
  intro pins s σ H R I ⟨B0, B1, Hs, ρ, d, re, e, q⟩
  unfold cSeq at e
  split at e
  · rename_i ρ' h
    refine wpAny_execs_cons (thn (h1 pins s σ H { nx := fun σ' H' => tR X lams Γ g2 R σ' H', rt := fun _ _ => False } I ⟨B0, B1, Hs, ρ, .next ρ', re, h, fun σ' Hs' H' sm re' => ⟨B0, B1, Hs', ρ', d, re', e, q⟩⟩) fun f s1 z => ?_)
    cases f with
    | next =>
      obtain ⟨σ', H', I', z⟩ := z
      exact h2 pins s1 σ' H' R I' z
    | ret v => obtain ⟨_, _, _, _, _, z⟩ := z; exact z.elim
    | brk => obtain ⟨_, _, _, z⟩ := z; exact z.elim
    | cont => obtain ⟨_, _, _, z⟩ := z; exact z.elim
  · cases e
theorem prd_if (hc : PTD X Γ W0 c gc) (ha : PRD X lams Γ a ga) (hb : PRD X lams Γ rest gb) : PRD X lams Γ (.If c a [] pos :: rest) (cIf gc ga gb) := by
  intro pins s σ H R I ⟨B0, B1, Hs, ρ, d, re, e, q⟩
  unfold cIf at e
  split at e
  · rename_i s0 h
    split at e
    · rename_i t et
      refine wpAny_execs_cons (wpAny_If (thn (hc pins s σ H (fun b H1 => b = t ∧ ∃ Hs', Grow Hs H Hs' H1) I ⟨B0, B1, Hs, ρ, .ok s0, re, h, ⟨t, et, fun Hs' H' g' => ⟨rfl, Hs', g'⟩⟩⟩) fun b s1 ⟨H1, I1, eb, Hs', g'⟩ => ?_))
      subst eb
      cases b with
      | true =>
        refine thn (ha pins s1 σ H1 R I1 ⟨B0, B1, Hs', ρ, d, re.grow g', e, q⟩) fun f s2 z => ?_
        cases f with
        | next => exact z.elim
        | ret v => exact z
        | brk => exact z.elim
        | cont => exact z.elim
      | false => exact wpAny_execs_nil (hb pins s1 σ H1 R I1 ⟨B0, B1, Hs', ρ, d, re.grow g', e, q⟩)
    · cases e
  · cases e
theorem a5o {k : Nat} {is : List Nat} {L : LamT} {P cc : Addr} {good : Pos → Option Str} (hL : lams k = some L) (hn : is.map (X.N[·]?) = L.fv.map some) (hk : ∀ y ∈ L.fv, X.env.kindOf y = some .cell) (htb : Γ.tb P = some (.tab good)) (hgp : a5K good) (hC : CodeHd X.base cc P) (hcode : X.env.code = .ref cc) (hB : BltM X.mg X.base)
    (hq : X.env.qual ++ "<lambda>" = L.qual) (hg : good pos = some L.qual) (hcl : closureFor L.scope X.env = pure (L.fv.zip (L.fv.filterMap (X.env.cells.lookup ·)))) (hdef : defaultsOf L.params X.env = ([], [])) :
    PRD X lams Γ [.Return (some (.Lambda L.params L.body L.scope pos)) pos'] (cLam k is) := by
  intro pins s σ H R I ⟨B0, B1, Hs, ρ, d, re, e, q⟩
  unfold cLam at e
  obtain ⟨Hs1, s1, re1⟩ := re.dems is
  cases hh : a3v (L3.dems is ρ) is with
  | none => rw [hh] at e; cases e
  | some ds =>
    rw [hh] at e
    cases e
    obtain ⟨f1, f2⟩ := fm_all (g := (X.env.cells.lookup ·)) (fv := L.fv) fun y hy => I.ok.has y (.inl (hk y hy))
    refine wpAny_execs_cons (wpAny_Return_some (thn (pe_lam hgp hC hcode hB hq hg hcl hdef pins s σ H (fun v H' => a7G X lams Γ B0 B1 σ H' (.fn k ds) v) I ⟨re.b.i _ _ (re.tb _ _ htb), fun H0 a pm c ctv sm n => ?_⟩) fun u s2 ⟨v, H1, I1, r1, q1⟩ => ⟨v, σ, H1, I1, r1, q v σ H1 q1⟩))
    have hH : H a = none := sm.free n
    have hS : Hs1 a = none := re1.b.i.free hH
    refine .mk (upd Hs1 a _) (L3.dems is ρ) k is ds L a pm c ctv _ hL (re1.grow ⟨a0Q hS, sm.trans (a0Q n), fun b o z => ?_, fun b o z => ?_⟩) upd_same hh hn f2 f1
    · by_cases hb : b = a
      · subst hb; rw [upd_same] at z ⊢; exact z
      · rw [upd_ne hb] at z ⊢; exact sm _ _ (re1.b.i _ _ z)
    · by_cases hb : b = a
      · subst hb; exact .inr hH
      · rw [upd_ne hb] at z; exact .inl z
end
theorem a5X {ρ : MEnv} : ∀ {is : List Nat} {ds : List D}, a3v ρ is = some ds → is.length = ds.length ∧ ∀ (j i : Nat), is[j]? = some i → ∃ d, ds[j]? = some d ∧ ρ[i]? = some (some (.sh d))
  | [], ds, h => by cases h; exact ⟨rfl, fun j i h => by simp at h⟩
  | i :: is, ds, h => by
    unfold a3v at h
    split at h
    · rename_i d hd
      cases hh : a3v ρ is with
      | none => rw [hh] at h; cases h
      | some es =>
        rw [hh] at h
        cases h
        obtain ⟨h1, h2⟩ := a5X hh
        refine ⟨by rw [List.length_cons, List.length_cons, h1], fun j i' hj => ?_⟩
        cases j with
        | zero => simp at hj; subst hj; exact ⟨d, rfl, hd⟩
        | succ j => obtain ⟨d', q1, q2⟩ := h2 j i' (by simpa using hj); exact ⟨d', by simpa using q1, q2⟩
    · cases h
theorem a4N {α β γ : Type} {F : α → β → Prop} {G : γ → β → Prop} : ∀ {l : List α} {m : List γ}, l.length = m.length → (∀ (j : Nat) (a : α) (c : γ), l[j]? = some a → m[j]? = some c → ∃ b, F a b ∧ G c b) → ∃ xs, Paired F l xs ∧ Paired G m xs
  | [], [], _, _ => ⟨[], .nil, .nil⟩
  | [], _ :: _, h, _ => by simp at h
  | _ :: _, [], h, _ => by simp at h
  | a :: l, c :: m, hl, h => by
    obtain ⟨b, f, g⟩ := h 0 a c rfl rfl
    obtain ⟨xs, p1, p2⟩ := a4N (F := F) (G := G) (l := l) (m := m) (by simpa using hl) fun j a' c' h1 h2 => h (j + 1) a' c' (by simpa using h1) (by simpa using h2)
    exact ⟨b :: xs, .cons f p1, .cons g p2⟩
theorem a60 {Γ : Ct} {H : Hp} : ∀ {ds : List D} {xs : List V}, Paired (fun d v => Rep Γ H d v) ds xs → RepL Γ H ds xs
  | _, _, .nil => .nil
  | _, _, .cons r t => .cons r (a60 t)
def a1n (h : Heap) (cs : List Addr) (H : Hp) : Hp := fun b => if b ∈ cs then (h.get? b).map (fun o => HO.frz o (.own b)) else H b
theorem a1K {h : Heap} {cs : List Addr} {H : Hp} {b : Addr} (n : b ∉ cs) : a1n h cs H b = H b := by unfold a1n; rw [if_neg n]
theorem a3D {h : Heap} {cs : List Addr} {H : Hp} {b : Addr} {o : Obj} (m : b ∈ cs) (e : h.get? b = some o) : a1n h cs H b = some (.frz o (.own b)) := by unfold a1n; rw [if_pos m, e]; rfl
theorem a5V {α : Type} : ∀ {l : List α}, (∀ (i j : Nat) (a : α), l[i]? = some a → l[j]? = some a → i = j) → l.Nodup
  | [], _ => .nil
  | a :: l, h => by
    refine List.nodup_cons.mpr ⟨fun hm => ?_, a5V fun i j b h1 h2 => ?_⟩
    · obtain ⟨j, hj, e⟩ := List.getElem_of_mem hm
      have := h 0 (j + 1) a rfl (by simpa [List.getElem?_eq_getElem hj] using e)
      omega
    · have := h (i + 1) (j + 1) b (by simpa using h1) (by simpa using h2)
      omega
theorem a4T {α : Type} : ∀ {l : List α} {i j : Nat} {a : α}, l.Nodup → l[i]? = some a → l[j]? = some a → i = j
  | [], _, _, _, _, h, _ => by simp at h
  | b :: l, 0, 0, _, _, _, _ => rfl
  | b :: l, 0, j + 1, a, nd, h1, h2 => by
    simp at h1; subst h1
    exact absurd (List.mem_of_getElem? (by simpa using h2)) (List.nodup_cons.mp nd).1
  | b :: l, i + 1, 0, a, nd, h1, h2 => by
    simp at h2; subst h2
    exact absurd (List.mem_of_getElem? (by simpa using h1)) (List.nodup_cons.mp nd).1
  | b :: l, i + 1, j + 1, a, nd, h1, h2 => by
    exact congrArg (· + 1) (a4T (i := i) (j := j) (a := a) (List.nodup_cons.mp nd).2 (by simpa using h1) (by simpa using h2))
section
variable {P : Program} {w : World} {K : PySem.W.Frag} {mg : Str → Option Value} {base : Heap} {Γ : Ct}
theorem fn_clo {x qual : Str} {st : Stmt} {f cc : Addr} {fd : FuncData} {N ps : List Str} {k : Nat} {g : MCl} {lams : Nat → Option LamT} (F : Fun K x qual st f fd) (hcd : fd.code = .ref cc) (S : FnScope N ps (defScope st))
    (hclo : ∀ k L H a xs, lams k = some L → Clo L H a xs → Γ.clo k H a xs) (hfv : ∀ k L, lams k = some L → L.fv.Nodup ∧ ∀ y ∈ L.fv, (defScope st).names.lookup y = some .cell)
    (body : ∀ (A : Around) (outer : List PySem.Env) (s : Shared) (H : Hp) (E : XK), Room k (A.deeper (envOfC qual (defScope st) s.heap.objs.size f (.ref cc))) → PRD (cxOf CX0 P w K mg base N qual (defScope st) f (.ref cc) A outer s H E).nox lams Γ (defBody st) g) :
    FnOk P w K mg base CX0 (k + 1) f fd ps (spD Γ W0 (fnC ps.length N.length g)) := by
  obtain ⟨oc, od, kV, doc, pm, an, cdv, ct, osl, rfl, lk, hci⟩ := F.ex
  obtain rfl : cdv = .ref cc := hcd
  have len : ∀ vs H Q E, spD Γ W0 (fnC ps.length N.length g) vs H Q E → vs.length = ps.length := fun vs H Q E ⟨Hs, ds, r, sm, rl, e, q, tb⟩ => by
    unfold fnC at e
    split at e
    · rename_i h; rw [← rl.length]; exact h
    · cases e
  refine ⟨len, fun A outer s H args us vs Q E hr e0 hb r hsp => ?_⟩
  have hl := len _ _ _ _ hsp
  have KX : K.In s.heap := e0.mod.kin.keeps fun b o e => (e0.bs b o e).1
  have lim : s.heap.NoLimit := e0.mod.nolimit.keeps fun b o e => (e0.bs b o e).1
  have hkind : ∀ y ∈ ps.zip us, (defScope st).names.lookup y.1 = some .local ∨ ((defScope st).names.lookup y.1 = some .cell ∧ ((cellsFrom (s.heap.objs.size + 1) (defScope st).names []).lookup y.1).isSome = true) := fun ⟨n, v⟩ hy => by
    rcases S.par n (List.of_mem_zip hy).1 with q | q
    · exact .inl q
    · exact .inr ⟨q, PySem.W.cellsFrom_some _ _ _ (.inl q)⟩
  refine codeAny_call_function hr.depth (KX _ _ lk) rfl S.co S.gen rfl (PySem.W.codeRec_of KX hci) (hb _ _ _ _ ?_)
  refine wpAny_newFunctionEnv_cells S.kind hkind fun env he s1 xx => ?_
  subst he
  refine ⟨lim.keeps xx.toInCall.keep, codeAny_func ?_⟩
  have I : Inv (cxOf CX0 P w K mg base N qual (defScope st) f (.ref cc) A outer s H E) [] (start N vs) H s1 := inv_start S hr.hd e0 hl r xx
  obtain ⟨Hs, ds, rr, sm, rl, e, q, tb⟩ := hsp
  unfold fnC at e
  split at e
  · cases hg : g (a1B N.length ds) with
    | none => rw [hg] at e; cases e
    | some d =>
      rw [hg] at e
      cases e
      refine wpAny_mono (body A outer s H E (hr.deeper _) [] s1 (start N vs) H _ (I.wish _) ⟨Hs, H, Hs, a1B N.length ds, d, a39 sm rl tb, hg, fun v σ' H' z => z⟩) (fun fl s' hs => ?_) fun e s' hs => False.elim hs
      cases fl with
      | next => exact hs.elim
      | brk => exact hs.elim
      | cont => exact hs.elim
      | ret u =>
        obtain ⟨v, σ', H', J, rv, hE⟩ := hs
        obtain ⟨Hs', ρ', kk, is, ds', L, a, pm', c, ctv, cs, hL, re, ha, hv, hn, hc, hlen⟩ := hE
        obtain ⟨nd, hcell⟩ := hfv kk L hL
        have look : ∀ (c' : Addr), c' ∈ cs → ∃ (j : Nat) (y : Str), cs[j]? = some c' ∧ L.fv[j]? = some y ∧ (envOfC qual (defScope st) s.heap.objs.size f (.ref cc)).cells.lookup y = some c' := fun c' hm => by
          obtain ⟨j, hj, ej⟩ := List.getElem_of_mem hm
          have hj' : j < L.fv.length := by rw [← hlen]; exact hj
          obtain ⟨c2, q1, q2⟩ := hc j L.fv[j] (List.getElem?_eq_getElem hj')
          have ec : cs[j]? = some c' := by rw [List.getElem?_eq_getElem hj, ej]
          rw [ec] at q1; cases q1
          exact ⟨j, L.fv[j], ec, List.getElem?_eq_getElem hj', q2⟩
        have ndc : cs.Nodup := a5V fun i j c' h1 h2 => by
          have hi : i < L.fv.length := by rw [← hlen]; exact (List.getElem?_eq_some_iff.mp h1).1
          have hj : j < L.fv.length := by rw [← hlen]; exact (List.getElem?_eq_some_iff.mp h2).1
          obtain ⟨c2, q1, q2⟩ := hc i L.fv[i] (List.getElem?_eq_getElem hi)
          obtain ⟨c3, q3, q4⟩ := hc j L.fv[j] (List.getElem?_eq_getElem hj)
          rw [h1] at q1; cases q1
          rw [h2] at q3; cases q3
          have eq := J.ok.inj _ _ _ q2 q4
          exact a4T nd (List.getElem?_eq_getElem hi) (by rw [List.getElem?_eq_getElem hj, eq])
        have free : ∀ c' ∈ cs, H' c' = none := fun c' hm => by
          obtain ⟨j, y, _, _, e2⟩ := look c' hm
          exact J.freeC y c' e2
        have fr0 : ∀ c' ∈ cs, s.heap.objs.size ≤ c' := fun c' hm => by
          obtain ⟨j, y, _, _, e2⟩ := look c' hm
          exact J.ok.cab y c' rfl e2
        have sH : Same H' (a1n s'.heap cs H') := fun b o e => by
          rw [a1K]
          · exact e
          · intro hm; rw [free b hm] at e; cases e
        have sHs : Same Hs' (a1n s'.heap cs Hs') := fun b o e => by
          rw [a1K]
          · exact e
          · intro hm; rw [re.b.i.free (free b hm)] at e; cases e
        have sI : Same (a1n s'.heap cs Hs') (a1n s'.heap cs H') := fun b o e => by
          by_cases hm : b ∈ cs
          · unfold a1n at e ⊢; rw [if_pos hm] at e ⊢; exact e
          · rw [a1K hm] at e ⊢; exact re.b.i _ _ e
        obtain ⟨hl1, hget⟩ := a5X hv
        have hl2 : is.length = L.fv.length := by have := congrArg List.length hn; simpa using this
        obtain ⟨xs, p1, p2⟩ := a4N (F := fun d v => Rep Γ (a1n s'.heap cs Hs') d v) (G := fun (c : Addr) (x : V) => ∃ o u, a1n s'.heap cs Hs' c = some (.frz o (.own c)) ∧ o.data = .cell (some u) ∧ RelV x u) (l := ds') (m := cs) (by rw [← hl1, hl2, hlen]) fun j d c' h1 h2 => by
          have hj : j < is.length := by rw [hl1]; exact (List.getElem?_eq_some_iff.mp h1).1
          obtain ⟨d2, q1, q2⟩ := hget j is[j] (List.getElem?_eq_getElem hj)
          rw [h1] at q1; cases q1
          obtain ⟨v2, e2, rp⟩ := re.sh _ _ q2
          have hj' : j < L.fv.length := by rw [← hl2]; exact hj
          have hN : N[is[j]]? = some L.fv[j] := by
            have := congrArg (·[j]?) hn
            simp only [List.getElem?_map, List.getElem?_eq_getElem hj, List.getElem?_eq_getElem hj', Option.map_some, Option.some.injEq] at this
            exact this
          obtain ⟨c3, q3, q4⟩ := hc j L.fv[j] (List.getElem?_eq_getElem hj')
          rw [h2] at q3; cases q3
          have hk : (defScope st).names.lookup L.fv[j] = some .cell := hcell _ (List.getElem_mem hj')
          obtain ⟨m, _, hloc⟩ := J.loc
          obtain ⟨u2, r2, lk2⟩ := hloc is[j] L.fv[j] v2 hN e2 (.inr (.inl hk))
          rcases lk2 with ⟨z, _⟩ | ⟨_, c4, e4, o, ho, hdat⟩
          · have z : (defScope st).names.lookup L.fv[j] = some .local := z
            rw [hk] at z; cases z
          · have e4 : (envOfC qual (defScope st) s.heap.objs.size f (.ref cc)).cells.lookup L.fv[j] = some c4 := e4
            have q4 : (envOfC qual (defScope st) s.heap.objs.size f (.ref cc)).cells.lookup L.fv[j] = some c' := q4
            rw [q4] at e4; cases e4
            exact ⟨v2, rp.mono sHs, o, u2, a3D (List.mem_of_getElem? h2) ho, hdat, r2⟩
        have fin := q (.ref a) (a1n s'.heap cs Hs') (a1n s'.heap cs H') ⟨re.b.s.trans sHs, re.b.h.trans sH, sI, fun b o z => by
            by_cases hm : b ∈ cs
            · exact .inr (re.b.h.free (free b hm))
            · rw [a1K hm] at z; exact re.b.n _ _ z⟩ (RepS.of (a5T.mpr ⟨a, xs, rfl, hclo kk L _ a xs hL ⟨cs, pm', c, ctv, sHs _ _ ha, p2, ndc, hlen⟩, a60 p1⟩))
        refine ⟨.ref a, a1n s'.heap cs H', J.os, J.bare, ?_, fun b o e => ?_, rv, fin⟩
        · have B := J.base
          refine ⟨B.keep, B.slot, fun b o g n hx => ?_, B.there, fun b ys e => sH _ _ (B.tups b ys e), fun b o z e => sH _ _ (B.frzs b o z e), fun b ps e => ?_⟩
          · rw [a1K fun hm => absurd (Nat.lt_of_lt_of_le (Heap.lt_size g) (fr0 b hm)) (Nat.lt_irrefl _)]
            exact B.free b o g n hx
          · obtain ⟨more, z⟩ := B.tbls b ps e
            exact ⟨more, sH _ _ z⟩
        · by_cases hm : b ∈ cs
          · obtain ⟨j, y, _, _, e2⟩ := look b hm
            obtain ⟨u3, o3, g3, _⟩ := J.cell y b e2
            rw [a3D hm g3] at e
            cases e
            exact ⟨g3, ⟨o3, g3⟩⟩
          · rw [a1K hm] at e
            exact (J.hok b o e).stay (fun _ _ _ z => z) (fun _ z => sH _ _ z) (fun _ _ z => sH _ _ z) fun _ _ _ z => sH _ _ z
  · cases e
end
end L3
namespace L3
open PySem PySem.Spec PyProof.Rows L2 PySem.W
def a6S (K : PySem.W.Frag) (PT : Addr) (good : Pos → Option Str) : Sp := fun vs H Q _ =>
  ∃ (a : Addr) (ns : List Int), vs = [.ref a] ∧ SqL K H a (ns.map V.int) ∧ ns.length ≤ 63 ∧ H PT = some (.tab good) ∧ ∀ H', H' PT = some (.tab good) → Q (.bl true) H'
theorem law_spT {P : Program} {w : World} {K : PySem.W.Frag} {mg : Str → Option Value} {base : Heap} {Γ : Ct} {k : Nat} {f PT : Addr} {good : Pos → Option Str} {fd : FuncData} {x : Str} {F : List D → Option R} (h : FnOk P w K mg base CX0 k f fd [x] (spD Γ W0 F)) (hK : Γ.K = K) (htb : Γ.tb = fun b => if b = PT then some (.tab good) else none)
    (T : ∀ ns : List Int, ns.length ≤ 63 → F [.lst (ns.map D.int)] = some (.ok (.sh (.bl true)))) : FnOk P w K mg base CX0 k f fd [x] (a6S K PT good) :=
  h.imp fun vs H Q E ⟨a, ns, ev, hS, hl, hP, q⟩ => by
    subst hK
    subst ev
    refine ⟨H, [.lst (ns.map D.int)], _, .refl _, .cons (a0M.mpr ⟨a, _, rfl, hS, RepL.ints ns⟩) .nil, T ns hl, fun v Hs' H' g rs => ?_, fun b o z => ?_⟩
    · have rs' : Rep Γ Hs' (.bl true) v := rs
      rw [a0r.mp rs']
      exact q H' (g.h _ _ hP)
    · rw [htb] at z
      have z' : (if b = PT then some (HO.tab good) else none) = some o := z
      split at z'
      · rename_i e; cases z'; rw [e]; exact hP
      · cases z'
theorem a7e {P : Program} {w : World} {K : PySem.W.Frag} {mg mb : Str → Option Value} {k : Nat} {fa a cc PT : Addr} {good : Pos → Option Str} {fd : FuncData} {x : Str} {s₁ : Shared} {vs : List Value} {ns : List Int}
    (KX : K.In s₁.heap) (hns : s₁.heap.Ns mainGlobals mg) (hb : s₁.heap.Ns builtinsNs mb) (hbb : ∀ x : Str, x ≠ "__name__" → mb x = bootBuiltins x) (hlim : s₁.heap.NoLimit) (hg : s₁.gens = #[])
    (hC : CodeHd s₁.heap cc PT) (hT : s₁.heap.get? PT = some (tabObj #[])) (hB : BltM mg s₁.heap) (hK0 : noTabs K = true)
    (ha : s₁.heap.get? a = some { cls := .type "list", data := .seq vs.toArray }) (hi : IntsAre vs ns) (hl : ns.length ≤ 63) (hr : Room k callerA)
    (F : ∀ base : Heap, CodeHd base cc PT → BltM mg base → FnOk P w K mg base CX0 k fa fd [x] (a6S K PT good)) (hbind : ∀ (s : Shared) (u : Value), BindsTo s fd ⟨[u], []⟩ [(x, u)]) :
    codeAny (model P w) callerA (.call (.ref fa) ⟨[.ref a], []⟩) (fun r s' => r = .ok (.ret (.bool true)) ∧ OldK s₁.heap s'.heap ∧ s'.os = s₁.os ∧ AllBare s'.gens) s₁ := by
  have rv := vals_ints hi
  have lenV := hi.length
  have hl' : ns.length ≤ sizeLine := Nat.le_trans hl (by decide)
  have aP : a ≠ PT := fun z => by rw [z, hT] at ha; cases ha
  have core : ∀ H : Hp, H PT = some (.tab good) → (∀ b, b ≠ PT → H b ≠ none → b = a ∧ K.lookup a = none ∧ ∃ o xs, H b = some (.frz o (.lst xs))) → SqL K H a (ns.map V.int) → HOk P w H s₁.heap →
      codeAny (model P w) callerA (.call (.ref fa) ⟨[.ref a], []⟩) (fun r s' => r = .ok (.ret (.bool true)) ∧ OldK s₁.heap s'.heap ∧ s'.os = s₁.os ∧ AllBare s'.gens) s₁ := by
    intro H hP hA hS hok
    have keep : ∀ {b : Addr} {o : Obj}, s₁.heap.get? b = some o → o ≠ tabObj #[] → (b = a → K.lookup a = none → False) → (hidT s₁.heap H).get? b = some o := fun {b o} e n1 n2 => hidT_get e (by
      cases q : H b with
      | none => rfl
      | some u =>
        by_cases hbP : b = PT
        · subst hbP; rw [hT] at e; cases e; exact absurd rfl n1
        · obtain ⟨z1, z2, _⟩ := hA b hbP (by rw [q]; simp)
          exact (n2 z1 z2).elim)
    have keepD : ∀ {b : Addr} {o : Obj}, s₁.heap.get? b = some o → o ≠ tabObj #[] → o.cls ≠ .type "list" → (hidT s₁.heap H).get? b = some o := fun {b o} e n1 n2 => keep e n1 fun z _ => by
      subst z; rw [ha] at e; cases e; exact n2 rfl
    have nsK : ∀ {b : Addr} {m : Str → Option Value}, s₁.heap.Ns b m → (hidT s₁.heap H).Ns b m := fun {b m} ⟨o, es, ep, e, d, r⟩ => ⟨o, es, ep, keep e (fun z => by rw [z] at d; cases d) (fun z _ => by
      subst z; rw [ha] at e; cases e; cases d), d, r⟩
    have hKb : K.In (hidT s₁.heap H) := fun b o e => keep (KX b o e) (fun z => by
      have h2 := List.all_eq_true.mp hK0 (b, o) (mem_of_lookupK e)
      subst z
      exact absurd (show false = true from h2) Bool.false_ne_true) fun z1 z2 => by subst z1; rw [z2] at e; cases e
    have hM : Mod K mg (hidT s₁.heap H) := ⟨hKb, nsK hns, ⟨mb, nsK hb, hbb⟩, let ⟨mc, h1, h2⟩ := hlim; ⟨mc, nsK h1, h2⟩⟩
    have hC' : CodeHd (hidT s₁.heap H) cc PT := by
      obtain ⟨o, vs', file, tf, flags, tg, inF, text, tt, e1, r1, r2⟩ := hC
      exact ⟨o, vs', file, tf, flags, tg, inF, text, tt, keepD e1 (fun z => by rw [z] at r1; cases r1) (fun z => by rw [r1] at z; exact absurd z (by decide)), r1, r2⟩
    have hB' : BltM mg (hidT s₁.heap H) := by
      obtain ⟨bm, o, b1, b2, b3, b4, b5, b6⟩ := hB
      exact ⟨bm, o, b1, b2, b3, keepD b4 (fun z => by rw [z] at b5; cases b5) (fun z => by rw [b5] at z; exact absurd z (by decide)), b5, b6⟩
    have e0 : Env0 P w K mg (hidT s₁.heap H) callerA [] s₁ H := ⟨rfl, hM, fun b o e => of_hidT e, Nat.le_of_eq (hidT_size _ _), trivial, fun b hb => absurd (show b ∈ ([] : List Addr) from hb) (by simp), hok, .of_eq hg⟩
    refine codeAny_mono ((F _ hC' hB').run callerA [] s₁ H ⟨[.ref a], []⟩ [.ref a] [.ref a] (fun v H' => v = .bl true ∧ H' PT = some (.tab good)) (fun _ _ _ => False) hr e0 (hbind s₁ (.ref a)) (.cons rfl .nil) ⟨a, ns, rfl, hS, hl, hP, fun H' z => ⟨rfl, z⟩⟩) fun r s' h => ?_
    cases r with
    | error e => exact False.elim h
    | ok fl =>
      cases fl with
      | next => exact False.elim h
      | brk => exact False.elim h
      | cont => exact False.elim h
      | ret u =>
        obtain ⟨v, H', os, bare, un, hok', r', ev, hP'⟩ := h
        subst ev
        obtain rfl : u = Value.bool true := r'
        obtain ⟨ps, eps, _⟩ := hok' PT _ hP'
        have old : ∀ b o, b ≠ PT → s₁.heap.get? b = some o → s'.heap.get? b = some o := fun b o hb e => by
          cases q : H b with
          | none => exact un.keep b o e q (by intro z; exact absurd (show b ∈ ([] : List Addr) from z) (by simp)) (by simp)
          | some u =>
            obtain ⟨_, _, ob, xs, z⟩ := hA b hb (by rw [q]; simp)
            have z2 := un.frzs b ob _ z
            obtain ⟨e1, _⟩ := hok b _ z
            obtain ⟨e2, _⟩ := hok' b _ z2
            rw [e] at e1; cases e1
            exact e2
        refine ⟨rfl, ⟨fun b o e => ?_, fun b o e => ?_⟩, os, bare⟩
        · by_cases hb : b = PT
          · subst hb
            rw [hT] at e; cases e
            exact .inr (.inl ⟨(hC.tab hT).isCodeTable, rfl, #[], ps, rfl, by rw [Array.empty_append]; exact eps⟩)
          · exact .inl (old b o hb e)
        · by_cases hb : b = PT
          · subst hb; exact ⟨_, eps⟩
          · exact ⟨o, old b o hb e⟩
  have okT : ∀ H : Hp, ObjOk P w H s₁.heap PT (.tab good) := fun H => ⟨#[], hT, True.intro, fun p cv _ hc => by cases hc⟩
  cases hk : K.lookup a with
  | some o =>
    have e := KX a o hk
    rw [ha] at e
    cases e
    refine core (fun b => if b = PT then some (.tab good) else none) (if_pos rfl) (fun b hb z => absurd (if_neg hb) z) (.inr ⟨_, vs.toArray, _, hk, rfl, rfl, rfl, by rw [List.size_toArray, lenV]; exact hl', by simpa using rv⟩) fun b u z => ?_
    have z' : (if b = PT then some (HO.tab good) else none) = some u := z
    split at z'
    · rename_i e; subst e; cases z'; exact okT _
    · cases z'
  | none =>
    refine core (fun b => if b = PT then some (.tab good) else if b = a then some (.frz { cls := .type "list", data := .seq vs.toArray } (.lst (ns.map V.int))) else none) (if_pos rfl) (fun b hb z => ?_) (.inl (.inr ⟨{ cls := .type "list", data := .seq vs.toArray }, (if_neg aP).trans (if_pos rfl)⟩)) fun b u z => ?_
    · have z' : (if b = PT then some (HO.tab good) else if b = a then some (.frz { cls := .type "list", data := .seq vs.toArray } (.lst (ns.map V.int))) else none) ≠ none := z
      rw [if_neg hb] at z'
      by_cases hba : b = a
      · exact ⟨hba, hk, _, _, (if_neg hb).trans (if_pos hba)⟩
      · rw [if_neg hba] at z'; exact absurd rfl z'
    · have z' : (if b = PT then some (HO.tab good) else if b = a then some (.frz { cls := .type "list", data := .seq vs.toArray } (.lst (ns.map V.int))) else none) = some u := z
      split at z'
      · rename_i e; subst e; cases z'; exact okT _
      · split at z'
        · rename_i e; subst e; cases z'
          exact ⟨ha, by rw [List.length_map]; exact hl', vs, _, rv, ha⟩
        · cases z'
theorem a7d {l : PySem.W.OpenLaw} {q : Program} {loose : List Str} {XP : (Str → Option Value) → Heap → Prop} {YP : World → Heap → Prop} {d dP : DefRec} {K : Params → PySem.W.Frag} {k : Nat} {x y : Str} {cc PT : Addr} {good : Pos → Option Str} (hk : k ≤ 60) (hn : l.most = some 63) (hdf : d.params.defaults = [])
    (hrec : (recsOf q).find? (fun e => e.name == y) = some dP) (htab : ∀ w : World, tabIn (K w.params) y = some (cc, PT)) (hno : ∀ w : World, noTabs (K w.params) = true)
    (hY : ∀ (w : World) (h : Heap), YP w h → (K w.params).In h)
    (F : ∀ (w : World) (mg : Str → Option Value) (fa : Addr) (h : Heap), (K w.params).In h → h.Ns mainGlobals mg → mg d.name = some (.ref fa) →
      ∃ fd : FuncData, (∀ (s : Shared) (u : Value), BindsTo s fd ⟨[u], []⟩ [(x, u)]) ∧ ∀ base : Heap, CodeHd base cc PT → BltM mg base → FnOk l.prog w (K w.params) mg base CX0 k fa fd [x] (a6S (K w.params) PT good)) :
    PySem.W.WalkO q loose XP YP l.row.toRowW d [] (fun f vs => PySem.call f vs) := by
  refine Att.attach_call hn hdf fun w s₀ s₁ mg mb fa o pm cd doc a vs ns G Y ho hd hcd hmg hobj hints hlen hg => ?_
  have KX := hY w _ Y
  obtain ⟨fd, hb, hF⟩ := F w mg fa _ KX G.T.g hmg
  obtain ⟨hC, hT⟩ := tab_of G.T KX hrec (htab w)
  obtain ⟨bm, ob, b1, b2, b3, b4, b5, b6⟩ := G.T.bmain
  have bG : bm ≠ mainGlobals := fun z => by
    obtain ⟨o', es, ep, e, hd', _⟩ := G.T.g
    rw [z, e] at b3; cases b3; rw [hd'] at b6; cases b6
  exact a7e KX G.T.g G.T.b G.T.builtins G.T.nolimit hg hC hT ⟨bm, ob, b1, b2, bG, b3, b4, b5, b6⟩ (hno w) hobj hints hlen (Room.mono (k := 60) ⟨rfl, by decide, by decide⟩ hk) hF hb
end L3
namespace L3
open PySem PySem.Spec PyProof.Rows L2
section
variable {X : Cx} {Γ : Ct} {W : XW}
theorem dLZ_some {ds : List D} {r : R} (h : dLZ ds = some r) : ∃ xs ys, ds = [.lst xs, .lst ys] ∧ xs.length = ys.length ∧ r = .ok (.own (.lst (List.zipWith (fun a b => .tup [a, b]) xs ys))) := by
  unfold dLZ at h
  split at h
  · split at h
    · rename_i xs ys hl; cases h; exact ⟨xs, ys, rfl, hl, rfl⟩
    · cases h
  · cases h
theorem a3N {H : Hp} : ∀ {ds es : List D} {xs ys : List V} {ts : List Addr}, RepL Γ H ds xs → RepL Γ H es ys → ds.length = es.length → ts.length = xs.length → (∀ (j : Nat) (t : Addr) (x y : V), ts[j]? = some t → xs[j]? = some x → ys[j]? = some y → H t = some (.tup [x, y])) →
    RepL Γ H (List.zipWith (fun a b => D.tup [a, b]) ds es) (ts.map V.ref)
  | [], [], xs, ys, ts, h1, h2, hl, ht, h => by
    rw [a03.mp h1] at ht
    cases ts with
    | nil => exact .nil
    | cons _ _ => simp at ht
  | [], _ :: _, _, _, _, _, _, hl, _, _ => by simp at hl
  | _ :: _, [], _, _, _, _, _, hl, _, _ => by simp at hl
  | d :: ds, e :: es, xs, ys, ts, h1, h2, hl, ht, h => by
    obtain ⟨x, xr, rfl, q1, t1⟩ := a0t.mp h1
    obtain ⟨y, yr, rfl, q2, t2⟩ := a0t.mp h2
    cases ts with
    | nil => simp at ht
    | cons t ts =>
      exact .cons (a0G.mpr ⟨t, [x, y], rfl, .inl (.inl (h 0 t x y rfl rfl rfl)), .cons q1 (.cons q2 .nil)⟩) (a3N t1 t2 (by simpa using hl) (by simpa using ht) fun j t' x' y' a b c => h (j + 1) t' x' y' (by simpa using a) (by simpa using b) (by simpa using c))
theorem a6g {a b : Expr} {ga gb : ME} {p p' pos' pos : Pos} (hK : X.K = Γ.K) (hc : X.calm = true) (hg : Gl X "list") (hm : X.mg "list" = none) (hg2 : Gl X "zip") (hm2 : X.mg "zip" = none) (ha : PD X Γ W a ga) (hb : PD X Γ W b gb)
    (hs1 : starEach [a, b] X.env = (false, eval a X.env) :: starEach [b] X.env := by rfl) (hs2 : starEach [b] X.env = (false, eval b X.env) :: starEach [] X.env := by rfl) (hs0 : starEach [] X.env = [] := by rfl)
    (hs3 : starEach [.Call (.Name "zip" p') [a, b] [] pos'] X.env = (false, eval (.Call (.Name "zip" p') [a, b] [] pos') X.env) :: starEach [] X.env := by rfl) (hpl2 : (backTo pos (starEach [] X.env)).any (·.1) = false := by rfl) :
    PD X Γ W (.Call (.Name "list" p) [.Call (.Name "zip" p') [a, b] [] pos'] [] pos) (a0h dLZ [ga, gb]) :=
  PE.imp (a6e hc hg hm hg2 hm2 (pa_cons ha (pa_cons hb pa_nil hs2) hs1) (by rw [hs1, hs2, hs0]) (by rw [hs2, hs0]) hs3 hpl2) fun _ _ σ H Q _ ⟨B0, B1, Hs, ρ, r, re, e, q⟩ => by
    refine a1Q [ga, gb] (fun vs H1 ⟨Hs1, ds, g1, re1, rl, e1, q1⟩ => ?_) (a3E [ga, gb] re e q)
    obtain ⟨xs, ys, rfl, hl, rfl⟩ := dLZ_some e1
    obtain ⟨v, u, rfl, r1, r2⟩ := repL2 rl
    obtain ⟨l1, ws, rfl, s1, rl1⟩ := a0M.mp r1
    obtain ⟨l2, zs, rfl, s2, rl2⟩ := a0M.mp r2
    have sm := re1.b.i
    have hlw : ws.length = zs.length := by rw [← rl1.length, ← rl2.length, hl]
    refine ⟨l1, l2, ws, zs, rfl, by rw [hK]; exact Same.seq sm s1, by rw [hK]; exact Same.seq sm s2, hlw, fun ts S ht nd hts hS => ?_⟩
    have nl : ∀ b, b ∉ ts → (ts.zip (List.zipWith (fun a b => [a, b]) ws zs)).lookup b = none := fun b hb => a2v fun p hp e => hb (e ▸ (List.of_mem_zip (show (p.1, p.2) ∈ _ from hp)).1)
    have pn : ∀ (G : Hp) (b : Addr), b ∉ ts → a1L (ts.zip (List.zipWith (fun a b => [a, b]) ws zs)) G b = G b := fun G b hb => by unfold a1L; rw [nl b hb]
    have SN : S ∉ ts := fun hm => (hts S hm).2 rfl
    have smP : ∀ G : Hp, (∀ t ∈ ts, G t = none) → Same G (a1L (ts.zip (List.zipWith (fun a b => [a, b]) ws zs)) G) := fun G hG b o e => by rw [pn G b fun hm => by rw [hG b hm] at e; cases e]; exact e
    have hsN : ∀ t ∈ ts, Hs1 t = none := fun t ht => sm.free (hts t ht).1
    have sS := smP Hs1 hsN
    have sH := smP H1 fun t ht => (hts t ht).1
    have fS : a1L (ts.zip (List.zipWith (fun a b => [a, b]) ws zs)) H1 S = none := by rw [pn H1 S SN]; exact hS
    have fSs : a1L (ts.zip (List.zipWith (fun a b => [a, b]) ws zs)) Hs1 S = none := by rw [pn Hs1 S SN]; exact sm.free hS
    refine q1 (.ref S) (a1L (ts.zip (List.zipWith (fun a b => [a, b]) ws zs)) Hs1) _ ⟨sS, sH.trans (a0Q fS), fun b o z => ?_, fun b o z => ?_⟩ (RepN.mk S _ rfl hS fSs upd_same ⟨_, rfl, a3N (rl1.mono sS) (rl2.mono sS) hl (by rw [ht]) fun j t x y h1 h2 h3 => ?_⟩)
    · rw [upd_ne (ne_of_none z fSs)]
      by_cases hb : b ∈ ts
      · unfold a1L at z ⊢
        cases lk : (ts.zip (List.zipWith (fun a b => [a, b]) ws zs)).lookup b with
        | some pp => rw [lk] at z; exact z
        | none => rw [lk] at z; exact sm _ _ z
      · rw [pn _ b hb] at z ⊢; exact sm _ _ z
    · by_cases hb : b ∈ ts
      · exact .inr (hts b hb).1
      · rw [pn _ b hb] at z; exact .inl z
    · unfold a1L
      rw [a2L nd h1 (show (List.zipWith (fun a b => [a, b]) ws zs)[j]? = some [x, y] by rw [List.getElem?_zipWith, h2, h3])]
end
end L3
namespace L3
open PySem PySem.Spec PyProof.Rows L2 PySem.W
def stRet : Stmt → Expr
  | .Return (some e) _ => e
  | .If _ [.Return (some e) _] _ _ => e
  | _ => .Name "" ⟨0, 0, 0, 0⟩
def mkLam (e : Expr) (qual par : Str) (fv : List Str) : LamT := match e with
  | .Lambda p b sc _ => ⟨p, b, sc, qual, par, fv⟩
  | _ => ⟨{ posonlyargs := [], args := [], vararg := none, kwonlyargs := [], kw_defaults := [], kwarg := none, defaults := [] }, e, { kind := .function, names := [], isGenerator := false, isCoroutine := false }, qual, par, fv⟩
def a7i (ls : List (Nat × Nat)) (q : Str) : Pos → Option Str := fun p => if ls.contains (p.line, p.col) then some q else none
theorem a3w {ls : List (Nat × Nat)} {q : Str} : a5K (a7i ls q) := fun p p' h1 h2 => by unfold a7i; rw [h1, h2]
theorem a4l {N : List Str} {L : LamT} (kind : L.scope.kind = .function) (co : L.scope.isCoroutine = false) (gen : L.scope.isGenerator = false) (nd : N.Nodup) (pre : N.take (1 + L.fv.length) = L.par :: L.fv) (par : L.scope.names.lookup L.par = some .local ∨ L.scope.names.lookup L.par = some .cell)
    (fvs : ∀ y ∈ L.fv, L.scope.names.lookup y = some .free ∧ (y, NameKind.cell) ∉ L.scope.names) (all : ∀ p ∈ L.scope.names, p.2 = .free → p.1 ∈ L.fv) : a2m N L :=
  ⟨kind, co, gen, nd, pre, par, fvs, fun y h => all (y, .free) (PySem.mem_of_lookup h) rfl⟩
theorem a5E {K : PySem.W.Frag} {cls : String → Addr} {lams : Nat → Option LamT} {PT : Addr} {good : Pos → Option Str} : ∀ b o, (ctP K cls lams PT good).tb b = some o → ∃ g, o = .tab g := fun b o h => by
  have h' : (if b = PT then some (HO.tab good) else none) = some o := h
  split at h'
  · cases h'; exact ⟨_, rfl⟩
  · cases h'
theorem a7o {K : PySem.W.Frag} {cls : String → Addr} {lams : Nat → Option LamT} {PT : Addr} {good : Pos → Option Str} : (ctP K cls lams PT good).tb PT = some (.tab good) := if_pos rfl
theorem a5F {K : PySem.W.Frag} {cls : String → Addr} {lams : Nat → Option LamT} {PT : Addr} {good : Pos → Option Str} {k : Nat} {L : LamT} (h : lams k = some L) : ∀ H a xs, (ctP K cls lams PT good).clo k H a xs → Clo L H a xs := fun H a xs ⟨L', e, q⟩ => by
  rw [h] at e; cases e; exact q
structure LaidC (K : PySem.W.Frag) (mg : Str → Option Value) (x : Str) (st : Stmt) (ps : List Str) (cc : Addr) : Prop where
  ex : ∃ f fd, Fun K x x st f fd ∧ mg x = some (.ref f) ∧ Binds K fd ps [] ∧ fd.code = .ref cc
theorem fn_laidC {P : Program} {w : World} {K : PySem.W.Frag} {mg : Str → Option Value} {base : Heap} {cls : String → Addr} {lams : Nat → Option LamT} {PT : Addr} {good : Pos → Option Str} {x : Str} {st : Stmt} {N ps : List Str} {k : Nat} {cc : Addr} {g : MCl} (L : LaidC K mg x st ps cc) (S : FnScope N ps (defScope st))
    (hfv : ∀ k L, lams k = some L → L.fv.Nodup ∧ ∀ y ∈ L.fv, (defScope st).names.lookup y = some .cell)
    (body : ∀ (f : Addr) (A : Around) (outer : List PySem.Env) (s : Shared) (H : Hp) (E : XK), Room k (A.deeper (envOfC x (defScope st) s.heap.objs.size f (.ref cc))) → PRD (cxOf CX0 P w K mg base N x (defScope st) f (.ref cc) A outer s H E).nox lams (ctP K cls lams PT good) (defBody st) g) :
    FnN P w K mg base (ctP K cls lams PT good) (k + 1) x ps (fnC ps.length N.length g) := by
  obtain ⟨f, fd, F, hm, hb, hc⟩ := L.ex
  exact ⟨f, fd, fn_clo F hc S (fun k L H a xs h1 h2 => ⟨L, h1, h2⟩) hfv (body f), hm, F.kp, hb⟩
theorem laidC_mk {K : PySem.W.Frag} {mg : Str → Option Value} {h : Heap} (X : K.In h) (G : h.Ns mainGlobals mg) {x : Str} {st : Stmt} {ps : List Str} {f cc : Addr} {oc : Value} {od an : Option Addr} {osl : Array (Option Value)} {kV doc pm ct : Value} (a : PySem.W.nsIn K mainGlobals x = some (some (.ref f)))
    (l : K.lookup f = some ⟨oc, od, .func (PySem.W.fnOf x x (defArgs st) (defBody st) (defScope st) .none kV doc pm an (.ref cc) ct), osl⟩) (c : PySem.W.codeIn K (.ref cc) x = true) (k : PySem.W.keepIn K (.ref f) = true)
    (b : ∀ (kV doc pm : Value) (an : Option Addr) (cdv ct : Value) (us : List Value), us.length = ps.length → bindArgs (PySem.W.fnOf x x (defArgs st) (defBody st) (defScope st) .none kV doc pm an cdv ct) ⟨us, []⟩ = pure (ps.zip us)) : LaidC K mg x st ps cc :=
  ⟨_, _, fun_mk l c k, PySem.W.mg_of X G a, (fun_mk l c k).binds b, rfl⟩
end L3
namespace L3
open PySem
section
variable {ρ ρ' ρ1 : MEnv} {a b c : ME} {x y : MC} {o : Option Out} {s t : S} {r : Option R}
theorem a1a (h : x ρ = some (.ret s)) : sSeq x y ρ = some (.ret s) := by unfold sSeq; rw [h]
theorem a0e (h : x ρ = some (.next ρ')) (h2 : y ρ' = o) : sSeq x y ρ = o := by unfold sSeq; rw [h]; exact h2
theorem if_t {u v : MC} (h : c ρ = okB true) (h2 : u ρ = o) : sIf c u v ρ = o := by unfold sIf; rw [h]; exact h2
theorem if_f {u v : MC} (h : c ρ = okB false) (h2 : v ρ = o) : sIf c u v ρ = o := by unfold sIf; rw [h]; exact h2
theorem a0I {i : Nat} (h : a ρ = some (.ok s)) : sSet i a ρ = some (.next (ρ.set i (some s))) := by unfold sSet; rw [h]; rfl
theorem a1z (h : a ρ = some (.ok s)) : sRet a ρ = some (.ret s) := by unfold sRet; rw [h]; rfl
theorem a2V {i : Nat} (h : x (dem i ρ) = o) : sDem i x ρ = o := h
theorem a4D {i : Nat} {ds : List D} (h0 : ρ[i]? = some (some (.own (.lst ds)))) (h : a ρ = some (.ok s)) (hl : ds.length < lim) : a2K i a ρ = some (.next (ρ.set i (some (.own (.lst (ds ++ [s.val])))))) := by
  unfold a2K ownL; rw [h0]; dsimp only; rw [h]; dsimp only [a2D]; rw [if_pos hl]
theorem a6u {it : MI} {bd : MB} {body : MC} {ds : List D} (h : it ρ = some (.ok ds)) (h2 : forD bd body ds ρ = o) : sFor it bd body ρ = o := by unfold sFor; rw [h]; exact h2
theorem a1l {np n : Nat} {g : MC} {ds : List D} (hl : ds.length = np) (h : g (a1B n ds) = some (.ret s)) : fnD np n g ds = some (.ok s) := by unfold fnD; rw [if_pos hl, h]; rfl
theorem a0b {f : D → D → Option R} (h1 : a ρ = some (.ok s)) (h2 : b ρ = some (.ok t)) (h3 : f s.val t.val = r) : eBin f a b ρ = r := by unfold eBin; rw [h1]; dsimp only [a0N]; rw [h2]; exact h3
theorem a3c (h : a ρ = okB true) (h2 : b ρ = r) : eAnd a b ρ = r := by unfold eAnd; rw [h]; exact h2
theorem a7E (h : a ρ = okB false) : eAnd a b ρ = okB false := by unfold eAnd; rw [h]; rfl
theorem or_t (h : a ρ = okB true) : eOr a b ρ = okB true := by unfold eOr; rw [h]; rfl
theorem or_f (h : a ρ = okB false) (h2 : b ρ = r) : eOr a b ρ = r := by unfold eOr; rw [h]; exact h2
theorem not_e {z : Bool} (h : a ρ = okB z) : eNot a ρ = okB (!z) := by unfold eNot eUn; rw [h]; rfl
theorem not_t (h : a ρ = okB true) : eNot a ρ = okB false := not_e h
theorem a2Z {F : List D → Option R} {e1 : ME} {s1 : S} (h1 : e1 ρ = some (.ok s1)) (h : F [s1.val] = r) : a0h F [e1] ρ = r := by unfold a0h a1W; rw [h1]; exact h
theorem a1j {F : List D → Option R} {e1 e2 : ME} {s1 s2 : S} (h1 : e1 ρ = some (.ok s1)) (h2 : e2 ρ = some (.ok s2)) (h : F [s1.val, s2.val] = r) : a0h F [e1, e2] ρ = r := by
  unfold a0h a1W; rw [h1]; dsimp only [a0N]; unfold a1W; rw [h2]; exact h
theorem a02 {F : List D → Option R} {e1 e2 e3 : ME} {s1 s2 s3 : S} (h1 : e1 ρ = some (.ok s1)) (h2 : e2 ρ = some (.ok s2)) (h3 : e3 ρ = some (.ok s3)) (h : F [s1.val, s2.val, s3.val] = r) : a0h F [e1, e2, e3] ρ = r := by
  unfold a0h a1W; rw [h1]; dsimp only [a0N]; unfold a1W; rw [h2]; dsimp only [a0N]; unfold a1W; rw [h3]; exact h
theorem tup2 {e1 e2 : ME} {s1 s2 : S} (h1 : e1 ρ = some (.ok s1)) (h2 : e2 ρ = some (.ok s2)) : eTup [e1, e2] ρ = okD (.tup [s1.val, s2.val]) := a1j h1 h2 rfl
theorem lenB {e1 : ME} {s1 : S} {n : Int} (h1 : e1 ρ = some (.ok s1)) (h : dLen s1.val = okI n) : a0i (f1 dLen) [e1] ρ = okI n := by
  have : a1W [e1] ρ (f1 dLen) = okI n := a2Z (F := f1 dLen) h1 h
  unfold a0i; rw [this]; rfl
theorem a23 {i : Nat} {d : D} (h : ρ[i]? = some (some (.sh d))) : eVar i ρ = okD d := by unfold eVar; rw [h]
theorem any_e {i : Nat} (h : ρ[i]? = some (some s)) (hn : s.nd = true := by rfl) : eAny i ρ = okD s.val := by
  unfold eAny; rw [h]
  cases s with
  | sh d => rfl
  | own o => cases o with
    | lst _ => rfl
    | obj _ _ _ => rfl
    | dic _ => cases hn
theorem a43 {ds : List D} (h : a ρ = some (.ok s)) (hi : a4n s.val = some ds) : iSeq a ρ = some (.ok ds) := by unfold iSeq; rw [h]; dsimp only; rw [hi]; rfl
theorem a1u {i : Int} (h : a ρ = okI i) (hr : a2T i = true) : a0E a ρ = some (.ok (rng 0 i)) := by unfold a0E iArg; rw [h]; dsimp only [S.val]; rw [if_pos hr]
theorem add_int (i j : Int) : dAdd (.int i) (.int j) = okI (i + j) := rfl
theorem sub_int (i j : Int) : dSub (.int i) (.int j) = okI (i - j) := rfl
theorem mul_int {i j : Int} (h : (a2E i || a2E j) = true) : dMul (.int i) (.int j) = okI (i * j) := by unfold dMul; exact if_pos h
theorem a4i {i j : Int} (h : 0 < j) : dMod (.int i) (.int j) = okI (i % j) := by unfold dMod; exact if_pos h
theorem a5Q {i : Int} (h1 : -(2 ^ 60) ≤ i) (h2 : i ≤ 2 ^ 60) : a2E i = true := by unfold a2E; simp; omega
theorem mulL {i j : Int} (h1 : -(2 ^ 60) ≤ i) (h2 : i ≤ 2 ^ 60) : dMul (.int i) (.int j) = okI (i * j) := mul_int (by rw [a5Q h1 h2]; rfl)
theorem mulR {i j : Int} (h1 : -(2 ^ 60) ≤ j) (h2 : j ≤ 2 ^ 60) : dMul (.int i) (.int j) = okI (i * j) := mul_int (by rw [a5Q h1 h2, Bool.or_true])
theorem ix_tup {ds : List D} {d : D} {n : Nat} (h : ds[n]? = some d) : dIx (.tup ds) (.int n) = okD d := by
  have hn : n < ds.length := (List.getElem?_eq_some_iff.mp h).1
  show (atD ds (n : Int)).bind okD = _
  unfold atD ixD
  rw [if_pos (by omega), if_pos (by omega)]
  simp [h]
theorem a2n {ds : List D} {d : D} {n : Nat} (h : ds[n]? = some d) : dIx (.lst ds) (.int n) = okD d := ix_tup h
theorem rng0 (n : Nat) : rng 0 n = (List.range n).map fun k : Nat => D.int k := by
  unfold rng
  rw [Int.sub_zero, Int.toNat_natCast]
  exact List.map_congr_left fun k _ => by rw [Int.zero_add]
theorem a0W {n : Nat} (h : n ≤ 1000000) : a2T (n : Int) = true := by unfold a2T; simp; omega
theorem a4r {bd : MB} {body : MC} (Iv : Nat → MEnv → Prop) : ∀ (ds : List D) (i : Nat) (ρ : MEnv), Iv i ρ → (∀ (k : Nat) (ρ : MEnv) (d : D), ds[k]? = some d → Iv (i + k) ρ → ∃ ρ1 ρ2, bd d ρ = some ρ1 ∧ body ρ1 = some (.next ρ2) ∧ Iv (i + k + 1) ρ2) →
    ∃ ρ', forD bd body ds ρ = some (.next ρ') ∧ Iv (i + ds.length) ρ'
  | [], i, ρ, h, _ => ⟨ρ, rfl, h⟩
  | d :: ds, i, ρ, h, hs => by
    obtain ⟨ρ1, ρ2, e1, e2, h2⟩ := hs 0 ρ d rfl h
    obtain ⟨ρ', e3, h3⟩ := a4r Iv ds (i + 1) ρ2 h2 fun k ρ d' e hk => by
      obtain ⟨r1, r2, f1, f2, f3⟩ := hs (k + 1) ρ d' (by simpa using e) (by rw [show i + (k + 1) = i + 1 + k by omega]; exact hk)
      exact ⟨r1, r2, f1, f2, by rw [show i + 1 + k + 1 = i + (k + 1) + 1 by omega]; exact f3⟩
    refine ⟨ρ', ?_, by rw [List.length_cons, show i + (ds.length + 1) = i + 1 + ds.length by omega]; exact h3⟩
    unfold forD
    rw [e1]
    dsimp only
    rw [e2]
    exact e3
theorem a3Y {bd : MB} {body : MC} (Iv : Nat → MEnv → Prop) (n : Nat) (h0 : Iv 0 ρ) (hs : ∀ (k : Nat) (ρ : MEnv), k < n → Iv k ρ → ∃ ρ1 ρ2, bd (.int k) ρ = some ρ1 ∧ body ρ1 = some (.next ρ2) ∧ Iv (k + 1) ρ2) :
    ∃ ρ', forD bd body (rng 0 n) ρ = some (.next ρ') ∧ Iv n ρ' := by
  obtain ⟨ρ', e, h⟩ := a4r (bd := bd) (body := body) Iv (rng 0 n) 0 ρ h0 fun k ρ d e hk => by
    rw [rng0, List.getElem?_map] at e
    have hk' : k < n := by
      by_cases z : k < n
      · exact z
      · rw [List.getElem?_eq_none (by rw [List.length_range]; omega)] at e; cases e
    rw [List.getElem?_range hk'] at e
    cases e
    rw [Nat.zero_add] at hk ⊢
    exact hs k ρ hk' hk
  rw [Nat.zero_add, rng0, List.length_map, List.length_range] at h
  exact ⟨ρ', e, h⟩
theorem a47 {bd : MB} {cond elt : ME} {f : D → D} : ∀ (ds acc : List D), (∀ d ∈ ds, ∃ ρ1 s, bd d ρ = some ρ1 ∧ cond ρ1 = okB true ∧ elt ρ1 = some (.ok s) ∧ s.val = f d) → acc.length + ds.length ≤ lim → a2i bd cond elt ρ ds acc = okL (acc ++ ds.map f)
  | [], acc, _, hl => by
    unfold a2i
    rw [if_pos (by simpa using hl)]
    simp
  | d :: ds, acc, h, hl => by
    obtain ⟨ρ1, s, e1, e2, e3, e4⟩ := h d List.mem_cons_self
    unfold a2i
    rw [e1]
    dsimp only
    rw [e2]
    show (a0N (elt ρ1) fun x => a2i bd cond elt ρ ds (acc ++ [x])) = _
    rw [e3]
    show a2i bd cond elt ρ ds (acc ++ [s.val]) = _
    rw [e4, a47 ds (acc ++ [f d]) (fun d' hd => h d' (List.mem_cons_of_mem _ hd)) (by rw [List.length_append, List.length_singleton]; rw [List.length_cons] at hl; omega)]
    simp
theorem comp_e {js : List Nat} {it : MI} {bd : MB} {cond elt : ME} {ds : List D} (f : D → D) (hi : it ρ = some (.ok ds)) (hl : ds.length ≤ lim) (h : ∀ d ∈ ds, ∃ ρ1 s, bd d (a0H js ρ) = some ρ1 ∧ cond ρ1 = okB true ∧ elt ρ1 = some (.ok s) ∧ s.val = f d) : a05 js it bd cond elt ρ = okL (ds.map f) := by
  unfold a05
  rw [hi]
  dsimp only
  rw [if_pos hl, a47 ds [] h (by simpa using hl)]
  rfl
end
theorem a62 {lo hi : Int} (h1 : a2T lo = true) (h2 : a2T hi = true) (h3 : (hi - lo).toNat ≤ lim) : a2W (.int lo) (.int hi) = okL (rng lo hi) := by
  unfold a2W
  exact if_pos ⟨h1, h2, h3⟩
theorem ints_map (ns : List Int) : intsOf (ns.map D.int) = some ns := by
  induction ns with
  | nil => rfl
  | cons n ns ih => rw [List.map_cons]; unfold intsOf; rw [ih]; rfl
inductive a22 : Nat → D → Prop
  | non (n) : a22 n .non
  | bl (n b) : a22 n (.bl b)
  | int (n i) : a22 n (.int i)
  | str (n x) : a22 n (.str x)
  | tup (n ds) : (∀ d ∈ ds, a22 n d) → ds.length ≤ lim → a22 (n + 1) (.tup ds)
  | lst (n ds) : (∀ d ∈ ds, a22 n d) → ds.length ≤ lim → a22 (n + 1) (.lst ds)
theorem a22.mono : ∀ {n m : Nat} {d : D}, a22 n d → n ≤ m → a22 m d := by
  intro n m d h
  induction h generalizing m with
  | non n => exact fun _ => .non m
  | bl n b => exact fun _ => .bl m b
  | int n i => exact fun _ => .int m i
  | str n x => exact fun _ => .str m x
  | tup n ds hd hl ih =>
    intro hm
    obtain ⟨k, rfl⟩ : ∃ k, m = k + 1 := ⟨m - 1, by omega⟩
    exact .tup k ds (fun d hd => ih d hd (by omega)) hl
  | lst n ds hd hl ih =>
    intro hm
    obtain ⟨k, rfl⟩ : ∃ k, m = k + 1 := ⟨m - 1, by omega⟩
    exact .lst k ds (fun d hd => ih d hd (by omega)) hl
theorem a6A (ds : List D) : blsOf (ds.map fun _ => D.bl true) = some (ds.map fun _ => true) := by
  induction ds with
  | nil => rfl
  | cons d ds ih => rw [List.map_cons, List.map_cons]; unfold blsOf; rw [ih]; rfl
theorem a5L (ds : List D) : List.zipWith (fun u v => D.tup [u, v]) ds ds = ds.map fun d => D.tup [d, d] := by
  induction ds with
  | nil => rfl
  | cons d ds ih => rw [List.zipWith_cons_cons, List.map_cons, ih]
theorem a2M (i : Int) : dEq (.int i) (.int i) = okB true := by unfold dEq eqF; simp
theorem a3A (i : Str) : dEq (.str i) (.str i) = okB true := by unfold dEq eqF; simp
end L3
namespace L3
open PySem
section
variable {ρ ρ' ρ1 : MEnv} {a b c : ME}
theorem a4w {α : Type} {bd : MB} {cond elt : ME} {g : α → D} {f : α → D} {p : α → Bool} : ∀ (xs : List α) (acc : List D), (∀ x ∈ xs, ∃ ρ1, bd (g x) ρ = some ρ1 ∧ cond ρ1 = okB (p x) ∧ (p x = true → ∃ s, elt ρ1 = some (.ok s) ∧ s.val = f x)) → acc.length + xs.length ≤ lim → a2i bd cond elt ρ (xs.map g) acc = okL (acc ++ (xs.filter p).map f)
  | [], acc, _, hl => by
    rw [List.map_nil]
    unfold a2i
    rw [if_pos (by simpa using hl)]
    simp
  | x :: xs, acc, h, hl => by
    obtain ⟨ρ1, e1, e2, e3⟩ := h x List.mem_cons_self
    rw [List.map_cons]
    unfold a2i
    rw [e1]
    dsimp only
    rw [e2]
    show (if p x = true then (a0N (elt ρ1) fun y => a2i bd cond elt ρ (xs.map g) (acc ++ [y])) else a2i bd cond elt ρ (xs.map g) acc) = _
    rw [List.length_cons] at hl
    by_cases hp : p x = true
    · obtain ⟨s, e4, e5⟩ := e3 hp
      rw [if_pos hp, e4]
      show a2i bd cond elt ρ (xs.map g) (acc ++ [s.val]) = _
      rw [e5, a4w xs (acc ++ [f x]) (fun y hy => h y (List.mem_cons_of_mem _ hy)) (by rw [List.length_append, List.length_singleton]; omega)]
      simp [hp]
    · rw [if_neg hp, a4w xs acc (fun y hy => h y (List.mem_cons_of_mem _ hy)) (by omega)]
      simp [hp]
theorem a4v {α : Type} {js : List Nat} {it : MI} {bd : MB} {cond elt : ME} (xs : List α) (g : α → D) (p : α → Bool) (f : α → D) (hi : it ρ = some (.ok (xs.map g))) (hl : xs.length ≤ lim)
    (h : ∀ x ∈ xs, ∃ ρ1, bd (g x) (a0H js ρ) = some ρ1 ∧ cond ρ1 = okB (p x) ∧ (p x = true → ∃ s, elt ρ1 = some (.ok s) ∧ s.val = f x)) : a05 js it bd cond elt ρ = okL ((xs.filter p).map f) := by
  unfold a05
  rw [hi]
  dsimp only
  rw [if_pos (by rw [List.length_map]; exact hl), a4w xs [] h (by simpa using hl)]
  rfl
theorem a2C {α : Type} {js : List Nat} {it : MI} {bd : MB} {elt : ME} (xs : List α) (g : α → D) (f : α → D) (hi : it ρ = some (.ok (xs.map g))) (hl : xs.length ≤ lim)
    (h : ∀ x ∈ xs, ∃ ρ1, bd (g x) (a0H js ρ) = some ρ1 ∧ ∃ s, elt ρ1 = some (.ok s) ∧ s.val = f x) : a05 js it bd a1X elt ρ = okL (xs.map f) := by
  rw [a4v xs g (fun _ => true) f hi hl fun x hx => ?_]
  · rw [List.filter_eq_self.mpr (fun _ _ => rfl)]
  · obtain ⟨ρ1, e1, e2⟩ := h x hx
    exact ⟨ρ1, e1, rfl, fun _ => e2⟩
theorem rngN (lo : Nat) (hi : Nat) : rng lo hi = (List.range (hi - lo)).map fun k : Nat => D.int (lo + k : Nat) := by
  unfold rng
  have : ((hi : Int) - (lo : Int)).toNat = hi - lo := by omega
  rw [this]
  exact List.map_congr_left fun k _ => by congr 1
theorem le_d (i j : Int) : dLe (.int i) (.int j) = okB (decide (i ≤ j)) := rfl
theorem lt_d (i j : Int) : dLt (.int i) (.int j) = okB (decide (i < j)) := rfl
theorem gt_d (i j : Int) : dGt (.int i) (.int j) = okB (decide (j < i)) := rfl
theorem eq_d (i j : Int) : dEq (.int i) (.int j) = okB (decide (i = j)) := rfl
theorem ne_d (i j : Int) : dNe (.int i) (.int j) = okB (!decide (i = j)) := rfl
theorem lt_t {i j : Int} (h : i < j) : dLt (.int i) (.int j) = okB true := by rw [lt_d, decide_eq_true h]
theorem lt_f {i j : Int} (h : ¬ i < j) : dLt (.int i) (.int j) = okB false := by rw [lt_d, decide_eq_false h]
theorem gt_t {i j : Int} (h : j < i) : dGt (.int i) (.int j) = okB true := by rw [gt_d, decide_eq_true h]
theorem gt_f {i j : Int} (h : ¬ j < i) : dGt (.int i) (.int j) = okB false := by rw [gt_d, decide_eq_false h]
theorem eq_t {i j : Int} (h : i = j) : dEq (.int i) (.int j) = okB true := by rw [eq_d, decide_eq_true h]
theorem eq_f {i j : Int} (h : ¬ i = j) : dEq (.int i) (.int j) = okB false := by rw [eq_d, decide_eq_false h]
theorem call4 {F : List D → Option R} {e1 e2 e3 e4 : ME} {s1 s2 s3 s4 : S} {r : Option R} (h1 : e1 ρ = some (.ok s1)) (h2 : e2 ρ = some (.ok s2)) (h3 : e3 ρ = some (.ok s3)) (h4 : e4 ρ = some (.ok s4)) (h : F [s1.val, s2.val, s3.val, s4.val] = r) : a0h F [e1, e2, e3, e4] ρ = r := by
  unfold a0h a1W; rw [h1]; dsimp only [a0N]; unfold a1W; rw [h2]; dsimp only [a0N]; unfold a1W; rw [h3]; dsimp only [a0N]; unfold a1W; rw [h4]; exact h
theorem ix_l0 {d : D} {ds : List D} : dIx (.lst (d :: ds)) (.int 0) = okD d := a2n (n := 0) rfl
theorem ix_l1 {d e : D} {ds : List D} : dIx (.lst (d :: e :: ds)) (.int 1) = okD e := a2n (n := 1) rfl
theorem a2f {d : D} {ds : List D} : dIx (.tup (d :: ds)) (.int 0) = okD d := ix_tup (n := 0) rfl
theorem a6s {d e : D} {ds : List D} : dIx (.tup (d :: e :: ds)) (.int 1) = okD e := ix_tup (n := 1) rfl
theorem a7h {d e f : D} {ds : List D} : dIx (.tup (d :: e :: f :: ds)) (.int 2) = okD f := ix_tup (n := 2) rfl
theorem ix_t3 {d e f g : D} {ds : List D} : dIx (.tup (d :: e :: f :: g :: ds)) (.int 3) = okD g := ix_tup (n := 3) rfl
theorem forD_idx {bd : MB} {body : MC} (g : Nat → D) (Iv : Nat → MEnv → Prop) (n : Nat) {ρ : MEnv} (h0 : Iv 0 ρ) (hs : ∀ (k : Nat) (ρ : MEnv), k < n → Iv k ρ → ∃ ρ1 ρ2, bd (g k) ρ = some ρ1 ∧ body ρ1 = some (.next ρ2) ∧ Iv (k + 1) ρ2) :
    ∃ ρ', forD bd body ((List.range n).map g) ρ = some (.next ρ') ∧ Iv n ρ' := by
  obtain ⟨ρ', e, h⟩ := a4r (bd := bd) (body := body) Iv ((List.range n).map g) 0 ρ h0 fun k ρ d e hk => by
    rw [List.getElem?_map] at e
    have hk' : k < n := by
      by_cases z : k < n
      · exact z
      · rw [List.getElem?_eq_none (by rw [List.length_range]; omega)] at e; cases e
    rw [List.getElem?_range hk'] at e
    cases e
    rw [Nat.zero_add] at hk ⊢
    exact hs k ρ hk' hk
  rw [Nat.zero_add, List.length_map, List.length_range] at h
  exact ⟨ρ', e, h⟩
theorem enum_e {α : Type} (xs : List α) (g : α → D) (z : α) {a : ME} {ρ : MEnv} {s : S} (h : a ρ = some (.ok s)) (hs : s.val = .lst (xs.map g) ∨ s.val = .tup (xs.map g)) : a4o a ρ = some (.ok ((List.range xs.length).map fun i : Nat => D.tup [.int i, g (xs.getD i z)])) := by
  have e : (List.range (xs.map g).length).zipWith (fun (i : Nat) d => D.tup [.int i, d]) (xs.map g) = (List.range xs.length).map fun i : Nat => D.tup [.int i, g (xs.getD i z)] := by
    refine List.ext_getElem? fun i => ?_
    rw [List.getElem?_zipWith, List.length_map]
    by_cases hi : i < xs.length
    · rw [List.getElem?_range hi, List.getElem?_map, List.getElem?_eq_getElem hi, List.getElem?_map, List.getElem?_range hi]
      simp only [Option.map_some, List.getD_eq_getElem?_getD, List.getElem?_eq_getElem hi, Option.getD_some]
    · rw [List.getElem?_eq_none (l := List.range xs.length) (by rw [List.length_range]; omega), List.getElem?_eq_none (l := (List.range xs.length).map fun i : Nat => D.tup [.int i, g (xs.getD i z)]) (by rw [List.length_map, List.length_range]; omega)]
  unfold a4o iArg
  rw [h]
  dsimp only
  rcases hs with hs | hs
  · rw [hs]; show some (RI.ok _) = _; rw [e]
  · rw [hs]; show some (RI.ok _) = _; rw [e]
end
end L3
namespace L3
open PySem
section
variable {ρ : MEnv} {a b e1 e2 e3 e4 : ME} {s s1 s2 s3 s4 : S} {o o1 : O} {r : Option O} {q : Option R} {F : a5c} {c : String} {f m : Str} {ns : List Str} {ds : List D} {cs : List String}
theorem a6W {i j : Nat} {k : Nat} (h1 : e1 ρ = some (.ok s)) (h0 : ρ[i]? = some (some (.own (.lst ds)))) (h2 : e2 ρ = okI k) (hk : k < ds.length) : a1C i e2 e1 ρ = some (.next (ρ.set i (some (.own (.lst (ds.set k s.val)))))) := by
  unfold a1C ownL; rw [h1]; dsimp only [a2D]; rw [h0]; dsimp only; rw [h2]; dsimp only [S.val]
  have : ixD ds.length (k : Int) = some k := by unfold ixD; rw [if_pos (by omega), if_pos (by omega), Int.toNat_natCast]
  rw [this]
theorem slice_to {x : Nat} (h : x < ds.length) : a3Z (.tup ds) none (some x) = okD (.tup (ds.take x)) := by
  show (if (sIxD ds.length 0 none = 0 ∧ sIxD ds.length ds.length (some (x : Int)) = ds.length) then none else okD (.tup (cutD ds none (some (x : Int))))) = _
  have e : sIxD ds.length ds.length (some (x : Int)) = x := by
    show (if (x : Int) < 0 then ((x : Int) + (ds.length : Int)).toNat else min (x : Int).toNat ds.length) = x
    rw [if_neg (by omega)]; omega
  rw [if_neg (by rw [e]; omega)]
  show okD (.tup ((ds.drop 0).take (sIxD ds.length ds.length (some (x : Int)) - 0))) = _
  rw [e]; rfl
theorem a58 {x : Nat} (h0 : 0 < x) (h : x ≤ ds.length) : a3Z (.tup ds) (some x) none = okD (.tup (ds.drop x)) := by
  have e : sIxD ds.length 0 (some (x : Int)) = x := by
    show (if (x : Int) < 0 then ((x : Int) + (ds.length : Int)).toNat else min (x : Int).toNat ds.length) = x
    rw [if_neg (by omega)]; omega
  show (if (sIxD ds.length 0 (some (x : Int)) = 0 ∧ ds.length = ds.length) then none else okD (.tup (cutD ds (some (x : Int)) none))) = _
  rw [e, if_neg (by omega)]
  show okD (.tup ((ds.drop (sIxD ds.length 0 (some (x : Int)))).take (ds.length - sIxD ds.length 0 (some (x : Int))))) = _
  rw [e, List.take_of_length_le (by rw [List.length_drop]; omega)]
theorem a4I {x : Nat} (h : a ρ = some (.ok s)) (hv : s.val = .tup ds) (hx : e1 ρ = okI x) (hl : x < ds.length) : a08 a none (some e1) ρ = okD (.tup (ds.take x)) := by
  unfold a08; rw [h]; dsimp only [a0N]; rw [hv]
  show (a0N (e1 ρ) fun d => match d with | .int i => a3Z (.tup ds) none (some i) | _ => none) = _
  rw [hx]; exact slice_to hl
theorem a5f {x : Nat} (h : a ρ = some (.ok s)) (hv : s.val = .tup ds) (hx : e1 ρ = okI x) (h0 : 0 < x) (hl : x ≤ ds.length) : a08 a (some e1) none ρ = okD (.tup (ds.drop x)) := by
  unfold a08; rw [h]; dsimp only [a0N]; rw [hv]
  show (a0N (e1 ρ) fun d => match d with | .int i => a3Z (.tup ds) (some i) none | _ => none) = _
  rw [hx]; exact a58 h0 hl
theorem cat_t {xs ys : List D} (h : xs.length + ys.length ≤ 100000) : dAdd (.tup xs) (.tup ys) = okD (.tup (xs ++ ys)) := by
  show (if xs.length + ys.length ≤ lim then okD (.tup (xs ++ ys)) else none) = _
  rw [if_pos (Nat.le_trans h (by decide))]
theorem callB_e {G : List D → Option R} {as : List ME} {d : D} (h : a1W as ρ G = okD d) (hf : flat d = true) : a0i G as ρ = okD d := by
  unfold a0i; rw [h]; show (if flat d = true then okD d else none) = _; rw [if_pos hf]
theorem a4t {x y : Str} (h : x = y) : dEq (.str x) (.str y) = okB true := by subst h; exact a3A x
theorem a3z {x y : Str} (h : x ≠ y) : dEq (.str x) (.str y) = okB false := by unfold dEq eqF; simp [h]
theorem a5w {x y : Str} (h : x ≠ y) : dNe (.str x) (.str y) = okB true := by unfold dNe eqF; simp [h]
theorem a66 {x y : Str} (h : x = y) : dNe (.str x) (.str y) = okB false := by unfold dNe eqF; simp [h]
end
end L3
namespace Bell
open PySem L3
def a6p : MC :=
 (sSeq (sSet 3 (eC (.int 0))) (sSeq (sIf (eBin dGt (a0i (f1 dLen) [(eAny 0)]) (eC (.int 0))) (sSet 3 (eBin dMod (eBin dIx (eVar 0) (eBin dMod (eVar 1) (a0i (f1 dLen) [(eAny 0)]))) (eC (.int 2147483647)))) a0L) (sRet (eBin dMod (eBin dMod (eBin dAdd (eBin dMul (eVar 3) (eC (.int 48271))) (eBin dMul (eBin dMul (eBin dAdd (eVar 1) (eC (.int 1))) (eBin dAdd (eVar 1) (eC (.int 5)))) (eC (.int 69621)))) (eC (.int 2147483629))) (eVar 2)))))
def a0c : List D → Option R := fnD 3 4 a6p
def a41 : MC :=
 (sSeq (sSet 2 (a0h a0c [(eVar 0), (eVar 1), (eC (.int 9))])) (sSeq (sIf (eBin dLt (eVar 2) (eC (.int 6))) (sRet (eBin dSub (a0h a0c [(eVar 0), (eBin dAdd (eVar 1) (eC (.int 1))), (eC (.int 7))]) (eC (.int 3)))) a0L) (sSeq (sIf (eBin dEq (eVar 2) (eC (.int 6))) (sRet (eBin dSub (eC (.int 1000000000)) (eBin dMul (eC (.int 2000000000)) (a0h a0c [(eVar 0), (eBin dAdd (eVar 1) (eC (.int 1))), (eC (.int 2))])))) a0L) (sRet (eBin dSub (a0h a0c [(eVar 0), (eBin dAdd (eVar 1) (eC (.int 1))), (eC (.int 2000000001))]) (eC (.int 1000000000)))))))
def a0j : List D → Option R := fnD 2 3 a41
def a5A : MC :=
 (sSeq (sSet 3 (eLst [])) (sSeq (sFor (a0E (eVar 2)) (a0Z 4) (sSeq (sSet 5 (eBin dAdd (eVar 1) (eBin dMul (eC (.int 5)) (eVar 4)))) (sSeq (sSet 6 (eBin dAdd (eC (.int 1)) (a0h a0c [(eVar 0), (eVar 5), (eC (.int 2))]))) (a2K 3 (eTup [(eBin dAdd (eC (.str "b")) (eBin dIx (eC (.str "abcdefgh")) (eVar 4))), (a0h (f1 a2o) [(a05 [7] (a0E (eVar 6)) (a0Z 7) a1X (a0h a0j [(eVar 0), (eBin dAdd (eBin dAdd (eVar 5) (eC (.int 1))) (eBin dMul (eC (.int 2)) (eVar 7)))]))])]))))) (sDem 3 (sRet (a0h (f1 a2o) [(eVar 3)])))))
def a1P : List D → Option R := fnD 3 8 a5A
def a5z : MC :=
 (sSeq (sSet 2 (a0h (f1 dSum) [(a05 [4] (iSeq (a08 (eVar 0) none (some (eVar 1)))) (a0Z 4) a1X (a0i (f1 dLen) [(eBin dIx (eVar 4) (eC (.int 1)))]))])) (sRet (a05 [3] (a0E (a0i (f1 dLen) [(eBin dIx (eBin dIx (eVar 0) (eVar 1)) (eC (.int 1)))])) (a0Z 3) a1X (eBin dAdd (eVar 2) (eVar 3)))))
def a0p : List D → Option R := fnD 2 5 a5z
def a6q : MC :=
 (sSeq (sSet 3 (a0h a0c [(eVar 0), (eVar 1), (eC (.int 10))])) (sSeq (sSet 4 (a0h a0c [(eVar 0), (eBin dAdd (eVar 1) (eC (.int 1))), (a0i (f1 dLen) [(eAny 2)])])) (sSeq (sSet 5 (a0i (f1 dLen) [(eBin dIx (eBin dIx (eVar 2) (eVar 4)) (eC (.int 1)))])) (sSeq (sSet 6 (a05 [7] (a0E (a0i (f1 dLen) [(eAny 2)])) (a0Z 7) (eAnd (eBin dNe (eVar 7) (eVar 4)) (eBin dEq (a0i (f1 dLen) [(eBin dIx (eBin dIx (eVar 2) (eVar 7)) (eC (.int 1)))]) (eVar 5))) (eVar 7))) (sSeq (sIf (eBin dEq (eVar 3) (eC (.int 0))) (sRet (eTup [(eC (.str "put")), (eVar 4), (a0h (f1 a2o) [(a05 [10] (a0E (eVar 5)) (a0Z 10) a1X (a0h a0j [(eVar 0), (eBin dAdd (eBin dAdd (eVar 1) (eC (.int 2))) (eBin dMul (eC (.int 2)) (eVar 10)))]))])])) a0L) (sSeq (sIf (eAnd (eBin dEq (eVar 3) (eC (.int 1))) (eBin dGt (a0i (f1 dLen) [(eAny 6)]) (eC (.int 0)))) (sDem 6 (sRet (eTup [(eC (.str "copy")), (eVar 4), (eBin dIx (eVar 6) (a0h a0c [(eVar 0), (eBin dAdd (eVar 1) (eC (.int 2))), (a0i (f1 dLen) [(eAny 6)])]))]))) a0L) (sSeq (sIf (eAnd (eBin dEq (eVar 3) (eC (.int 2))) (eBin dEq (eVar 5) (eC (.int 1)))) (sRet (eTup [(eC (.str "tick")), (eVar 4)])) a0L) (sSeq (sIf (eBin dEq (eVar 3) (eC (.int 3))) (sRet (eTup [(eC (.str "still")), (eBin dAdd (eC (.int 1)) (a0h a0c [(eVar 0), (eBin dAdd (eVar 1) (eC (.int 2))), (eC (.int 9))]))])) a0L) (sSeq (sIf (eOr (eBin dEq (eVar 3) (eC (.int 4))) (eBin dEq (eVar 3) (eC (.int 5)))) (sDem 6 (sSeq (sSet 7 (eBin dIx (eBin dAdd (eVar 6) (eLst [(eVar 4)])) (a0h a0c [(eVar 0), (eBin dAdd (eVar 1) (eC (.int 2))), (eBin dAdd (a0i (f1 dLen) [(eAny 6)]) (eC (.int 1)))]))) (sRet (eTup [(eBin dIx (eLst [(eC (.str "is")), (eC (.str "most"))]) (eBin dSub (eVar 3) (eC (.int 4)))), (eVar 4), (eVar 7), (a0h a0j [(eVar 0), (eBin dAdd (eVar 1) (eC (.int 3)))])])))) a0L) (sSeq (sIf (eBin dEq (eVar 3) (eC (.int 6))) (sRet (eTup [(eC (.str "none")), (eVar 4)])) a0L) (sSeq (sIf (eAnd (eBin (dIn false) (eVar 3) (eTup [(eC (.int 7)), (eC (.int 8))])) (eBin dGt (a0i (f1 dLen) [(eAny 6)]) (eC (.int 0)))) (sDem 6 (sSeq (sSet 7 (eBin dIx (eVar 6) (a0h a0c [(eVar 0), (eBin dAdd (eVar 1) (eC (.int 2))), (a0i (f1 dLen) [(eAny 6)])]))) (sSeq (sSet 8 (a05 [9] (a0E (a0i (f1 dLen) [(eAny 2)])) (a0Z 9) (eAnd (eBin dNe (eVar 9) (eVar 4)) (eAnd (eBin dNe (eVar 9) (eVar 7)) (eBin dEq (a0i (f1 dLen) [(eBin dIx (eBin dIx (eVar 2) (eVar 9)) (eC (.int 1)))]) (eC (.int 1))))) (eVar 9))) (sIf (eBin dGt (a0i (f1 dLen) [(eAny 8)]) (eC (.int 0))) (sDem 8 (sRet (eTup [(eC (.str "anew")), (eVar 4), (eVar 7), (eBin dIx (eVar 8) (a0h a0c [(eVar 0), (eBin dAdd (eVar 1) (eC (.int 3))), (a0i (f1 dLen) [(eAny 8)])]))]))) a0L)))) a0L) (sRet (eTup [(eC (.str "grow")), (eVar 4), (a0h a0j [(eVar 0), (eBin dAdd (eVar 1) (eC (.int 2)))])])))))))))))))
def a2B : List D → Option R := fnD 3 11 a6q
def a7b : MC :=
 (sSeq (sIf (eAnd (eBin dNe (eBin dIx (eVar 1) (eC (.int 0))) (eC (.str "is"))) (eBin dNe (eBin dIx (eVar 1) (eC (.int 0))) (eC (.str "most")))) (sRet (eC (.bl true))) a0L) (sSeq (sSet 3 (a0h a0p [(eVar 0), (eBin dIx (eVar 1) (eC (.int 1)))])) (sSeq (sSet 4 (a0h a0p [(eVar 0), (eBin dIx (eVar 1) (eC (.int 2)))])) (sSeq (sFor (a0E (a0i (f1 dLen) [(eAny 3)])) (a0Z 5) (sDem 4 (sSeq (sSet 6 (eBin dAdd (eBin dIx (eVar 2) (eBin dIx (eVar 4) (eVar 5))) (eBin dIx (eVar 1) (eC (.int 3))))) (sDem 3 (sIf (eOr (eBin dGt (eBin dIx (eVar 2) (eBin dIx (eVar 3) (eVar 5))) (eVar 6)) (eAnd (eBin dEq (eBin dIx (eVar 1) (eC (.int 0))) (eC (.str "is"))) (eBin dLt (eBin dIx (eVar 2) (eBin dIx (eVar 3) (eVar 5))) (eVar 6)))) (sRet (eC (.bl false))) a0L))))) (sRet (eC (.bl true)))))))
def a01 : List D → Option R := fnD 3 7 a7b
def a28 (G : List D → Option R) : MC :=
 (sSeq (sIf (eOr (eUn (dIsT "tuple") (eVar 1)) (eUn (dIsT "list") (eVar 1))) (sSeq (sIf (eOr (eBin dNe (eUn (dIsT "tuple") (eVar 0)) (eUn (dIsT "tuple") (eVar 1))) (eBin dNe (eUn (dIsT "list") (eVar 0)) (eUn (dIsT "list") (eVar 1)))) (sRet (eC (.bl false))) a0L) (sRet (eAnd (eBin dEq (a0i (f1 dLen) [(eAny 0)]) (a0i (f1 dLen) [(eAny 1)])) (a0h (f1 dAll) [(a05 [2, 3] (iZip (eVar 0) (eVar 1)) (bTup [2, 3]) a1X (a0h G [(eVar 2), (eVar 3)]))])))) a0L) (sSeq (sIf (eOr (eUn (dIsT "bool") (eVar 1)) (eUn (dIsT "bool") (eVar 0))) (sRet (eAnd (eUn (dIsT "bool") (eVar 1)) (eAnd (eUn (dIsT "bool") (eVar 0)) (eBin dEq (eVar 0) (eVar 1))))) a0L) (sSeq (sIf (eUn (dIsT "int") (eVar 1)) (sRet (eAnd (eUn (dIsT "int") (eVar 0)) (eBin dEq (eVar 0) (eVar 1)))) a0L) (sSeq (sIf (eUn dIsN (eVar 1)) (sRet (eUn dIsN (eVar 0))) a0L) (sRet (eAnd (eUn (dIsT "str") (eVar 0)) (eBin dEq (eVar 0) (eVar 1))))))))
def a0Y : List D → Option R := Nat.rec (motive := fun _ => List D → Option R) (fun _ => none) (fun _ G => fnD 2 4 (a28 G)) 8
def a40 : MC :=
 (sSeq (sSet 3 (eLst [])) (sSeq (sFor (a0E (eVar 2)) (a0Z 4) (sSeq (sSet 5 (a0h a0j [(eVar 0), (eBin dAdd (eVar 1) (eBin dMul (eC (.int 3)) (eVar 4)))])) (sSeq (sIf (eBin dEq (a0h a0c [(eVar 0), (eBin dAdd (eBin dAdd (eVar 1) (eBin dMul (eC (.int 3)) (eVar 4))) (eC (.int 2))), (eC (.int 3))]) (eC (.int 0))) (sSet 5 (eBin dAdd (eBin dMul (eVar 5) (eC (.int 1000000000000000000000))) (eC (.int 7)))) a0L) (a2K 3 (eVar 5))))) (sDem 3 (sRet (a0h (f1 a2o) [(eVar 3)])))))
def a1i : List D → Option R := fnD 3 6 a40
def a7a : MC :=
 (sRet (a0i (f1 dLen) [(eBin dIx (eBin dIx (eVar 0) (eVar 1)) (eC (.int 1)))]))
def a2a : List D → Option R := fnD 2 2 a7a
def a6r : MC :=
 (sSeq (sSet 2 (a0h (f1 dSum) [(a05 [3] (a0E (eVar 1)) (a0Z 3) a1X (a0h a2a [(eVar 0), (eVar 3)]))])) (sRet (eBin a2W (eVar 2) (eBin dAdd (eVar 2) (a0h a2a [(eVar 0), (eVar 1)])))))
def a2b : List D → Option R := fnD 2 4 a6r
def g_lam0 : ME := (eC (.bl true))
def f_lam0 : List D → Option R := fnL 1 g_lam0
def g_lam1 : ME := (a0h (f1 dAll) [(a05 [3, 4] (iSeq (eVar 2)) (bTup [3, 4]) a1X (eBin dEq (eBin dIx (eVar 0) (eVar 3)) (eBin dAdd (eBin dIx (eVar 0) (eVar 4)) (eVar 1))))])
def a7l : List D → Option R := fnL 5 g_lam1
def g_lam2 : ME := (a0h (f1 dAll) [(a05 [3, 4] (iSeq (eVar 2)) (bTup [3, 4]) a1X (eBin dLe (eBin dIx (eVar 0) (eVar 3)) (eBin dAdd (eBin dIx (eVar 0) (eVar 4)) (eVar 1))))])
def a7k : List D → Option R := fnL 5 g_lam2
def tbL : Nat → Option (List D → Option R)
  | 0 => some f_lam0
  | 1 => some a7l
  | 2 => some a7k
  | _ => none
def a4Z : MCl :=
 (cIf (eBin (dIn true) (eBin dIx (eVar 1) (eC (.int 0))) (eTup [(eC (.str "is")), (eC (.str "most"))])) (cLam 0 []) (cSeq (sSet 2 (a0h dLZ [(a0h a2b [(eVar 0), (eBin dIx (eVar 1) (eC (.int 1)))]), (a0h a2b [(eVar 0), (eBin dIx (eVar 1) (eC (.int 2)))])])) (cSeq (sSet 3 (eBin dIx (eVar 1) (eC (.int 3)))) (cIf (eBin dEq (eBin dIx (eVar 1) (eC (.int 0))) (eC (.str "is"))) (cLam 1 [3, 2]) (cLam 2 [3, 2])))))
def a0T : List D → Option R := fnC 2 4 a4Z
def m_law : MC :=
 (sSeq (sSet 1 (a0h a1P [(eVar 0), (eC (.int 8)), (eBin dAdd (eC (.int 1)) (a0h a0c [(eVar 0), (eC (.int 0)), (eC (.int 8))]))])) (sSeq (sSet 2 (a0h a2B [(eVar 0), (eC (.int 1)), (eVar 1)])) (sSeq (sIf (eBin dGt (a0h a0c [(eVar 0), (eC (.int 6)), (eC (.int 4))]) (eC (.int 0))) (sSeq (sSet 8 (a0h a0c [(eVar 0), (eC (.int 2)), (a0i (f1 dLen) [(eAny 1)])])) (sSeq (sSet 7 (a05 [9] (a0E (a0i (f1 dLen) [(eAny 1)])) (a0Z 9) (eBin dEq (a0i (f1 dLen) [(eBin dIx (eBin dIx (eVar 1) (eVar 9)) (eC (.int 1)))]) (a0i (f1 dLen) [(eBin dIx (eBin dIx (eVar 1) (eVar 8)) (eC (.int 1)))])) (eVar 9))) (sDem 7 (sSeq (sSet 9 (eBin dIx (eVar 7) (a0h a0c [(eVar 0), (eC (.int 3)), (a0i (f1 dLen) [(eAny 7)])]))) (sSet 2 (eTup [(eBin dIx (eLst [(eC (.str "is")), (eC (.str "most"))]) (a0h a0c [(eVar 0), (eC (.int 7)), (eC (.int 2))])), (eVar 8), (eVar 9), (a0h a0j [(eVar 0), (eC (.int 140))])])))))) a0L) (sSeq (sSet 3 (a0h (f1 dList) [(a0h a1i [(eVar 0), (eC (.int 60)), (a0h (f1 dSum) [(a05 [12] (iSeq (eVar 1)) (a0Z 12) a1X (a0i (f1 dLen) [(eBin dIx (eVar 12) (eC (.int 1)))]))])])])) (sSeq (sIf (eOr (eBin dEq (eBin dIx (eVar 2) (eC (.int 0))) (eC (.str "is"))) (eBin dEq (eBin dIx (eVar 2) (eC (.int 0))) (eC (.str "most")))) (sSeq (sSet 10 (a0h a0p [(eVar 1), (eBin dIx (eVar 2) (eC (.int 2)))])) (sFor (a4o (a0h a0p [(eVar 1), (eBin dIx (eVar 2) (eC (.int 1)))])) (bTup [11, 4]) (sDem 10 (a1C 3 (eVar 4) (eBin dAdd (eBin dAdd (a0i (f2 dIx) [(eAny 3), (eBin dIx (eVar 10) (eVar 11))]) (eBin dIx (eVar 2) (eC (.int 3)))) (eBin dIx (eLst [(eC (.int 0)), (eC (.int 0)), (eC (.int 0)), (eC (.int 1)), (eC (.int (-1)))]) (a0h a0c [(eVar 0), (eBin dAdd (eC (.int 120)) (eVar 11)), (eC (.int 5))]))))))) a0L) (sDem 3 (sSeq (sSet 3 (a0h (f1 a2o) [(eVar 3)])) (sSeq (sSet 4 (a0h a0c [(eVar 0), (eC (.int 130)), (a0i (f1 dLen) [(eAny 3)])])) (sDem 3 (sSeq (sSet 5 (eBin dAdd (eBin dAdd (a08 (eVar 3) none (some (eVar 4))) (eTup [(eBin dSub (eBin dAdd (eBin dIx (eVar 3) (eVar 4)) (eBin dMul (eC (.int 2)) (a0h a0c [(eVar 0), (eC (.int 131)), (eC (.int 2))]))) (eC (.int 1)))])) (a08 (eVar 3) (some (eBin dAdd (eVar 4) (eC (.int 1)))) none))) (sSeq (sSet 6 (a0h a0T [(eVar 1), (eVar 2)])) (sDem 5 (sDem 3 (sSeq (sFor (iSeq (eTup [(eVar 3), (eVar 5), (eVar 3)])) (a0Z 7) (sDem 7 (sIf (eNot (a0h a0Y [(a2x tbL 6 (eVar 7)), (a0h a01 [(eVar 1), (eVar 2), (eVar 7)])])) (sRet (eC (.bl false))) a0L))) (sRet (eC (.bl true)))))))))))))))))
def f_law : List D → Option R := fnD 1 13 m_law
end Bell
namespace Bell
open PySem L3
def a4C : MC := (sSeq (sSet 5 (eBin dAdd (eVar 1) (eBin dMul (eC (.int 5)) (eVar 4)))) (sSeq (sSet 6 (eBin dAdd (eC (.int 1)) (a0h a0c [(eVar 0), (eVar 5), (eC (.int 2))]))) (a2K 3 (eTup [(eBin dAdd (eC (.str "b")) (eBin dIx (eC (.str "abcdefgh")) (eVar 4))), (a0h (f1 a2o) [(a05 [7] (a0E (eVar 6)) (a0Z 7) a1X (a0h a0j [(eVar 0), (eBin dAdd (eBin dAdd (eVar 5) (eC (.int 1))) (eBin dMul (eC (.int 2)) (eVar 7)))]))])]))))
def a4G : MC := (sSeq (sIf (eBin dEq (eVar 3) (eC (.int 0))) (sRet (eTup [(eC (.str "put")), (eVar 4), (a0h (f1 a2o) [(a05 [10] (a0E (eVar 5)) (a0Z 10) a1X (a0h a0j [(eVar 0), (eBin dAdd (eBin dAdd (eVar 1) (eC (.int 2))) (eBin dMul (eC (.int 2)) (eVar 10)))]))])])) a0L) (sSeq (sIf (eAnd (eBin dEq (eVar 3) (eC (.int 1))) (eBin dGt (a0i (f1 dLen) [(eAny 6)]) (eC (.int 0)))) (sDem 6 (sRet (eTup [(eC (.str "copy")), (eVar 4), (eBin dIx (eVar 6) (a0h a0c [(eVar 0), (eBin dAdd (eVar 1) (eC (.int 2))), (a0i (f1 dLen) [(eAny 6)])]))]))) a0L) (sSeq (sIf (eAnd (eBin dEq (eVar 3) (eC (.int 2))) (eBin dEq (eVar 5) (eC (.int 1)))) (sRet (eTup [(eC (.str "tick")), (eVar 4)])) a0L) (sSeq (sIf (eBin dEq (eVar 3) (eC (.int 3))) (sRet (eTup [(eC (.str "still")), (eBin dAdd (eC (.int 1)) (a0h a0c [(eVar 0), (eBin dAdd (eVar 1) (eC (.int 2))), (eC (.int 9))]))])) a0L) (sSeq (sIf (eOr (eBin dEq (eVar 3) (eC (.int 4))) (eBin dEq (eVar 3) (eC (.int 5)))) (sDem 6 (sSeq (sSet 7 (eBin dIx (eBin dAdd (eVar 6) (eLst [(eVar 4)])) (a0h a0c [(eVar 0), (eBin dAdd (eVar 1) (eC (.int 2))), (eBin dAdd (a0i (f1 dLen) [(eAny 6)]) (eC (.int 1)))]))) (sRet (eTup [(eBin dIx (eLst [(eC (.str "is")), (eC (.str "most"))]) (eBin dSub (eVar 3) (eC (.int 4)))), (eVar 4), (eVar 7), (a0h a0j [(eVar 0), (eBin dAdd (eVar 1) (eC (.int 3)))])])))) a0L) (sSeq (sIf (eBin dEq (eVar 3) (eC (.int 6))) (sRet (eTup [(eC (.str "none")), (eVar 4)])) a0L) (sSeq (sIf (eAnd (eBin (dIn false) (eVar 3) (eTup [(eC (.int 7)), (eC (.int 8))])) (eBin dGt (a0i (f1 dLen) [(eAny 6)]) (eC (.int 0)))) (sDem 6 (sSeq (sSet 7 (eBin dIx (eVar 6) (a0h a0c [(eVar 0), (eBin dAdd (eVar 1) (eC (.int 2))), (a0i (f1 dLen) [(eAny 6)])]))) (sSeq (sSet 8 (a05 [9] (a0E (a0i (f1 dLen) [(eAny 2)])) (a0Z 9) (eAnd (eBin dNe (eVar 9) (eVar 4)) (eAnd (eBin dNe (eVar 9) (eVar 7)) (eBin dEq (a0i (f1 dLen) [(eBin dIx (eBin dIx (eVar 2) (eVar 9)) (eC (.int 1)))]) (eC (.int 1))))) (eVar 9))) (sIf (eBin dGt (a0i (f1 dLen) [(eAny 8)]) (eC (.int 0))) (sDem 8 (sRet (eTup [(eC (.str "anew")), (eVar 4), (eVar 7), (eBin dIx (eVar 8) (a0h a0c [(eVar 0), (eBin dAdd (eVar 1) (eC (.int 3))), (a0i (f1 dLen) [(eAny 8)])]))]))) a0L)))) a0L) (sRet (eTup [(eC (.str "grow")), (eVar 4), (a0h a0j [(eVar 0), (eBin dAdd (eVar 1) (eC (.int 2)))])])))))))))
def a35 : MC := (sRet (eTup [(eC (.str "grow")), (eVar 4), (a0h a0j [(eVar 0), (eBin dAdd (eVar 1) (eC (.int 2)))])]))
def a2N : MC := (sDem 4 (sSeq (sSet 6 (eBin dAdd (eBin dIx (eVar 2) (eBin dIx (eVar 4) (eVar 5))) (eBin dIx (eVar 1) (eC (.int 3))))) (sDem 3 (sIf (eOr (eBin dGt (eBin dIx (eVar 2) (eBin dIx (eVar 3) (eVar 5))) (eVar 6)) (eAnd (eBin dEq (eBin dIx (eVar 1) (eC (.int 0))) (eC (.str "is"))) (eBin dLt (eBin dIx (eVar 2) (eBin dIx (eVar 3) (eVar 5))) (eVar 6)))) (sRet (eC (.bl false))) a0L))))
def a1E : MC := (sDem 3 (sIf (eOr (eBin dGt (eBin dIx (eVar 2) (eBin dIx (eVar 3) (eVar 5))) (eVar 6)) (eAnd (eBin dEq (eBin dIx (eVar 1) (eC (.int 0))) (eC (.str "is"))) (eBin dLt (eBin dIx (eVar 2) (eBin dIx (eVar 3) (eVar 5))) (eVar 6)))) (sRet (eC (.bl false))) a0L))
def a3J : MC := (sSeq (sSet 5 (a0h a0j [(eVar 0), (eBin dAdd (eVar 1) (eBin dMul (eC (.int 3)) (eVar 4)))])) (sSeq (sIf (eBin dEq (a0h a0c [(eVar 0), (eBin dAdd (eBin dAdd (eVar 1) (eBin dMul (eC (.int 3)) (eVar 4))) (eC (.int 2))), (eC (.int 3))]) (eC (.int 0))) (sSet 5 (eBin dAdd (eBin dMul (eVar 5) (eC (.int 1000000000000000000000))) (eC (.int 7)))) a0L) (a2K 3 (eVar 5))))
def a6N : MC := (sSeq (sIf (eBin dGt (a0h a0c [(eVar 0), (eC (.int 6)), (eC (.int 4))]) (eC (.int 0))) (sSeq (sSet 8 (a0h a0c [(eVar 0), (eC (.int 2)), (a0i (f1 dLen) [(eAny 1)])])) (sSeq (sSet 7 (a05 [9] (a0E (a0i (f1 dLen) [(eAny 1)])) (a0Z 9) (eBin dEq (a0i (f1 dLen) [(eBin dIx (eBin dIx (eVar 1) (eVar 9)) (eC (.int 1)))]) (a0i (f1 dLen) [(eBin dIx (eBin dIx (eVar 1) (eVar 8)) (eC (.int 1)))])) (eVar 9))) (sDem 7 (sSeq (sSet 9 (eBin dIx (eVar 7) (a0h a0c [(eVar 0), (eC (.int 3)), (a0i (f1 dLen) [(eAny 7)])]))) (sSet 2 (eTup [(eBin dIx (eLst [(eC (.str "is")), (eC (.str "most"))]) (a0h a0c [(eVar 0), (eC (.int 7)), (eC (.int 2))])), (eVar 8), (eVar 9), (a0h a0j [(eVar 0), (eC (.int 140))])])))))) a0L) (sSeq (sSet 3 (a0h (f1 dList) [(a0h a1i [(eVar 0), (eC (.int 60)), (a0h (f1 dSum) [(a05 [12] (iSeq (eVar 1)) (a0Z 12) a1X (a0i (f1 dLen) [(eBin dIx (eVar 12) (eC (.int 1)))]))])])])) (sSeq (sIf (eOr (eBin dEq (eBin dIx (eVar 2) (eC (.int 0))) (eC (.str "is"))) (eBin dEq (eBin dIx (eVar 2) (eC (.int 0))) (eC (.str "most")))) (sSeq (sSet 10 (a0h a0p [(eVar 1), (eBin dIx (eVar 2) (eC (.int 2)))])) (sFor (a4o (a0h a0p [(eVar 1), (eBin dIx (eVar 2) (eC (.int 1)))])) (bTup [11, 4]) (sDem 10 (a1C 3 (eVar 4) (eBin dAdd (eBin dAdd (a0i (f2 dIx) [(eAny 3), (eBin dIx (eVar 10) (eVar 11))]) (eBin dIx (eVar 2) (eC (.int 3)))) (eBin dIx (eLst [(eC (.int 0)), (eC (.int 0)), (eC (.int 0)), (eC (.int 1)), (eC (.int (-1)))]) (a0h a0c [(eVar 0), (eBin dAdd (eC (.int 120)) (eVar 11)), (eC (.int 5))]))))))) a0L) (sDem 3 (sSeq (sSet 3 (a0h (f1 a2o) [(eVar 3)])) (sSeq (sSet 4 (a0h a0c [(eVar 0), (eC (.int 130)), (a0i (f1 dLen) [(eAny 3)])])) (sDem 3 (sSeq (sSet 5 (eBin dAdd (eBin dAdd (a08 (eVar 3) none (some (eVar 4))) (eTup [(eBin dSub (eBin dAdd (eBin dIx (eVar 3) (eVar 4)) (eBin dMul (eC (.int 2)) (a0h a0c [(eVar 0), (eC (.int 131)), (eC (.int 2))]))) (eC (.int 1)))])) (a08 (eVar 3) (some (eBin dAdd (eVar 4) (eC (.int 1)))) none))) (sSeq (sSet 6 (a0h a0T [(eVar 1), (eVar 2)])) (sDem 5 (sDem 3 (sSeq (sFor (iSeq (eTup [(eVar 3), (eVar 5), (eVar 3)])) (a0Z 7) (sDem 7 (sIf (eNot (a0h a0Y [(a2x tbL 6 (eVar 7)), (a0h a01 [(eVar 1), (eVar 2), (eVar 7)])])) (sRet (eC (.bl false))) a0L))) (sRet (eC (.bl true)))))))))))))))
def a6M : MC := (sSeq (sSet 3 (a0h (f1 dList) [(a0h a1i [(eVar 0), (eC (.int 60)), (a0h (f1 dSum) [(a05 [12] (iSeq (eVar 1)) (a0Z 12) a1X (a0i (f1 dLen) [(eBin dIx (eVar 12) (eC (.int 1)))]))])])])) (sSeq (sIf (eOr (eBin dEq (eBin dIx (eVar 2) (eC (.int 0))) (eC (.str "is"))) (eBin dEq (eBin dIx (eVar 2) (eC (.int 0))) (eC (.str "most")))) (sSeq (sSet 10 (a0h a0p [(eVar 1), (eBin dIx (eVar 2) (eC (.int 2)))])) (sFor (a4o (a0h a0p [(eVar 1), (eBin dIx (eVar 2) (eC (.int 1)))])) (bTup [11, 4]) (sDem 10 (a1C 3 (eVar 4) (eBin dAdd (eBin dAdd (a0i (f2 dIx) [(eAny 3), (eBin dIx (eVar 10) (eVar 11))]) (eBin dIx (eVar 2) (eC (.int 3)))) (eBin dIx (eLst [(eC (.int 0)), (eC (.int 0)), (eC (.int 0)), (eC (.int 1)), (eC (.int (-1)))]) (a0h a0c [(eVar 0), (eBin dAdd (eC (.int 120)) (eVar 11)), (eC (.int 5))]))))))) a0L) (sDem 3 (sSeq (sSet 3 (a0h (f1 a2o) [(eVar 3)])) (sSeq (sSet 4 (a0h a0c [(eVar 0), (eC (.int 130)), (a0i (f1 dLen) [(eAny 3)])])) (sDem 3 (sSeq (sSet 5 (eBin dAdd (eBin dAdd (a08 (eVar 3) none (some (eVar 4))) (eTup [(eBin dSub (eBin dAdd (eBin dIx (eVar 3) (eVar 4)) (eBin dMul (eC (.int 2)) (a0h a0c [(eVar 0), (eC (.int 131)), (eC (.int 2))]))) (eC (.int 1)))])) (a08 (eVar 3) (some (eBin dAdd (eVar 4) (eC (.int 1)))) none))) (sSeq (sSet 6 (a0h a0T [(eVar 1), (eVar 2)])) (sDem 5 (sDem 3 (sSeq (sFor (iSeq (eTup [(eVar 3), (eVar 5), (eVar 3)])) (a0Z 7) (sDem 7 (sIf (eNot (a0h a0Y [(a2x tbL 6 (eVar 7)), (a0h a01 [(eVar 1), (eVar 2), (eVar 7)])])) (sRet (eC (.bl false))) a0L))) (sRet (eC (.bl true))))))))))))))
def a5e : MC := (sSeq (sIf (eOr (eBin dEq (eBin dIx (eVar 2) (eC (.int 0))) (eC (.str "is"))) (eBin dEq (eBin dIx (eVar 2) (eC (.int 0))) (eC (.str "most")))) (sSeq (sSet 10 (a0h a0p [(eVar 1), (eBin dIx (eVar 2) (eC (.int 2)))])) (sFor (a4o (a0h a0p [(eVar 1), (eBin dIx (eVar 2) (eC (.int 1)))])) (bTup [11, 4]) (sDem 10 (a1C 3 (eVar 4) (eBin dAdd (eBin dAdd (a0i (f2 dIx) [(eAny 3), (eBin dIx (eVar 10) (eVar 11))]) (eBin dIx (eVar 2) (eC (.int 3)))) (eBin dIx (eLst [(eC (.int 0)), (eC (.int 0)), (eC (.int 0)), (eC (.int 1)), (eC (.int (-1)))]) (a0h a0c [(eVar 0), (eBin dAdd (eC (.int 120)) (eVar 11)), (eC (.int 5))]))))))) a0L) (sDem 3 (sSeq (sSet 3 (a0h (f1 a2o) [(eVar 3)])) (sSeq (sSet 4 (a0h a0c [(eVar 0), (eC (.int 130)), (a0i (f1 dLen) [(eAny 3)])])) (sDem 3 (sSeq (sSet 5 (eBin dAdd (eBin dAdd (a08 (eVar 3) none (some (eVar 4))) (eTup [(eBin dSub (eBin dAdd (eBin dIx (eVar 3) (eVar 4)) (eBin dMul (eC (.int 2)) (a0h a0c [(eVar 0), (eC (.int 131)), (eC (.int 2))]))) (eC (.int 1)))])) (a08 (eVar 3) (some (eBin dAdd (eVar 4) (eC (.int 1)))) none))) (sSeq (sSet 6 (a0h a0T [(eVar 1), (eVar 2)])) (sDem 5 (sDem 3 (sSeq (sFor (iSeq (eTup [(eVar 3), (eVar 5), (eVar 3)])) (a0Z 7) (sDem 7 (sIf (eNot (a0h a0Y [(a2x tbL 6 (eVar 7)), (a0h a01 [(eVar 1), (eVar 2), (eVar 7)])])) (sRet (eC (.bl false))) a0L))) (sRet (eC (.bl true)))))))))))))
def t_law_5 : MC := (sDem 3 (sSeq (sSet 3 (a0h (f1 a2o) [(eVar 3)])) (sSeq (sSet 4 (a0h a0c [(eVar 0), (eC (.int 130)), (a0i (f1 dLen) [(eAny 3)])])) (sDem 3 (sSeq (sSet 5 (eBin dAdd (eBin dAdd (a08 (eVar 3) none (some (eVar 4))) (eTup [(eBin dSub (eBin dAdd (eBin dIx (eVar 3) (eVar 4)) (eBin dMul (eC (.int 2)) (a0h a0c [(eVar 0), (eC (.int 131)), (eC (.int 2))]))) (eC (.int 1)))])) (a08 (eVar 3) (some (eBin dAdd (eVar 4) (eC (.int 1)))) none))) (sSeq (sSet 6 (a0h a0T [(eVar 1), (eVar 2)])) (sDem 5 (sDem 3 (sSeq (sFor (iSeq (eTup [(eVar 3), (eVar 5), (eVar 3)])) (a0Z 7) (sDem 7 (sIf (eNot (a0h a0Y [(a2x tbL 6 (eVar 7)), (a0h a01 [(eVar 1), (eVar 2), (eVar 7)])])) (sRet (eC (.bl false))) a0L))) (sRet (eC (.bl true))))))))))))
def a7B : MC := (sDem 10 (a1C 3 (eVar 4) (eBin dAdd (eBin dAdd (a0i (f2 dIx) [(eAny 3), (eBin dIx (eVar 10) (eVar 11))]) (eBin dIx (eVar 2) (eC (.int 3)))) (eBin dIx (eLst [(eC (.int 0)), (eC (.int 0)), (eC (.int 0)), (eC (.int 1)), (eC (.int (-1)))]) (a0h a0c [(eVar 0), (eBin dAdd (eC (.int 120)) (eVar 11)), (eC (.int 5))])))))
def b_law_1 : MC := (sDem 7 (sIf (eNot (a0h a0Y [(a2x tbL 6 (eVar 7)), (a0h a01 [(eVar 1), (eVar 2), (eVar 7)])])) (sRet (eC (.bl false))) a0L))
end Bell
namespace Bell
open PySem L3
def a6Z (n : Nat) : List D → Option R := Nat.rec (motive := fun _ => List D → Option R) (fun _ => none) (fun _ G => fnD 2 4 (a28 G)) n
theorem a1F (n : Nat) : a6Z (n + 1) = fnD 2 4 (a28 (a6Z n)) := rfl
theorem a5S (G : List D → Option R) (ds : List D) (mk : List D → D) (hmk : mk = D.tup ∨ mk = D.lst) (hl : ds.length ≤ lim) (h : ∀ d ∈ ds, G [d, d] = okB true) :
    a0h (f1 dAll) [a05 [2, 3] (iZip (eVar 0) (eVar 1)) (bTup [2, 3]) a1X (a0h G [(eVar 2), (eVar 3)])] [some (.sh (mk ds)), some (.sh (mk ds)), none, none] = okB true := by
  have hz : iZip (eVar 0) (eVar 1) [some (.sh (mk ds)), some (.sh (mk ds)), none, none] = some (.ok (ds.map fun d => D.tup [d, d])) := by
    rcases hmk with rfl | rfl
    · show some (RI.ok _) = _
      rw [a5L]
    · show some (RI.ok _) = _
      rw [a5L]
  refine a2Z (comp_e (fun _ => .bl true) hz (by rw [List.length_map]; exact hl) fun d hd => ?_) ?_
  · obtain ⟨e, he, rfl⟩ := List.mem_map.mp hd
    exact ⟨[some (.sh (mk ds)), some (.sh (mk ds)), some (.sh e), some (.sh e)], .sh (.bl true), rfl, rfl, h e he, rfl⟩
  · rw [List.map_map]
    show (blsOf (ds.map fun _ => D.bl true)).bind (fun bs => okB (bs.all id)) = _
    rw [a6A]
    simp
theorem a6Y : ∀ (n : Nat) (d : D), a22 n d → a6Z (n + 1) [d, d] = okB true := by
  intro n d h
  induction h with
  | non n => rw [a1F]; rfl
  | bl n b => rw [a1F]; cases b <;> rfl
  | int n i =>
    rw [a1F]
    exact a1l rfl (a0e (if_f rfl rfl) (a0e (if_f rfl rfl) (a1a (if_t rfl (a1z (a3c rfl (a0b rfl rfl (a2M i))))))))
  | str n x =>
    rw [a1F]
    exact a1l rfl (a0e (if_f rfl rfl) (a0e (if_f rfl rfl) (a0e (if_f rfl rfl) (a0e (if_f rfl rfl) (a1z (a3c rfl (a0b rfl rfl (a3A x))))))))
  | tup n ds hd hl ih =>
    rw [a1F]
    exact a1l rfl (a1a (if_t rfl (a0e (if_f rfl rfl) (a1z (a3c (a0b rfl rfl (a2M _)) (a5S (a6Z (n + 1)) ds D.tup (.inl rfl) hl ih))))))
  | lst n ds hd hl ih =>
    rw [a1F]
    exact a1l rfl (a1a (if_t rfl (a0e (if_f rfl rfl) (a1z (a3c (a0b rfl rfl (a2M _)) (a5S (a6Z (n + 1)) ds D.lst (.inr rfl) hl ih))))))
theorem a6X {n : Nat} {d : D} (h : a22 n d) (hn : n ≤ 7) : a0Y [d, d] = okB true := a6Y 7 d (h.mono hn)
def a0R (ns : List Int) (k m : Int) : Int := ((if ns = [] then 0 else (ns.getD (k % ns.length).toNat 0) % 2147483647) * 48271 + (k + 1) * (k + 5) * 69621) % 2147483629 % m
theorem a44 {sc : D} {k m c : Int} (h0 : 0 ≤ k) (h1 : k ≤ 100000) (hm : 0 < m) :
    (sRet (eBin dMod (eBin dMod (eBin dAdd (eBin dMul (eVar 3) (eC (.int 48271))) (eBin dMul (eBin dMul (eBin dAdd (eVar 1) (eC (.int 1))) (eBin dAdd (eVar 1) (eC (.int 5)))) (eC (.int 69621)))) (eC (.int 2147483629))) (eVar 2))) [some (.sh sc), some (.sh (.int k)), some (.sh (.int m)), some (.sh (.int c))]
      = some (.ret (.sh (.int ((c * 48271 + (k + 1) * (k + 5) * 69621) % 2147483629 % m)))) := by
  refine a1z (a0b (a0b (a0b (a0b rfl rfl (mulR (by decide) (by decide))) (a0b (a0b rfl rfl (mulL ?_ ?_)) rfl (mulR (by decide) (by decide))) (add_int _ _)) rfl (a4i (by decide))) rfl (a4i hm))
  · show (-(2 ^ 60) : Int) ≤ k + 1; omega
  · show k + 1 ≤ 2 ^ 60; omega
theorem a1c {ns : List Int} {k m : Int} (h0 : 0 ≤ k) (h1 : k ≤ 100000) (hm : 0 < m) : a0c [.lst (ns.map D.int), .int k, .int m] = okI (a0R ns k m) := by
  cases ns with
  | nil => exact a1l rfl (a0e (a0I rfl) (a0e (if_f rfl rfl) (a44 h0 h1 hm)))
  | cons n ns =>
    have hl : (0 : Int) < ((n :: ns).length : Int) := by rw [List.length_cons]; omega
    have hp : 0 ≤ k % ((n :: ns).length : Int) := Int.emod_nonneg _ (by omega)
    have hq : k % ((n :: ns).length : Int) < ((n :: ns).length : Int) := Int.emod_lt_of_pos _ hl
    have hlen : dLen (.lst ((n :: ns).map D.int)) = okI ((n :: ns).length : Int) := by show okI (((n :: ns).map D.int).length : Int) = _; rw [List.length_map]
    have hix : dIx (.lst ((n :: ns).map D.int)) (.int (k % ((n :: ns).length : Int))) = okI ((n :: ns).getD (k % ((n :: ns).length : Int)).toNat 0) := by
      have e : ((n :: ns).map D.int)[(k % ((n :: ns).length : Int)).toNat]? = some (.int ((n :: ns).getD (k % ((n :: ns).length : Int)).toNat 0)) := by
        have hi : (k % ((n :: ns).length : Int)).toNat < (n :: ns).length := by omega
        rw [List.getElem?_map, List.getD_eq_getElem?_getD, List.getElem?_eq_getElem hi]
        rfl
      have z := a2n e
      rwa [Int.toNat_of_nonneg hp] at z
    refine a1l rfl (a0e (a0I rfl) (a0e (if_t (a0b (lenB rfl hlen) rfl ?_) (a0I (a0b (a0b rfl (a0b rfl (lenB rfl hlen) (a4i hl)) hix) rfl (a4i (by decide))))) ?_))
    · show okB (decide (0 < ((n :: ns).length : Int))) = _
      rw [decide_eq_true hl]
    · unfold a0R
      rw [if_neg (List.cons_ne_nil _ _)]
      exact a44 h0 h1 hm
theorem a1b {ns : List Int} {k m : Int} (hm : 0 < m) : 0 ≤ a0R ns k m ∧ a0R ns k m < m := by
  unfold a0R
  exact ⟨Int.emod_nonneg _ (by omega), Int.emod_lt_of_pos _ hm⟩
theorem a6w {ns : List Int} {k m : Int} (h0 : 0 ≤ k) (h1 : k ≤ 100000) (hm : 0 < m) : ∃ n : Nat, a0c [.lst (ns.map D.int), .int k, .int m] = okI n ∧ (n : Int) < m := by
  obtain ⟨a, b⟩ := a1b (ns := ns) (k := k) hm
  refine ⟨(a0R ns k m).toNat, ?_, by omega⟩
  rw [a1c h0 h1 hm]
  congr 4
  omega
end Bell
namespace Bell
open PySem L3
abbrev Bx := Str × List Int
def bD (b : Bx) : D := .tup [.str b.1, .tup (b.2.map D.int)]
def a0A (bs : List Bx) : D := .tup (bs.map bD)
def a5b (i : Int) : Prop := -1000000000 ≤ i ∧ i ≤ 1000000000
def BxOk (b : Bx) : Prop := 1 ≤ b.2.length ∧ b.2.length ≤ 2 ∧ ∀ i ∈ b.2, a5b i
def a1A (bs : List Bx) : Prop := bs.length ≤ 8 ∧ ∀ b ∈ bs, BxOk b
def szB (bs : List Bx) (x : Nat) : Nat := (bs.getD x (Str.empty, [])).2.length
inductive Deed where
  | put (x : Nat) (ns : List Int) | copy (x y : Nat) | grow (x : Nat) (n : Int) | tick (x : Nat) | still (n : Nat)
  | iz (x y : Nat) (n : Int) | most (x y : Nat) (n : Int) | non (x : Nat) | anew (x y t : Nat)
def natD (n : Nat) : D := .int n
def Deed.d : Deed → D
  | .put x ns => .tup [.str (Str.ofString "put"), .int x, .tup (ns.map D.int)]
  | .copy x y => .tup [.str (Str.ofString "copy"), .int x, .int y]
  | .grow x n => .tup [.str (Str.ofString "grow"), .int x, .int n]
  | .tick x => .tup [.str (Str.ofString "tick"), .int x]
  | .still n => .tup [.str (Str.ofString "still"), .int n]
  | .iz x y n => .tup [.str (Str.ofString "is"), .int x, .int y, .int n]
  | .most x y n => .tup [.str (Str.ofString "most"), .int x, .int y, .int n]
  | .non x => .tup [.str (Str.ofString "none"), .int x]
  | .anew x y t => .tup [.str (Str.ofString "anew"), .int x, .int y, .int t]
def Deed.Ok (bs : List Bx) : Deed → Prop
  | .put x ns => x < bs.length ∧ ns.length = szB bs x ∧ ∀ i ∈ ns, a5b i
  | .copy x y => x < bs.length ∧ y < bs.length ∧ x ≠ y ∧ szB bs y = szB bs x
  | .grow x n => x < bs.length ∧ a5b n
  | .tick x => x < bs.length ∧ szB bs x = 1
  | .still n => 1 ≤ n ∧ n ≤ 9
  | .iz x y n => x < bs.length ∧ y < bs.length ∧ szB bs y = szB bs x ∧ a5b n
  | .most x y n => x < bs.length ∧ y < bs.length ∧ szB bs y = szB bs x ∧ a5b n
  | .non x => x < bs.length
  | .anew x y t => x < bs.length ∧ y < bs.length ∧ t < bs.length ∧ x ≠ y ∧ x ≠ t ∧ y ≠ t ∧ szB bs y = szB bs x ∧ szB bs t = 1
abbrev Pl := Deed × Nat
structure Rw where
  nm : Str
  rk : Nat
  pl : List Pl
def plD (p : Pl) : D := .tup [p.1.d, .int p.2]
def Rw.d (r : Rw) : D := .tup [.str r.nm, .int r.rk, .tup (r.pl.map plD)]
def progD (bs : List Bx) (rs : List Rw) : D := .tup [a0A bs, .tup (rs.map Rw.d)]
def PlOk (bs : List Bx) (bells : Nat) (p : Pl) : Prop := p.1.Ok bs ∧ p.2 < 2 ^ (bells + 1) ∧ p.2 % 2 = 0
def RwOk (bs : List Bx) (bells most : Nat) (r : Rw) : Prop := 1 ≤ r.pl.length ∧ r.pl.length ≤ most ∧ (∀ p ∈ r.pl, PlOk bs bells p)
structure ProgOk (bs : List Bx) (rs : List Rw) (bells most : Nat) : Prop where
  box : a1A bs
  len : rs.length = bells + 1
  row : ∀ r ∈ rs, RwOk bs bells most r
  main : (rs.getD 0 ⟨Str.empty, 1, []⟩).rk = 0
  rank : ∀ k r, rs[k]? = some r → k ≠ 0 → 1 ≤ r.rk ∧ r.rk ≤ 9
theorem a52 (ds : List D) : dLen (.lst ds) = okI (ds.length : Int) := rfl
theorem ix_boxes {bs : List Bx} {x : Nat} (h : x < bs.length) : dIx (a0A bs) (.int x) = okD (bD bs[x]) := ix_tup (by rw [List.getElem?_map, List.getElem?_eq_getElem h]; rfl)
theorem a2w (bs : List Bx) : dLen (a0A bs) = okI (bs.length : Int) := by show okI ((bs.map bD).length : Int) = _; rw [List.length_map]
theorem a6Q {bs : List Bx} {x : Nat} (h : x < bs.length) : szB bs x = bs[x].2.length := by
  unfold szB
  rw [List.getD_eq_getElem?_getD, List.getElem?_eq_getElem h]
  rfl
theorem a4k (ns : List Int) : dLen (.tup (ns.map D.int)) = okI (ns.length : Int) := by show okI ((ns.map D.int).length : Int) = _; rw [List.length_map]
theorem ix_bD1 (b : Bx) : dIx (bD b) (.int 1) = okD (.tup (b.2.map D.int)) := a6s
end Bell
namespace Bell
open PySem L3
theorem a3n {bs : List Bx} {x : Nat} (h : x < bs.length) {ρ : MEnv} {i j : Nat} (hi : ρ[i]? = some (some (.sh (a0A bs)))) (hj : ρ[j]? = some (some (.sh (.int x)))) : a0i (f1 dLen) [eBin dIx (eBin dIx (eVar i) (eVar j)) (eC (.int 1))] ρ = okI (szB bs x : Nat) := by
  rw [a6Q h]
  exact lenB (a0b (a0b (a23 hi) (a23 hj) (ix_boxes h)) rfl (ix_bD1 _)) (a4k _)
theorem a3e {bs : List Bx} (hb : a1A bs) {x : Nat} (h : x < bs.length) : szB bs x = 1 ∨ szB bs x = 2 := by
  have hx := hb.2 bs[x] (List.getElem_mem h)
  rw [a6Q h]
  have := hx.1; have := hx.2.1
  omega
abbrev intD (k : Nat) : D := .int k
def a0J (bs : List Bx) (x : Nat) : List Nat := (List.range bs.length).filter fun y => !decide (y = x) && decide (szB bs y = szB bs x)
def ones (bs : List Bx) (x y : Nat) : List Nat := (List.range bs.length).filter fun t => !decide (t = x) && (!decide (t = y) && decide (szB bs t = 1))
theorem a4Y {bs : List Bx} {x y : Nat} : y ∈ a0J bs x ↔ y < bs.length ∧ y ≠ x ∧ szB bs y = szB bs x := by
  unfold a0J; rw [List.mem_filter, List.mem_range]; simp
theorem ones_mem {bs : List Bx} {x y t : Nat} : t ∈ ones bs x y ↔ t < bs.length ∧ t ≠ x ∧ t ≠ y ∧ szB bs t = 1 := by
  unfold ones; rw [List.mem_filter, List.mem_range]; simp
theorem a69 {bs : List Bx} {x : Nat} : (a0J bs x).length ≤ bs.length := by
  unfold a0J; refine Nat.le_trans (List.length_filter_le _ _) ?_; rw [List.length_range]; exact Nat.le_refl _
theorem eqN (i j : Nat) : dEq (.int i) (.int j) = okB (decide (i = j)) := by rw [eq_d, show decide ((i : Int) = (j : Int)) = decide (i = j) from decide_eq_decide.mpr (by omega)]
theorem neN (i j : Nat) : dNe (.int i) (.int j) = okB (!decide (i = j)) := by rw [ne_d, show decide ((i : Int) = (j : Int)) = decide (i = j) from decide_eq_decide.mpr (by omega)]
theorem and_b {ρ : MEnv} {a b : ME} {p q : Bool} (h1 : a ρ = okB p) (h2 : b ρ = okB q) : eAnd a b ρ = okB (p && q) := by
  cases p with
  | true => exact a3c h1 h2
  | false => exact a7E h1
theorem or_b {ρ : MEnv} {a b : ME} {p q : Bool} (h1 : a ρ = okB p) (h2 : b ρ = okB q) : eOr a b ρ = okB (p || q) := by
  cases p with
  | true => exact or_t h1
  | false => exact or_f h1 h2
theorem mates_e {bs : List Bx} (hb : a1A bs) {x : Nat} {sz : Int} (hs : sz = (szB bs x : Nat)) {ρ : MEnv} {js : List Nat} {i j s v : Nat} (h0 : ρ[i]? = some (some (.sh (a0A bs)))) (hi : (a0H js ρ)[i]? = some (some (.sh (a0A bs)))) (hj : (a0H js ρ)[j]? = some (some (.sh (.int x)))) (hz : (a0H js ρ)[s]? = some (some (.sh (.int sz)))) (hv : v < ρ.length) (n1 : v ≠ i) (n2 : v ≠ j) (n3 : v ≠ s) (hjs : (a0H js ρ).length = ρ.length) :
    a05 js (a0E (a0i (f1 dLen) [eAny i])) (a0Z v) (eAnd (eBin dNe (eVar v) (eVar j)) (eBin dEq (a0i (f1 dLen) [eBin dIx (eBin dIx (eVar i) (eVar v)) (eC (.int 1))]) (eVar s))) (eVar v) ρ = okL ((a0J bs x).map intD) := by
  unfold a0J
  refine a4v (List.range bs.length) intD (fun y => !decide (y = x) && decide (szB bs y = szB bs x)) intD ?_ ?_ fun y hy => ?_
  · rw [← rng0]
    exact a1u (lenB (any_e h0) (a2w bs)) (a0W (by have := hb.1; omega))
  · rw [List.length_range]; exact Nat.le_trans hb.1 (by decide)
  · have hy' := List.mem_range.mp hy
    have hself : ((a0H js ρ).set v (some (.sh (intD y))))[v]? = some (some (.sh (intD y))) := List.getElem?_set_self (by omega)
    refine ⟨_, rfl, and_b (a0b (a23 hself) (a23 (by rw [List.getElem?_set_ne n2]; exact hj)) (neN y x)) (a0b (a3n hy' (by rw [List.getElem?_set_ne n1]; exact hi) hself) (a23 (by rw [List.getElem?_set_ne n3]; exact hz)) (by rw [hs]; exact eqN _ _)), fun _ => ⟨_, a23 hself, rfl⟩⟩
theorem ones_e {bs : List Bx} (hb : a1A bs) {x y : Nat} {ρ : MEnv} {js : List Nat} {i j s v : Nat} (h0 : ρ[i]? = some (some (.sh (a0A bs)))) (hi : (a0H js ρ)[i]? = some (some (.sh (a0A bs)))) (hj : (a0H js ρ)[j]? = some (some (.sh (.int x)))) (hz : (a0H js ρ)[s]? = some (some (.sh (.int y)))) (hv : v < ρ.length) (n1 : v ≠ i) (n2 : v ≠ j) (n3 : v ≠ s) (hjs : (a0H js ρ).length = ρ.length) :
    a05 js (a0E (a0i (f1 dLen) [eAny i])) (a0Z v) (eAnd (eBin dNe (eVar v) (eVar j)) (eAnd (eBin dNe (eVar v) (eVar s)) (eBin dEq (a0i (f1 dLen) [eBin dIx (eBin dIx (eVar i) (eVar v)) (eC (.int 1))]) (eC (.int 1))))) (eVar v) ρ = okL ((ones bs x y).map intD) := by
  unfold ones
  refine a4v (List.range bs.length) intD (fun t => !decide (t = x) && (!decide (t = y) && decide (szB bs t = 1))) intD ?_ ?_ fun t ht => ?_
  · rw [← rng0]
    exact a1u (lenB (any_e h0) (a2w bs)) (a0W (by have := hb.1; omega))
  · rw [List.length_range]; exact Nat.le_trans hb.1 (by decide)
  · have ht' := List.mem_range.mp ht
    have hself : ((a0H js ρ).set v (some (.sh (intD t))))[v]? = some (some (.sh (intD t))) := List.getElem?_set_self (by omega)
    refine ⟨_, rfl, and_b (a0b (a23 hself) (a23 (by rw [List.getElem?_set_ne n2]; exact hj)) (neN t x)) (and_b (a0b (a23 hself) (a23 (by rw [List.getElem?_set_ne n3]; exact hz)) (neN t y)) (a0b (a3n ht' (by rw [List.getElem?_set_ne n1]; exact hi) hself) rfl (eqN _ 1))), fun _ => ⟨_, a23 hself, rfl⟩⟩
theorem a5W {l : List Nat} {j : Nat} (h : j < l.length) : dIx (.lst (l.map intD)) (.int j) = okI (l[j] : Nat) := a2n (by rw [List.getElem?_map, List.getElem?_eq_getElem h]; rfl)
end Bell
namespace Bell
open PySem L3
theorem a4S {ns : List Int} {k : Int} (h0 : 0 ≤ k) (h1 : k ≤ 10000) : ∃ i, a0j [.lst (ns.map D.int), .int k] = okI i ∧ a5b i := by
  have d9 := a1c (ns := ns) (k := k) (m := 9) h0 (by omega) (by decide)
  have d7 := a1c (ns := ns) (k := k + 1) (m := 7) (by omega) (by omega) (by decide)
  have d2 := a1c (ns := ns) (k := k + 1) (m := 2) (by omega) (by omega) (by decide)
  have dm := a1c (ns := ns) (k := k + 1) (m := 2000000001) (by omega) (by omega) (by decide)
  have l7 := a1b (ns := ns) (k := k + 1) (m := 7) (by decide)
  have l2 := a1b (ns := ns) (k := k + 1) (m := 2) (by decide)
  have lm := a1b (ns := ns) (k := k + 1) (m := 2000000001) (by decide)
  unfold a5b
  by_cases c1 : a0R ns k 9 < 6
  · exact ⟨a0R ns (k + 1) 7 - 3, a1l rfl (a0e (a0I (a02 rfl rfl rfl d9)) (a1a (if_t (a0b rfl rfl (lt_t c1)) (a1z (a0b (a02 rfl (a0b rfl rfl rfl) rfl d7) rfl rfl))))), by omega, by omega⟩
  · by_cases c2 : a0R ns k 9 = 6
    · exact ⟨1000000000 - 2000000000 * a0R ns (k + 1) 2, a1l rfl (a0e (a0I (a02 rfl rfl rfl d9)) (a0e (if_f (a0b rfl rfl (lt_f c1)) rfl) (a1a (if_t (a0b rfl rfl (eq_t c2)) (a1z (a0b rfl (a0b rfl (a02 rfl (a0b rfl rfl rfl) rfl d2) (mulL (by decide) (by decide))) rfl)))))), by omega, by omega⟩
    · exact ⟨a0R ns (k + 1) 2000000001 - 1000000000, a1l rfl (a0e (a0I (a02 rfl rfl rfl d9)) (a0e (if_f (a0b rfl rfl (lt_f c1)) rfl) (a0e (if_f (a0b rfl rfl (eq_f c2)) rfl) (a1z (a0b (a02 rfl (a0b rfl rfl rfl) rfl dm) rfl rfl))))), by omega, by omega⟩
def numV (ns : List Int) (k : Int) : Int := match a0j [.lst (ns.map D.int), .int k] with
  | some (.ok (.sh (.int i))) => i
  | _ => 0
theorem a19 {ns : List Int} {k : Int} (h0 : 0 ≤ k) (h1 : k ≤ 10000) : a0j [.lst (ns.map D.int), .int k] = okI (numV ns k) := by
  obtain ⟨i, e, _⟩ := a4S (ns := ns) h0 h1
  unfold numV
  rw [e]
theorem a18 {ns : List Int} {k : Int} (h0 : 0 ≤ k) (h1 : k ≤ 10000) : a5b (numV ns k) := by
  obtain ⟨i, e, h⟩ := a4S (ns := ns) h0 h1
  unfold numV
  rw [e]
  exact h
theorem a4R {ns : List Int} {b : Int} {sz : Nat} (hz : sz ≤ 100) {ρ : MEnv} {js : List Nat} {it : MI} {elt : ME} {v : Nat} (hi : it ρ = some (.ok (rng 0 sz))) (he : ∀ j : Nat, j < sz → elt ((a0H js ρ).set v (some (.sh (.int j)))) = okI (numV ns (b + 2 * j))) :
    a05 js it (a0Z v) a1X elt ρ = okL (((List.range sz).map fun j : Nat => numV ns (b + 2 * j)).map D.int) := by
  rw [List.map_map]
  refine a2C (List.range sz) intD _ (by rw [hi, rng0]) (by rw [List.length_range]; exact Nat.le_trans hz (by decide)) fun j hj => ⟨_, rfl, _, he j (List.mem_range.mp hj), rfl⟩
theorem letter {k : Nat} (h : k < 8) : ∃ c, dIx (.str (Str.ofString "abcdefgh")) (.int k) = okD (.str ⟨#[c]⟩) := by
  have hk : k = 0 ∨ k = 1 ∨ k = 2 ∨ k = 3 ∨ k = 4 ∨ k = 5 ∨ k = 6 ∨ k = 7 := by omega
  rcases hk with rfl | rfl | rfl | rfl | rfl | rfl | rfl | rfl <;> exact ⟨_, rfl⟩
theorem name_ok {k : Nat} (h : k < 8) {ρ : MEnv} {i : Nat} (hi : ρ[i]? = some (some (.sh (.int k)))) : ∃ nm, eBin dAdd (eC (.str (Str.ofString "b"))) (eBin dIx (eC (.str (Str.ofString "abcdefgh"))) (eVar i)) ρ = okD (.str nm) := by
  obtain ⟨c, hc⟩ := letter h
  refine ⟨(Str.ofString "b") ++ ⟨#[c]⟩, a0b rfl (a0b rfl (a23 hi) hc) ?_⟩
  show (if (Str.ofString "b").length + (Str.mk #[c]).length ≤ lim then okD (.str (Str.ofString "b" ++ ⟨#[c]⟩)) else none) = _
  exact if_pos (by show (Str.ofString "b").length + 1 ≤ lim; decide)
def a5J (ns : List Int) (base : Int) (many k : Nat) (ρ : MEnv) : Prop := ∃ bs : List Bx, bs.length = k ∧ (∀ b ∈ bs, BxOk b) ∧ ∃ e4 e5 e6 : Option S, ρ = [some (.sh (.lst (ns.map D.int))), some (.sh (.int base)), some (.sh (.int many)), some (.own (.lst (bs.map bD))), e4, e5, e6, none]
theorem boxes_ok {ns : List Int} {base : Int} {many : Nat} (hb : 0 ≤ base) (hb1 : base ≤ 1000) (hm : many ≤ 8) : ∃ bs : List Bx, a1P [.lst (ns.map D.int), .int base, .int many] = okD (a0A bs) ∧ bs.length = many ∧ a1A bs := by
  have step : ∀ (k : Nat) (ρ : MEnv), k < many → a5J ns base many k ρ → ∃ ρ1 ρ2, a0Z 4 (.int k) ρ = some ρ1 ∧ a4C ρ1 = some (.next ρ2) ∧ a5J ns base many (k + 1) ρ2 := by
    rintro k ρ hk ⟨bs, hl, hs, e4, e5, e6, rfl⟩
    have d2 := a1c (ns := ns) (k := base + 5 * k) (m := 2) (by omega) (by omega) (by decide)
    obtain ⟨l1, l2⟩ := a1b (ns := ns) (k := base + 5 * (k : Int)) (m := 2) (by decide)
    obtain ⟨sz, hsz⟩ : ∃ sz : Nat, 1 + a0R ns (base + 5 * k) 2 = sz := ⟨(1 + a0R ns (base + 5 * k) 2).toNat, by omega⟩
    obtain ⟨nm, hnm⟩ := name_ok (k := k) (by omega) (ρ := [some (.sh (.lst (ns.map D.int))), some (.sh (.int base)), some (.sh (.int many)), some (.own (.lst (bs.map bD))), some (.sh (.int k)), some (.sh (.int (base + 5 * k))), some (.sh (.int sz)), none]) (i := 4) rfl
    have hnum := a4R (ns := ns) (b := base + 5 * k + 1) (sz := sz) (by omega) (ρ := [some (.sh (.lst (ns.map D.int))), some (.sh (.int base)), some (.sh (.int many)), some (.own (.lst (bs.map bD))), some (.sh (.int k)), some (.sh (.int (base + 5 * k))), some (.sh (.int sz)), none]) (js := [7]) (it := a0E (eVar 6)) (v := 7)
      (elt := a0h a0j [(eVar 0), (eBin dAdd (eBin dAdd (eVar 5) (eC (.int 1))) (eBin dMul (eC (.int 2)) (eVar 7)))]) (a1u rfl (a0W (by omega))) fun j hj => a1j rfl (a0b (a0b rfl rfl rfl) (a0b rfl rfl (mulL (by decide) (by decide))) rfl) (a19 (by show 0 ≤ base + 5 * (k : Int) + 1 + 2 * (j : Int); omega) (by show base + 5 * (k : Int) + 1 + 2 * (j : Int) ≤ 10000; omega))
    refine ⟨_, _, rfl, a0e (a0I (a0b rfl (a0b rfl rfl (mulL (by decide) (by decide))) rfl)) (a0e (a0I (a0b rfl (a02 rfl rfl rfl d2) (by rw [← hsz]; rfl))) (a4D rfl (tup2 hnm (a2Z hnum rfl)) ?_)), bs ++ [(nm, (List.range sz).map fun j : Nat => numV ns (base + 5 * k + 1 + 2 * j))], ?_, ?_, some (.sh (.int k)), some (.sh (.int (base + 5 * k))), some (.sh (.int sz)), ?_⟩
    · rw [List.length_map, hl]
      exact Nat.lt_of_lt_of_le (by omega : k < 8) (by decide)
    · rw [List.length_append, hl]; rfl
    · intro b hb
      rcases List.mem_append.mp hb with h | h
      · exact hs b h
      · rw [List.mem_singleton.mp h]
        refine ⟨by rw [List.length_map, List.length_range]; omega, by rw [List.length_map, List.length_range]; omega, fun i hi => ?_⟩
        obtain ⟨j, hj, rfl⟩ := List.mem_map.mp hi
        have := List.mem_range.mp hj
        exact a18 (by omega) (by omega)
    · rw [List.map_append]
      rfl
  obtain ⟨ρ', e, bs, hl, hs, e4, e5, e6, rfl⟩ := a3Y (ρ := [some (.sh (.lst (ns.map D.int))), some (.sh (.int base)), some (.sh (.int many)), some (.own (.lst [])), none, none, none, none]) (a5J ns base many) many ⟨[], rfl, fun _ h => (nomatch h), none, none, none, rfl⟩ step
  exact ⟨bs, a1l rfl (a0e (a0I rfl) (a0e (a6u (a1u rfl (a0W (by omega))) e) (a2V (a1z (a2Z rfl rfl))))), hl, by omega, hs⟩
theorem in78 {w : Int} : dIn false (.int w) (.tup [.int 7, .int 8]) = okB (decide (w = 7 ∨ w = 8)) := by
  show okB (((7 : Int) == w) || (((8 : Int) == w) || false)) = _
  congr 4
  rw [Bool.or_false, Bool.eq_iff_iff]
  simp
  omega
theorem a2P (l : List Nat) : dLen (.lst (l.map intD)) = okI (l.length : Int) := by rw [a52, List.length_map]
theorem a7c {ns : List Int} {bs : List Bx} {x : Nat} {k : Int} (hk0 : 0 ≤ k) (hk1 : k ≤ 1000) (hb : a1A bs) (hl : 0 < (a0J bs x).length) : ∃ y, dIx (.lst ((a0J bs x).map intD)) (.int (a0R ns (k + 2) ((a0J bs x).length : Int))) = okI (y : Nat) ∧ y < bs.length ∧ y ≠ x ∧ szB bs y = szB bs x := by
  obtain ⟨j, hj⟩ : ∃ j : Nat, a0R ns (k + 2) ((a0J bs x).length : Int) = j := ⟨(a0R ns (k + 2) ((a0J bs x).length : Int)).toNat, by have := a1b (ns := ns) (k := k + 2) (m := ((a0J bs x).length : Int)) (by omega); omega⟩
  have hjl : j < (a0J bs x).length := by have := a1b (ns := ns) (k := k + 2) (m := ((a0J bs x).length : Int)) (by omega); omega
  have := a4Y.mp (List.getElem_mem hjl)
  exact ⟨(a0J bs x)[j], by rw [hj]; exact a5W hjl, this⟩
theorem a59 {bs : List Bx} {a b : MC} {ρ ρ' : MEnv} (h : a ρ = some (.next ρ')) (t : ∃ dd : Deed, dd.Ok bs ∧ b ρ' = some (.ret (.sh dd.d))) : ∃ dd : Deed, dd.Ok bs ∧ sSeq a b ρ = some (.ret (.sh dd.d)) := by
  obtain ⟨dd, ok, e⟩ := t
  exact ⟨dd, ok, a0e h e⟩
theorem deed_ok {ns : List Int} {bs : List Bx} (hb : a1A bs) (h1 : 1 ≤ bs.length) {k : Int} (hk0 : 0 ≤ k) (hk1 : k ≤ 1000) : ∃ dd : Deed, dd.Ok bs ∧ a2B [.lst (ns.map D.int), .int k, a0A bs] = okD dd.d := by
  have dw := a1c (ns := ns) (k := k) (m := 10) hk0 (by omega) (by decide)
  have lw := a1b (ns := ns) (k := k) (m := 10) (by decide)
  generalize a0R ns k 10 = w at dw lw
  obtain ⟨x, dx, hx⟩ := a6w (ns := ns) (k := k + 1) (m := bs.length) (by omega) (by omega) (by omega)
  have hx : x < bs.length := by omega
  have h12 := a3e hb hx
  have hm := mates_e hb (x := x) (sz := (szB bs x : Nat)) rfl (ρ := [some (.sh (.lst (ns.map D.int))), some (.sh (.int k)), some (.sh (a0A bs)), some (.sh (.int w)), some (.sh (.int x)), some (.sh (.int (szB bs x : Nat))), none, none, none, none, none]) (js := [7]) (i := 2) (j := 4) (s := 5) (v := 7) rfl rfl rfl rfl (by show 7 < 11; decide) (by decide) (by decide) (by decide) rfl
  have ml := a69 (bs := bs) (x := x)
  have b8 := hb.1
  suffices z : ∃ dd : Deed, dd.Ok bs ∧ a4G [some (.sh (.lst (ns.map D.int))), some (.sh (.int k)), some (.sh (a0A bs)), some (.sh (.int w)), some (.sh (.int x)), some (.sh (.int (szB bs x : Nat))), some (.own (.lst ((a0J bs x).map intD))), none, none, none, none] = some (.ret (.sh dd.d)) by
    obtain ⟨dd, ok, e⟩ := z
    exact ⟨dd, ok, a1l rfl (a0e (a0I (a02 rfl rfl rfl dw)) (a0e (a0I (a02 rfl (a0b rfl rfl rfl) (lenB rfl (a2w bs)) dx)) (a0e (a0I (a3n hx rfl rfl)) (a0e (a0I hm) e))))⟩
  have hln := a2P (a0J bs x)
  have n2 := a19 (ns := ns) (k := k + 2) (by omega) (by omega)
  have n2' := a18 (ns := ns) (k := k + 2) (by omega) (by omega)
  have n3 := a19 (ns := ns) (k := k + 3) (by omega) (by omega)
  have n3' := a18 (ns := ns) (k := k + 3) (by omega) (by omega)
  have dl : ∀ n : Nat, 0 < n → a0c [.lst (ns.map D.int), .int (k + 2), .int (n : Int)] = okI (a0R ns (k + 2) (n : Int)) := fun n hl => a1c (by omega) (by omega) (by omega)
  by_cases c0 : w = 0
  · have hnum := a4R (ns := ns) (b := k + 2) (sz := szB bs x) (by omega) (ρ := [some (.sh (.lst (ns.map D.int))), some (.sh (.int k)), some (.sh (a0A bs)), some (.sh (.int w)), some (.sh (.int x)), some (.sh (.int (szB bs x : Nat))), some (.own (.lst ((a0J bs x).map intD))), none, none, none, none]) (js := [10]) (it := a0E (eVar 5)) (v := 10)
      (elt := a0h a0j [(eVar 0), (eBin dAdd (eBin dAdd (eVar 1) (eC (.int 2))) (eBin dMul (eC (.int 2)) (eVar 10)))]) (a1u rfl (a0W (by omega))) fun j hj => a1j rfl (a0b (a0b rfl rfl rfl) (a0b rfl rfl (mulL (by decide) (by decide))) rfl) (a19 (by show 0 ≤ k + 2 + 2 * (j : Int); omega) (by show k + 2 + 2 * (j : Int) ≤ 10000; omega))
    refine ⟨.put x ((List.range (szB bs x)).map fun j : Nat => numV ns (k + 2 + 2 * j)), ⟨hx, by rw [List.length_map, List.length_range], fun i hi => ?_⟩, a1a (if_t (a0b rfl rfl (eq_t c0)) (a1z (a02 rfl rfl (a2Z hnum rfl) rfl)))⟩
    obtain ⟨j, hj, rfl⟩ := List.mem_map.mp hi
    have := List.mem_range.mp hj
    exact a18 (by omega) (by omega)
  refine a59 (if_f (a0b rfl rfl (eq_f c0)) rfl) ?_
  by_cases c1 : w = 1 ∧ 0 < (a0J bs x).length
  · obtain ⟨y, ey, y1, y2, y3⟩ := a7c (ns := ns) hk0 hk1 hb c1.2
    exact ⟨.copy x y, ⟨hx, y1, fun z => y2 z.symm, y3⟩, a1a (if_t (a3c (a0b rfl rfl (eq_t c1.1)) (a0b (lenB rfl hln) rfl (gt_t (by omega)))) (a2V (a1z (a02 rfl rfl (a0b rfl (a02 rfl (a0b rfl rfl rfl) (lenB rfl hln) (dl _ c1.2)) ey) rfl))))⟩
  have fa1 : eAnd (eBin dEq (eVar 3) (eC (.int 1))) (eBin dGt (a0i (f1 dLen) [(eAny 6)]) (eC (.int 0))) [some (.sh (.lst (ns.map D.int))), some (.sh (.int k)), some (.sh (a0A bs)), some (.sh (.int w)), some (.sh (.int x)), some (.sh (.int (szB bs x : Nat))), some (.own (.lst ((a0J bs x).map intD))), none, none, none, none] = okB false := by
    by_cases q : w = 1
    · exact a3c (a0b rfl rfl (eq_t q)) (a0b (lenB rfl hln) rfl (gt_f (by omega)))
    · exact a7E (a0b rfl rfl (eq_f q))
  refine a59 (if_f fa1 rfl) ?_
  by_cases c2 : w = 2 ∧ szB bs x = 1
  · exact ⟨.tick x, ⟨hx, c2.2⟩, a1a (if_t (a3c (a0b rfl rfl (eq_t c2.1)) (a0b rfl rfl (eq_t (by omega)))) (a1z (a1j rfl rfl rfl)))⟩
  have f2 : eAnd (eBin dEq (eVar 3) (eC (.int 2))) (eBin dEq (eVar 5) (eC (.int 1))) [some (.sh (.lst (ns.map D.int))), some (.sh (.int k)), some (.sh (a0A bs)), some (.sh (.int w)), some (.sh (.int x)), some (.sh (.int (szB bs x : Nat))), some (.own (.lst ((a0J bs x).map intD))), none, none, none, none] = okB false := by
    by_cases q : w = 2
    · exact a3c (a0b rfl rfl (eq_t q)) (a0b rfl rfl (eq_f (by omega)))
    · exact a7E (a0b rfl rfl (eq_f q))
  refine a59 (if_f f2 rfl) ?_
  by_cases c3 : w = 3
  · obtain ⟨n, dn, hn⟩ := a6w (ns := ns) (k := k + 2) (m := 9) (by omega) (by omega) (by omega)
    refine ⟨.still (1 + n), ⟨by omega, by omega⟩, a1a (if_t (a0b rfl rfl (eq_t c3)) (a1z (a1j (s2 := .sh (.int ((1 + n : Nat) : Int))) rfl (a0b rfl (a02 rfl (a0b rfl rfl rfl) rfl dn) ?_) rfl)))⟩
    show okI (1 + (n : Int)) = okI ((1 + n : Nat) : Int)
    congr 4
  refine a59 (if_f (a0b rfl rfl (eq_f c3)) rfl) ?_
  by_cases c45 : w = 4 ∨ w = 5
  · have t5 : eOr (eBin dEq (eVar 3) (eC (.int 4))) (eBin dEq (eVar 3) (eC (.int 5))) [some (.sh (.lst (ns.map D.int))), some (.sh (.int k)), some (.sh (a0A bs)), some (.sh (.int w)), some (.sh (.int x)), some (.sh (.int (szB bs x : Nat))), some (.own (.lst ((a0J bs x).map intD))), none, none, none, none] = okB true := by
      rcases c45 with h | h
      · exact or_t (a0b rfl rfl (eq_t h))
      · exact or_f (a0b rfl rfl (eq_f (by omega))) (a0b rfl rfl (eq_t h))
    have hcat : dAdd (.lst ((a0J bs x).map intD)) (.lst [.int x]) = okL ((a0J bs x ++ [x]).map intD) := by
      show (if ((a0J bs x).map intD).length + 1 ≤ lim then okL ((a0J bs x).map intD ++ [.int x]) else none) = _
      rw [List.length_map, if_pos (Nat.le_trans (by omega : (a0J bs x).length + 1 ≤ 9) (by decide)), List.map_append]
      rfl
    obtain ⟨j, hj⟩ : ∃ j : Nat, a0R ns (k + 2) (((a0J bs x).length : Int) + 1) = j := ⟨(a0R ns (k + 2) (((a0J bs x).length : Int) + 1)).toNat, by have := a1b (ns := ns) (k := k + 2) (m := ((a0J bs x).length : Int) + 1) (by omega); omega⟩
    have hjl : j < (a0J bs x ++ [x]).length := by have := a1b (ns := ns) (k := k + 2) (m := ((a0J bs x).length : Int) + 1) (by omega); rw [List.length_append, List.length_singleton]; omega
    have hy : (a0J bs x ++ [x])[j] < bs.length ∧ szB bs (a0J bs x ++ [x])[j] = szB bs x := by
      rcases List.mem_append.mp (List.getElem_mem hjl) with h | h
      · have := a4Y.mp h; exact ⟨this.1, this.2.2⟩
      · rw [List.mem_singleton.mp h]; exact ⟨hx, rfl⟩
    have ey : dIx (.lst ((a0J bs x ++ [x]).map intD)) (.int (a0R ns (k + 2) (((a0J bs x).length : Int) + 1))) = okI ((a0J bs x ++ [x])[j] : Nat) := by rw [hj]; exact a5W hjl
    generalize (a0J bs x ++ [x])[j] = y at hy ey
    have dy := a1c (ns := ns) (k := k + 2) (m := ((a0J bs x).length : Int) + 1) (by omega) (by omega) (by omega)
    rcases c45 with rfl | rfl
    · exact ⟨.iz x y (numV ns (k + 3)), ⟨hx, hy.1, hy.2, n3'⟩, a1a (if_t t5 (a2V (a0e (a0I (a0b (a0b rfl rfl hcat) (a02 rfl (a0b rfl rfl rfl) (a0b (lenB rfl hln) rfl rfl) dy) ey)) (a1z (call4 (a0b rfl (a0b rfl rfl rfl) ix_l0) rfl rfl (a1j rfl (a0b rfl rfl rfl) n3) rfl)))))⟩
    · exact ⟨.most x y (numV ns (k + 3)), ⟨hx, hy.1, hy.2, n3'⟩, a1a (if_t t5 (a2V (a0e (a0I (a0b (a0b rfl rfl hcat) (a02 rfl (a0b rfl rfl rfl) (a0b (lenB rfl hln) rfl rfl) dy) ey)) (a1z (call4 (a0b rfl (a0b rfl rfl rfl) ix_l1) rfl rfl (a1j rfl (a0b rfl rfl rfl) n3) rfl)))))⟩
  have f45 : eOr (eBin dEq (eVar 3) (eC (.int 4))) (eBin dEq (eVar 3) (eC (.int 5))) [some (.sh (.lst (ns.map D.int))), some (.sh (.int k)), some (.sh (a0A bs)), some (.sh (.int w)), some (.sh (.int x)), some (.sh (.int (szB bs x : Nat))), some (.own (.lst ((a0J bs x).map intD))), none, none, none, none] = okB false := or_f (a0b rfl rfl (eq_f (by omega))) (a0b rfl rfl (eq_f (by omega)))
  refine a59 (if_f f45 rfl) ?_
  by_cases c6 : w = 6
  · exact ⟨.non x, hx, a1a (if_t (a0b rfl rfl (eq_t c6)) (a1z (a1j rfl rfl rfl)))⟩
  refine a59 (if_f (a0b rfl rfl (eq_f c6)) rfl) ?_
  have grow : ∀ (ms o7 o8 : Option S), ∃ dd : Deed, dd.Ok bs ∧ a35 [some (.sh (.lst (ns.map D.int))), some (.sh (.int k)), some (.sh (a0A bs)), some (.sh (.int w)), some (.sh (.int x)), some (.sh (.int (szB bs x : Nat))), ms, o7, o8, none, none] = some (.ret (.sh dd.d)) := fun ms o7 o8 =>
    ⟨.grow x (numV ns (k + 2)), ⟨hx, n2'⟩, a1z (a02 rfl rfl (a1j rfl (a0b rfl rfl rfl) n2) rfl)⟩
  by_cases c7 : (w = 7 ∨ w = 8) ∧ 0 < (a0J bs x).length
  · obtain ⟨y, ey, y1, y2, y3⟩ := a7c (ns := ns) hk0 hk1 hb c7.2
    have hone := ones_e (x := x) (y := y) hb (ρ := [some (.sh (.lst (ns.map D.int))), some (.sh (.int k)), some (.sh (a0A bs)), some (.sh (.int w)), some (.sh (.int x)), some (.sh (.int (szB bs x : Nat))), some (.sh (.lst ((a0J bs x).map intD))), some (.sh (.int y)), none, none, none]) (js := [9]) (i := 2) (j := 4) (s := 7) (v := 9) rfl rfl rfl rfl (by show 9 < 11; decide) (by decide) (by decide) (by decide) rfl
    have t7 : eAnd (eBin (dIn false) (eVar 3) (eTup [(eC (.int 7)), (eC (.int 8))])) (eBin dGt (a0i (L3.f1 dLen) [(eAny 6)]) (eC (.int 0))) [some (.sh (.lst (ns.map D.int))), some (.sh (.int k)), some (.sh (a0A bs)), some (.sh (.int w)), some (.sh (.int x)), some (.sh (.int (szB bs x : Nat))), some (.own (.lst ((a0J bs x).map intD))), none, none, none, none] = okB true :=
      a3c (a0b rfl (tup2 rfl rfl) (in78.trans (by rw [decide_eq_true c7.1]))) (a0b (lenB rfl hln) rfl (gt_t (by omega)))
    by_cases c8 : 0 < (ones bs x y).length
    · obtain ⟨j, hj⟩ : ∃ j : Nat, a0R ns (k + 3) ((ones bs x y).length : Int) = j := ⟨(a0R ns (k + 3) ((ones bs x y).length : Int)).toNat, by have := a1b (ns := ns) (k := k + 3) (m := ((ones bs x y).length : Int)) (by omega); omega⟩
      have hjl : j < (ones bs x y).length := by have := a1b (ns := ns) (k := k + 3) (m := ((ones bs x y).length : Int)) (by omega); omega
      have hmem := ones_mem.mp (List.getElem_mem hjl)
      have et : dIx (.lst ((ones bs x y).map intD)) (.int (a0R ns (k + 3) ((ones bs x y).length : Int))) = okI ((ones bs x y)[j] : Nat) := by rw [hj]; exact a5W hjl
      generalize (ones bs x y)[j] = t at hmem et
      exact ⟨.anew x y t, ⟨hx, y1, hmem.1, fun z => y2 z.symm, fun z => hmem.2.1 z.symm, fun z => hmem.2.2.1 z.symm, y3, hmem.2.2.2⟩, a1a (if_t t7 (a2V (a0e (a0I (a0b rfl (a02 rfl (a0b rfl rfl rfl) (lenB rfl hln) (dl _ c7.2)) ey)) (a0e (a0I hone) (if_t (a0b (lenB rfl (a2P _)) rfl (gt_t (by omega))) (a2V (a1z (call4 rfl rfl rfl (a0b rfl (a02 rfl (a0b rfl rfl rfl) (lenB rfl (a2P _)) (a1c (by omega) (by omega) (by omega))) et) rfl))))))))⟩
    · obtain ⟨dd, ok, e⟩ := grow (some (.sh (.lst ((a0J bs x).map intD)))) (some (.sh (.int y))) (some (.own (.lst ((ones bs x y).map intD))))
      exact ⟨dd, ok, a0e (if_t t7 (a2V (a0e (a0I (a0b rfl (a02 rfl (a0b rfl rfl rfl) (lenB rfl hln) (dl _ c7.2)) ey)) (a0e (a0I hone) (if_f (a0b (lenB rfl (a2P _)) rfl (gt_f (by omega))) rfl))))) e⟩
  · have f7 : eAnd (eBin (dIn false) (eVar 3) (eTup [(eC (.int 7)), (eC (.int 8))])) (eBin dGt (a0i (L3.f1 dLen) [(eAny 6)]) (eC (.int 0))) [some (.sh (.lst (ns.map D.int))), some (.sh (.int k)), some (.sh (a0A bs)), some (.sh (.int w)), some (.sh (.int x)), some (.sh (.int (szB bs x : Nat))), some (.own (.lst ((a0J bs x).map intD))), none, none, none, none] = okB false := by
      by_cases q : w = 7 ∨ w = 8
      · exact a3c (a0b rfl (tup2 rfl rfl) (in78.trans (by rw [decide_eq_true q]))) (a0b (lenB rfl hln) rfl (gt_f (by omega)))
      · exact a7E (a0b rfl (tup2 rfl rfl) (in78.trans (by rw [decide_eq_false q])))
    obtain ⟨dd, ok, e⟩ := grow (some (.own (.lst ((a0J bs x).map intD)))) none none
    exact ⟨dd, ok, a0e (if_f f7 rfl) e⟩
end Bell
namespace Bell
open PySem L3
def fstB (bs : List Bx) (x : Nat) : Nat := ((List.range x).map (szB bs)).sum
def totB (bs : List Bx) : Nat := fstB bs bs.length
theorem a4p (bs : List Bx) (x : Nat) : fstB bs (x + 1) = fstB bs x + szB bs x := by
  unfold fstB; rw [List.range_succ, List.map_append, List.sum_append]; simp
theorem a5Y {bs : List Bx} : ∀ {x y : Nat}, x ≤ y → fstB bs x ≤ fstB bs y
  | x, 0, h => by rw [Nat.le_zero.mp h]; exact Nat.le_refl _
  | x, y + 1, h => by
    by_cases e : x = y + 1
    · rw [e]; exact Nat.le_refl _
    · rw [a4p]; have := a5Y (bs := bs) (x := x) (y := y) (by omega); omega
theorem fst_lt {bs : List Bx} {x y : Nat} (h : x < y) : fstB bs x + szB bs x ≤ fstB bs y := by rw [← a4p]; exact a5Y h
theorem a1U {bs : List Bx} {x : Nat} (h : x < bs.length) : fstB bs x + szB bs x ≤ totB bs := fst_lt h
theorem a7j {bs : List Bx} (hb : a1A bs) : ∀ {x : Nat}, x ≤ bs.length → fstB bs x ≤ 2 * x
  | 0, _ => Nat.le_refl _
  | x + 1, h => by
    rw [a4p]
    have := a7j hb (x := x) (by omega)
    rcases a3e hb (x := x) (by omega) with e | e <;> omega
theorem a5N {bs : List Bx} (hb : a1A bs) : totB bs ≤ 16 := by
  have := a7j hb (Nat.le_refl bs.length); have := hb.1; unfold totB; omega
def a0m (bs : List Bx) (x : Nat) : List Nat := (List.range (szB bs x)).map fun k => fstB bs x + k
theorem sum_nat (l : List Nat) : (l.map fun n : Nat => (n : Int)).sum = ((l.sum : Nat) : Int) := by
  induction l with
  | nil => rfl
  | cons n l ih => rw [List.map_cons, List.sum_cons, List.sum_cons, ih]; omega
theorem a4u (l : List Nat) : dSum (.lst (l.map intD)) = okI ((l.sum : Nat) : Int) := by
  have : l.map intD = (l.map fun n : Nat => (n : Int)).map D.int := by rw [List.map_map]; rfl
  rw [this]
  show (intsOf _).bind _ = _
  rw [ints_map]
  show okI _ = _
  rw [sum_nat]
theorem a3M {bs : List Bx} {x : Nat} (h : x < bs.length) : a2a [a0A bs, .int x] = okI (szB bs x : Nat) := a1l rfl (a1z (a3n h rfl rfl))
theorem a2j {bs : List Bx} (hb : a1A bs) {x : Nat} (h : x < bs.length) : a2b [a0A bs, .int x] = okL ((a0m bs x).map intD) := by
  have h8 := hb.1
  have ht := a5N hb
  have hf := a1U h
  have hc : a05 [3] (a0E (eVar 1)) (a0Z 3) a1X (a0h a2a [(eVar 0), (eVar 3)]) [some (.sh (a0A bs)), some (.sh (.int x)), none, none] = okL ((List.range x).map fun k => intD (szB bs k)) :=
    a2C (List.range x) intD _ (by rw [← rng0]; exact a1u rfl (a0W (by omega))) (by rw [List.length_range]; exact Nat.le_trans (by omega : x ≤ 8) (by decide)) fun k hk => ⟨_, rfl, _, a1j rfl rfl (a3M (by have := List.mem_range.mp hk; omega)), rfl⟩
  have hs : dSum (.lst ((List.range x).map fun k => intD (szB bs k))) = okI (fstB bs x : Nat) := by
    have : ((List.range x).map fun k => intD (szB bs k)) = ((List.range x).map (szB bs)).map intD := by rw [List.map_map]; rfl
    rw [this, a4u]; rfl
  have hr : a2W (.int (fstB bs x : Nat)) (.int ((fstB bs x : Nat) + (szB bs x : Nat) : Int)) = okL ((a0m bs x).map intD) := by
    rw [a62 (by exact a0W (by omega)) (by exact a0W (n := fstB bs x + szB bs x) (by omega)) (Nat.le_trans (by omega : _ ≤ 16) (by decide))]
    have e := rngN (fstB bs x) (fstB bs x + szB bs x)
    rw [Nat.add_sub_cancel_left] at e
    show okL (rng (fstB bs x : Nat) (((fstB bs x + szB bs x : Nat) : Int))) = _
    rw [e]
    unfold a0m
    rw [List.map_map]
    rfl
  exact a1l rfl (a0e (a0I (a2Z hc hs)) (a1z (a0b rfl (a0b rfl (a1j rfl rfl (a3M h)) rfl) hr)))
theorem a3L {bs : List Bx} {x : Nat} (h : x ≤ bs.length) : ((bs.take x).map fun b => b.2.length).sum = fstB bs x := by
  unfold fstB
  congr 1
  refine List.ext_getElem? fun i => ?_
  rw [List.getElem?_map, List.getElem?_map]
  by_cases hi : i < x
  · rw [List.getElem?_take_of_lt hi, List.getElem?_range hi, List.getElem?_eq_getElem (by omega)]
    show some bs[i].2.length = some (szB bs i)
    rw [a6Q (by omega)]
  · rw [List.getElem?_eq_none (by rw [List.length_take]; omega), List.getElem?_eq_none (by rw [List.length_range]; omega)]; rfl
theorem lens_e {bs : List Bx} {l : List Bx} (hl : l.length ≤ 8) {ρ : MEnv} {js : List Nat} {it : MI} {v : Nat} (hi : it ρ = some (.ok (l.map bD))) (hv : v < (a0H js ρ).length) : a05 js it (a0Z v) a1X (a0i (f1 dLen) [(eBin dIx (eVar v) (eC (.int 1)))]) ρ = okL ((l.map fun b => b.2.length).map intD) := by
  rw [List.map_map]
  exact a2C l bD _ hi (Nat.le_trans hl (by decide)) fun b _ => ⟨_, rfl, _, lenB (a0b (a23 (List.getElem?_set_self hv)) rfl (ix_bD1 b)) (a4k b.2), rfl⟩
theorem a1h {bs : List Bx} (hb : a1A bs) {x : Nat} (h : x < bs.length) : a0p [a0A bs, .int x] = okL ((a0m bs x).map intD) := by
  have h8 := hb.1
  have hsl : a08 (eVar 0) none (some (eVar 1)) [some (.sh (a0A bs)), some (.sh (.int x)), none, none, none] = okD (.tup ((bs.take x).map bD)) := by
    rw [a4I (s := .sh (a0A bs)) (ds := bs.map bD) rfl rfl rfl (by rw [List.length_map]; exact h), List.map_take]
  have hc := lens_e (bs := bs) (l := bs.take x) (by rw [List.length_take]; omega) (ρ := [some (.sh (a0A bs)), some (.sh (.int x)), none, none, none]) (js := [4]) (it := iSeq (a08 (eVar 0) none (some (eVar 1)))) (v := 4) (a43 hsl rfl) (by show 4 < 5; decide)
  have hs := a4u ((bs.take x).map fun b => b.2.length)
  rw [a3L (by omega)] at hs
  have h12 := a3e hb h
  refine a1l rfl (a0e (a0I (a2Z hc hs)) (a1z (s := .own (.lst ((a0m bs x).map intD))) ?_))
  unfold a0m
  rw [List.map_map]
  exact a2C (List.range (szB bs x)) intD _ (by rw [← rng0]; exact a1u (a3n h rfl rfl) (a0W (by omega))) (by rw [List.length_range]; exact Nat.le_trans (by omega : szB bs x ≤ 2) (by decide)) fun k _ => ⟨_, rfl, _, a0b rfl rfl rfl, rfl⟩
theorem a6I {ns : List Int} {base : Int} {many : Nat} (hb : 0 ≤ base) (hb1 : base ≤ 1000) (hm : many ≤ 100) : ∃ vs : List Int, a1i [.lst (ns.map D.int), .int base, .int many] = okD (.tup (vs.map D.int)) ∧ vs.length = many := by
  have step : ∀ (k : Nat) (ρ : MEnv), k < many → (∃ vs : List Int, vs.length = k ∧ ∃ e4 e5 : Option S, ρ = [some (.sh (.lst (ns.map D.int))), some (.sh (.int base)), some (.sh (.int many)), some (.own (.lst (vs.map D.int))), e4, e5]) →
      ∃ ρ1 ρ2, a0Z 4 (.int k) ρ = some ρ1 ∧ a3J ρ1 = some (.next ρ2) ∧ (∃ vs : List Int, vs.length = k + 1 ∧ ∃ e4 e5 : Option S, ρ2 = [some (.sh (.lst (ns.map D.int))), some (.sh (.int base)), some (.sh (.int many)), some (.own (.lst (vs.map D.int))), e4, e5]) := by
    rintro k ρ hk ⟨vs, hl, e4, e5, rfl⟩
    have hn := a19 (ns := ns) (k := base + 3 * k) (by omega) (by omega)
    obtain ⟨n1, n2⟩ := a18 (ns := ns) (k := base + 3 * k) (by omega) (by omega)
    have dr := a1c (ns := ns) (k := base + 3 * k + 2) (m := 3) (by omega) (by omega) (by decide)
    have hlim : (vs.map D.int).length < lim := by rw [List.length_map, hl]; exact Nat.lt_of_lt_of_le (by omega : k < 100) (by decide)
    by_cases c : a0R ns (base + 3 * k + 2) 3 = 0
    · refine ⟨_, _, rfl, a0e (a0I (a1j rfl (a0b rfl (a0b rfl rfl (mulL (by decide) (by decide))) rfl) hn)) (a0e (if_t (a0b (a02 rfl (a0b (a0b rfl (a0b rfl rfl (mulL (by decide) (by decide))) rfl) rfl rfl) rfl dr) rfl (eq_t c)) (a0I (a0b (a0b rfl rfl (mulL (by omega) (by omega))) rfl rfl))) (a4D rfl rfl hlim)), vs ++ [numV ns (base + 3 * k) * 1000000000000000000000 + 7], by rw [List.length_append, hl]; rfl, some (.sh (.int k)), some (.sh (.int (numV ns (base + 3 * k) * 1000000000000000000000 + 7))), ?_⟩
      rw [List.map_append]
      rfl
    · refine ⟨_, _, rfl, a0e (a0I (a1j rfl (a0b rfl (a0b rfl rfl (mulL (by decide) (by decide))) rfl) hn)) (a0e (if_f (a0b (a02 rfl (a0b (a0b rfl (a0b rfl rfl (mulL (by decide) (by decide))) rfl) rfl rfl) rfl dr) rfl (eq_f c)) rfl) (a4D rfl rfl hlim)), vs ++ [numV ns (base + 3 * k)], by rw [List.length_append, hl]; rfl, some (.sh (.int k)), some (.sh (.int (numV ns (base + 3 * k)))), ?_⟩
      rw [List.map_append]
      rfl
  obtain ⟨ρ', e, vs, hl, e4, e5, rfl⟩ := a3Y (ρ := [some (.sh (.lst (ns.map D.int))), some (.sh (.int base)), some (.sh (.int many)), some (.own (.lst [])), none, none]) (fun k ρ => ∃ vs : List Int, vs.length = k ∧ ∃ e4 e5 : Option S, ρ = [some (.sh (.lst (ns.map D.int))), some (.sh (.int base)), some (.sh (.int many)), some (.own (.lst (vs.map D.int))), e4, e5]) many ⟨[], rfl, none, none, rfl⟩ step
  exact ⟨vs, a1l rfl (a0e (a0I rfl) (a0e (a6u (a1u rfl (a0W (by omega))) e) (a2V (a1z (a2Z rfl rfl))))), hl⟩
end Bell
namespace Bell
open PySem L3
def a0C (cs : List Int) (k : Nat) : Int := cs.getD k 0
def keptV (bs : List Bx) (cs : List Int) : Deed → Bool
  | .iz x y n => (List.range (szB bs x)).all fun k => decide (a0C cs (fstB bs x + k) = a0C cs (fstB bs y + k) + n)
  | .most x y n => (List.range (szB bs x)).all fun k => decide (a0C cs (fstB bs x + k) ≤ a0C cs (fstB bs y + k) + n)
  | _ => true
def a3G (bs : List Bx) (x y : Nat) (k : Nat) : D := .tup [intD (fstB bs x + k), intD (fstB bs y + k)]
def askD (bs : List Bx) : Deed → D
  | .iz x y n => .fn 1 [.int n, .lst ((List.range (szB bs x)).map (a3G bs x y))]
  | .most x y n => .fn 2 [.int n, .lst ((List.range (szB bs x)).map (a3G bs x y))]
  | _ => .fn 0 []
theorem pairs_eq {bs : List Bx} {x y : Nat} (hs : szB bs y = szB bs x) : List.zipWith (fun a b => D.tup [a, b]) ((a0m bs x).map intD) ((a0m bs y).map intD) = (List.range (szB bs x)).map (a3G bs x y) := by
  unfold a0m
  rw [hs, List.map_map, List.map_map, List.zipWith_map, List.zipWith_self]
  rfl
theorem a45 {bs : List Bx} {x y : Nat} (hs : szB bs y = szB bs x) : dLZ [.lst ((a0m bs x).map intD), .lst ((a0m bs y).map intD)] = okL ((List.range (szB bs x)).map (a3G bs x y)) := by
  show (if ((a0m bs x).map intD).length = ((a0m bs y).map intD).length then okL (List.zipWith (fun a b => D.tup [a, b]) ((a0m bs x).map intD) ((a0m bs y).map intD)) else none) = _
  rw [if_pos (by unfold a0m; simp [hs]), pairs_eq hs]
theorem a5a {c : ME} {a b : MCl} {ρ : MEnv} {r : Option D} (h : c ρ = okB true) (h2 : a ρ = r) : cIf c a b ρ = r := by unfold cIf; rw [h]; exact h2
theorem cIf_f {c : ME} {a b : MCl} {ρ : MEnv} {r : Option D} (h : c ρ = okB false) (h2 : b ρ = r) : cIf c a b ρ = r := by unfold cIf; rw [h]; exact h2
theorem a56 {a : MC} {b : MCl} {ρ ρ' : MEnv} {r : Option D} (h : a ρ = some (.next ρ')) (h2 : b ρ' = r) : cSeq a b ρ = r := by unfold cSeq; rw [h]; exact h2
theorem a4s {np n : Nat} {g : MCl} {ds : List D} {d : D} (hl : ds.length = np) (h : g (a1B n ds) = some d) : fnC np n g ds = okD d := by unfold fnC; rw [if_pos hl, h]; rfl
theorem a4a {bs : List Bx} (hb : a1A bs) {dd : Deed} (ok : dd.Ok bs) : a0T [a0A bs, dd.d] = okD (askD bs dd) := by
  cases dd with
  | iz x y n =>
    obtain ⟨hx, hy, hs, _⟩ := ok
    exact a4s rfl (cIf_f (a0b (a0b rfl rfl a2f) rfl rfl) (a56 (a0I (a1j (a1j rfl (a0b rfl rfl a6s) (a2j hb hx)) (a1j rfl (a0b rfl rfl a7h) (a2j hb hy)) (a45 hs))) (a56 (a0I (a0b rfl rfl ix_t3)) (a5a (a0b (a0b rfl rfl a2f) rfl (a4t rfl)) rfl))))
  | most x y n =>
    obtain ⟨hx, hy, hs, _⟩ := ok
    exact a4s rfl (cIf_f (a0b (a0b rfl rfl a2f) rfl rfl) (a56 (a0I (a1j (a1j rfl (a0b rfl rfl a6s) (a2j hb hx)) (a1j rfl (a0b rfl rfl a7h) (a2j hb hy)) (a45 hs))) (a56 (a0I (a0b rfl rfl ix_t3)) (cIf_f (a0b (a0b rfl rfl a2f) rfl (a3z (by decide))) rfl))))
  | put x ns => exact a4s rfl (a5a (a0b (a0b rfl rfl a2f) rfl rfl) rfl)
  | copy x y => exact a4s rfl (a5a (a0b (a0b rfl rfl a2f) rfl rfl) rfl)
  | grow x n => exact a4s rfl (a5a (a0b (a0b rfl rfl a2f) rfl rfl) rfl)
  | tick x => exact a4s rfl (a5a (a0b (a0b rfl rfl a2f) rfl rfl) rfl)
  | still n => exact a4s rfl (a5a (a0b (a0b rfl rfl a2f) rfl rfl) rfl)
  | non x => exact a4s rfl (a5a (a0b (a0b rfl rfl a2f) rfl rfl) rfl)
  | anew x y t => exact a4s rfl (a5a (a0b (a0b rfl rfl a2f) rfl rfl) rfl)
theorem a3f {cs : List Int} {k : Nat} (h : k < cs.length) : dIx (.tup (cs.map D.int)) (.int k) = okI (a0C cs k) := ix_tup (by
  rw [List.getElem?_map, List.getElem?_eq_getElem h]; unfold a0C; rw [List.getD_eq_getElem?_getD, List.getElem?_eq_getElem h]; rfl)
theorem bls_map {α : Type} (l : List α) (p : α → Bool) : blsOf (l.map fun k => D.bl (p k)) = some (l.map p) := by
  induction l with
  | nil => rfl
  | cons a l ih => rw [List.map_cons, List.map_cons]; unfold blsOf; rw [ih]; rfl
theorem a54 {α : Type} (l : List α) (p : α → Bool) : dAll (.lst (l.map fun k => D.bl (p k))) = okB (l.all p) := by
  unfold dAll
  show (blsOf _).bind _ = _
  rw [bls_map]
  show okB ((l.map p).all id) = _
  rw [List.all_map]; rfl
theorem lam1_eq {bs : List Bx} (hb : a1A bs) {x y : Nat} {n : Int} {cs : List Int} (hx : x < bs.length) (hy : y < bs.length) (hs : szB bs y = szB bs x) (hc : cs.length = totB bs) :
    a7l [.tup (cs.map D.int), .int n, .lst ((List.range (szB bs x)).map (a3G bs x y))] = okB (keptV bs cs (.iz x y n)) := by
  have l1 := a1U hx
  have l2 := a1U hy
  have h12 := a3e hb hx
  refine a2Z (a2C (List.range (szB bs x)) (a3G bs x y) (fun k => .bl (decide (a0C cs (fstB bs x + k) = a0C cs (fstB bs y + k) + n))) (a43 rfl rfl) (by rw [List.length_range]; exact Nat.le_trans (by omega : szB bs x ≤ 2) (by decide)) fun k hk => ?_) (a54 _ _)
  have hk := List.mem_range.mp hk
  exact ⟨_, rfl, _, a0b (a0b rfl rfl (a3f (by omega))) (a0b (a0b rfl rfl (a3f (by omega))) rfl rfl) (eq_d _ _), rfl⟩
theorem lam2_eq {bs : List Bx} (hb : a1A bs) {x y : Nat} {n : Int} {cs : List Int} (hx : x < bs.length) (hy : y < bs.length) (hs : szB bs y = szB bs x) (hc : cs.length = totB bs) :
    a7k [.tup (cs.map D.int), .int n, .lst ((List.range (szB bs x)).map (a3G bs x y))] = okB (keptV bs cs (.most x y n)) := by
  have l1 := a1U hx
  have l2 := a1U hy
  have h12 := a3e hb hx
  refine a2Z (a2C (List.range (szB bs x)) (a3G bs x y) (fun k => .bl (decide (a0C cs (fstB bs x + k) ≤ a0C cs (fstB bs y + k) + n))) (a43 rfl rfl) (by rw [List.length_range]; exact Nat.le_trans (by omega : szB bs x ≤ 2) (by decide)) fun k hk => ?_) (a54 _ _)
  have hk := List.mem_range.mp hk
  exact ⟨_, rfl, _, a0b (a0b rfl rfl (a3f (by omega))) (a0b (a0b rfl rfl (a3f (by omega))) rfl rfl) (le_d _ _), rfl⟩
theorem a6j (cs : List Int) : a2u (cs.map D.int) = true := by
  induction cs with
  | nil => rfl
  | cons a l ih => rw [List.map_cons]; unfold a2u noFn; rw [ih]; rfl
theorem a5v (bs : List Bx) (x y : Nat) (l : List Nat) : a2u (l.map (a3G bs x y)) = true := by
  induction l with
  | nil => rfl
  | cons a l ih => rw [List.map_cons]; unfold a2u; rw [ih]; rfl
theorem a2l {T : Nat → Option (List D → Option R)} {i k : Nat} {ga : ME} {ρ : MEnv} {ds : List D} {d : D} {F : List D → Option R} {b : Bool} (h0 : ρ[i]? = some (some (.sh (.fn k ds)))) (h1 : ga ρ = okD d) (n1 : noFn d = true) (n2 : a2u ds = true) (hT : T k = some F) (hF : F (d :: ds) = okB b) : a2x T i ga ρ = okB b := by
  unfold a2x
  rw [h0]
  dsimp only
  rw [h1]
  show (if (noFn d && a2u ds) = true then (match T k with | some F => a3x (F (d :: ds)) | none => none) else none) = _
  rw [if_pos (by rw [n1, n2]; rfl), hT]
  show a3x (F (d :: ds)) = _
  rw [hF]
  rfl
theorem ask_eq {bs : List Bx} (hb : a1A bs) {dd : Deed} (ok : dd.Ok bs) {cs : List Int} (hc : cs.length = totB bs) {ρ : MEnv} {i : Nat} {ga : ME} (h0 : ρ[i]? = some (some (.sh (askD bs dd)))) (h1 : ga ρ = okD (.tup (cs.map D.int))) : a2x tbL i ga ρ = okB (keptV bs cs dd) := by
  have n1 : noFn (.tup (cs.map D.int)) = true := by unfold noFn; exact a6j cs
  have nl : ∀ (n : Int) (x y : Nat), a2u [.int n, .lst ((List.range (szB bs x)).map (a3G bs x y))] = true := fun n x y => by
    have := a5v bs x y (List.range (szB bs x))
    simp only [a2u, noFn, this, Bool.and_true]
  cases dd with
  | iz x y n =>
    obtain ⟨hx, hy, hs, _⟩ := ok
    exact a2l h0 h1 n1 (nl n x y) rfl (lam1_eq hb hx hy hs hc)
  | most x y n =>
    obtain ⟨hx, hy, hs, _⟩ := ok
    exact a2l h0 h1 n1 (nl n x y) rfl (lam2_eq hb hx hy hs hc)
  | put x ns => exact a2l h0 h1 n1 rfl rfl rfl
  | copy x y => exact a2l h0 h1 n1 rfl rfl rfl
  | grow x n => exact a2l h0 h1 n1 rfl rfl rfl
  | tick x => exact a2l h0 h1 n1 rfl rfl rfl
  | still n => exact a2l h0 h1 n1 rfl rfl rfl
  | non x => exact a2l h0 h1 n1 rfl rfl rfl
  | anew x y t => exact a2l h0 h1 n1 rfl rfl rfl
end Bell
namespace Bell
open PySem L3
def a3I (i : Bool) (v b : Int) : Bool := if i then decide (v = b) else decide (v ≤ b)
theorem bad1 (i : Bool) (v b : Int) : (decide (b < v) || (i && decide (v < b))) = !a3I i v b := by
  unfold a3I
  cases i with
  | true =>
    by_cases h1 : b < v
    · have : ¬ v = b := by omega
      simp [h1, this]
    · by_cases h2 : v < b
      · have : ¬ v = b := by omega
        simp [h1, h2, this]
      · have : v = b := by omega
        simp [this]
  | false =>
    by_cases h1 : b < v
    · have : ¬ v ≤ b := by omega
      simp [h1, this]
    · have : v ≤ b := by omega
      simp [h1, this]
abbrev dueρ (bs : List Bx) (w : Str) (x y : Nat) (n : Int) (cs : List Int) (s3 s4 : S) (e5 e6 : Option S) : MEnv :=
  [some (.sh (a0A bs)), some (.sh (.tup [.str w, .int x, .int y, .int n])), some (.sh (.tup (cs.map D.int))), some s3, some s4, e5, e6]
theorem a5B {bs : List Bx} {x k : Nat} (h : k < szB bs x) : dIx (.lst ((a0m bs x).map intD)) (.int k) = okI (fstB bs x + k : Nat) := a2n (by
  rw [List.getElem?_map]; unfold a0m; rw [List.getElem?_map, List.getElem?_range h]; rfl)
theorem due_body {bs : List Bx} (hb : a1A bs) {i : Bool} {w : Str} (hw : dEq (.str w) (.str (Str.ofString "is")) = okB i) {x y k : Nat} {n : Int} {cs : List Int} (hx : x < bs.length) (hy : y < bs.length) (hs : szB bs y = szB bs x) (hk : k < szB bs x) (hc : cs.length = totB bs)
    {s3 s4 : S} (h3 : s3 = .sh (.lst ((a0m bs x).map intD)) ∨ s3 = .own (.lst ((a0m bs x).map intD))) (h4 : s4 = .sh (.lst ((a0m bs y).map intD)) ∨ s4 = .own (.lst ((a0m bs y).map intD))) {e6 : Option S} :
    a2N (dueρ bs w x y n cs s3 s4 (some (.sh (.int k))) e6) = if a3I i (a0C cs (fstB bs x + k)) (a0C cs (fstB bs y + k) + n) = true then
      some (.next (dueρ bs w x y n cs (.sh (.lst ((a0m bs x).map intD))) (.sh (.lst ((a0m bs y).map intD))) (some (.sh (.int k))) (some (.sh (.int (a0C cs (fstB bs y + k) + n)))))) else some (.ret (.sh (.bl false))) := by
  have l1 := a1U hx
  have l2 := a1U hy
  have vx := a3f (cs := cs) (k := fstB bs x + k) (by omega)
  have vy := a3f (cs := cs) (k := fstB bs y + k) (by omega)
  have cx := a5B (bs := bs) hk
  have cy := a5B (bs := bs) (x := y) (k := k) (by omega)
  have core : a1E (dueρ bs w x y n cs s3 (.sh (.lst ((a0m bs y).map intD))) (some (.sh (.int k))) (some (.sh (.int (a0C cs (fstB bs y + k) + n))))) = if a3I i (a0C cs (fstB bs x + k)) (a0C cs (fstB bs y + k) + n) = true then
      some (.next (dueρ bs w x y n cs (.sh (.lst ((a0m bs x).map intD))) (.sh (.lst ((a0m bs y).map intD))) (some (.sh (.int k))) (some (.sh (.int (a0C cs (fstB bs y + k) + n)))))) else some (.ret (.sh (.bl false))) := by
    have cond : eOr (eBin dGt (eBin dIx (eVar 2) (eBin dIx (eVar 3) (eVar 5))) (eVar 6)) (eAnd (eBin dEq (eBin dIx (eVar 1) (eC (.int 0))) (eC (.str (Str.ofString "is")))) (eBin dLt (eBin dIx (eVar 2) (eBin dIx (eVar 3) (eVar 5))) (eVar 6)))
        (dueρ bs w x y n cs (.sh (.lst ((a0m bs x).map intD))) (.sh (.lst ((a0m bs y).map intD))) (some (.sh (.int k))) (some (.sh (.int (a0C cs (fstB bs y + k) + n))))) = okB (!a3I i (a0C cs (fstB bs x + k)) (a0C cs (fstB bs y + k) + n)) := by
      rw [← bad1]
      exact or_b (a0b (a0b rfl (a0b rfl rfl cx) vx) rfl (gt_d _ _)) (and_b (a0b (a0b rfl rfl a2f) rfl hw) (a0b (a0b rfl (a0b rfl rfl cx) vx) rfl (lt_d _ _)))
    have step : a1E (dueρ bs w x y n cs s3 (.sh (.lst ((a0m bs y).map intD))) (some (.sh (.int k))) (some (.sh (.int (a0C cs (fstB bs y + k) + n))))) = sIf (eOr (eBin dGt (eBin dIx (eVar 2) (eBin dIx (eVar 3) (eVar 5))) (eVar 6)) (eAnd (eBin dEq (eBin dIx (eVar 1) (eC (.int 0))) (eC (.str (Str.ofString "is")))) (eBin dLt (eBin dIx (eVar 2) (eBin dIx (eVar 3) (eVar 5))) (eVar 6)))) (sRet (eC (.bl false))) a0L
        (dueρ bs w x y n cs (.sh (.lst ((a0m bs x).map intD))) (.sh (.lst ((a0m bs y).map intD))) (some (.sh (.int k))) (some (.sh (.int (a0C cs (fstB bs y + k) + n))))) := by
      rcases h3 with rfl | rfl <;> rfl
    rw [step]
    cases hg : a3I i (a0C cs (fstB bs x + k)) (a0C cs (fstB bs y + k) + n) with
    | true => rw [hg] at cond; rw [if_pos rfl]; exact if_f cond rfl
    | false => rw [hg] at cond; rw [if_neg Bool.false_ne_true]; exact if_t cond rfl
  have set6 : ∀ ρ, ρ = dueρ bs w x y n cs s3 (.sh (.lst ((a0m bs y).map intD))) (some (.sh (.int k))) e6 → sSeq (sSet 6 (eBin dAdd (eBin dIx (eVar 2) (eBin dIx (eVar 4) (eVar 5))) (eBin dIx (eVar 1) (eC (.int 3))))) a1E ρ = a1E (dueρ bs w x y n cs s3 (.sh (.lst ((a0m bs y).map intD))) (some (.sh (.int k))) (some (.sh (.int (a0C cs (fstB bs y + k) + n))))) := fun ρ e => by
    subst e
    exact a0e (a0I (a0b (a0b rfl (a0b rfl rfl cy) vy) (a0b rfl rfl ix_t3) rfl)) rfl
  rw [← core]
  exact set6 _ (by rcases h4 with rfl | rfl <;> rfl)
theorem a2U {bd : MB} {body : MC} {d : D} {ds : List D} {ρ ρ1 ρ2 : MEnv} {o : Option Out} (h1 : bd d ρ = some ρ1) (h2 : body ρ1 = some (.next ρ2)) (h3 : forD bd body ds ρ2 = o) : forD bd body (d :: ds) ρ = o := by
  unfold forD; rw [h1]; dsimp only; rw [h2]; exact h3
theorem for_ret {bd : MB} {body : MC} {d : D} {ds : List D} {ρ ρ1 : MEnv} {s : S} (h1 : bd d ρ = some ρ1) (h2 : body ρ1 = some (.ret s)) : forD bd body (d :: ds) ρ = some (.ret s) := by
  unfold forD; rw [h1]; dsimp only; rw [h2]
theorem a51 {bs : List Bx} (hb : a1A bs) {i : Bool} {w : Str} (hw : dEq (.str w) (.str (Str.ofString "is")) = okB i) {x y : Nat} {n : Int} {cs : List Int} (hx : x < bs.length) (hy : y < bs.length) (hs : szB bs y = szB bs x) (hc : cs.length = totB bs) :
    ∀ (l : List Nat) (s3 s4 : S) (e5 e6 : Option S), (∀ k ∈ l, k < szB bs x) → (s3 = .sh (.lst ((a0m bs x).map intD)) ∨ s3 = .own (.lst ((a0m bs x).map intD))) → (s4 = .sh (.lst ((a0m bs y).map intD)) ∨ s4 = .own (.lst ((a0m bs y).map intD))) →
      (l.all (fun k => a3I i (a0C cs (fstB bs x + k)) (a0C cs (fstB bs y + k) + n)) = true ∧ ∃ s3' s4' e5' e6', forD (a0Z 5) a2N (l.map intD) (dueρ bs w x y n cs s3 s4 e5 e6) = some (.next (dueρ bs w x y n cs s3' s4' e5' e6'))) ∨
      (l.all (fun k => a3I i (a0C cs (fstB bs x + k)) (a0C cs (fstB bs y + k) + n)) = false ∧ forD (a0Z 5) a2N (l.map intD) (dueρ bs w x y n cs s3 s4 e5 e6) = some (.ret (.sh (.bl false))))
  | [], s3, s4, e5, e6, _, _, _ => .inl ⟨rfl, s3, s4, e5, e6, rfl⟩
  | k :: l, s3, s4, e5, e6, hk, h3, h4 => by
    have body := due_body hb hw (n := n) hx hy hs (hk k List.mem_cons_self) hc h3 h4 (e6 := e6)
    rw [List.all_cons, List.map_cons]
    cases hg : a3I i (a0C cs (fstB bs x + k)) (a0C cs (fstB bs y + k) + n) with
    | true =>
      rw [hg, if_pos rfl] at body
      rcases a51 hb hw hx hy hs hc l _ _ (some (.sh (.int k))) (some (.sh (.int (a0C cs (fstB bs y + k) + n)))) (fun j hj => hk j (List.mem_cons_of_mem _ hj)) (.inl rfl) (.inl rfl) with ⟨h1, s3', s4', e5', e6', h2⟩ | ⟨h1, h2⟩
      · exact .inl ⟨by rw [h1]; rfl, s3', s4', e5', e6', a2U rfl body h2⟩
      · exact .inr ⟨by rw [h1]; rfl, a2U rfl body h2⟩
    | false =>
      rw [hg, if_neg Bool.false_ne_true] at body
      exact .inr ⟨rfl, for_ret rfl body⟩
theorem due_is {bs : List Bx} (hb : a1A bs) {i : Bool} {w : Str} {x y : Nat} {n : Int} {cs : List Int} (hw : dEq (.str w) (.str (Str.ofString "is")) = okB i) (hp : eAnd (eBin dNe (eBin dIx (eVar 1) (eC (.int 0))) (eC (.str (Str.ofString "is")))) (eBin dNe (eBin dIx (eVar 1) (eC (.int 0))) (eC (.str (Str.ofString "most")))) [some (.sh (a0A bs)), some (.sh (.tup [.str w, .int x, .int y, .int n])), some (.sh (.tup (cs.map D.int))), none, none, none, none] = okB false)
    (hx : x < bs.length) (hy : y < bs.length) (hs : szB bs y = szB bs x) (hc : cs.length = totB bs) : a01 [a0A bs, .tup [.str w, .int x, .int y, .int n], .tup (cs.map D.int)] = okB ((List.range (szB bs x)).all fun k => a3I i (a0C cs (fstB bs x + k)) (a0C cs (fstB bs y + k) + n)) := by
  have h12 := a3e hb hx
  have rg : a0E (a0i (f1 dLen) [(eAny 3)]) (dueρ bs w x y n cs (.own (.lst ((a0m bs x).map intD))) (.own (.lst ((a0m bs y).map intD))) none none) = some (.ok ((List.range (szB bs x)).map intD)) := by
    have e : ((a0m bs x).map intD).length = szB bs x := by unfold a0m; simp
    rw [← rng0]
    exact a1u (lenB (s1 := .sh (.lst ((a0m bs x).map intD))) rfl (by show dLen (.lst _) = _; rw [a52, e])) (a0W (by omega))
  rcases a51 hb hw (n := n) hx hy hs hc (List.range (szB bs x)) (.own (.lst ((a0m bs x).map intD))) (.own (.lst ((a0m bs y).map intD))) none none (fun k hk => List.mem_range.mp hk) (.inr rfl) (.inr rfl) with ⟨h1, s3', s4', e5', e6', h2⟩ | ⟨h1, h2⟩
  · rw [h1]
    exact a1l rfl (a0e (if_f hp rfl) (a0e (a0I (a1j rfl (a0b rfl rfl a6s) (a1h hb hx))) (a0e (a0I (a1j rfl (a0b rfl rfl a7h) (a1h hb hy))) (a0e (a6u rg h2) (a1z rfl)))))
  · rw [h1]
    exact a1l rfl (a0e (if_f hp rfl) (a0e (a0I (a1j rfl (a0b rfl rfl a6s) (a1h hb hx))) (a0e (a0I (a1j rfl (a0b rfl rfl a7h) (a1h hb hy))) (a1a (a6u rg h2)))))
theorem due_eq {bs : List Bx} (hb : a1A bs) {dd : Deed} (ok : dd.Ok bs) {cs : List Int} (hc : cs.length = totB bs) : a01 [a0A bs, dd.d, .tup (cs.map D.int)] = okB (keptV bs cs dd) := by
  have no : ∀ (w : Str) (r : List D), w ≠ Str.ofString "is" → w ≠ Str.ofString "most" → a01 [a0A bs, .tup (.str w :: r), .tup (cs.map D.int)] = okB true := fun w r h1 h2 =>
    a1l rfl (a1a (if_t (a3c (a0b (a0b rfl rfl a2f) rfl (a5w h1)) (a0b (a0b rfl rfl a2f) rfl (a5w h2))) (a1z rfl)))
  cases dd with
  | iz x y n =>
    obtain ⟨hx, hy, hs, _⟩ := ok
    exact due_is (i := true) hb (a4t rfl) (a7E (a0b (a0b rfl rfl a2f) rfl (a66 rfl))) hx hy hs hc
  | most x y n =>
    obtain ⟨hx, hy, hs, _⟩ := ok
    exact due_is (i := false) hb (a3z (by decide)) (a3c (a0b (a0b rfl rfl a2f) rfl (a5w (by decide))) (a0b (a0b rfl rfl a2f) rfl (a66 rfl))) hx hy hs hc
  | put x ns => exact no _ _ (by decide) (by decide)
  | copy x y => exact no _ _ (by decide) (by decide)
  | grow x n => exact no _ _ (by decide) (by decide)
  | tick x => exact no _ _ (by decide) (by decide)
  | still n => exact no _ _ (by decide) (by decide)
  | non x => exact no _ _ (by decide) (by decide)
  | anew x y t => exact no _ _ (by decide) (by decide)
end Bell
namespace Bell
open PySem L3
theorem same_bl (b : Bool) : a0Y [.bl b, .bl b] = okB true := a6X (a22.bl 0 b) (by decide)
abbrev ρT (ns : List Int) (bs : List Bx) (d : D) (s3 e4 e5 e6 e7 e8 e9 e10 e11 e12 : Option S) : MEnv := [some (.sh (.lst (ns.map D.int))), some (.sh (a0A bs)), some (.sh d), s3, e4, e5, e6, e7, e8, e9, e10, e11, e12]
theorem tot_pos {bs : List Bx} (hb : a1A bs) (h1 : 1 ≤ bs.length) : 1 ≤ totB bs := by
  have := a1U (bs := bs) (x := 0) (by omega)
  rcases a3e hb (x := 0) (by omega) with e | e <;> omega
theorem turn_b {ns : List Int} {bs : List Bx} (hb : a1A bs) {dd : Deed} (ok : dd.Ok bs) {cs os ds : List Int} (hd : ds.length = totB bs) {e4 e8 e9 e10 e11 e12 : Option S} :
    b_law_1 (ρT ns bs dd.d (some (.sh (.tup (cs.map D.int)))) e4 (some (.sh (.tup (os.map D.int)))) (some (.sh (askD bs dd))) (some (.sh (.tup (ds.map D.int)))) e8 e9 e10 e11 e12) =
      some (.next (ρT ns bs dd.d (some (.sh (.tup (cs.map D.int)))) e4 (some (.sh (.tup (os.map D.int)))) (some (.sh (askD bs dd))) (some (.sh (.tup (ds.map D.int)))) e8 e9 e10 e11 e12)) :=
  a2V (if_f (not_t (a1j (ask_eq hb ok hd rfl rfl) (a02 rfl rfl rfl (due_eq hb ok hd)) (same_bl _))) rfl)
theorem a6L {ns : List Int} {bs : List Bx} (hb : a1A bs) (h1 : 1 ≤ bs.length) {dd : Deed} (ok : dd.Ok bs) {cs : List Int} (hc : cs.length = totB bs) {e4 e5 e6 e7 e8 e9 e10 e11 e12 : Option S} :
    t_law_5 (ρT ns bs dd.d (some (.own (.lst (cs.map D.int)))) e4 e5 e6 e7 e8 e9 e10 e11 e12) = some (.ret (.sh (.bl true))) := by
  have hp := tot_pos hb h1
  have ht := a5N hb
  obtain ⟨a, da, la⟩ := a6w (ns := ns) (k := 130) (m := (cs.length : Int)) (by decide) (by decide) (by omega)
  have la : a < cs.length := by omega
  have d2 := a1c (ns := ns) (k := 131) (m := 2) (by decide) (by decide) (by decide)
  have hlen : dLen (.tup (cs.map D.int)) = okI (cs.length : Int) := a4k cs
  have hos : (cs.take a ++ [a0C cs a + 2 * a0R ns 131 2 - 1] ++ cs.drop (a + 1)).length = totB bs := by simp; omega
  have l1 : a08 (eVar 3) none (some (eVar 4)) (ρT ns bs dd.d (some (.sh (.tup (cs.map D.int)))) (some (.sh (.int a))) e5 e6 e7 e8 e9 e10 e11 e12) = okD (.tup ((cs.take a).map D.int)) := by
    rw [a4I (s := .sh (.tup (cs.map D.int))) (ds := cs.map D.int) rfl rfl rfl (by rw [List.length_map]; exact la), List.map_take]
  have l2 : a08 (eVar 3) (some (eBin dAdd (eVar 4) (eC (.int 1)))) none (ρT ns bs dd.d (some (.sh (.tup (cs.map D.int)))) (some (.sh (.int a))) e5 e6 e7 e8 e9 e10 e11 e12) = okD (.tup ((cs.drop (a + 1)).map D.int)) := by
    rw [a5f (s := .sh (.tup (cs.map D.int))) (ds := cs.map D.int) (x := a + 1) rfl rfl (a0b rfl rfl rfl) (by omega) (by rw [List.length_map]; omega), List.map_drop]
  have mid : eTup [(eBin dSub (eBin dAdd (eBin dIx (eVar 3) (eVar 4)) (eBin dMul (eC (.int 2)) (a0h a0c [(eVar 0), (eC (.int 131)), (eC (.int 2))]))) (eC (.int 1)))] (ρT ns bs dd.d (some (.sh (.tup (cs.map D.int)))) (some (.sh (.int a))) e5 e6 e7 e8 e9 e10 e11 e12) = okD (.tup [.int (a0C cs a + 2 * a0R ns 131 2 - 1)]) :=
    a2Z (a0b (a0b (a0b rfl rfl (a3f la)) (a0b rfl (a02 rfl rfl rfl d2) (mulL (by decide) (by decide))) rfl) rfl rfl) rfl
  have oth : eBin dAdd (eBin dAdd (a08 (eVar 3) none (some (eVar 4))) (eTup [(eBin dSub (eBin dAdd (eBin dIx (eVar 3) (eVar 4)) (eBin dMul (eC (.int 2)) (a0h a0c [(eVar 0), (eC (.int 131)), (eC (.int 2))]))) (eC (.int 1)))])) (a08 (eVar 3) (some (eBin dAdd (eVar 4) (eC (.int 1)))) none) (ρT ns bs dd.d (some (.sh (.tup (cs.map D.int)))) (some (.sh (.int a))) e5 e6 e7 e8 e9 e10 e11 e12) =
      okD (.tup ((cs.take a ++ [a0C cs a + 2 * a0R ns 131 2 - 1] ++ cs.drop (a + 1)).map D.int)) := by
    rw [List.map_append, List.map_append]
    have c1 : dAdd (.tup ((cs.take a).map D.int)) (.tup [D.int (a0C cs a + 2 * a0R ns 131 2 - 1)]) = okD (.tup ((cs.take a).map D.int ++ [D.int (a0C cs a + 2 * a0R ns 131 2 - 1)])) := cat_t (by rw [List.length_map, List.length_take]; simp; omega)
    have c2 : dAdd (.tup ((cs.take a).map D.int ++ [D.int (a0C cs a + 2 * a0R ns 131 2 - 1)])) (.tup ((cs.drop (a + 1)).map D.int)) = okD (.tup ((cs.take a).map D.int ++ [D.int (a0C cs a + 2 * a0R ns 131 2 - 1)] ++ (cs.drop (a + 1)).map D.int)) := cat_t (by rw [List.length_append, List.length_map, List.length_map, List.length_take, List.length_drop]; simp; omega)
    exact a0b (a0b l1 mid c1) l2 c2
  have b1 := turn_b (ns := ns) hb ok (cs := cs) (os := cs.take a ++ [a0C cs a + 2 * a0R ns 131 2 - 1] ++ cs.drop (a + 1)) hc (e4 := some (.sh (.int a))) (e8 := e8) (e9 := e9) (e10 := e10) (e11 := e11) (e12 := e12)
  have b2 := turn_b (ns := ns) hb ok (cs := cs) (os := cs.take a ++ [a0C cs a + 2 * a0R ns 131 2 - 1] ++ cs.drop (a + 1)) hos (e4 := some (.sh (.int a))) (e8 := e8) (e9 := e9) (e10 := e10) (e11 := e11) (e12 := e12)
  exact a2V (a0e (a0I (a2Z rfl rfl)) (a0e (a0I (a02 rfl rfl (lenB rfl hlen) da)) (a2V (a0e (a0I oth) (a0e (a0I (a1j rfl rfl (a4a hb ok))) (a2V (a2V (a0e (a6u (a43 (a02 rfl rfl rfl rfl) rfl) (a2U rfl b1 (a2U rfl b2 (a2U rfl b1 rfl)))) (a1z rfl)))))))))
theorem fill_ok {ns : List Int} {bs : List Bx} (hb : a1A bs) {w : Str} {x y : Nat} {n : Int} (hx : x < bs.length) (hy : y < bs.length) (hs : szB bs y = szB bs x) {cs : List Int} (hc : cs.length = totB bs) {e7 e8 e9 : Option S} :
    ∃ (cs' : List Int) (e4 e10 e11 : Option S), cs'.length = totB bs ∧ sSeq (sSet 10 (a0h a0p [(eVar 1), (eBin dIx (eVar 2) (eC (.int 2)))])) (sFor (a4o (a0h a0p [(eVar 1), (eBin dIx (eVar 2) (eC (.int 1)))])) (bTup [11, 4]) a7B) (ρT ns bs (.tup [.str w, .int x, .int y, .int n]) (some (.own (.lst (cs.map D.int)))) none none none e7 e8 e9 none none none) =
      some (.next (ρT ns bs (.tup [.str w, .int x, .int y, .int n]) (some (.own (.lst (cs'.map D.int)))) e4 none none e7 e8 e9 e10 e11 none)) := by
  have l1 := a1U hx
  have l2 := a1U hy
  have h12 := a3e hb hx
  have ht := a5N hb
  have clen : (a0m bs x).length = szB bs x := by unfold a0m; simp
  have en : a4o (a0h a0p [(eVar 1), (eBin dIx (eVar 2) (eC (.int 1)))]) (ρT ns bs (.tup [.str w, .int x, .int y, .int n]) (some (.own (.lst (cs.map D.int)))) none none none e7 e8 e9 (some (.own (.lst ((a0m bs y).map intD)))) none none) = some (.ok ((List.range (szB bs x)).map fun i : Nat => D.tup [.int i, intD ((a0m bs x).getD i 0)])) := by
    rw [← clen]
    exact enum_e (a0m bs x) intD 0 (a1j rfl (a0b rfl rfl a6s) (a1h hb hx)) (.inl rfl)
  obtain ⟨ρ', e, cs', hc', e4, s10, e11, _, rfl⟩ := forD_idx (bd := bTup [11, 4]) (body := a7B) (fun i : Nat => D.tup [.int i, intD ((a0m bs x).getD i 0)]) (fun _ ρ => ∃ (cs : List Int), cs.length = totB bs ∧ ∃ (e4 : Option S) (s10 : S) (e11 : Option S), (s10 = .sh (.lst ((a0m bs y).map intD)) ∨ s10 = .own (.lst ((a0m bs y).map intD))) ∧
      ρ = ρT ns bs (.tup [.str w, .int x, .int y, .int n]) (some (.own (.lst (cs.map D.int)))) e4 none none e7 e8 e9 (some s10) e11 none) (szB bs x) (ρ := ρT ns bs (.tup [.str w, .int x, .int y, .int n]) (some (.own (.lst (cs.map D.int)))) none none none e7 e8 e9 (some (.own (.lst ((a0m bs y).map intD)))) none none) ⟨cs, hc, none, _, none, .inr rfl, rfl⟩ (by
    rintro k ρ hk ⟨cs, hc, e4, s10, e11, h10, rfl⟩
    have hcx : (a0m bs x).getD k 0 = fstB bs x + k := by unfold a0m; rw [List.getD_eq_getElem?_getD, List.getElem?_map, List.getElem?_range hk]; rfl
    have d5 := a1c (ns := ns) (k := 120 + k) (m := 5) (by omega) (by omega) (by decide)
    have l5 := a1b (ns := ns) (k := 120 + k) (m := 5) (by decide)
    obtain ⟨j, hj⟩ : ∃ j : Nat, a0R ns (120 + k) 5 = j := ⟨(a0R ns (120 + k) 5).toNat, by omega⟩
    have hj5 : j < 5 := by omega
    have pick : ∃ t : Int, dIx (.lst [.int 0, .int 0, .int 0, .int 1, .int (-1)]) (.int j) = okI t := by
      have : j = 0 ∨ j = 1 ∨ j = 2 ∨ j = 3 ∨ j = 4 := by omega
      rcases this with rfl | rfl | rfl | rfl | rfl
      · exact ⟨_, a2n (n := 0) rfl⟩
      · exact ⟨_, a2n (n := 1) rfl⟩
      · exact ⟨_, a2n (n := 2) rfl⟩
      · exact ⟨_, a2n (n := 3) rfl⟩
      · exact ⟨_, a2n (n := 4) rfl⟩
    obtain ⟨t, ht'⟩ := pick
    rw [hj] at d5
    have vy : dIx (.lst (cs.map D.int)) (.int (fstB bs y + k : Nat)) = okI (a0C cs (fstB bs y + k)) := a3f (by omega)
    have cy := a5B (bs := bs) (x := y) (k := k) (by omega)
    have hv : eBin dAdd (eBin dAdd (a0i (f2 dIx) [(eAny 3), (eBin dIx (eVar 10) (eVar 11))]) (eBin dIx (eVar 2) (eC (.int 3)))) (eBin dIx (eLst [(eC (.int 0)), (eC (.int 0)), (eC (.int 0)), (eC (.int 1)), (eC (.int (-1)))]) (a0h a0c [(eVar 0), (eBin dAdd (eC (.int 120)) (eVar 11)), (eC (.int 5))]))
        (ρT ns bs (.tup [.str w, .int x, .int y, .int n]) (some (.own (.lst (cs.map D.int)))) (some (.sh (.int (fstB bs x + k : Nat)))) none none e7 e8 e9 (some (.sh (.lst ((a0m bs y).map intD)))) (some (.sh (.int k))) none) = okI (a0C cs (fstB bs y + k) + n + t) := by
      have a1 : a0i (f2 dIx) [(eAny 3), (eBin dIx (eVar 10) (eVar 11))] (ρT ns bs (.tup [.str w, .int x, .int y, .int n]) (some (.own (.lst (cs.map D.int)))) (some (.sh (.int (fstB bs x + k : Nat)))) none none e7 e8 e9 (some (.sh (.lst ((a0m bs y).map intD)))) (some (.sh (.int k))) none) = okI (a0C cs (fstB bs y + k)) :=
        callB_e (d := .int (a0C cs (fstB bs y + k))) (a1j (s1 := .sh (.lst (cs.map D.int))) rfl (a0b rfl rfl cy) vy) rfl
      have a2 : eLst [(eC (.int 0)), (eC (.int 0)), (eC (.int 0)), (eC (.int 1)), (eC (.int (-1)))] (ρT ns bs (.tup [.str w, .int x, .int y, .int n]) (some (.own (.lst (cs.map D.int)))) (some (.sh (.int (fstB bs x + k : Nat)))) none none e7 e8 e9 (some (.sh (.lst ((a0m bs y).map intD)))) (some (.sh (.int k))) none) = okL [.int 0, .int 0, .int 0, .int 1, .int (-1)] := rfl
      exact a0b (a0b a1 (a0b rfl rfl ix_t3) rfl) (a0b a2 (a02 rfl (a0b rfl rfl rfl) rfl d5) ht') rfl
    have core : a1C 3 (eVar 4) (eBin dAdd (eBin dAdd (a0i (f2 dIx) [(eAny 3), (eBin dIx (eVar 10) (eVar 11))]) (eBin dIx (eVar 2) (eC (.int 3)))) (eBin dIx (eLst [(eC (.int 0)), (eC (.int 0)), (eC (.int 0)), (eC (.int 1)), (eC (.int (-1)))]) (a0h a0c [(eVar 0), (eBin dAdd (eC (.int 120)) (eVar 11)), (eC (.int 5))])))
        (ρT ns bs (.tup [.str w, .int x, .int y, .int n]) (some (.own (.lst (cs.map D.int)))) (some (.sh (.int (fstB bs x + k : Nat)))) none none e7 e8 e9 (some (.sh (.lst ((a0m bs y).map intD)))) (some (.sh (.int k))) none) =
        some (.next (ρT ns bs (.tup [.str w, .int x, .int y, .int n]) (some (.own (.lst ((cs.map D.int).set (fstB bs x + k) (.int (a0C cs (fstB bs y + k) + n + t)))))) (some (.sh (.int (fstB bs x + k : Nat)))) none none e7 e8 e9 (some (.sh (.lst ((a0m bs y).map intD)))) (some (.sh (.int k))) none)) :=
      a6W (j := 0) (ds := cs.map D.int) (k := fstB bs x + k) hv rfl rfl (by rw [List.length_map]; omega)
    refine ⟨ρT ns bs (.tup [.str w, .int x, .int y, .int n]) (some (.own (.lst (cs.map D.int)))) (some (.sh (.int (fstB bs x + k : Nat)))) none none e7 e8 e9 (some s10) (some (.sh (.int k))) none, ρT ns bs (.tup [.str w, .int x, .int y, .int n]) (some (.own (.lst ((cs.map D.int).set (fstB bs x + k) (.int (a0C cs (fstB bs y + k) + n + t)))))) (some (.sh (.int (fstB bs x + k : Nat)))) none none e7 e8 e9 (some (.sh (.lst ((a0m bs y).map intD)))) (some (.sh (.int k))) none, by rw [hcx]; rfl, ?_, cs.set (fstB bs x + k) (a0C cs (fstB bs y + k) + n + t), by rw [List.length_set]; exact hc, some (.sh (.int (fstB bs x + k : Nat))), .sh (.lst ((a0m bs y).map intD)), some (.sh (.int k)), .inl rfl, by rw [List.map_set]⟩
    rcases h10 with rfl | rfl
    · exact core
    · exact core)
  exact ⟨cs', e4, some s10, e11, hc', a0e (a0I (a1j rfl (a0b rfl rfl a7h) (a1h hb hy))) (a6u en e)⟩
def a29 (bs : List Bx) (x : Nat) : List Nat := (List.range bs.length).filter fun y => decide (szB bs y = szB bs x)
theorem head_ok {ns : List Int} {bs : List Bx} (hb : a1A bs) (h1 : 1 ≤ bs.length) {dd : Deed} (ok : dd.Ok bs) {o : Option Out} (h : ∀ (dd : Deed) (e7 e8 e9 : Option S), dd.Ok bs → a6M (ρT ns bs dd.d none none none none e7 e8 e9 none none none) = o) :
    a6N (ρT ns bs dd.d none none none none none none none none none none) = o := by
  have d6 := a1c (ns := ns) (k := 6) (m := 4) (by decide) (by decide) (by decide)
  have l6 := a1b (ns := ns) (k := 6) (m := 4) (by decide)
  by_cases c : 0 < a0R ns 6 4
  · obtain ⟨x, dx, lx⟩ := a6w (ns := ns) (k := 2) (m := (bs.length : Int)) (by decide) (by decide) (by omega)
    have lx : x < bs.length := by omega
    have h8 := hb.1
    have hmem : x ∈ a29 bs x := List.mem_filter.mpr ⟨List.mem_range.mpr lx, by simp⟩
    have hpos : 0 < (a29 bs x).length := List.length_pos_of_mem hmem
    have hle : (a29 bs x).length ≤ bs.length := by
      have := List.length_filter_le (fun y => decide (szB bs y = szB bs x)) (List.range bs.length)
      rw [List.length_range] at this
      exact this
    obtain ⟨j, dj, lj⟩ := a6w (ns := ns) (k := 3) (m := ((a29 bs x).length : Int)) (by decide) (by decide) (by omega)
    have lj : j < (a29 bs x).length := by omega
    have hy := List.mem_filter.mp (List.getElem_mem lj)
    have hy1 : (a29 bs x)[j] < bs.length := List.mem_range.mp hy.1
    have hy2 : szB bs (a29 bs x)[j] = szB bs x := of_decide_eq_true hy.2
    have d7 := a1c (ns := ns) (k := 7) (m := 2) (by decide) (by decide) (by decide)
    have l7 := a1b (ns := ns) (k := 7) (m := 2) (by decide)
    have nm := a19 (ns := ns) (k := 140) (by decide) (by decide)
    have nl := a18 (ns := ns) (k := 140) (by decide) (by decide)
    have cmp : a05 [9] (a0E (a0i (f1 dLen) [(eAny 1)])) (a0Z 9) (eBin dEq (a0i (f1 dLen) [(eBin dIx (eBin dIx (eVar 1) (eVar 9)) (eC (.int 1)))]) (a0i (f1 dLen) [(eBin dIx (eBin dIx (eVar 1) (eVar 8)) (eC (.int 1)))])) (eVar 9) (ρT ns bs dd.d none none none none none (some (.sh (.int x))) none none none none) = okL ((a29 bs x).map intD) :=
      a4v (List.range bs.length) intD (fun y => decide (szB bs y = szB bs x)) intD (by rw [← rng0]; exact a1u (lenB rfl (a2w bs)) (a0W (by omega))) (by rw [List.length_range]; exact Nat.le_trans (by omega : bs.length ≤ 8) (by decide)) fun y hy => ⟨_, rfl, a0b (a3n (List.mem_range.mp hy) rfl rfl) (a3n lx rfl rfl) (eqN _ _), fun _ => ⟨_, rfl, rfl⟩⟩
    have pre : ∀ (w : Str) (dd' : Deed), dIx (.lst [.str (Str.ofString "is"), .str (Str.ofString "most")]) (.int (a0R ns 7 2)) = okD (.str w) → dd'.d = .tup [.str w, .int x, .int (a29 bs x)[j], .int (numV ns 140)] → dd'.Ok bs → a6N (ρT ns bs dd.d none none none none none none none none none none) = o := fun w dd' hw hd hok => by
      refine a0e (if_t (a0b (a02 rfl rfl rfl d6) rfl (gt_t c)) (a0e (a0I (a02 rfl rfl (lenB rfl (a2w bs)) dx)) (a0e (a0I cmp) (a2V (a0e (a0I (a0b rfl (a02 rfl rfl (lenB rfl (a2P _)) dj) (a5W lj))) (a0I (call4 (a0b (a1j rfl rfl rfl) (a02 rfl rfl rfl d7) hw) rfl rfl (a1j rfl rfl nm) rfl))))))) ?_
      have := h dd' (some (.sh (.lst ((a29 bs x).map intD)))) (some (.sh (.int x))) (some (.sh (.int (a29 bs x)[j]))) hok
      rw [hd] at this
      exact this
    rcases (show a0R ns 7 2 = 0 ∨ a0R ns 7 2 = 1 by omega) with e | e
    · exact pre _ (.iz x (a29 bs x)[j] (numV ns 140)) (by rw [e]; exact a2n (n := 0) rfl) rfl ⟨lx, hy1, hy2, nl⟩
    · exact pre _ (.most x (a29 bs x)[j] (numV ns 140)) (by rw [e]; exact a2n (n := 1) rfl) rfl ⟨lx, hy1, hy2, nl⟩
  · exact a0e (if_f (a0b (a02 rfl rfl rfl d6) rfl (gt_f c)) rfl) (h dd none none none ok)
theorem mid_ok {ns : List Int} {bs : List Bx} (hb : a1A bs) (h1 : 1 ≤ bs.length) {dd : Deed} (ok : dd.Ok bs) {e7 e8 e9 : Option S} : a6M (ρT ns bs dd.d none none none none e7 e8 e9 none none none) = some (.ret (.sh (.bl true))) := by
  have h8 := hb.1
  have ht := a5N hb
  have hsum : dSum (.lst ((bs.map fun b => b.2.length).map intD)) = okI (totB bs : Nat) := by
    have := a4u (bs.map fun b => b.2.length)
    have e := a3L (bs := bs) (x := bs.length) (Nat.le_refl _)
    rw [List.take_length] at e
    rw [e] at this
    exact this
  have hl := lens_e (bs := bs) (l := bs) h8 (ρ := ρT ns bs dd.d none none none none e7 e8 e9 none none none) (js := [12]) (it := iSeq (eVar 1)) (v := 12) (a43 rfl rfl) (by show 12 < 13; decide)
  obtain ⟨vs, hv, hvl⟩ := a6I (ns := ns) (base := 60) (many := totB bs) (by decide) (by decide) (by omega)
  refine a0e (a0I (s := .own (.lst (vs.map D.int))) (a2Z (a02 rfl rfl (a2Z hl hsum) hv) rfl)) ?_
  show a5e (ρT ns bs dd.d (some (.own (.lst (vs.map D.int)))) none none none e7 e8 e9 none none none) = _
  have no : ∀ (w : Str) (r : List D), dd.d = .tup (.str w :: r) → w ≠ Str.ofString "is" → w ≠ Str.ofString "most" → a5e (ρT ns bs dd.d (some (.own (.lst (vs.map D.int)))) none none none e7 e8 e9 none none none) = some (.ret (.sh (.bl true))) := fun w r hd n1 n2 => by
    have t0 : dIx dd.d (.int 0) = okD (.str w) := by rw [hd]; exact a2f
    exact a0e (if_f (or_f (a0b (a0b rfl rfl t0) rfl (a3z n1)) (a0b (a0b rfl rfl t0) rfl (a3z n2))) rfl) (a6L hb h1 ok hvl)
  have yes : ∀ (w : Str) (x y : Nat) (n : Int), dd.d = .tup [.str w, .int x, .int y, .int n] → (w = Str.ofString "is" ∨ w = Str.ofString "most") → x < bs.length → y < bs.length → szB bs y = szB bs x → a5e (ρT ns bs dd.d (some (.own (.lst (vs.map D.int)))) none none none e7 e8 e9 none none none) = some (.ret (.sh (.bl true))) := fun w x y n hd hw hx hy hs => by
    obtain ⟨cs', e4, e10, e11, hc', hf⟩ := fill_ok (ns := ns) hb (w := w) (n := n) hx hy hs hvl (e7 := e7) (e8 := e8) (e9 := e9)
    rw [← hd] at hf
    have t0 : dIx dd.d (.int 0) = okD (.str w) := by rw [hd]; exact a2f
    have cond : eOr (eBin dEq (eBin dIx (eVar 2) (eC (.int 0))) (eC (.str (Str.ofString "is")))) (eBin dEq (eBin dIx (eVar 2) (eC (.int 0))) (eC (.str (Str.ofString "most")))) (ρT ns bs dd.d (some (.own (.lst (vs.map D.int)))) none none none e7 e8 e9 none none none) = okB true := by
      rcases hw with hw | hw
      · exact or_t (a0b (a0b rfl rfl t0) rfl (a4t hw))
      · exact or_f (a0b (a0b rfl rfl t0) rfl (a3z (by rw [hw]; decide))) (a0b (a0b rfl rfl t0) rfl (a4t hw))
    exact a0e (if_t cond hf) (a6L hb h1 ok hc')
  cases dd with
  | iz x y n => exact yes _ x y n rfl (.inl rfl) ok.1 ok.2.1 ok.2.2.1
  | most x y n => exact yes _ x y n rfl (.inr rfl) ok.1 ok.2.1 ok.2.2.1
  | put x ns => exact no _ _ rfl (by decide) (by decide)
  | copy x y => exact no _ _ rfl (by decide) (by decide)
  | grow x n => exact no _ _ rfl (by decide) (by decide)
  | tick x => exact no _ _ rfl (by decide) (by decide)
  | still n => exact no _ _ rfl (by decide) (by decide)
  | non x => exact no _ _ rfl (by decide) (by decide)
  | anew x y t => exact no _ _ rfl (by decide) (by decide)
theorem law_true (ns : List Int) (_ : ns.length ≤ 63) : f_law [.lst (ns.map D.int)] = some (.ok (.sh (.bl true))) := by
  obtain ⟨m, dm, lm⟩ := a6w (ns := ns) (k := 0) (m := 8) (by decide) (by decide) (by decide)
  obtain ⟨bs, eb, hl, hb⟩ := boxes_ok (ns := ns) (base := 8) (many := 1 + m) (by decide) (by decide) (by omega)
  obtain ⟨dd, ok, ed⟩ := deed_ok (ns := ns) hb (by omega) (k := 1) (by decide) (by decide)
  have eb' : a1P [.lst (ns.map D.int), .int 8, .int (1 + (m : Int))] = okD (a0A bs) := by
    have : ((1 + m : Nat) : Int) = 1 + (m : Int) := by omega
    rw [← this]; exact eb
  exact a1l rfl (a0e (a0I (a02 rfl rfl (a0b rfl (a02 rfl rfl rfl dm) rfl) eb')) (a0e (a0I (a02 rfl rfl rfl ed)) (head_ok hb (by omega) ok fun dd e7 e8 e9 ok => mid_ok hb (by omega) ok)))
end Bell
set_option maxHeartbeats 8000000
namespace Bell
open PySem PySem.Spec PyProof.Rows L2 L3
def top (i : Nat) : Stmt := PySem.Challenge.pw_bellnest_k05_promises_of_cells.main.body.getD i (.Pass ⟨0, 0, 0, 0⟩)
abbrev a1H : Stmt := top 6
def a6m : List Str := ["_law_script", "_law_k", "_law_many", "_law_cell"]
def a04 : List Str := ["_law_script", "_law_k", "_law_many"]
abbrev a1g : Stmt := top 7
def a4X : List Str := ["_law_script", "_law_k", "_law_way"]
def a0S : List Str := ["_law_script", "_law_k"]
abbrev a1r : Stmt := top 9
def a5y : List Str := ["_law_script", "_law_base", "_law_many", "_law_boxes_here", "_law_k", "_law_at", "_law_size", "_law_j"]
def a1M : List Str := ["_law_script", "_law_base", "_law_many"]
abbrev a1q : Stmt := top 11
def a5x : List Str := ["_law_boxes_here", "_law_x", "_law_first", "_law_k", "_law_box"]
def a1s : List Str := ["_law_boxes_here", "_law_x"]
abbrev a1I : Stmt := top 10
def a6n : List Str := ["_law_script", "_law_at", "_law_boxes_here", "_law_way", "_law_x", "_law_size", "_law_likes", "_law_y", "_law_ones", "_law_t", "_law_j"]
def a16 : List Str := ["_law_script", "_law_at", "_law_boxes_here"]
abbrev a13 : Stmt := top 13
def a68 : List Str := ["_law_boxes_here", "_law_deed_here", "_law_cells_here", "_law_own", "_law_other", "_law_k", "_law_bound"]
def a2t : List Str := ["_law_boxes_here", "_law_deed_here", "_law_cells_here"]
abbrev a1G : Stmt := top 8
def a6l : List Str := ["_law_found", "_law_due_here", "_law_one", "_law_other"]
def a15 : List Str := ["_law_found", "_law_due_here"]
abbrev a1f : Stmt := top 12
def a4W : List Str := ["_law_script", "_law_base", "_law_many", "_law_values_here", "_law_k", "_law_number_here"]
def a1x : List Str := ["_law_script", "_law_base", "_law_many"]
abbrev a12 : Stmt := top 1
def a67 : List Str := ["boxes", "x"]
def a2s : List Str := ["boxes", "x"]
abbrev a1J : Stmt := top 2
def a6o : List Str := ["boxes", "x", "first", "k"]
def a17 : List Str := ["boxes", "x"]
abbrev a0s : Stmt := top 4
def a4V : List Str := ["boxes", "deed", "couples", "number"]
def a1w : List Str := ["boxes", "deed"]
abbrev a5g : Stmt := top 14
def n_law : List Str := ["_law_script", "_law_boxes_here", "_law_deed_here", "_law_cells_here", "_law_at", "_law_others", "_law_ask", "_law_some", "_law_x", "_law_y", "_law_other", "_law_k", "_law_box"]
def p_law : List Str := ["_law_script"]
abbrev CC : Addr := 32
abbrev PT : Addr := 28
def good : Pos → Option Str := a7i [(10, 15), (14, 15), (15, 11)] "promise_of.<locals>.<lambda>"
def lam0 : LamT := mkLam (stRet ((defBody a0s).getD 0 (.Pass ⟨0, 0, 0, 0⟩))) "promise_of.<locals>.<lambda>" "cells" []
def n_lam0 : List Str := ["cells"]
def lam1 : LamT := mkLam (stRet ((defBody a0s).getD 3 (.Pass ⟨0, 0, 0, 0⟩))) "promise_of.<locals>.<lambda>" "cells" ["number", "couples"]
def n_lam1 : List Str := ["cells", "number", "couples", "a", "b"]
def lam2 : LamT := mkLam (stRet ((defBody a0s).getD 4 (.Pass ⟨0, 0, 0, 0⟩))) "promise_of.<locals>.<lambda>" "cells" ["number", "couples"]
def n_lam2 : List Str := ["cells", "number", "couples", "a", "b"]
def lams : Nat → Option LamT
  | 0 => some lam0
  | 1 => some lam1
  | 2 => some lam2
  | _ => none
abbrev Γc (K : PySem.W.Frag) (cls : String → Addr) : Ct := ctP K cls lams PT good
structure Blt (mg : Str → Option Value) : Prop where
  all : mg "all" = none
  bool : mg "bool" = none
  enumerate : mg "enumerate" = none
  int : mg "int" = none
  isinstance : mg "isinstance" = none
  len : mg "len" = none
  list : mg "list" = none
  range : mg "range" = none
  str : mg "str" = none
  sum : mg "sum" = none
  tuple : mg "tuple" = none
  zip : mg "zip" = none
structure Defs (K : PySem.W.Frag) (mg : Str → Option Value) (cls : String → Addr) : Prop where
  L_law_draw : Laid K mg "_law_draw" a1H a04
  L_law_number : Laid K mg "_law_number" a1g a0S
  L_law_boxes : Laid K mg "_law_boxes" a1r a1M
  L_law_cells : Laid K mg "_law_cells" a1q a1s
  L_law_deed : Laid K mg "_law_deed" a1I a16
  L_law_due : Laid K mg "_law_due" a13 a2t
  L_law_same : Laid K mg "_law_same" a1G a15
  L_law_values : Laid K mg "_law_values" a1f a1x
  L_size_of : Laid K mg "size_of" a12 a2s
  L_cells_of : Laid K mg "cells_of" a1J a17
  L_promise_of : LaidC K mg "promise_of" a0s a1w CC
  L_law : Laid K mg "law" a5g p_law
seal PySem.wpAny
section
variable {P : Program} {w : World} {K : PySem.W.Frag} {mg : Str → Option Value} {base : Heap} {cls : String → Addr}
theorem a2I : FnScope a6m a04 (defScope a1H) := ⟨rfl, rfl, rfl, by decide +kernel, rfl, by decide +kernel, by decide +kernel⟩
theorem a5s (L : Laid K mg "_law_draw" a1H a04) (Z : Blt mg)  : FnN P w K mg base (Γc K cls) 1 "_law_draw" a04 a0c :=
  a2h (k := 0) L a2I fun f cdv A outer s H E hr =>
 (a0f (psS (i := 3) a2I.nd rfl a0d)
 (a0f (a06 (a0q a3U (a0x (a0O rfl) rfl Z.len PySem.boot_len (a0o (a0u (pv 0)) a0y)) a0d)
 (a0l (psS (i := 3) a2I.nd rfl (a0v a4e (a0B (ixd rfl) (a0a (pv 0)) (a0v a4e (a0a (pv 1)) (a0x (a0O rfl) rfl Z.len PySem.boot_len (a0o (a0u (pv 0)) a0y)))) a0d)))
 a0z)
 (a0l (a0w (a0v a4e (a0v a4e (a0v (a0n rfl) (a0v a1N (a0a (pv 3)) a0d) (a0v a1N (a0v a1N (a0v (a0n rfl) (a0a (pv 1)) a0d) (a0v (a0n rfl) (a0a (pv 1)) a0d)) a0d)) a0d) (a0a (pv 2)))))))
theorem a2O : FnScope a4X a0S (defScope a1g) := ⟨rfl, rfl, rfl, by decide +kernel, rfl, by decide +kernel, by decide +kernel⟩
theorem a4h (L : Laid K mg "_law_number" a1g a0S) (Z : Blt mg) (H_law_draw : FnN P w K mg base (Γc K cls) 1 "_law_draw" a04 a0c) : FnN P w K mg base (Γc K cls) 2 "_law_number" a0S a0j :=
  a2h (k := 1) L a2O fun f cdv A outer s H E hr =>
 (a0f (psS (i := 2) a2O.nd rfl (a0P H_law_draw (hr.mono (by first | decide | omega)) rfl (padN (a0a (pv 0)) (padN (a0a (pv 1)) (padC a0d a0g)))))
 (a0f (a06 (a0q opd_lt (a0a (pv 2)) a0d)
 (a0l (a0w (a0v a3r (a0P H_law_draw (hr.mono (by first | decide | omega)) rfl (padN (a0a (pv 0)) (padB (a0v (a0n rfl) (a0a (pv 1)) a0d) (padC a0d a0g)))) a0d)))
 a0z)
 (a0f (a06 (a0q a07 (a0a (pv 2)) a0d)
 (a0l (a0w (a0v a3r a0d (a0v a1N a0d (a0P H_law_draw (hr.mono (by first | decide | omega)) rfl (padN (a0a (pv 0)) (padB (a0v (a0n rfl) (a0a (pv 1)) a0d) (padC a0d a0g))))))))
 a0z)
 (a0l (a0w (a0v a3r (a0P H_law_draw (hr.mono (by first | decide | omega)) rfl (padN (a0a (pv 0)) (padB (a0v (a0n rfl) (a0a (pv 1)) a0d) (padC a0d a0g)))) a0d))))))
theorem a1e : FnScope a5y a1M (defScope a1r) := ⟨rfl, rfl, rfl, by decide +kernel, rfl, by decide +kernel, by decide +kernel⟩
theorem a4Q (L : Laid K mg "_law_boxes" a1r a1M) (Z : Blt mg) (H_law_draw : FnN P w K mg base (Γc K cls) 1 "_law_draw" a04 a0c) (H_law_number : FnN P w K mg base (Γc K cls) 2 "_law_number" a0S a0j) : FnN P w K mg base (Γc K cls) 3 "_law_boxes" a1M a1P :=
  a2h (k := 2) L a1e fun f cdv A outer s H E hr =>
 (a0f (psS (i := 3) a1e.nd rfl (a3R a0g))
 (a0f (a3p PassesOwn.never rfl (a0X rfl Z.range (a0a (pv 2))) (pbN a1e.nd rfl)
 (a0f (psS (i := 5) a1e.nd rfl (a0v (a0n rfl) (a0a (pv 1)) (a0v a1N a0d (a0a (pv 4)))))
 (a0f (psS (i := 6) a1e.nd rfl (a0v (a0n rfl) a0d (a0P H_law_draw (hr.mono (by first | decide | omega)) rfl (padN (a0a (pv 0)) (padN (a0a (pv 5)) (padC a0d a0g))))))
 (a0l (a3P (i := 3) (pv 3) (a1S (padB (a0v (a0n rfl) a09 (a0B (ixd rfl) a09 (a0a (pv 4)))) (padK (a6f (a2Y rfl) rfl Z.tuple L3.a1T (a0V (a2e (js := [7]) (vars := [".0", "_law_j"]) (a1o 7) (by rfl) (by rfl) rfl (a0X rfl Z.range (a0a (pv 6))) (fun _ _ _ _ => (pbN a1e.nd rfl)) (fun _ _ _ _ => (a0P H_law_number (hr.mono (by first | decide | omega)) rfl (padN (a0a (pv 0)) (padB (a0v (a0n rfl) (a0v (a0n rfl) (a0a (pv 5)) a0d) (a0v a1N a0d (a0a (pv 7)))) a0g))))) a0g)) a0g))))))))
 (a0U (i := 3) (a0l (a0w (a6f (a2Y rfl) rfl Z.tuple L3.a1T (padN (a0a (pv 3)) a0g)))))))
theorem a1R : FnScope a5x a1s (defScope a1q) := ⟨rfl, rfl, rfl, by decide +kernel, rfl, by decide +kernel, by decide +kernel⟩
theorem a4P (L : Laid K mg "_law_cells" a1q a1s) (Z : Blt mg)  : FnN P w K mg base (Γc K cls) 1 "_law_cells" a1s a0p :=
  a2h (k := 0) L a1R fun f cdv A outer s H E hr =>
 (a0f (psS (i := 2) a1R.nd rfl (a3T (a7r rfl rfl) rfl Z.sum L3.a7x (a0V (a2e (js := [4]) (vars := [".0", "_law_box"]) (a1o 4) (by rfl) (by rfl) rfl (a3q rfl (a4d rfl (a0a (pv 0)) a4c (a4b (a0a (pv 1))))) (fun _ _ _ _ => (pbN a1R.nd rfl)) (fun _ _ _ _ => (a0x (a0O rfl) rfl Z.len PySem.boot_len (a0o (PD.look (a0B (ixd rfl) (a0a (pv 4)) a0d)) a0y)))) a0g)))
 (a0l (a0w (a2e (js := [3]) (vars := [".0", "_law_k"]) (a1o 3) (by rfl) (by rfl) rfl (a0X rfl Z.range (a0x (a0O rfl) rfl Z.len PySem.boot_len (a0o (PD.look (a0B (ixd rfl) (a0B (ixd rfl) (a0a (pv 0)) (a0a (pv 1))) a0d)) a0y))) (fun _ _ _ _ => (pbN a1R.nd rfl)) (fun _ _ _ _ => (a0v (a0n rfl) (a0a (pv 2)) (a0a (pv 3))))))))
theorem a0F : FnScope a6n a16 (defScope a1I) := ⟨rfl, rfl, rfl, by decide +kernel, rfl, by decide +kernel, by decide +kernel⟩
theorem a5t (L : Laid K mg "_law_deed" a1I a16) (Z : Blt mg) (H_law_draw : FnN P w K mg base (Γc K cls) 1 "_law_draw" a04 a0c) (H_law_number : FnN P w K mg base (Γc K cls) 2 "_law_number" a0S a0j) : FnN P w K mg base (Γc K cls) 3 "_law_deed" a16 a2B :=
  a2h (k := 2) L a0F fun f cdv A outer s H E hr =>
 (a0f (psS (i := 3) a0F.nd rfl (a0P H_law_draw (hr.mono (by first | decide | omega)) rfl (padN (a0a (pv 0)) (padN (a0a (pv 1)) (padC a0d a0g)))))
 (a0f (psS (i := 4) a0F.nd rfl (a0P H_law_draw (hr.mono (by first | decide | omega)) rfl (padN (a0a (pv 0)) (padB (a0v (a0n rfl) (a0a (pv 1)) a0d) (padK (a0x (a0O rfl) rfl Z.len PySem.boot_len (a0o (a0u (pv 2)) a0y)) a0g)))))
 (a0f (psS (i := 5) a0F.nd rfl (a0x (a0O rfl) rfl Z.len PySem.boot_len (a0o (PD.look (a0B (ixd rfl) (a0B (ixd rfl) (a0a (pv 2)) (a0a (pv 4))) a0d)) a0y)))
 (a0f (a27 (i := 6) a0F.nd rfl (by first | exact Or.inl rfl | exact Or.inr rfl) (js := [7]) (vars := [".0", "_law_y"]) (a1o 7) (by rfl) (by rfl) rfl (a0X rfl Z.range (a0x (a0O rfl) rfl Z.len PySem.boot_len (a0o (a0u (pv 2)) a0y))) (fun _ _ _ _ => (pbN a0F.nd rfl)) (fun _ _ _ _ => (PWD.pt (a2r (a0q a3s (a0a (pv 7)) (a0a (pv 4))) (a2d (a0q a07 (a0x (a0O rfl) rfl Z.len PySem.boot_len (a0o (PD.look (a0B (ixd rfl) (a0B (ixd rfl) (a0a (pv 2)) (a0a (pv 7))) a0d)) a0y)) (a0a (pv 5))))))) (fun _ _ _ _ => (a0a (pv 7))))
 (a0f (a06 (a0q a07 (a0a (pv 3)) a0d)
 (a0l (a0w (a1S (padC a09 (padN (a0a (pv 4)) (padK (a6f (a2Y rfl) rfl Z.tuple L3.a1T (a0V (a2e (js := [10]) (vars := [".0", "_law_j"]) (a1o 10) (by rfl) (by rfl) rfl (a0X rfl Z.range (a0a (pv 5))) (fun _ _ _ _ => (pbN a0F.nd rfl)) (fun _ _ _ _ => (a0P H_law_number (hr.mono (by first | decide | omega)) rfl (padN (a0a (pv 0)) (padB (a0v (a0n rfl) (a0v (a0n rfl) (a0a (pv 1)) a0d) (a0v a1N a0d (a0a (pv 10)))) a0g))))) a0g)) a0g))))))
 a0z)
 (a0f (a06 (PWD.pt (a2r (a0q a07 (a0a (pv 3)) a0d) (a2d (a0q a3U (a0x (a0O rfl) rfl Z.len PySem.boot_len (a0o (a0u (pv 6)) a0y)) a0d))))
 (a0U (i := 6) (a0l (a0w (a1S (padC a09 (padN (a0a (pv 4)) (padS (a0B (ixd rfl) (a0a (pv 6)) (a0P H_law_draw (hr.mono (by first | decide | omega)) rfl (padN (a0a (pv 0)) (padB (a0v (a0n rfl) (a0a (pv 1)) a0d) (padK (a0x (a0O rfl) rfl Z.len PySem.boot_len (a0o (a0u (pv 6)) a0y)) a0g))))) a0g)))))))
 a0z)
 (a0f (a06 (PWD.pt (a2r (a0q a07 (a0a (pv 3)) a0d) (a2d (a0q a07 (a0a (pv 5)) a0d))))
 (a0l (a0w (a1S (padC a09 (padN (a0a (pv 4)) a0g)))))
 a0z)
 (a0f (a06 (a0q a07 (a0a (pv 3)) a0d)
 (a0l (a0w (a1S (padC a09 (padB (a0v (a0n rfl) a0d (a0P H_law_draw (hr.mono (by first | decide | omega)) rfl (padN (a0a (pv 0)) (padB (a0v (a0n rfl) (a0a (pv 1)) a0d) (padC a0d a0g))))) a0g)))))
 a0z)
 (a0f (a06 (PWD.pt (a3O (a0q a07 (a0a (pv 3)) a0d) (a25 (a0q a07 (a0a (pv 3)) a0d))))
 (a0U (i := 6) (a0f (psS (i := 7) a0F.nd rfl (a0B (ixd rfl) (a0v (a0n rfl) (a0a (pv 6)) (a3R (padN (a0a (pv 4)) a0g))) (a0P H_law_draw (hr.mono (by first | decide | omega)) rfl (padN (a0a (pv 0)) (padB (a0v (a0n rfl) (a0a (pv 1)) a0d) (padB (a0v (a0n rfl) (a0x (a0O rfl) rfl Z.len PySem.boot_len (a0o (a0u (pv 6)) a0y)) a0d) a0g))))))
 (a0l (a0w (a1S (padS (a0B (ixd rfl) (a3R (padC a09 (padC a09 a0g))) (a0v a3r (a0a (pv 3)) a0d)) (padN (a0a (pv 4)) (padN (a0a (pv 7)) (padK (a0P H_law_number (hr.mono (by first | decide | omega)) rfl (padN (a0a (pv 0)) (padB (a0v (a0n rfl) (a0a (pv 1)) a0d) a0g))) a0g)))))))))
 a0z)
 (a0f (a06 (a0q a07 (a0a (pv 3)) a0d)
 (a0l (a0w (a1S (padC a09 (padN (a0a (pv 4)) a0g)))))
 a0z)
 (a0f (a06 (PWD.pt (a2r (a0q (opd_in rfl) (a0a (pv 3)) (a1S (padC a0d (padC a0d a0g))) (by with_unfolding_all rfl)) (a2d (a0q a3U (a0x (a0O rfl) rfl Z.len PySem.boot_len (a0o (a0u (pv 6)) a0y)) a0d))))
 (a0U (i := 6) (a0f (psS (i := 7) a0F.nd rfl (a0B (ixd rfl) (a0a (pv 6)) (a0P H_law_draw (hr.mono (by first | decide | omega)) rfl (padN (a0a (pv 0)) (padB (a0v (a0n rfl) (a0a (pv 1)) a0d) (padK (a0x (a0O rfl) rfl Z.len PySem.boot_len (a0o (a0u (pv 6)) a0y)) a0g))))))
 (a0f (a27 (i := 8) a0F.nd rfl (by first | exact Or.inl rfl | exact Or.inr rfl) (js := [9]) (vars := [".0", "_law_t"]) (a1o 9) (by rfl) (by rfl) rfl (a0X rfl Z.range (a0x (a0O rfl) rfl Z.len PySem.boot_len (a0o (a0u (pv 2)) a0y))) (fun _ _ _ _ => (pbN a0F.nd rfl)) (fun _ _ _ _ => (PWD.pt (a2r (a0q a3s (a0a (pv 9)) (a0a (pv 4))) (a2r (a0q a3s (a0a (pv 9)) (a0a (pv 7))) (a2d (a0q a07 (a0x (a0O rfl) rfl Z.len PySem.boot_len (a0o (PD.look (a0B (ixd rfl) (a0B (ixd rfl) (a0a (pv 2)) (a0a (pv 9))) a0d)) a0y)) a0d)))))) (fun _ _ _ _ => (a0a (pv 9))))
 (a0l (a06 (a0q a3U (a0x (a0O rfl) rfl Z.len PySem.boot_len (a0o (a0u (pv 8)) a0y)) a0d)
 (a0U (i := 8) (a0l (a0w (a1S (padC a09 (padN (a0a (pv 4)) (padN (a0a (pv 7)) (padS (a0B (ixd rfl) (a0a (pv 8)) (a0P H_law_draw (hr.mono (by first | decide | omega)) rfl (padN (a0a (pv 0)) (padB (a0v (a0n rfl) (a0a (pv 1)) a0d) (padK (a0x (a0O rfl) rfl Z.len PySem.boot_len (a0o (a0u (pv 8)) a0y)) a0g))))) a0g))))))))
 a0z)))))
 a0z)
 (a0l (a0w (a1S (padC a09 (padN (a0a (pv 4)) (padK (a0P H_law_number (hr.mono (by first | decide | omega)) rfl (padN (a0a (pv 0)) (padB (a0v (a0n rfl) (a0a (pv 1)) a0d) a0g))) a0g)))))))))))))))))
theorem a1Z : FnScope a68 a2t (defScope a13) := ⟨rfl, rfl, rfl, by decide +kernel, rfl, by decide +kernel, by decide +kernel⟩
theorem a6i (L : Laid K mg "_law_due" a13 a2t) (Z : Blt mg) (H_law_cells : FnN P w K mg base (Γc K cls) 1 "_law_cells" a1s a0p) : FnN P w K mg base (Γc K cls) 2 "_law_due" a2t a01 :=
  a2h (k := 1) L a1Z fun f cdv A outer s H E hr =>
 (a0f (a06 (PWD.pt (a2r (a0q a3s (a0B (ixd rfl) (a0a (pv 1)) a0d) a09) (a2d (a0q a3s (a0B (ixd rfl) (a0a (pv 1)) a0d) a09))))
 (a0l (a0w a5q))
 a0z)
 (a0f (psS (i := 3) a1Z.nd rfl (a0P H_law_cells (hr.mono (by first | decide | omega)) rfl (padN (a0a (pv 0)) (padS (a0B (ixd rfl) (a0a (pv 1)) a0d) a0g))))
 (a0f (psS (i := 4) a1Z.nd rfl (a0P H_law_cells (hr.mono (by first | decide | omega)) rfl (padN (a0a (pv 0)) (padS (a0B (ixd rfl) (a0a (pv 1)) a0d) a0g))))
 (a0f (a3p PassesOwn.never rfl (a0X rfl Z.range (a0x (a0O rfl) rfl Z.len PySem.boot_len (a0o (a0u (pv 3)) a0y))) (pbN a1Z.nd rfl)
 (a0U (i := 4) (a0f (psS (i := 6) a1Z.nd rfl (a0v (a0n rfl) (a0B (ixd rfl) (a0a (pv 2)) (a0B (ixd rfl) (a0a (pv 4)) (a0a (pv 5)))) (a0B (ixd rfl) (a0a (pv 1)) a0d)))
 (a0U (i := 3) (a0l (a06 (PWD.pt (a3O (a0q a3U (a0B (ixd rfl) (a0a (pv 2)) (a0B (ixd rfl) (a0a (pv 3)) (a0a (pv 5)))) (a0a (pv 6))) (a25 (PWD.pt (a2r (a0q a07 (a0B (ixd rfl) (a0a (pv 1)) a0d) a09) (a2d (a0q opd_lt (a0B (ixd rfl) (a0a (pv 2)) (a0B (ixd rfl) (a0a (pv 3)) (a0a (pv 5)))) (a0a (pv 6)))))))))
 (a0l (a0w a5q))
 a0z))))))
 (a0l (a0w a5q))))))
theorem a3o : FnScope a6l a15 (defScope a1G) := ⟨rfl, rfl, rfl, by decide +kernel, rfl, by decide +kernel, by decide +kernel⟩
theorem a5r (L : Laid K mg "_law_same" a1G a15) (Z : Blt mg)  : FnN P w K mg base (Γc K cls) 9 "_law_same" a15 a0Y :=
  a6v (k := 1) L a3o (fun f G j hj hG cdv A outer s H E hr =>
 (a0f (a06 (PWD.pt (a3O (a26 (a14 rfl (a3u _) rfl Z.isinstance rfl Z.tuple L3.a1T (a0a (pv 1)))) (a25 (a26 (a14 rfl (a4m _) rfl Z.isinstance rfl Z.list L3.a4x (a0a (pv 1)))))))
 (a0f (a06 (PWD.pt (a3O (a0q a3s (a14 rfl (a3u _) rfl Z.isinstance rfl Z.tuple L3.a1T (a0a (pv 0))) (a14 rfl (a3u _) rfl Z.isinstance rfl Z.tuple L3.a1T (a0a (pv 1)))) (a25 (a0q a3s (a14 rfl (a4m _) rfl Z.isinstance rfl Z.list L3.a4x (a0a (pv 0))) (a14 rfl (a4m _) rfl Z.isinstance rfl Z.list L3.a4x (a0a (pv 1)))))))
 (a0l (a0w a5q))
 a0z)
 (a0l (a0w (a4L (a3S a07 (a0x (a0O rfl) rfl Z.len PySem.boot_len (a0o (a0u (pv 0)) a0y)) (a0x (a0O rfl) rfl Z.len PySem.boot_len (a0o (a0u (pv 1)) a0y))) (a5U (a3T (a7s rfl rfl) rfl Z.all L3.a7y (a0V (a2e (js := [2, 3]) (vars := [".0", "_law_one", "_law_other"]) (a4A [2, 3]) (by rfl) (by rfl) rfl (pid_zip rfl rfl Z.zip (a0a (pv 0)) (a0a (pv 1))) (fun _ _ _ _ => (a3j rfl rfl a3o.nd rfl rfl (by first | exact Or.inl rfl | exact Or.inr rfl) (by first | exact Or.inl rfl | exact Or.inr rfl))) (fun _ _ _ _ => (a0P hG hr rfl (padN (a0a (pv 2)) (padN (a0a (pv 3)) a0g))))) a0g)))))))
 a0z)
 (a0f (a06 (PWD.pt (a3O (a26 (a14 rfl (a3k _) rfl Z.isinstance rfl Z.bool L3.a4y (a0a (pv 1)))) (a25 (a26 (a14 rfl (a3k _) rfl Z.isinstance rfl Z.bool L3.a4y (a0a (pv 0)))))))
 (a0l (a0w (a4L (a14 rfl (a3k _) rfl Z.isinstance rfl Z.bool L3.a4y (a0a (pv 1))) (a4L (a14 rfl (a3k _) rfl Z.isinstance rfl Z.bool L3.a4y (a0a (pv 0))) (a5U (a3S a07 (a0a (pv 0)) (a0a (pv 1))))))))
 a0z)
 (a0f (a06 (a26 (a14 rfl (a7g _) rfl Z.isinstance rfl Z.int L3.bt_int (a0a (pv 1))))
 (a0l (a0w (a4L (a14 rfl (a7g _) rfl Z.isinstance rfl Z.int L3.bt_int (a0a (pv 0))) (a5U (a3S a07 (a0a (pv 0)) (a0a (pv 1)))))))
 a0z)
 (a0f (a06 (ptd_isN (a0a (pv 1)))
 (a0l (a0w (pd_isN (a0a (pv 0)))))
 a0z)
 (a0l (a0w (a4L (a14 rfl (kit_str _) rfl Z.isinstance rfl Z.str L3.bt_str (a0a (pv 0))) (a5U (a3S a07 (a0a (pv 0)) (a0a (pv 1)))))))))))) 8
theorem a1k : FnScope a4W a1x (defScope a1f) := ⟨rfl, rfl, rfl, by decide +kernel, rfl, by decide +kernel, by decide +kernel⟩
theorem a4g (L : Laid K mg "_law_values" a1f a1x) (Z : Blt mg) (H_law_draw : FnN P w K mg base (Γc K cls) 1 "_law_draw" a04 a0c) (H_law_number : FnN P w K mg base (Γc K cls) 2 "_law_number" a0S a0j) : FnN P w K mg base (Γc K cls) 3 "_law_values" a1x a1i :=
  a2h (k := 2) L a1k fun f cdv A outer s H E hr =>
 (a0f (psS (i := 3) a1k.nd rfl (a3R a0g))
 (a0f (a3p PassesOwn.never rfl (a0X rfl Z.range (a0a (pv 2))) (pbN a1k.nd rfl)
 (a0f (psS (i := 5) a1k.nd rfl (a0P H_law_number (hr.mono (by first | decide | omega)) rfl (padN (a0a (pv 0)) (padB (a0v (a0n rfl) (a0a (pv 1)) (a0v a1N a0d (a0a (pv 4)))) a0g))))
 (a0f (a06 (a0q a07 (a0P H_law_draw (hr.mono (by first | decide | omega)) rfl (padN (a0a (pv 0)) (padB (a0v (a0n rfl) (a0v (a0n rfl) (a0a (pv 1)) (a0v a1N a0d (a0a (pv 4)))) a0d) (padC a0d a0g)))) a0d)
 (a0l (psS (i := 5) a1k.nd rfl (a0v (a0n rfl) (a0v a1N (a0a (pv 5)) a0d) a0d)))
 a0z)
 (a0l (a3P (i := 3) (pv 3) (a0a (pv 5)))))))
 (a0U (i := 3) (a0l (a0w (a6f (a2Y rfl) rfl Z.tuple L3.a1T (padN (a0a (pv 3)) a0g)))))))
theorem a6b : FnScope a67 a2s (defScope a12) := ⟨rfl, rfl, rfl, by decide +kernel, rfl, by decide +kernel, by decide +kernel⟩
theorem a6h (L : Laid K mg "size_of" a12 a2s) (Z : Blt mg)  : FnN P w K mg base (Γc K cls) 1 "size_of" a2s a2a :=
  a2h (k := 0) L a6b fun f cdv A outer s H E hr =>
 (a0l (a0w (a0x (a0O rfl) rfl Z.len PySem.boot_len (a0o (PD.look (a0B (ixd rfl) (a0B (ixd rfl) (a0a (pv 0)) (a0a (pv 1))) a0d)) a0y))))
theorem a2J : FnScope a6o a17 (defScope a1J) := ⟨rfl, rfl, rfl, by decide +kernel, rfl, by decide +kernel, by decide +kernel⟩
theorem a5u (L : Laid K mg "cells_of" a1J a17) (Z : Blt mg) (H_size_of : FnN P w K mg base (Γc K cls) 1 "size_of" a2s a2a) : FnN P w K mg base (Γc K cls) 2 "cells_of" a17 a2b :=
  a2h (k := 1) L a2J fun f cdv A outer s H E hr =>
 (a0f (psS (i := 2) a2J.nd rfl (a3T (a7r rfl rfl) rfl Z.sum L3.a7x (a0V (a2e (js := [3]) (vars := [".0", "k"]) (a1o 3) (by rfl) (by rfl) rfl (a0X rfl Z.range (a0a (pv 1))) (fun _ _ _ _ => (pbN a2J.nd rfl)) (fun _ _ _ _ => (a0P H_size_of (hr.mono (by first | decide | omega)) rfl (padN (a0a (pv 0)) (padN (a0a (pv 3)) a0g))))) a0g)))
 (a0l (a0w (a4K rfl rfl Z.list rfl Z.range (a0a (pv 2)) (a0v (a0n rfl) (a0a (pv 2)) (a0P H_size_of (hr.mono (by first | decide | omega)) rfl (padN (a0a (pv 0)) (padN (a0a (pv 1)) a0g))))))))
theorem a2c : FnScope a4V a1w (defScope a0s) := ⟨rfl, rfl, rfl, by decide +kernel, rfl, by decide +kernel, by decide +kernel⟩
theorem sl_lam0 : a2m n_lam0 lam0 := a4l rfl rfl rfl (by decide +kernel) rfl (by decide +kernel) (by decide +kernel) (by decide +kernel)
theorem ok_lam0 (Z : Blt mg) : a3K P w K mg base (Γc K cls) 1 0 f_lam0 :=
  a7f (j := 0) (N := n_lam0) (L := lam0) sl_lam0 (fun _ _ _ _ _ => rfl) (a5F rfl) a5E fun A outer s H f c clos hr =>
 a5q
theorem a6U : a2m n_lam1 lam1 := a4l rfl rfl rfl (by decide +kernel) rfl (by decide +kernel) (by decide +kernel) (by decide +kernel)
theorem ok_lam1 (Z : Blt mg) : a3K P w K mg base (Γc K cls) 1 1 a7l :=
  a7f (j := 0) (N := n_lam1) (L := lam1) a6U (fun _ _ _ _ _ => rfl) (a5F rfl) a5E fun A outer s H f c clos hr =>
 (a3T (a7s rfl rfl) rfl Z.all L3.a7y (a0V (a2e (js := [3, 4]) (vars := [".0", "a", "b"]) (a4A [3, 4]) (by rfl) (by rfl) rfl (a3q rfl (a0a (pv 2))) (fun _ _ _ _ => (a3j rfl rfl a6U.nd rfl rfl (by first | exact Or.inl rfl | exact Or.inr rfl) (by first | exact Or.inl rfl | exact Or.inr rfl))) (fun _ _ _ _ => (a3S a07 (a0B (ixd rfl) (a0a (pv 0)) (a0a (pv 3))) (a0v (a0n rfl) (a0B (ixd rfl) (a0a (pv 0)) (a0a (pv 4))) (a0a (pv 1)))))) a0g))
theorem a6T : a2m n_lam2 lam2 := a4l rfl rfl rfl (by decide +kernel) rfl (by decide +kernel) (by decide +kernel) (by decide +kernel)
theorem ok_lam2 (Z : Blt mg) : a3K P w K mg base (Γc K cls) 1 2 a7k :=
  a7f (j := 0) (N := n_lam2) (L := lam2) a6T (fun _ _ _ _ _ => rfl) (a5F rfl) a5E fun A outer s H f c clos hr =>
 (a3T (a7s rfl rfl) rfl Z.all L3.a7y (a0V (a2e (js := [3, 4]) (vars := [".0", "a", "b"]) (a4A [3, 4]) (by rfl) (by rfl) rfl (a3q rfl (a0a (pv 2))) (fun _ _ _ _ => (a3j rfl rfl a6T.nd rfl rfl (by first | exact Or.inl rfl | exact Or.inr rfl) (by first | exact Or.inl rfl | exact Or.inr rfl))) (fun _ _ _ _ => (a3S opd_le (a0B (ixd rfl) (a0a (pv 0)) (a0a (pv 3))) (a0v (a0n rfl) (a0B (ixd rfl) (a0a (pv 0)) (a0a (pv 4))) (a0a (pv 1)))))) a0g))
theorem ok_lams (Z : Blt mg) : ∀ k F, tbL k = some F → a3K P w K mg base (Γc K cls) 1 k F := fun k F e => by
  unfold tbL at e
  split at e
  · cases e; exact ok_lam0 Z
  · cases e; exact ok_lam1 Z
  · cases e; exact ok_lam2 Z
  · cases e
theorem fv_lams : ∀ k L, lams k = some L → L.fv.Nodup ∧ ∀ y ∈ L.fv, (defScope a0s).names.lookup y = some .cell := fun k L e => by
  unfold lams at e
  split at e
  · cases e; exact ⟨by decide +kernel, by decide +kernel⟩
  · cases e; exact ⟨by decide +kernel, by decide +kernel⟩
  · cases e; exact ⟨by decide +kernel, by decide +kernel⟩
  · cases e
theorem a4f (L : LaidC K mg "promise_of" a0s a1w CC) (hC : PySem.W.CodeHd base CC PT) (hB : BltM mg base) (Z : Blt mg) (H_cells_of : FnN P w K mg base (Γc K cls) 2 "cells_of" a17 a2b) : FnN P w K mg base (Γc K cls) 3 "promise_of" a1w a0T :=
  fn_laidC (k := 2) L a2c fv_lams fun f A outer s H E hr =>
 (prd_if (a0q (a65 rfl) (a0B (ixd rfl) (a0a (pv 1)) a0d) (a1S (padC a09 (padC a09 a0g))) (by with_unfolding_all rfl))
 (a5o (L := lam0) (P := PT) (cc := CC) (good := good) rfl rfl (show ∀ y ∈ lam0.fv, (defScope a0s).names.lookup y = some .cell from by decide +kernel) a7o a3w hC rfl hB (show ("promise_of" : Str) ++ ".<locals>." ++ "<lambda>" = lam0.qual from by decide +kernel) rfl rfl rfl)
 (a63 (psS (i := 2) a2c.nd rfl (a6g rfl rfl rfl Z.list rfl Z.zip (a0P H_cells_of (hr.mono (by first | decide | omega)) rfl (padN (a0a (pv 0)) (padS (a0B (ixd rfl) (a0a (pv 1)) a0d) a0g))) (a0P H_cells_of (hr.mono (by first | decide | omega)) rfl (padN (a0a (pv 0)) (padS (a0B (ixd rfl) (a0a (pv 1)) a0d) a0g)))))
 (a63 (psS (i := 3) a2c.nd rfl (a0B (ixd rfl) (a0a (pv 1)) a0d))
 (prd_if (a0q a07 (a0B (ixd rfl) (a0a (pv 1)) a0d) a09)
 (a5o (L := lam1) (P := PT) (cc := CC) (good := good) rfl rfl (show ∀ y ∈ lam1.fv, (defScope a0s).names.lookup y = some .cell from by decide +kernel) a7o a3w hC rfl hB (show ("promise_of" : Str) ++ ".<locals>." ++ "<lambda>" = lam1.qual from by decide +kernel) rfl rfl rfl)
 (a5o (L := lam2) (P := PT) (cc := CC) (good := good) rfl rfl (show ∀ y ∈ lam2.fv, (defScope a0s).names.lookup y = some .cell from by decide +kernel) a7o a3w hC rfl hB (show ("promise_of" : Str) ++ ".<locals>." ++ "<lambda>" = lam2.qual from by decide +kernel) rfl rfl rfl)))))
theorem a1v : FnScope n_law p_law (defScope a5g) := ⟨rfl, rfl, rfl, by decide +kernel, rfl, by decide +kernel, by decide +kernel⟩
theorem ok_law {f : Addr} {fd : FuncData} (L : Fun K "law" "law" a5g f fd) (Z : Blt mg) (H_law_boxes : FnN P w K mg base (Γc K cls) 3 "_law_boxes" a1M a1P) (H_law_cells : FnN P w K mg base (Γc K cls) 1 "_law_cells" a1s a0p) (H_law_deed : FnN P w K mg base (Γc K cls) 3 "_law_deed" a16 a2B) (H_law_draw : FnN P w K mg base (Γc K cls) 1 "_law_draw" a04 a0c) (H_law_due : FnN P w K mg base (Γc K cls) 2 "_law_due" a2t a01) (H_law_number : FnN P w K mg base (Γc K cls) 2 "_law_number" a0S a0j) (H_law_same : FnN P w K mg base (Γc K cls) 9 "_law_same" a15 a0Y) (H_law_values : FnN P w K mg base (Γc K cls) 3 "_law_values" a1x a1i) (H_promise_of : FnN P w K mg base (Γc K cls) 3 "promise_of" a1w a0T) (H_lams : ∀ k F, tbL k = some F → a3K P w K mg base (Γc K cls) 1 k F) : FnOk P w K mg base CX0 10 f fd p_law (spD (Γc K cls) W0 f_law) :=
  fn_D (k := 9) L a1v fun cdv A outer s H E hr =>
 (a0f (psS (i := 1) a1v.nd rfl (a0P H_law_boxes (hr.mono (by first | decide | omega)) rfl (padN (a0a (pv 0)) (padC a0d (padB (a0v (a0n rfl) a0d (a0P H_law_draw (hr.mono (by first | decide | omega)) rfl (padN (a0a (pv 0)) (padC a0d (padC a0d a0g))))) a0g)))))
 (a0f (psS (i := 2) a1v.nd rfl (a0P H_law_deed (hr.mono (by first | decide | omega)) rfl (padN (a0a (pv 0)) (padC a0d (padN (a0a (pv 1)) a0g)))))
 (a0f (a06 (a0q a3U (a0P H_law_draw (hr.mono (by first | decide | omega)) rfl (padN (a0a (pv 0)) (padC a0d (padC a0d a0g)))) a0d)
 (a0f (psS (i := 8) a1v.nd rfl (a0P H_law_draw (hr.mono (by first | decide | omega)) rfl (padN (a0a (pv 0)) (padC a0d (padK (a0x (a0O rfl) rfl Z.len PySem.boot_len (a0o (a0u (pv 1)) a0y)) a0g)))))
 (a0f (a27 (i := 7) a1v.nd rfl (by first | exact Or.inl rfl | exact Or.inr rfl) (js := [9]) (vars := [".0", "_law_y"]) (a1o 9) (by rfl) (by rfl) rfl (a0X rfl Z.range (a0x (a0O rfl) rfl Z.len PySem.boot_len (a0o (a0u (pv 1)) a0y))) (fun _ _ _ _ => (pbN a1v.nd rfl)) (fun _ _ _ _ => (a0q a07 (a0x (a0O rfl) rfl Z.len PySem.boot_len (a0o (PD.look (a0B (ixd rfl) (a0B (ixd rfl) (a0a (pv 1)) (a0a (pv 9))) a0d)) a0y)) (a0x (a0O rfl) rfl Z.len PySem.boot_len (a0o (PD.look (a0B (ixd rfl) (a0B (ixd rfl) (a0a (pv 1)) (a0a (pv 8))) a0d)) a0y)))) (fun _ _ _ _ => (a0a (pv 9))))
 (a0U (i := 7) (a0f (psS (i := 9) a1v.nd rfl (a0B (ixd rfl) (a0a (pv 7)) (a0P H_law_draw (hr.mono (by first | decide | omega)) rfl (padN (a0a (pv 0)) (padC a0d (padK (a0x (a0O rfl) rfl Z.len PySem.boot_len (a0o (a0u (pv 7)) a0y)) a0g))))))
 (a0l (psS (i := 2) a1v.nd rfl (a1S (padS (a0B (ixd rfl) (a3R (padC a09 (padC a09 a0g))) (a0P H_law_draw (hr.mono (by first | decide | omega)) rfl (padN (a0a (pv 0)) (padC a0d (padC a0d a0g))))) (padN (a0a (pv 8)) (padN (a0a (pv 9)) (padK (a0P H_law_number (hr.mono (by first | decide | omega)) rfl (padN (a0a (pv 0)) (padC a0d a0g))) a0g)))))))))))
 a0z)
 (a0f (psS (i := 3) a1v.nd rfl (a6f (cd_list rfl) rfl Z.list L3.a4x (padK (a0P H_law_values (hr.mono (by first | decide | omega)) rfl (padN (a0a (pv 0)) (padC a0d (padK (a3T (a7r rfl rfl) rfl Z.sum L3.a7x (a0V (a2e (js := [12]) (vars := [".0", "_law_box"]) (a1o 12) (by rfl) (by rfl) rfl (a3q rfl (a0a (pv 1))) (fun _ _ _ _ => (pbN a1v.nd rfl)) (fun _ _ _ _ => (a0x (a0O rfl) rfl Z.len PySem.boot_len (a0o (PD.look (a0B (ixd rfl) (a0a (pv 12)) a0d)) a0y)))) a0g)) a0g)))) a0g)))
 (a0f (a06 (PWD.pt (a3O (a0q a07 (a0B (ixd rfl) (a0a (pv 2)) a0d) a09) (a25 (a0q a07 (a0B (ixd rfl) (a0a (pv 2)) a0d) a09))))
 (a0f (psS (i := 10) a1v.nd rfl (a0P H_law_cells (hr.mono (by first | decide | omega)) rfl (padN (a0a (pv 1)) (padS (a0B (ixd rfl) (a0a (pv 2)) a0d) a0g))))
 (a0l (a3p PassesOwn.never rfl (pid_enum rfl rfl Z.enumerate (a0P H_law_cells (hr.mono (by first | decide | omega)) rfl (padN (a0a (pv 1)) (padS (a0B (ixd rfl) (a0a (pv 2)) a0d) a0g)))) (a3j rfl rfl a1v.nd rfl rfl (by first | exact Or.inl rfl | exact Or.inr rfl) (by first | exact Or.inl rfl | exact Or.inr rfl))
 (a0U (i := 10) (a0l (a5m (i := 3) (pv 3) (a0a (pv 4)) (a0v (a0n rfl) (a0v (a0n rfl) (pd_ixB rfl (a0u (pv 3)) (PD.look (a0B (ixd rfl) (a0a (pv 10)) (a0a (pv 11))))) (a0B (ixd rfl) (a0a (pv 2)) a0d)) (a0B (ixd rfl) (a3R (padC a0d (padC a0d (padC a0d (padC a0d (padU pd_neg a0g)))))) (a0P H_law_draw (hr.mono (by first | decide | omega)) rfl (padN (a0a (pv 0)) (padB (a0v (a0n rfl) a0d (a0a (pv 11))) (padC a0d a0g))))))))))))
 a0z)
 (a0U (i := 3) (a0f (psS (i := 3) a1v.nd rfl (a6f (a2Y rfl) rfl Z.tuple L3.a1T (padN (a0a (pv 3)) a0g)))
 (a0f (psS (i := 4) a1v.nd rfl (a0P H_law_draw (hr.mono (by first | decide | omega)) rfl (padN (a0a (pv 0)) (padC a0d (padK (a0x (a0O rfl) rfl Z.len PySem.boot_len (a0o (a0u (pv 3)) a0y)) a0g)))))
 (a0U (i := 3) (a0f (psS (i := 5) a1v.nd rfl (a0v (a0n rfl) (a0v (a0n rfl) (a4d rfl (a0a (pv 3)) a4c (a4b (a0a (pv 4)))) (a1S (padB (a0v a3r (a0v (a0n rfl) (a0B (ixd rfl) (a0a (pv 3)) (a0a (pv 4))) (a0v a1N a0d (a0P H_law_draw (hr.mono (by first | decide | omega)) rfl (padN (a0a (pv 0)) (padC a0d (padC a0d a0g)))))) a0d) a0g))) (a4d rfl (a0a (pv 3)) (a4b (a0v (a0n rfl) (a0a (pv 4)) a0d)) a4c)))
 (a0f (psS (i := 6) a1v.nd rfl (a0P H_promise_of (hr.mono (by first | decide | omega)) rfl (padN (a0a (pv 1)) (padN (a0a (pv 2)) a0g))))
 (a0U (i := 5) (a0U (i := 3) (a0f (a3p PassesOwn.never rfl (a3q rfl (a1S (padN (a0a (pv 3)) (padN (a0a (pv 5)) (padN (a0a (pv 3)) a0g))))) (pbN a1v.nd rfl)
 (a0U (i := 7) (a0l (a06 (ptd_not (a26 (a0P H_law_same (hr.mono (by first | decide | omega)) rfl (padK (pd_callC (T := tbL) (fun k F e => ⟨1, hr.mono (by first | decide | omega), H_lams k F e⟩) (pv 6) (a0V (a0a (pv 7)) a0g)) (padK (a0P H_law_due (hr.mono (by first | decide | omega)) rfl (padN (a0a (pv 1)) (padN (a0a (pv 2)) (padN (a0a (pv 7)) a0g)))) a0g)))))
 (a0l (a0w a5q))
 a0z))))
 (a0l (a0w a5q))))))))))))))))
theorem ok_all (T : Defs K mg cls) (hC : PySem.W.CodeHd base CC PT) (hB : BltM mg base) (Z : Blt mg) {f : Addr} {fd : FuncData} (L : Fun K "law" "law" a5g f fd) : FnOk P w K mg base CX0 10 f fd p_law (spD (Γc K cls) W0 f_law) := by
  have h_lams := @ok_lams P w K mg base cls Z
  have h_law_draw := @a5s P w K mg base cls T.L_law_draw Z
  have h_law_number := @a4h P w K mg base cls T.L_law_number Z h_law_draw
  have h_law_boxes := @a4Q P w K mg base cls T.L_law_boxes Z h_law_draw h_law_number
  have h_law_cells := @a4P P w K mg base cls T.L_law_cells Z
  have h_law_deed := @a5t P w K mg base cls T.L_law_deed Z h_law_draw h_law_number
  have h_law_due := @a6i P w K mg base cls T.L_law_due Z h_law_cells
  have h_law_same := @a5r P w K mg base cls T.L_law_same Z
  have h_law_values := @a4g P w K mg base cls T.L_law_values Z h_law_draw h_law_number
  have h_size_of := @a6h P w K mg base cls T.L_size_of Z
  have h_cells_of := @a5u P w K mg base cls T.L_cells_of Z h_size_of
  have h_promise_of := @a4f P w K mg base cls T.L_promise_of hC hB Z h_cells_of
  exact ok_law L Z h_law_boxes h_law_cells h_law_deed h_law_draw h_law_due h_law_number h_law_same h_law_values h_promise_of h_lams
end
unseal PySem.wpAny
theorem walk {l : PySem.W.OpenLaw} {q : Program} {loose : List Str} {XP : (Str → Option Value) → Heap → Prop} {YP : World → Heap → Prop} {d : DefRec} {K : Params → PySem.W.Frag} (T : ∀ ns : List Int, ns.length ≤ 63 → f_law [.lst (ns.map D.int)] = some (.ok (.sh (.bl true)))) {dP : DefRec} (hrec : (recsOf q).find? (fun e => e.name == ("promise_of" : Str)) = some dP) (htab : ∀ w : World, PySem.W.tabIn (K w.params) "promise_of" = some (CC, PT)) (hno : ∀ w : World, PySem.W.noTabs (K w.params) = true) (hn : l.most = some 63) (hdf : d.params.defaults = []) (hdn : d.name = "law")
    (hY : ∀ (w : World) (h : Heap), YP w h → (K w.params).In h) (F : ∀ (w : World) (mg : Str → Option Value) (h : Heap), (K w.params).In h → h.Ns mainGlobals mg → (∃ cls, Defs (K w.params) mg cls) ∧ Blt mg) : PySem.W.WalkO q loose XP YP l.row.toRowW d [] (fun f vs => PySem.call f vs) :=
  a7d (y := "promise_of") (cc := CC) (PT := PT) (good := good) (k := 10) (x := "_law_script") (by decide) hn hdf hrec htab hno hY fun w mg fa h KX G hm => by
    obtain ⟨⟨cls, T1⟩, Z⟩ := F w mg h KX G
    obtain ⟨f, fd, Fl, hm2, _⟩ := T1.L_law.ex
    rw [hdn, hm2] at hm
    cases hm
    obtain ⟨oc, od, kV, doc, pm, an, cdv, ct, osl, e, _⟩ := id Fl.ex
    exact ⟨fd, fun s u => by rw [e]; exact .of_eq rfl, fun base hC hB => law_spT (ok_all (cls := cls) T1 hC hB Z Fl) rfl rfl T⟩
set_option maxHeartbeats 0 in
theorem defs_mk {K : PySem.W.Frag} {h : Heap} {mg : Str → Option Value} (X : K.In h) (G : h.Ns mainGlobals mg)
    {g0 : Addr} {oc0 : Value} {od0 an0 : Option Addr} {sl0 : Array (Option Value)} {kV0 dc0 pm0 cd0 ct0 : Value}
    {g1 : Addr} {oc1 : Value} {od1 an1 : Option Addr} {sl1 : Array (Option Value)} {kV1 dc1 pm1 cd1 ct1 : Value}
    {g2 : Addr} {oc2 : Value} {od2 an2 : Option Addr} {sl2 : Array (Option Value)} {kV2 dc2 pm2 cd2 ct2 : Value}
    {g3 : Addr} {oc3 : Value} {od3 an3 : Option Addr} {sl3 : Array (Option Value)} {kV3 dc3 pm3 cd3 ct3 : Value}
    {g4 : Addr} {oc4 : Value} {od4 an4 : Option Addr} {sl4 : Array (Option Value)} {kV4 dc4 pm4 cd4 ct4 : Value}
    {g5 : Addr} {oc5 : Value} {od5 an5 : Option Addr} {sl5 : Array (Option Value)} {kV5 dc5 pm5 cd5 ct5 : Value}
    {g6 : Addr} {oc6 : Value} {od6 an6 : Option Addr} {sl6 : Array (Option Value)} {kV6 dc6 pm6 cd6 ct6 : Value}
    {g7 : Addr} {oc7 : Value} {od7 an7 : Option Addr} {sl7 : Array (Option Value)} {kV7 dc7 pm7 cd7 ct7 : Value}
    {g8 : Addr} {oc8 : Value} {od8 an8 : Option Addr} {sl8 : Array (Option Value)} {kV8 dc8 pm8 cd8 ct8 : Value}
    {g9 : Addr} {oc9 : Value} {od9 an9 : Option Addr} {sl9 : Array (Option Value)} {kV9 dc9 pm9 cd9 ct9 : Value}
    {g10 : Addr} {oc10 : Value} {od10 an10 : Option Addr} {sl10 : Array (Option Value)} {kV10 dc10 pm10 ct10 : Value}
    {g11 : Addr} {oc11 : Value} {od11 an11 : Option Addr} {sl11 : Array (Option Value)} {kV11 dc11 pm11 cd11 ct11 : Value}
    (a0 : PySem.W.nsIn K mainGlobals "_law_draw" = some (some (.ref g0)))
    (l0 : K.lookup g0 = some ⟨oc0, od0, .func (PySem.W.fnOf "_law_draw" "_law_draw" (defArgs a1H) (defBody a1H) (defScope a1H) .none kV0 dc0 pm0 an0 cd0 ct0), sl0⟩)
    (c0 : PySem.W.codeIn K cd0 "_law_draw" = true)
    (k0 : PySem.W.keepIn K (.ref g0) = true)
    (a1 : PySem.W.nsIn K mainGlobals "_law_number" = some (some (.ref g1)))
    (l1 : K.lookup g1 = some ⟨oc1, od1, .func (PySem.W.fnOf "_law_number" "_law_number" (defArgs a1g) (defBody a1g) (defScope a1g) .none kV1 dc1 pm1 an1 cd1 ct1), sl1⟩)
    (c1 : PySem.W.codeIn K cd1 "_law_number" = true)
    (k1 : PySem.W.keepIn K (.ref g1) = true)
    (a2 : PySem.W.nsIn K mainGlobals "_law_boxes" = some (some (.ref g2)))
    (l2 : K.lookup g2 = some ⟨oc2, od2, .func (PySem.W.fnOf "_law_boxes" "_law_boxes" (defArgs a1r) (defBody a1r) (defScope a1r) .none kV2 dc2 pm2 an2 cd2 ct2), sl2⟩)
    (c2 : PySem.W.codeIn K cd2 "_law_boxes" = true)
    (k2 : PySem.W.keepIn K (.ref g2) = true)
    (a3 : PySem.W.nsIn K mainGlobals "_law_cells" = some (some (.ref g3)))
    (l3 : K.lookup g3 = some ⟨oc3, od3, .func (PySem.W.fnOf "_law_cells" "_law_cells" (defArgs a1q) (defBody a1q) (defScope a1q) .none kV3 dc3 pm3 an3 cd3 ct3), sl3⟩)
    (c3 : PySem.W.codeIn K cd3 "_law_cells" = true)
    (k3 : PySem.W.keepIn K (.ref g3) = true)
    (a4 : PySem.W.nsIn K mainGlobals "_law_deed" = some (some (.ref g4)))
    (l4 : K.lookup g4 = some ⟨oc4, od4, .func (PySem.W.fnOf "_law_deed" "_law_deed" (defArgs a1I) (defBody a1I) (defScope a1I) .none kV4 dc4 pm4 an4 cd4 ct4), sl4⟩)
    (c4 : PySem.W.codeIn K cd4 "_law_deed" = true)
    (k4 : PySem.W.keepIn K (.ref g4) = true)
    (a5 : PySem.W.nsIn K mainGlobals "_law_due" = some (some (.ref g5)))
    (l5 : K.lookup g5 = some ⟨oc5, od5, .func (PySem.W.fnOf "_law_due" "_law_due" (defArgs a13) (defBody a13) (defScope a13) .none kV5 dc5 pm5 an5 cd5 ct5), sl5⟩)
    (c5 : PySem.W.codeIn K cd5 "_law_due" = true)
    (k5 : PySem.W.keepIn K (.ref g5) = true)
    (a6 : PySem.W.nsIn K mainGlobals "_law_same" = some (some (.ref g6)))
    (l6 : K.lookup g6 = some ⟨oc6, od6, .func (PySem.W.fnOf "_law_same" "_law_same" (defArgs a1G) (defBody a1G) (defScope a1G) .none kV6 dc6 pm6 an6 cd6 ct6), sl6⟩)
    (c6 : PySem.W.codeIn K cd6 "_law_same" = true)
    (k6 : PySem.W.keepIn K (.ref g6) = true)
    (a7 : PySem.W.nsIn K mainGlobals "_law_values" = some (some (.ref g7)))
    (l7 : K.lookup g7 = some ⟨oc7, od7, .func (PySem.W.fnOf "_law_values" "_law_values" (defArgs a1f) (defBody a1f) (defScope a1f) .none kV7 dc7 pm7 an7 cd7 ct7), sl7⟩)
    (c7 : PySem.W.codeIn K cd7 "_law_values" = true)
    (k7 : PySem.W.keepIn K (.ref g7) = true)
    (a8 : PySem.W.nsIn K mainGlobals "size_of" = some (some (.ref g8)))
    (l8 : K.lookup g8 = some ⟨oc8, od8, .func (PySem.W.fnOf "size_of" "size_of" (defArgs a12) (defBody a12) (defScope a12) .none kV8 dc8 pm8 an8 cd8 ct8), sl8⟩)
    (c8 : PySem.W.codeIn K cd8 "size_of" = true)
    (k8 : PySem.W.keepIn K (.ref g8) = true)
    (a9 : PySem.W.nsIn K mainGlobals "cells_of" = some (some (.ref g9)))
    (l9 : K.lookup g9 = some ⟨oc9, od9, .func (PySem.W.fnOf "cells_of" "cells_of" (defArgs a1J) (defBody a1J) (defScope a1J) .none kV9 dc9 pm9 an9 cd9 ct9), sl9⟩)
    (c9 : PySem.W.codeIn K cd9 "cells_of" = true)
    (k9 : PySem.W.keepIn K (.ref g9) = true)
    (a10 : PySem.W.nsIn K mainGlobals "promise_of" = some (some (.ref g10)))
    (l10 : K.lookup g10 = some ⟨oc10, od10, .func (PySem.W.fnOf "promise_of" "promise_of" (defArgs a0s) (defBody a0s) (defScope a0s) .none kV10 dc10 pm10 an10 (.ref CC) ct10), sl10⟩)
    (c10 : PySem.W.codeIn K (.ref CC) "promise_of" = true)
    (k10 : PySem.W.keepIn K (.ref g10) = true)
    (a11 : PySem.W.nsIn K mainGlobals "law" = some (some (.ref g11)))
    (l11 : K.lookup g11 = some ⟨oc11, od11, .func (PySem.W.fnOf "law" "law" (defArgs a5g) (defBody a5g) (defScope a5g) .none kV11 dc11 pm11 an11 cd11 ct11), sl11⟩)
    (c11 : PySem.W.codeIn K cd11 "law" = true)
    (k11 : PySem.W.keepIn K (.ref g11) = true)
    (z_all : PySem.W.nsIn K mainGlobals "all" = some none)
    (z_bool : PySem.W.nsIn K mainGlobals "bool" = some none)
    (z_enumerate : PySem.W.nsIn K mainGlobals "enumerate" = some none)
    (z_int : PySem.W.nsIn K mainGlobals "int" = some none)
    (z_isinstance : PySem.W.nsIn K mainGlobals "isinstance" = some none)
    (z_len : PySem.W.nsIn K mainGlobals "len" = some none)
    (z_list : PySem.W.nsIn K mainGlobals "list" = some none)
    (z_range : PySem.W.nsIn K mainGlobals "range" = some none)
    (z_str : PySem.W.nsIn K mainGlobals "str" = some none)
    (z_sum : PySem.W.nsIn K mainGlobals "sum" = some none)
    (z_tuple : PySem.W.nsIn K mainGlobals "tuple" = some none)
    (z_zip : PySem.W.nsIn K mainGlobals "zip" = some none) :
    (∃ cls, Defs K mg cls) ∧ Blt mg := by
  let cls : String → Addr := fun _ => 0
  exact ⟨⟨cls, ⟨a1O X G a0 l0 c0 k0 fun _ _ _ _ _ _ us hl => match us, hl with | [_, _, _], _ => rfl,
    a1O X G a1 l1 c1 k1 fun _ _ _ _ _ _ us hl => match us, hl with | [_, _], _ => rfl,
    a1O X G a2 l2 c2 k2 fun _ _ _ _ _ _ us hl => match us, hl with | [_, _, _], _ => rfl,
    a1O X G a3 l3 c3 k3 fun _ _ _ _ _ _ us hl => match us, hl with | [_, _], _ => rfl,
    a1O X G a4 l4 c4 k4 fun _ _ _ _ _ _ us hl => match us, hl with | [_, _, _], _ => rfl,
    a1O X G a5 l5 c5 k5 fun _ _ _ _ _ _ us hl => match us, hl with | [_, _, _], _ => rfl,
    a1O X G a6 l6 c6 k6 fun _ _ _ _ _ _ us hl => match us, hl with | [_, _], _ => rfl,
    a1O X G a7 l7 c7 k7 fun _ _ _ _ _ _ us hl => match us, hl with | [_, _, _], _ => rfl,
    a1O X G a8 l8 c8 k8 fun _ _ _ _ _ _ us hl => match us, hl with | [_, _], _ => rfl,
    a1O X G a9 l9 c9 k9 fun _ _ _ _ _ _ us hl => match us, hl with | [_, _], _ => rfl,
    laidC_mk X G a10 l10 c10 k10 fun _ _ _ _ _ _ us hl => match us, hl with | [_, _], _ => rfl,
    a1O X G a11 l11 c11 k11 fun _ _ _ _ _ _ us hl => match us, hl with | [_], _ => rfl⟩⟩, ⟨PySem.W.mg_none_of X G z_all, PySem.W.mg_none_of X G z_bool, PySem.W.mg_none_of X G z_enumerate, PySem.W.mg_none_of X G z_int, PySem.W.mg_none_of X G z_isinstance, PySem.W.mg_none_of X G z_len, PySem.W.mg_none_of X G z_list, PySem.W.mg_none_of X G z_range, PySem.W.mg_none_of X G z_str, PySem.W.mg_none_of X G z_sum, PySem.W.mg_none_of X G z_tuple, PySem.W.mg_none_of X G z_zip⟩⟩
end Bell
def PySem.W.Fast.tw9725511748379803062 : Unit := ()
def PySem.W.Fast.tw7660186483634057091 : Unit := ()
def PySem.W.Fast.tw14896201816719824782 : Unit := ()
def PySem.W.Fast.tw9820132092157231225 : Unit := ()
def PySem.W.Fast.tw1358748694958203419 : Unit := ()
open PySem PySem.W PyProof.Rows
set_option maxRecDepth 100000 in
set_option maxHeartbeats 0 in
theorem PySem.Challenge.cw_bellnest_k05_promises_of_cells_holds : PySem.Challenge.rw_bellnest_k05_promises_of_cells.Holds := by
  w_on; o_law; k_head; (case hw => w_witness2)
  k_fill
  refine Bell.walk (l := PySem.Challenge.rw_bellnest_k05_promises_of_cells) Bell.law_true rfl (fun w => by kernel_rfl) (fun w => by kernel_rfl) rfl rfl rfl (fun w h Y => PySem.W.km_in_of Y) ?F
  case F =>
    intro w mg h KX G
    refine' Bell.defs_mk KX G ?a0 ?l0 ?c0 ?k0 ?a1 ?l1 ?c1 ?k1 ?a2 ?l2 ?c2 ?k2 ?a3 ?l3 ?c3 ?k3 ?a4 ?l4 ?c4 ?k4 ?a5 ?l5 ?c5 ?k5 ?a6 ?l6 ?c6 ?k6 ?a7 ?l7 ?c7 ?k7 ?a8 ?l8 ?c8 ?k8 ?a9 ?l9 ?c9 ?k9 ?a10 ?l10 ?c10 ?k10 ?a11 ?l11 ?c11 ?k11 ?z_all ?z_bool ?z_enumerate ?z_int ?z_isinstance ?z_len ?z_list ?z_range ?z_str ?z_sum ?z_tuple ?z_zip
    (case a0 => k_is); (case l0 => k_is); (case c0 => k_is); (case k0 => k_is); (case a1 => k_is); (case l1 => k_is)
    (case c1 => k_is); (case k1 => k_is); (case a2 => k_is); (case l2 => k_is); (case c2 => k_is); (case k2 => k_is)
    (case a3 => k_is); (case l3 => k_is); (case c3 => k_is); (case k3 => k_is); (case a4 => k_is); (case l4 => k_is)
    (case c4 => k_is); (case k4 => k_is); (case a5 => k_is); (case l5 => k_is); (case c5 => k_is); (case k5 => k_is)
    (case a6 => k_is); (case l6 => k_is); (case c6 => k_is); (case k6 => k_is); (case a7 => k_is); (case l7 => k_is)
    (case c7 => k_is); (case k7 => k_is); (case a8 => k_is); (case l8 => k_is); (case c8 => k_is); (case k8 => k_is)
    (case a9 => k_is); (case l9 => k_is); (case c9 => k_is); (case k9 => k_is); (case a10 => k_is); (case l10 => k_is)
    (case c10 => k_is); (case k10 => k_is); (case a11 => k_is); (case l11 => k_is); (case c11 => k_is); (case k11 => k_is)
    (case z_all => k_is); (case z_bool => k_is); (case z_enumerate => k_is); (case z_int => k_is); (case z_isinstance => k_is); (case z_len => k_is)
    (case z_list => k_is); (case z_range => k_is); (case z_str => k_is); (case z_sum => k_is); (case z_tuple => k_is); (case z_zip => k_is)
