import PyProof.Rows.All
import Wide.All
import OpenK.AllK
import Wide.FinOn
import Lean
import PyProof.EqAt
import PyProof.EqKinds
import PyProof.TupleCall
import PySem.Challenge.RW_tautcord_k32_bands_by_elimination
set_option Elab.async false
set_option linter.all false
set_option maxRecDepth 100000
namespace L2
open PySem PySem.Spec PyProof.Rows

noncomputable abbrev Key := Sum Int Str
noncomputable def keyIs : Key → Value → Bool
  | .inl k, v => Value.isInt k v
  | .inr x, v => Value.isStrOf x v
noncomputable def keyH (w : World) : Key → Int
  | .inl k => hashInt k
  | .inr x => hashStr w x
theorem keyIs_shape : ∀ {k : Key} {v : Value}, keyIs k v = true → (∃ i t, k = Sum.inl i ∧ v = Value.int i t) ∨ (∃ x t, k = Sum.inr x ∧ v = Value.str x t)
  | .inl i, v, h => by
    obtain ⟨t, e⟩ := Value.isInt_shape (k := i) (v := v) h
    exact .inl ⟨i, t, rfl, e⟩
  | .inr x, v, h => by
    obtain ⟨t, e⟩ := Value.isStrOf_shape (x := x) (v := v) h
    exact .inr ⟨x, t, rfl, e⟩
theorem keyIs_int (i : Int) (t : Tok) : keyIs (.inl i) (.int i t) = true := by simp [keyIs, Value.isInt]
theorem keyIs_str (x : Str) (t : Tok) : keyIs (.inr x) (.str x t) = true := by simp [keyIs, Value.isStrOf]
theorem key_ll (a b : Int) : decide ((Sum.inl a : Key) = Sum.inl b) = (a == b) := by
  by_cases e : a = b
  · subst e; simp
  · have h : ¬ (Sum.inl a : Key) = Sum.inl b := fun q => e (Sum.inl.inj q)
    rw [decide_eq_false h]
    exact (beq_eq_false_iff_ne.mpr e).symm
theorem key_rr (a b : Str) : decide ((Sum.inr a : Key) = Sum.inr b) = decide (a = b) := by
  by_cases e : a = b
  · subst e; simp
  · have h : ¬ (Sum.inr a : Key) = Sum.inr b := fun q => e (Sum.inr.inj q)
    rw [decide_eq_false h, decide_eq_false e]
theorem key_lr (a : Int) (b : Str) : decide ((Sum.inl a : Key) = Sum.inr b) = false := decide_eq_false (fun q => nomatch q)
theorem key_rl (a : Str) (b : Int) : decide ((Sum.inr a : Key) = Sum.inl b) = false := decide_eq_false (fun q => nomatch q)

noncomputable def mixKind (prog : Program) (w : World) : PySem.KeyKind prog w Key where
  is := keyIs
  hash := keyH w
  inj := fun v a b ha hb => by
    rcases keyIs_shape ha with ⟨i, t, rfl, rfl⟩ | ⟨x, t, rfl, rfl⟩
    · rcases keyIs_shape hb with ⟨j, u, rfl, e⟩ | ⟨y, u, rfl, e⟩
      · injection e with e1 _; rw [e1]
      · exact nomatch e
    · rcases keyIs_shape hb with ⟨j, u, rfl, e⟩ | ⟨y, u, rfl, e⟩
      · exact nomatch e
      · injection e with e1 _; rw [e1]
  byValue := fun k v h => by
    rcases keyIs_shape h with ⟨i, t, rfl, rfl⟩ | ⟨x, t, rfl, rfl⟩ <;> rfl
  pyHash := fun hv h => by
    rcases keyIs_shape hv with ⟨i, t, rfl, rfl⟩ | ⟨x, t, rfl, rfl⟩
    · exact wpAny_pyHash_int h
    · exact wpAny_pyHash_str h
  eqBool := fun hu hv h => by
    rcases keyIs_shape hu with ⟨i, t, rfl, rfl⟩ | ⟨x, t, rfl, rfl⟩
    · rcases keyIs_shape hv with ⟨j, u, rfl, rfl⟩ | ⟨y, u, rfl, rfl⟩
      · rw [key_ll] at h; exact wpAny_eqBool_int h
      · rw [key_lr] at h; exact SeqAt.EqAt.int_str i t y u _ _ _ _ h
    · rcases keyIs_shape hv with ⟨j, u, rfl, rfl⟩ | ⟨y, u, rfl, rfl⟩
      · rw [key_rl] at h; exact SeqAt.EqAt.str_int x t j u _ _ _ _ h
      · rw [key_rr] at h; exact wpAny_eqBool_str h
  «strs» := fun k x t v h => by
    rcases keyIs_shape h with ⟨i, u, rfl, e⟩ | ⟨y, u, rfl, e⟩
    · exact nomatch e
    · injection e with e1 _
      subst e1
      cases v <;> rfl

theorem mixKind_int (prog : Program) (w : World) (i : Int) (t : Tok) : (mixKind prog w).is (.inl i) (.int i t) = true := keyIs_int i t
theorem mixKind_str (prog : Program) (w : World) (x : Str) (t : Tok) : (mixKind prog w).is (.inr x) (.str x t) = true := keyIs_str x t
end L2

namespace L2
open PySem PySem.Spec PyProof.Rows

inductive V where
  | non | bl (b : Bool) | int (i : Int) | str (x : Str) | byt (b : Array UInt8) | flt (b : UInt64) | ref (a : Addr) | ty (n : String)
  deriving DecidableEq

noncomputable def RelV : V → Value → Prop
  | .non, u => u = Value.none
  | .bl b, u => u = Value.bool b
  | .int i, u => ∃ t, u = Value.int i t
  | .str x, u => ∃ t, u = Value.str x t
  | .byt b, u => ∃ t, u = Value.bytes b t
  | .flt b, u => ∃ t, u = Value.float b t
  | .ref a, u => u = Value.ref a
  | .ty n, u => u = Value.type n

noncomputable abbrev Vals : List V → List Value → Prop := Paired RelV
theorem Vals.length {xs : List V} {us : List Value} (r : Vals xs us) : xs.length = us.length := Paired.length r
theorem Vals.get : ∀ {xs : List V} {us : List Value} {i : Nat} {x : V}, Vals xs us → xs[i]? = some x → ∃ u, us[i]? = some u ∧ RelV x u
  | _, _, _, _, .nil, e => by simp at e
  | _, _, 0, _, .cons r _, e => by simp at e; subst e; exact ⟨_, rfl, r⟩
  | _, _, i + 1, x, .cons _ t, e => by
    obtain ⟨u, h1, h2⟩ := Vals.get (i := i) (x := x) t (by simpa using e)
    exact ⟨u, by simpa using h1, h2⟩
theorem Vals.set {x : V} {u : Value} (r : RelV x u) : ∀ {xs : List V} {us : List Value} (i : Nat), Vals xs us → Vals (xs.set i x) (us.set i u)
  | _, _, _, .nil => .nil
  | _, _, 0, .cons _ t => .cons r t
  | _, _, i + 1, .cons q t => .cons q (Vals.set r i t)
theorem Vals.append : ∀ {xs ys : List V} {us ws : List Value}, Vals xs us → Vals ys ws → Vals (xs ++ ys) (us ++ ws)
  | _, _, _, _, .nil, s => s
  | _, _, _, _, .cons r t, s => .cons r (Vals.append t s)
theorem Vals.take : ∀ {xs : List V} {us : List Value} (n : Nat), Vals xs us → Vals (xs.take n) (us.take n)
  | _, _, 0, _ => .nil
  | _, _, _ + 1, .nil => .nil
  | _, _, n + 1, .cons r t => .cons r (Vals.take n t)
theorem Vals.drop : ∀ {xs : List V} {us : List Value} (n : Nat), Vals xs us → Vals (xs.drop n) (us.drop n)
  | _, _, 0, r => r
  | _, _, _ + 1, .nil => .nil
  | _, _, n + 1, .cons _ t => Vals.drop n t

noncomputable def RelO : Option V → Option Value → Prop
  | some v, some u => RelV v u
  | none, none => True
  | _, _ => False
noncomputable def KV {κ : Type} : List (κ × V) → List (κ × Value) → Prop := Paired fun (p : κ × V) (q : κ × Value) => p.1 = q.1 ∧ RelV p.2 q.2

noncomputable def kV : Key → V
  | .inl i => .int i
  | .inr x => .str x

inductive HO where
  | lst (xs : List V)
  | tup (xs : List V)
  | dK (kvs : List (Key × V)) | dT (kvs : List (List Key × V))
  | set (S : Int → Bool) (n : Nat)
  | ins (C dx : Addr) (fs : List (Str × V))
  | own (x : Addr)
  | xd (fs : List (Str × V))
  | met (f x : Addr)
  | rng (lo hi : Int)
  | frz (o : Obj) (u : HO)
  | tbl (ps : Array Value)
  | ext (φ : Heap → Prop)

noncomputable abbrev Hp := Addr → Option HO
noncomputable def upd (H : Hp) (a : Addr) (o : HO) : Hp := fun b => if b = a then some o else H b
theorem upd_same {H : Hp} {a : Addr} {o : HO} : upd H a o a = some o := by unfold upd; rw [if_pos rfl]
theorem upd_ne {H : Hp} {a b : Addr} {o : HO} (h : b ≠ a) : upd H a o b = H b := by unfold upd; rw [if_neg h]
theorem ne_of {H : Hp} {a b : Addr} {o u : HO} (h : H a = some o) (h' : H b = some u) (d : o ≠ u) : a ≠ b := by
  intro e; subst e; rw [h] at h'; exact d (Option.some.inj h')
theorem ne_of_none {H : Hp} {a b : Addr} {o : HO} (h : H a = some o) (h' : H b = none) : a ≠ b := by
  intro e; subst e; rw [h] at h'; cases h'

section
variable (P : Program) (w : World)
noncomputable def ObjOk (H : Hp) (h : Heap) (a : Addr) : HO → Prop
  | .lst xs => xs.length ≤ sizeLine ∧ ∃ (its : List Value) (n : Nat), Vals xs its ∧ h.get? a = some { cls := .type "list", data := .seq its.toArray n }
  | .tup xs => xs.length ≤ sizeLine ∧ ∃ its : List Value, Vals xs its ∧ IsTup h a its.toArray
  | .dK kvs => kvs.length ≤ sizeLine ∧ (a == sysModules) = false ∧ ∃ vs, KV kvs vs ∧ h.DictOf (mixKind P w) a vs
  | .dT kvs => kvs.length ≤ sizeLine ∧ (a == sysModules) = false ∧ ∃ xs : List (List Key × Addr × Value),
      Paired (fun (p : List Key × V) (q : List Key × Addr × Value) => p.1 = q.1 ∧ H q.2.1 = some (.tup (p.1.map kV)) ∧ RelV p.2 q.2.2) kvs xs ∧
      ∃ o es ep, h.get? a = some o ∧ o.ExactDict ∧ o.data = .dict es ep ∧ es.toList = xs.map (entryOfKey (tupleKind (mixKind P w))) ∧ (xs.map (·.1)).Nodup
  | .set S n => h.SetOf (intKind P w) a S n
  | .ins C dx fs => H dx = some (.own a) ∧ fs.length ≤ 1000 ∧ dx ≠ a ∧ h.get? a = some (PySem.W.instObj C dx) ∧
      ∃ mA, h.Ns1 dx mA ∧ (∀ f, RelO (fs.lookup f) (mA f)) ∧ PySem.Within mA (fs.map (·.1))
  | .own _ => ∃ o, h.get? a = some o
  | .xd fs => ∃ mA, h.Ns1 a mA ∧ ∀ f, RelO (fs.lookup f) (mA f)
  | .rng lo hi => ∃ t u v, h.get? a = some { cls := .type "range", data := .fields #[.int lo t, .int hi u, .int 1 v] }
  | .frz o u => h.get? a = some o ∧ ObjOk H h a u
  | .tbl ps => h.get? a = some { cls := .none, data := .fields ps }
  | .met f x => h.get? a = some (PySem.W.methodObj (.ref f) (.ref x))
  | .ext φ => φ h ∧ (∃ o, h.get? a = some o) ∧ ∀ h1 h2 : Heap, φ h1 → (∀ o, h1.get? a = some o → h2.get? a = some o) → φ h2
noncomputable def HOk (H : Hp) (h : Heap) : Prop := ∀ a o, H a = some o → ObjOk P w H h a o
end

section
variable {P : Program} {w : World} {H H' : Hp} {h h' : Heap} {a : Addr} {o : HO}
theorem ObjOk.lt (x : ObjOk P w H h a o) : a < h.objs.size := by
  cases o with
  | lst xs => obtain ⟨_, _, _, _, e⟩ := x; exact Heap.lt_size e
  | tup xs => obtain ⟨_, _, _, p⟩ := x; exact p.lt
  | dK kvs => obtain ⟨_, _, _, _, o, _, _, e, _⟩ := x; exact Heap.lt_size e
  | dT kvs => obtain ⟨_, _, _, _, o, _, _, e, _⟩ := x; exact Heap.lt_size e
  | set S n => obtain ⟨o, _, _, _, e, _⟩ := x; exact Heap.lt_size e
  | ins C dx fs => obtain ⟨_, _, _, e, _⟩ := x; exact Heap.lt_size e
  | own y => obtain ⟨_, e⟩ := x; exact Heap.lt_size e
  | xd fs => obtain ⟨_, ⟨_, _, _, e, _⟩, _⟩ := x; exact Heap.lt_size e
  | rng lo hi => obtain ⟨_, _, _, e⟩ := x; exact Heap.lt_size e
  | frz ob u => obtain ⟨e, _⟩ := x; exact Heap.lt_size e
  | tbl ps => exact Heap.lt_size (show h.get? a = some _ from x)
  | met f y => exact Heap.lt_size (show h.get? a = some _ from x)
  | ext φ => obtain ⟨_, ⟨_, e⟩, _⟩ := x; exact Heap.lt_size e
theorem Paired.mapP {α β : Type} {F G : α → β → Prop} : ∀ {l₁ : List α} {l₂ : List β}, Paired F l₁ l₂ → (∀ a b, F a b → G a b) → Paired G l₁ l₂
  | _, _, .nil, _ => .nil
  | _, _, .cons r t, f => .cons (f _ _ r) (Paired.mapP t f)
theorem Paired.imp' {α β : Type} {F G : α → β → Prop} (f : ∀ a b, F a b → G a b) {l₁ : List α} {l₂ : List β} (r : Paired F l₁ l₂) : Paired G l₁ l₂ := Paired.mapP r f
theorem ObjOk.stay (x : ObjOk P w H h a o) (k : ∀ b u, (b = a ∨ H b = some (.own a)) → h.get? b = some u → h'.get? b = some u)
    (ho : ∀ b, H b = some (.own a) → H' b = some (.own a)) (ht : ∀ b xs, H b = some (.tup xs) → H' b = some (.tup xs)) : ObjOk P w H' h' a o := by
  induction o with
  | lst xs => obtain ⟨z, its, n, r, e⟩ := x; exact ⟨z, its, n, r, k _ _ (.inl rfl) e⟩
  | tup xs => obtain ⟨z, its, r, ob, e, c⟩ := x; exact ⟨z, its, r, ob, k _ _ (.inl rfl) e, c⟩
  | dK kvs => obtain ⟨z, y, vs, r, ob, es, ep, e, c⟩ := x; exact ⟨z, y, vs, r, ob, es, ep, k _ _ (.inl rfl) e, c⟩
  | dT kvs =>
    obtain ⟨z, y, xs, r, ob, es, ep, e, c⟩ := x
    exact ⟨z, y, xs, Paired.mapP r fun p q z => ⟨z.1, ht _ _ z.2.1, z.2.2⟩, ob, es, ep, k _ _ (.inl rfl) e, c⟩
  | set S n => obtain ⟨ob, es, ep, t, e, c⟩ := x; exact ⟨ob, es, ep, t, k _ _ (.inl rfl) e, c⟩
  | ins C dx fs =>
    obtain ⟨d, z, ne, e, mA, ⟨od, es, ep, e2, c⟩, r⟩ := x
    exact ⟨ho _ d, z, ne, k _ _ (.inl rfl) e, mA, ⟨od, es, ep, k _ _ (.inr d) e2, c⟩, r⟩
  | own y => obtain ⟨ob, e⟩ := x; exact ⟨ob, k _ _ (.inl rfl) e⟩
  | xd fs => obtain ⟨mA, ⟨od, es, ep, e, c⟩, r⟩ := x; exact ⟨mA, ⟨od, es, ep, k _ _ (.inl rfl) e, c⟩, r⟩
  | rng lo hi => obtain ⟨t, u, v, e⟩ := x; exact ⟨t, u, v, k _ _ (.inl rfl) e⟩
  | frz ob u ih => obtain ⟨e, q⟩ := x; exact ⟨k _ _ (.inl rfl) e, ih q⟩
  | tbl ps =>
    have e : h.get? a = some { cls := .none, data := .fields ps } := x
    show h'.get? a = some { cls := .none, data := .fields ps }
    exact k a _ (.inl rfl) e
  | met f y =>
    have e : h.get? a = some (PySem.W.methodObj (.ref f) (.ref y)) := x
    show h'.get? a = some (PySem.W.methodObj (.ref f) (.ref y))
    exact k a _ (.inl rfl) e
  | ext φ => obtain ⟨p, ⟨o, e⟩, st⟩ := x; exact ⟨st _ _ p fun o q => k _ _ (.inl rfl) q, ⟨o, k _ _ (.inl rfl) e⟩, st⟩
theorem HOk.lt (x : HOk P w H h) (e : H a = some o) : a < h.objs.size := (x a o e).lt
theorem HOk.fresh (x : HOk P w H h) (e : h.objs.size ≤ a) : H a = none := by
  cases q : H a with
  | none => rfl
  | some u => exact absurd (Nat.lt_of_lt_of_le (x.lt q) e) (Nat.lt_irrefl _)
theorem HOk.kept (x : HOk P w H h) (k : ∀ b u, h.get? b = some u → h'.get? b = some u) : HOk P w H h' := fun a o e =>
  (x a o e).stay (fun b u _ q => k b u q) (fun _ q => q) fun _ _ q => q
theorem HOk.laid (x : HOk P w H h) (k : ∀ b u, h.get? b = some u → h'.get? b = some u) (hp : h.objs.size ≤ a) (new : ObjOk P w (upd H a o) h' a o) : HOk P w (upd H a o) h' := fun b u e => by
  have hn := x.fresh hp
  by_cases hb : b = a
  · subst hb; rw [upd_same] at e; cases e; exact new
  · rw [upd_ne hb] at e
    exact (x b u e).stay (fun c v _ q => k c v q) (fun c q => by rw [upd_ne (ne_of_none q hn)]; exact q) fun c xs q => by rw [upd_ne (ne_of_none q hn)]; exact q
end

noncomputable def Rd (H : Hp) (a : Addr) (u : HO) : Prop := H a = some u ∨ ∃ o, H a = some (.frz o u)
theorem Rd.ok {P : Program} {w : World} {H : Hp} {h : Heap} {a : Addr} {u : HO} (r : Rd H a u) (x : HOk P w H h) : ObjOk P w H h a u := by
  rcases r with r | ⟨o, r⟩
  · exact x a u r
  · obtain ⟨_, q⟩ := x a _ r
    exact q
noncomputable def Mut : Option HO → Prop
  | some (.lst _) => True
  | some (.dK _) => True
  | some (.dT _) => True
  | some (.set _ _) => True
  | some (.ins _ _ _) => True
  | some (.ext _) => True
  | _ => False
section
variable {P : Program} {w : World} {H : Hp} {h h' : Heap} {x e : Addr} {o' : HO}
theorem HOk.write (ok : HOk P w H h) (mu : Mut (H x)) (he : e = x ∨ H e = some (.own x)) (k : ∀ b u, b ≠ e → h.get? b = some u → h'.get? b = some u) (heo : ∃ u, h'.get? e = some u)
    (new : ObjOk P w (upd H x o') h' x o') : HOk P w (upd H x o') h' := fun b u q => by
  have nown : ∀ c y, H c = some (.own y) → c ≠ x := fun c y r z => by subst z; rw [r] at mu; exact mu
  have ntup : ∀ c xs, H c = some (.tup xs) → c ≠ x := fun c xs r z => by subst z; rw [r] at mu; exact mu
  by_cases hb : b = x
  · subst hb; rw [upd_same] at q; cases q; exact new
  · rw [upd_ne hb] at q
    by_cases hbe : b = e
    · have q' : H b = some (.own x) := by
        rcases he with z | z
        · exact absurd (hbe.trans z) hb
        · rw [hbe]; exact z
      rw [q] at q'; cases q'
      obtain ⟨v, hv⟩ := heo
      exact ⟨v, by rw [hbe]; exact hv⟩
    · refine (ok b u q).stay (fun c v hc r => k c v ?_ r) (fun c r => by rw [upd_ne (nown c b r)]; exact r) fun c xs r => by rw [upd_ne (ntup c xs r)]; exact r
      rcases hc with rfl | hc
      · exact hbe
      · rintro rfl
        rcases he with z | z
        · exact nown c b hc z
        · rw [hc] at z; cases z; exact hb rfl
end

structure Un (fs ex : List Addr) (H H' : Hp) (h h' : Heap) : Prop where
  keep : ∀ b o, h.get? b = some o → H b = none → b ∉ fs → b ∉ ex → h'.get? b = some o
  slot : ∀ b o, h.get? b = some o → H b = none → b ∈ fs → b ∉ ex → ∃ sl, h'.get? b = some { o with slots := sl }
  free : ∀ b o, h.get? b = some o → H b = none → b ∉ ex → H' b = none
  there : ∀ b o, h.get? b = some o → b ∉ ex → ∃ o', h'.get? b = some o'
  tups : ∀ b xs, H b = some (.tup xs) → H' b = some (.tup xs)
  frzs : ∀ b o u, H b = some (.frz o u) → H' b = some (.frz o u)
  tbls : ∀ b ps, H b = some (.tbl ps) → ∃ more, H' b = some (.tbl (ps ++ more))
section
variable {fs fs' ex ex' : List Addr} {H H1 H2 : Hp} {h h1 h2 h' : Heap} {a x e : Addr} {o : HO}
theorem Un.any (u : Un fs ex H H1 h h1) {b : Addr} {ob : Obj} (q : h.get? b = some ob) (n : H b = none) (hx : b ∉ ex) : ∃ sl, h1.get? b = some { ob with slots := sl } := by
  by_cases hb : b ∈ fs
  · exact u.slot b ob q n hb hx
  · exact ⟨ob.slots, u.keep b ob q n hb hx⟩
theorem Un.kept (k : ∀ b u, h.get? b = some u → h'.get? b = some u) : Un fs ex H H h h' :=
  ⟨fun b ob q _ _ _ => k b ob q, fun b ob q _ _ _ => ⟨ob.slots, k b ob q⟩, fun _ _ _ n _ => n, fun b ob q _ => ⟨ob, k b ob q⟩, fun _ _ q => q, fun _ _ _ q => q, fun _ ps q => ⟨#[], by rw [q]; simp⟩⟩
theorem Un.refl : Un fs ex H H h h := Un.kept fun _ _ q => q
theorem Un.laid (k : ∀ b u, h.get? b = some u → h'.get? b = some u) (hp : h.objs.size ≤ a) (hn : H a = none) : Un fs ex H (upd H a o) h h' where
  keep := fun b u q _ _ _ => k b u q
  slot := fun b u q _ _ _ => ⟨u.slots, k b u q⟩
  free := fun b u q n _ => by rw [upd_ne (Nat.ne_of_lt (Nat.lt_of_lt_of_le (Heap.lt_size q) hp))]; exact n
  there := fun b u q _ => ⟨u, k b u q⟩
  tups := fun b xs q => by rw [upd_ne (ne_of_none q hn)]; exact q
  frzs := fun b u xs q => by rw [upd_ne (ne_of_none q hn)]; exact q
  tbls := fun b ps q => ⟨#[], by rw [upd_ne (ne_of_none q hn), q]; simp⟩
theorem Un.write (mu : Mut (H x)) (he : e = x ∨ H e = some (.own x)) (k : ∀ b u, b ≠ e → h.get? b = some u → h'.get? b = some u) (heo : ∃ u, h'.get? e = some u) : Un fs ex H (upd H x o) h h' := by
  have hx : ∀ b, H b = none → b ≠ x := fun b n z => by subst z; rw [n] at mu; exact mu
  have hb : ∀ b, H b = none → b ≠ e := fun b n z => by
    subst z
    rcases he with r | r
    · exact hx b n r
    · rw [n] at r; cases r
  have hm : ∀ b u, H b = some u → ¬ Mut (some u) → b ≠ x := fun b u q nm z => by subst z; rw [q] at mu; exact nm mu
  refine ⟨fun b u q n _ _ => k b u (hb b n) q, fun b u q n _ _ => ⟨u.slots, k b u (hb b n) q⟩, fun b u q n _ => by rw [upd_ne (hx b n)]; exact n, fun b u q _ => ?_,
    fun b xs q => by rw [upd_ne (hm b _ q fun z => z)]; exact q, fun b u xs q => by rw [upd_ne (hm b _ q fun z => z)]; exact q, fun b ps q => ⟨#[], by rw [upd_ne (hm b _ q fun z => z), q]; simp⟩⟩
  by_cases hbe : b = e
  · subst hbe; exact heo
  · exact ⟨u, k b u hbe q⟩
end

noncomputable def trk (h : Heap) (H : Hp) : List Addr := (List.range h.objs.size).filter fun a => (H a).isSome
noncomputable def hidT (h : Heap) (H : Hp) : Heap := PySem.W.hideAll h (trk h H)
theorem hidT_size (h : Heap) (H : Hp) : (hidT h H).objs.size = h.objs.size := PySem.W.hideAll_size _ _
theorem hidT_get {h : Heap} {H : Hp} {b : Addr} {o : Obj} (e : h.get? b = some o) (n : H b = none) : (hidT h H).get? b = some o :=
  PySem.W.hideAll_get _ e fun hm => by
    have q : (H b).isSome = true := (List.mem_filter.mp hm).2
    rw [n] at q; simp at q
theorem of_hidT {h : Heap} {H : Hp} {b : Addr} {o : Obj} (e : (hidT h H).get? b = some o) : h.get? b = some o ∧ H b = none := by
  have e' : h.get? b = some o := PySem.W.of_hideAll (trk h H) e
  refine ⟨e', ?_⟩
  cases q : H b with
  | none => rfl
  | some x =>
    have hm : b ∈ trk h H := List.mem_filter.mpr ⟨List.mem_range.mpr (Heap.lt_size e'), by simp [q]⟩
    have z : (hidT h H).get? b = none := PySem.W.hideAll_none (trk h H) hm
    rw [z] at e; cases e

noncomputable def allNews (g h : Heap) (L : Addr) : List (Addr × Obj) := (List.range h.objs.size).filterMap fun a => if a = L ∨ (g.get? a).isSome = true then none else (h.get? a).map fun o => (a, o)
noncomputable def rest (g h : Heap) (L d : Addr) : List (Addr × Obj) := (allNews g h L).filter fun p => decide (p.1 ≠ d)
end L2

namespace L2
open PySem PySem.Spec PyProof.Rows

structure Mod (K : PySem.W.Frag) (mg : Str → Option Value) (base : Heap) : Prop where
  kin : K.In base
  glob : base.Ns mainGlobals mg
  blt : ∃ mb, base.Ns builtinsNs mb ∧ ∀ x : Str, x ≠ "__name__" → mb x = bootBuiltins x
  nolimit : base.NoLimit

structure Cx where
  prog : Program
  w : World
  K : PySem.W.Frag
  mg : Str → Option Value
  base : Heap
  A : Around
  N : List Str
  s₀ : Shared
  H₀ : Hp
  env : Env
  outer : List Env
  stack : List Env
  ex : List Addr
  fn : Str → Bool
  calm : Bool
  pn : List (Addr × Obj)
  xe : Value → Shared → Prop
noncomputable def frs (l : List Env) : List Addr := l.filterMap (·.frame)
noncomputable abbrev Cx.fs (X : Cx) : List Addr := frs X.outer

noncomputable def Vis (sc : Scope) (x : Str) : Prop := sc.names.lookup x = some .local ∨ sc.names.lookup x = some .cell ∨ sc.names.lookup x = some .free
noncomputable def Loc (sc : Scope) (x : Str) : Prop := sc.names.lookup x = some .local ∨ sc.names.lookup x = some .cell
noncomputable def Look (env : Env) (h : Heap) (m : Str → Option Value) (x : Str) (u : Value) : Prop :=
  (env.kindOf x = some .local ∧ m x = some u) ∨ ((env.kindOf x = some .cell ∨ env.kindOf x = some .free) ∧ ∃ c, env.cells.lookup x = some c ∧ h.IsCell c (some u))

structure Cx.Ok (X : Cx) : Prop where
  mod : Mod X.K X.mg X.base
  kind : X.env.scope.kind = .function
  glob : X.env.globals = mainGlobals
  blt : X.env.builtins = builtinsNs
  above : X.s₀.heap.objs.size ≤ X.env.locals
  inj : ∀ x y c, X.env.cells.lookup x = some c → X.env.cells.lookup y = some c → x = y
  has : ∀ x, (X.env.kindOf x = some .cell ∨ X.env.kindOf x = some .free) → ∃ c, X.env.cells.lookup x = some c
  cab : ∀ x c, X.fn x = true → X.env.cells.lookup x = some c → X.s₀.heap.objs.size ≤ c
  hd : X.calm = true → X.A.handled = none
  frames : X.A.frames = some X.stack
  stk : X.stack = X.outer ∨ (X.stack = X.env :: X.outer ∧ X.env.frame = some X.env.locals)
  exf : ∀ b ∈ X.ex, b ≠ X.env.locals ∧ ∀ x c, X.env.cells.lookup x = some c → c ≠ b
  bs : ∀ b o, X.base.get? b = some o → X.s₀.heap.get? b = some o ∧ X.H₀ b = none
  bsz : X.base.objs.size ≤ X.s₀.heap.objs.size
  noex : ∀ b o, X.base.get? b = some o → b ∉ X.ex
  exfs : ∀ b ∈ X.ex, b ∉ X.fs
  funs : X.s₀.heap.FunFrames X.base X.outer
  frf : ∀ b ∈ X.fs, X.H₀ b = none

structure Inv (X : Cx) (pins : List (Addr × Obj)) (σ : List (Option V)) (H : Hp) (s : Shared) : Prop where
  ok : X.Ok
  os : s.os = X.s₀.os
  bare : AllBare s.gens
  base : Un X.fs X.ex X.H₀ H X.s₀.heap s.heap
  loc : ∃ m, s.heap.Ns X.env.locals m ∧ ∀ (i : Nat) (x : Str) (v : V), X.N[i]? = some x → σ[i]? = some (some v) → Vis X.env.scope x → ∃ u, RelV v u ∧ Look X.env s.heap m x u
  cell : ∀ x c, X.env.cells.lookup x = some c → ∃ v, s.heap.IsCell c v
  free : H X.env.locals = none
  freeC : ∀ x c, X.env.cells.lookup x = some c → H c = none
  pin : ∀ p ∈ X.pn ++ pins, s.heap.get? p.1 = some p.2 ∧ H p.1 = none ∧ p.1 ≠ X.env.locals ∧ p.1 ∉ X.fs ∧ ∀ v, p.2.data ≠ .cell v
  hok : HOk X.prog X.w H s.heap
  len : σ.length = X.N.length

section
variable {X : Cx} {pins : List (Addr × Obj)} {σ : List (Option V)} {H H' : Hp} {s : Shared} {h' : Heap}

theorem Cx.Ok.nofr (ok : X.Ok) {b : Addr} {o : Obj} (e : X.base.get? b = some o) : b ∉ X.fs := fun hb => by
  have := (ok.funs.mem hb).1
  rw [e] at this; cases this
theorem Inv.bs (I : Inv X pins σ H s) : ∀ b o, X.base.get? b = some o → s.heap.get? b = some o ∧ H b = none := fun b o e =>
  ⟨I.base.keep b o (I.ok.bs b o e).1 (I.ok.bs b o e).2 (I.ok.nofr e) (I.ok.noex b o e), I.base.free b o (I.ok.bs b o e).1 (I.ok.bs b o e).2 (I.ok.noex b o e)⟩
theorem Inv.bk (I : Inv X pins σ H s) : ∀ b o, X.base.get? b = some o → s.heap.get? b = some o := fun b o e => (I.bs b o e).1
theorem Inv.mod (I : Inv X pins σ H s) : Mod X.K X.mg X.base := I.ok.mod
theorem Inv.kIn (I : Inv X pins σ H s) : X.K.In s.heap := I.ok.mod.kin.keeps I.bk
theorem Inv.lt (I : Inv X pins σ H s) : X.env.locals < s.heap.objs.size := let ⟨_, hn, _⟩ := I.loc; hn.lt
theorem Inv.sz (I : Inv X pins σ H s) : X.s₀.heap.objs.size ≤ s.heap.objs.size := Nat.le_trans I.ok.above (Nat.le_of_lt I.lt)
theorem Inv.nofs (I : Inv X pins σ H s) {a : Addr} (h : s.heap.objs.size ≤ a) : a ∉ X.fs := fun hb => by
  obtain ⟨_, o, ho, _⟩ := I.ok.funs.mem hb
  exact absurd (Nat.lt_of_lt_of_le (Heap.lt_size ho) (Nat.le_trans I.sz h)) (Nat.lt_irrefl _)
theorem Inv.cne (I : Inv X pins σ H s) : ∀ x c, X.env.cells.lookup x = some c → c ≠ X.env.locals := fun x c e z => by
  obtain ⟨v, o, ho, hd⟩ := I.cell x c e
  obtain ⟨m, ⟨o', es, ep, ho', hd', _⟩, _⟩ := I.loc
  rw [z, ho'] at ho; cases ho; rw [hd'] at hd; cases hd
theorem Inv.funs (I : Inv X pins σ H s) : s.heap.FunFrames X.base X.outer := by
  have all : ∀ (l : List Env), (∀ b ∈ frs l, b ∈ X.fs) → X.s₀.heap.FunFrames X.base l → s.heap.FunFrames X.base l := by
    intro l
    induction l with
    | nil => intro _ _; trivial
    | cons env r ih =>
      intro hs hl
      obtain ⟨hk, ⟨L, o, hf, hn, ho, hd⟩, hr⟩ := hl
      have hL : L ∈ X.fs := hs L (by unfold frs; rw [List.filterMap_cons, hf]; exact List.mem_cons_self)
      obtain ⟨sl, e⟩ := I.base.slot L o ho (I.ok.frf L hL) hL fun z => I.ok.exfs L z hL
      exact ⟨hk, ⟨L, _, hf, hn, e, hd⟩, ih (fun b hb => hs b (by unfold frs; rw [List.filterMap_cons, hf]; exact List.mem_cons_of_mem _ hb)) hr⟩
  exact all X.outer (fun _ hb => hb) I.ok.funs

theorem Inv.stack (I : Inv X pins σ H s) : s.heap.FunFrames X.base X.stack := by
  rcases I.ok.stk with e | ⟨e, hf⟩
  · rw [e]; exact I.funs
  · rw [e]
    obtain ⟨m, hn, _⟩ := I.loc
    refine .cons (by rw [I.ok.kind]; decide) hf hn ?_ I.funs
    exact Heap.get?_none_of_le (Nat.le_trans I.ok.bsz I.ok.above)
theorem Inv.stkSub (I : Inv X pins σ H s) : ∀ b ∈ frs X.stack, b ∈ X.env.locals :: X.fs := fun b hb => by
  rcases I.ok.stk with e | ⟨e, hf⟩
  · rw [e] at hb; exact List.mem_cons_of_mem _ hb
  · rw [e] at hb
    unfold frs at hb
    rw [List.filterMap_cons, hf] at hb
    exact hb
theorem Inv.stkFree (I : Inv X pins σ H s) : ∀ b ∈ frs X.stack, H b = none := fun b hb => by
  rcases List.mem_cons.mp (I.stkSub b hb) with e | hb
  · rw [e]; exact I.free
  · obtain ⟨_, o, ho, _⟩ := I.ok.funs.mem hb
    exact I.base.free b o ho (I.ok.frf b hb) fun z => I.ok.exfs b z hb

theorem Inv.step {g' : Array GenState} {t' : Nat} {d' : Drawn} {ch : List Addr} (I : Inv X pins σ H s)
    (hch : ∀ b ∈ ch, (b ∈ X.ex ∨ X.s₀.heap.objs.size ≤ b) ∧ b ≠ X.env.locals ∧ (∀ x c, X.env.cells.lookup x = some c → c ≠ b) ∧ ∀ p ∈ X.pn ++ pins, p.1 ≠ b)
    (keep : ∀ b o, b ≠ X.env.locals → b ∉ X.fs → b ∉ ch → s.heap.get? b = some o → H b = none → h'.get? b = some o)
    (slot : ∀ b o, b ≠ X.env.locals → b ∈ X.fs → b ∉ ch → s.heap.get? b = some o → H b = none → ∃ sl, h'.get? b = some { o with slots := sl }) (free : ∀ b o, b ∉ ch → s.heap.get? b = some o → H b = none → H' b = none)
    (there : ∀ b o, b ∉ ch → s.heap.get? b = some o → ∃ o', h'.get? b = some o')
    (tups : ∀ b xs, H b = some (.tup xs) → H' b = some (.tup xs)) (frzs : ∀ b o u, H b = some (.frz o u) → H' b = some (.frz o u)) (tbls : ∀ b ps, H b = some (.tbl ps) → ∃ more, H' b = some (.tbl (ps ++ more)))
    (ns : ∀ m, s.heap.Ns X.env.locals m → h'.Ns X.env.locals m) (hok : HOk X.prog X.w H' h') (hg : AllBare g') :
    Inv X pins σ H' { s with heap := h', gens := g', drawn := d', toks := t' } := by
  have neL : ∀ b o, X.s₀.heap.get? b = some o → b ≠ X.env.locals := fun b o e => Nat.ne_of_lt (Nat.lt_of_lt_of_le (Heap.lt_size e) I.ok.above)
  have neC : ∀ b o, X.s₀.heap.get? b = some o → b ∉ X.ex → b ∉ ch := fun b o e hx hb => by
    rcases (hch b hb).1 with z | z
    · exact hx z
    · exact absurd (Nat.lt_of_lt_of_le (Heap.lt_size e) z) (Nat.lt_irrefl _)
  have cellK : ∀ x c, X.env.cells.lookup x = some c → ∀ v, s.heap.IsCell c v → h'.IsCell c v := fun x c e v ⟨o, ho, hd⟩ => by
    have nch : c ∉ ch := fun z => (hch c z).2.2.1 x c e rfl
    by_cases hc : c ∈ X.fs
    · obtain ⟨sl, q⟩ := slot c o (I.cne x c e) hc nch ho (I.freeC x c e)
      exact ⟨_, q, hd⟩
    · exact ⟨o, keep c o (I.cne x c e) hc nch ho (I.freeC x c e), hd⟩
  refine ⟨I.ok, I.os, hg, ⟨fun b o e n hb hx => ?_, fun b o e n hb hx => ?_, fun b o e n hx => ?_, fun b o e hx => ?_, fun b xs e => tups b xs (I.base.tups b xs e), fun b o xs e => frzs b o xs (I.base.frzs b o xs e), fun b ps e => ?_⟩, ?_, fun x c e => ?_, ?_, fun x c e => ?_, fun p hp => ?_, hok, I.len⟩
  · exact keep b o (neL b o e) hb (neC b o e hx) (I.base.keep b o e n hb hx) (I.base.free b o e n hx)
  · obtain ⟨sl, e1⟩ := I.base.slot b o e n hb hx
    obtain ⟨sl', e2⟩ := slot b _ (neL b o e) hb (neC b o e hx) e1 (I.base.free b o e n hx)
    exact ⟨sl', e2⟩
  · obtain ⟨o', e1⟩ := I.base.there b o e hx
    exact free b o' (neC b o e hx) e1 (I.base.free b o e n hx)
  · obtain ⟨o', e1⟩ := I.base.there b o e hx
    exact there b o' (neC b o e hx) e1
  · obtain ⟨m1, e1⟩ := I.base.tbls b ps e
    obtain ⟨m2, e2⟩ := tbls b _ e1
    exact ⟨m1 ++ m2, by rw [e2, Array.append_assoc]⟩
  · obtain ⟨m, hn, hl⟩ := I.loc
    refine ⟨m, ns m hn, fun i x v e1 e2 e3 => ?_⟩
    obtain ⟨u, r, l⟩ := hl i x v e1 e2 e3
    refine ⟨u, r, ?_⟩
    rcases l with l | ⟨k, c, e, z⟩
    · exact .inl l
    · exact .inr ⟨k, c, e, cellK x c e _ z⟩
  · obtain ⟨v, z⟩ := I.cell x c e
    exact ⟨v, cellK x c e v z⟩
  · obtain ⟨m, ⟨o, _, _, ho, _⟩, _⟩ := I.loc
    exact free _ o (fun z => (hch _ z).2.1 rfl) ho I.free
  · obtain ⟨v, o, ho, hd⟩ := I.cell x c e
    exact free c o (fun z => (hch c z).2.2.1 x c e rfl) ho (I.freeC x c e)
  · obtain ⟨e, n, ne, nf, d⟩ := I.pin p hp
    have nch : p.1 ∉ ch := fun z => (hch p.1 z).2.2.2 p hp rfl
    exact ⟨keep p.1 p.2 ne nf nch e n, free p.1 p.2 nch e n, ne, nf, d⟩
theorem Inv.un {t' : Nat} (I : Inv X pins σ H s) (u : Un X.fs [] H H' s.heap h') (hok : HOk X.prog X.w H' h') : Inv X pins σ H' { s with heap := h', toks := t' } := by
  obtain ⟨m, ⟨o, es, ep, ho, r⟩, _⟩ := id I.loc
  obtain ⟨sl, hL⟩ := u.any ho I.free (by simp)
  exact I.step (g' := s.gens) (d' := s.drawn) (ch := []) (fun _ z => nomatch z) (fun b o _ hb _ e n => u.keep b o e n hb (by simp)) (fun b o _ hb _ e n => u.slot b o e n hb (by simp)) (fun b o _ e n => u.free b o e n (by simp)) (fun b o _ e => u.there b o e (by simp)) u.tups u.frzs u.tbls (fun m' hm => by
    obtain ⟨o', es', ep', ho', r'⟩ := hm
    rw [ho] at ho'; cases ho'
    exact ⟨_, es', ep', hL, r'⟩) hok I.bare
theorem Inv.call {g' : Array GenState} {t' : Nat} {d' : Drawn} {ch : List Addr} (I : Inv X pins σ H s) (u : Un (frs X.stack) ch H H' s.heap h') (hok : HOk X.prog X.w H' h') (hg : AllBare g')
    (hch : ∀ b ∈ ch, (b ∈ X.ex ∨ X.s₀.heap.objs.size ≤ b) ∧ b ≠ X.env.locals ∧ (∀ x c, X.env.cells.lookup x = some c → c ≠ b) ∧ ∀ p ∈ X.pn ++ pins, p.1 ≠ b) :
    Inv X pins σ H' { s with heap := h', gens := g', drawn := d', toks := t' } := by
  obtain ⟨m, ⟨o, es, ep, ho, r⟩, _⟩ := id I.loc
  obtain ⟨sl, hL⟩ := u.any ho I.free fun z => (hch _ z).2.1 rfl
  exact I.step (ch := ch) hch (fun b o hL hb hc e n => u.keep b o e n (fun z => (List.mem_cons.mp (I.stkSub b z)).elim hL hb) hc) (fun b o _ _ hc e n => u.any e n hc) (fun b o hc e n => u.free b o e n hc) (fun b o hc e => u.there b o e hc) u.tups u.frzs u.tbls (fun m' hm => by
    obtain ⟨o', es', ep', ho', r'⟩ := hm
    rw [ho] at ho'; cases ho'
    exact ⟨_, es', ep', hL, r'⟩) hok hg
theorem Inv.turned {t' : Nat} {it : Addr} (I : Inv X pins σ H s) (k : ∀ b o, b ≠ it → s.heap.get? b = some o → h'.get? b = some o) (hn : H it = none) (hL : it ≠ X.env.locals)
    (h1 : it ∈ X.ex ∨ X.s₀.heap.objs.size ≤ it) (h2 : ∀ x c, X.env.cells.lookup x = some c → c ≠ it) (h3 : ∀ p ∈ X.pn ++ pins, p.1 ≠ it) : Inv X pins σ H { s with heap := h', toks := t' } := by
  have nit : ∀ b u, H b = some u → b ≠ it := fun b u e z => by rw [z, hn] at e; cases e
  refine I.step (g' := s.gens) (d' := s.drawn) (ch := [it]) (fun b hb => ?_) (fun b o _ _ hc e _ => k b o (fun z => hc (by simp [z])) e) (fun b o _ _ hc e _ => ⟨o.slots, k b o (fun z => hc (by simp [z])) e⟩) (fun _ _ _ _ n => n)
    (fun b o hc e => ⟨o, k b o (fun z => hc (by simp [z])) e⟩) (fun _ _ e => e) (fun _ _ _ e => e) (fun b ps e => ⟨#[], by rw [e]; simp⟩) (fun m hm => ?_) (fun b u e => ?_) I.bare
  · have e : b = it := by simpa using hb
    subst e
    exact ⟨h1, hL, h2, h3⟩
  · obtain ⟨o, es, ep, ho, r⟩ := hm
    exact ⟨o, es, ep, k _ o (Ne.symm hL) ho, r⟩
  · refine (I.hok b u e).stay (fun c v hc q => k c v ?_ q) (fun _ q => q) fun _ _ q => q
    rcases hc with z | z
    · rw [z]; exact nit b u e
    · exact nit c _ z
theorem Inv.tok (I : Inv X pins σ H s) (t : Nat) : Inv X pins σ H { s with toks := t } := I.un (h' := s.heap) (t' := t) Un.refl I.hok
theorem Inv.kept {t' : Nat} (I : Inv X pins σ H s) (k : ∀ b u, s.heap.get? b = some u → h'.get? b = some u) : Inv X pins σ H { s with heap := h', toks := t' } := I.un (Un.kept k) (I.hok.kept k)
theorem Inv.laid {a : Addr} {o : HO} {t' : Nat} (I : Inv X pins σ H s) (k : ∀ b u, s.heap.get? b = some u → h'.get? b = some u) (hp : s.heap.objs.size ≤ a) (new : ObjOk X.prog X.w (upd H a o) h' a o) :
    Inv X pins σ (upd H a o) { s with heap := h', toks := t' } := I.un (Un.laid k hp (I.hok.fresh hp)) (I.hok.laid k hp new)
theorem Inv.write {x e : Addr} {o : HO} {t' : Nat} (I : Inv X pins σ H s) (mu : Mut (H x)) (he : e = x ∨ H e = some (.own x)) (k : ∀ b u, b ≠ e → s.heap.get? b = some u → h'.get? b = some u) (heo : ∃ u, h'.get? e = some u)
    (new : ObjOk X.prog X.w (upd H x o) h' x o) : Inv X pins σ (upd H x o) { s with heap := h', toks := t' } := I.un (Un.write mu he k heo) (I.hok.write mu he k heo new)
theorem Inv.weak {σ' : List (Option V)} (I : Inv X pins σ H s) (hl : σ'.length = σ.length) (w : ∀ (i : Nat) v, σ'[i]? = some (some v) → σ[i]? = some (some v)) : Inv X pins σ' H s :=
  ⟨I.ok, I.os, I.bare, I.base, let ⟨m, hn, hl'⟩ := I.loc; ⟨m, hn, fun i x v e1 e2 e3 => hl' i x v e1 (w i v e2) e3⟩, I.cell, I.free, I.freeC, I.pin, I.hok, hl.trans I.len⟩
theorem Inv.pins_of {pins' : List (Addr × Obj)} (I : Inv X pins σ H s) (h : ∀ p ∈ pins', s.heap.get? p.1 = some p.2 ∧ H p.1 = none ∧ p.1 ≠ X.env.locals ∧ p.1 ∉ X.fs ∧ ∀ v, p.2.data ≠ .cell v) : Inv X pins' σ H s :=
  ⟨I.ok, I.os, I.bare, I.base, I.loc, I.cell, I.free, I.freeC, fun p hp => (List.mem_append.mp hp).elim (fun z => I.pin p (List.mem_append_left _ z)) (h p), I.hok, I.len⟩

theorem nodup_ix {N : List Str} (hN : N.Nodup) {i j : Nat} {x : Str} (a : N[i]? = some x) (b : N[j]? = some x) : i = j := by
  obtain ⟨h1, e1⟩ := List.getElem?_eq_some_iff.mp a
  obtain ⟨h2, e2⟩ := List.getElem?_eq_some_iff.mp b
  exact (List.getElem_inj hN).mp (e1.trans e2.symm)

theorem store_ok2 {M : Model} {A : Around} {E : Value → Shared → Prop} {i : Nat} {x : Str} {v : V} {u : Value} {Q : Unit → Shared → Prop} (I : Inv X pins σ H s) (hN : X.N.Nodup) (hi : X.N[i]? = some x) (hx : Loc X.env.scope x) (r : RelV v u)
    (h : ∀ s', Inv X pins (σ.set i (some v)) H s' → (∃ a, Heap.SameBut a s.heap s'.heap ∧ (a = X.env.locals ∨ X.env.cells.lookup x = some a)) → Q () s') (hf : X.fn x = true ∨ X.env.scope.names.lookup x = some .local := by first | exact .inl rfl | exact .inr rfl | assumption) : wpAny M A (storeName X.env x u) Q E s := by
  obtain ⟨m, hn, hl⟩ := id I.loc
  have hcls : (X.env.scope.kind == .class || (X.env.scope.kind == .module && X.env.locals != X.env.globals)) = false := by rw [I.ok.kind]; rfl
  have hiσ : i < σ.length := by rw [I.len]; exact (List.getElem?_eq_some_iff.mp hi).1
  have cne := I.cne
  have tracked : ∀ {a : Addr} {h' : Heap}, (∃ o, s.heap.get? a = some o ∧ H a = none) → Heap.SameBut a s.heap h' → HOk X.prog X.w H h' := fun {a h'} ha hs b ob e => by
    obtain ⟨_, _, hfree⟩ := ha
    refine (I.hok b ob e).stay (fun c w' hc q => (hs.2 c ?_).trans q) (fun _ q => q) fun _ _ q => q
    rintro rfl
    rcases hc with rfl | hc
    · rw [hfree] at e; cases e
    · rw [hfree] at hc; cases hc
  rcases hx with hk | hk
  · refine wpAny_storeName_local hk hn (fun h' hn' hs => ?_) hcls
    obtain ⟨oL, _, _, hoL, _⟩ := id hn
    refine h _ ⟨I.ok, I.os, I.bare, ⟨fun b o e n hb hx => ?_, fun b o e n hb hx => ?_, I.base.free, fun b o e hx => ?_, I.base.tups, I.base.frzs, I.base.tbls⟩, ⟨_, hn', fun j y v' e1 e2 e3 => ?_⟩, fun y c e => ?_, I.free, I.freeC, fun p hp => ?_, tracked ⟨oL, hoL, I.free⟩ hs, by simpa using I.len⟩ ⟨_, hs, .inl rfl⟩
    · exact (hs.2 b (Nat.ne_of_lt (Nat.lt_of_lt_of_le (Heap.lt_size e) I.ok.above))).trans (I.base.keep b o e n hb hx)
    · obtain ⟨sl, e1⟩ := I.base.slot b o e n hb hx
      exact ⟨sl, (hs.2 b (Nat.ne_of_lt (Nat.lt_of_lt_of_le (Heap.lt_size e) I.ok.above))).trans e1⟩
    · obtain ⟨o', e1⟩ := I.base.there b o e hx
      exact ⟨o', (hs.2 b (Nat.ne_of_lt (Nat.lt_of_lt_of_le (Heap.lt_size e) I.ok.above))).trans e1⟩
    · by_cases hj : j = i
      · subst hj
        rw [hi] at e1; cases e1
        rw [List.getElem?_set_self hiσ] at e2
        cases e2
        exact ⟨u, r, .inl ⟨hk, by simp⟩⟩
      · rw [List.getElem?_set_ne (Ne.symm hj)] at e2
        obtain ⟨u', r', q⟩ := hl j y v' e1 e2 e3
        refine ⟨u', r', ?_⟩
        rcases q with ⟨k, e⟩ | ⟨k, c, e, z⟩
        · refine .inl ⟨k, ?_⟩
          have : y ≠ x := fun e => hj (nodup_ix hN e1 (e ▸ hi))
          simp [this, e]
        · exact .inr ⟨k, c, e, z.sameBut hs (cne y c e)⟩
    · obtain ⟨w', z⟩ := I.cell y c e
      exact ⟨w', z.sameBut hs (cne y c e)⟩
    · obtain ⟨e, n, ne, nf, d⟩ := I.pin p hp
      exact ⟨(hs.2 p.1 ne).trans e, n, ne, nf, d⟩
  · have hfn : X.fn x = true := by
      rcases hf with z | z
      · exact z
      · rw [z] at hk; cases hk
    obtain ⟨c, hc⟩ := I.ok.has x (.inl hk)
    obtain ⟨w', z⟩ := I.cell x c hc
    refine wpAny_storeName_cell I.ok.kind hk hc z (fun h' hc' hs => ?_)
    obtain ⟨oc, hoc, hocd⟩ := id z
    refine h { s with heap := h' } ⟨I.ok, I.os, I.bare, ⟨fun b o e n hb hx => ?_, fun b o e n hb hx => ?_, I.base.free, fun b o e hx => ?_, I.base.tups, I.base.frzs, I.base.tbls⟩, ⟨m, hn.sameBut hs (Ne.symm (cne x c hc)), fun j y v' e1 e2 e3 => ?_⟩, fun y c' e => ?_, I.free, I.freeC, fun p hp => ?_, tracked ⟨oc, hoc, I.freeC x c hc⟩ hs, by simpa using I.len⟩ ⟨c, hs, .inr hc⟩
    · exact (hs.2 b (Nat.ne_of_lt (Nat.lt_of_lt_of_le (Heap.lt_size e) (I.ok.cab x c hfn hc)))).trans (I.base.keep b o e n hb hx)
    · obtain ⟨sl, e1⟩ := I.base.slot b o e n hb hx
      exact ⟨sl, (hs.2 b (Nat.ne_of_lt (Nat.lt_of_lt_of_le (Heap.lt_size e) (I.ok.cab x c hfn hc)))).trans e1⟩
    · obtain ⟨o', e1⟩ := I.base.there b o e hx
      exact ⟨o', (hs.2 b (Nat.ne_of_lt (Nat.lt_of_lt_of_le (Heap.lt_size e) (I.ok.cab x c hfn hc)))).trans e1⟩
    · by_cases hj : j = i
      · subst hj
        rw [hi] at e1; cases e1
        rw [List.getElem?_set_self hiσ] at e2
        cases e2
        exact ⟨u, r, .inr ⟨.inl hk, c, hc, hc'⟩⟩
      · rw [List.getElem?_set_ne (Ne.symm hj)] at e2
        obtain ⟨u', r', q⟩ := hl j y v' e1 e2 e3
        refine ⟨u', r', ?_⟩
        rcases q with q | ⟨k, c', e, z'⟩
        · exact .inl q
        · refine .inr ⟨k, c', e, z'.sameBut hs ?_⟩
          rintro rfl
          exact hj (nodup_ix hN e1 (I.ok.inj _ _ _ e hc ▸ hi))
    · by_cases hcc : c' = c
      · subst hcc; exact ⟨_, hc'⟩
      · obtain ⟨w2, z2⟩ := I.cell y c' e
        exact ⟨w2, z2.sameBut hs hcc⟩
    · obtain ⟨e, n, ne, nf, d⟩ := I.pin p hp
      refine ⟨(hs.2 p.1 ?_).trans e, n, ne, nf, d⟩
      intro q
      rw [q, hoc] at e
      have q' : oc = p.2 := Option.some.inj e
      exact d w' (by rw [← q']; exact hocd)
theorem store_ok {M : Model} {A : Around} {E : Value → Shared → Prop} {i : Nat} {x : Str} {v : V} {u : Value} {Q : Unit → Shared → Prop} (I : Inv X pins σ H s) (hN : X.N.Nodup) (hi : X.N[i]? = some x) (hx : Loc X.env.scope x) (r : RelV v u)
    (h : ∀ s', Inv X pins (σ.set i (some v)) H s' → Q () s') (hf : X.fn x = true ∨ X.env.scope.names.lookup x = some .local := by first | exact .inl rfl | exact .inr rfl | assumption) : wpAny M A (storeName X.env x u) Q E s :=
  store_ok2 I hN hi hx r (fun s' I' _ => h s' I') hf
theorem Inv.call' {s' : Shared} {ch : List Addr} (I : Inv X pins σ H s) (ho : s'.os = s.os) (u : Un (frs X.stack) ch H H' s.heap s'.heap) (hok : HOk X.prog X.w H' s'.heap) (hg : AllBare s'.gens)
    (hch : ∀ b ∈ ch, (b ∈ X.ex ∨ X.s₀.heap.objs.size ≤ b) ∧ b ≠ X.env.locals ∧ (∀ x c, X.env.cells.lookup x = some c → c ≠ b) ∧ ∀ p ∈ X.pn ++ pins, p.1 ≠ b) : Inv X pins σ H' s' := by
  obtain ⟨h', g', d', t', o'⟩ := s'
  have e : o' = s.os := ho
  subst e
  exact I.call (g' := g') (t' := t') (d' := d') u hok hg hch
end

noncomputable abbrev XK := Value → Option Addr → Hp → Prop
noncomputable abbrev St := List (Option V)
noncomputable abbrev VK := V → Hp → Prop
noncomputable abbrev TE := St → Hp → VK → Prop
noncomputable abbrev TT := St → Hp → (Bool → Hp → Prop) → Prop
noncomputable abbrev TA := St → Hp → (List V → Hp → Prop) → Prop
structure Ends where
  nx : St → Hp → Prop
  rt : VK
  bk : St → Hp → Prop := fun _ _ => False
  ct : St → Hp → Prop := fun _ _ => False
noncomputable abbrev TS := Ends → St → Hp → Prop

noncomputable def EP (X : Cx) (pins : List (Addr × Obj)) (σ : St) (Q : VK) (u : Value) (s' : Shared) : Prop := ∃ v H', Inv X pins σ H' s' ∧ RelV v u ∧ Q v H'
noncomputable def TP (X : Cx) (pins : List (Addr × Obj)) (σ : St) (Q : Bool → Hp → Prop) (b : Bool) (s' : Shared) : Prop := ∃ H', Inv X pins σ H' s' ∧ Q b H'
noncomputable def AP (X : Cx) (pins : List (Addr × Obj)) (σ : St) (Q : List V → Hp → Prop) (us : List Value) (s' : Shared) : Prop := ∃ vs H', Inv X pins σ H' s' ∧ Vals vs us ∧ Q vs H'
noncomputable def SP (X : Cx) (pins : List (Addr × Obj)) (D : Ends) (f : Flow) (s' : Shared) : Prop :=
  match f with
  | .next => ∃ σ' H', Inv X pins σ' H' s' ∧ D.nx σ' H'
  | .brk => ∃ σ' H', Inv X pins σ' H' s' ∧ D.bk σ' H'
  | .cont => ∃ σ' H', Inv X pins σ' H' s' ∧ D.ct σ' H'
  | .ret u => ∃ v σ' H', Inv X pins σ' H' s' ∧ RelV v u ∧ D.rt v H'

noncomputable def PE (X : Cx) (e : Expr) (t : TE) : Prop :=
  ∀ (pins : List (Addr × Obj)) (s : Shared) (σ : St) (H : Hp) (Q : VK), Inv X pins σ H s → t σ H Q → wpAny (model X.prog X.w) X.A (eval e X.env) (EP X pins σ Q) X.xe s
noncomputable def PT (X : Cx) (e : Expr) (t : TT) : Prop :=
  ∀ (pins : List (Addr × Obj)) (s : Shared) (σ : St) (H : Hp) (Q : Bool → Hp → Prop), Inv X pins σ H s → t σ H Q → wpAny (model X.prog X.w) X.A (isTrue e X.env (eval e X.env)) (TP X pins σ Q) X.xe s
noncomputable def PW (X : Cx) (e : Expr) (t : TT) : Prop :=
  ∀ (whole : Sem Value) (pins : List (Addr × Obj)) (s : Shared) (σ : St) (H : Hp) (Q : Bool → Hp → Prop), Inv X pins σ H s → t σ H Q → wpAny (model X.prog X.w) X.A (isTrue e X.env whole) (TP X pins σ Q) X.xe s
theorem PW.pt {X : Cx} {e : Expr} {t : TT} (h : PW X e t) : PT X e t := h _
noncomputable def PA (X : Cx) (es : List Expr) (t : TA) : Prop :=
  ∀ (pos : Pos) (pins : List (Addr × Obj)) (s : Shared) (σ : St) (H : Hp) (Q : List V → Hp → Prop), Inv X pins σ H s → t σ H Q → wpAny (model X.prog X.w) X.A (spliced (backTo pos (starEach es X.env))) (AP X pins σ Q) X.xe s
noncomputable def PS (X : Cx) (st : Stmt) (t : TS) : Prop :=
  ∀ (pins : List (Addr × Obj)) (s : Shared) (σ : St) (H : Hp) (D : Ends), Inv X pins σ H s → t D σ H → wpAny (model X.prog X.w) X.A (exec st X.env) (SP X pins D) X.xe s
noncomputable def PSs (X : Cx) (st : List Stmt) (t : TS) : Prop :=
  ∀ (pins : List (Addr × Obj)) (s : Shared) (σ : St) (H : Hp) (D : Ends), Inv X pins σ H s → t D σ H → wpAny (model X.prog X.w) X.A (execs st X.env) (SP X pins D) X.xe s
theorem thn {α : Type} {t : Sem α} {Q Q' : α → Shared → Prop} {M : Model} {A : Around} {E : Value → Shared → Prop} {s : Shared} (h : wpAny M A t Q E s) (hQ : ∀ a s, Q a s → Q' a s) : wpAny M A t Q' E s := wpAny_mono h hQ fun _ _ x => x
end L2

namespace L2
open PySem PySem.Spec PyProof.Rows
section
variable {X : Cx}


noncomputable def tVar (i : Nat) : TE := fun σ H Q => ∃ v, σ[i]? = some (some v) ∧ Q v H
noncomputable def tC (v : V) : TE := fun _ H Q => Q v H
theorem pe_var {i : Nat} {x : Str} {pos : Pos} (hN : X.N[i]? = some x) (hv : Vis X.env.scope x) (hd : (x == ("__debug__" : Str)) = false := by decide) (hcd : (x == ("__classdict__" : Str)) = false := by decide) : PE X (.Name x pos) (tVar i) := by
  intro pins s σ H Q I h
  obtain ⟨v, e, h⟩ := h
  obtain ⟨m, hn, hl⟩ := I.loc
  obtain ⟨u, r, l⟩ := hl i x v hN e hv
  have fin : EP X pins σ Q u s := ⟨v, H, I, r, h⟩
  rcases l with ⟨hk, hm⟩ | ⟨hk, c, hc, hcell⟩
  · exact wpAny_Name (wpAny_loadName_local I.ok.kind hk hn hm fin) hd
  · rcases hk with hk | hk
    · exact wpAny_Name (wpAny_loadName_cell I.ok.kind hk hc hcell fin) hd
    · exact wpAny_Name (wpAny_loadName_free I.ok.kind hk hc hcell fin hcd) hd
theorem pe_int {i j pos} : PE X (.Constant (.int i) j pos) (tC (.int i)) := fun _ _ _ H _ I h => wpAny_Constant_int ⟨.int i, H, I.tok _, ⟨_, rfl⟩, h⟩
theorem pe_bl {b j pos} : PE X (.Constant (.bool b) j pos) (tC (.bl b)) := fun _ _ _ H _ I h => Constant_bool ⟨.bl b, H, I, rfl, h⟩

noncomputable def Gl (X : Cx) (x : Str) : Prop := X.env.kindOf x = some .globalImplicit
theorem ld_glob {E : Value → Shared → Prop} {pins : List (Addr × Obj)} {s : Shared} {σ : St} {H : Hp} {x : Str} {u : Value} {pos : Pos} {Q : Value → Shared → Prop} (I : Inv X pins σ H s) (hg : Gl X x) (hm : X.mg x = some u) (h : Q u s)
    (hd : (x == ("__debug__" : Str)) = false := by decide) : wpAny (model X.prog X.w) X.A (eval (.Name x pos) X.env) Q E s :=
  Calls.Name_function_global I.ok.kind hg (Calls.loadGlobal_global (by rw [I.ok.glob]; exact I.mod.glob.keeps I.bk) hm h) hd
theorem ld_blt {E : Value → Shared → Prop} {pins : List (Addr × Obj)} {s : Shared} {σ : St} {H : Hp} {x : Str} {u : Value} {pos : Pos} {Q : Value → Shared → Prop} (I : Inv X pins σ H s) (hg : Gl X x) (hm : X.mg x = none) (hv : bootBuiltins x = some u) (h : Q u s)
    (hn : x ≠ "__name__" := by decide) (hd : (x == ("__debug__" : Str)) = false := by decide) : wpAny (model X.prog X.w) X.A (eval (.Name x pos) X.env) Q E s := by
  obtain ⟨mb, h1, h2⟩ := I.mod.blt
  exact Calls.Name_function_global I.ok.kind hg (Calls.loadGlobal_builtin (by rw [I.ok.glob]; exact I.mod.glob.keeps I.bk) hm (by rw [I.ok.blt]; exact h1.keeps I.bk) ((h2 x hn).trans hv) h) hd
theorem pe_bltn {x : Str} {v : V} {u : Value} {pos : Pos} (hg : Gl X x) (hm : X.mg x = none) (hv : bootBuiltins x = some u) (r : RelV v u) (hn : x ≠ "__name__" := by decide) (hd : (x == ("__debug__" : Str)) = false := by decide) : PE X (.Name x pos) (tC v) :=
  fun _ _ _ H _ I h => ld_blt I hg hm hv ⟨v, H, I, r, h⟩ hn hd

noncomputable def t2I (ta tb : TE) (k : Int → Int → Hp → Prop) : St → Hp → Prop := fun σ H => ta σ H fun x H1 => tb σ H1 fun y H2 => ∃ i j, x = .int i ∧ y = .int j ∧ k i j H2
noncomputable def tAdd (ta tb : TE) : TE := fun σ H Q => t2I ta tb (fun i j H2 => Q (.int (i + j)) H2) σ H
noncomputable def tSub (ta tb : TE) : TE := fun σ H Q => t2I ta tb (fun i j H2 => Q (.int (i - j)) H2) σ H
noncomputable def tMul (ta tb : TE) : TE := fun σ H Q => t2I ta tb (fun i j H2 => (-(2 ^ 64) < i ∧ i < 2 ^ 64) ∧ Q (.int (i * j)) H2) σ H
variable {a b : Expr} {ta tb : TE} {pos : Pos}

noncomputable def PC (X : Cx) (op : CmpOp) (a b : Expr) (t : TE) : Prop :=
  ∀ (pins : List (Addr × Obj)) (s : Shared) (σ : St) (H : Hp) (Q : VK), Inv X pins σ H s → t σ H Q →
    wpAny (model X.prog X.w) X.A (eval a X.env) (fun v s₁ => wpAny (model X.prog X.w) X.A (eval b X.env) (fun u s₂ => wpAny (model X.prog X.w) X.A (compareOp op v u) (EP X pins σ Q) X.xe s₂) X.xe s₁) X.xe s
noncomputable def tCmp (p : Int → Int → Bool) (ta tb : TE) : TE := fun σ H Q => t2I ta tb (fun i j H2 => Q (.bl (p i j)) H2) σ H
noncomputable abbrev tLt : TE → TE → TE := tCmp fun i j => decide (i < j)
noncomputable abbrev tLe : TE → TE → TE := tCmp fun i j => decide (i ≤ j)
noncomputable abbrev tGt : TE → TE → TE := tCmp fun i j => decide (j < i)
noncomputable abbrev tGe : TE → TE → TE := tCmp fun i j => decide (j ≤ i)
noncomputable abbrev tEqI : TE → TE → TE := tCmp fun i j => decide (i = j)
noncomputable abbrev tNeI : TE → TE → TE := tCmp fun i j => !decide (i = j)
noncomputable def tIsN (ta : TE) : TE := fun σ H Q => ta σ H fun x H1 => Q (.bl (decide (x = .non))) H1
noncomputable def tNotN (ta : TE) : TE := fun σ H Q => ta σ H fun x H1 => Q (.bl (!decide (x = .non))) H1
noncomputable def tB (t : TE) : TT := fun σ H Q => t σ H fun x H1 => ∃ c, x = .bl c ∧ Q c H1
theorem pt_val {e : Expr} {t : TE} (h : PE X e t) (he : ∀ whole, isTrue e X.env whole = (do let v ← whole; standAt e.pos; holding [v] (truthy v)) := by intro _; rfl) : PT X e (tB t) := by
  intro pins s σ H Q I hw
  refine isTrue_plain (thn (h pins s σ H _ I hw) fun v s1 ⟨x, H1, I1, r1, q1⟩ => ?_) (he _)
  obtain ⟨d, rfl, q⟩ := q1
  cases r1
  exact wpAny_truthy_bool ⟨H1, I1, q⟩

variable {tA tB' : TT} {rest : List Expr}
noncomputable def tAnd (t u : TT) : TT := fun σ H Q => t σ H fun c H1 => if c = true then u σ H1 Q else Q false H1
noncomputable def tOr (t u : TT) : TT := fun σ H Q => t σ H fun c H1 => if c = true then Q true H1 else u σ H1 Q
noncomputable def tNot (t : TT) : TT := fun σ H Q => t σ H fun c H1 => Q (!c) H1
theorem pw_and1 (ha : PT X a tA) : PW X (.BoolOp .And [a] pos) tA := by
  intro wh pins s σ H Q I h
  refine isTrue_and (thn (ha pins s σ H Q I h) fun c s1 e => ?_)
  cases c with
  | true => exact isTrue_and_nil e
  | false => exact e
theorem pw_or1 (ha : PT X a tA) : PW X (.BoolOp .Or [a] pos) tA := by
  intro wh pins s σ H Q I h
  refine isTrue_or (thn (ha pins s σ H Q I h) fun c s1 e => ?_)
  cases c with
  | false => exact isTrue_or_nil e
  | true => exact e
theorem pw_and (ha : PT X a tA) (hb : PW X (.BoolOp .And (b :: rest) pos) tB') : PW X (.BoolOp .And (a :: b :: rest) pos) (tAnd tA tB') := by
  intro wh pins s σ H Q I h
  refine isTrue_and (thn (ha pins s σ H _ I h) fun c s1 ⟨H1, I1, q1⟩ => ?_)
  cases c with
  | true => exact hb wh pins s1 σ H1 Q I1 q1
  | false => exact ⟨H1, I1, q1⟩
theorem pw_or (ha : PT X a tA) (hb : PW X (.BoolOp .Or (b :: rest) pos) tB') : PW X (.BoolOp .Or (a :: b :: rest) pos) (tOr tA tB') := by
  intro wh pins s σ H Q I h
  refine isTrue_or (thn (ha pins s σ H _ I h) fun c s1 ⟨H1, I1, q1⟩ => ?_)
  cases c with
  | true => exact ⟨H1, I1, q1⟩
  | false => exact hb wh pins s1 σ H1 Q I1 q1
theorem pt_not (ha : PT X a tA) : PT X (.UnaryOp .Not a pos) (tNot tA) := by
  intro pins s σ H Q I h
  exact isTrue_not (ha pins s σ H (fun c H1 => Q (!c) H1) I h)
noncomputable def tAndV (ta tb : TE) : TE := fun σ H Q => ta σ H fun x H1 => ∃ c, x = .bl c ∧ if c = true then tb σ H1 Q else Q (.bl false) H1
noncomputable def tOrV (ta tb : TE) : TE := fun σ H Q => ta σ H fun x H1 => ∃ c, x = .bl c ∧ if c = true then Q (.bl true) H1 else tb σ H1 Q
noncomputable def tNotV (ta : TE) : TE := fun σ H Q => ta σ H fun x H1 => ∃ c, x = .bl c ∧ Q (.bl (!c)) H1
theorem pe_one {op} {t : TE} (h : PE X a t) : PE X (.BoolOp op [a] pos) t := fun pins s σ H Q I hw => BoolOp_one (h pins s σ H Q I hw)
theorem pe_and (ha : PE X a ta) (hb : PE X (.BoolOp .And (b :: rest) pos) tb) : PE X (.BoolOp .And (a :: b :: rest) pos) (tAndV ta tb) := by
  intro pins s σ H Q I h
  refine BoolOp_and (thn (ha pins s σ H _ I h) fun v s1 ⟨x, H1, I1, r1, q1⟩ => ?_)
  obtain ⟨c, rfl, q1⟩ := q1
  cases r1
  refine wpAny_truthy_bool ?_
  cases c with
  | true => exact hb pins s1 σ H1 Q I1 q1
  | false => exact ⟨.bl false, H1, I1, rfl, q1⟩
theorem pe_not (ha : PE X a ta) : PE X (.UnaryOp .Not a pos) (tNotV ta) := by
  intro pins s σ H Q I h
  refine UnaryOp_ (thn (ha pins s σ H _ I h) fun v s1 ⟨x, H1, I1, r1, q1⟩ => ?_)
  obtain ⟨c, rfl, q1⟩ := q1
  cases r1
  exact not_of (wpAny_truthy_bool ⟨.bl (!c), H1, I1, rfl, q1⟩)
noncomputable def tIf (t : TT) (ta tb : TE) : TE := fun σ H Q => t σ H fun c H1 => if c = true then ta σ H1 Q else tb σ H1 Q
end
end L2

namespace L2
open PySem PySem.Spec PyProof.Rows

noncomputable def SqL (K : PySem.W.Frag) (H : Hp) (a : Addr) (xs : List V) : Prop :=
  Rd H a (.lst xs) ∨
    ∃ (o : Obj) (its : Array Value) (n : Nat), K.lookup a = some o ∧ o.cls = .type "list" ∧ o.dict = none ∧ o.data = .seq its n ∧ its.size ≤ sizeLine ∧ Vals xs its.toList
noncomputable def SqT (K : PySem.W.Frag) (H : Hp) (a : Addr) (xs : List V) : Prop :=
  Rd H a (.tup xs) ∨
    ∃ (o : Obj) (its : Array Value) (n : Nat), K.lookup a = some o ∧ o.cls = .type "tuple" ∧ o.data = .seq its n ∧ its.size ≤ sizeLine ∧ Vals xs its.toList
noncomputable def absV : Value → Option V
  | .none => some .non
  | .bool b => some (.bl b)
  | .int i _ => some (.int i)
  | .str x _ => some (.str x)
  | .bytes b _ => some (.byt b)
  | .float b _ => some (.flt b)
  | .ref a => some (.ref a)
  | .type n => some (.ty n)
  | _ => none
theorem RelV.abs {x : V} {u : Value} (r : RelV x u) : absV u = some x := by
  cases x with
  | non => cases r; rfl
  | bl _ => cases r; rfl
  | int _ => obtain ⟨t, rfl⟩ := r; rfl
  | str _ => obtain ⟨t, rfl⟩ := r; rfl
  | byt _ => obtain ⟨t, rfl⟩ := r; rfl
  | flt _ => obtain ⟨t, rfl⟩ := r; rfl
  | ref _ => cases r; rfl
  | ty _ => cases r; rfl
theorem RelV.inj {x y : V} {u : Value} (r : RelV x u) (q : RelV y u) : x = y := Option.some.inj (r.abs.symm.trans q.abs)
theorem Vals.inj : ∀ {xs ys : List V} {us : List Value}, Vals xs us → Vals ys us → xs = ys
  | _, _, _, .nil, .nil => rfl
  | _, _, _, .cons r t, .cons r' t' => by rw [r.inj r', Vals.inj t t']
section
variable {X : Cx} {pins : List (Addr × Obj)} {σ : St} {H : Hp} {s : Shared} {a : Addr} {xs ys : List V}
theorem SqL.of {K : PySem.W.Frag} (h : H a = some (.lst xs)) : SqL K H a xs := .inl (.inl h)
theorem SqT.of {K : PySem.W.Frag} (h : H a = some (.tup xs)) : SqT K H a xs := .inl (.inl h)
theorem Inv.list (I : Inv X pins σ H s) (h : SqL X.K H a xs) : ∃ its : List Value, Vals xs its ∧ PlainL s.heap a its.toArray ∧ xs.length ≤ sizeLine := by
  rcases h with h | ⟨o, its, n, hk, hc, hd, hs, hz, r⟩
  · obtain ⟨z, its, n, r, e⟩ := h.ok I.hok
    exact ⟨its, r, ⟨_, n, e, rfl, rfl, rfl⟩, z⟩
  · refine ⟨its.toList, r, ⟨o, n, I.kIn a o hk, hc, hd, by simpa using hs⟩, ?_⟩
    have e := r.length
    simp only [Array.length_toList] at e
    (first | lia | omega)
theorem Inv.tuple (I : Inv X pins σ H s) (h : SqT X.K H a xs) : ∃ its : List Value, Vals xs its ∧ IsTup s.heap a its.toArray ∧ xs.length ≤ sizeLine := by
  rcases h with h | ⟨o, its, n, hk, hc, hs, hz, r⟩
  · obtain ⟨z, its, r, p⟩ := h.ok I.hok
    exact ⟨its, r, p, z⟩
  · refine ⟨its.toList, r, ⟨o, I.kIn a o hk, hc, n, by simpa using hs⟩, ?_⟩
    have e := r.length
    simp only [Array.length_toList] at e
    (first | lia | omega)
theorem Inv.list_inj (I : Inv X pins σ H s) (h : SqL X.K H a xs) (h' : SqL X.K H a ys) : xs = ys := by
  obtain ⟨its, r, ⟨o, n, e, _, _, d⟩, _⟩ := I.list h
  obtain ⟨its', r', ⟨o', n', e', _, _, d'⟩, _⟩ := I.list h'
  rw [e] at e'; cases e'
  rw [d] at d'
  injection d' with d1 _
  have : its = its' := by simpa using congrArg Array.toList d1
  subst this
  exact r.inj r'
theorem Inv.tuple_inj (I : Inv X pins σ H s) (h : SqT X.K H a xs) (h' : SqT X.K H a ys) : xs = ys := by
  obtain ⟨its, r, ⟨o, e, _, n, d⟩, _⟩ := I.tuple h
  obtain ⟨its', r', ⟨o', e', _, n', d'⟩, _⟩ := I.tuple h'
  rw [e] at e'; cases e'
  rw [d] at d'
  injection d' with d1 _
  have : its = its' := by simpa using congrArg Array.toList d1
  subst this
  exact r.inj r'
end

noncomputable abbrev Cx.wish (X : Cx) (E : Value → Shared → Prop) : Cx := { X with xe := E }
noncomputable abbrev Cx.nox (X : Cx) : Cx := X.wish fun _ _ => False
theorem Cx.Ok.wish {X : Cx} (ok : X.Ok) (E : Value → Shared → Prop) : (X.wish E).Ok :=
  ⟨ok.mod, ok.kind, ok.glob, ok.blt, ok.above, ok.inj, ok.has, ok.cab, ok.hd, ok.frames, ok.stk, ok.exf, ok.bs, ok.bsz, ok.noex, ok.exfs, ok.funs, ok.frf⟩
theorem Cx.Ok.unwish {X : Cx} {E : Value → Shared → Prop} (ok : (X.wish E).Ok) : X.Ok :=
  ⟨ok.mod, ok.kind, ok.glob, ok.blt, ok.above, ok.inj, ok.has, ok.cab, ok.hd, ok.frames, ok.stk, ok.exf, ok.bs, ok.bsz, ok.noex, ok.exfs, ok.funs, ok.frf⟩
section
variable {X : Cx} {pins : List (Addr × Obj)} {σ : St} {H : Hp} {s : Shared} {E : Value → Shared → Prop}
theorem Inv.wish (I : Inv X pins σ H s) (E : Value → Shared → Prop) : Inv (X.wish E) pins σ H s := ⟨I.ok.wish E, I.os, I.bare, I.base, I.loc, I.cell, I.free, I.freeC, I.pin, I.hok, I.len⟩
theorem Inv.unwish (I : Inv (X.wish E) pins σ H s) : Inv X pins σ H s := ⟨I.ok.unwish, I.os, I.bare, I.base, I.loc, I.cell, I.free, I.freeC, I.pin, I.hok, I.len⟩
theorem SP.unwish {D : Ends} {f : Flow} {s' : Shared} (h : SP (X.wish E) pins D f s') : SP X pins D f s' := by
  cases f with
  | next => obtain ⟨σ', H', I, q⟩ := h; exact ⟨σ', H', I.unwish, q⟩
  | brk => obtain ⟨σ', H', I, q⟩ := h; exact ⟨σ', H', I.unwish, q⟩
  | cont => obtain ⟨σ', H', I, q⟩ := h; exact ⟨σ', H', I.unwish, q⟩
  | ret u => obtain ⟨v, σ', H', I, r, q⟩ := h; exact ⟨v, σ', H', I.unwish, r, q⟩
theorem PSs.nox {st : List Stmt} {t : TS} (h : PSs X.nox st t) : PSs X st t := fun pins s σ H D I hw =>
  wpAny_mono (h pins s σ H D (I.wish _) hw) (fun _ _ q => q.unwish) fun _ _ z => False.elim z
end

section
variable {X : Cx} {st : Stmt} {rest : List Stmt} {t u : TS} {e : Expr} {te : TE} {pos : Pos}
noncomputable def tNext : TS := fun D σ H => D.nx σ H
noncomputable def tSeq (t u : TS) : TS := fun D σ H => t { D with nx := u D } σ H
theorem pss_nil : PSs X [] tNext := fun _ _ σ H _ I h => wpAny_execs_nil ⟨σ, H, I, h⟩
theorem pss_cons (h1 : PS X st t) (h2 : PSs X rest u) : PSs X (st :: rest) (tSeq t u) := by
  intro pins s σ H D I h
  refine wpAny_execs_cons (thn (h1 pins s σ H { D with nx := u D } I h) fun f s1 q => ?_)
  cases f with
  | next =>
    obtain ⟨σ', H', I', q⟩ := q
    exact h2 pins s1 σ' H' D I' q
  | ret v => exact q
  | brk => exact q
  | cont => exact q
theorem pss_one (h1 : PS X st t) : PSs X [st] t := by
  intro pins s σ H D I h
  refine wpAny_execs_cons (thn (h1 pins s σ H D I h) fun f s1 q => ?_)
  cases f with
  | next => exact wpAny_execs_nil q
  | ret v => exact q
  | brk => exact q
  | cont => exact q
noncomputable def tBreak : TS := fun D σ H => D.bk σ H
noncomputable def tCont : TS := fun D σ H => D.ct σ H
theorem Inv.quiet {pins : List (Addr × Obj)} {σ : St} {H : Hp} {s : Shared} (I : Inv X pins σ H s) : interactive X.env = false := by simp [interactive, I.ok.kind]
noncomputable def tDrop (te : TE) : TS := fun D σ H => te σ H fun _ H1 => D.nx σ H1
theorem ps_expr (he : PE X e te) (hs : swapsWith e none pos.line X.env = pure false := by rfl) : PS X (.Expr e pos) (tDrop te) := by
  intro pins s σ H D I h
  exact wpAny_Expr_any (thn (he pins s σ H _ I h) fun v s1 ⟨x, H1, I1, r1, q1⟩ => ⟨σ, H1, I1, q1⟩) I.quiet hs
noncomputable def tRet (te : TE) : TS := fun D σ H => te σ H D.rt
theorem ps_ret (he : PE X e te) : PS X (.Return (some e) pos) (tRet te) := by
  intro pins s σ H D I h
  exact wpAny_Return_some (thn (he pins s σ H _ I h) fun v s1 ⟨x, H1, I1, r1, q1⟩ => ⟨x, σ, H1, I1, r1, q1⟩)
noncomputable def tRetN : TS := fun D _ H => D.rt .non H
noncomputable def tIfS (c : TT) (t u : TS) : TS := fun D σ H => c σ H fun b H1 => if b = true then t D σ H1 else u D σ H1
theorem ps_if {c : Expr} {a b : List Stmt} {tc : TT} (hc : PT X c tc) (ha : PSs X a t) (hb : PSs X b u) : PS X (.If c a b pos) (tIfS tc t u) := by
  intro pins s σ H D I h
  refine wpAny_If (thn (hc pins s σ H _ I h) fun d s1 ⟨H1, I1, q1⟩ => ?_)
  cases d with
  | true => exact ha pins s1 σ H1 D I1 q1
  | false => exact hb pins s1 σ H1 D I1 q1
noncomputable def tNever : TS := fun _ _ _ => False
theorem ps_never : PS X st tNever := fun _ _ _ _ _ _ h => h.elim
end

noncomputable abbrev TG := V → St → Hp → (St → Hp → Prop) → Prop
noncomputable abbrev TGs := List V → St → Hp → (St → Hp → Prop) → Prop
noncomputable def PG (X : Cx) (target : Expr) (t : TG) : Prop :=
  ∀ (pins : List (Addr × Obj)) (s : Shared) (σ : St) (H : Hp) (v : V) (u : Value) (Q : St → Hp → Prop), Inv X pins σ H s → RelV v u → t v σ H Q →
    wpAny (model X.prog X.w) X.A (assign target X.env u) (fun _ s' => ∃ σ' H', Inv X pins σ' H' s' ∧ Q σ' H') X.xe s
noncomputable def PGs (X : Cx) (ts : List Expr) (t : TGs) : Prop :=
  ∀ (pins : List (Addr × Obj)) (s : Shared) (σ : St) (H : Hp) (vs : List V) (us : List Value) (Q : St → Hp → Prop), Inv X pins σ H s → Vals vs us → t vs σ H Q →
    wpAny (model X.prog X.w) X.A (assignInOrder ((assignEach ts X.env).map (·.2)) us) (fun _ s' => ∃ σ' H', Inv X pins σ' H' s' ∧ Q σ' H') X.xe s
noncomputable abbrev TSet := V → V → V → Hp → (Hp → Prop) → Prop
noncomputable def PSet (X : Cx) (t : TSet) : Prop :=
  ∀ (pins : List (Addr × Obj)) (s : Shared) (σ : St) (H : Hp) (o i v : V) (ov iv u : Value) (Q : Hp → Prop), Inv X pins σ H s → RelV o ov → RelV i iv → RelV v u → t o i v H Q →
    wpAny (model X.prog X.w) X.A (setItem ov iv u) (fun _ s' => ∃ H', Inv X pins σ H' s' ∧ Q H') X.xe s
noncomputable abbrev TIp := V → V → Hp → VK → Prop
noncomputable def PIp (X : Cx) (op : Operator) (t : TIp) : Prop :=
  ∀ (pins : List (Addr × Obj)) (s : Shared) (σ : St) (H : Hp) (x y : V) (v u : Value) (Q : VK), Inv X pins σ H s → RelV x v → RelV y u → t x y H Q →
    wpAny (model X.prog X.w) X.A (inplaceOp op v u) (EP X pins σ Q) X.xe s
section
variable {X : Cx} {pos : Pos}
noncomputable def gName (i : Nat) : TG := fun v σ H Q => Q (σ.set i (some v)) H
theorem pg_name {i : Nat} {x : Str} (hN : X.N.Nodup) (hi : X.N[i]? = some x) (hx : Loc X.env.scope x) (hf : X.fn x = true ∨ X.env.scope.names.lookup x = some .local := by first | exact .inl rfl | exact .inr rfl | assumption) : PG X (.Name x pos) (gName i) := by
  intro pins s σ H v u Q I r h
  exact wpAny_assign_Name (store_ok I hN hi hx r (fun s' I' => ⟨_, H, I', h⟩) hf)
noncomputable def gNil : TGs := fun vs σ H Q => vs = [] ∧ Q σ H
noncomputable def gCons (t : TG) (u : TGs) : TGs := fun vs σ H Q => ∃ v r, vs = v :: r ∧ t v σ H fun σ' H' => u r σ' H' Q
theorem pgs_nil : PGs X [] gNil := by
  intro pins s σ H vs us Q I r h
  obtain ⟨e, h⟩ := h
  subst e
  cases r
  exact assignInOrder_nil ⟨σ, H, I, h⟩
theorem pgs_cons {e : Expr} {es : List Expr} {t : TG} {u : TGs} (h1 : PG X e t) (h2 : PGs X es u)
    (hs : (assignEach (e :: es) X.env).map (·.2) = assign e X.env :: (assignEach es X.env).map (·.2) := by rfl) : PGs X (e :: es) (gCons t u) := by
  intro pins s σ H vs us Q I r h
  obtain ⟨v, vr, e1, h⟩ := h
  subst e1
  cases r with
  | cons r rr =>
    rw [hs]
    refine assignInOrder_cons (thn (h1 pins s σ H _ _ _ I r h) fun _ s1 ⟨σ1, H1, I1, q1⟩ => ?_)
    exact h2 pins s1 σ1 H1 _ _ Q I1 rr q1
noncomputable def gTup (K : PySem.W.Frag) (n : Nat) (t : TGs) : TG := fun v σ H Q => ∃ a xs, v = .ref a ∧ SqT K H a xs ∧ xs.length = n ∧ t xs σ H Q
theorem pg_tup {es : List Expr} {k : Nat} {t : TGs} {n : Nat} (hc : X.calm = true) (h : PGs X es t)
    (hn : (assignEach es X.env).length = n := by rfl) (hst : (assignEach es X.env).findIdx? (·.1) = none := by rfl) : PG X (.Tuple es k pos) (gTup X.K n t) := by
  intro pins s σ H v u Q I r hw
  obtain ⟨a, xs, e1, hq, hl, hw⟩ := hw
  subst e1
  cases r
  obtain ⟨its, rv, ht, hz⟩ := I.tuple hq
  refine assign_Tuple_tuple (I.ok.hd hc) ht (by simp [hn, ← hl, rv.length]) hst fun h' hx => ?_
  have I1 : Inv X pins σ H { s with heap := h' } := I.kept (t' := s.toks) fun b o e => hx b o (Nat.ne_of_lt (Heap.lt_size e)) e
  exact h pins _ σ H xs _ Q I1 (by simpa using rv) hw
noncomputable def gSub (to ti : TE) (t : TSet) : TG := fun v σ H Q => to σ H fun o H1 => ti σ H1 fun i H2 => t o i v H2 fun H3 => Q σ H3
theorem pg_sub {o i : Expr} {to ti : TE} {t : TSet} (ho : PE X o to) (hi : PE X i ti) (hs : PSet X t)
    (ha : ∀ v, assign (.Subscript o i pos) X.env v = (do
      let ov ← holding [v] (eval o X.env)
      let iv ← holding [v, ov] (eval i X.env)
      standAt pos
      holding [v, ov, iv] (setItem ov iv v)
      release [v, ov, iv] []) := by intro _; rfl) : PG X (.Subscript o i pos) (gSub to ti t) := by
  intro pins s σ H v u Q I r h
  rw [ha]
  refine wpAny_bind (wpAny_holding (thn (ho pins s σ H _ I h) fun ov s1 ⟨x, H1, I1, r1, q1⟩ => ?_))
  refine wpAny_bind (wpAny_holding (thn (hi pins s1 σ H1 _ I1 q1) fun iv s2 ⟨y, H2, I2, r2, q2⟩ => ?_))
  refine wpAny_bind (wpAny_standAt (wpAny_bind (wpAny_holding (thn (hs pins s2 σ H2 x y v ov iv u _ I2 r1 r2 r q2) fun _ s3 ⟨H3, I3, q3⟩ => ?_))))
  exact wpAny_release ⟨σ, H3, I3, q3⟩
noncomputable def tAsg (te : TE) (g : TG) : TS := fun D σ H => te σ H fun x H1 => g x σ H1 D.nx
theorem ps_asg {tg e : Expr} {te : TE} {g : TG} (he : PE X e te) (hg : PG X tg g) (hs : swapsWithSole [tg] e pos.line X.env = pure false := by rfl) (hw : swappedStores [tg] e X.env = pure none := by rfl)
    (h1 : (assignEach [tg] X.env).map (·.2) = [assign tg X.env] := by rfl) : PS X (.Assign [tg] e pos) (tAsg te g) := by
  intro pins s σ H D I h
  refine wpAny_Assign_stores (thn (he pins s σ H _ I h) fun v s1 ⟨x, H1, I1, r1, q1⟩ => ?_) hs hw
  rw [h1]
  exact thn (hg pins s1 σ H1 x v _ I1 r1 q1) fun _ s2 q => q
theorem ps_set {i : Nat} {x : Str} {e : Expr} {te : TE} {pos' : Pos} (hN : X.N.Nodup) (hi : X.N[i]? = some x) (hx : Loc X.env.scope x) (he : PE X e te) (hs : swapsWith e (some (.Name x pos')) pos.line X.env = pure false := by rfl) (hf : X.fn x = true ∨ X.env.scope.names.lookup x = some .local := by first | exact .inl rfl | exact .inr rfl | assumption) :
    PS X (.Assign [.Name x pos'] e pos) (tAsg te (gName i)) := by
  intro pins s σ H D I h
  refine wpAny_Assign_Name (thn (he pins s σ H _ I h) fun v s1 ⟨y, H1, I1, r1, q1⟩ => ?_) hs
  exact store_ok I1 hN hi hx r1 (fun s2 I2 => ⟨_, H1, I2, q1⟩) hf
noncomputable def tPar (i j : Nat) (ta : TA) : TS := fun D σ H => ta σ H fun vs H1 => ∃ v w, vs = [v, w] ∧ D.nx ((σ.set i (some v)).set j (some w)) H1
theorem ps_par {i j : Nat} {x y : Str} {a b : Expr} {ta : TA} {px py pt : Pos} {kt k2 pt2} (hc : X.calm = true) (hN : X.N.Nodup) (hi : X.N[i]? = some x) (hj : X.N[j]? = some y) (hij : i ≠ j)
    (hx : X.env.scope.names.lookup x = some .local) (hy : X.env.scope.names.lookup y = some .local) (ha : PA X [a, b] ta)
    (hw : swappedStores [.Tuple [.Name x px, .Name y py] kt pt] (.Tuple [a, b] k2 pt2) X.env = pure (some [x, y]))
    (hs : swapsWithSole [.Tuple [.Name x px, .Name y py] kt pt] (.Tuple [a, b] k2 pt2) pos.line X.env = pure false := by rfl) :
    PS X (.Assign [.Tuple [.Name x px, .Name y py] kt pt] (.Tuple [a, b] k2 pt2) pos) (tPar i j ta) := by
  intro pins s σ H D I h
  rw [exec_Assign_arm]
  refine wpAny_bind (wpAny_standAt ?_)
  rw [hs]
  refine wpAny_bind (wpAny_pure ?_)
  rw [if_neg (by decide)]
  refine wpAny_bind (Tuple_ (thn (ha _ pins s σ H _ I h) fun us s1 ⟨vs, H1, I1, r1, q1⟩ => ?_))
  obtain ⟨v, w, e1, q1⟩ := q1
  subst e1
  obtain ⟨u1, u2, rfl, rv, rw'⟩ : ∃ u1 u2, us = [u1, u2] ∧ RelV v u1 ∧ RelV w u2 := by
    cases r1 with
    | cons p q =>
      cases q with
      | cons p' q' =>
        cases q'
        exact ⟨_, _, rfl, p, p'⟩
  refine wpAny_newObj_type ?_ (by show 2 ≤ sizeLine; decide)
  have I2 : Inv X pins σ H1 { s1 with heap := s1.heap.push { cls := .type "tuple", data := .seq [u1, u2].toArray } } := I1.kept (t' := s1.toks) fun b o e => Heap.get?_push_of_some _ e
  rw [hw]
  refine wpAny_bind (wpAny_pure ?_)
  show wpAny (model X.prog X.w) X.A (do rule "assign.swapped-stores"; let items ← unpackItems (.ref s1.heap.objs.size) 2 none; assignInOrder [fun v => bindName X.env y v, fun v => bindName X.env x v] items.reverse; pure Flow.next) _ _ _
  refine wpAny_bind (wpAny_rule (wpAny_bind (unpackItems_tuple (items := #[u1, u2]) (I.ok.hd hc) (IsTup.new s1.heap _) fun h' hx' => ?_)))
  have I3 := I2.kept (h' := h') (t' := s1.toks) fun b o e => hx' b o (Nat.ne_of_lt (Heap.lt_size e)) e
  show wpAny _ _ (assignInOrder [fun v => bindName X.env y v, fun v => bindName X.env x v] [u2, u1] >>= fun _ => pure Flow.next) _ _ _
  refine wpAny_bind (assignInOrder_cons (wpAny_bindName (store_ok I3 hN hj (.inl hy) rw' (fun s2 I4 => ?_) (.inr hy))))
  refine assignInOrder_cons (wpAny_bindName (store_ok I4 hN hi (.inl hx) rv (fun s3 I5 => assignInOrder_nil (wpAny_pure ?_)) (.inr hx)))
  rw [List.set_comm _ _ (Ne.symm hij)] at I5
  exact ⟨_, H1, I5, q1⟩
noncomputable def tAug (i : Nat) (te : TE) (ti : TIp) : TS := fun D σ H => ∃ x, σ[i]? = some (some x) ∧ te σ H fun y H1 => ti x y H1 fun z H2 => D.nx (σ.set i (some z)) H2
theorem ps_aug {i : Nat} {x : Str} {e : Expr} {te : TE} {op : Operator} {ti : TIp} {pos' : Pos} (hN : X.N.Nodup) (hi : X.N[i]? = some x) (hx : Loc X.env.scope x) (he : PE X e te) (ho : PIp X op ti) (hf : X.fn x = true ∨ X.env.scope.names.lookup x = some .local := by first | exact .inl rfl | exact .inr rfl | assumption) :
    PS X (.AugAssign (.Name x pos') op e pos) (tAug i te ti) := by
  intro pins s σ H D I h
  obtain ⟨v, e1, h⟩ := h
  obtain ⟨m, hn, hl⟩ := I.loc
  have vis : Vis X.env.scope x := by rcases hx with k | k; exact .inl k; exact .inr (.inl k)
  obtain ⟨u, r, l⟩ := hl i x v hi e1 vis
  refine wpAny_AugAssign_Name ?_
  have go : wpAny (model X.prog X.w) X.A (eval e X.env) (fun w s₂ => wpAny (model X.prog X.w) X.A (inplaceOp op u w) (fun r s₃ => wpAny (model X.prog X.w) X.A (storeName X.env x r) (fun _ => SP X pins D .next) X.xe s₃) X.xe s₂) X.xe s := by
    refine thn (he pins s σ H _ I h) fun w s1 ⟨y, H1, I1, r1, q1⟩ => ?_
    refine thn (ho pins s1 σ H1 v y u w _ I1 r r1 q1) fun z s2 ⟨zv, H2, I2, r2, q2⟩ => ?_
    exact store_ok I2 hN hi hx r2 (fun s3 I3 => ⟨_, H2, I3, q2⟩) hf
  rcases l with ⟨hk, hm⟩ | ⟨hk, c, hc, hcell⟩
  · exact wpAny_loadName_local I.ok.kind hk hn hm go
  · rcases hk with hk | hk
    · exact wpAny_loadName_cell I.ok.kind hk hc hcell go
    · rcases hx with k | k
      · have : X.env.scope.names.lookup x = some .free := hk
        rw [k] at this; cases this
      · have : X.env.scope.names.lookup x = some .free := hk
        rw [k] at this; cases this
noncomputable def tAugS (to ti te : TE) (tget : V → V → Hp → VK → Prop) (tip : TIp) (tset : TSet) : TS := fun D σ H => to σ H fun o H1 => ti σ H1 fun i H2 => tget o i H2 fun x H3 => te σ H3 fun y H4 => tip x y H4 fun z H5 => tset o i z H5 fun H6 => D.nx σ H6
noncomputable def PGet (X : Cx) (t : V → V → Hp → VK → Prop) : Prop :=
  ∀ (pins : List (Addr × Obj)) (s : Shared) (σ : St) (H : Hp) (o i : V) (ov iv : Value) (Q : VK), Inv X pins σ H s → RelV o ov → RelV i iv → t o i H Q →
    wpAny (model X.prog X.w) X.A (getItem ov iv) (EP X pins σ Q) X.xe s
noncomputable def ipI (f : Int → Int → Int) : TIp := fun x y H Q => ∃ i j, x = .int i ∧ y = .int j ∧ Q (.int (f i j)) H
theorem ip_sub : PIp X .Sub (ipI fun i j => i - j) := by
  intro pins s σ H x y v u Q I r1 r2 h
  obtain ⟨i, j, e1, e2, q⟩ := h
  subst e1; subst e2
  obtain ⟨t, rfl⟩ := r1
  obtain ⟨t', rfl⟩ := r2
  exact isub_int ⟨.int _, H, I.tok _, ⟨_, rfl⟩, q⟩
end

section
variable {X : Cx} {pos : Pos}
noncomputable def tWhile (c : TT) (tb : TS) : TS := fun D σ H => ∃ W : Nat → St → Hp → Prop, (∃ m, W m σ H) ∧ ∀ m σ H, W m σ H →
  c σ H fun b H1 => if b = true then ∃ N : St → Hp → Prop, (∀ σ' H', N σ' H' → ∃ m', m' < m ∧ W m' σ' H') ∧ tb { D with nx := N, ct := N, bk := D.nx } σ H1 else D.nx σ H1
theorem ps_while {c : Expr} {body : List Stmt} {tc : TT} {tb : TS} (hp : PassesOwn (model X.prog X.w) X.A X.env X.xe) (hc : PT X c tc) (hb : PSs X body tb) : PS X (.While c body [] pos) (tWhile tc tb) := by
  intro pins s σ H D I h
  obtain ⟨W, ⟨m0, w0⟩, turn⟩ := h
  refine wpAny_While (codeAny_whileLoop (fun n s' => ∃ σ' H', Inv X pins σ' H' s' ∧ W n σ' H') ?_ m0 ⟨σ, H, I, w0⟩)
  rintro n s1 ⟨σ1, H1, I1, w1⟩
  refine wpAny_passesOwn hp (thn (hc pins s1 σ1 H1 _ I1 (turn n σ1 H1 w1)) fun b s2 ⟨H2, I2, q2⟩ => ?_)
  cases b with
  | true =>
    obtain ⟨N, hN, q2⟩ := q2
    rw [if_pos rfl]
    refine wpAny_passesOwn hp (thn (hb pins s2 σ1 H2 _ I2 q2) fun f s3 q3 => ?_)
    cases f with
    | next =>
      obtain ⟨σ3, H3, I3, n3⟩ := q3
      obtain ⟨m', hm, w3⟩ := hN σ3 H3 n3
      exact ⟨m', hm, σ3, H3, I3, w3⟩
    | cont =>
      obtain ⟨σ3, H3, I3, n3⟩ := q3
      obtain ⟨m', hm, w3⟩ := hN σ3 H3 n3
      exact ⟨m', hm, σ3, H3, I3, w3⟩
    | brk => exact q3
    | ret v => exact q3
  | false =>
    rw [if_neg Bool.false_ne_true]
    exact wpAny_execs_nil ⟨σ1, H2, I2, q2⟩
end

structure It where
  go : Nat → Hp → Prop
  yld : Nat → Hp → V → Hp → Prop
  stop : Nat → Hp → Prop
noncomputable def FpOk (X : Cx) (pins : List (Addr × Obj)) (H : Hp) (b : Addr) : Prop :=
  H b = none ∧ b ≠ X.env.locals ∧ b ∉ X.fs ∧ (b ∈ X.ex ∨ X.s₀.heap.objs.size ≤ b) ∧ (∀ x c, X.env.cells.lookup x = some c → c ≠ b) ∧ ∀ p ∈ X.pn ++ pins, p.1 ≠ b
theorem Inv.fpOk {X : Cx} {pins : List (Addr × Obj)} {σ : St} {H H' : Hp} {s : Shared} {b : Addr} (I : Inv X pins σ H s) (hb : s.heap.objs.size ≤ b) (hn : H' b = none) : FpOk X pins H' b := by
  refine ⟨hn, Nat.ne_of_gt (Nat.lt_of_lt_of_le I.lt hb), I.nofs hb, .inr (Nat.le_trans I.sz hb), fun x c e z => ?_, fun p hp z => ?_⟩
  · obtain ⟨v, q⟩ := I.cell x c e
    exact absurd (Nat.lt_of_lt_of_le q.lt (by rw [z]; exact hb)) (Nat.lt_irrefl _)
  · exact absurd (Nat.lt_of_lt_of_le (Heap.lt_size (I.pin p hp).1) (by rw [z]; exact hb)) (Nat.lt_irrefl _)
structure Turn (P : Program) (w : World) (K : PySem.W.Frag) (tg : Expr) (J : It) (fp : List Addr) (it : Addr) (tn : Nat → Heap → Prop) : Prop where
  mem : it ∈ fp
  obj : ∀ i h, tn i h → ∀ b ∈ fp, ∃ o, h.get? b = some o ∧ ∀ v, o.data ≠ .cell v
  keep : ∀ i h h', tn i h → (∀ b ∈ fp, ∀ o, h.get? b = some o → h'.get? b = some o) → tn i h'
  item : ∀ (X : Cx), X.prog = P → X.w = w → X.K = K → X.calm = true → ∀ (i : Nat) (pins : List (Addr × Obj)) (s : Shared) (σ : St) (H : Hp) (E : Value → Shared → Prop), Inv X pins σ H s → (∀ b ∈ fp, FpOk X pins H b) → tn i s.heap → J.go i H →
    wpAny (model P w) X.A (pyNext (.ref it)) (fun r s1 => ∃ u, r = some u ∧
      wpAny (model P w) X.A (letOwnedTupleGo tg (.ref it) u) (fun _ s2 => ∃ x H', Inv X pins σ H' s2 ∧ RelV x u ∧ J.yld i H x H' ∧ tn (i + 1) s2.heap ∧ ∀ b ∈ fp, H' b = none) E s1) E s
  done : ∀ (X : Cx), X.prog = P → X.w = w → X.K = K → X.calm = true → ∀ (i : Nat) (pins : List (Addr × Obj)) (s : Shared) (σ : St) (H : Hp) (E : Value → Shared → Prop), Inv X pins σ H s → (∀ b ∈ fp, FpOk X pins H b) → tn i s.heap → J.stop i H →
    wpAny (model P w) X.A (pyNext (.ref it)) (fun r s1 => r = none ∧ Inv X pins σ H s1) E s
  self : ∀ (A : Around) (i : Nat) (s : Shared) (Q : Value → Shared → Prop) (E : Value → Shared → Prop), tn i s.heap → Q (.ref it) s → wpAny (model P w) A (pyIter (.ref it)) Q E s
noncomputable abbrev TI := St → Hp → (It → Hp → Prop) → Prop
noncomputable def PIE (X : Cx) (pins : List (Addr × Obj)) (σ : St) (tg : Expr) (R : It → Hp → Prop) (itv : Value) (s2 : Shared) : Prop :=
  ∃ (it : Addr) (fp : List Addr) (tn : Nat → Heap → Prop) (J : It) (H' : Hp), itv = .ref it ∧ Inv X pins σ H' s2 ∧ Turn X.prog X.w X.K tg J fp it tn ∧ tn 0 s2.heap ∧ (∀ b ∈ fp, FpOk X pins H' b) ∧ R J H'
noncomputable def PI (X : Cx) (tg iter : Expr) (wi : TI) : Prop :=
  ∀ (pins : List (Addr × Obj)) (s : Shared) (σ : St) (H : Hp) (R : It → Hp → Prop), Inv X pins σ H s → wi σ H R →
    wpAny (model X.prog X.w) X.A (eval iter X.env) (fun v s1 => wpAny (model X.prog X.w) X.A (pyIter v) (PIE X pins σ tg R) X.xe s1) X.xe s

theorem go_of {M : Model} {A : Around} {E : Value → Shared → Prop} {s : Shared} {tg : Expr} {it : Addr} {u : Value} {o : Obj} {n : String} {vs : Array Value} {Q : Unit → Shared → Prop} (ho : s.heap.get? it = some o) (hc : o.cls = .type n) (hd : o.data = .fields vs)
    (hn : ["enumerate", "zip", "dict_itemiterator", "dict_reverseitemiterator", "odict_iterator", "itertools.zip_longest", "itertools.pairwise"].contains n = false) (hQ : Q () s) : wpAny M A (letOwnedTupleGo tg (.ref it) u) Q E s := by
  unfold letOwnedTupleGo
  cases tg <;> first
    | exact wpAny_pure hQ
    | (cases u <;> first
        | exact wpAny_pure hQ
        | (refine wpAny_bind (wpAny_load ho ?_)
           rw [hc, hd]
           show wpAny M A (if (["enumerate", "zip", "dict_itemiterator", "dict_reverseitemiterator", "odict_iterator", "itertools.zip_longest", "itertools.pairwise"].contains n && vs[0]? == some (rawInt _)) = true then _ else _) Q E s
           rw [if_neg (by intro h; rw [hn, Bool.false_and] at h; cases h)]
           exact wpAny_pure hQ))

noncomputable def Itl (K : PySem.W.Frag) (a : Addr) : It :=
  ⟨fun i H => ∃ xs x, SqL K H a xs ∧ xs[i]? = some x, fun i H x H' => H' = H ∧ ∀ xs, SqL K H a xs → xs[i]? = some x, fun i H => ∃ xs, SqL K H a xs ∧ xs.length ≤ i⟩
noncomputable def Itt (K : PySem.W.Frag) (a : Addr) : It :=
  ⟨fun i H => ∃ xs x, SqT K H a xs ∧ xs[i]? = some x, fun i H x H' => H' = H ∧ ∀ xs, SqT K H a xs → xs[i]? = some x, fun i H => ∃ xs, SqT K H a xs ∧ xs.length ≤ i⟩
noncomputable def Itr (lo : Int) (n : Nat) : It := ⟨fun i _ => i < n, fun i H x H' => H' = H ∧ x = .int (lo + i), fun i _ => n ≤ i⟩
theorem turn_list {P : Program} {w : World} {K : PySem.W.Frag} {tg : Expr} (a it : Addr) : Turn P w K tg (Itl K a) [it] it (fun i h => h.IsListIter it a i) where
  mem := by simp
  obj := fun i h st b hb => by
    have e : b = it := by simpa using hb
    subst e
    obtain ⟨o, e, c, d⟩ := st
    exact ⟨o, e, fun v z => by rw [d] at z; cases z⟩
  keep := fun i h h' st k => st.at fun o e => k it (by simp) o e
  item := by
    intro X hP hw hK hc i pins s σ H E I hf st hg
    subst hP hw hK
    obtain ⟨xs, x, hq, hx⟩ := hg
    obtain ⟨its, rv, p, hz⟩ := I.list hq
    obtain ⟨u, hu, ru⟩ := rv.get hx
    obtain ⟨f0, f1, f2, f3, f4, f5⟩ := hf it (by simp)
    refine wpAny_pyNext_list_item st p.isList (x := u) (by simpa using hu) fun h' st' sb => ?_
    have I1 : Inv X pins σ H { s with heap := h' } := I.turned (t' := s.toks) (fun b o hb e => (sb.2 b hb).trans e) f0 f1 f3 f4 f5
    obtain ⟨o, e, c, d⟩ := id st'
    exact ⟨u, rfl, go_of (s := { s with heap := h' }) e c d (by decide) ⟨x, H, I1, ru, ⟨rfl, fun ys hy => by rw [I.list_inj hy hq]; exact hx⟩, st', fun b hb => (hf b hb).1⟩⟩
  done := by
    intro X hP hw hK hc i pins s σ H E I hf st hg
    subst hP hw hK
    obtain ⟨xs, hq, hx⟩ := hg
    obtain ⟨its, rv, p, hz⟩ := I.list hq
    obtain ⟨f0, f1, f2, f3, f4, f5⟩ := hf it (by simp)
    have hl := rv.length
    exact wpAny_pyNext_list_end (I.ok.hd hc) st p.isList (by simp; (first | lia | omega)) fun h' eb => ⟨rfl, I.turned (t' := s.toks) (fun b o hb e => eb b o hb e) f0 f1 f3 f4 f5⟩
  self := fun _ _ _ _ _ st h => wpAny_pyIter_listiter st h
theorem turn_tuple {P : Program} {w : World} {K : PySem.W.Frag} {tg : Expr} (a it : Addr) : Turn P w K tg (Itt K a) [it] it (fun i h => h.IsTupleIter it a i) where
  mem := by simp
  obj := fun i h st b hb => by
    have e : b = it := by simpa using hb
    subst e
    obtain ⟨o, e, c, d⟩ := st
    exact ⟨o, e, fun v z => by rw [d] at z; cases z⟩
  keep := fun i h h' st k => st.at fun o e => k it (by simp) o e
  item := by
    intro X hP hw hK hc i pins s σ H E I hf st hg
    subst hP hw hK
    obtain ⟨xs, x, hq, hx⟩ := hg
    obtain ⟨its, rv, p, hz⟩ := I.tuple hq
    obtain ⟨u, hu, ru⟩ := rv.get hx
    obtain ⟨f0, f1, f2, f3, f4, f5⟩ := hf it (by simp)
    refine wpAny_pyNext_tuple_item st (show s.heap.IsTuple a its.toArray from p) (x := u) (by simpa using hu) fun h' st' sb => ?_
    have I1 : Inv X pins σ H { s with heap := h' } := I.turned (t' := s.toks) (fun b o hb e => (sb.2 b hb).trans e) f0 f1 f3 f4 f5
    obtain ⟨o, e, c, d⟩ := id st'
    exact ⟨u, rfl, go_of (s := { s with heap := h' }) e c d (by decide) ⟨x, H, I1, ru, ⟨rfl, fun ys hy => by rw [I.tuple_inj hy hq]; exact hx⟩, st', fun b hb => (hf b hb).1⟩⟩
  done := by
    intro X hP hw hK hc i pins s σ H E I hf st hg
    subst hP hw hK
    obtain ⟨xs, hq, hx⟩ := hg
    obtain ⟨its, rv, p, hz⟩ := I.tuple hq
    obtain ⟨f0, f1, f2, f3, f4, f5⟩ := hf it (by simp)
    have hl := rv.length
    exact wpAny_pyNext_tuple_end (I.ok.hd hc) st (show s.heap.IsTuple a its.toArray from p) (by simp; (first | lia | omega)) fun h' eb => ⟨rfl, I.turned (t' := s.toks) (fun b o hb e => eb b o hb e) f0 f1 f3 f4 f5⟩
  self := fun _ _ _ _ _ st h => wpAny_pyIter_tupleiter st h
theorem turn_range {P : Program} {w : World} {K : PySem.W.Frag} {tg : Expr} (it : Addr) (lo : Int) (n : Nat) : Turn P w K tg (Itr lo n) [it] it (fun i h => IsRangeIter h it (lo + (i : Nat) * 1) ((n : Int) - (i : Nat)) 1) where
  mem := by simp
  obj := fun i h st b hb => by
    have e : b = it := by simpa using hb
    subst e
    exact ⟨_, st, fun v z => by
      have z' : Data.fields _ = Data.cell v := z
      cases z'⟩
  keep := fun i h h' st k => k it (by simp) _ st
  item := by
    intro X hP hw hK hc i pins s σ H E I hf st hg
    subst hP hw hK
    obtain ⟨f0, f1, f2, f3, f4, f5⟩ := hf it (by simp)
    have W := Walks.range (prog := X.prog) (w := X.w) (I.ok.hd hc) it lo 1 n
    refine W.item i s _ _ hg st fun v h' tk hv st' kk => ?_
    obtain ⟨t, rfl⟩ := hv
    have I1 : Inv X pins σ H { s with heap := h', toks := tk } := I.turned (fun b o hb e => kk b o (by simpa using hb) e) f0 f1 f3 f4 f5
    refine ⟨_, rfl, go_of (s := { s with heap := h', toks := tk }) (n := "range_iterator") st' rfl rfl (by decide) ⟨.int (lo + i), H, I1, ⟨t, ?_⟩, ⟨rfl, rfl⟩, st', fun b hb => (hf b hb).1⟩⟩
    rw [Int.mul_one]
  done := by
    intro X hP hw hK hc i pins s σ H E I hf st hg
    subst hP hw hK
    obtain ⟨f0, f1, f2, f3, f4, f5⟩ := hf it (by simp)
    exact wpAny_pyNext_range_end (I.ok.hd hc) st (by have : n ≤ i := hg; (first | lia | omega)) fun h' eb => ⟨rfl, I.turned (t' := s.toks) (fun b o hb e => eb b o hb e) f0 f1 f3 f4 f5⟩
  self := fun _ _ _ _ _ st h => wpAny_pyIter_rangeiter st h
end L2

namespace L2
open PySem PySem.Spec PyProof.Rows
section
variable {X : Cx} {tg : Expr}
noncomputable def iList (K : PySem.W.Frag) (tl : TE) : TI := fun σ H R => tl σ H fun x H1 => ∃ a, x = .ref a ∧ (∃ xs, SqL K H1 a xs) ∧ R (Itl K a) H1
noncomputable def iTup (K : PySem.W.Frag) (tl : TE) : TI := fun σ H R => tl σ H fun x H1 => ∃ a, x = .ref a ∧ (∃ xs, SqT K H1 a xs) ∧ R (Itt K a) H1
theorem pi_list {l : Expr} {tl : TE} (hl : PE X l tl) : PI X tg l (iList X.K tl) := by
  intro pins s σ H R I h
  refine thn (hl pins s σ H _ I h) fun v s1 ⟨x, H1, I1, r1, q1⟩ => ?_
  obtain ⟨a, e, ⟨xs, hq⟩, q⟩ := q1
  subst e
  cases r1
  obtain ⟨its, rv, p, hz⟩ := I1.list hq
  refine wpAny_pyIter_list p.isList ?_
  refine ⟨s1.heap.objs.size, [s1.heap.objs.size], _, _, H1, rfl, I1.kept (t' := s1.toks) fun b o e => Heap.get?_push_of_some _ e, turn_list a _, ⟨_, Heap.get?_push_size _ rfl, rfl, rfl⟩, fun b hb => ?_, q⟩
  have e : b = s1.heap.objs.size := by simpa using hb
  subst e
  exact I1.fpOk (Nat.le_refl _) (I1.hok.fresh (Nat.le_refl _))
theorem pi_tup {l : Expr} {tl : TE} (hl : PE X l tl) : PI X tg l (iTup X.K tl) := by
  intro pins s σ H R I h
  refine thn (hl pins s σ H _ I h) fun v s1 ⟨x, H1, I1, r1, q1⟩ => ?_
  obtain ⟨a, e, ⟨xs, hq⟩, q⟩ := q1
  subst e
  cases r1
  obtain ⟨its, rv, p, hz⟩ := I1.tuple hq
  refine wpAny_pyIter_tuple (show s1.heap.IsTuple a its.toArray from p) ?_
  refine ⟨s1.heap.objs.size, [s1.heap.objs.size], _, _, H1, rfl, I1.kept (t' := s1.toks) fun b o e => Heap.get?_push_of_some _ e, turn_tuple a _, ⟨_, Heap.get?_push_size _ rfl, rfl, rfl⟩, fun b hb => ?_, q⟩
  have e : b = s1.heap.objs.size := by simpa using hb
  subst e
  exact I1.fpOk (Nat.le_refl _) (I1.hok.fresh (Nat.le_refl _))
theorem range_it {pins : List (Addr × Obj)} {σ : St} {H : Hp} {s : Shared} {R : It → Hp → Prop} {E : Value → Shared → Prop} {lo hi : Int} {t u v : Tok} {tk : Nat} (I : Inv X pins σ H s) (h1 : -(2 ^ 62) ≤ lo) (h2 : lo < 2 ^ 62) (h3 : -(2 ^ 62) ≤ hi) (h4 : hi < 2 ^ 62)
    (q : R (Itr lo (hi - lo).toNat) H) : wpAny (model X.prog X.w) X.A (pyIter (.ref s.heap.objs.size)) (PIE X pins σ tg R) E { s with heap := s.heap.push { cls := .type "range", data := .fields #[.int lo t, .int hi u, .int 1 v] }, toks := tk } := by
  refine wpAny_pyIter_range (IsRange.new ..) (small_one h1 h2 h3 h4) ?_
  have I1 : Inv X pins σ H { s with heap := s.heap.push { cls := .type "range", data := .fields #[.int lo t, .int hi u, .int 1 v] }, toks := tk } := I.kept fun b o e => Heap.get?_push_of_some _ e
  refine ⟨(s.heap.push { cls := .type "range", data := .fields #[.int lo t, .int hi u, .int 1 v] }).objs.size, [(s.heap.push { cls := .type "range", data := .fields #[.int lo t, .int hi u, .int 1 v] }).objs.size], _, _, H, rfl,
    I1.kept (t' := tk) fun b o e => Heap.get?_push_of_some _ e, turn_range _ lo (hi - lo).toNat, ?_, fun b hb => ?_, q⟩
  · have e1 : lo + ((0 : Nat) : Int) * 1 = lo := by simp
    have e2 : (((hi - lo).toNat : Nat) : Int) - ((0 : Nat) : Int) = Builtin.Range.rangeSize lo hi 1 := by rw [rangeSize_one]; split <;> (first | lia | omega)
    show IsRangeIter _ _ (lo + ((0 : Nat) : Int) * 1) ((((hi - lo).toNat : Nat) : Int) - ((0 : Nat) : Int)) 1
    rw [e1, e2]
    exact Heap.get?_push_size _ rfl
  · have e : b = (s.heap.push { cls := .type "range", data := .fields #[.int lo t, .int hi u, .int 1 v] }).objs.size := by simpa using hb
    subst e
    exact I1.fpOk (Nat.le_refl _) (I1.hok.fresh (Nat.le_refl _))
noncomputable def iRng1 (ta : TA) : TI := fun σ H R => ta σ H fun vs H1 => ∃ j : Int, vs = [.int j] ∧ -(2 ^ 62) ≤ j ∧ j < 2 ^ 62 ∧ R (Itr 0 j.toNat) H1
noncomputable def iRng2 (ta : TA) : TI := fun σ H R => ta σ H fun vs H1 => ∃ i j : Int, vs = [.int i, .int j] ∧ (-(2 ^ 62) ≤ i ∧ i < 2 ^ 62 ∧ -(2 ^ 62) ≤ j ∧ j < 2 ^ 62) ∧ R (Itr i (j - i).toNat) H1
theorem pi_range1 {a : Expr} {ta : TA} {p pos : Pos} (hg : Gl X "range") (hm : X.mg "range" = none) (ha : PA X [a] ta) (hs : starEach [a] X.env = [(false, eval a X.env)] := by rfl) : PI X tg (.Call (.Name "range" p) [a] [] pos) (iRng1 ta) := by
  intro pins s σ H R I h
  refine Call_ (ld_blt I hg hm boot_range (PyProof.Rows.callWith_type1 (thn (ha pos pins s σ H _ I h) fun us s1 ⟨vs, H1, I1, r1, q1⟩ => ?_) hs rfl))
  obtain ⟨j, e, q1, q2, q⟩ := q1
  subst e
  cases r1 with
  | cons r rr =>
    cases rr
    obtain ⟨t, rfl⟩ := r
    exact call_range_1 (range_it I1 (by (first | lia | omega)) (by (first | lia | omega)) q1 q2 (by simpa using q))
theorem pi_range2 {a b : Expr} {ta : TA} {p pos : Pos} (hg : Gl X "range") (hm : X.mg "range" = none) (ha : PA X [a, b] ta) (hs : starEach [a, b] X.env = [(false, eval a X.env), (false, eval b X.env)] := by rfl) (hs2 : starEach [b] X.env = [(false, eval b X.env)] := by rfl) :
    PI X tg (.Call (.Name "range" p) [a, b] [] pos) (iRng2 ta) := by
  intro pins s σ H R I h
  refine Call_ (ld_blt I hg hm boot_range (PyProof.Rows.callWith_type1 (thn (ha pos pins s σ H _ I h) fun us s1 ⟨vs, H1, I1, r1, q1⟩ => ?_) (by rw [hs, hs2]) (by rw [hs2]; rfl)))
  obtain ⟨i, j, e, ⟨q1, q2, q3, q4⟩, q⟩ := q1
  subst e
  cases r1 with
  | cons r rr =>
    cases rr with
    | cons r' rr =>
      cases rr
      obtain ⟨t, rfl⟩ := r
      obtain ⟨t', rfl⟩ := r'
      exact call_range_2 (range_it I1 q1 q2 q3 q4 q)

noncomputable def tFor (wi : TI) (g : TG) (tb : TS) : TS := fun D σ H => wi σ H fun J H1 => ∃ W : Nat → Nat → St → Hp → Prop, (∃ m, W 0 m σ H1) ∧ ∀ i m σ H, W i m σ H →
  (J.stop i H ∧ D.nx σ H) ∨ (J.go i H ∧ ∃ N : St → Hp → Prop, (∀ σ' H', N σ' H' → ∃ m', m' < m ∧ W (i + 1) m' σ' H') ∧ ∀ x H', J.yld i H x H' → g x σ H' fun σ2 H2 => tb { D with nx := N, ct := N, bk := D.nx } σ2 H2)
noncomputable def pinsAt (fp : List Addr) (h : Heap) : List (Addr × Obj) := fp.filterMap fun b => (h.get? b).map fun o => (b, o)
theorem mem_pinsAt {fp : List Addr} {h : Heap} {b : Addr} {o : Obj} (hb : b ∈ fp) (e : h.get? b = some o) : (b, o) ∈ pinsAt fp h := List.mem_filterMap.mpr ⟨b, hb, by rw [e]; rfl⟩
theorem of_pinsAt {fp : List Addr} {h : Heap} {p : Addr × Obj} (hp : p ∈ pinsAt fp h) : p.1 ∈ fp ∧ h.get? p.1 = some p.2 := by
  obtain ⟨b, hb, e⟩ := List.mem_filterMap.mp hp
  cases q : h.get? b with
  | none => rw [q] at e; cases e
  | some o =>
    rw [q] at e
    have e' : (b, o) = p := Option.some.inj e
    subst e'
    exact ⟨hb, q⟩
theorem Inv.pinned {pins : List (Addr × Obj)} {σ : St} {H : Hp} {s : Shared} {fp : List Addr} (I : Inv X pins σ H s) (hf : ∀ b ∈ fp, FpOk X pins H b) (ho : ∀ b ∈ fp, ∃ o, s.heap.get? b = some o ∧ ∀ v, o.data ≠ .cell v) : Inv X (pins ++ pinsAt fp s.heap) σ H s :=
  I.pins_of fun p hp => (List.mem_append.mp hp).elim (fun z => I.pin p (List.mem_append_right _ z)) fun z => by
    obtain ⟨hb, e⟩ := of_pinsAt z
    obtain ⟨f0, f1, f2, _⟩ := hf p.1 hb
    obtain ⟨o, e', d⟩ := ho p.1 hb
    rw [e] at e'; cases e'
    exact ⟨e, f0, f1, f2, d⟩
theorem Inv.unpinned {pins pl : List (Addr × Obj)} {σ : St} {H : Hp} {s : Shared} (I : Inv X (pins ++ pl) σ H s) : Inv X pins σ H s := I.pins_of fun p hp => I.pin p (List.mem_append_right _ (List.mem_append_left _ hp))
theorem ps_for {iter : Expr} {body : List Stmt} {wi : TI} {g : TG} {tb : TS} {pos : Pos} (hp : PassesOwn (model X.prog X.w) X.A X.env X.xe) (hc : X.calm = true) (hi : PI X tg iter wi) (hg : PG X tg g) (hb : PSs X body tb)
    (hs : ∀ x, foldedSetIterable iter X.env x = pure x := by intro _; rfl) : PS X (.For tg iter body [] pos) (tFor wi g tb) := by
  intro pins s σ H D I h
  refine wpAny_For (thn (hi pins s σ H _ I h) fun v s1 h1 => thn h1 fun itv s2 h2 => ?_) hs
  obtain ⟨it, fp, tn, J, H2, e, I2, T, st2, f2, W, ⟨m0, w0⟩, turn⟩ := h2
  subst e
  -- what stays true of the iterator's objects through the loop
  have stat : ∀ {H' : Hp}, (∀ b ∈ fp, H' b = none) → ∀ b ∈ fp, FpOk X pins H' b := fun hn b hb => ⟨hn b hb, (f2 b hb).2⟩
  refine codeAny_forLoop_any (fun n s' => ∃ i σ' H', Inv X pins σ' H' s' ∧ tn i s'.heap ∧ (∀ b ∈ fp, H' b = none) ∧ W i n σ' H') ?_ m0 ⟨0, σ, H2, I2, st2, fun b hb => (f2 b hb).1, w0⟩
  rintro n s3 ⟨i, σ3, H3, I3, st3, fr3, w3⟩
  rcases turn i n σ3 H3 w3 with ⟨stop, qn⟩ | ⟨go, N, hN, step⟩
  · refine wpAny_passesOwn hp (thn (T.done X rfl rfl rfl hc i pins s3 σ3 H3 X.xe I3 (stat fr3) st3 stop) fun r s4 ⟨hr, I4⟩ => ?_)
    subst hr
    exact wpAny_execs_nil ⟨σ3, H3, I4, qn⟩
  · refine wpAny_passesOwn hp (thn (T.item X rfl rfl rfl hc i pins s3 σ3 H3 X.xe I3 (stat fr3) st3 go) fun r s4 ⟨u, hr, h4⟩ => ?_)
    subst hr
    refine wpAny_passesOwn hp (thn h4 fun _ s5 ⟨x, H5, I5, r5, y5, st5, fr5⟩ => ?_)
    have I5' := I5.pinned (stat fr5) (T.obj _ _ st5)
    refine wpAny_passesOwn hp (thn (hg _ s5 σ3 H5 x u _ I5' r5 (step x H5 y5)) fun _ s6 ⟨σ6, H6, I6, q6⟩ => ?_)
    refine wpAny_passesOwn hp (thn (hb _ s6 σ6 H6 _ I6 q6) fun f s7 q7 => ?_)
    have again : ∀ {σ7 : St} {H7 : Hp}, Inv X (pins ++ pinsAt fp s5.heap) σ7 H7 s7 → N σ7 H7 → ∃ m, m < n ∧ ∃ i σ' H', Inv X pins σ' H' s7 ∧ tn i s7.heap ∧ (∀ b ∈ fp, H' b = none) ∧ W i m σ' H' := fun {σ7 H7} I7 n7 => by
      obtain ⟨m', hm, w7⟩ := hN σ7 H7 n7
      refine ⟨m', hm, i + 1, σ7, H7, I7.unpinned, T.keep _ _ _ st5 fun b hb o e => (I7.pin (b, o) (List.mem_append_right _ (List.mem_append_right _ (mem_pinsAt hb e)))).1, fun b hb => ?_, w7⟩
      obtain ⟨o, e, d⟩ := T.obj _ _ st5 b hb
      exact (I7.pin (b, o) (List.mem_append_right _ (List.mem_append_right _ (mem_pinsAt hb e)))).2.1
    cases f with
    | next => obtain ⟨σ7, H7, I7, n7⟩ := q7; exact again I7 n7
    | cont => obtain ⟨σ7, H7, I7, n7⟩ := q7; exact again I7 n7
    | brk => obtain ⟨σ7, H7, I7, q7⟩ := q7; exact ⟨σ7, H7, I7.unpinned, q7⟩
    | ret v => obtain ⟨x7, σ7, H7, I7, r7, q7⟩ := q7; exact ⟨x7, σ7, H7, I7.unpinned, r7, q7⟩
end

theorem for_list {K : PySem.W.Frag} {a : Addr} {xs : List V} {g : TG} {tb : TS} {D : Ends} {σ : St} {H : Hp} (Pv : Nat → St → Hp → Prop) (h0 : Pv 0 σ H) (hl : ∀ i σ H, i ≤ xs.length → Pv i σ H → SqL K H a xs)
    (hs : ∀ i x σ H, xs[i]? = some x → Pv i σ H → g x σ H fun σ2 H2 => tb { D with nx := Pv (i + 1), ct := Pv (i + 1), bk := D.nx } σ2 H2) (hd : ∀ σ H, Pv xs.length σ H → D.nx σ H) :
    ∃ W : Nat → Nat → St → Hp → Prop, (∃ m, W 0 m σ H) ∧ ∀ i m σ H, W i m σ H →
      ((Itl K a).stop i H ∧ D.nx σ H) ∨ ((Itl K a).go i H ∧ ∃ N : St → Hp → Prop, (∀ σ' H', N σ' H' → ∃ m', m' < m ∧ W (i + 1) m' σ' H') ∧ ∀ x H', (Itl K a).yld i H x H' → g x σ H' fun σ2 H2 => tb { D with nx := N, ct := N, bk := D.nx } σ2 H2) := by
  refine ⟨fun i m σ H => m = xs.length - i ∧ i ≤ xs.length ∧ Pv i σ H, ⟨xs.length, by simp, Nat.zero_le _, h0⟩, ?_⟩
  rintro i m σ H ⟨rfl, hi, p⟩
  have q := hl i σ H hi p
  by_cases hlt : i < xs.length
  · refine .inr ⟨⟨xs, xs[i], q, by simp [hlt]⟩, Pv (i + 1), fun σ' H' p' => ⟨xs.length - (i + 1), by (first | lia | omega), rfl, hlt, p'⟩, fun x H' y => ?_⟩
    obtain ⟨e, y⟩ := y
    subst e
    exact hs i x σ _ (y xs q) p
  · have e : i = xs.length := by (first | lia | omega)
    subst e
    exact .inl ⟨⟨xs, q, Nat.le_refl _⟩, hd σ H p⟩
theorem for_range {lo : Int} {n : Nat} {g : TG} {tb : TS} {D : Ends} {σ : St} {H : Hp} (Pv : Nat → St → Hp → Prop) (h0 : Pv 0 σ H)
    (hs : ∀ i σ H, i < n → Pv i σ H → g (.int (lo + i)) σ H fun σ2 H2 => tb { D with nx := Pv (i + 1), ct := Pv (i + 1), bk := D.nx } σ2 H2) (hd : ∀ σ H, Pv n σ H → D.nx σ H) :
    ∃ W : Nat → Nat → St → Hp → Prop, (∃ m, W 0 m σ H) ∧ ∀ i m σ H, W i m σ H →
      ((Itr lo n).stop i H ∧ D.nx σ H) ∨ ((Itr lo n).go i H ∧ ∃ N : St → Hp → Prop, (∀ σ' H', N σ' H' → ∃ m', m' < m ∧ W (i + 1) m' σ' H') ∧ ∀ x H', (Itr lo n).yld i H x H' → g x σ H' fun σ2 H2 => tb { D with nx := N, ct := N, bk := D.nx } σ2 H2) := by
  refine ⟨fun i m σ H => m = n - i ∧ i ≤ n ∧ Pv i σ H, ⟨n, by simp, Nat.zero_le _, h0⟩, ?_⟩
  rintro i m σ H ⟨rfl, hi, p⟩
  by_cases hlt : i < n
  · refine .inr ⟨hlt, Pv (i + 1), fun σ' H' p' => ⟨n - (i + 1), by (first | lia | omega), rfl, hlt, p'⟩, fun x H' y => ?_⟩
    obtain ⟨e, y⟩ := y
    subst e y
    exact hs i σ _ hlt p
  · have e : i = n := by (first | lia | omega)
    subst e
    exact .inl ⟨Nat.le_refl _, hd σ H p⟩
end L2

namespace L2
open PySem PySem.Spec PyProof.Rows

noncomputable abbrev R2 := V → V → Hp → VK → Prop
noncomputable def OpR (X : Cx) (f : Value → Value → Sem Value) (r : R2) : Prop :=
  ∀ (pins : List (Addr × Obj)) (s : Shared) (σ : St) (H : Hp) (x y : V) (v u : Value) (Q : VK), Inv X pins σ H s → RelV x v → RelV y u → r x y H Q →
    wpAny (model X.prog X.w) X.A (f v u) (EP X pins σ Q) X.xe s
noncomputable def UnR (X : Cx) (f : Value → Sem Value) (r : V → Hp → VK → Prop) : Prop :=
  ∀ (pins : List (Addr × Obj)) (s : Shared) (σ : St) (H : Hp) (x : V) (v : Value) (Q : VK), Inv X pins σ H s → RelV x v → r x H Q →
    wpAny (model X.prog X.w) X.A (f v) (EP X pins σ Q) X.xe s
noncomputable def CallR (X : Cx) (f : Value) (r : List V → Hp → VK → Prop) : Prop :=
  ∀ (pins : List (Addr × Obj)) (s : Shared) (σ : St) (H : Hp) (xs : List V) (us : List Value) (Q : VK), Inv X pins σ H s → Vals xs us → r xs H Q →
    wpAny (model X.prog X.w) X.A (call f us) (EP X pins σ Q) X.xe s
noncomputable def TruR (X : Cx) (r : V → Hp → (Bool → Hp → Prop) → Prop) : Prop :=
  ∀ (pins : List (Addr × Obj)) (s : Shared) (σ : St) (H : Hp) (x : V) (v : Value) (Q : Bool → Hp → Prop), Inv X pins σ H s → RelV x v → r x H Q →
    wpAny (model X.prog X.w) X.A (truthy v) (TP X pins σ Q) X.xe s

noncomputable def tOp (r : R2) (ta tb : TE) : TE := fun σ H Q => ta σ H fun x H1 => tb σ H1 fun y H2 => r x y H2 Q
noncomputable def tUn (r : V → Hp → VK → Prop) (ta : TE) : TE := fun σ H Q => ta σ H fun x H1 => r x H1 Q
noncomputable def rI (C : Int → Int → Prop) (g : Int → Int → V) : R2 := fun x y H Q => ∃ i j, x = .int i ∧ y = .int j ∧ C i j ∧ Q (g i j) H
noncomputable def rI0 (g : Int → Int → V) : R2 := fun x y H Q => ∃ i j, x = .int i ∧ y = .int j ∧ Q (g i j) H
noncomputable def rU (g : Int → V) : V → Hp → VK → Prop := fun x H Q => ∃ i, x = .int i ∧ Q (g i) H

section
variable {X : Cx} {a b c : Expr} {ta tb tc : TE} {pos : Pos}

theorem binT (ha : PE X a ta) (hb : PE X b tb) {pins : List (Addr × Obj)} {s : Shared} {σ : St} {H : Hp} {R : V → V → Hp → Prop} (I : Inv X pins σ H s)
    (h : ta σ H fun x H1 => tb σ H1 fun y H2 => R x y H2) {Q : Value → Shared → Prop} {f : Value → Value → Sem Value}
    (hf : ∀ v u s2 x y H2, Inv X pins σ H2 s2 → RelV x v → RelV y u → R x y H2 → wpAny (model X.prog X.w) X.A (f v u) Q X.xe s2) :
    wpAny (model X.prog X.w) X.A (eval a X.env) (fun v s₁ => wpAny (model X.prog X.w) X.A (eval b X.env) (fun u s₂ => wpAny (model X.prog X.w) X.A (f v u) Q X.xe s₂) X.xe s₁) X.xe s := by
  refine thn (ha pins s σ H _ I h) fun v s1 ⟨x, H1, I1, r1, q1⟩ => ?_
  refine thn (hb pins s1 σ H1 _ I1 q1) fun u s2 ⟨y, H2, I2, r2, q2⟩ => ?_
  exact hf v u s2 x y H2 I2 r1 r2 q2

theorem pe_op {op : Operator} {r : R2} (ho : OpR X (binaryOp op) r) (ha : PE X a ta) (hb : PE X b tb) : PE X (.BinOp a op b pos) (tOp r ta tb) := by
  intro pins s σ H Q I h
  exact wpAny_BinOp (binT ha hb I h fun v u s2 x y H2 I2 rx ry q => ho pins s2 σ H2 x y v u Q I2 rx ry q)
theorem pe_un {op : UnaryOp} {r : V → Hp → VK → Prop} (ho : UnR X (unaryOp op) r) (ha : PE X a ta) : PE X (.UnaryOp op a pos) (tUn r ta) := by
  intro pins s σ H Q I h
  exact UnaryOp_ (thn (ha pins s σ H _ I h) fun v s1 ⟨x, H1, I1, r1, q1⟩ => ho pins s1 σ H1 x v Q I1 r1 q1)

theorem opI {f : Value → Value → Sem Value} {C : Int → Int → Prop} {g : Int → Int → Int}
    (rule : ∀ (i j : Int) (t u : Tok) (s : Shared) (Q : Value → Shared → Prop) (E : Value → Shared → Prop), C i j → Q (.int (g i j) s.toks) { s with toks := s.toks + 1 } → wpAny (model X.prog X.w) X.A (f (.int i t) (.int j u)) Q E s) :
    OpR X f (rI C fun i j => .int (g i j)) := by
  intro pins s σ H x y v u Q I rx ry h
  obtain ⟨i, j, rfl, rfl, hc, q⟩ := h
  obtain ⟨t, rfl⟩ := rx
  obtain ⟨t', rfl⟩ := ry
  exact rule i j t t' s _ _ hc ⟨.int (g i j), H, I.tok _, ⟨_, rfl⟩, q⟩
theorem opI0 {f : Value → Value → Sem Value} {g : Int → Int → Int}
    (rule : ∀ (i j : Int) (t u : Tok) (s : Shared) (Q : Value → Shared → Prop) (E : Value → Shared → Prop), Q (.int (g i j) s.toks) { s with toks := s.toks + 1 } → wpAny (model X.prog X.w) X.A (f (.int i t) (.int j u)) Q E s) :
    OpR X f (rI0 fun i j => .int (g i j)) := by
  intro pins s σ H x y v u Q I rx ry h
  obtain ⟨i, j, rfl, rfl, q⟩ := h
  obtain ⟨t, rfl⟩ := rx
  obtain ⟨t', rfl⟩ := ry
  exact rule i j t t' s _ _ ⟨.int (g i j), H, I.tok _, ⟨_, rfl⟩, q⟩
theorem opB0 {f : Value → Value → Sem Value} {g : Int → Int → Bool}
    (rule : ∀ (i j : Int) (t u : Tok) (s : Shared) (Q : Value → Shared → Prop) (E : Value → Shared → Prop), Q (.bool (g i j)) s → wpAny (model X.prog X.w) X.A (f (.int i t) (.int j u)) Q E s) :
    OpR X f (rI0 fun i j => .bl (g i j)) := by
  intro pins s σ H x y v u Q I rx ry h
  obtain ⟨i, j, rfl, rfl, q⟩ := h
  obtain ⟨t, rfl⟩ := rx
  obtain ⟨t', rfl⟩ := ry
  exact rule i j t t' s _ _ ⟨.bl (g i j), H, I, rfl, q⟩

noncomputable def CDiv (i j : Int) : Prop := 0 < j ∧ j < 1073741824
noncomputable def CDivN (i j : Int) : Prop := j ≠ 0 ∧ j.natAbs < 1073741824
noncomputable def CPow (i j : Int) : Prop := 0 ≤ j ∧ j ≤ 1000000 ∧ i.natAbs < 2 ^ 64
noncomputable def CMul (i j : Int) : Prop := (-(2 ^ 64) < i ∧ i < 2 ^ 64) ∨ (-(2 ^ 64) < j ∧ j < 2 ^ 64)
theorem CMul.ok {i j : Int} (h : CMul i j) : IntMulOk i j := by
  rcases h with ⟨h1, h2⟩ | ⟨h1, h2⟩
  · exact .of_left (intBits_le_64 h1 h2)
  · exact .of_right (intBits_le_64 h1 h2)

theorem op_add : OpR X (binaryOp .Add) (rI0 fun i j => .int (i + j)) := opI0 fun _ _ _ _ _ _ _ q => add_int q
theorem op_sub : OpR X (binaryOp .Sub) (rI0 fun i j => .int (i - j)) := opI0 fun _ _ _ _ _ _ _ q => sub_int q
theorem op_mod : OpR X (binaryOp .Mod) (rI (fun _ j => 0 < j) fun i j => .int (i % j)) := opI fun i j _ _ _ _ _ hc q => by
  have h1 : (0 : Int) < j := hc
  exact mod_int' (by (first | lia | omega)) (by rw [Int.fmod_eq_emod_of_nonneg i (by (first | lia | omega))]; exact q)
theorem op_pow : OpR X (binaryOp .Pow) (rI CPow fun i j => .int (i ^ j.toNat)) := opI fun _ _ _ _ _ _ _ hc q => pow_int_small hc.1 hc.2.1 hc.2.2 q


theorem unI {f : Value → Sem Value} {g : Int → Int}
    (rule : ∀ (i : Int) (t : Tok) (s : Shared) (Q : Value → Shared → Prop) (E : Value → Shared → Prop), Q (.int (g i) s.toks) { s with toks := s.toks + 1 } → wpAny (model X.prog X.w) X.A (f (.int i t)) Q E s) :
    UnR X f (rU fun i => .int (g i)) := by
  intro pins s σ H x v Q I rx h
  obtain ⟨i, rfl, q⟩ := h
  obtain ⟨t, rfl⟩ := rx
  exact rule i t s _ _ ⟨.int (g i), H, I.tok _, ⟨_, rfl⟩, q⟩
theorem un_neg : UnR X (unaryOp .USub) (rU fun i => .int (-i)) := unI fun _ _ _ _ _ q => neg_int q

end

noncomputable def scal : V → V → Bool
  | .non, .non => true | .non, .int _ => true | .int _, .non => true | .non, .bl _ => true | .bl _, .non => true | .non, .str _ => true | .str _, .non => true
  | .int _, .int _ => true | .bl _, .bl _ => true | .str _, .str _ => true | .byt _, .byt _ => true
  | .int _, .str _ => true | .str _, .int _ => true | .bl _, .str _ => true | .str _, .bl _ => true
  | _, _ => false
noncomputable def rEq : R2 := fun x y H Q => scal x y = true ∧ Q (.bl (decide (x = y))) H
noncomputable def rNe : R2 := fun x y H Q => scal x y = true ∧ Q (.bl (!decide (x = y))) H

theorem dec_int {i j : Int} : decide (V.int i = V.int j) = (i == j) := by
  rw [Bool.eq_iff_iff]
  simp
theorem dec_bl {i j : Bool} : decide (V.bl i = V.bl j) = (i == j) := by
  rw [Bool.eq_iff_iff]
  simp
theorem dec_str {i j : Str} : decide (V.str i = V.str j) = (i == j) := by
  rw [Bool.eq_iff_iff]
  simp
theorem dec_byt {i j : Array UInt8} : decide (V.byt i = V.byt j) = (i.toList == j.toList) := by
  rw [Bool.eq_iff_iff]
  cases i
  cases j
  simp

section
variable {X : Cx} {a b c : Expr} {ta tb tc : TE} {pos : Pos}
theorem fin_bl {pins : List (Addr × Obj)} {σ : St} {H : Hp} {s : Shared} {Q : VK} {k k' : Bool} (I : Inv X pins σ H s) (q : Q (.bl k) H) (e : k = k') : EP X pins σ Q (.bool k') s := by
  subst e
  exact ⟨.bl k, H, I, rfl, q⟩
theorem op_eq : OpR X (compareOp .Eq) rEq := by
  intro pins s σ H x y v u Q I rx ry h
  obtain ⟨hs, q⟩ := h
  cases x with
  | non =>
    cases rx
    cases y with
    | non => cases ry; exact PySem.EqNone.eq_none_none (fin_bl I q (by simp))
    | bl j => cases ry; exact PySem.EqNone.eq_none_bool (fin_bl I q (by simp))
    | int j => obtain ⟨t', rfl⟩ := ry; exact PySem.EqNone.eq_none_int (fin_bl I q (by simp))
    | str j => obtain ⟨t', rfl⟩ := ry; exact PySem.EqNone.eq_none_str (fin_bl I q (by simp))
    | _ => exact absurd (show false = true from hs) Bool.false_ne_true
  | bl i =>
    cases rx
    cases y with
    | non => cases ry; exact PySem.EqNone.eq_bool_none (fin_bl I q (by simp))
    | bl j => cases ry; exact eq_bool (fin_bl I q dec_bl)
    | str j => obtain ⟨t', rfl⟩ := ry; exact PySem.EqMixed.eq_bool_str (fin_bl I q (by simp))
    | _ => exact absurd (show false = true from hs) Bool.false_ne_true
  | int i =>
    obtain ⟨t, rfl⟩ := rx
    cases y with
    | non => cases ry; exact PySem.EqNone.eq_int_none (fin_bl I q (by simp))
    | int j => obtain ⟨t', rfl⟩ := ry; exact eq_int (fin_bl I q dec_int)
    | str j => obtain ⟨t', rfl⟩ := ry; exact PySem.EqMixed.eq_int_str (fin_bl I q (by simp))
    | _ => exact absurd (show false = true from hs) Bool.false_ne_true
  | str i =>
    obtain ⟨t, rfl⟩ := rx
    cases y with
    | non => cases ry; exact PySem.EqNone.eq_str_none (fin_bl I q (by simp))
    | bl j => cases ry; exact PySem.EqMixed.eq_str_bool (fin_bl I q (by simp))
    | int j => obtain ⟨t', rfl⟩ := ry; exact PySem.EqMixed.eq_str_int (fin_bl I q (by simp))
    | str j => obtain ⟨t', rfl⟩ := ry; exact eq_str (fin_bl I q dec_str)
    | _ => exact absurd (show false = true from hs) Bool.false_ne_true
  | byt i =>
    obtain ⟨t, rfl⟩ := rx
    cases y with
    | byt j => obtain ⟨t', rfl⟩ := ry; exact PySem.W.eq_bytes (fin_bl I q dec_byt)
    | _ => exact absurd (show false = true from hs) Bool.false_ne_true
  | _ => cases y <;> exact absurd (show false = true from hs) Bool.false_ne_true
theorem op_ne : OpR X (compareOp .NotEq) rNe := by
  intro pins s σ H x y v u Q I rx ry h
  obtain ⟨hs, q⟩ := h
  cases x with
  | non =>
    cases rx
    cases y with
    | non => cases ry; exact PySem.EqNone.ne_none_none (fin_bl I q (by simp))
    | bl j => cases ry; exact PySem.EqNone.ne_none_bool (fin_bl I q (by simp))
    | int j => obtain ⟨t', rfl⟩ := ry; exact PySem.EqNone.ne_none_int (fin_bl I q (by simp))
    | str j => obtain ⟨t', rfl⟩ := ry; exact PySem.EqNone.ne_none_str (fin_bl I q (by simp))
    | _ => exact absurd (show false = true from hs) Bool.false_ne_true
  | bl i =>
    cases rx
    cases y with
    | non => cases ry; exact PySem.EqNone.ne_bool_none (fin_bl I q (by simp))
    | bl j => cases ry; exact ne_bool (fin_bl I q (congrArg not dec_bl))
    | str j => obtain ⟨t', rfl⟩ := ry; exact PySem.EqMixed.ne_bool_str (fin_bl I q (by simp))
    | _ => exact absurd (show false = true from hs) Bool.false_ne_true
  | int i =>
    obtain ⟨t, rfl⟩ := rx
    cases y with
    | non => cases ry; exact PySem.EqNone.ne_int_none (fin_bl I q (by simp))
    | int j => obtain ⟨t', rfl⟩ := ry; exact ne_int (fin_bl I q (congrArg not dec_int))
    | str j => obtain ⟨t', rfl⟩ := ry; exact PySem.EqMixed.ne_int_str (fin_bl I q (by simp))
    | _ => exact absurd (show false = true from hs) Bool.false_ne_true
  | str i =>
    obtain ⟨t, rfl⟩ := rx
    cases y with
    | non => cases ry; exact PySem.EqNone.ne_str_none (fin_bl I q (by simp))
    | bl j => cases ry; exact PySem.EqMixed.ne_str_bool (fin_bl I q (by simp))
    | int j => obtain ⟨t', rfl⟩ := ry; exact PySem.EqMixed.ne_str_int (fin_bl I q (by simp))
    | str j => obtain ⟨t', rfl⟩ := ry; exact ne_str (fin_bl I q (congrArg not dec_str))
    | _ => exact absurd (show false = true from hs) Bool.false_ne_true
  | byt i =>
    obtain ⟨t, rfl⟩ := rx
    cases y with
    | byt j => obtain ⟨t', rfl⟩ := ry; exact PySem.W.ne_bytes (fin_bl I q (congrArg not dec_byt))
    | _ => exact absurd (show false = true from hs) Bool.false_ne_true
  | _ => cases y <;> exact absurd (show false = true from hs) Bool.false_ne_true

theorem op_lt : OpR X (compareOp .Lt) (rI0 fun i j => .bl (decide (i < j))) := opB0 fun _ _ _ _ _ _ _ q => lt_int q
theorem op_gt : OpR X (compareOp .Gt) (rI0 fun i j => .bl (decide (j < i))) := opB0 fun _ _ _ _ _ _ _ q => gt_int q


noncomputable def isObj : HO → Bool
  | .lst _ => true
  | .ins _ _ _ => true
  | _ => false


theorem nomark (b : Expr) {op : CmpOp} (h : op ≠ .In := by decide) (h2 : op ≠ .NotIn := by decide) : behindInMarks op b = false := by
  have e1 : (op == CmpOp.In) = false := by cases op <;> first | rfl | exact absurd rfl h
  have e2 : (op == CmpOp.NotIn) = false := by cases op <;> first | rfl | exact absurd rfl h2
  cases b <;> simp [behindInMarks, e1, e2]
theorem pe_cmpR {op : CmpOp} {r : R2} (ho : OpR X (compareOp op) r) (ha : PE X a ta) (hb : PE X b tb) (hm : behindInMarks op b = false) : PE X (.Compare a [op] [b] pos) (tOp r ta tb) := by
  intro pins s σ H Q I h
  exact wpAny_Compare1 (binT ha hb I h fun v u s2 x y H2 I2 rx ry q => ho pins s2 σ H2 x y v u Q I2 rx ry q) hm
noncomputable def tTest (t : TE) : TT := fun σ H Q => t σ H fun x H' => ∃ k, x = .bl k ∧ Q k H'
theorem pt_cmpR {op : CmpOp} {r : R2} (ho : OpR X (compareOp op) r) (ha : PE X a ta) (hb : PE X b tb) (hm : behindInMarks op b = false) : PT X (.Compare a [op] [b] pos) (tTest (tOp r ta tb)) := by
  intro pins s σ H Q I h
  refine wpAny_isTrue_Compare1 (thn (ha pins s σ H _ I h) fun v s1 ⟨x, H1, I1, r1, q1⟩ => thn (hb pins s1 σ H1 _ I1 q1) fun u s2 ⟨y, H2, I2, r2, q2⟩ =>
    thn (ho pins s2 σ H2 x y v u _ I2 r1 r2 q2) fun c s3 ⟨z, H3, I3, r3, k, e, q3⟩ => ?_) hm
  subst e
  cases r3
  exact wpAny_truthy_bool ⟨H3, I3, q3⟩
noncomputable def tChain (r r' : R2) (ta tb tc : TE) : TE := fun σ H Q => ta σ H fun x H1 => tb σ H1 fun y H2 => r x y H2 fun z H3 => ∃ k, z = .bl k ∧
  (if k = true then tc σ H3 fun w' H4 => r' y w' H4 Q else Q (.bl false) H3)

noncomputable def TruV (K : PySem.W.Frag) (x : V) (H : Hp) (k : Bool) : Prop :=
  match x with
  | .non => k = false
  | .bl b => k = b
  | .int i => k = (i != 0)
  | .str y => y.length ≤ sizeLine ∧ k = ((y.length : Int) != 0)
  | .byt y => y.size ≤ sizeLine ∧ k = ((y.size : Int) != 0)
  | .ref p => (∃ xs, SqL K H p xs ∧ k = !xs.isEmpty) ∨ (∃ xs, SqT K H p xs ∧ k = !xs.isEmpty) ∨ ∃ kvs, H p = some (.dK kvs) ∧ k = !kvs.isEmpty
  | _ => False
theorem line63 : (sizeLine : Nat) < 2 ^ 63 := by rw [sizeLine_eq]; decide


noncomputable def PlainIxT (b : Expr) : Prop := ∀ o i, subscripted b false o i = operate [o, i] (getItem o i)

theorem vals1 {x : V} {us : List Value} (r : Vals [x] us) : ∃ u, us = [u] ∧ RelV x u := by
  cases r with
  | cons r1 r2 => cases r2; exact ⟨_, rfl, r1⟩
theorem vals2 {x y : V} {us : List Value} (r : Vals [x, y] us) : ∃ u w', us = [u, w'] ∧ RelV x u ∧ RelV y w' := by
  cases r with
  | cons r1 r2 =>
    cases r2 with
    | cons r3 r4 => cases r4; exact ⟨_, _, rfl, r1, r3⟩
theorem call_abs : CallR X (.builtin "abs") (fun xs H Q => ∃ i, xs = [.int i] ∧ Q (.int (if i < 0 then -i else i)) H) := by
  intro pins s σ H xs us Q I r h
  obtain ⟨i, rfl, q⟩ := h
  obtain ⟨u, rfl, t, rfl⟩ := vals1 r
  exact call_abs_int fun u tk => ⟨.int (if i < 0 then -i else i), H, I.tok _, ⟨_, rfl⟩, q⟩
theorem call_max2 (hc : X.calm = true) : CallR X (.builtin "max") (fun xs H Q => ∃ i j, xs = [.int i, .int j] ∧ Q (.int (if j > i then j else i)) H) := by
  intro pins s σ H xs us Q I r h
  obtain ⟨i, j, rfl, q⟩ := h
  obtain ⟨u, w', rfl, ⟨t, rfl⟩, ⟨t', rfl⟩⟩ := vals2 r
  refine max_two_ints (I.ok.hd hc) fun h' tk k => ⟨_, H, I.kept k, ?_, q⟩
  by_cases hj : j > i
  · rw [if_pos hj, if_pos hj]; exact ⟨_, rfl⟩
  · rw [if_neg hj, if_neg hj]; exact ⟨_, rfl⟩
theorem call_min2 (hc : X.calm = true) : CallR X (.builtin "min") (fun xs H Q => ∃ i j, xs = [.int i, .int j] ∧ Q (.int (if j < i then j else i)) H) := by
  intro pins s σ H xs us Q I r h
  obtain ⟨i, j, rfl, q⟩ := h
  obtain ⟨u, w', rfl, ⟨t, rfl⟩, ⟨t', rfl⟩⟩ := vals2 r
  refine min_two_ints (I.ok.hd hc) fun h' tk k => ⟨_, H, I.kept k, ?_, q⟩
  by_cases hj : j < i
  · rw [if_pos hj, if_pos hj]; exact ⟨_, rfl⟩
  · rw [if_neg hj, if_neg hj]; exact ⟨_, rfl⟩
noncomputable def LenV (K : PySem.W.Frag) (x : V) (H : Hp) (n : Nat) : Prop :=
  match x with
  | .str y => y.length ≤ sizeLine ∧ n = y.length
  | .byt y => y.size ≤ sizeLine ∧ n = y.size
  | .ref p => (∃ xs, SqL K H p xs ∧ n = xs.length) ∨ ∃ xs, SqT K H p xs ∧ n = xs.length
  | _ => False
end
end L2

namespace L2
open PySem PySem.Spec PyProof.Rows

structure ObjM (h : Heap) (x dx C : Addr) (mA : Str → Option Value) : Prop where
  obj : h.get? x = some (PySem.W.instObj C dx)
  ns : h.Ns1 dx mA
  ne : dx ≠ x

theorem lookIn_ns {h : Heap} {dx : Addr} {mA : Str → Option Value} (n : h.Ns1 dx mA) : ∃ od, h.get? dx = some od ∧ ∀ name, PySem.W.lookIn name od = some (mA name) := by
  obtain ⟨o, es, ep, ho, hd, hk, _, hm⟩ := n
  refine ⟨o, ho, fun name => ?_⟩
  have e := hm name
  unfold nsFind findBy at e
  rw [← Array.find?_toList] at e
  unfold PySem.W.lookIn
  rw [hd]
  dsimp only
  split
  · rename_i y q
    rw [q] at e
    exact congrArg some e
  · rename_i q
    rw [q] at e
    have a : es.toList.any (·.refKey) = false := by
      rw [List.any_eq_false]
      intro y hy
      obtain ⟨z, t, hkey⟩ := hk y (Array.mem_toList_iff.mp hy)
      simp [DictEntry.refKey, hkey]
    have a' : ¬ es.toList.any (·.refKey) = true := by rw [a]; exact Bool.false_ne_true
    rw [if_neg a']
    exact congrArg some e

theorem ObjM.look {h : Heap} {x dx C : Addr} {mA : Str → Option Value} (I : ObjM h x dx C mA) : ∃ od, PySem.W.InstAt h x (PySem.W.instObj C dx) C (some od) ∧ ∀ name, PySem.W.lookIn name od = some (mA name) :=
  let ⟨od, ho, hl⟩ := lookIn_ns I.ns
  ⟨od, ⟨I.obj, rfl, rfl, ho⟩, hl⟩

section
variable {prog : Program} {w : World} {A : Around} {E : Value → Shared → Prop} {s : Shared} {K : PySem.W.Frag} {x dx C f : Addr} {mA : Str → Option Value} {name : Str} {v : Value}





end

noncomputable def putF (f : Str) (v : V) : List (Str × V) → List (Str × V)
  | [] => [(f, v)]
  | (g, x) :: r => if g = f then (g, v) :: r else (g, x) :: putF f v r

theorem RelO.some_of {v : V} {o : Option Value} (r : RelO (some v) o) : ∃ u, o = some u ∧ RelV v u := by
  cases o with
  | none => exact (show False from r).elim
  | some u => exact ⟨u, rfl, r⟩

section
variable {P : Program} {w : World} {H H' : Hp} {h h' : Heap} {a C dx : Addr} {fs fs' : List (Str × V)}
theorem ins_get (hok : HOk P w H h) (e : H a = some (.ins C dx fs)) : ∃ mA, ObjM h a dx C mA ∧ (∀ f, RelO (fs.lookup f) (mA f)) ∧ PySem.Within mA (fs.map (·.1)) ∧ fs.length ≤ 1000 ∧ H dx = some (.own a) := by
  obtain ⟨d, z, ne, ob, mA, n, r, q⟩ := (show ObjOk P w H h a (.ins C dx fs) from hok a _ e)
  exact ⟨mA, ⟨ob, n, ne⟩, r, q, z, d⟩
end

structure Cls (K : PySem.W.Frag) (C : Addr) : Prop where
  pg : PySem.W.plainGet K C Str.empty = true
  hd : PySem.W.hasDictIn K C = true
  po : PySem.W.plainOver K C = true
  sa : PySem.W.findIn K (.ref C) "__setattr__" = some (some (.builtin "object.__setattr__"))
theorem Cls.get {K : PySem.W.Frag} {C : Addr} (c : Cls K C) (f : Str) : PySem.W.plainGet K C f = true := c.pg
noncomputable def NoAttr (K : PySem.W.Frag) (C : Addr) (f : Str) : Prop := PySem.W.findIn K (.ref C) f = some none
structure Con (K : PySem.W.Frag) (C : Addr) (f : Str) (v : V) (u : Value) : Prop where
  at_ : PySem.W.findIn K (.ref C) f = some (some u)
  rel : RelV v u
  get : PySem.W.specialIn K u "__get__" = some none
  cp : PySem.W.copiedNames.contains f = false
structure Meth (K : PySem.W.Frag) (C : Addr) (m : Str) (f : Addr) : Prop where
  at_ : PySem.W.findIn K (.ref C) m = some (some (.ref f))
  fn : PySem.W.isFn K (.ref f) = true
  kp : PySem.W.keepIn K (.ref f) = true

section
variable {X : Cx} {pins : List (Addr × Obj)} {σ : St} {H : Hp} {s : Shared} {a C dx : Addr} {fs : List (Str × V)} {f : Str} {v : V} {A : Around} {E : Value → Shared → Prop}






end

noncomputable def tFld (K : PySem.W.Frag) (ta : TE) (f : Str) : TE := fun σ H Q => ta σ H fun x H1 => ∃ a C dx fs v, x = .ref a ∧ H1 a = some (.ins C dx fs) ∧ Cls K C ∧ NoAttr K C f ∧ fs.lookup f = some v ∧ Q v H1
noncomputable def tCon (K : PySem.W.Frag) (ta : TE) (f : Str) : TE := fun σ H Q => ta σ H fun x H1 => ∃ a C dx fs v u, x = .ref a ∧ H1 a = some (.ins C dx fs) ∧ Cls K C ∧ Con K C f v u ∧ fs.lookup f = none ∧ Q v H1
noncomputable def sFld (K : PySem.W.Frag) (ta tv : TE) (f : Str) : TS := fun D σ H => tv σ H fun y H1 => ta σ H1 fun x H2 => ∃ a C dx fs, x = .ref a ∧ H2 a = some (.ins C dx fs) ∧ Cls K C ∧ NoAttr K C f ∧ fs.length < 1000 ∧
  D.nx σ (upd H2 a (.ins C dx (putF f y fs)))
noncomputable def InOp (X : Cx) (op : Operator) (rd : V → V → Hp → VK → Prop) : Prop :=
  ∀ (pins : List (Addr × Obj)) (s : Shared) (σ : St) (H : Hp) (x y : V) (u v : Value) (Q : VK), Inv X pins σ H s → RelV x u → RelV y v → rd x y H Q → wpAny (model X.prog X.w) X.A (inplaceOp op u v) (EP X pins σ Q) X.xe s
noncomputable def sFldAug (K : PySem.W.Frag) (ta tv : TE) (rd : V → V → Hp → VK → Prop) (f : Str) : TS := fun D σ H => ta σ H fun x H1 => ∃ a C dx fs v, x = .ref a ∧ H1 a = some (.ins C dx fs) ∧ Cls K C ∧ NoAttr K C f ∧ fs.lookup f = some v ∧
  tv σ H1 fun y H2 => rd v y H2 fun z H3 => ∃ dx' fs', H3 a = some (.ins C dx' fs') ∧ fs'.length < 1000 ∧ D.nx σ (upd H3 a (.ins C dx' (putF f z fs')))

section
variable {X : Cx} {o e value : Expr} {f : Str} {pos pos' tpos : Pos} {ta tv : TE}
noncomputable def rAdd : V → V → Hp → VK → Prop := fun x y H Q => ∃ i j, x = .int i ∧ y = .int j ∧ Q (.int (i + j)) H
noncomputable def rSub : V → V → Hp → VK → Prop := fun x y H Q => ∃ i j, x = .int i ∧ y = .int j ∧ Q (.int (i - j)) H

end

section
variable {X : Cx} {pins : List (Addr × Obj)} {σ : St} {H : Hp} {s : Shared} {A : Around} {E : Value → Shared → Prop} {Q : Value → Shared → Prop} {c : Value} {b : Bool}
inductive TyOf (K : PySem.W.Frag) (H : Hp) : V → Value → Prop where
  | non : TyOf K H .non (.type "NoneType")
  | bl (x : Bool) : TyOf K H (.bl x) (.type "bool")
  | int (i : Int) : TyOf K H (.int i) (.type "int")
  | str (x : Str) : TyOf K H (.str x) (.type "str")
  | flt (x : UInt64) : TyOf K H (.flt x) (.type "float")
  | lst {a : Addr} {xs : List V} (e : H a = some (.lst xs)) : TyOf K H (.ref a) (.type "list")
  | frz {a : Addr} {o : Obj} {xs : List V} (e : H a = some (.frz o (.lst xs))) : TyOf K H (.ref a) (.type "list")
  | tup {a : Addr} {xs : List V} (e : H a = some (.tup xs)) : TyOf K H (.ref a) (.type "tuple")
  | dK {a : Addr} {kvs : List (Key × V)} (e : H a = some (.dK kvs)) : TyOf K H (.ref a) (.type "dict")
  | dT {a : Addr} {kvs : List (List Key × V)} (e : H a = some (.dT kvs)) : TyOf K H (.ref a) (.type "dict")
  | ins {a C dx : Addr} {fs : List (Str × V)} (e : H a = some (.ins C dx fs)) (cl : Cls K C) (ha : PySem.W.findIn K (.ref C) "__class__" = some (some (.builtin "object.__class__")))
      (hn : PySem.W.specialIn K (.builtin "object.__class__") "__get__" = some (some (.builtin "getset_descriptor.__get__"))) (htk : PySem.W.takesIn K (.builtin "object.__class__") = some true)
      (hm : PySem.W.mroIn K C (.type "object") = some true) : TyOf K H (.ref a) (.ref C)
theorem isinst_ok {x : V} {u t : Value} (I : Inv X pins σ H s) (rx : RelV x u) (ty : TyOf X.K H x t) (e : PySem.W.kitOne X.K t c = some b) (h : ∀ tk, Q (.bool b) { s with toks := tk }) :
    wpAny (model X.prog X.w) A (call (.builtin "isinstance") [u, c]) Q E s := by
  cases ty with
  | non => cases (show u = Value.none from rx); exact PySem.W.kia_one PySem.W.kitx_none I.kIn True.intro e (fun z => nomatch z) h
  | bl y => cases (show u = Value.bool y from rx); exact PySem.W.kia_one PySem.W.kitx_bool I.kIn True.intro e (fun z => nomatch z) h
  | int i => obtain ⟨t, q⟩ := (show ∃ t, u = Value.int i t from rx); cases q; exact PySem.W.kia_one PySem.W.kitx_int I.kIn True.intro e (fun z => nomatch z) h
  | str y => obtain ⟨t, q⟩ := (show ∃ t, u = Value.str y t from rx); cases q; exact PySem.W.kia_one PySem.W.kitx_str I.kIn True.intro e (fun z => nomatch z) h
  | flt y => obtain ⟨t, q⟩ := (show ∃ t, u = Value.float y t from rx); cases q; exact PySem.W.kia_one PySem.W.kitx_float I.kIn True.intro e (fun z => nomatch z) h
  | @lst a xs ea =>
    cases (show u = Value.ref a from rx)
    obtain ⟨_, _, n, _, h1⟩ := (show ObjOk X.prog X.w H s.heap a (.lst xs) from I.hok a _ ea)
    exact PySem.W.kia_one PySem.W.kitx_list I.kIn ⟨_, h1, rfl⟩ e (fun z => nomatch z) h
  | @frz a ob xs ea =>
    cases (show u = Value.ref a from rx)
    obtain ⟨_, _, _, n, _, h1⟩ := (show ObjOk X.prog X.w H s.heap a (.frz ob (.lst xs)) from I.hok a _ ea)
    exact PySem.W.kia_one PySem.W.kitx_list I.kIn ⟨_, h1, rfl⟩ e (fun z => nomatch z) h
  | @tup a xs ea =>
    cases (show u = Value.ref a from rx)
    obtain ⟨_, _, _, p⟩ := (show ObjOk X.prog X.w H s.heap a (.tup xs) from I.hok a _ ea)
    obtain ⟨o, h1, h2, _⟩ := p
    exact PySem.W.kia_one PySem.W.kitx_tuple I.kIn ⟨o, h1, h2⟩ e (fun z => nomatch z) h
  | @dK a kvs ea =>
    cases (show u = Value.ref a from rx)
    obtain ⟨_, _, vs, _, p⟩ := (show ObjOk X.prog X.w H s.heap a (.dK kvs) from I.hok a _ ea)
    obtain ⟨o, es, ep, h1, h2, _⟩ := p
    exact PySem.W.kia_one PySem.W.kitx_dict I.kIn ⟨o, h1, h2.1⟩ e (fun z => nomatch z) h
  | @dT a kvs ea =>
    cases (show u = Value.ref a from rx)
    obtain ⟨_, _, xs, _, o, es, ep, h1, h2, _⟩ := (show ObjOk X.prog X.w H s.heap a (.dT kvs) from I.hok a _ ea)
    exact PySem.W.kia_one PySem.W.kitx_dict I.kIn ⟨o, h1, h2.1⟩ e (fun z => nomatch z) h
  | @ins a C dx fs ea cl ha hn htk hm =>
    cases (show u = Value.ref a from rx)
    obtain ⟨mA, O, _⟩ := ins_get I.hok ea
    obtain ⟨od, J, _⟩ := O.look
    exact PySem.W.kia_one (PySem.W.kitx_own (cl.get _) cl.hd ha hn htk hm) I.kIn J e (fun z => nomatch z) h
end
end L2

namespace L2
open PySem PySem.Spec PyProof.Rows

structure Room (k : Nat) (A : Around) : Prop where
  hd : A.handled = none
  dp : A.depth + 3 * k + 5 < recursionLimit
  un : A.units + 16 * k + 200 < cLine
theorem Room.mono {j k : Nat} {A : Around} (r : Room k A) (h : j ≤ k) : Room j A := ⟨r.hd, by have := r.dp; (first | lia | omega), by have := r.un; (first | lia | omega)⟩
theorem Room.deeper {k : Nat} {A : Around} (r : Room (k + 1) A) (env : Env) : Room k (A.deeper env) :=
  ⟨r.hd, by have := r.dp; show A.depth + 1 + 3 * k + 5 < _; (first | lia | omega), by have := r.un; show A.units + 3 + 16 * k + 200 < _; (first | lia | omega)⟩
theorem Room.depth {k : Nat} {A : Around} (r : Room k A) : A.depth < recursionLimit := by have := r.dp; (first | lia | omega)
theorem Room.units {k : Nat} {A : Around} (r : Room k A) : A.units + 64 < cLine := by have := r.un; (first | lia | omega)

noncomputable def tNil : TA := fun _ H Q => Q [] H
noncomputable def tCons (ta : TE) (tr : TA) : TA := fun σ H Q => ta σ H fun x H1 => tr σ H1 fun xs H2 => Q (x :: xs) H2
section
variable {X : Cx} {e : Expr} {es : List Expr} {te : TE} {t : TA} {pos : Pos}
theorem pa_nil : PA X [] tNil := fun _ _ _ _ H Q I h => Calls.spliced_nil ⟨[], H, I, .nil, h⟩
theorem pa_cons (ha : PE X e te) (hr : PA X es t) (hs : starEach (e :: es) X.env = (false, eval e X.env) :: starEach es X.env := by rfl) : PA X (e :: es) (tCons te t) := by
  intro pos pins s σ H Q I h
  rw [hs]
  show wpAny _ _ (spliced ((false, eval e X.env) :: backTo pos (starEach es X.env))) _ _ s
  refine Calls.spliced_cons (thn (ha pins s σ H _ I h) fun u s1 ⟨x, H1, I1, r1, q1⟩ => ?_)
  exact thn (hr pos pins s1 σ H1 _ I1 q1) fun us s2 ⟨xs, H2, I2, r2, q2⟩ => ⟨x :: xs, H2, I2, .cons r1 r2, q2⟩

noncomputable def tTup (t : TA) : TE := fun σ H Q => t σ H fun xs H1 => xs.length ≤ sizeLine ∧ ∀ p, H1 p = none → Q (.ref p) (upd H1 p (.tup xs))
noncomputable def tLst (t : TA) : TE := fun σ H Q => t σ H fun xs H1 => xs.length ≤ sizeLine ∧ ∀ p, H1 p = none → Q (.ref p) (upd H1 p (.lst xs))
theorem pe_tup {x1} (h : PA X es t) : PE X (.Tuple es x1 pos) (tTup t) := by
  intro pins s σ H Q I hq
  refine wpAny_Tuple_spliced (thn (h pos pins s σ H _ I hq) fun us s1 ⟨xs, H1, I1, r, z, q⟩ => ⟨by rw [← r.length]; exact z, ?_⟩)
  have hf : H1 s1.heap.objs.size = none := I1.hok.fresh (Nat.le_refl _)
  refine ⟨.ref s1.heap.objs.size, upd H1 s1.heap.objs.size (.tup xs), I1.laid (t' := s1.toks) (fun b u e => Heap.get?_push_of_some _ e) (Nat.le_refl _) ?_, rfl, q _ hf⟩
  exact ⟨z, us, r, ⟨_, Heap.get?_push_size _ rfl, rfl, _, rfl⟩⟩
theorem pe_lst (h : PA X es t) : PE X (.List es pos) (tLst t) := by
  intro pins s σ H Q I hq
  refine wpAny_List_spliced (thn (h pos pins s σ H _ I hq) fun us s1 ⟨xs, H1, I1, r, z, q⟩ => ⟨by rw [← r.length]; exact z, ?_⟩)
  have hf : H1 s1.heap.objs.size = none := I1.hok.fresh (Nat.le_refl _)
  refine ⟨.ref s1.heap.objs.size, upd H1 s1.heap.objs.size (.lst xs), I1.laid (t' := s1.toks) (fun b u e => Heap.get?_push_of_some _ e) (Nat.le_refl _) ?_, rfl, q _ hf⟩
  exact ⟨z, us, 0, r, Heap.get?_push_size _ rfl⟩
end

noncomputable abbrev Sp := List V → Hp → VK → XK → Prop
noncomputable abbrev CXT := List Env → Hp → Shared → XK → Value → Shared → Prop

structure Env0 (P : Program) (w : World) (K : PySem.W.Frag) (mg : Str → Option Value) (base : Heap) (A : Around) (outer : List Env) (s : Shared) (H : Hp) : Prop where
  frames : A.frames = some outer
  mod : Mod K mg base
  bs : ∀ b o, base.get? b = some o → s.heap.get? b = some o ∧ H b = none
  bsz : base.objs.size ≤ s.heap.objs.size
  funs : s.heap.FunFrames base outer
  frf : ∀ b ∈ frs outer, H b = none
  hok : HOk P w H s.heap
  bare : AllBare s.gens
noncomputable def CE (outer : List Env) (P : Program) (w : World) (H : Hp) (s : Shared) (Q : VK) (u : Value) (s' : Shared) : Prop :=
  ∃ v H', s'.os = s.os ∧ AllBare s'.gens ∧ Un (frs outer) [] H H' s.heap s'.heap ∧ HOk P w H' s'.heap ∧ RelV v u ∧ Q v H'
noncomputable def CR (CX : CXT) (outer : List Env) (P : Program) (w : World) (H : Hp) (s : Shared) (Q : VK) (E : XK) (r : Result) (s' : Shared) : Prop :=
  match r with
  | .ok (.ret u) => CE outer P w H s Q u s'
  | .ok _ => False
  | .error e => CX outer H s E e s'
structure FnOk (P : Program) (w : World) (K : PySem.W.Frag) (mg : Str → Option Value) (base : Heap) (CX : CXT) (k : Nat) (f : Addr) (fd : FuncData) (ps : List Str) (sp : Sp) : Prop where
  len : ∀ vs H Q E, sp vs H Q E → vs.length = ps.length
  run : ∀ (A : Around) (outer : List Env) (s : Shared) (H : Hp) (args : Args) (us : List Value) (vs : List V) (Q : VK) (E : XK), Room k A → Env0 P w K mg base A outer s H → BindsTo s fd args (ps.zip us) → Vals vs us → sp vs H Q E →
    codeAny (model P w) A (.call (.ref f) args) (CR CX outer P w H s Q E) s


section
variable {X : Cx} {pins : List (Addr × Obj)} {σ : St} {H : Hp} {s s' : Shared}
theorem Inv.env0 (I : Inv X pins σ H s) : Env0 X.prog X.w X.K X.mg X.base X.A X.stack s H :=
  ⟨I.ok.frames, I.ok.mod, I.bs, Nat.le_trans I.ok.bsz I.sz, I.stack, I.stkFree, I.hok, I.bare⟩
theorem Inv.after {Q : VK} {u : Value} (I : Inv X pins σ H s) (h : CE X.stack X.prog X.w H s Q u s') : EP X pins σ Q u s' := by
  obtain ⟨v, H', os, bare, un, hok, r, q⟩ := h
  obtain ⟨hh, g, d, t, os'⟩ := s'
  obtain rfl : os' = s.os := os
  exact ⟨v, H', I.call (h' := hh) (g' := g) (d' := d) (t' := t) (ch := []) un hok bare (fun b z => absurd z (by simp)), r, q⟩
end

noncomputable def tCall (sp : Sp) (dvs : List V) (E : XK) (t : TA) : TE := fun σ H Q => t σ H fun vs H1 => sp (vs ++ dvs) H1 Q E
noncomputable def tMeth (C : Addr) (m : Str) (sp : Sp) (dvs : List V) (E : XK) (ta : TE) (t : TA) : TE := fun σ H Q => ta σ H fun x H1 => ∃ a dx fs, x = .ref a ∧ H1 a = some (.ins C dx fs) ∧ fs.lookup m = none ∧
  t σ H1 fun vs H2 => sp (x :: (vs ++ dvs)) H2 Q E
noncomputable def tMake (C : Addr) (sp : Sp) (dvs : List V) (E : XK) (t : TA) : TE := fun σ H Q => t σ H fun vs H1 => ∀ x dx, H1 x = none → H1 dx = none → dx ≠ x →
  sp (.ref x :: (vs ++ dvs)) (upd (upd H1 dx (.own x)) x (.ins C dx [])) (fun v H2 => v = .non ∧ Q (.ref x) H2) E

noncomputable def Binds (K : PySem.W.Frag) (fd : FuncData) (ps : List Str) (ds : List Value) : Prop :=
  ∀ (s : Shared) (us : List Value), K.In s.heap → (us ++ ds).length = ps.length → BindsTo s fd ⟨us, []⟩ (ps.zip (us ++ ds))
theorem Binds.all {K : PySem.W.Frag} {fd : FuncData} {ps : List Str} (h : ∀ us : List Value, us.length = ps.length → bindArgs fd ⟨us, []⟩ = pure (ps.zip us)) : Binds K fd ps [] := fun s us _ hl => by
  rw [List.append_nil] at hl ⊢
  exact .of_eq (h us hl)

noncomputable def Passes (CX : CXT) (X : Cx) (E : XK) : Prop := ∀ (pins : List (Addr × Obj)) (σ : St) (H : Hp) (s : Shared) (e : Value) (s' : Shared), Inv X pins σ H s → CX X.stack H s E e s' → X.xe e s'

section
variable {X : Cx} {CX : CXT} {k : Nat} {f C : Addr} {fd : FuncData} {ps : List Str} {sp : Sp} {dvs : List V} {ds : List Value} {E : XK} {x m : Str} {p pos apos : Pos} {e o : Expr} {es : List Expr} {ta : TE} {t : TA}

theorem run_fn {pins : List (Addr × Obj)} {σ : St} {H : Hp} {s : Shared} {Q : VK} {us : List Value} {vs : List V} (F : FnOk X.prog X.w X.K X.mg X.base CX k f fd ps sp) (hr : Room k X.A) (hb : Binds X.K fd ps ds) (hd : Vals dvs ds) (hx : Passes CX X E)
    (I : Inv X pins σ H s) (r : Vals vs us) (h : sp (vs ++ dvs) H Q E) : wpAny (model X.prog X.w) X.A (call (.ref f) us) (EP X pins σ Q) X.xe s := by
  have r2 : Vals (vs ++ dvs) (us ++ ds) := r.append hd
  have hl : (us ++ ds).length = ps.length := by rw [← r2.length]; exact F.len _ _ _ _ h
  refine wpAny_call (codeAny_mono (F.run X.A X.stack s H ⟨us, []⟩ (us ++ ds) (vs ++ dvs) Q E hr I.env0 (hb s us I.kIn hl) r2 h) fun r s' hq => ?_)
  cases r with
  | error e => exact hx pins σ H s e s' I hq
  | ok fl =>
    cases fl with
    | ret u => exact I.after hq
    | next => exact False.elim hq
    | brk => exact False.elim hq
    | cont => exact False.elim hq

theorem pe_call (F : FnOk X.prog X.w X.K X.mg X.base CX k f fd ps sp) (hr : Room k X.A) (hg : Gl X x) (hm : X.mg x = some (.ref f)) (hk : PySem.W.keepIn X.K (.ref f) = true) (hb : Binds X.K fd ps ds) (hd : Vals dvs ds) (hx : Passes CX X E)
    (ha : PA X (e :: es) t) (hdb : (x == ("__debug__" : Str)) = false := by decide) (he : starEach (e :: es) X.env = (false, eval e X.env) :: starEach es X.env := by rfl) (hpl : (backTo pos (starEach es X.env)).any (·.1) = false := by rfl) :
    PE X (.Call (.Name x p) (e :: es) [] pos) (tCall sp dvs E t) := by
  intro pins s σ H Q I h
  refine wpAny_Call_Name_kw (ld_glob I hg hm ?_ hdb)
  refine PySem.W.callWith_K (h₀ := X.base) I.ok.mod.kin hk (thn (ha pos pins s σ H _ I h) fun us s1 ⟨vs, H1, I1, r, q⟩ => ⟨I1.kIn, ?_⟩) he hpl
  exact run_fn F hr hb hd hx I1 r q


structure Mk (K : PySem.W.Frag) (C f : Addr) : Prop where
  makes : PySem.W.makesIn K C = true
  init : PySem.W.findIn K (.ref C) "__init__" = some (some (.ref f))
  fn : PySem.W.isFn K (.ref f) = true
  kp : PySem.W.keepIn K (.ref C) = true

end

noncomputable def PK (X : Cx) (kws : List Keyword) (t : TA) : Prop :=
  ∀ (pos : Pos) (pins : List (Addr × Obj)) (s : Shared) (σ : St) (H : Hp) (Q : List V → Hp → Prop), Inv X pins σ H s → t σ H Q → wpAny (model X.prog X.w) X.A (evalAll ((backToKw pos (keywordEach kws X.env)).map (·.2))) (AP X pins σ Q) X.xe s
section
variable {X : Cx} {CX : CXT} {k : Nat} {f C : Addr} {fd : FuncData} {ps ks : List Str} {sp : Sp} {E : XK} {x m : Str} {p pos apos kpos : Pos} {e o : Expr} {es : List Expr} {kws : List Keyword} {te ta : TE} {t tk : TA} {nm : Option Str}

structure KBinds (K : PySem.W.Frag) (fd : FuncData) (ps ks : List Str) (g : List Value → List Value → List Value) (gV : List V → List V → List V) : Prop where
  to : ∀ (s : Shared) (us ws : List Value), K.In s.heap → (g us ws).length = ps.length → BindsTo s fd ⟨us, ks.zip ws⟩ (ps.zip (g us ws))
  rel : ∀ {vs : List V} {us : List Value} {zs : List V} {ws : List Value}, Vals vs us → Vals zs ws → Vals (gV vs zs) (g us ws)
noncomputable def tCallK (sp : Sp) (gV : List V → List V → List V) (E : XK) (t tk : TA) : TE := fun σ H Q => t σ H fun vs H1 => tk σ H1 fun zs H2 => sp (gV vs zs) H2 Q E
variable {g : List Value → List Value → List Value} {gV : List V → List V → List V}
end

structure FnScope (N P : List Str) (sc : Scope) : Prop where
  kind : sc.kind = .function
  co : sc.isCoroutine = false
  gen : sc.isGenerator = false
  nd : N.Nodup
  pre : N.take P.length = P
  par : ∀ x ∈ P, sc.names.lookup x = some .local ∨ sc.names.lookup x = some .cell
  nofree : ∀ y ∈ sc.names, y.2 ≠ .free

theorem bindL_out {kindOf : Str → Option NameKind} {x : Str} : ∀ {binds : List (Str × Value)} {m : Str → Option Value}, (∀ v, (x, v) ∉ binds) → bindL kindOf binds m x = m x
  | [], _, _ => rfl
  | (n, v) :: r, m, h => by
    unfold bindL
    rw [bindL_out fun w hw => h w (List.mem_cons_of_mem _ hw)]
    split
    · have : x ≠ n := by rintro rfl; exact h v List.mem_cons_self
      simp [this]
    · rfl
theorem bindC_out {kindOf : Str → Option NameKind} {x : Str} : ∀ {binds : List (Str × Value)} {m : Str → Option Value}, (∀ v, (x, v) ∉ binds) → bindC kindOf binds m x = m x
  | [], _, _ => rfl
  | (n, v) :: r, m, h => by
    unfold bindC
    rw [bindC_out fun w hw => h w (List.mem_cons_of_mem _ hw)]
    split
    · rfl
    · have : x ≠ n := by rintro rfl; exact h v List.mem_cons_self
      simp [this]
theorem bindL_get {kindOf : Str → Option NameKind} {x : Str} {v : Value} : ∀ {P : List Str} {vs : List Value} {i : Nat} {m : Str → Option Value}, P.Nodup → P[i]? = some x → vs[i]? = some v → kindOf x = some .local →
    bindL kindOf (P.zip vs) m x = some v
  | [], _, _, _, _, h, _, _ => by simp at h
  | _ :: _, [], _, _, _, _, h, _ => by simp at h
  | p :: P, w :: vs, 0, m, nd, h1, h2, hk => by
    simp at h1 h2; subst h1; subst h2
    show bindL kindOf ((p, w) :: P.zip vs) m p = _
    unfold bindL
    rw [bindL_out fun v hv => (List.nodup_cons.mp nd).1 (List.of_mem_zip hv).1, if_pos hk]
    simp
  | p :: P, w :: vs, i + 1, m, nd, h1, h2, hk => by
    show bindL kindOf ((p, w) :: P.zip vs) m x = _
    unfold bindL
    exact bindL_get (i := i) (List.nodup_cons.mp nd).2 (by simpa using h1) (by simpa using h2) hk
theorem bindC_get {kindOf : Str → Option NameKind} {x : Str} {v : Value} : ∀ {P : List Str} {vs : List Value} {i : Nat} {m : Str → Option Value}, P.Nodup → P[i]? = some x → vs[i]? = some v → kindOf x ≠ some .local →
    bindC kindOf (P.zip vs) m x = some v
  | [], _, _, _, _, h, _, _ => by simp at h
  | _ :: _, [], _, _, _, _, h, _ => by simp at h
  | p :: P, w :: vs, 0, m, nd, h1, h2, hk => by
    simp at h1 h2; subst h1; subst h2
    show bindC kindOf ((p, w) :: P.zip vs) m p = _
    unfold bindC
    rw [bindC_out fun v hv => (List.nodup_cons.mp nd).1 (List.of_mem_zip hv).1, if_neg hk]
    simp
  | p :: P, w :: vs, i + 1, m, nd, h1, h2, hk => by
    show bindC kindOf ((p, w) :: P.zip vs) m x = _
    unfold bindC
    exact bindC_get (i := i) (List.nodup_cons.mp nd).2 (by simpa using h1) (by simpa using h2) hk

noncomputable def start (N : List Str) (vs : List V) : St := vs.map some ++ List.replicate (N.length - vs.length) none

noncomputable def cxOf (CX : CXT) (P : Program) (w : World) (K : PySem.W.Frag) (mg : Str → Option Value) (base : Heap) (N : List Str) (qual : Str) (scope : Scope) (f : Addr) (cd : Value) (A : Around) (outer : List Env) (s : Shared) (H : Hp) (E : XK) : Cx where
  prog := P
  w := w
  K := K
  mg := mg
  base := base
  A := A.deeper (envOfC qual scope s.heap.objs.size f cd)
  N := N
  s₀ := s
  H₀ := H
  env := envOfC qual scope s.heap.objs.size f cd
  outer := outer
  stack := envOfC qual scope s.heap.objs.size f cd :: outer
  ex := []
  calm := true
  fn := fun _ => true
  pn := []
  xe := fun e s' => wpAny (model P w) (A.deeper (envOfC qual scope s.heap.objs.size f cd)) (leaving (envOfC qual scope s.heap.objs.size f cd) e) (fun _ s'' => CX outer H s E e s'') (fun e' s'' => CX outer H s E e' s'') s'

theorem cell_has {sc : Scope} {n : Nat} {x : Str} (h : sc.names.lookup x = some .cell) : ∃ c, (cellsFrom n sc.names []).lookup x = some c := by
  have q := PySem.W.cellsFrom_some sc.names n [] (.inl h)
  exact Option.isSome_iff_exists.mp q

theorem inv_start {CX : CXT} {P : Program} {w : World} {K : PySem.W.Frag} {mg : Str → Option Value} {base : Heap} {N ps : List Str} {qual : Str} {scope : Scope} {f : Addr} {cd : Value} {A : Around} {outer : List Env} {s s1 : Shared} {H : Hp} {E : XK} {us : List Value} {vs : List V}
    (S : FnScope N ps scope) (hd : A.handled = none) (e0 : Env0 P w K mg base A outer s H) (hl : vs.length = ps.length) (r : Vals vs us)
    (x : InCallC s s.heap.objs.size (bindL (envOfC qual scope s.heap.objs.size f cd).kindOf (ps.zip us) fun _ => none) (cellsFrom (s.heap.objs.size + 1) scope.names []) (bindC (envOfC qual scope s.heap.objs.size f cd).kindOf (ps.zip us) fun _ => none) s1) :
    Inv (cxOf CX P w K mg base N qual scope f cd A outer s H E) [] (start N vs) H s1 := by
  have hpl : ps.length ≤ N.length := by have := congrArg List.length S.pre; rw [List.length_take] at this; (first | lia | omega)
  obtain ⟨h1, tk, rfl, hk⟩ := x.done
  have noA : ∀ b : Addr, b ∉ (cxOf CX P w K mg base N qual scope f cd A outer s H E).ex := fun b z => absurd (show b ∈ ([] : List Addr) from z) (by simp)
  refine ⟨⟨e0.mod, S.kind, rfl, rfl, Nat.le_refl _, fun y z c h1 h2 => ?_, fun y hy => ?_, fun y c _ h => ?_, fun _ => hd, Around.frames_deeper e0.frames, .inr ⟨rfl, rfl⟩, fun b z => absurd z (noA b), e0.bs, e0.bsz, fun b _ _ => noA b, fun b z => absurd z (noA b), e0.funs, e0.frf⟩,
    rfl, e0.bare, Un.kept hk, ⟨_, x.toInCall.ns, fun i y v h1 h2 h3 => ?_⟩, fun y c h => ⟨_, x.cell y c h⟩, e0.hok.fresh (Nat.le_refl _), fun y c h => ?_, fun p hp => absurd (show p ∈ ([] : List (Addr × Obj)) from hp) (by simp), e0.hok.kept hk, ?_⟩
  · exact name_of_addr x.apart (PySem.mem_of_lookup h1) (PySem.mem_of_lookup h2)
  · have hy : scope.names.lookup y = some .cell ∨ scope.names.lookup y = some .free := hy
    rcases hy with hy | hy
    · exact cell_has hy
    · exact absurd rfl (S.nofree _ (PySem.mem_of_lookup hy))
  · exact Nat.le_of_lt (x.above y c (PySem.mem_of_lookup h))
  · have hi : i < vs.length := by
      unfold start at h2
      by_cases hi : i < vs.length
      · exact hi
      · rw [List.getElem?_append_right (by simpa using hi)] at h2
        rw [List.getElem?_replicate] at h2
        split at h2 <;> cases h2
    have ha : vs[i]? = some v := by
      unfold start at h2
      rw [List.getElem?_append_left (by simpa using hi), List.getElem?_map] at h2
      cases e : vs[i]? with
      | none => rw [e] at h2; cases h2
      | some a => rw [e] at h2; cases h2; rfl
    obtain ⟨u, hu, rv⟩ := r.get ha
    have hp : ps[i]? = some y := by
      rw [← S.pre, List.getElem?_take_of_lt (by (first | lia | omega))]; exact h1
    have ndP : ps.Nodup := by rw [← S.pre]; exact S.nd.sublist (List.take_sublist _ _)
    refine ⟨u, rv, ?_⟩
    rcases S.par y (List.mem_of_getElem? hp) with k | k
    · exact .inl ⟨k, bindL_get ndP hp hu k⟩
    · obtain ⟨c, e⟩ := cell_has (n := s.heap.objs.size + 1) k
      refine .inr ⟨.inl k, c, e, ?_⟩
      have q := x.cell y c e
      rw [bindC_get ndP hp hu (by show scope.names.lookup y ≠ _; rw [k]; decide)] at q
      exact q
  · exact e0.hok.fresh (Nat.le_of_lt (x.above y c (PySem.mem_of_lookup h)))
  · unfold start
    show _ = N.length
    rw [List.length_append, List.length_map, List.length_replicate]
    (first | lia | omega)

theorem fn_of {CX : CXT} {P : Program} {w : World} {K : PySem.W.Frag} {mg : Str → Option Value} {base : Heap} {k : Nat} {f : Addr} {name qual : Str} {params : Arguments} {body : List Stmt} {scope : Scope} {dV kV doc pm cdv ct oc : Value} {an od : Option Addr}
    {osl : Array (Option Value)} {N ps : List Str} {sp : Sp} (lk : K.lookup f = some ⟨oc, od, .func (PySem.W.fnOf name qual params body scope dV kV doc pm an cdv ct), osl⟩) (hcd : PySem.W.codeIn K cdv qual = true) (S : FnScope N ps scope)
    (len : ∀ vs H Q E, sp vs H Q E → vs.length = ps.length)
    (hbody : ∀ (A : Around) (outer : List Env) (s : Shared) (H : Hp) (vs : List V) (Q : VK) (E : XK), Room k (A.deeper (envOfC qual scope s.heap.objs.size f cdv)) → sp vs H Q E →
      ∃ t, PSs (cxOf CX P w K mg base N qual scope f cdv A outer s H E) body t ∧ t { nx := fun _ H' => Q .non H', rt := Q } (start N vs) H) :
    FnOk P w K mg base CX (k + 1) f (PySem.W.fnOf name qual params body scope dV kV doc pm an cdv ct) ps sp := by
  refine ⟨len, fun A outer s H args us vs Q E hr e0 hb r hsp => ?_⟩
  have hl := len _ _ _ _ hsp
  have KX : K.In s.heap := e0.mod.kin.keeps fun b o e => (e0.bs b o e).1
  have lim : s.heap.NoLimit := e0.mod.nolimit.keeps fun b o e => (e0.bs b o e).1
  have hkind : ∀ y ∈ ps.zip us, scope.names.lookup y.1 = some .local ∨ (scope.names.lookup y.1 = some .cell ∧ ((cellsFrom (s.heap.objs.size + 1) scope.names []).lookup y.1).isSome = true) := fun ⟨n, v⟩ hy => by
    rcases S.par n (List.of_mem_zip hy).1 with q | q
    · exact .inl q
    · exact .inr ⟨q, PySem.W.cellsFrom_some _ _ _ (.inl q)⟩
  refine codeAny_call_function hr.depth (KX _ _ lk) rfl S.co S.gen rfl (PySem.W.codeRec_of KX hcd) (hb _ _ _ _ ?_)
  refine wpAny_newFunctionEnv_cells S.kind hkind fun env he s1 x => ?_
  subst he
  refine ⟨lim.keeps x.toInCall.keep, codeAny_func ?_⟩
  obtain ⟨t, ht, hq⟩ := hbody A outer s H vs Q E (hr.deeper _) hsp
  have I : Inv (cxOf CX P w K mg base N qual scope f cdv A outer s H E) [] (start N vs) H s1 := inv_start S hr.hd e0 hl r x
  refine wpAny_mono (ht [] s1 (start N vs) H _ I hq) (fun fl s' hs => ?_) fun e s' hs => hs
  have fin : ∀ {σ' : St} {H' : Hp} {v : V} {u : Value}, Inv (cxOf CX P w K mg base N qual scope f cdv A outer s H E) [] σ' H' s' → RelV v u → Q v H' → CE outer P w H s Q u s' :=
    fun {σ' H' v u} J rv q => ⟨v, H', J.os, J.bare, J.base, J.hok, rv, q⟩
  cases fl with
  | ret u =>
    obtain ⟨v, σ', H', J, rv, q⟩ := hs
    exact fin J rv q
  | next =>
    obtain ⟨σ', H', J, q⟩ := hs
    exact fin (v := V.non) (u := Value.none) J rfl q
  | brk =>
    obtain ⟨_, _, _, q⟩ := hs
    exact False.elim q
  | cont =>
    obtain ⟨_, _, _, q⟩ := hs
    exact False.elim q
end L2

namespace L2
open PySem PySem.Spec PyProof.Rows
section
variable {X : Cx} {x : Str} {p pos : Pos} {e : Expr} {es : List Expr} {t : TA} {id T : String} {r : List V → Hp → VK → Prop}

noncomputable def tCB (r : List V → Hp → VK → Prop) (t : TA) : TE := fun σ H Q => t σ H fun vs H1 => r vs H1 Q
theorem pe_callB (hc : CallR X (.builtin id) r) (hg : Gl X x) (hm : X.mg x = none) (hv : bootBuiltins x = some (.builtin id)) (ha : PA X (e :: es) t) (hn : x ≠ "__name__" := by decide) (hdb : (x == ("__debug__" : Str)) = false := by decide)
    (he : starEach (e :: es) X.env = (false, eval e X.env) :: starEach es X.env := by rfl) (hpl : (backTo pos (starEach es X.env)).any (·.1) = false := by rfl) : PE X (.Call (.Name x p) (e :: es) [] pos) (tCB r t) := by
  intro pins s σ H Q I h
  refine wpAny_Call_Name_kw (ld_blt I hg hm hv ?_ hn hdb)
  exact PyProof.Rows.callWith_builtin1 (thn (ha pos pins s σ H _ I h) fun us s1 ⟨vs, H1, I1, r1, q1⟩ => hc pins s1 σ H1 vs us Q I1 r1 q1) he hpl
theorem pe_callTy (hc : CallR X (.type T) r) (hg : Gl X x) (hm : X.mg x = none) (hv : bootBuiltins x = some (.type T)) (ha : PA X (e :: es) t) (hn : x ≠ "__name__" := by decide) (hdb : (x == ("__debug__" : Str)) = false := by decide)
    (he : starEach (e :: es) X.env = (false, eval e X.env) :: starEach es X.env := by rfl) (hpl : (backTo pos (starEach es X.env)).any (·.1) = false := by rfl) : PE X (.Call (.Name x p) (e :: es) [] pos) (tCB r t) := by
  intro pins s σ H Q I h
  refine wpAny_Call_Name_kw (ld_blt I hg hm hv ?_ hn hdb)
  exact PyProof.Rows.callWith_type1 (thn (ha pos pins s σ H _ I h) fun us s1 ⟨vs, H1, I1, r1, q1⟩ => hc pins s1 σ H1 vs us Q I1 r1 q1) he hpl
end
end L2

namespace HT
open PySem PyProof.Rows

noncomputable def lexLt : List Int → List Int → Bool
  | [], [] => false
  | [], _ :: _ => true
  | _ :: _, [] => false
  | x :: xs, y :: ys => if x = y then lexLt xs ys else decide (x < y)


section
open PySem.SeqAt
open PySem.AutoSeq1 (wpAny_loadPart')
open PySem.MeetsSeq PySem.MeetsSeq2 PySem.MeetsSeq3

end

section
variable {prog : Program} {w : World} {A : Around} {E : Value → Shared → Prop} {s : Shared}


theorem cat_tup {t b : Addr} {vs ws : List Value} {Q : Value → Shared → Prop} (ht : IsTup s.heap t vs.toArray) (hb : IsTup s.heap b ws.toArray) (hv : vs ≠ [])
    (h1 : ws = [] → Q (.ref t) s) (h2 : ws ≠ [] → Q (.ref s.heap.objs.size) { s with heap := s.heap.push { cls := .type "tuple", data := .seq (vs ++ ws).toArray } })
    (hsz : vs.length + ws.length ≤ sizeLine) : wpAny (model prog w) A (binaryOp .Add (.ref t) (.ref b)) Q E s := by
  obtain ⟨⟨cls, dd, data, sl⟩, ho, hc, n, hd⟩ := id ht
  obtain ⟨⟨cls2, dd2, data2, sl2⟩, ho2, hc2, n2, hd2⟩ := id hb
  simp only at hc hd hc2 hd2
  subst hc hd hc2 hd2
  have e : vs.toArray ++ ws.toArray = (vs ++ ws).toArray := by simp
  by_cases hw : ws = []
  · exact concat_meets ⟨_, ho, rfl⟩ ⟨_, ho2, rfl⟩ noFill_tuple_add seq_tuple_add PySem.F.slot_tuple_add PySem.F.entry_tuple_add (PySem.F.args_tuple_add_2 _ _)
      (tuple_addW1 t b vs.toArray ws.toArray n n2 dd dd2 sl sl2 (by simpa using hv) (by simp [hw])) ⟨ho, ho2, h1 hw⟩
  · refine concat_meets ⟨_, ho, rfl⟩ ⟨_, ho2, rfl⟩ noFill_tuple_add seq_tuple_add PySem.F.slot_tuple_add PySem.F.entry_tuple_add (PySem.F.args_tuple_add_2 _ _)
      (tuple_addW2 t b vs.toArray ws.toArray n n2 dd dd2 sl sl2 (by simpa using hv) (by simpa using hw) (by rw [List.size_toArray, List.size_toArray]; exact hsz)) ⟨ho, ho2, ?_⟩
    rw [e]
    exact h2 hw

noncomputable def sIx (n d : Nat) : Option Int → Nat
  | none => d
  | some v => if v < 0 then (v + (n : Int)).toNat else min v.toNat n
theorem sIx_none (n d : Nat) : sIx n d none = d := rfl
theorem sIx_nat (n d k : Nat) : sIx n d (some (k : Int)) = min k n := by
  show (if (k : Int) < 0 then ((k : Int) + (n : Int)).toNat else min (k : Int).toNat n) = min k n
  rw [if_neg (by (first | lia | omega)), Int.toNat_natCast]

end
end HT

namespace L2
open PySem PySem.Spec PyProof.Rows

noncomputable abbrev TO := St → Hp → (Option Int → Hp → Prop) → Prop
noncomputable def PO (X : Cx) (e : Option Expr) (t : TO) : Prop :=
  ∀ (pins : List (Addr × Obj)) (s : Shared) (σ : St) (H : Hp) (Q : Option Int → Hp → Prop), Inv X pins σ H s → t σ H Q →
    wpAny (model X.prog X.w) X.A (evalPart e X.env) (fun u s' => ∃ o H', Inv X pins σ H' s' ∧ IsPart u o ∧ Q o H') X.xe s
noncomputable def tNoPart : TO := fun _ H Q => Q none H
noncomputable def tPart (t : TE) : TO := fun σ H Q => t σ H fun x H1 => ∃ i, x = .int i ∧ Q (some i) H1

theorem intsAre_of {ns : List Int} : ∀ {us : List Value}, Vals (ns.map V.int) us → IntsAre us ns := by
  induction ns with
  | nil => intro us r; rw [List.map_nil] at r; cases r; exact .nil
  | cons n ns ih =>
    intro us r
    rw [List.map_cons] at r
    cases r with
    | cons r1 r2 =>
      obtain ⟨t, e⟩ := r1
      subst e
      exact .cons n t (ih r2)

section
variable {X : Cx} {e : Expr} {te : TE} {lo hi : Option Expr} {tl th : TO} {pos p2 : Pos}

theorem po_none : PO X none tNoPart := by
  intro pins s σ H Q I h
  rw [evalPart_none]
  exact wpAny_pure ⟨none, H, I, .none, h⟩
theorem po_some (h : PE X e te) : PO X (some e) (tPart te) := by
  intro pins s σ H Q I hw
  rw [evalPart_some]
  refine thn (h pins s σ H _ I hw) fun u s1 ⟨x, H1, I1, r1, q1⟩ => ?_
  obtain ⟨i, rfl, q⟩ := q1
  obtain ⟨t, rfl⟩ := r1
  exact ⟨some i, H1, I1, .int i t, q⟩

noncomputable def SlR (X : Cx) (r : V → Option Int → Option Int → Hp → VK → Prop) : Prop :=
  ∀ (pins : List (Addr × Obj)) (s : Shared) (σ : St) (H : Hp) (x : V) (v vl vu : Value) (lo hi : Option Int) (sl : Addr) (Q : VK), Inv X pins σ H s → RelV x v → s.heap.IsSliceOf sl vl vu .none → IsPart vl lo → IsPart vu hi → r x lo hi H Q →
    ∃ T id, typeLookup (.type T) "__getitem__" = pure (some (.builtin id)) ∧ s.TypeIs v T ∧ wpAny (model X.prog X.w) X.A (getItem v (.ref sl)) (EP X pins σ Q) X.xe s
noncomputable def tSl (r : V → Option Int → Option Int → Hp → VK → Prop) (te : TE) (tl th : TO) : TE := fun σ H Q => te σ H fun x H1 => tl σ H1 fun l H2 => th σ H2 fun u H3 => r x l u H3 Q
theorem pe_slice {r : V → Option Int → Option Int → Hp → VK → Prop} (hr : SlR X r) (he : PE X e te) (hl : PO X lo tl) (hu : PO X hi th) : PE X (.Subscript e (.Slice lo hi none p2) pos) (tSl r te tl th) := by
  intro pins s σ H Q I h
  refine Subscript_ (thn (he pins s σ H _ I h) fun v s1 ⟨x, H1, I1, r1, q1⟩ => ?_)
  refine wpAny_Slice (thn (hl pins s1 σ H1 _ I1 q1) fun vl s2 ⟨l, H2, I2, pl, q2⟩ => thn (hu pins s2 σ H2 _ I2 q2) fun vu s3 ⟨u, H3, I3, pu, q3⟩ => ?_)
  rw [evalPart_none]
  refine wpAny_pure ?_
  have I4 : Inv X pins σ H3 { s3 with heap := s3.heap.push { cls := .type "slice", data := .fields #[vl, vu, .none] } } := I3.kept (t' := s3.toks) fun b ob q => Heap.get?_push_of_some _ q
  obtain ⟨T, id, hT, ht, hg⟩ := hr pins { s3 with heap := s3.heap.push { cls := .type "slice", data := .fields #[vl, vu, .none] } } σ H3 x v vl vu l u s3.heap.objs.size Q I4 r1 (Heap.IsSliceOf.new ..) pl pu q3
  show wpAny (model X.prog X.w) X.A (subscriptTail e (.Slice lo hi none p2) v (.ref s3.heap.objs.size)) (EP X pins σ Q) X.xe { s3 with heap := s3.heap.push { cls := .type "slice", data := .fields #[vl, vu, .none] } }
  exact tail_any (ops := [.ref s3.heap.objs.size, v]) ht hT hg (by with_unfolding_all rfl)

noncomputable def cutV (xs : List V) (lo hi : Option Int) : List V := (xs.drop (HT.sIx xs.length 0 lo)).take (HT.sIx xs.length xs.length hi - HT.sIx xs.length 0 lo)
theorem cutV_length (xs : List V) (lo hi : Option Int) : (cutV xs lo hi).length ≤ xs.length := by
  unfold cutV
  rw [List.length_take, List.length_drop]
  (first | lia | omega)
noncomputable def rSlT (K : PySem.W.Frag) : V → Option Int → Option Int → Hp → VK → Prop := fun x lo hi H Q => ∃ a xs, x = .ref a ∧ SqT K H a xs ∧
  ¬ (HT.sIx xs.length 0 lo = 0 ∧ HT.sIx xs.length xs.length hi = xs.length) ∧ ∀ p, H p = none → Q (.ref p) (upd H p (.tup (cutV xs lo hi)))

noncomputable def rLtT (K : PySem.W.Frag) : R2 := fun x y H Q => ∃ a b ns ms, x = .ref a ∧ y = .ref b ∧ SqT K H a (ns.map V.int) ∧ SqT K H b (ms.map V.int) ∧ Q (.bl (HT.lexLt ns ms)) H
noncomputable def rCatT (K : PySem.W.Frag) : R2 := fun x y H Q => ∃ a b xs ys, x = .ref a ∧ y = .ref b ∧ SqT K H a xs ∧ SqT K H b ys ∧ xs ≠ [] ∧ xs.length + ys.length ≤ sizeLine ∧
  (ys = [] → Q (.ref a) H) ∧ (ys ≠ [] → ∀ p, H p = none → Q (.ref p) (upd H p (.tup (xs ++ ys))))
theorem Vals.nil_iff {xs : List V} {us : List Value} (r : Vals xs us) : us = [] ↔ xs = [] := by
  cases r with
  | nil => simp
  | cons _ _ => simp
theorem op_catT : OpR X (binaryOp .Add) (rCatT X.K) := by
  intro pins s σ H x y v u Q I rx ry h
  obtain ⟨a, b, xs, ys, rfl, rfl, ha, hb, hx, hz, q1, q2⟩ := h
  cases rx
  cases ry
  obtain ⟨its, r1, p1, _⟩ := I.tuple ha
  obtain ⟨its2, r2, p2, _⟩ := I.tuple hb
  refine HT.cat_tup p1 p2 (fun z => hx (r1.nil_iff.mp z)) (fun z => ⟨.ref a, H, I, rfl, q1 (r2.nil_iff.mp z)⟩) (fun z => ?_) (by rw [← r1.length, ← r2.length]; exact hz)
  refine ⟨.ref s.heap.objs.size, _, I.laid (t' := s.toks) (o := .tup (xs ++ ys)) (fun b ob q => Heap.get?_push_of_some _ q) (Nat.le_refl _) ?_, rfl, q2 (fun w => z (r2.nil_iff.mpr w)) _ (I.hok.fresh (Nat.le_refl _))⟩
  exact ⟨by rw [List.length_append]; exact hz, _, r1.append r2, IsTup.new _ _⟩
end
end L2

namespace L2
open PySem PySem.Spec PyProof.Rows

noncomputable def ixN (n : Nat) (i : Int) : Option Nat := if 0 ≤ i then (if i < n then some i.toNat else none) else if -(n : Int) ≤ i then some (i + n).toNat else none
noncomputable def atI {α : Type} (xs : List α) (i : Int) : Option α := (ixN xs.length i).bind fun j => xs[j]?
theorem ixN_seq {n : Nat} {i : Int} {j : Nat} (h : ixN n i = some j) : seqIndex? i n = some j ∧ j < n ∧ -(n : Int) ≤ i ∧ i < n := by
  unfold ixN at h
  by_cases h0 : 0 ≤ i
  · rw [if_pos h0] at h
    by_cases h1 : i < n
    · rw [if_pos h1] at h
      have e : i.toNat = j := Option.some.inj h
      exact ⟨by rw [seqIndex_of h0 h1, e], by (first | lia | omega), by (first | lia | omega), h1⟩
    · rw [if_neg h1] at h; cases h
  · rw [if_neg h0] at h
    by_cases h1 : -(n : Int) ≤ i
    · rw [if_pos h1] at h
      have e : (i + n).toNat = j := Option.some.inj h
      exact ⟨by rw [seqIndex_neg (by (first | lia | omega)) h1, e], by (first | lia | omega), h1, by (first | lia | omega)⟩
    · rw [if_neg h1] at h; cases h
theorem atI_get {α : Type} {xs : List α} {i : Int} {v : α} (h : atI xs i = some v) : ∃ j, seqIndex? i xs.length = some j ∧ xs[j]? = some v ∧ j < xs.length ∧ -(xs.length : Int) ≤ i ∧ i < xs.length := by
  unfold atI at h
  cases e : ixN xs.length i with
  | none => rw [e] at h; cases h
  | some j =>
    rw [e] at h
    obtain ⟨h1, h2, h3, h4⟩ := ixN_seq e
    exact ⟨j, h1, h, h2, h3, h4⟩
theorem atI_nat {α : Type} {xs : List α} {j : Nat} {v : α} (h : xs[j]? = some v) : atI xs (j : Int) = some v := by
  have hj : j < xs.length := (List.getElem?_eq_some_iff.mp h).1
  have e : ixN xs.length (j : Int) = some j := by
    unfold ixN
    rw [if_pos (by (first | lia | omega)), if_pos (by (first | lia | omega))]; simp
  unfold atI; rw [e]; exact h
theorem atI_last {α : Type} (xs : List α) (v : α) : atI (xs ++ [v]) (-1) = some v := by
  have hl : (xs ++ [v]).length = xs.length + 1 := by simp
  have e : ixN (xs ++ [v]).length (-1) = some xs.length := by
    unfold ixN
    rw [hl, if_neg (by decide), if_pos (by (first | lia | omega))]
    congr 1
    (first | lia | omega)
  unfold atI
  rw [e]
  show (xs ++ [v])[xs.length]? = some v
  simp

noncomputable def PlainIx (b : Expr) : Prop := ∀ o i, subscripted b false o i = operate [o, i] (getItem o i)
noncomputable def IxR (X : Cx) (r : R2) : Prop :=
  ∀ (value slice : Expr) (pins : List (Addr × Obj)) (s : Shared) (σ : St) (H : Hp) (x y : V) (v u : Value) (Q : VK), Inv X pins σ H s → RelV x v → RelV y u → r x y H Q →
    subscripted slice false v u = operate [v, u] (getItem v u) → wpAny (model X.prog X.w) X.A (subscriptTail value slice v u) (EP X pins σ Q) X.xe s
noncomputable def MtR (X : Cx) (id : String) (r : V → List V → Hp → VK → Prop) : Prop :=
  ∀ (pins : List (Addr × Obj)) (s : Shared) (σ : St) (H : Hp) (x : V) (xs : List V) (v : Value) (us : List Value) (Q : VK), Inv X pins σ H s → RelV x v → Vals xs us → r x xs H Q →
    wpAny (model X.prog X.w) X.A (call (.builtin id) (v :: us)) (EP X pins σ Q) X.xe s
section
variable {X : Cx} {a b : Expr} {ta tb : TE} {pos : Pos}
theorem pe_ix {r : R2} (hr : IxR X r) (ha : PE X a ta) (hb : PE X b tb) (hs : PlainIx b) : PE X (.Subscript a b pos) (tOp r ta tb) := by
  intro pins s σ H Q I h
  exact Subscript_ (binT ha hb I h fun v u s2 x y H2 I2 rx ry q => hr a b pins s2 σ H2 x y v u Q I2 rx ry q (hs _ _))

noncomputable def rIxL (K : PySem.W.Frag) : R2 := fun x y H Q => ∃ p xs i v, x = .ref p ∧ y = .int i ∧ SqL K H p xs ∧ atI xs i = some v ∧ Q v H
noncomputable def rIxT (K : PySem.W.Frag) : R2 := fun x y H Q => ∃ p xs i v, x = .ref p ∧ y = .int i ∧ SqT K H p xs ∧ atI xs i = some v ∧ Q v H
noncomputable def rIxS : R2 := fun x y H Q => ∃ z i c, x = .str z ∧ y = .int i ∧ z.length ≤ sizeLine ∧ atI z.cps.toList i = some c ∧ Q (.str ⟨#[c]⟩) H
theorem ix_list : IxR X (rIxL X.K) := by
  intro value slice pins s σ H x y v u Q I rx ry h hs
  obtain ⟨p, xs, i, z, rfl, rfl, hq, he, q⟩ := h
  cases rx
  obtain ⟨t, rfl⟩ := ry
  obtain ⟨its, r, pl, hz⟩ := I.list hq
  obtain ⟨j, h1, h2, h3, h4, h5⟩ := atI_get he
  obtain ⟨w, ew, rw'⟩ := r.get h2
  have hl := r.length
  have hn := line63
  have fin : EP X pins σ Q w s := ⟨z, H, I, rw', q⟩
  by_cases h0 : 0 ≤ i
  · have hj : i.toNat = j := by
      rw [seqIndex_of h0 h5] at h1
      exact Option.some.inj h1
    exact item_listR pl.isList h0 (by (first | lia | omega)) (by rw [hj]; simpa using ew) fin hs
  · have hj : (i + (its.toArray.size : Int)).toNat = j := by
      rw [seqIndex_neg (by (first | lia | omega)) h4] at h1
      rw [List.size_toArray, ← hl]
      exact Option.some.inj h1
    exact subscriptTail_builtinR (x := w) pl.isList.typeIs slot_list_getitem.lookup
      (wpAny_getItem_list_neg (Q := fun r s' => r = w ∧ EP X pins σ Q r s') pl.isList (by (first | lia | omega)) (by rw [List.size_toArray] <;> (first | lia | omega)) (by (first | lia | omega)) (by rw [hj]; simpa using ew) ⟨rfl, fin⟩) hs
theorem ix_tup : IxR X (rIxT X.K) := by
  intro value slice pins s σ H x y v u Q I rx ry h hs
  obtain ⟨p, xs, i, z, rfl, rfl, hq, he, q⟩ := h
  cases rx
  obtain ⟨t, rfl⟩ := ry
  obtain ⟨its, r, pl, hz⟩ := I.tuple hq
  obtain ⟨j, h1, h2, h3, h4, h5⟩ := atI_get he
  obtain ⟨w, ew, rw'⟩ := r.get h2
  have hl := r.length
  have hn := line63
  have fin : EP X pins σ Q w s := ⟨z, H, I, rw', q⟩
  exact subscriptTail_builtinR (x := w) pl.typeIs slot_tuple_getitem.lookup
    (getItem_tuple (j := j) (Q := fun r s' => r = w ∧ EP X pins σ Q r s') pl (by (first | lia | omega)) (by (first | lia | omega)) (by rw [List.size_toArray, ← hl]; exact h1) (by simpa using ew) ⟨rfl, fin⟩) hs
noncomputable def rIx (K : PySem.W.Frag) : R2 := fun x y H Q => rIxL K x y H Q ∨ rIxT K x y H Q ∨ rIxS x y H Q

theorem mapSeq_set (its : List Value) (n j : Nat) (u : Value) : Obj.mapSeq (·.setIfInBounds j u) { cls := .type "list", data := .seq its.toArray n } = { cls := .type "list", data := .seq (its.set j u).toArray n } := by
  simp [Obj.mapSeq]
theorem Inv.lst {pins : List (Addr × Obj)} {σ : St} {H : Hp} {s : Shared} {p : Addr} {xs : List V} (I : Inv X pins σ H s) (h : H p = some (.lst xs)) :
    ∃ (its : List Value) (n : Nat), Vals xs its ∧ s.heap.get? p = some { cls := .type "list", data := .seq its.toArray n } ∧ xs.length ≤ sizeLine := by
  obtain ⟨z, its, n, r, e⟩ := I.hok p _ h
  exact ⟨its, n, r, e, z⟩
theorem Inv.lstUpd {pins : List (Addr × Obj)} {σ : St} {H : Hp} {s : Shared} {p : Addr} {xs ys : List V} {its its' : List Value} {n n' : Nat} {f : Obj → Obj} (I : Inv X pins σ H s) (h : H p = some (.lst xs))
    (ho : s.heap.get? p = some { cls := .type "list", data := .seq its.toArray n }) (hf : f { cls := .type "list", data := .seq its.toArray n } = { cls := .type "list", data := .seq its'.toArray n' }) (r : Vals ys its') (hz : ys.length ≤ sizeLine) (t : Nat) :
    Inv X pins σ (upd H p (.lst ys)) { s with heap := s.heap.update p f, toks := t } := by
  have e : (s.heap.update p f).get? p = some { cls := .type "list", data := .seq its'.toArray n' } := by
    rw [Heap.get?_update_self f ho (by rw [hf] <;> rfl), hf]
  refine I.write (x := p) (e := p) (by rw [h]; trivial) (.inl rfl) (fun b u hb q => (Heap.get?_update_other _ _ (Ne.symm hb)).trans q) ⟨_, e⟩ ?_
  exact ⟨hz, its', n', r, e⟩
noncomputable def rSetL : V → V → V → Hp → (Hp → Prop) → Prop := fun o i v H Q => ∃ p xs k j, o = .ref p ∧ i = .int k ∧ H p = some (.lst xs) ∧ ixN xs.length k = some j ∧ Q (upd H p (.lst (xs.set j v)))
theorem set_list : PSet X rSetL := by
  intro pins s σ H o i v ov iv u Q I ro ri rv h
  obtain ⟨p, xs, k, j, rfl, rfl, hp, hj, q⟩ := h
  cases ro
  obtain ⟨t, rfl⟩ := ri
  obtain ⟨its, n, r, ho, hz⟩ := I.lst hp
  obtain ⟨h1, h2, h3, h4⟩ := ixN_seq hj
  have hl := r.length
  have hn := line63
  have I' : Inv X pins σ (upd H p (.lst (xs.set j v))) { s with heap := s.heap.update p (Obj.mapSeq (·.setIfInBounds j u)) } :=
    I.lstUpd hp ho (mapSeq_set its n j u) (r.set rv j) (by rw [List.length_set]; exact hz) s.toks
  by_cases h0 : 0 ≤ k
  · have hk : k.toNat = j := by
      rw [seqIndex_of h0 h4] at h1
      exact Option.some.inj h1
    exact PySem.W.ki_setAt ho h0 (by (first | lia | omega)) (by rw [List.size_toArray, ← hl]; exact h4) (by rw [hk]; exact ⟨_, I', q⟩)
  · have hk : (k + (its.toArray.size : Int)).toNat = j := by
      rw [seqIndex_neg (by (first | lia | omega)) h3] at h1
      rw [List.size_toArray, ← hl]
      exact Option.some.inj h1
    exact PySem.W.ki_setBack ho (by (first | lia | omega)) (by rw [List.size_toArray, ← hl]; exact h3) (by (first | lia | omega)) (by rw [hk]; exact ⟨_, I', q⟩)

theorem slice_bounds (lo hi : Option Int) (n : Nat) : (sliceBounds lo hi none n).1 = ((HT.sIx n 0 lo : Nat) : Int) ∧ (sliceBounds lo hi none n).2.1 = ((HT.sIx n n hi : Nat) : Int) ∧ (sliceBounds lo hi none n).2.2 = 1 := by
  refine ⟨?_, ?_, rfl⟩
  · cases lo with
    | none => simp [sliceBounds, HT.sIx]
    | some i =>
      simp only [sliceBounds, HT.sIx, Option.getD_none, show (1 : Int) > 0 by decide, if_true]
      by_cases h : i < 0
      · simp only [h, if_true] <;> (first | lia | omega)
      · simp only [h, if_false] <;> (first | lia | omega)
  · cases hi with
    | none => simp [sliceBounds, HT.sIx]
    | some i =>
      simp only [sliceBounds, HT.sIx, Option.getD_none, show (1 : Int) > 0 by decide, if_true]
      by_cases h : i < 0
      · simp only [h, if_true] <;> (first | lia | omega)
      · simp only [h, if_false] <;> (first | lia | omega)
theorem slicePick_cut (its : List Value) (lo hi : Option Int) : slicePick its.toArray lo hi none = ((its.drop (HT.sIx its.length 0 lo)).take (HT.sIx its.length its.length hi - HT.sIx its.length 0 lo)).toArray := by
  obtain ⟨h1, h2, h3⟩ := slice_bounds lo hi its.toArray.size
  unfold slicePick
  rw [h1, h2, h3]
  simp only [sliceRange_one, pick_run, List.size_toArray] <;> rfl
noncomputable def rSlL (K : PySem.W.Frag) : V → Option Int → Option Int → Hp → VK → Prop := fun x lo hi H Q => ∃ a xs, x = .ref a ∧ SqL K H a xs ∧ ∀ p, H p = none → Q (.ref p) (upd H p (.lst (cutV xs lo hi)))
theorem sl_list : SlR X (rSlL X.K) := by
  intro pins s σ H x v vl vu lo hi sl Q I rx hs pl pu h
  obtain ⟨a, xs, rfl, hx, q⟩ := h
  cases rx
  obtain ⟨its, r, ht, hz⟩ := I.list hx
  have hlen := r.length
  refine ⟨"list", _, slot_list_getitem.lookup, ht.isList.typeIs, ?_⟩
  refine wpAny_getItem_list_slice ht.isList hs pl pu .none (by simp) ?_ (by rw [List.size_toArray] <;> (first | lia | omega))
  rw [slicePick_cut, ← hlen]
  refine ⟨.ref s.heap.objs.size, _, I.laid (t' := s.toks) (o := .lst (cutV xs lo hi)) (fun b ob q => Heap.get?_push_of_some _ q) (Nat.le_refl _) ?_, rfl, q _ (I.hok.fresh (Nat.le_refl _))⟩
  exact ⟨Nat.le_trans (cutV_length xs lo hi) hz, _, 0, (r.drop (HT.sIx xs.length 0 lo)).take (HT.sIx xs.length xs.length hi - HT.sIx xs.length 0 lo), Heap.get?_push_size _ rfl⟩

noncomputable def flatV : V → Bool
  | .non => true
  | .bl _ => true
  | .int _ => true
  | .str _ => true
  | _ => false
noncomputable def eqV : V → V → Bool
  | .non, .non => true
  | .bl a, .bl b => a == b
  | .bl a, .int b => (if a then 1 else 0) == b
  | .int a, .bl b => a == (if b then 1 else 0)
  | .int a, .int b => a == b
  | .str a, .str b => a == b
  | _, _ => false
theorem eqAt_V {A : Around} {s : Shared} {y x : V} {u v : Value} (ry : RelV y u) (rx : RelV x v) (fy : flatV y = true) (fx : flatV x = true) : SeqAt.EqAt A s u v (eqV y x) := by
  cases y with
  | non =>
    cases ry
    cases x with
    | non => cases rx; exact SeqAt.EqAt.same _
    | bl b => cases rx; exact SeqAt.EqAt.none_bool b
    | int b => obtain ⟨t, rfl⟩ := rx; exact SeqAt.EqAt.none_int b t
    | str b => obtain ⟨t, rfl⟩ := rx; exact SeqAt.EqAt.none_str b t
    | _ => exact absurd (show false = true from fx) Bool.false_ne_true
  | bl a =>
    cases ry
    cases x with
    | non => cases rx; exact SeqAt.EqAt.bool_none a
    | bl b => cases rx; exact SeqAt.EqAt.bool_bool a b
    | int b => obtain ⟨t, rfl⟩ := rx; exact SeqAt.EqAt.bool_int a b t
    | str b => obtain ⟨t, rfl⟩ := rx; exact SeqAt.EqAt.bool_str a b t
    | _ => exact absurd (show false = true from fx) Bool.false_ne_true
  | int a =>
    obtain ⟨t', rfl⟩ := ry
    cases x with
    | non => cases rx; exact SeqAt.EqAt.int_none a t'
    | bl b => cases rx; exact SeqAt.EqAt.int_bool a t' b
    | int b => obtain ⟨t, rfl⟩ := rx; exact SeqAt.EqAt.int_int a t' b t
    | str b => obtain ⟨t, rfl⟩ := rx; exact SeqAt.EqAt.int_str a t' b t
    | _ => exact absurd (show false = true from fx) Bool.false_ne_true
  | str a =>
    obtain ⟨t', rfl⟩ := ry
    cases x with
    | non => cases rx; exact SeqAt.EqAt.str_none a t'
    | bl b => cases rx; exact SeqAt.EqAt.str_bool a t' b
    | int b => obtain ⟨t, rfl⟩ := rx; exact SeqAt.EqAt.str_int a t' b t
    | str b => obtain ⟨t, rfl⟩ := rx; exact SeqAt.EqAt.str_str a t' b t
    | _ => exact absurd (show false = true from fx) Bool.false_ne_true
  | _ => exact absurd (show false = true from fy) Bool.false_ne_true
noncomputable def eqU (x : V) (u : Value) : Bool := match u with
  | .none => eqV .non x
  | .bool b => eqV (.bl b) x
  | .int i _ => eqV (.int i) x
  | .str z _ => eqV (.str z) x
  | _ => false
theorem eqU_of {x y : V} {u : Value} (r : RelV y u) (f : flatV y = true) : eqU x u = eqV y x := by
  cases y with
  | non => cases r; rfl
  | bl b => cases r; rfl
  | int i => obtain ⟨t, rfl⟩ := r; rfl
  | str z => obtain ⟨t, rfl⟩ := r; rfl
  | _ => exact absurd (show false = true from f) Bool.false_ne_true
theorem any_eqU {x : V} : ∀ {xs : List V} {us : List Value}, Vals xs us → xs.all flatV = true → us.any (eqU x) = xs.any fun y => eqV y x
  | _, _, .nil, _ => rfl
  | y :: xs, u :: us, .cons r t, f => by
    rw [List.all_cons, Bool.and_eq_true] at f
    rw [List.any_cons, List.any_cons, eqU_of r f.1, any_eqU t f.2]
theorem mem_eqAt {A : Around} {s : Shared} {x : V} {v : Value} (rx : RelV x v) (fx : flatV x = true) : ∀ {xs : List V} {us : List Value}, Vals xs us → xs.all flatV = true → ∀ u ∈ us, SeqAt.EqAt A s u v (eqU x u)
  | _, _, .nil, _ => fun u hu => by cases hu
  | y :: xs, u :: us, .cons r t, f => fun u' hu => by
    rw [List.all_cons, Bool.and_eq_true] at f
    rcases List.mem_cons.mp hu with rfl | hu
    · rw [eqU_of r f.1]; exact eqAt_V r rx f.1 fx
    · exact mem_eqAt rx fx t f.2 u' hu
noncomputable def inV (x : V) (xs : List V) : Bool := xs.any fun y => eqV y x
noncomputable def rIn (K : PySem.W.Frag) (neg : Bool) : R2 := fun x y H Q => ∃ p xs, y = .ref p ∧ (SqL K H p xs ∨ SqT K H p xs) ∧ flatV x = true ∧ xs.all flatV = true ∧ Q (.bl (if neg then !inV x xs else inV x xs)) H
theorem op_notIn_seq : OpR X (compareOp .NotIn) (rIn X.K true) := by
  intro pins s σ H x y v u Q I rx ry h
  obtain ⟨p, xs, rfl, hq, fx, fs, q⟩ := h
  cases ry
  rcases hq with hq | hq
  · obtain ⟨its, r, pl, hz⟩ := I.list hq
    refine SeqAt.notIn_listAt (eqU x) pl.isList (fun w hw => mem_eqAt rx fx r fs w (by simpa using hw)) ⟨.bl _, H, I, rfl, ?_⟩
    rw [show its.toArray.any (eqU x) = its.any (eqU x) by simp, any_eqU r fs]
    exact q
  · obtain ⟨its, r, pl, hz⟩ := I.tuple hq
    refine SeqAt.notIn_tupleAt (eqU x) pl (fun w hw => mem_eqAt rx fx r fs w (by simpa using hw)) ⟨.bl _, H, I, rfl, ?_⟩
    rw [show its.toArray.any (eqU x) = its.any (eqU x) by simp, any_eqU r fs]
    exact q

theorem call_len_seq : CallR X (.builtin "len") (fun xs H Q => ∃ p ys, xs = [.ref p] ∧ (SqL X.K H p ys ∨ SqT X.K H p ys) ∧ Q (.int ys.length) H) := by
  intro pins s σ H xs us Q I r h
  obtain ⟨p, ys, rfl, hq, q⟩ := h
  obtain ⟨u, rfl, rx⟩ := vals1 r
  cases rx
  have hn := line63
  rcases hq with hq | hq
  · obtain ⟨its, r', pl, hz⟩ := I.list hq
    have hlen := r'.length
    exact Calls.call_len_list pl.isList (by simp only [List.size_toArray] <;> (first | lia | omega)) ⟨.int ys.length, H, I.tok _, ⟨s.toks + 1, by rw [List.size_toArray, hlen]⟩, q⟩
  · obtain ⟨its, r', pl, hz⟩ := I.tuple hq
    have hlen := r'.length
    exact len_tuple pl (by simp only [List.size_toArray] <;> (first | lia | omega)) ⟨.int ys.length, H, I.tok _, ⟨s.toks + 1, by rw [List.size_toArray, hlen]⟩, q⟩
theorem call_list_of : CallR X (.type "list") (fun xs H Q => ∃ p ys, xs = [.ref p] ∧ (SqL X.K H p ys ∨ SqT X.K H p ys) ∧ ∀ l, H l = none → Q (.ref l) (upd H l (.lst ys))) := by
  intro pins s σ H xs us Q I r h
  obtain ⟨p, ys, rfl, hq, q⟩ := h
  obtain ⟨u, rfl, rx⟩ := vals1 r
  cases rx
  have fin : ∀ (its : List Value), Vals ys its → ys.length ≤ sizeLine → ∀ (h' : Heap) (c' : Nat), (∀ b o', s.heap.get? b = some o' → h'.get? b = some o') →
      h'.get? s.heap.objs.size = some { cls := .type "list", dict := none, data := .seq its.toArray c', slots := #[] } → EP X pins σ Q (.ref s.heap.objs.size) { s with heap := h' } := fun its r' hz h' c' kp e =>
    ⟨.ref s.heap.objs.size, _, I.laid (t' := s.toks) kp (Nat.le_refl _) (show ObjOk X.prog X.w _ h' _ (.lst ys) from ⟨hz, its, c', r', e⟩), rfl, q _ (I.hok.fresh (Nat.le_refl _))⟩
  rcases hq with hq | hq
  · obtain ⟨its, r', pl, hz⟩ := I.list hq
    have hlen := r'.length
    obtain ⟨o, ho, hc, n, hd⟩ := pl.isList
    exact call_list_seq p (.inl rfl) ho hc hd (fun h' c' kp e => fin its r' hz h' c' kp e) (by simp only [List.size_toArray] <;> (first | lia | omega))
  · obtain ⟨its, r', pl, hz⟩ := I.tuple hq
    have hlen := r'.length
    obtain ⟨o, ho, hc, n, hd⟩ := pl
    exact call_list_seq p (.inr rfl) ho hc hd (fun h' c' kp e => fin its r' hz h' c' kp e) (by simp only [List.size_toArray] <;> (first | lia | omega))
theorem call_tuple_of : CallR X (.type "tuple") (fun xs H Q => ∃ p ys, xs = [.ref p] ∧ ((SqL X.K H p ys ∧ ∀ l, H l = none → Q (.ref l) (upd H l (.tup ys))) ∨ (SqT X.K H p ys ∧ Q (.ref p) H))) := by
  intro pins s σ H xs us Q I r h
  obtain ⟨p, ys, rfl, h⟩ := h
  obtain ⟨u, rfl, rx⟩ := vals1 r
  cases rx
  rcases h with ⟨hq, q⟩ | ⟨hq, q⟩
  · obtain ⟨its, r', pl, hz⟩ := I.list hq
    have hlen := r'.length
    refine call_tuple_list pl.isList (fun h' kp => ?_) (by simp only [List.size_toArray] <;> (first | lia | omega))
    have I1 : Inv X pins σ H { s with heap := h' } := I.kept (t' := s.toks) kp
    have I2 : Inv X pins σ (upd H h'.objs.size (.tup ys)) { s with heap := h'.push { cls := .type "tuple", data := .seq its.toArray } } :=
      I1.laid (t' := s.toks) (fun b o e => Heap.get?_push_of_some _ e) (Nat.le_refl _) (show ObjOk X.prog X.w _ _ _ (.tup ys) from ⟨hz, its, r', IsTup.new _ _⟩)
    exact ⟨.ref h'.objs.size, _, I2, rfl, q _ (I1.hok.fresh (Nat.le_refl _))⟩
  · obtain ⟨its, r', pl, hz⟩ := I.tuple hq
    exact call_tuple_same pl ⟨.ref p, H, I, rfl, q⟩

noncomputable def tyV (K : PySem.W.Frag) (T : String) (x : V) (H : Hp) : Prop := match x with
  | .str _ => T = "str"
  | .int _ => T = "int"
  | .ref p => (T = "list" ∧ ∃ xs, SqL K H p xs) ∨ (T = "tuple" ∧ ∃ o, K.lookup p = some o ∧ o.cls = .type "tuple" ∧ o.dict = none) ∨
      (T = "dict" ∧ ((∃ kvs, H p = some (.dK kvs)) ∨ ∃ kvs, H p = some (.dT kvs))) ∨ (T = "set" ∧ ∃ S n, H p = some (.set S n))
  | _ => False
theorem tyV_is {pins : List (Addr × Obj)} {σ : St} {H : Hp} {s : Shared} {T : String} {x : V} {v : Value} (I : Inv X pins σ H s) (r : RelV x v) (ty : tyV X.K T x H) :
    s.TypeIs v T ∧ ∀ a, v = .ref a → ∃ ob, s.heap.get? a = some ob ∧ ob.dict = none := by
  cases x with
  | str z =>
    obtain ⟨t, rfl⟩ := r
    cases (show T = "str" from ty)
    exact ⟨typeIs_str s z t, fun _ e => nomatch e⟩
  | int i =>
    obtain ⟨t, rfl⟩ := r
    cases (show T = "int" from ty)
    exact ⟨typeIs_int s i t, fun _ e => nomatch e⟩
  | ref p =>
    cases r
    rcases ty with ⟨rfl, xs, hq⟩ | ⟨rfl, o, hk, hc, hd⟩ | ⟨rfl, hk⟩ | ⟨rfl, S, n, hk⟩
    · obtain ⟨its, _, pl, _⟩ := I.list hq
      refine ⟨pl.isList.typeIs, fun a e => ?_⟩
      cases e
      obtain ⟨o, n, e, c, hd, _⟩ := pl
      exact ⟨o, e, hd⟩
    · refine ⟨⟨o, I.kIn p o hk, hc⟩, fun a e => ?_⟩
      cases e
      exact ⟨o, I.kIn _ o hk, hd⟩
    · have z : ∃ o, s.heap.get? p = some o ∧ o.ExactDict := by
        rcases hk with ⟨kvs, hk⟩ | ⟨kvs, hk⟩
        · obtain ⟨_, _, _, _, o, _, _, e, ex, _⟩ := I.hok p _ hk
          exact ⟨o, e, ex⟩
        · obtain ⟨_, _, _, _, o, _, _, e, ex, _⟩ := I.hok p _ hk
          exact ⟨o, e, ex⟩
      obtain ⟨o, e, ex⟩ := z
      refine ⟨⟨o, e, ex.1⟩, fun a e2 => ?_⟩
      cases e2
      exact ⟨o, e, ex.2.1⟩
    · obtain ⟨o, _, _, _, e, ex, _⟩ := I.hok p _ hk
      refine ⟨⟨o, e, ex.1⟩, fun a e2 => ?_⟩
      cases e2
      exact ⟨o, e, ex.2.1⟩
  | _ => exact False.elim ty
noncomputable def tBM0 (K : PySem.W.Frag) (T : String) (r : V → List V → Hp → VK → Prop) (to : TE) : TE := fun σ H Q => to σ H fun x H1 => tyV K T x H1 ∧ r x [] H1 Q
noncomputable def tBM (K : PySem.W.Frag) (T : String) (r : V → List V → Hp → VK → Prop) (to : TE) (t : TA) : TE := fun σ H Q => to σ H fun x H1 => tyV K T x H1 ∧ t σ H1 fun xs H2 => r x xs H2 Q
variable {o e : Expr} {es : List Expr} {to : TE} {t : TA} {name : Str} {apos cpos : Pos} {T id : String} {r : V → List V → Hp → VK → Prop}
theorem pe_bm0 (pa : PlainAttrs T) (slot : Slot T name id) (hty : typeOf (.builtin id) = pure (.type "method_descriptor")) (hm : MtR X id r) (ho : PE X o to)
    (hbase : attributeBase o name X.env (eval o X.env) = eval o X.env := by rfl) (hline : (apos.endLine == cpos.line) = true := by rfl) : PE X (.Call (.Attribute o name apos) [] [] cpos) (tBM0 X.K T r to) := by
  intro pins s σ H Q I h
  refine wpAny_Call_method0_late hbase hline (thn (ho pins s σ H _ I h) fun v s1 ⟨x, H1, I1, r1, ty, q1⟩ => ?_)
  obtain ⟨h1, h2⟩ := tyV_is I1 r1 ty
  exact ⟨T, id, pa, slot, hty, h1, h2, Calls.callWith_builtin rfl (PySem.evalArgs_none (hm pins s1 σ H1 x [] v [] Q I1 r1 .nil q1))⟩
theorem pe_bm (pa : PlainAttrs T) (slot : Slot T name id) (hty : typeOf (.builtin id) = pure (.type "method_descriptor")) (hm : MtR X id r) (ho : PE X o to) (ha : PA X (e :: es) t)
    (hbase : attributeBase o name X.env (eval o X.env) = eval o X.env := by rfl)
    (hfew : ((backTo cpos (starEach (e :: es) X.env)).all (fun x => !x.1) && (backToKw cpos (keywordEach [] X.env)).all (fun x => x.1.isSome)
      && decide ((e :: es).length + ([] : List Keyword).length + (if ([] : List Keyword).isEmpty then 0 else 1) < 30)) = true := by rfl)
    (hline : (apos.endLine == cpos.line) = true := by rfl) (hs : starEach (e :: es) X.env = (false, eval e X.env) :: starEach es X.env := by rfl) (hplain : (backTo cpos (starEach es X.env)).any (·.1) = false := by rfl) :
    PE X (.Call (.Attribute o name apos) (e :: es) [] cpos) (tBM X.K T r to t) := by
  intro pins s σ H Q I h
  refine wpAny_Call_method_late hbase hfew hline rfl (thn (ho pins s σ H _ I h) fun v s1 ⟨x, H1, I1, r1, ty, q1⟩ => ?_)
  obtain ⟨h1, h2⟩ := tyV_is I1 r1 ty
  refine ⟨T, id, pa, slot, hty, h1, h2, ?_⟩
  have hA := ha cpos pins s1 σ H1 _ I1 q1
  rw [hs] at hA ⊢
  refine Calls.callWith_builtin (by show (false || (backTo cpos (starEach es X.env)).any (·.1)) = false; rw [hplain] <;> rfl) (Calls.evalArgs_plain ?_)
  exact thn hA fun us s2 ⟨vs, H2, I2, r2, q2⟩ => hm pins s2 σ H2 x vs v us Q I2 r1 r2 q2
/- xs.append(e), list.index on a module's tuple .. are MtR facts of 06m -/
end
end L2

namespace L2
open PySem PySem.Spec PyProof.Rows

noncomputable def MtM (X : Cx) (id : String) (r : V → List V → Hp → VK → Prop) : Prop :=
  ∀ (pins : List (Addr × Obj)) (s : Shared) (σ : St) (H : Hp) (x : V) (xs : List V) (v : Value) (us : List Value) (Q : VK), Inv X pins σ H s → RelV x v → Vals xs us → r x xs H Q →
    wpAny (model X.prog X.w) X.A (call (.builtin id) (v :: us)) (EP X pins σ Q) X.xe s

theorem Vals.one : ∀ {x : V} {us : List Value}, Vals [x] us → ∃ u, us = [u] ∧ RelV x u
  | _, _, .cons r .nil => ⟨_, rfl, r⟩
theorem Vals.zero : ∀ {us : List Value}, Vals [] us → us = []
  | _, .nil => rfl
theorem Vals.dropLast {xs : List V} {us : List Value} (h : Vals xs us) : Vals xs.dropLast us.dropLast := by
  induction h with
  | nil => exact .nil
  | cons r t ih =>
    cases t with
    | nil => exact .nil
    | cons q t' => exact .cons r ih
theorem Vals.rep {xs : List V} {us : List Value} (h : Vals xs us) : ∀ k : Nat, Vals (List.replicate k xs).flatten (List.replicate k us).flatten
  | 0 => .nil
  | k + 1 => by
    rw [List.replicate_succ, List.replicate_succ, List.flatten_cons, List.flatten_cons]
    exact Vals.append h (Vals.rep h k)
theorem erase_last {α : Type} (l : List α) : l.eraseIdx (l.length - 1) = l.dropLast := by
  induction l with
  | nil => rfl
  | cons a r ih =>
    cases r with
    | nil => rfl
    | cons b r =>
      have e : (a :: b :: r).length - 1 = ((b :: r).length - 1) + 1 := by
        have h1 : (a :: b :: r).length = r.length + 2 := rfl
        have h2 : (b :: r).length = r.length + 1 := rfl
        (first | lia | omega)
      rw [e, List.eraseIdx_cons_succ, ih]
      all_goals rfl
theorem foldl_rep (its : List Value) : ∀ (k : Nat) (acc : List Value),
    List.foldl (fun x1 x2 => x1 ++ x2) acc.toArray (List.replicate k its.toArray) = (acc ++ (List.replicate k its).flatten).toArray
  | 0, acc => by simp
  | k + 1, acc => by
    have e : acc.toArray ++ its.toArray = (acc ++ its).toArray := by simp
    have e2 : (acc ++ its) ++ (List.replicate k its).flatten = acc ++ (List.replicate (k + 1) its).flatten := by
      rw [List.replicate_succ, List.flatten_cons, List.append_assoc]
    rw [← e2, ← foldl_rep its k (acc ++ its), ← e, List.replicate_succ, List.foldl_cons]

section
variable {X : Cx} {pins : List (Addr × Obj)} {σ : St} {H : Hp} {s : Shared} {l b : Addr} {xs ys zs : List V}

theorem Inv.lset {its its' : List Value} {n : Nat} {f : Array Value → Array Value} {t' : Nat} (I : Inv X pins σ H s) (hH : H l = some (.lst xs))
    (e : s.heap.get? l = some { cls := .type "list", data := .seq its.toArray n }) (hf : f its.toArray = its'.toArray) (hv : Vals ys its') (hz : ys.length ≤ sizeLine) :
    Inv X pins σ (upd H l (.lst ys)) { s with heap := s.heap.update l (Obj.mapSeq f), toks := t' } := by
  have q := PySem.IsL.update e f
  rw [hf] at q
  refine I.write (x := l) (e := l) (by rw [hH]; exact trivial) (.inl rfl) (fun b' u hb hu => (Heap.get?_update_other s.heap (Obj.mapSeq f) (Ne.symm hb)).trans hu) ⟨_, q⟩ ?_
  exact ⟨hz, its', _, hv, q⟩
theorem Inv.lnew {its : List Value} {t' : Nat} (I : Inv X pins σ H s) (hv : Vals ys its) (hz : ys.length ≤ sizeLine) :
    Inv X pins σ (upd H s.heap.objs.size (.lst ys)) { s with heap := s.heap.push { cls := .type "list", data := .seq its.toArray }, toks := t' } :=
  I.laid (fun _ _ q => Heap.get?_push_of_some _ q) (Nat.le_refl _) ⟨hz, its, 0, hv, Heap.get?_push_size _ rfl⟩
theorem Inv.fresh (I : Inv X pins σ H s) : H s.heap.objs.size = none := I.hok.fresh (Nat.le_refl _)
theorem Inv.lstM (I : Inv X pins σ H s) (hH : H l = some (.lst xs)) : xs.length ≤ sizeLine ∧ ∃ (its : List Value) (n : Nat), Vals xs its ∧ xs.length = its.length ∧ s.heap.get? l = some { cls := .type "list", data := .seq its.toArray n } := by
  obtain ⟨z, its, n, r, e⟩ := I.hok l _ hH
  exact ⟨z, its, n, r, r.length, e⟩

theorem notLongL {n : Nat} (h : n ≤ sizeLine) : Builtin.List.listTooLong n = false := by
  unfold Builtin.List.listTooLong
  exact decide_eq_false (by (first | lia | omega))
end

section
variable {X : Cx}

noncomputable def rAppend : V → List V → Hp → VK → Prop := fun x vs H Q => ∃ l xs y, x = .ref l ∧ vs = [y] ∧ H l = some (.lst xs) ∧ xs.length < sizeLine ∧ Q .non (upd H l (.lst (xs ++ [y])))
theorem mt_append : MtM X "list.append" rAppend := by
  intro pins s σ H x vs v us Q I rx rv h
  obtain ⟨l, xs, y, rfl, rfl, hH, hz, q⟩ := h
  cases rx
  obtain ⟨u, rfl, ru⟩ := rv.one
  obtain ⟨z, its, n, r, hl, e⟩ := I.lstM hH
  refine call_meets F.slot_list_append ⟨_, e, rfl⟩ F.entry_list_append (F.args_list_append_2 _ _) (PySem.list_append l its.toArray n u (by rw [List.size_toArray]; (first | lia | omega))) ⟨e, ?_⟩
  refine ⟨.non, _, I.lset (its' := its ++ [u]) hH e (by simp) (r.append (.cons ru .nil)) ?_, rfl, q⟩
  rw [List.length_append, List.length_singleton]
  (first | lia | omega)

noncomputable def rExtend : V → List V → Hp → VK → Prop := fun x vs H Q => ∃ l b xs zs, x = .ref l ∧ vs = [.ref b] ∧ H l = some (.lst xs) ∧ H b = some (.lst zs) ∧ xs.length + zs.length ≤ sizeLine ∧ Q .non (upd H l (.lst (xs ++ zs)))

noncomputable def rPop : V → List V → Hp → VK → Prop := fun x vs H Q => ∃ l xs y, x = .ref l ∧ vs = [] ∧ H l = some (.lst xs) ∧ xs[xs.length - 1]? = some y ∧ Q y (upd H l (.lst xs.dropLast))
theorem mt_pop : MtM X "list.pop" rPop := by
  intro pins s σ H x vs v us Q I rx rv h
  obtain ⟨l, xs, y, rfl, rfl, hH, hy, q⟩ := h
  cases rx
  have hus := rv.zero
  subst hus
  obtain ⟨z, its, n, r, hl, e⟩ := I.lstM hH
  obtain ⟨u, hu, ru⟩ := r.get hy
  have hy' : its.toArray[its.toArray.size - 1]? = some u := by
    show its.toArray[its.length - 1]? = some u
    rw [← Array.getElem?_toList, ← hl]
    exact hu
  refine call_meets F.slot_list_pop ⟨_, e, rfl⟩ F.entry_list_pop (F.args_list_pop_1 _) (MeetsSeq.list_pop_last l its.toArray n u hy' (by rw [List.size_toArray]; (first | lia | omega))) ⟨e, ?_⟩
  refine ⟨y, _, I.lset (its' := its.dropLast) hH e ?_ r.dropLast ?_, ru, q⟩
  · show its.toArray.eraseIdxIfInBounds (its.toArray.size - 1) = its.dropLast.toArray
    rw [List.size_toArray, List.eraseIdxIfInBounds_toArray, erase_last]
  · rw [List.length_dropLast]
    (first | lia | omega)

noncomputable def rPopAt : V → List V → Hp → VK → Prop := fun x vs H Q => ∃ l xs i k y, x = .ref l ∧ vs = [.int i] ∧ H l = some (.lst xs) ∧ -(2 ^ 63) ≤ i ∧ i < 2 ^ 63 ∧ seqIndex? i xs.length = some k ∧ xs[k]? = some y ∧ Q y (upd H l (.lst (xs.eraseIdx k)))

noncomputable def rReverse : V → List V → Hp → VK → Prop := fun x vs H Q => ∃ l xs, x = .ref l ∧ vs = [] ∧ H l = some (.lst xs) ∧ Q .non (upd H l (.lst xs.reverse))

noncomputable def rClear : V → List V → Hp → VK → Prop := fun x vs H Q => ∃ l xs, x = .ref l ∧ vs = [] ∧ H l = some (.lst xs) ∧ Q .non (upd H l (.lst []))

noncomputable def rCat : R2 := fun x y H Q => ∃ l b xs zs, x = .ref l ∧ y = .ref b ∧ H l = some (.lst xs) ∧ H b = some (.lst zs) ∧ xs.length + zs.length ≤ sizeLine ∧ ∀ p, H p = none → Q (.ref p) (upd H p (.lst (xs ++ zs)))
theorem op_cat : OpR X (binaryOp .Add) rCat := by
  intro pins s σ H x y v u Q I rx ry h
  obtain ⟨l, b, xs, zs, rfl, rfl, hH, hB, hz, q⟩ := h
  cases rx
  cases ry
  obtain ⟨z, its, n, r, hl, e⟩ := I.lstM hH
  obtain ⟨z2, its2, n2, r2, hl2, e2⟩ := I.lstM hB
  refine PySem.P.add_list e e2 ?_ (by rw [List.size_toArray, List.size_toArray]; (first | lia | omega))
  have ea : its.toArray ++ its2.toArray = (its ++ its2).toArray := by simp
  rw [ea]
  exact ⟨.ref _, _, I.lnew (t' := s.toks) (r.append r2) (by rw [List.length_append]; (first | lia | omega)), rfl, q _ I.fresh⟩
noncomputable def rRep : R2 := fun x y H Q => ∃ l k xs, x = .ref l ∧ y = .int k ∧ H l = some (.lst xs) ∧ -(2 ^ 63) ≤ k ∧ k < 2 ^ 63 ∧ xs.length * k.toNat ≤ sizeLine ∧
  ∀ p, H p = none → Q (.ref p) (upd H p (.lst (List.replicate k.toNat xs).flatten))
theorem len_rep {α : Type} (xs : List α) (k : Nat) : (List.replicate k xs).flatten.length = k * xs.length := by
  induction k with
  | zero => simp
  | succ k ih => rw [List.replicate_succ, List.flatten_cons, List.length_append, ih, Nat.succ_mul, Nat.add_comm]
theorem op_rep : OpR X (binaryOp .Mult) rRep := by
  intro pins s σ H x y v u Q I rx ry h
  obtain ⟨l, k, xs, rfl, rfl, hH, h1, h2, hz, q⟩ := h
  cases rx
  obtain ⟨t, rfl⟩ := ry
  obtain ⟨z, its, n, r, hl, e⟩ := I.lstM hH
  have hlen : its.toArray.size * k.toNat ≤ sizeLine := by rw [List.size_toArray, ← hl]; exact hz
  have hcap : ¬ its.toArray.size * k.toNat > (2 ^ 63 - 1) / 8 := by
    have : (sizeLine : Nat) ≤ (2 ^ 63 - 1) / 8 := by decide
    (first | lia | omega)
  have hfit : ¬ (!Builtin.List.listFitsIndex k) = true := by
    rw [fitsIndex_both h1 h2]
    exact Bool.false_ne_true
  have hlong : ¬ Builtin.List.listTooLong (its.toArray.size * k.toNat) = true := by
    rw [notLongL hlen]
    exact Bool.false_ne_true
  have hnew : List.foldl (fun x1 x2 => x1 ++ x2) #[] (List.replicate (if its.toArray.isEmpty = true then 0 else k.toNat) its.toArray) = (List.replicate k.toNat its).flatten.toArray := by
    have f0 : ∀ m : Nat, List.foldl (fun x1 x2 => x1 ++ x2) #[] (List.replicate m its.toArray) = (List.replicate m its).flatten.toArray := fun m => by
      have := foldl_rep its m []
      rw [List.nil_append] at this
      exact this
    rw [f0]
    cases its with
    | nil => simp
    | cons a r' => rw [if_neg (by simp)]
  refine wpAny_binaryOp_repeat_ref (T := "list") (U := "int") (by decide) ⟨_, e, rfl⟩ (fun s' => typeIs_int s' k t) noFill_list_mul F.fills_int_mul F.slot_int_rmul repeat_list F.slot_int_index.lookup
    (call_meets F.slot_int_rmul (typeIs_int s k t) F.entry_int_rmul (F.args_int_rmul_2 _ _) (int___rmul___int_list k t l its.toArray n)
      ⟨e, rfl, ⟨_, e, rfl⟩, call_meets F.slot_list_mul ⟨_, e, rfl⟩ F.entry_list_mul (F.args_list_mul_2 _ _) (AutoListH.list___mul___list_int_3 l its.toArray n k t hfit hcap hlong) ⟨e, ?_⟩⟩)
  rw [hnew]
  exact ⟨.ref _, _, I.lnew (t' := s.toks) (r.rep k.toNat) (by rw [len_rep, Nat.mul_comm]; exact hz), rfl, q _ I.fresh⟩

end

section
variable {prog : Program} {w : World} {A : Around} {E : Value → Shared → Prop} {s : Shared}
set_option maxRecDepth 100000 in
end

section
variable {X : Cx}
end
end L2

namespace Att
open PySem PySem.W PySem.Calls PyProof.Rows

theorem ints_of_wellAll {P : Params} {h : Heap} : ∀ (ns : List Int) (vs : List Value), WellAll P h vs (ns.map WData.int) → IntsAre vs ns := by
  intro ns
  induction ns with
  | nil =>
    intro vs w
    rw [List.map_nil] at w
    cases w
    exact .nil
  | cons n ns ih =>
    intro vs w
    rw [List.map_cons] at w
    cases w with
    | cons a b =>
      cases a
      exact .cons _ _ (ih _ b)

theorem script_of {l : OpenLaw} {n : Nat} (hn : l.most = some n) {P : Params} {h : Heap} {args : List WData} {vals : List Value}
    (hpre : l.row.toRowW.claim.pre args = true) (hwl : WellAll P h vals args) :
    ∃ a vs ns, vals = [Value.ref a] ∧ args = [WData.list (ns.map WData.int)] ∧ h.get? a = some { cls := .type "list", data := .seq vs.toArray } ∧ IntsAre vs ns ∧ ns.length ≤ n := by
  have hsh : WShape.hasAll [] args [.list .int] = true := (pre_splitW hpre).1
  have hc : l.pre.holds [] { args := args } = true := (pre_splitW hpre).2
  obtain ⟨d, r, rfl, h1, h2⟩ := hasAllW_cons hsh
  obtain rfl := hasAllW_nil h2
  obtain ⟨xs, rfl, h3⟩ := hasW_list h1
  obtain ⟨ns, rfl⟩ := items_int h3
  have hlen : ns.length ≤ n := by
    unfold OpenLaw.pre at hc
    have h4 : (WTm.not (.lt (.lit (.int (n : Int))) (.len (.arg 0)))).holds [] { args := [.list (ns.map .int)] } = true := by
      have h4 := (holds_andW hc).1
      rw [hn] at h4
      exact h4
    have h5 := condW_of h4 (w_not (w_lt w_lit (w_len_list (w_arg rfl))))
    rw [List.length_map] at h5
    refine Nat.le_of_not_lt fun q => ?_
    have q' : (n : Int) < ((ns.length : Nat) : Int) := by (first | lia | omega)
    first
      | (rw [decide_eq_true q'] at h5; exact absurd h5 (by decide))
      | (simp at h5; (first | lia | omega))
  cases hwl with
  | cons w1 w2 =>
    cases w2
    cases w1 with
    | list ho hall => exact ⟨_, _, ns, rfl, rfl, ho, ints_of_wellAll ns _ hall, hlen⟩

theorem post_true (l : OpenLaw) (args : List WData) : l.row.toRowW.claim.post args (.bool true) args = true :=
  postW_of (r := l.row.toRowW) (X := (true == true))
    (show WShape.has [] (.bool true) .bool = true by first | rfl | decide | simp [WShape.has, WShape.arms, WShape.armsAll])
    (show (WTm.eq .res (.lit (.bool true))).value [] { args := args, res := some (.bool true), after := args } = some (.bool (true == true)) from w_eq_bool (w_res rfl) w_lit) rfl




section
variable {prog : Program} {w : World} {A : Around} {E : Value → Shared → Prop} {s : Shared} {K : Frag}





noncomputable def noObjs (h : Heap) : Heap := { h with objs := #[] }
noncomputable def ledger (h : Heap) (L d : Addr) : List (Addr × Obj) := (List.range h.objs.size).filterMap fun a => if a = L ∨ a = d then none else (h.get? a).map fun o => (a, o)

end
end Att

namespace L2
open PySem PySem.Spec PyProof.Rows

theorem vals_ints : ∀ {vs : List Value} {ns : List Int}, IntsAre vs ns → Vals (ns.map V.int) vs
  | _, _, .nil => .nil
  | _, _, .cons n t h => .cons ⟨t, rfl⟩ (vals_ints h)

noncomputable def Only (H : Hp) : Prop := ∀ b, H b = none ∨ ∃ o xs, H b = some (.frz o (.lst xs))

theorem law_call {P : Program} {w : World} {K : PySem.W.Frag} {mg mb : Str → Option Value} {CX : CXT} {k : Nat} {fa a : Addr} {fd : FuncData} {x : Str} {sp : Sp} {s₁ : Shared} {vs : List Value} {ns : List Int}
    (KX : K.In s₁.heap) (hns : s₁.heap.Ns mainGlobals mg) (hb : s₁.heap.Ns builtinsNs mb) (hbb : ∀ x : Str, x ≠ "__name__" → mb x = bootBuiltins x) (hlim : s₁.heap.NoLimit) (hg : s₁.gens = #[])
    (ha : s₁.heap.get? a = some { cls := .type "list", data := .seq vs.toArray }) (hi : IntsAre vs ns) (hl : ns.length ≤ sizeLine) (hr : Room k callerA)
    (F : ∀ base : Heap, K.In base → base.Ns mainGlobals mg → FnOk P w K mg base CX k fa fd [x] sp) (hbind : ∀ (s : Shared) (u : Value), BindsTo s fd ⟨[u], []⟩ [(x, u)])
    (hsp : ∀ H : Hp, Only H → SqL K H a (ns.map V.int) → sp [.ref a] H (fun v _ => v = .bl true) fun _ _ _ => False)
    (hCX : ∀ H e s', CX [] H s₁ (fun _ _ _ => False) e s' → False) :
    codeAny (model P w) callerA (.call (.ref fa) ⟨[.ref a], []⟩) (fun r s' => r = .ok (.ret (.bool true)) ∧ OldK s₁.heap s'.heap ∧ s'.os = s₁.os ∧ AllBare s'.gens) s₁ := by
  have rv := vals_ints hi
  have lenV := hi.length
  -- from an abstract heap in which nothing but the script may be tracked
  have core : ∀ H : Hp, Only H → SqL K H a (ns.map V.int) → HOk P w H s₁.heap → (∀ b, H b ≠ none → b = a) → (H a ≠ none → K.lookup a = none) →
      codeAny (model P w) callerA (.call (.ref fa) ⟨[.ref a], []⟩) (fun r s' => r = .ok (.ret (.bool true)) ∧ OldK s₁.heap s'.heap ∧ s'.os = s₁.os ∧ AllBare s'.gens) s₁ := by
    intro H hO hS hok hA hK
    have base_of : ∀ {b : Addr} {o : Obj}, s₁.heap.get? b = some o → H b = none → (hidT s₁.heap H).get? b = some o := fun e n => hidT_get e n
    have noA : ∀ {b : Addr} {o : Obj} {es : Array DictEntry} {ep : Nat}, s₁.heap.get? b = some o → o.data = .dict es ep → H b = none := fun {b o es ep} e d => by
      cases q : H b with
      | none => rfl
      | some u =>
        have e' : b = a := hA b (by rw [q]; simp)
        subst e'
        rw [ha] at e; cases e
        have d' : Data.seq vs.toArray _ = Data.dict es ep := d
        cases d'
    have nsK : ∀ {b : Addr} {m : Str → Option Value}, s₁.heap.Ns b m → (hidT s₁.heap H).Ns b m := fun {b m} ⟨o, es, ep, e, d, r⟩ => ⟨o, es, ep, base_of e (noA e d), d, r⟩
    have hKb : K.In (hidT s₁.heap H) := fun b o e => base_of (KX b o e) (by
      cases q : H b with
      | none => rfl
      | some u =>
        have e' : b = a := hA b (by rw [q]; simp)
        subst e'
        rw [hK (by rw [q]; simp)] at e; cases e)
    have hM : Mod K mg (hidT s₁.heap H) := ⟨hKb, nsK hns, ⟨mb, nsK hb, hbb⟩, let ⟨mc, h1, h2⟩ := hlim; ⟨mc, nsK h1, h2⟩⟩
    have e0 : Env0 P w K mg (hidT s₁.heap H) callerA [] s₁ H := ⟨rfl, hM, fun b o e => of_hidT e, Nat.le_of_eq (hidT_size _ _), trivial, fun b hb => absurd (show b ∈ ([] : List Addr) from hb) (by simp), hok, .of_eq hg⟩
    refine codeAny_mono ((F _ hKb (nsK hns)).run callerA [] s₁ H ⟨[.ref a], []⟩ [.ref a] [.ref a] _ _ hr e0 (hbind s₁ (.ref a)) (.cons rfl .nil) (hsp H hO hS)) fun r s' h => ?_
    cases r with
    | error e => exact (hCX H e s' h).elim
    | ok fl =>
      cases fl with
      | next => exact False.elim h
      | brk => exact False.elim h
      | cont => exact False.elim h
      | ret u =>
        obtain ⟨v, H', os, bare, un, hok', r', q⟩ := h
        have q' : v = .bl true := q
        subst q'
        obtain rfl : u = Value.bool true := r'
        refine ⟨rfl, OldK.of_keep fun b o e => ?_, os, bare⟩
        cases q : H b with
        | none => exact un.keep b o e q (by intro z; exact absurd (show b ∈ ([] : List Addr) from z) (by simp)) (by simp)
        | some u =>
          rcases hO b with z | ⟨ob, xs, z⟩
          · rw [q] at z; cases z
          · have z2 := un.frzs b ob _ z
            obtain ⟨e1, _⟩ := hok b _ z
            obtain ⟨e2, _⟩ := hok' b _ z2
            rw [e] at e1; cases e1
            exact e2
  cases hk : K.lookup a with
  | some o =>
    -- the script is one of the module's own objects
    have e := KX a o hk
    rw [ha] at e
    cases e
    refine core (fun _ => none) (fun _ => .inl rfl) (.inr ⟨_, vs.toArray, _, hk, rfl, rfl, rfl, by rw [List.size_toArray, lenV]; exact hl, by simpa using rv⟩) (fun b u z => by have z' : (none : Option HO) = some u := z; cases z') (fun b z => absurd rfl z) fun z => absurd rfl z
  | none =>
    refine core (fun b => if b = a then some (.frz { cls := .type "list", data := .seq vs.toArray } (.lst (ns.map V.int))) else none) (fun b => ?_) (.inl (.inr ⟨{ cls := .type "list", data := .seq vs.toArray }, if_pos rfl⟩)) (fun b u z => ?_) (fun b z => ?_) fun _ => hk
    · by_cases hb : b = a
      · exact .inr ⟨_, _, if_pos hb⟩
      · exact .inl (if_neg hb)
    · by_cases hb : b = a
      · have z' := (if_pos hb).symm.trans z
        cases z'
        subst hb
        exact ⟨ha, by rw [List.length_map]; exact hl, vs, _, rv, ha⟩
      · have z' := (if_neg hb).symm.trans z
        cases z'
    · by_cases hb : b = a
      · exact hb
      · exact absurd (if_neg hb) z
end L2

namespace L2
open PySem PySem.Spec PyProof.Rows

noncomputable abbrev KOf {K : PySem.W.Frag} {h : Heap} (_ : K.In h) : PySem.W.Frag := K

end L2

/- THE LAST THEOREM (shape; LID, My.* are yours):
   My.Adr: a structure of the addresses that your layer names (classes, functions); My.Txt K t: a structure (Prop) of the equations over K;
   My.txt_mk : {K} {implicit addresses ..} (e1 : nsIn K mainGlobals "law" = some (some (.ref f))) (e2 : K.lookup f = some ⟨oc, od, .func (fnOf "law" "law" params body scope dV kV doc pm an cdv ct), sl⟩) (e3 : codeIn K cdv "law" = true) .. : ∃ t, My.Txt K t

set_option maxRecDepth 100000 in
set_option maxHeartbeats 0 in
theorem PySem.Challenge.cw_LID_holds : PySem.Challenge.rw_LID.Holds := by
  w_on; o_law; k_head; (case hw => w_witness2)
  k_fill
  refine L2.walk_of (l := PySem.Challenge.rw_LID) (n := 63) (k := 40) (x := "script") (CX := fun w => ..) (sp := fun _ => My.sp_law) rfl (by decide) rfl ⟨rfl, by decide, by decide⟩ (fun w h Y => PySem.W.kIn_of Y) ?F ?S ?C
  case F =>
    intro w mg fa h KX G hmg
    have T : ∃ t, My.Txt (L2.KOf KX) t := by
      dsimp only [L2.KOf]                          -- K must stand as «<heap const> w.params» for k_is
      refine' My.txt_mk ?e1 ?e2 ?e3 ..
      (case e1 => PySem.W.k_is)                    -- in the order: a name -> its address -> its object -> its parts
      (case e2 => PySem.W.k_is)
      ..
    obtain ⟨t, T⟩ := T
    have e0 := hmg.symm.trans (PySem.W.mg_of KX G T.law)
    cases e0                                       -- fa is the law's own address
    exact ⟨_, fun s u => .of_eq rfl, fun base kb nb => My.law_fn T kb nb⟩     -- if «.of_eq rfl» comes too early: refine' ⟨_, ?b, fun base kb nb => My.law_fn T kb nb⟩; exact fun s u => .of_eq rfl
  case S => exact fun w H a ns hl hO hS => ..
  case C => exact ..
(the tactic k_is has no namespace: write k_is) -/

namespace L2
open PySem PySem.Spec PyProof.Rows

noncomputable def inClass (s : Stmt) (j : Nat) : Stmt := match s with
  | .ClassDef _ _ _ body _ _ _ _ _ _ _ => body.getD j (.Pass ⟨0, 0, 0, 0⟩)
  | _ => .Pass ⟨0, 0, 0, 0⟩
noncomputable def defArgs (s : Stmt) : Arguments := match s with
  | .FunctionDef _ a _ _ _ _ _ _ _ _ => a
  | _ => { posonlyargs := [], args := [], vararg := none, kwonlyargs := [], kw_defaults := [], kwarg := none, defaults := [] }
noncomputable def defBody (s : Stmt) : List Stmt := match s with
  | .FunctionDef _ _ b _ _ _ _ _ _ _ => b
  | _ => []
noncomputable def defScope (s : Stmt) : Scope := match s with
  | .FunctionDef _ _ _ _ _ _ sc _ _ _ => sc
  | _ => { kind := .function, names := [], isGenerator := false, isCoroutine := false }

noncomputable abbrev CX0 : CXT := fun _ _ _ _ _ _ => False
noncomputable abbrev E0 : XK := fun _ _ _ => False
theorem pass0 {X : Cx} : Passes CX0 X E0 := fun _ _ _ _ _ _ _ h => h.elim

structure Fun (K : PySem.W.Frag) (x qual : Str) (st : Stmt) (f : Addr) (fd : FuncData) : Prop where
  ex : ∃ (oc : Value) (od : Option Addr) (kV doc pm : Value) (an : Option Addr) (cdv ct : Value) (osl : Array (Option Value)),
    fd = PySem.W.fnOf x qual (defArgs st) (defBody st) (defScope st) .none kV doc pm an cdv ct ∧ K.lookup f = some ⟨oc, od, .func fd, osl⟩ ∧ PySem.W.codeIn K cdv qual = true
  kp : PySem.W.keepIn K (.ref f) = true
section
variable {P : Program} {w : World} {K : PySem.W.Frag} {mg : Str → Option Value} {base : Heap}
theorem Fun.ok {x qual : Str} {st : Stmt} {f : Addr} {fd : FuncData} {N ps : List Str} {k : Nat} {sp : Sp} (F : Fun K x qual st f fd) (S : FnScope N ps (defScope st)) (len : ∀ vs H Q E, sp vs H Q E → vs.length = ps.length)
    (hbody : ∀ (cdv : Value) (A : Around) (outer : List Env) (s : Shared) (H : Hp) (vs : List V) (Q : VK) (E : XK), Room k (A.deeper (envOfC qual (defScope st) s.heap.objs.size f cdv)) → sp vs H Q E →
      ∃ t, PSs (cxOf CX0 P w K mg base N qual (defScope st) f cdv A outer s H E).nox (defBody st) t ∧ t { nx := fun _ H' => Q .non H', rt := Q } (start N vs) H) : FnOk P w K mg base CX0 (k + 1) f fd ps sp := by
  obtain ⟨oc, od, kV, doc, pm, an, cdv, ct, osl, rfl, lk, hcd⟩ := F.ex
  refine fn_of lk hcd S len fun A outer s H vs Q E hr hsp => ?_
  obtain ⟨t, h, q⟩ := hbody cdv A outer s H vs Q E hr hsp
  exact ⟨t, h.nox, q⟩
theorem Fun.binds {x qual : Str} {st : Stmt} {f : Addr} {fd : FuncData} {ps : List Str} (F : Fun K x qual st f fd)
    (h : ∀ (kV doc pm : Value) (an : Option Addr) (cdv ct : Value) (us : List Value), us.length = ps.length → bindArgs (PySem.W.fnOf x qual (defArgs st) (defBody st) (defScope st) .none kV doc pm an cdv ct) ⟨us, []⟩ = pure (ps.zip us)) : Binds K fd ps [] := by
  obtain ⟨oc, od, kV, doc, pm, an, cdv, ct, osl, rfl, lk, hcd⟩ := F.ex
  exact .all (h kV doc pm an cdv ct)
theorem fun_mk {x qual : Str} {st : Stmt} {f : Addr} {oc : Value} {od an : Option Addr} {osl : Array (Option Value)} {kV doc pm cdv ct : Value} (l : K.lookup f = some ⟨oc, od, .func (PySem.W.fnOf x qual (defArgs st) (defBody st) (defScope st) .none kV doc pm an cdv ct), osl⟩)
    (c : PySem.W.codeIn K cdv qual = true) (k : PySem.W.keepIn K (.ref f) = true) : Fun K x qual st f (PySem.W.fnOf x qual (defArgs st) (defBody st) (defScope st) .none kV doc pm an cdv ct) := ⟨⟨oc, od, kV, doc, pm, an, cdv, ct, osl, rfl, l, c⟩, k⟩
end

section
variable {X : Cx}
theorem pv (i : Nat) {x : Str} {pos : Pos} (hN : X.N[i]? = some x := by rfl) (hv : Vis X.env.scope x := by first | exact Or.inl rfl | exact Or.inr (Or.inl rfl) | exact Or.inr (Or.inr rfl)) (hd : (x == ("__debug__" : Str)) = false := by decide)
    (hcd : (x == ("__classdict__" : Str)) = false := by decide) : PE X (.Name x pos) (tVar i) := pe_var hN hv hd hcd
end

theorem iteF {A B : Prop} (h : B) : if false = true then A else B := by
  rw [if_neg Bool.false_ne_true]
  exact h
theorem iteT {A B : Prop} (h : A) : if true = true then A else B := by
  rw [if_pos rfl]
  exact h
theorem ite2 {c A B : Prop} [Decidable c] (h1 : c → A) (h2 : ¬ c → B) : if c then A else B := by
  by_cases h : c
  · rw [if_pos h]
    exact h1 h
  · rw [if_neg h]
    exact h2 h
theorem iteNS {c A B : Prop} [Decidable c] (hc : c) (h : B) : if (!decide c) = true then A else B := by
  rw [decide_eq_true hc]
  exact iteF h

noncomputable def Same (H H' : Hp) : Prop := ∀ b o, H b = some o → H' b = some o
theorem Same.refl (H : Hp) : Same H H := fun _ _ h => h
theorem Same.trans {H H1 H2 : Hp} (a : Same H H1) (b : Same H1 H2) : Same H H2 := fun c o h => b c o (a c o h)
theorem Same.free {H H' : Hp} (e : Same H H') {l : Addr} (h : H' l = Option.none) : H l = Option.none := by
  cases q : H l with
  | none => rfl
  | some o =>
    rw [e l o q] at h
    cases h
theorem Same.seq {K : PySem.W.Frag} {H H' : Hp} {a : Addr} {xs : List V} (e : Same H H') (h : SqL K H a xs) : SqL K H' a xs := by
  rcases h with (h | ⟨o, h⟩) | h
  · exact .inl (.inl (e _ _ h))
  · exact .inl (.inr ⟨o, e _ _ h⟩)
  · exact .inr h

end L2

namespace L2
open PySem PySem.Spec PyProof.Rows

section
variable {κ : Type} [DecidableEq κ]
noncomputable def valV (kvs : List (κ × V)) (k : κ) : Option V := (kvs.find? fun kv => decide (kv.1 = k)).map (·.2)
noncomputable def putK (kvs : List (κ × V)) (k : κ) (v : V) : List (κ × V) :=
  if (kvs.any fun kv => decide (kv.1 = k)) = true then kvs.map (fun kv => if kv.1 = k then (kv.1, v) else kv) else kvs ++ [(k, v)]
noncomputable def dropK (kvs : List (κ × V)) (k : κ) : List (κ × V) := kvs.filter fun kv => decide (kv.1 ≠ k)

theorem valV_pos {p : κ × V} {r : List (κ × V)} {k : κ} (e : p.1 = k) : valV (p :: r) k = some p.2 := by simp [valV, List.find?_cons, e]
theorem valV_neg {p : κ × V} {r : List (κ × V)} {k : κ} (e : ¬ p.1 = k) : valV (p :: r) k = valV r k := by simp [valV, List.find?_cons, e]
theorem valV_any (k : κ) : ∀ kvs : List (κ × V), (kvs.any fun kv => decide (kv.1 = k)) = (valV kvs k).isSome
  | [] => rfl
  | p :: r => by
    rw [List.any_cons]
    by_cases e : p.1 = k
    · simp only [valV_pos e, decide_eq_true e, Bool.true_or, Option.isSome_some]
    · rw [valV_neg e, decide_eq_false e, Bool.false_or]; exact valV_any k r
theorem valV_map (k j : κ) (y : V) : ∀ kvs : List (κ × V), valV (kvs.map fun kv => if kv.1 = k then (kv.1, y) else kv) j = (valV kvs j).map fun x => if j = k then y else x
  | [] => rfl
  | p :: r => by
    have ih := valV_map k j y r
    rw [List.map_cons]
    by_cases h : p.1 = k
    · rw [if_pos h]
      by_cases e : p.1 = j
      · rw [valV_pos (p := (p.1, y)) e, valV_pos e, Option.map_some, if_pos (e.symm.trans h)]
      · rw [valV_neg (p := (p.1, y)) e, valV_neg e, ih]
    · rw [if_neg h]
      by_cases e : p.1 = j
      · rw [valV_pos (p := p) e, valV_pos e, Option.map_some, if_neg (fun z => h (e.trans z))]
      · rw [valV_neg (p := p) e, valV_neg e, ih]
theorem valV_snoc (k j : κ) (y : V) : ∀ kvs : List (κ × V), valV kvs k = none → valV (kvs ++ [(k, y)]) j = if j = k then some y else valV kvs j
  | [], _ => by
    by_cases e : k = j
    · rw [if_pos e.symm]; exact valV_pos (p := (k, y)) e
    · rw [if_neg (fun z => e z.symm)]; exact valV_neg (p := (k, y)) e
  | p :: r, hn => by
    rw [List.cons_append]
    have hk : ¬ p.1 = k := fun z => by rw [valV_pos z] at hn; cases hn
    rw [valV_neg hk] at hn
    have ih := valV_snoc k j y r hn
    by_cases e : p.1 = j
    · rw [valV_pos e, valV_pos e, if_neg (fun z => hk (e.trans z))]
    · rw [valV_neg e, valV_neg e, ih]
theorem valV_put (kvs : List (κ × V)) (k j : κ) (y : V) : valV (putK kvs k y) j = if j = k then some y else valV kvs j := by
  unfold putK
  by_cases a : (kvs.any fun kv => decide (kv.1 = k)) = true
  · rw [if_pos a, valV_map]
    rw [valV_any] at a
    by_cases e : j = k
    · obtain ⟨x, hx⟩ := Option.isSome_iff_exists.mp a
      rw [if_pos e, e, hx, Option.map_some, if_pos rfl]
    · rw [if_neg e]
      cases valV kvs j with
      | none => rfl
      | some x => rw [Option.map_some, if_neg e]
  · rw [if_neg a]
    refine valV_snoc k j y kvs ?_
    rw [valV_any] at a
    cases q : valV kvs k with
    | none => rfl
    | some x => rw [q] at a; exact (a rfl).elim
theorem length_putK (kvs : List (κ × V)) (k : κ) (v : V) : (putK kvs k v).length ≤ kvs.length + 1 := by
  unfold putK
  split
  · rw [List.length_map]; (first | lia | omega)
  · rw [List.length_append, List.length_cons, List.length_nil]; (first | lia | omega)
theorem putK_new {kvs : List (κ × V)} {k : κ} (v : V) (h : valV kvs k = none) : putK kvs k v = kvs ++ [(k, v)] := by
  unfold putK
  rw [valV_any, h]
  exact if_neg (by decide)

theorem RelO.isSome_eq {o : Option V} {u : Option Value} (r : RelO o u) : o.isSome = u.isSome := by
  cases o with
  | none => cases u with
    | none => rfl
    | some _ => exact (show False from r).elim
  | some _ => cases u with
    | none => exact (show False from r).elim
    | some _ => rfl
theorem RelO.getD {o : Option V} {u : Option Value} {d : V} {d' : Value} (r : RelO o u) (rd : RelV d d') : RelV (o.getD d) (u.getD d') := by
  cases o with
  | none => cases u with
    | none => exact rd
    | some _ => exact (show False from r).elim
  | some _ => cases u with
    | none => exact (show False from r).elim
    | some _ => exact r

theorem KV.val {kvs : List (κ × V)} {vs : List (κ × Value)} (r : KV kvs vs) (k : κ) : RelO (valV kvs k) (valueAt vs k) := by
  unfold KV at r
  induction r with
  | nil => exact True.intro
  | @cons p q ps qs h t ih =>
    obtain ⟨h1, h2⟩ := h
    by_cases e : p.1 = k
    · have e' : q.1 = k := h1.symm.trans e
      have b : valueAt (q :: qs) k = some q.2 := by simp [valueAt, List.find?_cons, e']
      rw [valV_pos e, b]; exact h2
    · have e' : ¬ q.1 = k := fun z => e (h1.trans z)
      have b : valueAt (q :: qs) k = valueAt qs k := by simp [valueAt, List.find?_cons, e']
      rw [valV_neg e, b]; exact ih
theorem KV.any {kvs : List (κ × V)} {vs : List (κ × Value)} (r : KV kvs vs) (k : κ) : (kvs.any fun kv => decide (kv.1 = k)) = vs.any fun kv => decide (kv.1 = k) := by
  unfold KV at r
  induction r with
  | nil => rfl
  | cons h t ih => rw [List.any_cons, List.any_cons, ih, h.1]
theorem KV.repl {kvs : List (κ × V)} {vs : List (κ × Value)} (r : KV kvs vs) (k : κ) {y : V} {u : Value} (ry : RelV y u) :
    KV (kvs.map fun kv => if kv.1 = k then (kv.1, y) else kv) (vs.map fun kv => if kv.1 = k then (kv.1, u) else kv) := by
  unfold KV at r ⊢
  induction r with
  | nil => exact .nil
  | @cons p q ps qs h t ih =>
    rw [List.map_cons, List.map_cons]
    refine .cons ?_ ih
    obtain ⟨h1, h2⟩ := h
    by_cases e : p.1 = k
    · rw [if_pos e, if_pos (h1.symm.trans e)]; exact ⟨h1, ry⟩
    · rw [if_neg e, if_neg (fun z => e (h1.trans z))]; exact ⟨h1, h2⟩
theorem KV.put {kvs : List (κ × V)} {vs : List (κ × Value)} (r : KV kvs vs) (k : κ) {y : V} {u : Value} (ry : RelV y u) : KV (putK kvs k y) (stored vs k u) := by
  unfold putK stored
  rw [r.any k]
  by_cases e : (vs.any fun kv => decide (kv.1 = k)) = true
  · rw [if_pos e, if_pos e]; exact r.repl k ry
  · rw [if_neg e, if_neg e]; exact Paired.snoc r ⟨rfl, ry⟩
theorem KV.length {kvs : List (κ × V)} {vs : List (κ × Value)} (r : KV kvs vs) : kvs.length = vs.length := Paired.length r
end


theorem kV_is {P : Program} {w : World} {k : Key} {u : Value} (r : RelV (kV k) u) : (mixKind P w).is k u = true := by
  cases k with
  | inl i => obtain ⟨t, e⟩ := (show ∃ t, u = Value.int i t from r); subst e; exact mixKind_int P w i t
  | inr x => obtain ⟨t, e⟩ := (show ∃ t, u = Value.str x t from r); subst e; exact mixKind_str P w x t
theorem items_are {P : Program} {w : World} : ∀ {ks : List Key} {us : List Value}, Vals (ks.map kV) us → ItemsAre (mixKind P w) ks us
  | [], _, r => by rw [List.map_nil] at r; cases r; exact .nil
  | k :: ks, _, r => by
    rw [List.map_cons] at r
    cases r with
    | cons h t => exact .cons (kV_is h) (items_are t)

noncomputable abbrev KT (H : Hp) : List (List Key × V) → List (List Key × Addr × Value) → Prop := Paired fun p q => p.1 = q.1 ∧ H q.2.1 = some (.tup (p.1.map kV)) ∧ RelV p.2 q.2.2
theorem KT.val {H : Hp} {kvs : List (List Key × V)} {xs : List (List Key × Addr × Value)} (r : KT H kvs xs) (k : List Key) : RelO (valV kvs k) ((atKey xs k).map (·.2)) := by
  induction r with
  | nil => exact True.intro
  | @cons p q ps qs h t ih =>
    obtain ⟨h1, _, h2⟩ := h
    by_cases e : p.1 = k
    · have e' : q.1 = k := h1.symm.trans e
      have b : atKey (q :: qs) k = some q.2 := by simp [atKey, List.find?_cons, e']
      rw [valV_pos e, b]; exact h2
    · have e' : ¬ q.1 = k := fun z => e (h1.trans z)
      have b : atKey (q :: qs) k = atKey qs k := by simp [atKey, List.find?_cons, e']
      rw [valV_neg e, b]; exact ih
theorem KT.repl {H : Hp} {kvs : List (List Key × V)} {xs : List (List Key × Addr × Value)} (r : KT H kvs xs) (k : List Key) {y : V} {u : Value} (ry : RelV y u) :
    KT H (kvs.map fun kv => if kv.1 = k then (kv.1, y) else kv) (xs.map (putAt k u)) := by
  induction r with
  | nil => exact .nil
  | @cons p q ps qs h t ih =>
    rw [List.map_cons, List.map_cons]
    refine .cons ?_ ih
    obtain ⟨h1, h2, h3⟩ := h
    unfold putAt
    by_cases e : p.1 = k
    · rw [if_pos e, if_pos (h1.symm.trans e)]; exact ⟨h1, h2, ry⟩
    · rw [if_neg e, if_neg (fun z => e (h1.trans z))]; exact ⟨h1, h2, h3⟩
theorem KT.put {H : Hp} {kvs : List (List Key × V)} {xs : List (List Key × Addr × Value)} (r : KT H kvs xs) (k : List Key) {b : Addr} {y : V} {u : Value} (hb : H b = some (.tup (k.map kV))) (ry : RelV y u) :
    KT H (putK kvs k y) (storedH xs k b u) := by
  have e : (kvs.any fun kv => decide (kv.1 = k)) = (atKey xs k).isSome := by
    rw [valV_any, (r.val k).isSome_eq, Option.isSome_map]
  unfold putK storedH
  rw [e]
  by_cases q : (atKey xs k).isSome = true
  · rw [if_pos q, if_pos q]; exact r.repl k ry
  · rw [if_neg q, if_neg q]; exact Paired.snoc r ⟨rfl, hb, ry⟩
theorem KT.keeps {H H' : Hp} {kvs : List (List Key × V)} {xs : List (List Key × Addr × Value)} (r : KT H kvs xs) (ht : ∀ b ys, H b = some (.tup ys) → H' b = some (.tup ys)) : KT H' kvs xs :=
  Paired.mapP r fun _ _ z => ⟨z.1, ht _ _ z.2.1, z.2.2⟩

section
variable {P : Program} {w : World} {H : Hp} {h : Heap} {a : Addr}
theorem rd_of {u : HO} (ok : HOk P w H h) (e : Rd H a u) : ObjOk P w H h a u := e.ok ok
theorem dk_rd {kvs : List (Key × V)} (ok : HOk P w H h) (e : Rd H a (.dK kvs)) : kvs.length ≤ sizeLine ∧ (a == sysModules) = false ∧ ∃ vs, KV kvs vs ∧ h.DictOf (mixKind P w) a vs :=
  show ObjOk P w H h a (.dK kvs) from rd_of ok e
theorem dk_of {kvs : List (Key × V)} (ok : HOk P w H h) (e : H a = some (.dK kvs)) : kvs.length ≤ sizeLine ∧ (a == sysModules) = false ∧ ∃ vs, KV kvs vs ∧ h.DictOf (mixKind P w) a vs := dk_rd ok (.inl e)
theorem key_of {ks : List Key} (ok : HOk P w H h) (e : H a = some (.tup (ks.map kV))) : (tupleKind (mixKind P w)).is h ks a := by
  obtain ⟨_, its, r, o, h1, h2, n, h3⟩ := (show ObjOk P w H h a (.tup (ks.map kV)) from ok a _ e)
  exact ⟨o, its.toArray, n, h1, h2, h3, by simpa using items_are r⟩
theorem dt_rd {kvs : List (List Key × V)} (ok : HOk P w H h) (e : Rd H a (.dT kvs)) : kvs.length ≤ sizeLine ∧ (a == sysModules) = false ∧
    ∃ xs, KT H kvs xs ∧ h.DictOfH (tupleKind (mixKind P w)) a xs := by
  obtain ⟨z, y, xs, r, o, es, ep, h1, h2, h3, h4, h5⟩ := (show ObjOk P w H h a (.dT kvs) from rd_of ok e)
  refine ⟨z, y, xs, r, o, es, ep, h1, h2, h3, h4, fun x hx => ?_, h5⟩
  have all : ∀ {l : List (List Key × V)} {m : List (List Key × Addr × Value)}, KT H l m → ∀ x ∈ m, (tupleKind (mixKind P w)).is h x.1 x.2.1 := by
    intro l m q
    induction q with
    | nil => intro x hx; exact nomatch hx
    | @cons p q ps qs hq t ih =>
      intro x hx
      rcases List.mem_cons.mp hx with e | hx
      · subst e
        exact key_of ok (by rw [← hq.1]; exact hq.2.1)
      · exact ih x hx
  exact all r x hx
theorem dt_of {kvs : List (List Key × V)} (ok : HOk P w H h) (e : H a = some (.dT kvs)) : kvs.length ≤ sizeLine ∧ (a == sysModules) = false ∧
    ∃ xs, KT H kvs xs ∧ h.DictOfH (tupleKind (mixKind P w)) a xs := dt_rd ok (.inl e)
end

noncomputable def DGet (H : Hp) (a : Addr) (y : V) (r : Option V) : Prop :=
  (∃ kvs k, Rd H a (.dK kvs) ∧ y = kV k ∧ r = valV kvs k) ∨ ∃ kvs k b, Rd H a (.dT kvs) ∧ y = .ref b ∧ H b = some (.tup (k.map kV)) ∧ r = valV kvs k
noncomputable def DPut (H : Hp) (a : Addr) (y v : V) (H' : Hp) : Prop :=
  (∃ kvs k, H a = some (.dK kvs) ∧ y = kV k ∧ kvs.length < sizeLine ∧ H' = upd H a (.dK (putK kvs k v))) ∨
  ∃ kvs k b, H a = some (.dT kvs) ∧ y = .ref b ∧ H b = some (.tup (k.map kV)) ∧ kvs.length < sizeLine ∧ H' = upd H a (.dT (putK kvs k v))
theorem DGet.t {H : Hp} {a b : Addr} {kvs : List (List Key × V)} {k : List Key} (e : H a = some (.dT kvs)) (eb : H b = some (.tup (k.map kV))) : DGet H a (.ref b) (valV kvs k) := .inr ⟨kvs, k, b, .inl e, rfl, eb, rfl⟩
theorem DPut.t {H : Hp} {a b : Addr} {kvs : List (List Key × V)} {k : List Key} {v : V} (e : H a = some (.dT kvs)) (eb : H b = some (.tup (k.map kV))) (hl : kvs.length < sizeLine) :
    DPut H a (.ref b) v (upd H a (.dT (putK kvs k v))) := .inr ⟨kvs, k, b, e, rfl, eb, hl, rfl⟩


section
variable {X : Cx} {pins : List (Addr × Obj)} {σ : St} {H : Hp} {s : Shared} {a : Addr} {y v : V} {u r : Value} {o : Option V} {A : Around} {E : Value → Shared → Prop}

theorem Inv.big (I : Inv X pins σ H s) : sysModules < s.heap.objs.size := by
  have h : mainGlobals < s.heap.objs.size := (I.mod.glob.keeps I.bk).lt
  exact Nat.lt_trans (by decide) h

theorem d_getItem {Q : Value → Shared → Prop} (hu : A.units + 1 < cLine) (I : Inv X pins σ H s) (g : DGet H a y (some v)) (ry : RelV y u) (h : ∀ w' s', Inv X pins σ H s' → RelV v w' → Q w' s') :
    wpAny (model X.prog X.w) A (getItem (.ref a) u) Q E s := by
  rcases g with ⟨kvs, k, e, ey, l⟩ | ⟨kvs, k, b, e, ey, eb, l⟩
  · subst ey
    obtain ⟨z, hd, vs, rel, dd⟩ := dk_rd I.hok e
    obtain ⟨w', hw, rw'⟩ := RelO.some_of (v := v) (o := valueAt vs k) (by rw [l]; exact rel.val k)
    exact wpAny_getItem_of (kV_is ry) dd.mapOf hw (h w' _ (I.tok _) rw')
  · subst ey
    cases (show u = Value.ref b from ry)
    obtain ⟨z, hd, xs, rel, dd⟩ := dt_rd I.hok e
    obtain ⟨w', hw, rw'⟩ := RelO.some_of (v := v) (o := (atKey xs k).map (·.2)) (by rw [l]; exact rel.val k)
    obtain ⟨p, hp, hp2⟩ := Option.map_eq_some_iff.mp hw
    refine wpAny_getItem_heap (tupleKind_room_in1 hu) (key_of I.hok eb) dd hp ?_
    rw [hp2]
    exact h w' _ (I.tok _) rw'
theorem d_write {h' : Heap} {t' : Nat} {ob : HO} (I : Inv X pins σ H s) (mu : Mut (H a)) (hs : Heap.SameBut a s.heap h') (he : ∃ q, h'.get? a = some q) (new : ObjOk X.prog X.w (upd H a ob) h' a ob) :
    Inv X pins σ (upd H a ob) { s with heap := h', toks := t' } :=
  I.write (x := a) (e := a) mu (.inl rfl) (fun b q hb z => (hs.2 b hb).trans z) he new
theorem dk_new {P : Program} {w : World} {H' : Hp} {h' : Heap} {kvs : List (Key × V)} {vs : List (Key × Value)} (z : kvs.length ≤ sizeLine) (hd : (a == sysModules) = false) (rel : KV kvs vs) (dd : h'.DictOf (mixKind P w) a vs) :
    ObjOk P w H' h' a (.dK kvs) := ⟨z, hd, vs, rel, dd⟩
theorem d_setItem {H' : Hp} {Q : Unit → Shared → Prop} (hu : A.units + 1 < cLine) (I : Inv X pins σ H s) (g : DPut H a y v H') (ry : RelV y u) (rv : RelV v r) (h : ∀ s', Inv X pins σ H' s' → Q () s') :
    wpAny (model X.prog X.w) A (setItem (.ref a) u r) Q E s := by
  rcases g with ⟨kvs, k, e, ey, l, eH⟩ | ⟨kvs, k, b, e, ey, eb, l, eH⟩
  · subst ey eH
    obtain ⟨z, hd, vs, rel, dd⟩ := dk_of I.hok e
    have hz : vs.length ≤ sizeLine := by rw [← rel.length]; exact z
    have hl : (putK kvs k v).length ≤ sizeLine := by have := length_putK kvs k v; (first | lia | omega)
    refine wpAny_setItem_pairs (hsz := hz) (kV_is ry) dd fun h' dd' hs => h _ ?_
    have he : ∃ q, h'.get? a = some q := let ⟨q, _, _, hq, _⟩ := dd'; ⟨q, hq⟩
    exact d_write I (by rw [e]; exact True.intro) hs he (dk_new hl hd (rel.put k rv) dd')
  · subst ey eH
    cases (show u = Value.ref b from ry)
    obtain ⟨z, hd, xs, rel, dd⟩ := dt_of I.hok e
    have hz : xs.length ≤ sizeLine := by rw [← Paired.length rel]; exact z
    have hl : (putK kvs k v).length ≤ sizeLine := by have := length_putK kvs k v; (first | lia | omega)
    refine wpAny_setItem_heap (hsz := hz) (tupleKind_room_in1 hu) (key_of I.hok eb) dd fun h' dd' hs => h _ ?_
    obtain ⟨q, es, ep, hq, h2, h3, h4, _, h5⟩ := dd'
    refine d_write I (by rw [e]; exact True.intro) hs ⟨q, hq⟩ ⟨hl, hd, _, (rel.put k eb rv).keeps fun c ys ec => ?_, q, es, ep, hq, h2, h3, h4, h5⟩
    rw [upd_ne (ne_of ec e (fun z => nomatch z))]
    exact ec
end

section
variable {X : Cx} {pins : List (Addr × Obj)} {σ : St} {H : Hp} {s : Shared} {a : Addr} {kvs : List (Key × V)} {k : Key} {u : Value} {A : Around} {E : Value → Shared → Prop}
end


noncomputable def NoSl (i : Expr) : Prop := ∀ ov iv, subscripted i false ov iv = operate [ov, iv] (getItem ov iv)
theorem subD_of {prog : Program} {w : World} {A : Around} {E : Value → Shared → Prop} {s : Shared} {env : Env} {value slice : Expr} {pos : Pos} {T id : String} {Q : Value → Shared → Prop}
    (hl : typeLookup (.type T) "__getitem__" = pure (some (.builtin id))) (hs : NoSl slice)
    (h : wpAny (model prog w) A (eval value env) (fun o s₁ => wpAny (model prog w) A (eval slice env) (fun i s₂ => s₂.TypeIs o T ∧ wpAny (model prog w) A (getItem o i) Q E s₂) E s₁) E s) :
    wpAny (model prog w) A (eval (.Subscript value slice pos) env) Q E s := by
  refine Subscript_ (wpAny_mono h (fun o s₁ h₁ => wpAny_mono h₁ (fun i s₂ h₂ => ?_) fun _ _ x => x) fun _ _ x => x)
  obtain ⟨hT, h₂⟩ := h₂
  unfold subscriptTail
  refine wpAny_bind ?_
  rw [getitemInPython_of_ne hT.not_modules]
  refine wpAny_bind (wpAny_specialOf hT hl ?_)
  have fin : wpAny (model prog w) A (subscripted slice false o i) (fun r s₃ => wpAny (model prog w) A (letTemporaryGo value o r >>= fun _ => pure r) Q E s₃) E s₂ := by
    rw [hs o i]
    exact wpAny_operating (wpAny_mono h₂ (fun r s₃ h₃ => wpAny_bind (wpAny_letTemporaryGo (wpAny_pure h₃))) fun _ _ x => x)
  first
    | exact wpAny_pure (wpAny_bind fin)
    | exact wpAny_bind (wpAny_pure (wpAny_bind fin))
    | exact wpAny_bind fin

theorem dict_typeIs {X : Cx} {pins : List (Addr × Obj)} {σ : St} {H : Hp} {s : Shared} {a : Addr} {y : V} {o : Option V} (I : Inv X pins σ H s) (g : DGet H a y o) : s.TypeIs (.ref a) "dict" := by
  rcases g with ⟨kvs, k, e, _, _⟩ | ⟨kvs, k, b, e, _, _, _⟩
  · obtain ⟨_, _, vs, _, dd⟩ := dk_rd I.hok e
    exact dd.typeIs
  · obtain ⟨_, _, xs, _, dd⟩ := dt_rd I.hok e
    exact dd.typeIs

noncomputable def tDGet (td ty : TE) : TE := fun σ H Q => td σ H fun x H1 => ty σ H1 fun y H2 => ∃ a v, x = .ref a ∧ DGet H2 a y (some v) ∧ Q v H2
noncomputable def tDIn (ty td : TE) : TE := fun σ H Q => ty σ H fun y H1 => td σ H1 fun x H2 => ∃ a o, x = .ref a ∧ DGet H2 a y o ∧ Q (.bl o.isSome) H2
noncomputable def tDNotIn (ty td : TE) : TE := fun σ H Q => ty σ H fun y H1 => td σ H1 fun x H2 => ∃ a o, x = .ref a ∧ DGet H2 a y o ∧ Q (.bl (!o.isSome)) H2
noncomputable def sDPut (td ty tv : TE) : TS := fun D σ H => tv σ H fun v H1 => td σ H1 fun x H2 => ty σ H2 fun y H3 => ∃ a H4, x = .ref a ∧ DPut H3 a y v H4 ∧ D.nx σ H4
noncomputable def sDAug (td ty tv : TE) (rd : V → V → Hp → VK → Prop) : TS := fun D σ H => td σ H fun x H1 => ty σ H1 fun y H2 => ∃ a v, x = .ref a ∧ DGet H2 a y (some v) ∧
  tv σ H2 fun y2 H3 => rd v y2 H3 fun z H4 => ∃ H5, DPut H4 a y z H5 ∧ D.nx σ H5
noncomputable def sDDel (td ty : TE) : TS := fun D σ H => td σ H fun x H1 => ty σ H1 fun y H2 => ∃ a kvs k, x = .ref a ∧ H2 a = some (.dK kvs) ∧ y = kV k ∧ (valV kvs k).isSome = true ∧ D.nx σ (upd H2 a (.dK (dropK kvs k)))

section
variable {X : Cx} {o i e value : Expr} {pos pos' tpos : Pos} {td ty tv : TE}
theorem pe_dget (hu : X.A.units + 1 < cLine) (ho : PE X o td) (hi : PE X i ty) (hs : NoSl i) : PE X (.Subscript o i pos) (tDGet td ty) := by
  intro pins s σ H Q I h
  refine subD_of PySem.F.slot_dict_getitem.lookup hs (thn (ho pins s σ H _ I h) fun u s1 ⟨x, H1, I1, rx, q1⟩ => thn (hi pins s1 σ H1 _ I1 q1) fun iv s2 ⟨y, H2, I2, ry, a, v, ex, g, q2⟩ => ?_)
  subst ex
  obtain rfl : u = Value.ref a := rx
  exact ⟨dict_typeIs I2 g, d_getItem hu I2 g ry fun w' s3 I3 rw' => ⟨v, H2, I3, rw', q2⟩⟩
theorem ps_dput (hu : X.A.units + 1 < cLine) (ho : PE X o td) (hi : PE X i ty) (hv : PE X value tv) (hs : swapsWith value (some (.Subscript o i pos')) pos.line X.env = pure false) :
    PS X (.Assign [.Subscript o i pos'] value pos) (sDPut td ty tv) := by
  intro pins s σ H D I h
  refine wpAny_Assign_Subscript (thn (hv pins s σ H _ I h) fun r s1 ⟨v, H1, I1, rv, q1⟩ => thn (ho pins s1 σ H1 _ I1 q1) fun u s2 ⟨x, H2, I2, rx, q2⟩ => thn (hi pins s2 σ H2 _ I2 q2) fun iv s3 ⟨y, H3, I3, ry, a, H4, ex, g, q3⟩ => ?_) hs
  subst ex
  obtain rfl : u = Value.ref a := rx
  exact d_setItem hu I3 g ry rv fun s4 I4 => ⟨σ, H4, I4, q3⟩
end


theorem dt_empty {P : Program} {w : World} {H : Hp} (h : Heap) (hb : sysModules < h.objs.size) : ObjOk P w H (h.push { cls := .type "dict", data := .dict #[] }) h.objs.size (.dT []) :=
  ⟨Nat.zero_le _, beq_eq_false_iff_ne.mpr (Ne.symm (Nat.ne_of_lt hb)), [], .nil, _, #[], 0, Heap.get?_push_size _ rfl, ⟨rfl, rfl, rfl⟩, rfl, rfl, List.nodup_nil⟩
noncomputable def tDNewK : TE := fun _ H Q => ∀ p, H p = none → Q (.ref p) (upd H p (.dK []))
noncomputable def tDNewT : TE := fun _ H Q => ∀ p, H p = none → Q (.ref p) (upd H p (.dT []))
section
variable {X : Cx} {pos : Pos}
theorem pe_dnewT : PE X (.Dict [] [] pos) tDNewT := fun pins s σ H Q I h =>
  wpAny_Dict_empty ⟨.ref s.heap.objs.size, _, I.laid (a := s.heap.objs.size) (o := .dT []) (t' := s.toks) (fun _ _ q => Heap.get?_push_of_some _ q) (Nat.le_refl _) (dt_empty s.heap I.big), rfl, h _ (I.hok.fresh (Nat.le_refl _))⟩
end

noncomputable def tPairs : List (TE × TE) → St → Hp → (List (V × V) → Hp → Prop) → Prop
  | [], _, H, Q => Q [] H
  | (tk, tv) :: r, σ, H, Q => tk σ H fun x H1 => tv σ H1 fun y H2 => tPairs r σ H2 fun ps H3 => Q ((x, y) :: ps) H3
noncomputable abbrev VV : List (V × V) → List (Value × Value) → Prop := Paired fun p q => RelV p.1 q.1 ∧ RelV p.2 q.2
noncomputable def PPs (X : Cx) (pos : Pos) (keys : List (Option Expr)) (values : List Expr) (trs : List (TE × TE)) : Prop :=
  ∀ (pins : List (Addr × Obj)) (s : Shared) (σ : St) (H : Hp) (Q : List (V × V) → Hp → Prop), Inv X pins σ H s → tPairs trs σ H Q →
    wpAny (model X.prog X.w) X.A (evalPairs (pairTrees keys values X.env pos)) (fun vs s' => ∃ ps H', Inv X pins σ H' s' ∧ VV ps vs ∧ Q ps H') X.xe s

noncomputable def mergeK (kvs more : List (Key × V)) : List (Key × V) := more.foldl (fun acc kv => putK acc kv.1 kv.2) kvs
noncomputable def tDisp (trs : List (TE × TE)) : TE := fun σ H Q => ∀ p, H p = none → tPairs trs σ (upd H p (.dK [])) fun ps H2 => H2 p = some (.dK []) ∧ ∃ kvs : List (Key × V), ps = kvs.map (fun kv => (kV kv.1, kv.2)) ∧ kvs.length ≤ 15 ∧ Q (.ref p) (upd H2 p (.dK (mergeK [] kvs)))


structure M1 (X : Cx) (o : Expr) (m : Str) (apos : Pos) (e : Expr) (cpos : Pos) : Prop where
  base : attributeBase o m X.env (eval o X.env) = eval o X.env
  few : ((backTo cpos (starEach [e] X.env)).all (fun x => !x.1) && (backToKw cpos (keywordEach [] X.env)).all (fun x => x.1.isSome)
    && decide (([e] : List Expr).length + ([] : List Keyword).length + (if ([] : List Keyword).isEmpty then 0 else 1) < 30)) = true
  line : (apos.endLine == cpos.line) = true
  trees : backTo cpos (starEach [e] X.env) = [(false, eval e X.env)]
structure M2 (X : Cx) (o : Expr) (m : Str) (apos : Pos) (e f : Expr) (cpos : Pos) : Prop where
  base : attributeBase o m X.env (eval o X.env) = eval o X.env
  few : ((backTo cpos (starEach [e, f] X.env)).all (fun x => !x.1) && (backToKw cpos (keywordEach [] X.env)).all (fun x => x.1.isSome)
    && decide (([e, f] : List Expr).length + ([] : List Keyword).length + (if ([] : List Keyword).isEmpty then 0 else 1) < 30)) = true
  line : (apos.endLine == cpos.line) = true
  trees : backTo cpos (starEach [e, f] X.env) = [(false, eval e X.env), (false, eval f X.env)]

noncomputable def IsD (H : Hp) (a : Addr) : Prop := (∃ kvs, Rd H a (.dK kvs)) ∨ ∃ kvs, Rd H a (.dT kvs)
theorem isD_at {X : Cx} {pins : List (Addr × Obj)} {σ : St} {H : Hp} {s : Shared} {a : Addr} (I : Inv X pins σ H s) (d : IsD H a) :
    s.TypeIs (.ref a) "dict" ∧ (∀ b, Value.ref a = .ref b → ∃ ob, s.heap.get? b = some ob ∧ ob.dict = none) ∧ (a == sysModules) = false := by
  rcases d with ⟨kvs, e⟩ | ⟨kvs, e⟩
  · obtain ⟨_, hd, vs, _, dd⟩ := dk_rd I.hok e
    refine ⟨dd.typeIs, fun b q => ?_, hd⟩
    cases q
    obtain ⟨ob, _, _, h1, h2, _⟩ := dd
    exact ⟨ob, h1, h2.2.1⟩
  · obtain ⟨_, hd, xs, _, dd⟩ := dt_rd I.hok e
    refine ⟨dd.typeIs, fun b q => ?_, hd⟩
    cases q
    obtain ⟨ob, _, _, h1, h2, _⟩ := dd
    exact ⟨ob, h1, h2.2.1⟩

section
variable {X : Cx} {pins : List (Addr × Obj)} {σ : St} {H : Hp} {s : Shared} {a : Addr} {y d : V} {u r : Value} {o : Option V} {A : Around} {E : Value → Shared → Prop}
theorem d_get2 {Q : Value → Shared → Prop} (hu : A.units + 1 < cLine) (I : Inv X pins σ H s) (g : DGet H a y o) (ry : RelV y u) (rd : RelV d r) (h : ∀ w' s', Inv X pins σ H s' → RelV (o.getD d) w' → Q w' s') :
    wpAny (model X.prog X.w) A (call (.builtin "dict.get") [.ref a, u, r]) Q E s := by
  rcases g with ⟨kvs, k, e, ey, l⟩ | ⟨kvs, k, b, e, ey, eb, l⟩
  · subst ey
    obtain ⟨z, hd, vs, rel, dd⟩ := dk_rd I.hok e
    refine call_meetsIn PySem.F.slot_dict_get dd.typeIs PySem.F.entry_dict_get (PySem.F.args_dict_get_3 _ _ _) (meets_dict_get_default (mixKind X.prog X.w) a (kV_is ry) hd r) ⟨_, dd.mapOf, h _ _ (I.tok _) ?_⟩
    rw [l]
    exact (rel.val k).getD rd
  · subst ey
    cases (show u = Value.ref b from ry)
    obtain ⟨z, hd, xs, rel, dd⟩ := dt_rd I.hok e
    refine call_meetsIn PySem.F.slot_dict_get dd.typeIs PySem.F.entry_dict_get (PySem.F.args_dict_get_3 _ _ _) (meetsH_dict_get_default (tupleKind (mixKind X.prog X.w)) a b hd r) ⟨tupleKind_room_in1 hu, k, xs, key_of I.hok eb, dd, h _ _ (I.tok _) ?_⟩
    rw [l]
    exact (rel.val k).getD rd
end

noncomputable def tDGet1 (td ty : TE) : TE := fun σ H Q => td σ H fun x H1 => ∃ a, x = .ref a ∧ IsD H1 a ∧ ty σ H1 fun y H2 => ∃ o, DGet H2 a y o ∧ Q (o.getD .non) H2
noncomputable def tDGet2 (td ty tx : TE) : TE := fun σ H Q => td σ H fun x H1 => ∃ a, x = .ref a ∧ IsD H1 a ∧ ty σ H1 fun y H2 => tx σ H2 fun z H3 => ∃ o, DGet H3 a y o ∧ Q (o.getD z) H3
noncomputable def tDPop1 (td ty : TE) : TE := fun σ H Q => td σ H fun x H1 => ∃ a, x = .ref a ∧ IsD H1 a ∧ ty σ H1 fun y H2 => ∃ kvs k v, H2 a = some (.dK kvs) ∧ y = kV k ∧ valV kvs k = some v ∧ Q v (upd H2 a (.dK (dropK kvs k)))
noncomputable def tDPop2 (td ty tx : TE) : TE := fun σ H Q => td σ H fun x H1 => ∃ a, x = .ref a ∧ IsD H1 a ∧ ty σ H1 fun y H2 => tx σ H2 fun z H3 => ∃ kvs k, H3 a = some (.dK kvs) ∧ y = kV k ∧
  (∀ v, valV kvs k = some v → Q v (upd H3 a (.dK (dropK kvs k)))) ∧ (valV kvs k = none → Q z H3)
section
variable {X : Cx} {o e f : Expr} {apos cpos : Pos} {td ty tx : TE}
theorem pe_dget2 (hu : X.A.units + 1 < cLine) (ho : PE X o td) (he : PE X e ty) (hf : PE X f tx) (m : M2 X o "get" apos e f cpos) : PE X (.Call (.Attribute o "get" apos) [e, f] [] cpos) (tDGet2 td ty tx) := by
  intro pins s σ H Q I h
  refine wpAny_Call_method m.base m.few m.line PySem.F.plainAttrs_dict PySem.F.slot_dict_get PySem.F.type_dict_get (thn (ho pins s σ H _ I h) fun u s1 ⟨x, H1, I1, rx, a, ex, d, q1⟩ => ?_)
  subst ex
  obtain rfl : u = Value.ref a := rx
  obtain ⟨t1, t2, _⟩ := isD_at I1 d
  refine ⟨t1, t2, ?_⟩
  rw [m.trees]
  refine Calls.callWith_builtin rfl (Calls.evalArgs_plain (Calls.spliced_cons (thn (he pins s1 σ H1 _ I1 q1) fun iv s2 ⟨y, H2, I2, ry, q2⟩ =>
    Calls.spliced_cons (thn (hf pins s2 σ H2 _ I2 q2) fun fv s3 ⟨z, H3, I3, rz, ov, g, q3⟩ => Calls.spliced_nil ?_))))
  exact d_get2 hu I3 g ry rz fun w' s4 I4 rw' => ⟨_, H3, I4, rw', q3⟩
end

section
variable {X : Cx} {pins : List (Addr × Obj)} {σ : St} {H : Hp} {s : Shared} {a : Addr} {kvs : List (Key × V)} {A : Around} {E : Value → Shared → Prop}
end


section
variable {X : Cx} {pins : List (Addr × Obj)} {σ : St} {H : Hp} {s : Shared} {a : Addr} {y : V} {u : Value} {A : Around} {E : Value → Shared → Prop}
end
end L2
namespace Ra
noncomputable def Bt (n : Nat) (x : Int) : Prop := x.natAbs < 2 ^ n
theorem Bt.mono {m n : Nat} {x : Int} (h : Bt m x) (l : m ≤ n) : Bt n x := Nat.lt_of_lt_of_le h (Nat.pow_le_pow_right (by decide) l)
theorem Bt.neg {n : Nat} {x : Int} (h : Bt n x) : Bt n (-x) := by unfold Bt at *; rw [Int.natAbs_neg]; exact h
theorem Bt.mul {m n : Nat} {x y : Int} (h : Bt m x) (k : Bt n y) : Bt (m + n) (x * y) := by
  unfold Bt at *
  rw [Int.natAbs_mul, Nat.pow_add]
  exact Nat.mul_lt_mul'' h k
theorem Bt.of_le {n : Nat} {x y : Int} (h : Bt n x) (k : y.natAbs ≤ x.natAbs) : Bt n y := Nat.lt_of_le_of_lt k h
theorem Bt.ediv {n : Nat} {x y : Int} (h : Bt n x) : Bt n (x / y) := h.of_le (Int.natAbs_ediv_le_natAbs x y)
theorem Bt.zero {n : Nat} : Bt n 0 := Nat.pow_pos (by decide)
theorem Bt.between {n : Nat} {x : Int} (h : -(2 ^ n : Int) < x) (k : x < (2 ^ n : Int)) : Bt n x := by
  unfold Bt
  have e : ((2 ^ n : Nat) : Int) = (2 : Int) ^ n := by push_cast; rfl
  (first | lia | omega)

noncomputable def g (a b : Int) : Int := (Int.gcd a b : Nat)
theorem g_nonneg (a b : Int) : 0 ≤ g a b := Int.natCast_nonneg _
theorem g_dvd_left (a b : Int) : g a b ∣ a := Int.gcd_dvd_left a b
theorem g_dvd_right (a b : Int) : g a b ∣ b := Int.gcd_dvd_right a b
theorem g_pos {a b : Int} (h : b ≠ 0) : 0 < g a b := by
  have h1 : 0 < Int.gcd a b := Int.gcd_pos_of_ne_zero_right a h
  unfold g
  (first | lia | omega)
structure Fq (a b : Int) : Prop where
  pos : 0 < b
  one : Int.gcd a b = 1
theorem div_cop {a b : Int} (h : b ≠ 0) : Int.gcd (a / g a b) (b / g a b) = 1 := by
  have hp : 0 < Int.gcd a b := Int.gcd_pos_of_ne_zero_right a h
  exact Int.gcd_ediv_gcd_ediv_gcd hp

theorem mul_g {a b : Int} : g a b * (a / g a b) = a := Int.mul_ediv_cancel' (g_dvd_left a b)
theorem mul_gr {a b : Int} : g a b * (b / g a b) = b := Int.mul_ediv_cancel' (g_dvd_right a b)
theorem low_ok {t b : Int} (hb : 0 < b) : Fq (t / g t b) (b / g t b) ∧ (t / g t b) * b = t * (b / g t b) := by
  have hg : 0 < g t b := g_pos (by (first | lia | omega))
  refine ⟨⟨?_, div_cop (by (first | lia | omega))⟩, ?_⟩
  · exact Int.ediv_pos_of_pos_of_dvd hb (Int.le_of_lt hg) (g_dvd_right t b)
  · have e1 := @mul_g t b
    have e2 := @mul_gr t b
    generalize t / g t b = x at *
    generalize b / g t b = y at *
    calc x * b = x * (g t b * y) := by rw [e2]
      _ = (g t b * x) * y := by rw [← Int.mul_assoc, Int.mul_comm x]
      _ = t * y := by rw [e1]
noncomputable def plsT (a b c d : Int) : Int := a * (d / g b d) + c * (b / g b d)
noncomputable def plsN (a b c d : Int) : Int := plsT a b c d / g (plsT a b c d) (g b d)
noncomputable def plsD (a b c d : Int) : Int := (b / g b d) * (d / g (plsT a b c d) (g b d))
noncomputable def tmsN (a b c d : Int) : Int := (a / g a d) * (c / g c b)
noncomputable def tmsD (a b c d : Int) : Int := (b / g c b) * (d / g a d)
theorem g_step {a b : Int} (ha : 0 ≤ a) (hb : 0 < b) : g b (a % b) = g a b := by
  unfold g
  rw [Int.gcd_comm a b]
  exact congrArg _ (by rw [Int.emod_def, Int.sub_eq_add_neg, ← Int.mul_neg, Int.gcd_add_mul_left_right])
theorem g_end {a : Int} (ha : 0 ≤ a) : g a 0 = a := by
  unfold g
  rw [Int.gcd_zero_right]
  (first | lia | omega)
theorem g_abs (a b : Int) : g (if a < 0 then -a else a) (if b < 0 then -b else b) = g a b := by
  unfold g
  split <;> split <;> simp
end Ra

namespace Ra
noncomputable def sh (t b : Int) : Int := if b < 0 then -(g t b) else g t b
noncomputable def frN (t b : Int) : Int := t.fdiv (sh t b)
noncomputable def frD (t b : Int) : Int := b.fdiv (sh t b)
noncomputable def sgn (a : Int) : Int := if a > 0 then 1 else if a < 0 then -1 else 0
noncomputable def ab (a : Int) : Int := if a < 0 then -a else a
end Ra

namespace Rq
open Ra
theorem den_pos (q : Rat) : (0 : Int) < (q.den : Int) := by have := q.den_pos; (first | lia | omega)
theorem den_ne (q : Rat) : ((q.den : Int) : Rat) ≠ 0 := fun h => by
  have := den_pos q
  have h2 : (q.den : Int) = 0 := Rat.intCast_eq_zero_iff.mp h
  (first | lia | omega)
theorem fq (q : Rat) : Fq q.num q.den := ⟨den_pos q, q.reduced⟩
theorem q_eq (q : Rat) : (q.num : Rat) / ((q.den : Int) : Rat) = q := by
  rw [← Rat.divInt_eq_div]
  exact Rat.num_divInt_den q
theorem of_low {N D T M : Int} (f : Fq N D) (hM : M ≠ 0) (e : N * M = T * D) {q : Rat} (hq : q = (T : Rat) / (M : Rat)) : q.num = N ∧ (q.den : Int) = D := by
  have hD := f.pos
  have hd : D.toNat ≠ 0 := by (first | lia | omega)
  have ed : ((D.toNat : Nat) : Int) = D := by (first | lia | omega)
  have hr : N.natAbs.Coprime D.toNat := by
    have h := f.one
    have e2 : D.natAbs = D.toNat := by (first | lia | omega)
    rw [← e2]
    exact h
  have key : q = (⟨N, D.toNat, hd, hr⟩ : Rat) := by
    rw [hq, ← Rat.divInt_eq_div, Rat.mk_eq_divInt, ed]
    exact (Rat.divInt_eq_divInt_iff hM (by (first | lia | omega))).mpr e.symm
  rw [key]
  exact ⟨rfl, ed⟩
theorem num_zero {q : Rat} : q.num = 0 ↔ q = 0 := Rat.num_eq_zero
theorem low_q {t b : Int} (hb : 0 < b) : t / g t b = ((t : Rat) / (b : Rat)).num ∧ b / g t b = (((t : Rat) / (b : Rat)).den : Int) := by
  obtain ⟨f, e⟩ := low_ok (t := t) hb
  obtain ⟨a, b⟩ := of_low f (by (first | lia | omega)) e rfl
  exact ⟨a.symm, b.symm⟩
noncomputable def Bq (n : Nat) (q : Rat) : Prop := Bt n q.num ∧ Bt n (q.den : Int)
theorem Bq.mono {m n : Nat} {q : Rat} (h : Bq m q) (l : m ≤ n) : Bq n q := ⟨h.1.mono l, h.2.mono l⟩
theorem dvd_of {T M : Int} {q : Rat} (hM : M ≠ 0) (hq : q = (T : Rat) / (M : Rat)) : q.num ∣ T ∧ (q.den : Int) ∣ M := by
  have e : q.num * M = T * q.den := by
    have e1 : (q.num : Rat) / ((q.den : Int) : Rat) = (T : Rat) / (M : Rat) := (q_eq q).trans hq
    rw [← Rat.divInt_eq_div, ← Rat.divInt_eq_div] at e1
    exact (Rat.divInt_eq_divInt_iff (by have := den_pos q; (first | lia | omega)) hM).mp e1
  have c := (fq q).one
  constructor
  · have d : q.num ∣ T * q.den := ⟨M, e.symm⟩
    have d' := Int.natAbs_dvd_natAbs.mpr d
    rw [Int.natAbs_mul] at d'
    exact Int.natAbs_dvd_natAbs.mp (Nat.Coprime.dvd_of_dvd_mul_right c d')
  · have d : (q.den : Int) ∣ q.num * M := ⟨T, by rw [e, Int.mul_comm]⟩
    have d' := Int.natAbs_dvd_natAbs.mpr d
    rw [Int.natAbs_mul] at d'
    exact Int.natAbs_dvd_natAbs.mp (Nat.Coprime.dvd_of_dvd_mul_left (Nat.Coprime.symm c) d')
theorem bq_of {n : Nat} {T M : Int} {q : Rat} (hM : M ≠ 0) (hq : q = (T : Rat) / (M : Rat)) (bT : Bt n T) (bM : Bt n M) : Bq n q := by
  obtain ⟨d1, d2⟩ := dvd_of hM hq
  refine ⟨?_, bM.of_le (Nat.le_of_dvd (by (first | lia | omega)) (Int.natAbs_dvd_natAbs.mpr d2))⟩
  by_cases h : T = 0
  · subst h
    have : q = 0 := by rw [hq]; simp [Rat.div_def]
    rw [this]
    exact Bt.zero
  · exact bT.of_le (Nat.le_of_dvd (by (first | lia | omega)) (Int.natAbs_dvd_natAbs.mpr d1))
theorem bt_add {n : Nat} {x y : Int} (h : Bt n x) (k : Bt n y) : Bt (n + 1) (x + y) := by
  unfold Bt at *
  have a := Int.natAbs_add_le x y
  rw [Nat.pow_succ]
  (first | lia | omega)
theorem Bq.int {n : Nat} {i : Int} (h : Bt n i) (hn : 0 < n) : Bq n (i : Rat) := ⟨h, Bt.mono (m := 1) (by show (1 : Nat) < 2 ^ 1; decide) hn⟩
end Rq

namespace Po
open Ra Rq
noncomputable def strip : List Rat → List Rat
  | [] => []
  | q :: qs => match strip qs with
    | [] => if q = 0 then [] else [q]
    | r :: rs => q :: r :: rs
theorem strip_snoc0 (xs : List Rat) : strip (xs ++ [0]) = strip xs := by
  induction xs with
  | nil => rfl
  | cons x xs ih =>
    rw [List.cons_append, strip, ih, strip]
theorem strip_snoc {q : Rat} (h : q ≠ 0) (xs : List Rat) : strip (xs ++ [q]) = xs ++ [q] := by
  induction xs with
  | nil => simp [strip, h]
  | cons x xs ih =>
    rw [List.cons_append, strip, ih]
    cases xs <;> rfl
theorem take_snoc {α : Type} {xs : List α} {n : Nat} {x : α} (h : xs[n]? = some x) : xs.take (n + 1) = xs.take n ++ [x] := by
  rw [List.take_succ, h]
  rfl
theorem strip_length (xs : List Rat) : (strip xs).length ≤ xs.length := by
  induction xs with
  | nil => exact Nat.le_refl _
  | cons x xs ih =>
    rw [strip]
    cases h : strip xs with
    | nil =>
      rw [h] at ih
      by_cases hx : x = 0 <;> simp [hx]
    | cons r rs =>
      rw [h] at ih
      simp only [List.length_cons] at *
      (first | lia | omega)
theorem strip_take (xs : List Rat) : strip xs = xs.take (strip xs).length := by
  induction xs with
  | nil => rfl
  | cons x xs ih =>
    rw [strip]
    cases h : strip xs with
    | nil => by_cases hx : x = 0 <;> simp [hx]
    | cons r rs =>
      rw [h] at ih
      simp only [List.length_cons, List.take_succ_cons]
      rw [List.length_cons] at ih
      rw [← ih]
theorem strip_mem {xs : List Rat} {q : Rat} (h : q ∈ strip xs) : q ∈ xs := by
  rw [strip_take] at h
  exact List.mem_of_mem_take h
theorem strip_strip (xs : List Rat) : strip (strip xs) = strip xs := by
  induction xs with
  | nil => rfl
  | cons x xs ih =>
    rw [strip]
    cases h : strip xs with
    | nil => by_cases hx : x = 0 <;> simp [hx, strip]
    | cons r rs =>
      rw [h] at ih
      show strip (x :: r :: rs) = _
      rw [strip, ih]
theorem getD_strip (xs : List Rat) (i : Nat) : (strip xs).getD i 0 = xs.getD i 0 := by
  induction xs generalizing i with
  | nil => rfl
  | cons x xs ih =>
    rw [strip]
    cases h : strip xs with
    | nil =>
      rw [h] at ih
      cases i with
      | zero => by_cases hx : x = 0 <;> simp [hx]
      | succ i =>
        have e := ih i
        by_cases hx : x = 0 <;> simp [hx] at * <;> exact e
    | cons r rs =>
      rw [h] at ih
      cases i with
      | zero => rfl
      | succ i => simpa using ih i
noncomputable def ev : List Rat → Rat → Rat
  | [], _ => 0
  | q :: qs, x => q + x * ev qs x
noncomputable def padd (ps qs : List Rat) : List Rat := strip ((List.range (max ps.length qs.length)).map fun k => ps.getD k 0 + qs.getD k 0)
noncomputable def psub (ps qs : List Rat) : List Rat := strip ((List.range (max ps.length qs.length)).map fun k => ps.getD k 0 - qs.getD k 0)
noncomputable def pscale (qs : List Rat) (x : Rat) : List Rat := strip (qs.map (· * x))
noncomputable def pslope (qs : List Rat) : List Rat := (List.range (qs.length - 1)).map fun k => qs.getD (k + 1) 0 * (((1 : Int) + (k : Int) : Int) : Rat)
noncomputable def sm (f : Nat → Rat) (n : Nat) : Rat := (List.range n).foldl (fun acc i => acc + f i) 0
theorem sm_zero (f : Nat → Rat) : sm f 0 = 0 := rfl
theorem sm_succ (f : Nat → Rat) (n : Nat) : sm f (n + 1) = sm f n + f n := by
  unfold sm
  rw [List.range_succ, List.foldl_append]
  rfl
theorem sm_congr {f h : Nat → Rat} {n : Nat} (e : ∀ i, i < n → f i = h i) : sm f n = sm h n := by
  induction n with
  | zero => rfl
  | succ n ih => rw [sm_succ, sm_succ, ih fun i hi => e i (by (first | lia | omega)), e n (by (first | lia | omega))]
theorem sm_first (f : Nat → Rat) (n : Nat) : sm f (n + 1) = f 0 + sm (fun i => f (i + 1)) n := by
  induction n with
  | zero => rw [sm_succ, sm_zero, sm_zero]; grind
  | succ n ih => rw [sm_succ, ih, sm_succ]; grind
theorem sm_add (f h : Nat → Rat) (n : Nat) : sm (fun i => f i + h i) n = sm f n + sm h n := by
  induction n with
  | zero => rw [sm_zero, sm_zero, sm_zero]; grind
  | succ n ih => rw [sm_succ, sm_succ, sm_succ, ih]; grind
theorem sm_mul (c : Rat) (f : Nat → Rat) (n : Nat) : sm (fun i => c * f i) n = c * sm f n := by
  induction n with
  | zero => rw [sm_zero, sm_zero]; grind
  | succ n ih => rw [sm_succ, sm_succ, ih]; grind
theorem sm_zeros {f : Nat → Rat} {n : Nat} (e : ∀ i, i < n → f i = 0) : sm f n = 0 := by
  induction n with
  | zero => rfl
  | succ n ih => rw [sm_succ, ih fun i hi => e i (by (first | lia | omega)), e n (by (first | lia | omega))]; grind
noncomputable def conv (ps qs : List Rat) (k : Nat) : Rat := sm (fun i => ps.getD i 0 * qs.getD (k - i) 0) (k + 1)
theorem getD_out {xs : List Rat} {i : Nat} (h : xs.length ≤ i) : xs.getD i 0 = 0 := by
  rw [List.getD_eq_getElem?_getD, List.getElem?_eq_none h]
  rfl
noncomputable def pmul (ps qs : List Rat) : List Rat := strip ((List.range (ps.length + qs.length)).map (conv ps qs))
theorem strip_zeros {xs : List Rat} (h : ∀ i, xs.getD i 0 = 0) : strip xs = [] := by
  induction xs with
  | nil => rfl
  | cons x xs ih =>
    rw [strip, ih fun i => by simpa using h (i + 1)]
    have : x = 0 := by simpa using h 0
    simp [this]
theorem strip_ext {xs ys : List Rat} (h : ∀ i, xs.getD i 0 = ys.getD i 0) : strip xs = strip ys := by
  induction xs generalizing ys with
  | nil => rw [strip_zeros fun i => (h i).symm]; rfl
  | cons x xs ih =>
    cases ys with
    | nil => rw [strip_zeros fun i => h i]; rfl
    | cons y ys =>
      have e0 : x = y := by simpa using h 0
      rw [strip, strip, ih fun i => by simpa using h (i + 1), e0]
theorem getD_range (f : Nat → Rat) (n i : Nat) : ((List.range n).map f).getD i 0 = if i < n then f i else 0 := by
  rw [List.getD_eq_getElem?_getD, List.getElem?_map]
  by_cases h : i < n
  · rw [List.getElem?_range h, if_pos h]
    rfl
  · rw [List.getElem?_eq_none (by rw [List.length_range]; (first | lia | omega)), if_neg h]
    rfl
noncomputable def Rep (n : Nat) (v : Rat) (T M : Int) : Prop := M ≠ 0 ∧ v = (T : Rat) / (M : Rat) ∧ Bt n T ∧ Bt n M
theorem Rep.step {n b : Nat} {v x q : Rat} {T M : Int} (h : Rep n v T M) (bx : Bq b x) (bq : Bq b q) : Rep (n + b + b + 1) (q + x * v) (T * x.num * q.den + q.num * M * x.den) (M * x.den * q.den) := by
  obtain ⟨hM, hv, bT, bM⟩ := h
  have d1 := den_pos x
  have d2 := den_pos q
  refine ⟨Int.mul_ne_zero (Int.mul_ne_zero hM (by (first | lia | omega))) (by (first | lia | omega)), ?_, bt_add (((bT.mul bx.1).mul bq.2).mono (by (first | lia | omega))) (((bq.1.mul bM).mul bx.2).mono (by (first | lia | omega))), ((bM.mul bx.2).mul bq.2).mono (by (first | lia | omega))⟩
  have e1 := q_eq x
  have e2 := q_eq q
  have n1 := den_ne x
  have n2 := den_ne q
  have n3 : (M : Rat) ≠ 0 := fun z => hM (Rat.intCast_eq_zero_iff.mp z)
  simp only [Rat.intCast_add, Rat.intCast_mul]
  generalize (x.num : Rat) = a at *
  generalize ((x.den : Int) : Rat) = b at *
  generalize (q.num : Rat) = c at *
  generalize ((q.den : Int) : Rat) = d at *
  generalize (T : Rat) = T' at *
  generalize (M : Rat) = M' at *
  subst e1 e2 hv
  grind
theorem ev_snocs (qs : List Rat) (x : Rat) (i : Nat) (h : i < qs.length) : ev (qs.drop (qs.length - (i + 1))) x = qs.getD (qs.length - 1 - i) 0 + x * ev (qs.drop (qs.length - i)) x := by
  have hlt : qs.length - (i + 1) < qs.length := by (first | lia | omega)
  rw [List.drop_eq_getElem_cons hlt, ev]
  have e1 : qs.length - (i + 1) + 1 = qs.length - i := by (first | lia | omega)
  have e2 : qs.length - 1 - i = qs.length - (i + 1) := by (first | lia | omega)
  rw [e1, e2, List.getD_eq_getElem?_getD, List.getElem?_eq_getElem hlt]
  rfl
theorem Rep.zero {n : Nat} (h : 0 < n) : Rep n 0 0 1 := ⟨by decide, by simp [Rat.div_def], Bt.zero, Bt.mono (m := 1) (by show (1 : Nat) < 2 ^ 1; decide) h⟩
noncomputable def lsum (qs : List Rat) : Rat := qs.foldl (· + ·) 0
end Po

namespace Po
open Ra Rq
noncomputable def stp (gs ws : List Rat) (t h0 l0 : Rat) : Nat → Rat × Rat
  | 0 => (h0 + gs.getD 0 0 * l0, l0)
  | k + 1 => ((stp gs ws t h0 l0 k).1 + gs.getD (k + 1) 0 * ((stp gs ws t h0 l0 k).2 - t * ws.getD k 0 * (stp gs ws t h0 l0 k).1), (stp gs ws t h0 l0 k).2 - t * ws.getD k 0 * (stp gs ws t h0 l0 k).1)
noncomputable def walkQ (gs ws : List Rat) (t h0 l0 : Rat) : List (Rat × Rat) := (List.range gs.length).map (stp gs ws t h0 l0)
structure R3 (n : Nat) (h l : Rat) (th tl m : Int) : Prop where
  pos : 0 < m
  eh : h = (th : Rat) / (m : Rat)
  el : l = (tl : Rat) / (m : Rat)
  bh : Bt n th
  bl : Bt n tl
  bm : Bt n m
end Po

namespace Po
open Ra Rq
noncomputable def lst (xs : List Rat) : Rat := xs.getD (xs.length - 1) 0
noncomputable def rless (rs qs : List Rat) (f : Rat) : List Rat := rs.take (rs.length - qs.length) ++ (List.range (qs.length - 1)).map fun k => rs.getD (rs.length - qs.length + k) 0 - f * qs.getD k 0
noncomputable def dv (qs : List Rat) : Nat → List Rat → List Rat × List Rat
  | 0, rs => ([], rs)
  | s + 1, rs => if rs.length < qs.length then ([], rs) else ((dv qs s (rless rs qs (lst rs / lst qs))).1 ++ [lst rs / lst qs], (dv qs s (rless rs qs (lst rs / lst qs))).2)
noncomputable def Ov (n : Nat) (M : Int) (q : Rat) : Prop := ∃ T : Int, Bt n T ∧ q * (M : Rat) = (T : Rat)
end Po

namespace Po
open Ra Rq
theorem ev_strip (ps : List Rat) (t : Rat) : ev (strip ps) t = ev ps t := by
  induction ps with
  | nil => rfl
  | cons q qs ih =>
    rw [strip]
    cases h : strip qs with
    | nil =>
      rw [h] at ih
      have e0 : ev qs t = 0 := ih.symm
      by_cases hq : q = 0
      · simp only [hq, if_true, ev, e0]; grind
      · simp only [hq, if_false, ev, e0]
    | cons r rs =>
      rw [h] at ih
      show q + t * ev (r :: rs) t = q + t * ev qs t
      rw [ih]
theorem ev_sm (ps : List Rat) (t : Rat) (n : Nat) (h : ps.length ≤ n) : ev ps t = sm (fun i => ps.getD i 0 * t ^ i) n := by
  induction ps generalizing n with
  | nil => rw [sm_zeros fun i _ => by rw [getD_out (by simp)]; grind]; rfl
  | cons q qs ih =>
    obtain ⟨m, rfl⟩ : ∃ m, n = m + 1 := ⟨n - 1, by simp only [List.length_cons] at h; (first | lia | omega)⟩
    rw [sm_first, ev, ih m (by simp only [List.length_cons] at h; (first | lia | omega)), ← sm_mul]
    have e1 : (q :: qs).getD 0 0 * t ^ 0 = q := by rw [Rat.pow_zero, Rat.mul_one]; rfl
    rw [e1]
    congr 1
    refine sm_congr fun i _ => ?_
    have e2 : (q :: qs).getD (i + 1) 0 = qs.getD i 0 := by simp
    rw [e2, Rat.pow_succ]
    grind
theorem ev_range (f : Nat → Rat) (n : Nat) (t : Rat) : ev ((List.range n).map f) t = sm (fun i => f i * t ^ i) n := by
  rw [ev_sm _ t n (by simp)]
  exact sm_congr fun i hi => by rw [getD_range, if_pos hi]
theorem ev_neg (qs : List Rat) (t : Rat) (n : Nat) : sm (fun i => -(qs.getD i 0 * t ^ i)) n = -sm (fun i => qs.getD i 0 * t ^ i) n := by
  have h := sm_mul (-1) (fun i => qs.getD i 0 * t ^ i) n
  have e : sm (fun i => -1 * (qs.getD i 0 * t ^ i)) n = sm (fun i => -(qs.getD i 0 * t ^ i)) n := sm_congr fun i _ => by grind
  rw [← e, h]
  grind
theorem ev_psub (ps qs : List Rat) (t : Rat) : ev (psub ps qs) t = ev ps t - ev qs t := by
  unfold psub
  rw [ev_strip, ev_range, ev_sm ps t (max ps.length qs.length) (by (first | lia | omega)), ev_sm qs t (max ps.length qs.length) (by (first | lia | omega)), Rat.sub_eq_add_neg, ← ev_neg, ← sm_add]
  exact sm_congr fun i _ => by grind
theorem ev_map_mul (qs : List Rat) (x t : Rat) : ev (qs.map (· * x)) t = ev qs t * x := by
  induction qs with
  | nil => simp [ev, Rat.zero_mul]
  | cons q qs ih => rw [List.map_cons, ev, ih, ev]; grind
noncomputable def dif (c : Rat) : List Rat → List Rat
  | [] => []
  | q :: qs => c * q :: dif (2 * c + 1) qs
theorem dif_length (qs : List Rat) : ∀ c, (dif c qs).length = qs.length := by
  induction qs with
  | nil => intro c; rfl
  | cons q qs ih => intro c; rw [dif, List.length_cons, ih, List.length_cons]
theorem ev_dif (qs : List Rat) (t : Rat) : ∀ c, ev (dif c qs) t = (c + 1) * ev qs (2 * t) - ev qs t := by
  induction qs with
  | nil => intro c; simp only [dif, ev]; grind
  | cons q qs ih => intro c; rw [dif, ev, ih, ev, ev]; grind
theorem dif_zero (qs : List Rat) : ∀ c, 0 < c → (∀ i, (dif c qs).getD i 0 = 0) → ∀ i, qs.getD i 0 = 0 := by
  induction qs with
  | nil => intro c _ _ i; rfl
  | cons q qs ih =>
    intro c hc h i
    cases i with
    | zero =>
      have h0 : c * q = 0 := h 0
      have : q = 0 := by
        rcases Rat.mul_eq_zero.mp h0 with z | z
        · grind
        · exact z
      exact this
    | succ i =>
      have := ih (2 * c + 1) (by grind) (fun j => by simpa [dif] using h (j + 1)) i
      simpa using this
theorem outside (S : List Rat) : ∃ t, ∀ s ∈ S, s < t := by
  induction S with
  | nil => exact ⟨0, fun s h => absurd h (by simp)⟩
  | cons x S ih =>
    obtain ⟨t, h⟩ := ih
    by_cases hx : x < t
    · exact ⟨t, fun s hs => by rcases List.mem_cons.mp hs with rfl | hs; exact hx; exact h s hs⟩
    · refine ⟨x + 1, fun s hs => ?_⟩
      rcases List.mem_cons.mp hs with rfl | hs
      · grind
      · have := h s hs; grind
theorem ev_zeros {ps : List Rat} (h : ∀ i, ps.getD i 0 = 0) (t : Rat) : ev ps t = 0 := by
  rw [ev_sm ps t ps.length (Nat.le_refl _)]
  exact sm_zeros fun i _ => by rw [h i]; grind
theorem zero_of_ev : ∀ (n : Nat) (ps S : List Rat), ps.length ≤ n → (∀ t, t ∉ S → ev ps t = 0) → ∀ i, ps.getD i 0 = 0
  | 0, ps, S, hl, _ => fun i => getD_out (by (first | lia | omega))
  | n + 1, [], S, _, _ => fun i => rfl
  | n + 1, q :: qs, S, hl, h => by
    have hq : ∀ i, qs.getD i 0 = 0 := by
      refine dif_zero qs 1 (by decide) (zero_of_ev n (dif 1 qs) (0 :: (S ++ S.map (· / 2))) (by rw [dif_length]; simp only [List.length_cons] at hl; (first | lia | omega)) fun t ht => ?_)
      have h0 : t ≠ 0 := fun z => ht (by simp [z])
      have h1 : t ∉ S := fun z => ht (by simp [z])
      have h2 : 2 * t ∉ S := fun z => ht (by
        refine List.mem_cons_of_mem _ (List.mem_append_right _ (List.mem_map.mpr ⟨2 * t, z, ?_⟩))
        grind)
      have a1 := h t h1
      have a2 := h (2 * t) h2
      rw [ev] at a1 a2
      rw [ev_dif]
      have a3 : t * ((1 + 1) * ev qs (2 * t) - ev qs t) = 0 := by grind
      rcases Rat.mul_eq_zero.mp a3 with z | z
      · exact absurd z h0
      · exact z
    obtain ⟨t, ht⟩ := outside S
    have a := h t fun z => by have := ht t z; grind
    rw [ev, ev_zeros hq] at a
    intro i
    cases i with
    | zero => show q = 0; grind
    | succ i => simpa using hq i
theorem getD_psub (ps qs : List Rat) (i : Nat) : (psub ps qs).getD i 0 = ps.getD i 0 - qs.getD i 0 := by
  unfold psub
  rw [getD_strip, getD_range]
  by_cases h : i < max ps.length qs.length
  · rw [if_pos h]
  · rw [if_neg h, getD_out (xs := ps) (by (first | lia | omega)), getD_out (xs := qs) (by (first | lia | omega))]; grind
theorem ev_inj {ps qs : List Rat} (h : ∀ t, ev ps t = ev qs t) (i : Nat) : ps.getD i 0 = qs.getD i 0 := by
  have := zero_of_ev _ (psub ps qs) [] (Nat.le_refl _) (fun t _ => by rw [ev_psub, h t]; grind) i
  rw [getD_psub] at this
  grind
noncomputable def plean (l h : List Rat) (w : Rat) : List Rat := psub l (strip (0 :: pscale h w))
noncomputable def pst (gs ws : List Rat) (h0 l0 : List Rat) : Nat → List Rat × List Rat
  | 0 => (padd h0 (pscale l0 (gs.getD 0 0)), l0)
  | k + 1 => (padd (pst gs ws h0 l0 k).1 (pscale (plean (pst gs ws h0 l0 k).2 (pst gs ws h0 l0 k).1 (ws.getD k 0)) (gs.getD (k + 1) 0)), plean (pst gs ws h0 l0 k).2 (pst gs ws h0 l0 k).1 (ws.getD k 0))
structure O2 (n : Nat) (h l : List Rat) (M : Int) : Prop where
  ne : M ≠ 0
  bm : Bt n M
  oh : ∀ q ∈ h, Ov n M q
  ol : ∀ q ∈ l, Ov n M q
end Po

namespace Po
open Ra Rq
end Po
namespace Po
open Ra Rq
theorem Rep.mono {n m : Nat} {v : Rat} {T M : Int} (h : Rep n v T M) (l : n ≤ m) : Rep m v T M := ⟨h.1, h.2.1, h.2.2.1.mono l, h.2.2.2.mono l⟩
theorem cast_ne {M : Int} (h : M ≠ 0) : (M : Rat) ≠ 0 := fun z => h (Rat.intCast_eq_zero_iff.mp z)
theorem Rep.cross {n m : Nat} {u v : Rat} {T M T' M' d : Int} (h : Rep n u T M) (h' : Rep m v T' M') (e : u - v = (d : Rat)) : T * M' - T' * M = d * M * M' := by
  have n1 := cast_ne h.1
  have n2 := cast_ne h'.1
  have e1 := h.2.1
  have e2 := h'.2.1
  apply Rat.intCast_inj.mp
  simp only [Rat.intCast_sub, Rat.intCast_mul]
  rw [← e]
  generalize (T : Rat) = a at *
  generalize (M : Rat) = b at *
  generalize (T' : Rat) = c at *
  generalize (M' : Rat) = d at *
  subst e1 e2
  grind
theorem Rep.same {n m : Nat} {u v : Rat} {T M T' M' : Int} (h : Rep n u T M) (h' : Rep m v T' M') (e : u = v) : T * M' = T' * M := by
  have := h.cross h' (d := 0) (by rw [e]; exact Rat.sub_self)
  simp only [Int.zero_mul] at this
  (first | lia | omega)
end Po
namespace Po
open Ra Rq
theorem strip_last : ∀ {qs : List Rat}, strip qs = qs → ∀ {q : Rat}, qs.getLast? = some q → q ≠ 0
  | [], _, q, h => by simp at h
  | [x], h, q, e => by
    simp at e
    subst e
    intro z
    subst z
    simp [strip] at h
  | x :: y :: qs, h, q, e => by
    have h' : strip (y :: qs) = y :: qs := by
      rw [strip] at h
      cases hs : strip (y :: qs) with
      | nil => rw [hs] at h; by_cases hx : x = 0 <;> simp [hx] at h
      | cons r rs =>
        rw [hs] at h
        simp only [List.cons.injEq] at h
        obtain ⟨_, a, b⟩ := h
        rw [a, b]
    exact strip_last h' (by rw [List.getLast?_cons_cons] at e; exact e)
end Po
namespace Po
open Ra Rq
noncomputable def lprod (qs : List Rat) : Rat := qs.foldl (· * ·) 1
noncomputable def gsum (gs : List Rat) (k : Nat) : Rat := sm (fun i => gs.getD i 0) (k + 1)
noncomputable def sg (n : Nat) : Rat := ((1 - 2 * ((n : Int) % 2) : Int) : Rat)
end Po

namespace L3
open PySem PySem.Spec PyProof.Rows L2 Ra

theorem log2_of {j : Int} (h : Bt 9000 j) : j.natAbs.log2 < 9000 := by
  by_cases h0 : j.natAbs = 0
  · rw [h0]; decide
  · exact (Nat.log2_lt h0).mpr h
theorem mul_of {i j : Int} {m n : Nat} (h : Bt m i) (k : Bt n j) (l : m + n ≤ 134217728) : IntMulOk i j :=
  PySem.IntMulOk.of_le (PySem.intBits_le_iff.mpr h) (PySem.intBits_le_iff.mpr k) l
section
variable {X : Cx} {a b c : Expr} {ta tb tc : TE} {pos : Pos}
theorem op_fdP : OpR X (binaryOp .FloorDiv) (rI (fun _ j => 0 < j ∧ Bt 9000 j) fun i j => .int (i / j)) := opI fun i j _ _ _ _ _ hc q => by
  have h1 : (0 : Int) < j := hc.1
  exact floordiv_int (by (first | lia | omega)) (by rw [Int.fdiv_eq_ediv_of_nonneg i (by (first | lia | omega))]; exact q) (.inl (PyProof.noPylong_of_log2 (log2_of hc.2)))
theorem op_mulB : OpR X (binaryOp .Mult) (rI IntMulOk fun i j => .int (i * j)) := opI fun _ _ _ _ _ _ _ hc q => mul_int q hc
theorem call_isi : CallR X (.builtin "isinstance") (fun xs H Q => ∃ x T t b, xs = [x, .ty T] ∧ TyOf X.K H x t ∧ PySem.W.kitOne X.K t (.type T) = some b ∧ Q (.bl b) H) := by
  intro pins s σ H xs us Q I r h
  obtain ⟨x, T, t, b, rfl, ty, e, q⟩ := h
  obtain ⟨u, w', rfl, rx, rt⟩ := vals2 r
  cases rt
  exact isinst_ok I rx ty e fun tk => ⟨.bl b, H, I.tok _, rfl, q⟩
end
theorem kit_int_int (K : PySem.W.Frag) : PySem.W.kitOne K (.type "int") (.type "int") = some true := rfl
theorem kit_int_bool (K : PySem.W.Frag) : PySem.W.kitOne K (.type "int") (.type "bool") = some false := by with_unfolding_all rfl
theorem kit_tup_tup (K : PySem.W.Frag) : PySem.W.kitOne K (.type "tuple") (.type "tuple") = some true := rfl

section
variable {X : Cx} {K : PySem.W.Frag}
end
theorem iteD {c A B : Prop} [Decidable c] (h : c) (k : A) : if decide c = true then A else B := by
  rw [decide_eq_true h]
  exact iteT k
theorem iteND {c A B : Prop} [Decidable c] (h : ¬ c) (k : B) : if decide c = true then A else B := by
  rw [decide_eq_false h]
  exact iteF k
theorem iteSS {c A B : Prop} [Decidable c] (hc : ¬ c) (h : A) : if (!decide c) = true then A else B := by
  rw [decide_eq_false hc]
  exact iteT h
structure Cal (P : Program) (w : World) (K : PySem.W.Frag) (mg : Str → Option Value) (base : Heap) (x : Str) (k : Nat) (ps : List Str) (sp : Sp) : Prop where
  ex : ∃ f fd, FnOk P w K mg base CX0 k f fd ps sp ∧ Binds K fd ps [] ∧ PySem.W.keepIn K (.ref f) = true ∧ mg x = some (.ref f)
theorem pe_cl {X : Cx} {x : Str} {k j : Nat} {ps : List Str} {sp : Sp} {e : Expr} {es : List Expr} {t : TA} {p pos : Pos} (C : Cal X.prog X.w X.K X.mg X.base x k ps sp) (hr : Room j X.A) (ha : PA X (e :: es) t) (hkj : k ≤ j := by decide) (hg : Gl X x := by rfl)
    (hdb : (x == ("__debug__" : Str)) = false := by decide) (he : starEach (e :: es) X.env = (false, eval e X.env) :: starEach es X.env := by rfl) (hpl : (backTo pos (starEach es X.env)).any (·.1) = false := by rfl) :
    PE X (.Call (.Name x p) (e :: es) [] pos) (tCall sp [] E0 t) := by
  obtain ⟨f, fd, F, b, kp, m⟩ := C.ex
  exact pe_call F (hr.mono hkj) hg m kp b .nil pass0 ha hdb he hpl

theorem same_upd {H : Hp} {p : Addr} (h : H p = none) (o : HO) : Same H (upd H p o) := fun b u q => by rw [upd_ne (ne_of_none q h)]; exact q
noncomputable def Pr (H : Hp) (p : Addr) (x y : Int) : Prop := H p = some (.tup [.int x, .int y])
theorem Pr.sq {K : PySem.W.Frag} {H : Hp} {p : Addr} {x y : Int} (h : Pr H p x y) : SqT K H p [.int x, .int y] := SqT.of h
theorem Pr.new {H : Hp} {p : Addr} {x y : Int} : Pr (upd H p (.tup [.int x, .int y])) p x y := upd_same

noncomputable def cellA (ns : List Int) (k : Nat) : Int := ns.getD k (2 * (k : Int) + 1)
noncomputable def mixed (c k : Int) : Int := if c % 2 = 0 ∧ 10 ^ 18 < c then c / 2 else ((c / 2) % 10 ^ 60 + k * k) * 6364136223846793013 + (k + 1) * 1442695040888963407
noncomputable def signed (n : Int) : Int := if n % 2 = 0 then n / 2 else -1 - n / 2
end L3

namespace L3
open PySem PySem.Spec PyProof.Rows L2 Ra
noncomputable def clo (sc : Scope) (env : Env) : List (Str × Addr) := ((sc.names.filter fun y => y.2 == .free).map fun y => (y.1, (env.cells.lookup y.1).getD 0)).reverse
theorem clo_in {sc : Scope} {env : Env} {y : Str} {c : Addr} (h : (clo sc env).lookup y = some c) : (y, NameKind.free) ∈ sc.names ∧ c = (env.cells.lookup y).getD 0 := by
  have m : (y, c) ∈ clo sc env := PySem.mem_of_lookup h
  unfold clo at m
  rw [List.mem_reverse, List.mem_map] at m
  obtain ⟨⟨n, k⟩, hm, e⟩ := m
  rw [List.mem_filter] at hm
  have hk : k = .free := by simpa using hm.2
  subst hk
  cases e
  exact ⟨hm.1, rfl⟩
theorem lookup_some_of_mem {α : Type} {l : List (Str × α)} {y : Str} {c : α} (h : (y, c) ∈ l) : ∃ c', l.lookup y = some c' := by
  induction l with
  | nil => cases h
  | cons p r ih =>
    obtain ⟨n, v⟩ := p
    by_cases e : y = n
    · subst e
      exact ⟨v, by simp⟩
    · have hb : (y == n) = false := by simpa using e
      rw [List.lookup_cons, hb]
      rcases List.mem_cons.mp h with z | z
      · cases z
        exact absurd rfl e
      · exact ih z
theorem clo_has {sc : Scope} {env : Env} {y : Str} (h : (y, NameKind.free) ∈ sc.names) : ∃ c, (clo sc env).lookup y = some c := by
  refine lookup_some_of_mem (c := (env.cells.lookup y).getD 0) ?_
  unfold clo
  rw [List.mem_reverse, List.mem_map]
  exact ⟨(y, .free), List.mem_filter.mpr ⟨h, by simp⟩, rfl⟩
theorem closure_aux {env : Env} : ∀ (ns : List (Str × NameKind)) (cs : List (Str × Addr)), (∀ y ∈ ns, y.2 = .free → ∃ c, env.cells.lookup y.1 = some c) →
    (forIn ns cs fun x r => (match x with | (name, kind) => if kind == .free then do let c ← cellOf env name; pure (ForInStep.yield ((name, c) :: r)) else pure (ForInStep.yield r) : Sem (ForInStep (List (Str × Addr))))) =
      pure (((ns.filter fun y => y.2 == .free).map fun y => (y.1, (env.cells.lookup y.1).getD 0)).reverse ++ cs)
  | [], cs, _ => rfl
  | (n, k) :: r, cs, h => by
    have hr : ∀ y ∈ r, y.2 = .free → ∃ c, env.cells.lookup y.1 = some c := fun y hy => h y (List.mem_cons_of_mem _ hy)
    rw [List.forIn_cons]
    by_cases hk : k = .free
    · subst hk
      obtain ⟨c, hc⟩ := h (n, .free) List.mem_cons_self rfl
      have e : cellOf env n = pure c := by unfold cellOf; rw [hc]
      have e2 : ((n, NameKind.free) :: r).filter (fun y => y.2 == .free) = (n, .free) :: r.filter fun y => y.2 == .free := by simp
      simp only [beq_self_eq_true, if_true, e, pure_bind]
      rw [closure_aux r _ hr, e2]
      simp [hc]
    · have hb : (k == NameKind.free) = false := by simpa using hk
      have e2 : ((n, k) :: r).filter (fun y => y.2 == .free) = r.filter fun y => y.2 == .free := by simp [hk]
      simp only [hb, Bool.false_eq_true, if_false, pure_bind]
      rw [closure_aux r _ hr, e2]
theorem closure_of {sc : Scope} {env : Env} (h : ∀ y ∈ sc.names, y.2 = .free → ∃ c, env.cells.lookup y.1 = some c) : closureFor sc env = pure (clo sc env) := by
  have q := closure_aux sc.names [] h
  rw [List.append_nil] at q
  unfold closureFor clo
  simp only [pure_bind, bind_pure]
  exact q
theorem relabel_lookup {sc : Scope} {env : Env} {y : Str} {k : NameKind} (h : sc.names.lookup y = some k) :
    (relabel sc env).names.lookup y = some (if (k == .free && env.scope.kind == .function && env.kindOf y == some .cell) then .cell else k) := by
  unfold relabel
  show (sc.names.map _).lookup y = _
  generalize sc.names = ns at h
  induction ns with
  | nil => cases h
  | cons p r ih =>
    obtain ⟨n, v⟩ := p
    rw [List.map_cons]
    show List.lookup y ((if (v == .free && env.scope.kind == .function && env.kindOf n == some .cell) = true then (n, NameKind.cell) else (n, v)) :: r.map _) = _
    by_cases e : y = n
    · subst e
      have ev : v = k := by simpa using h
      subst ev
      by_cases c : (v == .free && env.scope.kind == .function && env.kindOf y == some .cell) = true
      · rw [if_pos c, if_pos c]
        simp
      · rw [if_neg c, if_neg c]
        simp
    · have hb : (y == n) = false := by simpa using e
      have h' : r.lookup y = some k := by
        rw [List.lookup_cons, hb] at h
        exact h
      by_cases c : (v == .free && env.scope.kind == .function && env.kindOf n == some .cell) = true
      · rw [if_pos c]
        simp only [List.lookup_cons, hb]
        exact ih h'
      · rw [if_neg c]
        simp only [List.lookup_cons, hb]
        exact ih h'
theorem relabel_none {sc : Scope} {env : Env} {y : Str} (h : sc.names.lookup y = none) : (relabel sc env).names.lookup y = none := by
  unfold relabel
  show (sc.names.map _).lookup y = _
  generalize sc.names = ns at h
  induction ns with
  | nil => rfl
  | cons p r ih =>
    obtain ⟨n, v⟩ := p
    rw [List.map_cons]
    show List.lookup y ((if (v == .free && env.scope.kind == .function && env.kindOf n == some .cell) = true then (n, NameKind.cell) else (n, v)) :: r.map _) = _
    by_cases e : y = n
    · subst e
      simp at h
    · have hb : (y == n) = false := by simpa using e
      have h' : r.lookup y = none := by
        rw [List.lookup_cons, hb] at h
        exact h
      by_cases c : (v == .free && env.scope.kind == .function && env.kindOf n == some .cell) = true
      · rw [if_pos c]
        simp only [List.lookup_cons, hb]
        exact ih h'
      · rw [if_neg c]
        simp only [List.lookup_cons, hb]
        exact ih h'
structure CompOk (fsc csc : Scope) (x : Str) (js : List Nat) (N N' : List Str) : Prop where
  eqN : N' = x :: js.map fun j => N.getD j x
  nd : N'.Nodup
  fr : ∀ y ∈ csc.names, y.2 = .free → fsc.names.lookup y.1 = some .cell
  cell : ∀ y ∈ csc.names, y.2 ≠ .cell
  kind : csc.kind = .function
  nm : ∀ y ∈ csc.names, y.2 = .local → csc.names.lookup y.1 = some .local
  xl : csc.names.lookup x = some .local
  js : ∀ j ∈ js, j < N.length ∧ csc.names.lookup (N.getD j x) = some .free
noncomputable def blk (X : Cx) (csc : Scope) (N' : List Str) (s₀ : Shared) (H₀ : Hp) (C : Addr) (ex : List Addr) : Cx :=
  { X with N := N', s₀ := s₀, H₀ := H₀, env := compEnvC csc (clo csc X.env) C X.env, outer := X.stack, stack := X.stack, ex := ex, fn := fun _ => false, pn := [], xe := fun _ _ => False }
noncomputable def CompAt (J : It) (te : Shared → Hp → Addr → List Addr → TE) (js : List Nat) (σ : L2.St) (Q : VK) (H1 : Hp) : Prop := ∀ D, H1 D = none → ∃ W : Nat → Nat → List V → Hp → Prop, (∃ m, W 0 m [] (upd H1 D (.lst []))) ∧
  ∀ i m ys H, W i m ys H → H D = some (.lst ys) ∧ ((J.stop i H ∧ Q (.ref D) H) ∨ (J.go i H ∧ ∀ x H', J.yld i H x H' → ∀ s₀ H₀ C ex, te s₀ H₀ C ex (some x :: js.map fun j => (σ[j]?).join) H' fun y H2 =>
    H2 D = some (.lst ys) ∧ ys.length < sizeLine ∧ ∃ m', m' < m ∧ W (i + 1) m' (ys ++ [y]) (upd H2 D (.lst (ys ++ [y])))))
noncomputable def tComp (wi : TI) (te : Shared → Hp → Addr → List Addr → TE) (js : List Nat) : TE := fun σ H Q => wi σ H fun J H1 => CompAt J te js σ Q H1
theorem inv_but {X : Cx} {pins : List (Addr × Obj)} {σ : L2.St} {H : Hp} {s : Shared} {C : Addr} {h7 : Heap} (I : Inv X pins σ H s) (f : FpOk X pins H C) (sb : Heap.SameBut C s.heap h7) : Inv X pins σ H { s with heap := h7 } := by
  obtain ⟨g0, g1, g2, g3, g4, g5⟩ := f
  have hne : ∀ {b : Addr}, b ∉ [C] → b ≠ C := fun h z => h (by rw [z]; exact List.mem_cons_self)
  refine I.call' (ch := [C]) (H' := H) rfl ⟨fun b o e _ _ hx => (sb.2 b (hne hx)).trans e, fun b o e _ _ hx => ⟨o.slots, (sb.2 b (hne hx)).trans e⟩, fun _ _ _ n _ => n, fun b o e hx => ⟨o, (sb.2 b (hne hx)).trans e⟩, fun _ _ q => q, fun _ _ _ q => q, fun _ ps q => ⟨#[], by rw [Array.append_empty]; exact q⟩⟩ ?_ I.bare fun b hb => ?_
  · intro b ob e
    refine (I.hok b ob e).stay (fun c w' hcc q => (sb.2 c ?_).trans q) (fun _ q => q) fun _ _ q => q
    rintro rfl
    rcases hcc with rfl | hcc
    · rw [g0] at e; cases e
    · rw [g0] at hcc; cases hcc
  · have e : b = C := by simpa using hb
    subst e
    exact ⟨g3, g1, g4, g5⟩
theorem comp_core {X : Cx} {elt iter : Expr} {x : Str} {px pos pos' : Pos} {csc : Scope} {wi : TI} {te : Shared → Hp → Addr → List Addr → TE} (js : List Nat) {N' : List Str} {fsc : Scope} {N : List Str} (ok : CompOk fsc csc x js N N') (hi : PI X (.Name x px) iter wi)
    (he : ∀ s₀ H₀ C ex, PE (blk X csc N' s₀ H₀ C ex) elt (te s₀ H₀ C ex)) (hc : X.calm = true) (hsc : X.env.scope = fsc) (hXN : X.N = N) (hs : ∀ x, foldedSetIterable iter X.env x = pure x)
    (use : Option (Value → Sem Unit)) (R : Value → Shared → Prop) {pins : List (Addr × Obj)} {s : Shared} {σ : L2.St} {H : Hp} {Q : VK} (I : Inv X pins σ H s) (h : tComp wi te js σ H Q)
    (hfin : ∀ (D C : Addr) (s6 : Shared) (H5 : Hp) (m6 : Str → Option Value) (r : Flow), Inv X pins σ H5 s6 → FpOk X pins H5 C → s6.heap.Ns C m6 → Q (.ref D) H5 → compPost (model X.prog X.w) X.A X.xe use R (.ref D) C (.ok r) s6) :
    wpAny (model X.prog X.w) X.A (comprehension (.ListComp elt [⟨.Name x px, iter, [], 0⟩] csc pos) csc X.env pos' (newList []) false (eval iter X.env) use) R X.xe s := by
  have hkX : X.env.scope.kind = .function := I.ok.kind
  have hfree : ∀ y ∈ csc.names, y.2 = .free → ∃ c, X.env.cells.lookup y.1 = some c := fun y hy hk => I.ok.has y.1 (.inl (by show X.env.scope.names.lookup y.1 = _; rw [hsc]; exact ok.fr y hy hk))
  have hcl : ∀ y c, (clo csc X.env).lookup y = some c → X.env.cells.lookup y = some c := fun y c e => by
    obtain ⟨m, e2⟩ := clo_in e
    obtain ⟨c', e3⟩ := hfree _ m rfl
    rw [e3] at e2
    rw [e3, e2]
    rfl
  refine wpAny_comprehension_free (use := use) rfl hs (closure_of hfree) ok.kind ok.nm ?_
  refine thn (hi pins s σ H _ I h) fun v s1 h1 => thn h1 fun itv s2 h2 => ?_
  obtain ⟨it, fp, tn, J, H2, e, I2, T, st2, f2, hw⟩ := h2
  subst e
  have hD : H2 s2.heap.objs.size = none := I2.hok.fresh (Nat.le_refl _)
  obtain ⟨W, ⟨m0, w0⟩, turn⟩ := hw _ hD
  refine wpAny_newObj_type ?_ (by show 0 ≤ sizeLine; decide)
  have I3 : Inv X pins σ (upd H2 s2.heap.objs.size (.lst [])) { s2 with heap := s2.heap.push { cls := .type "list", data := .seq ([] : List Value).toArray } } := I2.lnew (t' := s2.toks) .nil (by show 0 ≤ sizeLine; decide)
  generalize hs3 : ({ s2 with heap := s2.heap.push { cls := .type "list", data := .seq ([] : List Value).toArray } } : Shared) = s3 at I3 ⊢
  have hsz : s3.heap.objs.size = s2.heap.objs.size + 1 := by rw [← hs3, Heap.size_push]
  generalize hDe : s2.heap.objs.size = D at *
  have tn3 : tn 0 s3.heap := T.keep 0 s2.heap _ st2 fun b hb o e => by rw [← hs3]; exact Heap.get?_push_of_some _ e
  have fpD : ∀ b ∈ fp, b ≠ D := fun b hb z => by
    obtain ⟨o, e, _⟩ := T.obj 0 _ st2 b hb
    rw [z, ← hDe] at e
    exact absurd (Heap.lt_size e) (Nat.lt_irrefl _)
  have f3 : ∀ b ∈ fp, upd H2 D (.lst []) b = none := fun b hb => by rw [upd_ne (fpD b hb)]; exact (f2 b hb).1
  refine wpAny_newFunctionEnv ok.cell (by intro y hy; simp at hy) (fun h4 hns hsb => ?_) ok.kind
  generalize hCe : s3.heap.objs.size = C at *
  have ltC : ∀ b o, s3.heap.get? b = some o → b < C := fun b o e => by
    rw [← hCe]
    exact Heap.lt_size e
  have keep4 : ∀ b o, s3.heap.get? b = some o → h4.get? b = some o := fun b o e => by
    rw [hsb.2 b (Nat.ne_of_lt (ltC b o e))]
    exact Heap.get?_push_of_some _ e
  have Xok : (blk X csc N' s3 (upd H2 D (.lst [])) C fp).Ok := by
    refine ⟨I3.ok.mod, ?_, I3.ok.glob, I3.ok.blt, ?_, fun y z c h1 h2 => I3.ok.inj y z c (hcl y c h1) (hcl z c h2), fun y hy => ?_, fun y c h1 _ => ?_, I3.ok.hd, I3.ok.frames, .inl rfl, fun b hb => ?_, I3.bs, ?_, fun b o e hb => ?_, fun b hb hz => ?_, I3.stack, I3.stkFree⟩
    · exact ok.kind
    · exact Nat.le_of_eq hCe
    · have hy' : (relabel csc X.env).names.lookup y = some .cell ∨ (relabel csc X.env).names.lookup y = some .free := hy
      cases hk : csc.names.lookup y with
      | none =>
        rw [relabel_none hk] at hy'
        rcases hy' with z | z <;> cases z
      | some k =>
        have hm : (y, k) ∈ csc.names := PySem.mem_of_lookup hk
        by_cases hkf : k = .free
        · subst hkf
          exact clo_has hm
        · have hb : (k == NameKind.free) = false := by simpa using hkf
          rw [relabel_lookup hk] at hy'
          simp only [hb, Bool.false_and, Bool.false_eq_true, if_false] at hy'
          rcases hy' with z | z
          · exact absurd (Option.some.inj z) (ok.cell _ hm)
          · exact absurd (Option.some.inj z) hkf
    · exact absurd (show false = true from h1) Bool.false_ne_true
    · obtain ⟨g0, g1, g2, g3, g4, g5⟩ := f2 b hb
      refine ⟨fun z => ?_, fun y c e => g4 y c (hcl y c e)⟩
      obtain ⟨o, e, _⟩ := T.obj 0 _ tn3 b hb
      have z' : b = C := z
      have l := ltC b o e
      rw [z'] at l
      exact absurd l (Nat.lt_irrefl _)
    · exact Nat.le_trans I3.ok.bsz I3.sz
    · obtain ⟨g0, g1, g2, g3, g4, g5⟩ := f2 b hb
      rcases g3 with z | z
      · exact I3.ok.noex b o e z
      · exact absurd (Nat.lt_of_lt_of_le (Heap.lt_size e) (Nat.le_trans I3.ok.bsz z)) (Nat.lt_irrefl _)
    · obtain ⟨g0, g1, g2, g3, g4, g5⟩ := f2 b hb
      rcases List.mem_cons.mp (I3.stkSub b hz) with z | z
      · exact g1 z
      · exact g2 z
  have hfreeC : H2 C = none ∧ upd H2 D (.lst []) C = none := by
    have q : upd H2 D (.lst []) C = none := I3.hok.fresh (Nat.le_of_eq hCe)
    refine ⟨?_, q⟩
    rw [upd_ne (by rw [hsz]; exact Nat.succ_ne_self D)] at q
    exact q
  have I4 : Inv (blk X csc N' s3 (upd H2 D (.lst [])) C fp) [] (none :: js.map fun j => (σ[j]?).join) (upd H2 D (.lst [])) { s3 with heap := h4, toks := s3.toks + ([] : List (Str × Value)).length } := by
    refine ⟨Xok, rfl, I3.bare, Un.kept keep4, ⟨_, hns, fun i y v h1 h2 h3 => ?_⟩, fun y c e => ?_, hfreeC.2, fun y c e => I3.freeC y c (hcl y c e), fun p hp => absurd (show p ∈ ([] : List (Addr × Obj)) from hp) (by simp), I3.hok.kept keep4, ?_⟩
    · have h1' : (x :: js.map fun j => N.getD j x)[i]? = some y := by rw [← ok.eqN]; exact h1
      cases i with
      | zero => cases h2
      | succ i =>
        rw [List.getElem?_cons_succ, List.getElem?_map] at h1' h2
        cases ej : js[i]? with
        | none => rw [ej] at h2; cases h2
        | some j =>
          rw [ej] at h1' h2
          obtain ⟨jl, jf⟩ := ok.js j (List.mem_of_getElem? ej)
          have ey : N.getD j x = y := Option.some.inj h1'
          have ev : (σ[j]?).join = some v := Option.some.inj h2
          have ev' : σ[j]? = some (some v) := by
            cases q : σ[j]? with
            | none => rw [q] at ev; cases ev
            | some o => rw [q] at ev; rw [show o = some v from ev]
          have eN : X.N[j]? = some y := by rw [hXN, ← ey, List.getD_eq_getElem?_getD, List.getElem?_eq_getElem jl]; rfl
          rw [ey] at jf
          have kX : X.env.scope.names.lookup y = some .cell := by rw [hsc]; exact ok.fr (y, .free) (PySem.mem_of_lookup jf) rfl
          obtain ⟨m3, n3, l3⟩ := I3.loc
          obtain ⟨u, ru, lk⟩ := l3 j y v eN ev' (.inr (.inl kX))
          refine ⟨u, ru, .inr ⟨?_, ?_⟩⟩
          · left
            show (relabel csc X.env).names.lookup y = some .cell
            rw [relabel_lookup jf]
            have k2 : X.env.kindOf y = some .cell := kX
            rw [hkX, k2]
            rfl
          · rcases lk with ⟨z, _⟩ | ⟨_, c, hc1, hc2⟩
            · have z' : X.env.scope.names.lookup y = some .local := z
              rw [kX] at z'
              cases z'
            · obtain ⟨c', e'⟩ := clo_has (env := X.env) (PySem.mem_of_lookup jf)
              have : c' = c := by
                have q := hcl y c' e'
                rw [hc1] at q
                exact (Option.some.inj q).symm
              subst this
              obtain ⟨oc, ho, hd⟩ := hc2
              exact ⟨c', e', oc, keep4 _ _ ho, hd⟩
    · obtain ⟨v, oc, ho, hd⟩ := I3.cell y c (hcl y c e)
      exact ⟨v, oc, keep4 _ _ ho, hd⟩
    · show (none :: js.map _).length = N'.length
      rw [ok.eqN]
      simp
  have stat : ∀ {H' : Hp}, (∀ b ∈ fp, H' b = none) → ∀ b ∈ fp, FpOk (blk X csc N' s3 (upd H2 D (.lst [])) C fp) [] H' b := fun hn b hb => by
    obtain ⟨g0, g1, g2, g3, g4, g5⟩ := f2 b hb
    exact ⟨hn b hb, (Xok.exf b hb).1, Xok.exfs b hb, .inl hb, (Xok.exf b hb).2, fun p hp => absurd (show p ∈ ([] : List (Addr × Obj)) from hp) (by simp)⟩
  have loop : ∀ s' : Shared, (∃ v0 : Option V, Inv (blk X csc N' s3 (upd H2 D (.lst [])) C fp) [] (v0 :: js.map fun j => (σ[j]?).join) (upd H2 D (.lst [])) s') → tn 0 s'.heap →
      codeAny (model X.prog X.w) X.A (.compLoop (.ListComp elt [⟨.Name x px, iter, [], 0⟩] csc pos) 0 (.ref it) (.ref D) (compEnvC csc (clo csc X.env) C X.env)) (compPost (model X.prog X.w) X.A X.xe use R (.ref D) C) s' := by
    rintro s' ⟨v0, I'⟩ t0
    refine codeAny_compLoop_list (fun m s => ∃ i ys v1 H', Inv (blk X csc N' s3 (upd H2 D (.lst [])) C fp) [] (v1 :: js.map fun j => (σ[j]?).join) H' s ∧ tn i s.heap ∧ (∀ b ∈ fp, H' b = none) ∧ W i m ys H') ?_ m0 ⟨0, [], v0, _, I', t0, f3, w0⟩
    rintro m s5 ⟨i, ys, v1, H5, I5, t5, fr5, w5⟩
    obtain ⟨hDl, tt⟩ := turn i m ys H5 w5
    rcases tt with ⟨stop, qn⟩ | ⟨go, step⟩
    · refine thn (T.done (blk X csc N' s3 (upd H2 D (.lst [])) C fp) rfl rfl rfl hc i [] s5 _ H5 _ I5 (stat fr5) t5 stop) fun r s6 ⟨hr, I6⟩ => ?_
      subst hr
      obtain ⟨m6, n6, _⟩ := I6.loc
      have I7 : Inv X pins σ H5 s6 := I3.call' (s' := s6) I6.os I6.base I6.hok I6.bare fun b hb => by
        obtain ⟨g0, g1, g2, g3, g4, g5⟩ := f2 b hb
        exact ⟨g3, g1, g4, g5⟩
      exact hfin D C s6 H5 m6 _ I7 (I3.fpOk (Nat.le_of_eq hCe) I6.free) n6 qn
    · refine thn (T.item (blk X csc N' s3 (upd H2 D (.lst [])) C fp) rfl rfl rfl hc i [] s5 _ H5 _ I5 (stat fr5) t5 go) fun r s6 ⟨u, hr, h6⟩ => ?_
      subst hr
      have key : ∀ s7 : Shared, (∃ xv H6, Inv (blk X csc N' s3 (upd H2 D (.lst [])) C fp) [] (v1 :: js.map fun j => (σ[j]?).join) H6 s7 ∧ RelV xv u ∧ J.yld i H5 xv H6 ∧ tn (i + 1) s7.heap ∧ ∀ b ∈ fp, H6 b = none) →
          wpAny (model X.prog X.w) X.A (assign (.Name x px) (compEnvC csc (clo csc X.env) C X.env) u) (fun _ s₂ => wpAny (model X.prog X.w) X.A (eval elt (compEnvC csc (clo csc X.env) C X.env)) (fun y s₃ =>
            wpAny (model X.prog X.w) X.A (call (.builtin "list.append") [.ref D, y]) (fun _ s₄ => ∃ m', m' < m ∧ ∃ i ys v1 H', Inv (blk X csc N' s3 (upd H2 D (.lst [])) C fp) [] (v1 :: js.map fun j => (σ[j]?).join) H' s₄ ∧ tn i s₄.heap ∧ (∀ b ∈ fp, H' b = none) ∧ W i m' ys H')
              (notedBy (model X.prog X.w) X.A (compEnvC csc (clo csc X.env) C X.env) fun e s' => compPost (model X.prog X.w) X.A X.xe use R (.ref D) C (.error e) s') s₃)
              (notedBy (model X.prog X.w) X.A (compEnvC csc (clo csc X.env) C X.env) fun e s' => compPost (model X.prog X.w) X.A X.xe use R (.ref D) C (.error e) s') s₂)
            (notedBy (model X.prog X.w) X.A (compEnvC csc (clo csc X.env) C X.env) fun e s' => compPost (model X.prog X.w) X.A X.xe use R (.ref D) C (.error e) s') s7 := by
        rintro s7 ⟨xv, H6, I6, rx, y6, t6, fr6⟩
        have I6' := I6.pinned (stat fr6) (T.obj _ _ t6)
        refine wpAny_assign_Name (store_ok (X := blk X csc N' s3 (upd H2 D (.lst [])) C fp) (i := 0) I6' ok.nd (by show N'[0]? = some x; rw [ok.eqN]; rfl) (.inl (by
          show (relabel csc X.env).names.lookup x = some .local
          rw [relabel_lookup ok.xl]
          rfl)) rx (fun s8 I8 => ?_) (.inr (by
          show (relabel csc X.env).names.lookup x = some .local
          rw [relabel_lookup ok.xl]
          rfl)))
        refine wpAny_mono (he s3 (upd H2 D (.lst [])) C fp _ s8 _ H6 _ I8 (step xv H6 y6 _ _ _ _)) (fun yv s9 h9 => ?_) (fun _ _ z => False.elim z)
        obtain ⟨y, H9, I9, ry, hD9, hlt, m', hm', w9⟩ := h9
        refine wpAny_mono (mt_append (X := blk X csc N' s3 (upd H2 D (.lst [])) C fp) _ s9 _ H9 (.ref D) [y] (.ref D) [yv] (fun _ H10 => H10 = upd H9 D (.lst (ys ++ [y]))) I9 rfl (.cons ry .nil) ⟨D, ys, y, rfl, rfl, hD9, hlt, rfl⟩) (fun v10 s10 h10 => ?_) (fun _ _ z => False.elim z)
        obtain ⟨v11, H10, I10, r10, e10⟩ := h10
        subst e10
        refine ⟨m', hm', i + 1, ys ++ [y], some xv, _, Inv.unpinned (pins := []) I10, T.keep _ _ _ t6 fun b hb o e => (I10.pin (b, o) (List.mem_append_right _ (List.mem_append_right _ (mem_pinsAt hb e)))).1, fun b hb => ?_, w9⟩
        obtain ⟨o, e, d⟩ := T.obj _ _ t6 b hb
        exact (I10.pin (b, o) (List.mem_append_right _ (List.mem_append_right _ (mem_pinsAt hb e)))).2.1
      have q := wpAny_bind (f := fun _ => assign (.Name x px) (compEnvC csc (clo csc X.env) C X.env) u) (thn h6 fun _ s7 p7 => key s7 p7)
      exact q
  have tn4 : tn 0 h4 := T.keep 0 _ _ tn3 fun b _ o e => keep4 b o e
  exact codeAny_compStart_list (loop _ ⟨none, I4⟩ tn4) (T.self X.A 0 _ _ _ tn4 (loop _ ⟨none, I4⟩ tn4))
theorem pe_comp {X : Cx} {elt iter : Expr} {x : Str} {px pos : Pos} {csc : Scope} {wi : TI} {te : Shared → Hp → Addr → List Addr → TE} (js : List Nat) {N' : List Str} {fsc : Scope} {N : List Str} (ok : CompOk fsc csc x js N N') (hi : PI X (.Name x px) iter wi)
    (he : ∀ s₀ H₀ C ex, PE (blk X csc N' s₀ H₀ C ex) elt (te s₀ H₀ C ex)) (hc : X.calm = true := by rfl) (hsc : X.env.scope = fsc := by rfl) (hXN : X.N = N := by rfl) (hs : ∀ x, foldedSetIterable iter X.env x = pure x := by intro _; rfl) :
    PE X (.ListComp elt [⟨.Name x px, iter, [], 0⟩] csc pos) (tComp wi te js) := by
  intro pins s σ H Q I h
  rw [eval_ListComp]
  exact comp_core js ok hi he hc hsc hXN hs none _ I h fun D C s6 H5 m6 _ I6 f6 n6 q => ⟨m6, n6, fun h7 sb => ⟨.ref D, H5, inv_but I6 f6 sb, rfl, q⟩⟩
theorem ps_setComp {X : Cx} {elt iter : Expr} {x y : Str} {px py pos spos : Pos} {i : Nat} {csc : Scope} {wi : TI} {te : Shared → Hp → Addr → List Addr → TE} (hN : X.N.Nodup) (hi' : X.N[i]? = some y) (hy : Loc X.env.scope y)
    (js : List Nat) {N' : List Str} {fsc : Scope} {N : List Str} (ok : CompOk fsc csc x js N N') (hi : PI X (.Name x px) iter wi)
    (he : ∀ s₀ H₀ C ex, PE (blk X csc N' s₀ H₀ C ex) elt (te s₀ H₀ C ex)) (hsw : swapsWith (.ListComp elt [⟨.Name x px, iter, [], 0⟩] csc pos) (some (.Name y py)) spos.line X.env = pure true := by rfl)
    (hc : X.calm = true := by rfl) (hsc : X.env.scope = fsc := by rfl) (hXN : X.N = N := by rfl) (hs : ∀ x, foldedSetIterable iter X.env x = pure x := by intro _; rfl)
    (hf : X.fn y = true ∨ X.env.scope.names.lookup y = some .local := by first | exact .inl rfl | exact .inr rfl | assumption) :
    PS X (.Assign [.Name y py] (.ListComp elt [⟨.Name x px, iter, [], 0⟩] csc pos) spos) (tAsg (tComp wi te js) (gName i)) := by
  intro pins s σ H D I h
  rw [exec_Assign_Name_used _ _ _ _ hsw]
  refine wpAny_bind (wpAny_standAt (wpAny_bind ?_))
  show wpAny _ X.A (do let _ ← comprehension (.ListComp elt [⟨.Name x px, iter, [], 0⟩] csc pos) csc X.env _ (newList []) false (eval iter X.env) (some (assign (.Name y py) X.env))) _ _ s
  refine wpAny_bind (wpAny_mono (comp_core js ok hi he hc hsc hXN hs (some (assign (.Name y py) X.env)) (fun _ s' => SP X pins D .next s') I h ?_) (fun _ s' hq => wpAny_pure (wpAny_pure hq)) fun _ _ e => e)
  intro D' C s6 H5 m6 r I6 f6 n6 q
  show wpAny _ X.A (assign (.Name y py) X.env (.ref D')) _ _ _
  obtain ⟨o6, es, ep, ho, hd, hrest⟩ := id n6
  have Ip := I6.pinned (fp := [C]) (fun b hb => by
    have e : b = C := by simpa using hb
    subst e
    exact f6) (fun b hb => by
    have e : b = C := by simpa using hb
    subst e
    exact ⟨o6, ho, fun v z => by rw [hd] at z; cases z⟩)
  refine wpAny_assign_Name (store_ok (i := i) Ip hN hi' hy (v := .ref D') rfl (fun s7 I7 => ?_) hf)
  refine ⟨m6, n6.at fun o e => (I7.pin (C, o) (List.mem_append_right _ (List.mem_append_right _ (mem_pinsAt List.mem_cons_self e)))).1, fun h7 sb => ?_⟩
  exact ⟨_, H5, inv_but I7.unpinned f6 sb, q⟩
end L3

namespace L3
open PySem PySem.Spec PyProof.Rows L2 Ra
theorem compLoop_gen {prog : Program} {w : World} {A : Around} {R : Result → Shared → Prop} {s : Shared} {elt target iter : Expr} {ifs : List Expr} {scope : Scope} {pos : Pos} {it acc : Value} {env : Env} (I : Nat → Shared → Prop)
    (turn : ∀ n s, I n s → wpAny (model prog w) A (pyNext it) (fun r s₁ => match r with
      | none => R (.ok .next) s₁
      | some v => wpAny (model prog w) A (letOwnedTupleGo target it v) (fun _ s₁' => wpAny (model prog w) A (assign target env v) (fun _ s₂ =>
          wpAny (model prog w) A (forIn ifs true fun c r => if r = true then do let ok ← isTrue c env (eval c env); pure (ForInStep.yield ok) else pure (ForInStep.yield r)) (fun ok s₃ =>
            if ok = true then wpAny (model prog w) A (eval elt env) (fun x s₄ =>
              wpAny (model prog w) A (call (.builtin "list.append") [acc, x]) (fun _ s₅ => ∃ m, m < n ∧ I m s₅) (notedBy (model prog w) A env fun e s' => R (.error e) s') s₄) (notedBy (model prog w) A env fun e s' => R (.error e) s') s₃
            else ∃ m, m < n ∧ I m s₃) (notedBy (model prog w) A env fun e s' => R (.error e) s') s₂) (notedBy (model prog w) A env fun e s' => R (.error e) s') s₁') (notedBy (model prog w) A env fun e s' => R (.error e) s') s₁) (notedBy (model prog w) A env fun e s' => R (.error e) s') s)
    (n : Nat) (h : I n s) : codeAny (model prog w) A (.compLoop (.ListComp elt [⟨target, iter, ifs, 0⟩] scope pos) 0 it acc env) R s := by
  refine codeAny_loop rfl I (fun n s hI => ?_) n h
  show wpAny _ A ((compTurn (.ListComp elt [⟨target, iter, ifs, 0⟩] scope pos) 0 it acc env).onRaise (fun x => do noteFrame x env; theTreesLotGoes x)) _ _ s
  refine wpAny_noted ?_
  rw [compTurn_list]
  refine wpAny_bind (wpAny_standAt (wpAny_bind (wpAny_mono (turn n s hI) (fun r s₁ h₁ => ?_) fun _ _ h' => h')))
  cases r with
  | none => exact wpAny_pure h₁
  | some v =>
    refine wpAny_bind (wpAny_mono h₁ (fun _ s₁' h₁' => ?_) fun _ _ h' => h')
    refine wpAny_bind (wpAny_mono h₁' (fun _ s₂ h₂ => wpAny_bind (wpAny_mono h₂ (fun ok s₃ h₃ => ?_) fun _ _ h' => h')) fun _ _ h' => h')
    cases ok with
    | false => exact wpAny_pure ⟨rfl, h₃⟩
    | true =>
      exact wpAny_bind (wpAny_bind (wpAny_mono h₃ (fun x s₄ h₄ => wpAny_bind (wpAny_mono h₄ (fun _ s₅ h₅ => wpAny_pure (wpAny_pure ⟨rfl, h₅⟩)) fun _ _ h' => h')) fun _ _ h' => h'))
noncomputable def PTs (X : Cx) (ifs : List Expr) (t : TT) : Prop :=
  ∀ (pins : List (Addr × Obj)) (s : Shared) (σ : L2.St) (H : Hp) (Q : Bool → Hp → Prop), Inv X pins σ H s → t σ H Q →
    wpAny (model X.prog X.w) X.A (forIn ifs true fun c r => if r = true then do let ok ← isTrue c X.env (eval c X.env); pure (ForInStep.yield ok) else pure (ForInStep.yield r)) (TP X pins σ Q) X.xe s
noncomputable def tNoTest : TT := fun _ H Q => Q true H
theorem pts_one {X : Cx} {c : Expr} {t : TT} (h : PT X c t) : PTs X [c] t := fun pins s σ H Q I hw => wpAny_tests_one (h pins s σ H Q I hw)
structure CompOkG (fsc csc : Scope) (xs : List Str) (js : List Nat) (N N' : List Str) : Prop where
  eqN : N' = xs ++ js.map fun j => N.getD j ""
  fr : ∀ y ∈ csc.names, y.2 = .free → fsc.names.lookup y.1 = some .cell
  cell : ∀ y ∈ csc.names, y.2 ≠ .cell
  kind : csc.kind = .function
  nm : ∀ y ∈ csc.names, y.2 = .local → csc.names.lookup y.1 = some .local
  js : ∀ j ∈ js, j < N.length ∧ csc.names.lookup (N.getD j "") = some .free
noncomputable def CompAtG (J : It) (tg : TG) (tt : Shared → Hp → Addr → List Addr → TT) (te : Shared → Hp → Addr → List Addr → TE) (nx : Nat) (js : List Nat) (σ : L2.St) (Q : VK) (H1 : Hp) : Prop := ∀ D, H1 D = none → ∃ W : Nat → Nat → List V → Hp → Prop, (∃ m, W 0 m [] (upd H1 D (.lst []))) ∧
  ∀ i m ys H, W i m ys H → H D = some (.lst ys) ∧ ((J.stop i H ∧ Q (.ref D) H) ∨ (J.go i H ∧ ∀ x H', J.yld i H x H' → ∀ s₀ H₀ C ex (σ0 : L2.St), σ0.length = nx → tg x (σ0 ++ js.map fun j => (σ[j]?).join) H' fun σ1 H2 =>
    (∃ σ0' : L2.St, σ1 = σ0' ++ (js.map fun j => (σ[j]?).join) ∧ σ0'.length = nx) ∧ tt s₀ H₀ C ex σ1 H2 fun b H3 => if b = true then te s₀ H₀ C ex σ1 H3 fun y H4 =>
      H4 D = some (.lst ys) ∧ ys.length < sizeLine ∧ ∃ m', m' < m ∧ W (i + 1) m' (ys ++ [y]) (upd H4 D (.lst (ys ++ [y])))
    else H3 D = some (.lst ys) ∧ ∃ m', m' < m ∧ W (i + 1) m' ys H3))
noncomputable def tCompG (wi : TI) (tg : TG) (tt : Shared → Hp → Addr → List Addr → TT) (te : Shared → Hp → Addr → List Addr → TE) (nx : Nat) (js : List Nat) : TE := fun σ H Q => wi σ H fun J H1 => CompAtG J tg tt te nx js σ Q H1
theorem compG_core {X : Cx} {elt iter target : Expr} {ifs : List Expr} {pos pos' : Pos} {csc : Scope} {wi : TI} {tg : TG} {tt : Shared → Hp → Addr → List Addr → TT} {te : Shared → Hp → Addr → List Addr → TE} (xs : List Str) (js : List Nat) {N' : List Str} {fsc : Scope} {N : List Str} (ok : CompOkG fsc csc xs js N N') (hi : PI X target iter wi) (hg : ∀ s₀ H₀ C ex, PG (blk X csc N' s₀ H₀ C ex) target tg) (ht : ∀ s₀ H₀ C ex, PTs (blk X csc N' s₀ H₀ C ex) ifs (tt s₀ H₀ C ex))
    (he : ∀ s₀ H₀ C ex, PE (blk X csc N' s₀ H₀ C ex) elt (te s₀ H₀ C ex)) (hc : X.calm = true) (hsc : X.env.scope = fsc) (hXN : X.N = N) (hs : ∀ x, foldedSetIterable iter X.env x = pure x)
    (use : Option (Value → Sem Unit)) (R : Value → Shared → Prop) {pins : List (Addr × Obj)} {s : Shared} {σ : L2.St} {H : Hp} {Q : VK} (I : Inv X pins σ H s) (h : tCompG wi tg tt te xs.length js σ H Q)
    (hfin : ∀ (D C : Addr) (s6 : Shared) (H5 : Hp) (m6 : Str → Option Value) (r : Flow), Inv X pins σ H5 s6 → FpOk X pins H5 C → s6.heap.Ns C m6 → Q (.ref D) H5 → compPost (model X.prog X.w) X.A X.xe use R (.ref D) C (.ok r) s6) :
    wpAny (model X.prog X.w) X.A (comprehension (.ListComp elt [⟨target, iter, ifs, 0⟩] csc pos) csc X.env pos' (newList []) false (eval iter X.env) use) R X.xe s := by
  have hkX : X.env.scope.kind = .function := I.ok.kind
  have hfree : ∀ y ∈ csc.names, y.2 = .free → ∃ c, X.env.cells.lookup y.1 = some c := fun y hy hk => I.ok.has y.1 (.inl (by show X.env.scope.names.lookup y.1 = _; rw [hsc]; exact ok.fr y hy hk))
  have hcl : ∀ y c, (clo csc X.env).lookup y = some c → X.env.cells.lookup y = some c := fun y c e => by
    obtain ⟨m, e2⟩ := clo_in e
    obtain ⟨c', e3⟩ := hfree _ m rfl
    rw [e3] at e2
    rw [e3, e2]
    rfl
  refine wpAny_comprehension_free (use := use) rfl hs (closure_of hfree) ok.kind ok.nm ?_
  refine thn (hi pins s σ H _ I h) fun v s1 h1 => thn h1 fun itv s2 h2 => ?_
  obtain ⟨it, fp, tn, J, H2, e, I2, T, st2, f2, hw⟩ := h2
  subst e
  have hD : H2 s2.heap.objs.size = none := I2.hok.fresh (Nat.le_refl _)
  obtain ⟨W, ⟨m0, w0⟩, turn⟩ := hw _ hD
  refine wpAny_newObj_type ?_ (by show 0 ≤ sizeLine; decide)
  have I3 : Inv X pins σ (upd H2 s2.heap.objs.size (.lst [])) { s2 with heap := s2.heap.push { cls := .type "list", data := .seq ([] : List Value).toArray } } := I2.lnew (t' := s2.toks) .nil (by show 0 ≤ sizeLine; decide)
  generalize hs3 : ({ s2 with heap := s2.heap.push { cls := .type "list", data := .seq ([] : List Value).toArray } } : Shared) = s3 at I3 ⊢
  have hsz : s3.heap.objs.size = s2.heap.objs.size + 1 := by rw [← hs3, Heap.size_push]
  generalize hDe : s2.heap.objs.size = D at *
  have tn3 : tn 0 s3.heap := T.keep 0 s2.heap _ st2 fun b hb o e => by rw [← hs3]; exact Heap.get?_push_of_some _ e
  have fpD : ∀ b ∈ fp, b ≠ D := fun b hb z => by
    obtain ⟨o, e, _⟩ := T.obj 0 _ st2 b hb
    rw [z, ← hDe] at e
    exact absurd (Heap.lt_size e) (Nat.lt_irrefl _)
  have f3 : ∀ b ∈ fp, upd H2 D (.lst []) b = none := fun b hb => by rw [upd_ne (fpD b hb)]; exact (f2 b hb).1
  refine wpAny_newFunctionEnv ok.cell (by intro y hy; simp at hy) (fun h4 hns hsb => ?_) ok.kind
  generalize hCe : s3.heap.objs.size = C at *
  have ltC : ∀ b o, s3.heap.get? b = some o → b < C := fun b o e => by
    rw [← hCe]
    exact Heap.lt_size e
  have keep4 : ∀ b o, s3.heap.get? b = some o → h4.get? b = some o := fun b o e => by
    rw [hsb.2 b (Nat.ne_of_lt (ltC b o e))]
    exact Heap.get?_push_of_some _ e
  have Xok : (blk X csc N' s3 (upd H2 D (.lst [])) C fp).Ok := by
    refine ⟨I3.ok.mod, ?_, I3.ok.glob, I3.ok.blt, ?_, fun y z c h1 h2 => I3.ok.inj y z c (hcl y c h1) (hcl z c h2), fun y hy => ?_, fun y c h1 _ => ?_, I3.ok.hd, I3.ok.frames, .inl rfl, fun b hb => ?_, I3.bs, ?_, fun b o e hb => ?_, fun b hb hz => ?_, I3.stack, I3.stkFree⟩
    · exact ok.kind
    · exact Nat.le_of_eq hCe
    · have hy' : (relabel csc X.env).names.lookup y = some .cell ∨ (relabel csc X.env).names.lookup y = some .free := hy
      cases hk : csc.names.lookup y with
      | none =>
        rw [relabel_none hk] at hy'
        rcases hy' with z | z <;> cases z
      | some k =>
        have hm : (y, k) ∈ csc.names := PySem.mem_of_lookup hk
        by_cases hkf : k = .free
        · subst hkf
          exact clo_has hm
        · have hb : (k == NameKind.free) = false := by simpa using hkf
          rw [relabel_lookup hk] at hy'
          simp only [hb, Bool.false_and, Bool.false_eq_true, if_false] at hy'
          rcases hy' with z | z
          · exact absurd (Option.some.inj z) (ok.cell _ hm)
          · exact absurd (Option.some.inj z) hkf
    · exact absurd (show false = true from h1) Bool.false_ne_true
    · obtain ⟨g0, g1, g2, g3, g4, g5⟩ := f2 b hb
      refine ⟨fun z => ?_, fun y c e => g4 y c (hcl y c e)⟩
      obtain ⟨o, e, _⟩ := T.obj 0 _ tn3 b hb
      have z' : b = C := z
      have l := ltC b o e
      rw [z'] at l
      exact absurd l (Nat.lt_irrefl _)
    · exact Nat.le_trans I3.ok.bsz I3.sz
    · obtain ⟨g0, g1, g2, g3, g4, g5⟩ := f2 b hb
      rcases g3 with z | z
      · exact I3.ok.noex b o e z
      · exact absurd (Nat.lt_of_lt_of_le (Heap.lt_size e) (Nat.le_trans I3.ok.bsz z)) (Nat.lt_irrefl _)
    · obtain ⟨g0, g1, g2, g3, g4, g5⟩ := f2 b hb
      rcases List.mem_cons.mp (I3.stkSub b hz) with z | z
      · exact g1 z
      · exact g2 z
  have hfreeC : H2 C = none ∧ upd H2 D (.lst []) C = none := by
    have q : upd H2 D (.lst []) C = none := I3.hok.fresh (Nat.le_of_eq hCe)
    refine ⟨?_, q⟩
    rw [upd_ne (by rw [hsz]; exact Nat.succ_ne_self D)] at q
    exact q
  have I4 : Inv (blk X csc N' s3 (upd H2 D (.lst [])) C fp) [] (List.replicate xs.length none ++ js.map fun j => (σ[j]?).join) (upd H2 D (.lst [])) { s3 with heap := h4, toks := s3.toks + ([] : List (Str × Value)).length } := by
    refine ⟨Xok, rfl, I3.bare, Un.kept keep4, ⟨_, hns, fun i y v h1 h2 h3 => ?_⟩, fun y c e => ?_, hfreeC.2, fun y c e => I3.freeC y c (hcl y c e), fun p hp => absurd (show p ∈ ([] : List (Addr × Obj)) from hp) (by simp), I3.hok.kept keep4, ?_⟩
    · have h1' : (xs ++ js.map fun j => N.getD j "")[i]? = some y := by rw [← ok.eqN]; exact h1
      by_cases hi : i < xs.length
      · rw [List.getElem?_append_left (by rw [List.length_replicate]; exact hi), List.getElem?_replicate] at h2
        rw [if_pos hi] at h2
        cases h2
      · rw [List.getElem?_append_right (by (first | lia | omega)), List.getElem?_map] at h1'
        rw [List.getElem?_append_right (by rw [List.length_replicate]; (first | lia | omega)), List.length_replicate, List.getElem?_map] at h2
        cases ej : js[i - xs.length]? with
        | none => rw [ej] at h2; cases h2
        | some j =>
          rw [ej] at h1' h2
          obtain ⟨jl, jf⟩ := ok.js j (List.mem_of_getElem? ej)
          have ey : N.getD j "" = y := Option.some.inj h1'
          have ev : (σ[j]?).join = some v := Option.some.inj h2
          have ev' : σ[j]? = some (some v) := by
            cases q : σ[j]? with
            | none => rw [q] at ev; cases ev
            | some o => rw [q] at ev; rw [show o = some v from ev]
          have eN : X.N[j]? = some y := by rw [hXN, ← ey, List.getD_eq_getElem?_getD, List.getElem?_eq_getElem jl]; rfl
          rw [ey] at jf
          have kX : X.env.scope.names.lookup y = some .cell := by rw [hsc]; exact ok.fr (y, .free) (PySem.mem_of_lookup jf) rfl
          obtain ⟨m3, n3, l3⟩ := I3.loc
          obtain ⟨u, ru, lk⟩ := l3 j y v eN ev' (.inr (.inl kX))
          refine ⟨u, ru, .inr ⟨?_, ?_⟩⟩
          · left
            show (relabel csc X.env).names.lookup y = some .cell
            rw [relabel_lookup jf]
            have k2 : X.env.kindOf y = some .cell := kX
            rw [hkX, k2]
            rfl
          · rcases lk with ⟨z, _⟩ | ⟨_, c, hc1, hc2⟩
            · have z' : X.env.scope.names.lookup y = some .local := z
              rw [kX] at z'
              cases z'
            · obtain ⟨c', e'⟩ := clo_has (env := X.env) (PySem.mem_of_lookup jf)
              have : c' = c := by
                have q := hcl y c' e'
                rw [hc1] at q
                exact (Option.some.inj q).symm
              subst this
              obtain ⟨oc, ho, hd⟩ := hc2
              exact ⟨c', e', oc, keep4 _ _ ho, hd⟩
    · obtain ⟨v, oc, ho, hd⟩ := I3.cell y c (hcl y c e)
      exact ⟨v, oc, keep4 _ _ ho, hd⟩
    · show (List.replicate xs.length none ++ js.map _).length = N'.length
      rw [ok.eqN]
      simp
  have stat : ∀ {H' : Hp}, (∀ b ∈ fp, H' b = none) → ∀ b ∈ fp, FpOk (blk X csc N' s3 (upd H2 D (.lst [])) C fp) [] H' b := fun hn b hb => by
    obtain ⟨g0, g1, g2, g3, g4, g5⟩ := f2 b hb
    exact ⟨hn b hb, (Xok.exf b hb).1, Xok.exfs b hb, .inl hb, (Xok.exf b hb).2, fun p hp => absurd (show p ∈ ([] : List (Addr × Obj)) from hp) (by simp)⟩
  have loop : ∀ s' : Shared, Inv (blk X csc N' s3 (upd H2 D (.lst [])) C fp) [] (List.replicate xs.length none ++ js.map fun j => (σ[j]?).join) (upd H2 D (.lst [])) s' → tn 0 s'.heap →
      codeAny (model X.prog X.w) X.A (.compLoop (.ListComp elt [⟨target, iter, ifs, 0⟩] csc pos) 0 (.ref it) (.ref D) (compEnvC csc (clo csc X.env) C X.env)) (compPost (model X.prog X.w) X.A X.xe use R (.ref D) C) s' := by
    rintro s' I' t0
    refine compLoop_gen (fun m s => ∃ i ys H', Inv (blk X csc N' s3 (upd H2 D (.lst [])) C fp) [] (List.replicate xs.length none ++ js.map fun j => (σ[j]?).join) H' s ∧ tn i s.heap ∧ (∀ b ∈ fp, H' b = none) ∧ W i m ys H') ?_ m0 ⟨0, [], _, I', t0, f3, w0⟩
    rintro m s5 ⟨i, ys, H5, I5, t5, fr5, w5⟩
    obtain ⟨hDl, tt'⟩ := turn i m ys H5 w5
    rcases tt' with ⟨stop, qn⟩ | ⟨go, step⟩
    · refine thn (T.done (blk X csc N' s3 (upd H2 D (.lst [])) C fp) rfl rfl rfl hc i [] s5 _ H5 _ I5 (stat fr5) t5 stop) fun r s6 ⟨hr, I6⟩ => ?_
      subst hr
      obtain ⟨m6, n6, _⟩ := I6.loc
      have I7 : Inv X pins σ H5 s6 := I3.call' (s' := s6) I6.os I6.base I6.hok I6.bare fun b hb => by
        obtain ⟨g0, g1, g2, g3, g4, g5⟩ := f2 b hb
        exact ⟨g3, g1, g4, g5⟩
      exact hfin D C s6 H5 m6 _ I7 (I3.fpOk (Nat.le_of_eq hCe) I6.free) n6 qn
    · refine thn (T.item (blk X csc N' s3 (upd H2 D (.lst [])) C fp) rfl rfl rfl hc i [] s5 _ H5 _ I5 (stat fr5) t5 go) fun r s6 ⟨u, hr, h6⟩ => ?_
      subst hr
      refine thn h6 fun _ s7 ⟨xv, H6, I6, rx, y6, t6, fr6⟩ => ?_
      have I6' := I6.pinned (stat fr6) (T.obj _ _ t6)
      -- what is kept of the iterator, the block's names forgotten
      have back : ∀ {H10 : Hp} {s10 : Shared} {σ1 σ0 : L2.St}, σ1 = σ0 ++ (js.map fun j => (σ[j]?).join) → σ0.length = xs.length → Inv (blk X csc N' s3 (upd H2 D (.lst [])) C fp) ([] ++ pinsAt fp s7.heap) σ1 H10 s10 →
          Inv (blk X csc N' s3 (upd H2 D (.lst [])) C fp) [] (List.replicate xs.length none ++ js.map fun j => (σ[j]?).join) H10 s10 ∧ tn (i + 1) s10.heap ∧ ∀ b ∈ fp, H10 b = none := by
        intro H10 s10 σ1 σ0 e1 e2 I10
        subst e1
        refine ⟨(Inv.unpinned (pins := []) I10).weak (by simp [e2]) fun k v hk => ?_, T.keep _ _ _ t6 fun b hb o e => (I10.pin (b, o) (List.mem_append_right _ (List.mem_append_right _ (mem_pinsAt hb e)))).1, fun b hb => ?_⟩
        · by_cases hk' : k < xs.length
          · rw [List.getElem?_append_left (by rw [List.length_replicate]; exact hk'), List.getElem?_replicate, if_pos hk'] at hk
            cases hk
          · rw [List.getElem?_append_right (by rw [List.length_replicate]; (first | lia | omega)), List.length_replicate] at hk
            rw [List.getElem?_append_right (by (first | lia | omega)), e2]
            exact hk
        · obtain ⟨o, e, d⟩ := T.obj _ _ t6 b hb
          exact (I10.pin (b, o) (List.mem_append_right _ (List.mem_append_right _ (mem_pinsAt hb e)))).2.1
      have st0 := step xv H6 y6 s3 (upd H2 D (.lst [])) C fp (List.replicate xs.length none) (List.length_replicate ..)
      refine wpAny_mono (hg s3 (upd H2 D (.lst [])) C fp _ s7 _ H6 xv u _ I6' rx st0) (fun _ s8 h8 => ?_) (fun _ _ z => False.elim z)
      obtain ⟨σ1, H8, I8, ⟨σ0, e1, e2⟩, q8⟩ := h8
      refine wpAny_mono (ht s3 (upd H2 D (.lst [])) C fp _ s8 σ1 H8 _ I8 q8) (fun ok' s9 h9 => ?_) (fun _ _ z => False.elim z)
      obtain ⟨H9, I9, q9⟩ := h9
      cases ok' with
      | false =>
        have q9' := q9
        rw [if_neg Bool.false_ne_true] at q9'
        obtain ⟨hD9, m', hm', w9⟩ := q9'
        show if false = true then _ else _
        rw [if_neg Bool.false_ne_true]
        obtain ⟨I10, t10, f10⟩ := back e1 e2 I9
        exact ⟨m', hm', i + 1, ys, H9, I10, t10, f10, w9⟩
      | true =>
        have q9' := q9
        rw [if_pos rfl] at q9'
        show if true = true then _ else _
        rw [if_pos rfl]
        refine wpAny_mono (he s3 (upd H2 D (.lst [])) C fp _ s9 σ1 H9 _ I9 q9') (fun yv s10 h10 => ?_) (fun _ _ z => False.elim z)
        obtain ⟨y, H10, I10, ry, hD10, hlt, m', hm', w10⟩ := h10
        refine wpAny_mono (mt_append (X := blk X csc N' s3 (upd H2 D (.lst [])) C fp) _ s10 _ H10 (.ref D) [y] (.ref D) [yv] (fun _ H11 => H11 = upd H10 D (.lst (ys ++ [y]))) I10 rfl (.cons ry .nil) ⟨D, ys, y, rfl, rfl, hD10, hlt, rfl⟩) (fun v11 s11 h11 => ?_) (fun _ _ z => False.elim z)
        obtain ⟨v12, H12, I12, r12, e12⟩ := h11
        subst e12
        obtain ⟨J1, J2, J3⟩ := back e1 e2 I12
        exact ⟨m', hm', i + 1, ys ++ [y], _, J1, J2, J3, w10⟩
  have tn4 : tn 0 h4 := T.keep 0 _ _ tn3 fun b _ o e => keep4 b o e
  exact codeAny_compStart_list (loop _ I4 tn4) (T.self X.A 0 _ _ _ tn4 (loop _ I4 tn4))
theorem pe_compG {X : Cx} {elt iter target : Expr} {ifs : List Expr} {pos : Pos} {csc : Scope} {wi : TI} {tg : TG} {tt : Shared → Hp → Addr → List Addr → TT} {te : Shared → Hp → Addr → List Addr → TE} (xs : List Str) (js : List Nat) {N' : List Str} {fsc : Scope} {N : List Str} (ok : CompOkG fsc csc xs js N N') (hi : PI X target iter wi) (hg : ∀ s₀ H₀ C ex, PG (blk X csc N' s₀ H₀ C ex) target tg) (ht : ∀ s₀ H₀ C ex, PTs (blk X csc N' s₀ H₀ C ex) ifs (tt s₀ H₀ C ex))
    (he : ∀ s₀ H₀ C ex, PE (blk X csc N' s₀ H₀ C ex) elt (te s₀ H₀ C ex)) (hc : X.calm = true := by rfl) (hsc : X.env.scope = fsc := by rfl) (hXN : X.N = N := by rfl) (hs : ∀ x, foldedSetIterable iter X.env x = pure x := by intro _; rfl) :
    PE X (.ListComp elt [⟨target, iter, ifs, 0⟩] csc pos) (tCompG wi tg tt te xs.length js) := by
  intro pins s σ H Q I h
  rw [eval_ListComp]
  exact compG_core xs js ok hi hg ht he hc hsc hXN hs none _ I h fun D C s6 H5 m6 _ I6 f6 n6 q => ⟨m6, n6, fun h7 sb => ⟨.ref D, H5, inv_but I6 f6 sb, rfl, q⟩⟩
theorem pg_blk {X : Cx} {csc : Scope} {N' : List Str} {s₀ : Shared} {H₀ : Hp} {C : Addr} {ex : List Addr} {i : Nat} {x : Str} {px : Pos} (nd : N'.Nodup) (hi : N'[i]? = some x) (hl : csc.names.lookup x = some .local) : PG (blk X csc N' s₀ H₀ C ex) (.Name x px) (gName i) :=
  pg_name (X := blk X csc N' s₀ H₀ C ex) nd hi (.inl (by
    show (relabel csc X.env).names.lookup x = some .local
    rw [relabel_lookup hl]
    rfl)) (.inr (by
    show (relabel csc X.env).names.lookup x = some .local
    rw [relabel_lookup hl]
    rfl))
end L3

namespace L3
open PySem PySem.Spec PyProof.Rows L2 Ra
mutual
inductive Dv (H : Hp) : V → PyData → Prop
  | non : Dv H .non .none
  | bl (b : Bool) : Dv H (.bl b) (.bool b)
  | int (i : Int) : Dv H (.int i) (.int i)
  | str (x : Str) (ok : (PyData.str x).canLay0 = true) : Dv H (.str x) (.str x)
  | lst {a : Addr} {xs : List V} {ds : List PyData} : H a = some (.lst xs) → DvAll H xs ds → Dv H (.ref a) (.list ds)
  | tup {a : Addr} {xs : List V} {ds : List PyData} : H a = some (.tup xs) → DvAll H xs ds → Dv H (.ref a) (.tuple ds)
inductive DvAll (H : Hp) : List V → List PyData → Prop
  | nil : DvAll H [] []
  | cons {v : V} {vs : List V} {d : PyData} {ds : List PyData} : Dv H v d → DvAll H vs ds → DvAll H (v :: vs) (d :: ds)
end
mutual
theorem Dv.keep {H H' : Hp} (s : Same H H') : ∀ {v : V} {d : PyData}, Dv H v d → Dv H' v d
  | _, _, .non => .non
  | _, _, .bl b => .bl b
  | _, _, .int i => .int i
  | _, _, .str x ok => .str x ok
  | _, _, .lst h r => .lst (s _ _ h) (DvAll.keep s r)
  | _, _, .tup h r => .tup (s _ _ h) (DvAll.keep s r)
theorem DvAll.keep {H H' : Hp} (s : Same H H') : ∀ {vs : List V} {ds : List PyData}, DvAll H vs ds → DvAll H' vs ds
  | _, _, .nil => .nil
  | _, _, .cons h r => .cons (Dv.keep s h) (DvAll.keep s r)
end
mutual
theorem Dv.can {H : Hp} : ∀ {v : V} {d : PyData}, Dv H v d → d.canLay0 = true
  | _, _, .non => rfl
  | _, _, .bl _ => rfl
  | _, _, .int _ => rfl
  | _, _, .str _ ok => ok
  | _, _, .lst _ r => by rw [PyData.canLay0]; exact DvAll.can r
  | _, _, .tup _ r => by rw [PyData.canLay0]; exact DvAll.can r
theorem DvAll.can {H : Hp} : ∀ {vs : List V} {ds : List PyData}, DvAll H vs ds → PyData.canLayAll0 ds = true
  | _, _, .nil => rfl
  | _, _, .cons h r => by rw [PyData.canLayAll0, Dv.can h, DvAll.can r]; rfl
end
section
variable {X : Cx} {pins : List (Addr × Obj)} {σ : L2.St} {H : Hp} {s : Shared}
mutual
theorem Dv.reads (I : Inv X pins σ H s) : ∀ {v : V} {d : PyData} {u : Value}, Dv H v d → RelV v u → ∃ as, Reads s.heap u d as
  | _, _, _, .non, r => by cases r; exact ⟨_, .none⟩
  | _, _, _, .bl b, r => by cases r; exact ⟨_, .bool b⟩
  | _, _, _, .int i, r => by obtain ⟨t, rfl⟩ := r; exact ⟨_, .int i t⟩
  | _, _, _, .str x _, r => by obtain ⟨t, rfl⟩ := r; exact ⟨_, .str x t⟩
  | _, _, _, .lst h q, r => by
    cases r
    obtain ⟨its, rv, p, _⟩ := I.list (SqL.of h)
    obtain ⟨o, e, hc, n, hd⟩ := p.isList
    obtain ⟨as, ra⟩ := DvAll.reads I q rv
    exact ⟨_, .list e hc hd ra⟩
  | _, _, _, .tup h q, r => by
    cases r
    obtain ⟨its, rv, p, _⟩ := I.tuple (SqT.of h)
    obtain ⟨o, e, hc, n, hd⟩ := p
    obtain ⟨as, ra⟩ := DvAll.reads I q rv
    exact ⟨_, .tuple e hc hd ra⟩
theorem DvAll.reads (I : Inv X pins σ H s) : ∀ {vs : List V} {ds : List PyData} {us : List Value}, DvAll H vs ds → Vals vs us → ∃ as, ReadsAll s.heap us ds as
  | _, _, _, .nil, .nil => ⟨_, .nil⟩
  | _, _, _, .cons h q, .cons r rs => by
    obtain ⟨as, ra⟩ := Dv.reads I h r
    obtain ⟨bs, rb⟩ := DvAll.reads I q rs
    exact ⟨_, .cons ra rb⟩
end
end
noncomputable def rEqD (c : Bool → Bool) : R2 := fun x y H Q => ∃ dx dy, Dv H x dx ∧ Dv H y dy ∧ dx.depth ≤ 60 ∧ Q (.bl (c (PyData.eqv dx dy))) H
theorem op_eqD {X : Cx} (hu : X.A.units + 64 < cLine) : OpR X (compareOp .Eq) (rEqD fun b => b) := by
  intro pins s σ H x y v u Q I rx ry h
  obtain ⟨dx, dy, hx, hy, hd, q⟩ := h
  obtain ⟨as, ra⟩ := hx.reads I rx
  obtain ⟨bs, rb⟩ := hy.reads I ry
  exact SeqAt.compareEq_reads ra rb hx.can hy.can (by have := Nat.min_le_left dx.depth dy.depth; (first | lia | omega)) ⟨.bl _, H, I, rfl, q⟩
theorem op_neD {X : Cx} (hu : X.A.units + 64 < cLine) : OpR X (compareOp .NotEq) (rEqD fun b => !b) := by
  intro pins s σ H x y v u Q I rx ry h
  obtain ⟨dx, dy, hx, hy, hd, q⟩ := h
  obtain ⟨as, ra⟩ := hx.reads I rx
  obtain ⟨bs, rb⟩ := hy.reads I ry
  exact SeqAt.compareNe_reads ra rb hx.can hy.can (by have := Nat.min_le_left dx.depth dy.depth; (first | lia | omega)) ⟨.bl _, H, I, rfl, q⟩
theorem paired_left {α β : Type} {F : α → β → Prop} : ∀ {xs : List α} {ys : List β} {x : α}, Paired F xs ys → x ∈ xs → ∃ y, y ∈ ys ∧ F x y
  | _, _, _, .nil, h => by simp at h
  | _, _, _, .cons a r, h => by
    rcases List.mem_cons.mp h with e | e
    · exact ⟨_, List.mem_cons_self, by rw [e]; exact a⟩
    · obtain ⟨y, hy, q⟩ := paired_left r e
      exact ⟨y, List.mem_cons_of_mem _ hy, q⟩
theorem paired_imp {α β : Type} {F G : α → β → Prop} : ∀ {xs : List α} {ys : List β}, (∀ x y, x ∈ xs → F x y → G x y) → Paired F xs ys → Paired G xs ys
  | _, _, _, .nil => .nil
  | _, _, h, .cons a r => .cons (h _ _ List.mem_cons_self a) (paired_imp (fun x y hx q => h x y (List.mem_cons_of_mem _ hx) q) r)
noncomputable def Pq (H : Hp) (p : Addr) (q : Rat) : Prop := Pr H p q.num q.den
theorem Pq.keep {H H' : Hp} {p : Addr} {q : Rat} (h : Pq H p q) (s : Same H H') : Pq H' p q := s _ _ h
theorem Pq.sq {K : PySem.W.Frag} {H : Hp} {p : Addr} {q : Rat} (h : Pq H p q) : SqT K H p [.int q.num, .int q.den] := SqT.of h
theorem Pq.of {H : Hp} {p : Addr} {x y : Int} {q : Rat} (h : Pr H p x y) (e : q.num = x ∧ (q.den : Int) = y) : Pq H p q := by
  unfold Pq
  rw [e.1, e.2]
  exact h
noncomputable abbrev Pqs (H : Hp) : List Addr → List Rat → Prop := Paired (Pq H)
theorem Pqs.keep {H H' : Hp} {ps : List Addr} {qs : List Rat} (h : Pqs H ps qs) (s : Same H H') : Pqs H' ps qs := Paired.imp' (fun _ _ z => z.keep s) h
noncomputable def Rw (H : Hp) (a : Addr) (qs : List Rat) : Prop := ∃ ps : List Addr, H a = some (.lst (ps.map V.ref)) ∧ Pqs H ps qs
theorem Rw.keep {H H' : Hp} {a : Addr} {qs : List Rat} (h : Rw H a qs) (s : Same H H') : Rw H' a qs := by
  obtain ⟨ps, h1, h2⟩ := h
  exact ⟨ps, s _ _ h1, h2.keep s⟩
theorem Pqs.get : ∀ {H : Hp} {ps : List Addr} {qs : List Rat} {i : Nat} {q : Rat}, Pqs H ps qs → qs[i]? = some q → ∃ p, (ps.map V.ref)[i]? = some (.ref p) ∧ Pq H p q
  | _, _, _, 0, _, .cons h _, e => by cases e; exact ⟨_, rfl, h⟩
  | _, _, _, _ + 1, _, .cons _ r, e => by
    rw [List.getElem?_cons_succ] at e
    obtain ⟨p, h1, h2⟩ := Pqs.get r e
    exact ⟨p, by rw [List.map_cons, List.getElem?_cons_succ]; exact h1, h2⟩
theorem Pqs.take : ∀ {H : Hp} {ps : List Addr} {qs : List Rat} (n : Nat), Pqs H ps qs → Pqs H (ps.take n) (qs.take n)
  | _, _, _, 0, _ => .nil
  | _, _, _, _ + 1, .nil => .nil
  | _, _, _, n + 1, .cons h r => .cons h (Pqs.take n r)
theorem Pqs.append : ∀ {H : Hp} {ps rs : List Addr} {qs ts : List Rat}, Pqs H ps qs → Pqs H rs ts → Pqs H (ps ++ rs) (qs ++ ts)
  | _, _, _, _, _, .nil, k => k
  | _, _, _, _, _, .cons h r, k => .cons h (Pqs.append r k)
theorem Pqs.length {H : Hp} {ps : List Addr} {qs : List Rat} (h : Pqs H ps qs) : ps.length = qs.length := Paired.length h
noncomputable def dq (q : Rat) : PyData := .tuple [.int q.num, .int q.den]
noncomputable def dr (qs : List Rat) : PyData := .list (qs.map dq)
theorem Pq.dv {H : Hp} {p : Addr} {q : Rat} (h : Pq H p q) : Dv H (.ref p) (dq q) := .tup h (.cons (.int _) (.cons (.int _) .nil))
theorem Pqs.dv : ∀ {H : Hp} {ps : List Addr} {qs : List Rat}, Pqs H ps qs → DvAll H (ps.map V.ref) (qs.map dq)
  | _, _, _, .nil => .nil
  | _, _, _, .cons h r => .cons h.dv (Pqs.dv r)
theorem Rw.dv {H : Hp} {a : Addr} {qs : List Rat} (h : Rw H a qs) : Dv H (.ref a) (dr qs) := by
  obtain ⟨ps, h1, h2⟩ := h
  exact .lst h1 h2.dv
theorem eqv_dq (p q : Rat) : PyData.eqv (dq p) (dq q) = decide (p = q) := by
  show PyData.eqv (.tuple [.int p.num, .int p.den]) (.tuple [.int q.num, .int q.den]) = _
  simp only [PyData.eqv, PyData.eqvAll, Bool.and_true]
  by_cases h : p = q
  · subst h
    simp
  · rw [decide_eq_false h]
    by_cases h1 : p.num = q.num
    · have h2 : ¬ (p.den : Int) = (q.den : Int) := fun z => h (Rat.ext h1 (by (first | lia | omega)))
      have : ((p.den : Int) == (q.den : Int)) = false := by simpa using h2
      rw [this, Bool.and_false]
    · have : (p.num == q.num) = false := by simpa using h1
      rw [this, Bool.false_and]
theorem eqv_all (ps qs : List Rat) : PyData.eqvAll (ps.map dq) (qs.map dq) = decide (ps = qs) := by
  induction ps generalizing qs with
  | nil => cases qs <;> simp [PyData.eqvAll]
  | cons p ps ih =>
    cases qs with
    | nil => simp [PyData.eqvAll]
    | cons q qs =>
      rw [List.map_cons, List.map_cons, PyData.eqvAll, eqv_dq, ih]
      by_cases h : p = q <;> by_cases k : ps = qs <;> simp [h, k]
theorem eqv_dr (ps qs : List Rat) : PyData.eqv (dr ps) (dr qs) = decide (ps = qs) := by
  show PyData.eqv (.list _) (.list _) = _
  rw [PyData.eqv]
  exact eqv_all ps qs
theorem depth_dq (q : Rat) : (dq q).depth ≤ 2 := by
  show PyData.depth (.tuple [.int q.num, .int q.den]) ≤ 2
  simp [PyData.depth, PyData.depthAll]
theorem depthAll_dq (qs : List Rat) : PyData.depthAll (qs.map dq) ≤ 2 := by
  induction qs with
  | nil => simp [PyData.depthAll]
  | cons q qs ih =>
    rw [List.map_cons, PyData.depthAll]
    exact Nat.max_le.mpr ⟨depth_dq q, ih⟩
theorem depth_dr (qs : List Rat) : (dr qs).depth ≤ 3 := by
  show PyData.depth (.list _) ≤ 3
  rw [PyData.depth]
  have := depthAll_dq qs
  (first | lia | omega)
theorem Rw.updO {H : Hp} {a b : Addr} {xs ys : List V} {qs : List Rat} (h : Rw H b qs) (ha : H a = some (.lst xs)) (n : b ≠ a) : Rw (upd H a (.lst ys)) b qs := by
  obtain ⟨ps, h1, h2⟩ := h
  exact ⟨ps, by rw [upd_ne n]; exact h1, Paired.imp' (fun p q z => by
    have z' : H p = some (.tup [.int q.num, .int q.den]) := z
    show upd H a (.lst ys) p = _
    rw [upd_ne (ne_of z' ha (by intro w; cases w))]
    exact z') h2⟩
theorem Rw.lt {H : Hp} {a : Addr} {qs : List Rat} (h : Rw H a qs) : ∃ xs, H a = some (.lst xs) ∧ xs.length = qs.length := by
  obtain ⟨ps, h1, h2⟩ := h
  exact ⟨_, h1, by rw [List.length_map, h2.length]⟩
theorem atI_0 {α : Type} {xs : List α} {j : Nat} {v : α} (h : xs[j]? = some v) : atI xs (0 + (j : Int)) = some v := by
  rw [Int.zero_add]
  exact atI_nat h
theorem kit_lst_lst (K : PySem.W.Frag) : PySem.W.kitOne K (.type "list") (.type "list") = some true := rfl
theorem eqv_dr_self (qs : List Rat) : PyData.eqv (dr qs) (dr qs) = true := by rw [eqv_dr]; simp
noncomputable def drr (rss : List (List Rat)) : PyData := .list (rss.map dr)
theorem Rws.dv : ∀ {H : Hp} {as : List Addr} {rss : List (List Rat)}, Paired (Rw H) as rss → DvAll H (as.map V.ref) (rss.map dr)
  | _, _, _, .nil => .nil
  | _, _, _, .cons h r => .cons h.dv (Rws.dv r)
theorem depthAll_dr (rss : List (List Rat)) : PyData.depthAll (rss.map dr) ≤ 3 := by
  induction rss with
  | nil => simp [PyData.depthAll]
  | cons q qs ih =>
    rw [List.map_cons, PyData.depthAll]
    exact Nat.max_le.mpr ⟨depth_dr q, ih⟩
theorem depth_drr (rss : List (List Rat)) : (drr rss).depth ≤ 4 := by
  show PyData.depth (.list _) ≤ 4
  rw [PyData.depth]
  have := depthAll_dr rss
  (first | lia | omega)
theorem eqvAll_dr_self (rss : List (List Rat)) : PyData.eqvAll (rss.map dr) (rss.map dr) = true := by
  induction rss with
  | nil => rfl
  | cons r rss ih => rw [List.map_cons, PyData.eqvAll, eqv_dr_self, ih]; rfl
theorem eqv_drr_self (rss : List (List Rat)) : PyData.eqv (drr rss) (drr rss) = true := by
  show PyData.eqv (.list _) (.list _) = _
  rw [PyData.eqv]
  exact eqvAll_dr_self rss
noncomputable def Sx (S : List Addr) (H H' : Hp) : Prop := ∀ b o, b ∉ S → H b = some o → H' b = some o
theorem Rw.copy {H : Hp} {a c : Addr} {qs : List Rat} {xs : List V} (h : Rw H a qs) (e : H a = some (.lst xs)) (n : H c = none) : Rw (upd H c (.lst xs)) c qs := by
  obtain ⟨ps, e1, e2⟩ := h
  rw [e] at e1
  have e3 : xs = ps.map V.ref := by
    have := Option.some.inj e1
    injection this
  exact ⟨ps, by rw [upd_same, e3], e2.keep (same_upd n _)⟩
theorem Rw.there {H : Hp} {a : Addr} {qs : List Rat} (h : Rw H a qs) : ∃ xs, H a = some (.lst xs) ∧ xs.length = qs.length := h.lt
end L3

namespace L3
open PySem PySem.Spec PyProof.Rows L2 Ra
noncomputable def Itv (K : PySem.W.Frag) (a : Addr) (n : Nat) : It :=
  ⟨fun i H => i < n ∧ ∃ xs x, SqL K H a xs ∧ xs[n - 1 - i]? = some x, fun i H x H' => H' = H ∧ ∀ xs, SqL K H a xs → xs[n - 1 - i]? = some x, fun i _ => i = n⟩
theorem turn_rev {P : Program} {w : World} {K : PySem.W.Frag} {tg : Expr} (a it : Addr) (n : Nat) : Turn P w K tg (Itv K a n) [it] it (fun i h => h.IsRevIter it a ((n : Int) - 1 - (i : Int))) where
  mem := by simp
  obj := fun i h st b hb => by
    have e : b = it := by simpa using hb
    subst e
    obtain ⟨o, e, c, d⟩ := st
    exact ⟨o, e, fun v z => by rw [d] at z; cases z⟩
  keep := fun i h h' st k => st.at fun o e => k it (by simp) o e
  item := by
    intro X hP hw hK hc i pins s σ H E I hf st hg
    subst hP hw hK
    obtain ⟨hi, xs, x, hq, hx⟩ := hg
    obtain ⟨its, rv, p, hz⟩ := I.list hq
    obtain ⟨u, hu, ru⟩ := rv.get hx
    obtain ⟨f0, f1, f2, f3, f4, f5⟩ := hf it (by simp)
    have e : (n : Int) - 1 - (i : Int) = ((n - 1 - i : Nat) : Int) := by (first | lia | omega)
    rw [e] at st
    refine wpAny_pyNext_rev_item st p.isList (x := u) (by simpa using hu) fun h' st' sb => ?_
    have e2 : ((n - 1 - i : Nat) : Int) - 1 = (n : Int) - 1 - ((i + 1 : Nat) : Int) := by (first | lia | omega)
    rw [e2] at st'
    have I1 : Inv X pins σ H { s with heap := h' } := I.turned (t' := s.toks) (fun b o hb e => (sb.2 b hb).trans e) f0 f1 f3 f4 f5
    obtain ⟨o, e, c, d⟩ := id st'
    exact ⟨u, rfl, go_of (s := { s with heap := h' }) e c d (by decide) ⟨x, H, I1, ru, ⟨rfl, fun ys hy => by rw [I.list_inj hy hq]; exact hx⟩, st', fun b hb => (hf b hb).1⟩⟩
  done := by
    intro X hP hw hK hc i pins s σ H E I hf st hg
    subst hP hw hK
    have hi : i = n := hg
    subst hi
    obtain ⟨f0, f1, f2, f3, f4, f5⟩ := hf it (by simp)
    have e : (i : Int) - 1 - (i : Int) = -1 := by (first | lia | omega)
    rw [e] at st
    exact wpAny_pyNext_rev_end (I.ok.hd hc) st fun h' eb => ⟨rfl, I.turned (t' := s.toks) (fun b o hb e => eb b o hb e) f0 f1 f3 f4 f5⟩
  self := fun _ _ _ _ _ st h => wpAny_pyIter_revIter st h
noncomputable def iRev (K : PySem.W.Frag) (ta : TA) : TI := fun σ H R => ta σ H fun vs H1 => ∃ a xs, vs = [.ref a] ∧ SqL K H1 a xs ∧ R (Itv K a xs.length) H1
theorem pi_rev {X : Cx} {tg : Expr} {a : Expr} {ta : TA} {p pos : Pos} (hg : Gl X "reversed") (hm : X.mg "reversed" = none) (ha : PA X [a] ta) (hs : starEach [a] X.env = [(false, eval a X.env)] := by rfl) : PI X tg (.Call (.Name "reversed" p) [a] [] pos) (iRev X.K ta) := by
  intro pins s σ H R I h
  refine Call_ (ld_blt I hg hm boot_reversed (PyProof.Rows.callWith_type1 (thn (ha pos pins s σ H _ I h) fun us s1 ⟨vs, H1, I1, r1, q1⟩ => ?_) hs rfl))
  obtain ⟨l, xs, e, hq, q⟩ := q1
  subst e
  cases r1 with
  | cons r rr =>
    cases rr
    cases r
    obtain ⟨its, rv, pl, hz⟩ := I1.list hq
    have hl := rv.length
    refine call_reversed_list pl.isList ?_
    have e1 : ((its.toArray.size : Nat) : Int) - 1 = (xs.length : Int) - 1 := by rw [List.size_toArray, ← hl]
    rw [e1]
    have I2 : Inv X pins σ H1 { s1 with heap := s1.heap.push (revObj l ((xs.length : Int) - 1)) } := I1.kept (t' := s1.toks) fun b o e => Heap.get?_push_of_some _ e
    have st : (s1.heap.push (revObj l ((xs.length : Int) - 1))).IsRevIter s1.heap.objs.size l ((xs.length : Int) - 1) := ⟨_, Heap.get?_push_size _ rfl, rfl, rfl⟩
    refine wpAny_pyIter_revIter st ?_
    refine ⟨s1.heap.objs.size, [s1.heap.objs.size], _, _, H1, rfl, I2, turn_rev l _ xs.length, by simpa using st, fun b hb => ?_, q⟩
    have e : b = s1.heap.objs.size := by simpa using hb
    subst e
    exact I1.fpOk (Nat.le_refl _) (I1.hok.fresh (Nat.le_refl _))
theorem for_rev {K : PySem.W.Frag} {a : Addr} {xs : List V} {g : TG} {tb : TS} {D : Ends} {σ : L2.St} {H : Hp} (Pv : Nat → L2.St → Hp → Prop) (h0 : Pv 0 σ H) (hl : ∀ i σ H, i ≤ xs.length → Pv i σ H → SqL K H a xs)
    (hs : ∀ i x σ H, xs.reverse[i]? = some x → Pv i σ H → g x σ H fun σ2 H2 => tb { D with nx := Pv (i + 1), ct := Pv (i + 1), bk := D.nx } σ2 H2) (hd : ∀ σ H, Pv xs.length σ H → D.nx σ H) :
    ∃ W : Nat → Nat → L2.St → Hp → Prop, (∃ m, W 0 m σ H) ∧ ∀ i m σ H, W i m σ H →
      ((Itv K a xs.length).stop i H ∧ D.nx σ H) ∨ ((Itv K a xs.length).go i H ∧ ∃ N : L2.St → Hp → Prop, (∀ σ' H', N σ' H' → ∃ m', m' < m ∧ W (i + 1) m' σ' H') ∧ ∀ x H', (Itv K a xs.length).yld i H x H' → g x σ H' fun σ2 H2 => tb { D with nx := N, ct := N, bk := D.nx } σ2 H2) := by
  refine ⟨fun i m σ H => m = xs.length - i ∧ i ≤ xs.length ∧ Pv i σ H, ⟨xs.length, by simp, Nat.zero_le _, h0⟩, ?_⟩
  rintro i m σ H ⟨rfl, hi, p⟩
  have q := hl i σ H hi p
  by_cases hlt : i < xs.length
  · refine .inr ⟨⟨hlt, xs, _, q, List.getElem?_eq_getElem (by (first | lia | omega))⟩, Pv (i + 1), fun σ' H' p' => ⟨xs.length - (i + 1), by (first | lia | omega), rfl, hlt, p'⟩, fun x H' y => ?_⟩
    obtain ⟨e, y⟩ := y
    subst e
    refine hs i x σ _ ?_ p
    rw [List.getElem?_reverse hlt]
    exact y xs q
  · have e : i = xs.length := by (first | lia | omega)
    subst e
    exact .inl ⟨rfl, hd σ H p⟩
theorem gen_int {i : Nat} {σ : L2.St} {H : Hp} {Q : L2.St → Hp → Prop} {P : Int → Prop} (x : Int) (hx : P x) (h : ∀ y : Int, P y → gName i (.int y) σ H Q) : gName i (.int x) σ H Q := h x hx
noncomputable def tCutS (t : TS) : TS := fun D σ H => ∃ Mid : L2.St → Hp → Prop, (∀ σ' H', Mid σ' H' → D.nx σ' H') ∧ t { D with nx := Mid } σ H
theorem ps_cut {X : Cx} {st : Stmt} {t : TS} (h : PS X st t) : PS X st (tCutS t) := by
  intro pins s σ H D I hw
  obtain ⟨Mid, hm, hw⟩ := hw
  refine thn (h pins s σ H _ I hw) fun f s1 q => ?_
  cases f with
  | next =>
    obtain ⟨σ', H', I', q⟩ := q
    exact ⟨σ', H', I', hm _ _ q⟩
  | ret v => exact q
  | brk => exact q
  | cont => exact q
theorem Pq.updL {H : Hp} {D p : Addr} {xs ys : List V} {q : Rat} (h : H D = some (.lst xs)) (k : Pq H p q) : Pq (upd H D (.lst ys)) p q := by
  unfold Pq Pr
  rw [upd_ne (ne_of k h (by intro z; cases z))]
  exact k
theorem Pqs.updL {H : Hp} {D : Addr} {xs ys : List V} {ps : List Addr} {qs : List Rat} (h : H D = some (.lst xs)) (k : Pqs H ps qs) : Pqs (upd H D (.lst ys)) ps qs := Paired.imp' (fun _ _ z => z.updL h) k
theorem same_updF {H1 H : Hp} {D : Addr} (s : Same H1 H) (hD : H1 D = none) (o : HO) : Same H1 (upd H D o) := fun b u q => by rw [upd_ne (ne_of_none q hD)]; exact s b u q
theorem comp_intsQ {K : PySem.W.Frag} {a : Addr} {ns : List Int} {te : Shared → Hp → Addr → List Addr → TE} {js : List Nat} {σ : L2.St} {H1 : Hp} {Q : VK} (hn : ns.length ≤ 100000) (ha : H1 a = some (.lst (ns.map V.int))) (f : Int → Rat)
    (hs : ∀ s₀ H₀ C ex n H (R : VK), n ∈ ns → Same H1 H → (∀ p' H2, Same H H2 → Pq H2 p' (f n) → R (.ref p') H2) → te s₀ H₀ C ex (some (.int n) :: js.map fun j => (σ[j]?).join) H R)
    (hd : ∀ H D, Same H1 H → H1 D = none → Rw H D (ns.map f) → Q (.ref D) H) : CompAt (Itl K a) te js σ Q H1 := by
  intro D hD
  refine ⟨fun i m ys H => m = ns.length - i ∧ i ≤ ns.length ∧ (∃ ps, ys = ps.map V.ref ∧ Pqs H ps ((ns.take i).map f)) ∧ Same H1 H ∧ H D = some (.lst ys), ⟨ns.length, by simp, Nat.zero_le _, ⟨[], rfl, .nil⟩, same_upd hD _, upd_same⟩, ?_⟩
  rintro i m ys H ⟨rfl, hi, ⟨ps, rfl, hp⟩, sm, hDl⟩
  refine ⟨hDl, ?_⟩
  have hr := sm _ _ ha
  by_cases hlt : i < ns.length
  · have eq : ns[i]? = some ns[i] := List.getElem?_eq_getElem hlt
    have h0 : (ns.map V.int)[i]? = some (.int ns[i]) := by rw [List.getElem?_map, eq]; rfl
    refine .inr ⟨⟨_, _, SqL.of hr, h0⟩, fun x H' y s₀ H₀ C ex => ?_⟩
    obtain ⟨e, y⟩ := y
    subst e
    have ex' := y _ (SqL.of hr)
    rw [h0] at ex'
    cases ex'
    refine hs s₀ H₀ C ex _ H' _ (List.getElem_mem hlt) sm fun p H2 s2 kp => ?_
    have h2 := s2 _ _ hDl
    have hp2 := hp.keep s2
    have hl := hp.length
    rw [List.length_map, List.length_take] at hl
    have hz : (100000 : Nat) < sizeLine := by decide
    refine ⟨h2, by rw [List.length_map]; (first | lia | omega), ns.length - (i + 1), by (first | lia | omega), rfl, hlt, ⟨ps ++ [p], by simp, ?_⟩, same_updF (sm.trans s2) hD _, upd_same⟩
    rw [List.take_succ, eq, List.map_append]
    exact (hp2.updL h2).append (.cons (kp.updL h2) .nil)
  · have e : i = ns.length := by (first | lia | omega)
    subst e
    rw [List.take_length] at hp
    exact .inl ⟨⟨_, SqL.of hr, by rw [List.length_map]; (first | lia | omega)⟩, hd H D sm hD ⟨ps, hDl, hp⟩⟩
end L3

namespace L3
open PySem PySem.Spec PyProof.Rows L2 Ra
theorem execs_app (a b : List Stmt) (env : Env) : execs (a ++ b) env = (do match ← execs a env with | .next => execs b env | f => pure f) := by
  induction a with
  | nil =>
    rw [List.nil_append, execs_nil, pure_bind]
  | cons st rest ih =>
    rw [List.cons_append, execs_cons, execs_cons, bind_assoc]
    congr 1
    funext f
    cases f with
    | next => exact ih
    | _ => rw [pure_bind]
noncomputable def tSplit (t u : TS) : TS := fun D σ H => ∃ Mid : L2.St → Hp → Prop, (∀ σ' H', Mid σ' H' → u D σ' H') ∧ t { D with nx := Mid } σ H
theorem pss_split {X : Cx} {ss : List Stmt} {t u : TS} (k : Nat) (h1 : PSs X (ss.take k) t) (h2 : PSs X (ss.drop k) u) : PSs X ss (tSplit t u) := by
  intro pins s σ H D I hw
  obtain ⟨Mid, hm, hw⟩ := hw
  rw [← List.take_append_drop k ss, execs_app]
  refine wpAny_bind (thn (h1 pins s σ H _ I hw) fun f s1 q => ?_)
  cases f with
  | next =>
    obtain ⟨σ', H', I', q⟩ := q
    exact h2 pins s1 σ' H' D I' (hm σ' H' q)
  | brk => exact wpAny_pure q
  | cont => exact wpAny_pure q
  | ret u => exact wpAny_pure q
end L3

namespace L3
open PySem PySem.Spec PyProof.Rows L2 Ra Rq
theorem Rws.keep {H H' : Hp} {as : List Addr} {rss : List (List Rat)} (h : Paired (Rw H) as rss) (s : Same H H') : Paired (Rw H') as rss := Paired.imp' (fun _ _ z => z.keep s) h
theorem Rws.updO {H : Hp} {D : Addr} {xs ys : List V} {as : List Addr} {rss : List (List Rat)} (h : Paired (Rw H) as rss) (ha : H D = some (.lst xs)) (n : D ∉ as) : Paired (Rw (upd H D (.lst ys))) as rss :=
  paired_imp (fun x y hx z => z.updO ha fun e => n (e ▸ hx)) h
theorem comp_rows {K : PySem.W.Frag} {a : Addr} {as : List Addr} {rss : List (List Rat)} {te : Shared → Hp → Addr → List Addr → TE} {js : List Nat} {σ : L2.St} {H1 : Hp} {Q : VK} (hn : as.length ≤ 100000) (ha : H1 a = some (.lst (as.map V.ref))) (hr : Paired (Rw H1) as rss)
    (hs : ∀ s₀ H₀ C ex p rs H (R : VK), p ∈ as → Rw H p rs → Same H1 H → (∀ r H2, Same H H2 → H r = none → Rw H2 r rs → R (.ref r) H2) → te s₀ H₀ C ex (some (.ref p) :: js.map fun j => (σ[j]?).join) H R)
    (hd : ∀ H D cs, Same H1 H → H1 D = none → H D = some (.lst (cs.map V.ref)) → Paired (Rw H) cs rss → (∀ c ∈ cs, H1 c = none) → D ∉ cs → Q (.ref D) H) : CompAt (Itl K a) te js σ Q H1 := by
  intro D hD
  have hlr : as.length = rss.length := Paired.length hr
  refine ⟨fun i m ys H => m = as.length - i ∧ i ≤ as.length ∧ (∃ cs, ys = cs.map V.ref ∧ cs.length = i ∧ Paired (Rw H) cs (rss.take i) ∧ (∀ c ∈ cs, H1 c = none) ∧ D ∉ cs) ∧ Same H1 H ∧ H D = some (.lst ys), ⟨as.length, by simp, Nat.zero_le _, ⟨[], rfl, rfl, .nil, fun c h => absurd h (by simp), by simp⟩, same_upd hD _, upd_same⟩, ?_⟩
  rintro i m ys H ⟨rfl, hi, ⟨cs, rfl, hc, hp, hf, hDc⟩, sm, hDl⟩
  refine ⟨hDl, ?_⟩
  have hr' := sm _ _ ha
  by_cases hlt : i < as.length
  · have eqa : (as.map V.ref)[i]? = some (.ref as[i]) := by rw [List.getElem?_map, List.getElem?_eq_getElem hlt]; rfl
    have hlt2 : i < rss.length := by (first | lia | omega)
    have eqr : rss[i]? = some rss[i] := List.getElem?_eq_getElem hlt2
    refine .inr ⟨⟨_, _, SqL.of hr', eqa⟩, fun x H' y s₀ H₀ C ex => ?_⟩
    obtain ⟨e, y⟩ := y
    subst e
    have ex' := y _ (SqL.of hr')
    rw [eqa] at ex'
    cases ex'
    have kr : Rw H' as[i] rss[i] := by
      have : ∀ {xs : List Addr} {zs : List (List Rat)} {i : Nat} (h1 : i < xs.length) (h2 : i < zs.length), Paired (Rw H1) xs zs → Rw H1 xs[i] zs[i] := by
        intro xs zs i h1 h2 hpp
        induction hpp generalizing i with
        | nil => simp at h1
        | cons x _ ih =>
          cases i with
          | zero => exact x
          | succ i => exact ih _ _
      exact (this hlt hlt2 hr).keep sm
    refine hs s₀ H₀ C ex as[i] _ H' _ (List.getElem_mem hlt) kr sm fun r H2 s2 nr rr => ?_
    have h2 := s2 _ _ hDl
    have nrD : r ≠ D := fun z => by rw [z, hDl] at nr; cases nr
    have hz : (100000 : Nat) < sizeLine := by decide
    refine ⟨h2, by rw [List.length_map]; (first | lia | omega), as.length - (i + 1), by (first | lia | omega), rfl, hlt, ⟨cs ++ [r], by simp, by simp [hc], ?_, fun c hc' => ?_, fun z => ?_⟩, same_updF (sm.trans s2) hD _, upd_same⟩
    · rw [List.take_succ, eqr]
      have app : ∀ {xs us : List Addr} {zs vs : List (List Rat)} {HH : Hp}, Paired (Rw HH) xs zs → Paired (Rw HH) us vs → Paired (Rw HH) (xs ++ us) (zs ++ vs) := by
        intro xs us zs vs HH h k
        induction h with
        | nil => exact k
        | cons x _ ih => exact .cons x ih
      exact app (Rws.updO (Rws.keep hp s2) h2 hDc) (.cons (rr.updO h2 nrD) .nil)
    · rcases List.mem_append.mp hc' with z | z
      · exact hf c z
      · have : c = r := by simpa using z
        rw [this]
        exact sm.free nr
    · rcases List.mem_append.mp z with z | z
      · exact hDc z
      · have : D = r := by simpa using z
        exact nrD this.symm
  · have e : i = as.length := by (first | lia | omega)
    subst e
    rw [hlr, List.take_length] at hp
    exact .inl ⟨⟨_, SqL.of hr', by rw [List.length_map]; (first | lia | omega)⟩, hd H D cs sm hD hDl hp hf hDc⟩
end L3

namespace L3
open PySem PySem.Spec PyProof.Rows L2 Ra Rq
noncomputable def Rc (H : Hp) (rc : Addr × List Addr) (row : List (List Rat)) : Prop := H rc.1 = some (.lst (rc.2.map V.ref)) ∧ Paired (Rw H) rc.2 row
theorem Rc.keep {H H' : Hp} {rc : Addr × List Addr} {row : List (List Rat)} (h : Rc H rc row) (s : Same H H') : Rc H' rc row := ⟨s _ _ h.1, Rws.keep h.2 s⟩
noncomputable def al (rcs : List (Addr × List Addr)) : List Addr := (rcs.map fun rc => rc.1 :: rc.2).flatten
end L3
namespace L3
open PySem PySem.Spec PyProof.Rows L2 Ra Rq
end L3

namespace L3
open PySem PySem.Spec PyProof.Rows L2 Ra
noncomputable def Tq (H : Hp) (r : Addr) (x : Rat × Rat) : Prop := ∃ p q, H r = some (.tup [.ref p, .ref q]) ∧ Pq H p x.1 ∧ Pq H q x.2
noncomputable abbrev Tqs (H : Hp) : List Addr → List (Rat × Rat) → Prop := Paired (Tq H)
theorem paired_get {α β : Type} {F : α → β → Prop} : ∀ {xs : List α} {ys : List β} {i : Nat} {y : β}, Paired F xs ys → ys[i]? = some y → ∃ x, xs[i]? = some x ∧ F x y
  | _, _, 0, _, .cons h _, e => by cases e; exact ⟨_, rfl, h⟩
  | _, _, _ + 1, _, .cons _ r, e => by
    rw [List.getElem?_cons_succ] at e
    obtain ⟨x, h1, h2⟩ := paired_get r e
    exact ⟨x, by rw [List.getElem?_cons_succ]; exact h1, h2⟩
noncomputable def Rp (H : Hp) (a : Addr) (qs : List (Rat × Rat)) : Prop := ∃ ps : List Addr, H a = some (.lst (ps.map V.ref)) ∧ Tqs H ps qs
end L3

namespace L3
open PySem PySem.Spec PyProof.Rows L2 Ra
noncomputable def Itz (K : PySem.W.Frag) (a b : Addr) : It :=
  ⟨fun i H => ∃ xs ys x y, SqL K H a xs ∧ SqL K H b ys ∧ xs[i]? = some x ∧ ys[i]? = some y,
   fun i H v H' => ∃ T x y, v = .ref T ∧ H T = none ∧ H' = upd H T (.tup [x, y]) ∧ (∀ xs, SqL K H a xs → xs[i]? = some x) ∧ ∀ ys, SqL K H b ys → ys[i]? = some y,
   fun i H => ∃ xs ys, SqL K H a xs ∧ SqL K H b ys ∧ (xs.length ≤ i ∨ ys.length ≤ i)⟩
noncomputable def iZip (K : PySem.W.Frag) (ta : TA) : TI := fun σ H R => ta σ H fun vs H1 => ∃ a b, vs = [.ref a, .ref b] ∧ (∃ xs, SqL K H1 a xs) ∧ (∃ ys, SqL K H1 b ys) ∧ R (Itz K a b) H1
end L3

namespace L3
open PySem PySem.Spec PyProof.Rows L2 Ra Rq
theorem comp_listZ {K : PySem.W.Frag} {a : Addr} {qs : List Rat} {te : Shared → Hp → Addr → List Addr → TE} {js : List Nat} {σ : L2.St} {H1 : Hp} {Q : VK} (hn : qs.length ≤ 100000) (ha : Rw H1 a qs) (f : Rat → Int)
    (hs : ∀ s₀ H₀ C ex p q H (R : VK), q ∈ qs → Pq H p q → Same H1 H → R (.int (f q)) H → te s₀ H₀ C ex (some (.ref p) :: js.map fun j => (σ[j]?).join) H R)
    (hd : ∀ H D, Same H1 H → H1 D = none → H D = some (.lst ((qs.map f).map V.int)) → Q (.ref D) H) : CompAt (Itl K a) te js σ Q H1 := by
  intro D hD
  obtain ⟨rs, hrs, kr⟩ := ha
  have hlr := kr.length
  refine ⟨fun i m ys H => m = qs.length - i ∧ i ≤ qs.length ∧ ys = ((qs.take i).map f).map V.int ∧ Same H1 H ∧ H D = some (.lst ys), ⟨qs.length, by simp, Nat.zero_le _, rfl, same_upd hD _, upd_same⟩, ?_⟩
  rintro i m ys H ⟨rfl, hi, rfl, sm, hDl⟩
  refine ⟨hDl, ?_⟩
  have hr := sm _ _ hrs
  by_cases hlt : i < qs.length
  · have eq : qs[i]? = some qs[i] := List.getElem?_eq_getElem hlt
    obtain ⟨p0, h0, k0⟩ := (kr.keep sm).get eq
    refine .inr ⟨⟨_, _, SqL.of hr, h0⟩, fun x H' y s₀ H₀ C ex => ?_⟩
    obtain ⟨e, y⟩ := y
    subst e
    have ex' := y _ (SqL.of hr)
    rw [h0] at ex'
    cases ex'
    refine hs s₀ H₀ C ex p0 _ H' _ (List.getElem_mem hlt) k0 sm ?_
    have hz : (100000 : Nat) < sizeLine := by decide
    refine ⟨hDl, by rw [List.length_map, List.length_map, List.length_take]; (first | lia | omega), qs.length - (i + 1), by (first | lia | omega), rfl, hlt, ?_, ?_, upd_same⟩
    · rw [List.take_succ, eq, List.map_append, List.map_append]; rfl
    · intro b o e
      rw [upd_ne (ne_of_none e hD)]
      exact sm _ _ e
  · have e : i = qs.length := by (first | lia | omega)
    subst e
    rw [List.take_length] at hDl
    exact .inl ⟨⟨_, SqL.of hr, by rw [List.length_map]; (first | lia | omega)⟩, hd H D sm hD hDl⟩
noncomputable def cnt (p : Nat → Bool) : Nat → Nat
  | 0 => 0
  | n + 1 => cnt p n + if p n then 1 else 0
end L3

namespace L3
open PySem PySem.Spec PyProof.Rows L2 Ra
theorem hu1 {k : Nat} {A : Around} (r : Room k A) : A.units + 1 < cLine := by have := r.un; (first | lia | omega)
section
variable {prog : Program} {w : World} {A : Around} {E : Value → Shared → Prop} {s : Shared}
theorem iter_dictR {d : Addr} {o : Obj} {es : Array DictEntry} {ep : Nat} {Q : Value → Shared → Prop} (hd : (d == sysModules) = false) (ho : s.heap.get? d = some o) (hc : o.ExactDict) (hdat : o.data = .dict es ep)
    (hQ : Q (.ref s.heap.objs.size) { s with heap := s.heap.push { cls := .type "dict_keyiterator", data := .fields #[.ref d, .int 0 0, .int es.size 0, .int ep 0] } }) :
    wpAny (model prog w) A (pyIter (.ref d)) Q E s := by
  have hT : s.TypeIs (.ref d) "dict" := ⟨o, ho, hc.1⟩
  refine wpAny_pyIter_slot hT F.slot_dict_iter (wpAny_call_entry F.slot_dict_iter hT F.entry_dict_iter ?_ (F.args_dict_iter_1 _))
  unfold Builtin.«dict.__iter__»
  refine wpAny_bind ?_
  unfold Builtin.Dict.dictSlotNone
  refine wpAny_bind (wpAny_notOrdered_dict hT ?_)
  show wpAny _ _ (pure (Value.ref d)) _ _ s
  refine wpAny_pure ?_
  show wpAny _ _ (Builtin.Dict.showsAll d >>= _) _ _ s
  unfold Builtin.Dict.showsAll
  rw [if_neg (by rw [hd]; exact Bool.false_ne_true)]
  refine wpAny_bind (wpAny_pure ?_)
  refine wpAny_bind (wpAny_dictEntries ho hdat ?_)
  refine wpAny_bind (wpAny_dictEpoch ho hdat ?_)
  refine wpAny_bind (wpAny_newObj_type (wpAny_pure ⟨_, rfl, "dict_keyiterator", _, ⟨_, Heap.get?_push_size _ rfl, rfl⟩, F.slot_dict_keyiterator_next.lookup, ?_⟩))
  simpa [rawInt] using hQ
theorem next_dictR {it d : Addr} {i ep : Nat} {od : Obj} {es : Array DictEntry} {Q : Option Value → Shared → Prop} (hit : s.heap.IsKeyIter it d i es.size ep) (hod : s.heap.get? d = some od) (hdd : od.data = .dict es ep) (hlt' : i < es.size)
    (hQ : ∀ h', h'.IsKeyIter it d (i + 1) es.size ep → Heap.SameBut it s.heap h' → Q (some es[i].key) { s with heap := h' }) :
    wpAny (model prog w) A (pyNext (.ref it)) Q E s := by
  obtain ⟨o, ho, hc, hd⟩ := id hit
  unfold pyNext
  refine wpAny_bind (wpAny_attempt (wpAny_callSpecial?_slot (name := Str.ofString "__next__") hit.typeIs F.slot_dict_keyiterator_next
    (wpAny_call_entry F.slot_dict_keyiterator_next hit.typeIs F.entry_dict_keyiterator_next ?_ (F.args_dict_keyiterator_next_1 _))))
  refine wpAny_bind (wpAny_pure ?_)
  refine wpAny_bind ?_
  refine wpAny_bind ?_
  first | refine wpAny_bind (wpAny_typeNameOfWhole_keyiter hit.typeIs (wpAny_pure ?_)) | refine wpAny_bind (wpAny_typeNameOf_keyiter hit.typeIs (wpAny_pure ?_))
  refine wpAny_bind (wpAny_fieldsOf ho hd ?_)
  have hown : Builtin.Dict_items.ownsTuple "dict_keyiterator" = false := by decide
  simp only [hown, Bool.false_eq_true, if_false]
  show wpAny _ _ (if (Value.ref d == Value.none) = true then _ else _) _ _ s
  rw [if_neg (show ¬ ((Value.ref d == Value.none) = true) from Bool.false_ne_true)]
  refine wpAny_bind (wpAny_pure ?_)
  refine wpAny_bind (wpAny_dictEntries hod hdd ?_)
  rw [if_neg (by simp)]
  refine wpAny_bind (wpAny_pure ?_)
  refine wpAny_bind (wpAny_dictEpoch hod hdd ?_)
  rw [if_neg (by simp)]
  refine wpAny_pure ?_
  simp only [show ¬ ((i : Int) < 0) from by (first | lia | omega), if_false, Int.toNat_natCast, Array.getElem?_eq_getElem hlt']
  refine wpAny_bind ?_
  first | refine wpAny_bind (wpAny_typeNameOfWhole_keyiter hit.typeIs (wpAny_pure ?_)) | refine wpAny_bind (wpAny_typeNameOf_keyiter hit.typeIs (wpAny_pure ?_))
  refine wpAny_bind (wpAny_isOneOf_keyiter hit.typeIs ?_)
  show wpAny _ _ (setField (.ref it) 1 (rawInt ((i : Int) + 1)) >>= _) _ _ s
  refine wpAny_bind (wpAny_setField ho hd (by simp) ?_)
  have hit' : (s.heap.update it (Obj.mapFields (·.setIfInBounds 1 (rawInt ((i : Int) + 1))))).IsKeyIter it d (i + 1) es.size ep :=
    ⟨_, Heap.get?_update_self _ ho (Obj.isFreed_of_fields (Obj.data_mapFields hd _)), (Obj.cls_mapFields ..).trans hc, by rw [Obj.data_mapFields hd]; simp [rawInt]⟩
  refine wpAny_bind (wpAny_holding ?_)
  refine wpAny_bind (wpAny_isOneOf_keyiter (s := { s with heap := s.heap.update it (Obj.mapFields (·.setIfInBounds 1 (rawInt ((i : Int) + 1)))) }) hit'.typeIs ?_)
  show wpAny _ _ (pure es[i].key) _ _ _
  exact wpAny_pure (wpAny_pure ⟨_, rfl, wpAny_pure (hQ _ hit' (Heap.SameBut.update ..))⟩)
theorem stop_dictR {it d : Addr} {i ep : Nat} {od : Obj} {es : Array DictEntry} {Q : Option Value → Shared → Prop} (hh : A.handled = none) (hit : s.heap.IsKeyIter it d i es.size ep) (hod : s.heap.get? d = some od) (hdd : od.data = .dict es ep) (hge : es.size ≤ i)
    (hQ : ∀ h', Heap.ExtBut it s.heap h' → Q none { s with heap := h' }) : wpAny (model prog w) A (pyNext (.ref it)) Q E s := by
  obtain ⟨o, ho, hc, hd⟩ := id hit
  unfold pyNext
  refine wpAny_bind (wpAny_attempt (wpAny_callSpecial?_slot (name := Str.ofString "__next__") hit.typeIs F.slot_dict_keyiterator_next
    (wpAny_call_entry F.slot_dict_keyiterator_next hit.typeIs F.entry_dict_keyiterator_next ?_ (F.args_dict_keyiterator_next_1 _))))
  refine wpAny_bind (wpAny_pure ?_)
  refine wpAny_bind ?_
  refine wpAny_bind ?_
  first | refine wpAny_bind (wpAny_typeNameOfWhole_keyiter hit.typeIs (wpAny_pure ?_)) | refine wpAny_bind (wpAny_typeNameOf_keyiter hit.typeIs (wpAny_pure ?_))
  refine wpAny_bind (wpAny_fieldsOf ho hd ?_)
  have hown : Builtin.Dict_items.ownsTuple "dict_keyiterator" = false := by decide
  simp only [hown, Bool.false_eq_true, if_false]
  show wpAny _ _ (if (Value.ref d == Value.none) = true then _ else _) _ _ s
  rw [if_neg (show ¬ ((Value.ref d == Value.none) = true) from Bool.false_ne_true)]
  refine wpAny_bind (wpAny_pure ?_)
  refine wpAny_bind (wpAny_dictEntries hod hdd ?_)
  rw [if_neg (by simp)]
  refine wpAny_bind (wpAny_pure ?_)
  refine wpAny_bind (wpAny_dictEpoch hod hdd ?_)
  rw [if_neg (by simp)]
  refine wpAny_pure ?_
  simp only [show ¬ ((i : Int) < 0) from by (first | lia | omega), if_false, Int.toNat_natCast, Array.getElem?_eq_none hge]
  refine wpAny_bind ?_
  first | refine wpAny_bind (wpAny_typeNameOfWhole_keyiter hit.typeIs (wpAny_pure ?_)) | refine wpAny_bind (wpAny_typeNameOf_keyiter hit.typeIs (wpAny_pure ?_))
  show wpAny _ _ (setField (.ref it) 0 .none >>= _) _ _ s
  refine wpAny_bind (wpAny_setField ho hd (by simp) ?_)
  show wpAny _ _ (newExc (.type "StopIteration") [] >>= _) _ _ _
  refine wpAny_bind ?_
  simp only [newExc, newTuple]
  refine wpAny_bind (wpAny_newObj_type ?_ (by size_fits))
  refine wpAny_bind (m := firstArgMember _ _) (wpAny_of_eq (a := Value.none) (by first | rfl | (simp only [firstArgMember]; rfl)) ?_)
  refine wpAny_newObj_type ?_ (by size_fits)
  simp only [raiseNew]
  refine wpAny_bind (wpAny_handled ?_)
  rw [show A.in1.handled = none from hh]
  refine wpAny_bind (wpAny_pure (wpAny_throw ?_))
  refine wpAny_bind (wpAny_isInstance (T := "StopIteration") (b := true) ⟨_, Heap.get?_push_size _ rfl, rfl⟩ isSubtype_stop ?_)
  exact wpAny_pure (hQ _ (((Heap.SameBut.update ..).extBut.push _).push _))
end
theorem freeze {X : Cx} {pins : List (Addr × Obj)} {σ : L2.St} {H : Hp} {s : Shared} {a : Addr} {kvs : List (List Key × V)} {o : Obj} (I : Inv X pins σ H s) (ha : H a = some (.dT kvs)) (ho : s.heap.get? a = some o) : Inv X pins σ (upd H a (.frz o (.dT kvs))) s := by
  have ne : ∀ b u, H b = some u → (∀ k, u ≠ .dT k) → b ≠ a := fun b u q n z => by
    rw [z, ha] at q
    cases q
    exact n _ rfl
  have na : ∀ b, H b = none → b ≠ a := fun b q z => by rw [z, ha] at q; cases q
  refine ⟨I.ok, I.os, I.bare, ⟨I.base.keep, I.base.slot, fun b ob q n h2 => ?_, I.base.there, fun b xs q => ?_, fun b ob u q => ?_, fun b ps q => ?_⟩, I.loc, I.cell, ?_, fun x c e => ?_, fun p hq => ?_, fun b ob q => ?_, I.len⟩
  · have q1 := I.base.free b ob q n h2
    rw [upd_ne (na b q1)]
    exact q1
  · have q1 := I.base.tups b xs q
    rw [upd_ne (ne b _ q1 fun k z => nomatch z)]
    exact q1
  · have q1 := I.base.frzs b ob u q
    rw [upd_ne (ne b _ q1 fun k z => nomatch z)]
    exact q1
  · obtain ⟨mr, q1⟩ := I.base.tbls b ps q
    exact ⟨mr, by rw [upd_ne (ne b _ q1 fun k z => nomatch z)]; exact q1⟩
  · rw [upd_ne (na _ I.free)]
    exact I.free
  · have := I.freeC x c e
    rw [upd_ne (na _ this)]
    exact this
  · obtain ⟨q1, q2, q3⟩ := I.pin p hq
    exact ⟨q1, by rw [upd_ne (na _ q2)]; exact q2, q3⟩
  · have stay : ∀ {b : Addr} {u : HO}, ObjOk X.prog X.w H s.heap b u → ObjOk X.prog X.w (upd H a (.frz o (.dT kvs))) s.heap b u := fun {b u} x => x.stay (fun _ _ _ z => z) (fun c z => by rw [upd_ne (ne c _ z fun k z => nomatch z)]; exact z) fun c xs z => by rw [upd_ne (ne c _ z fun k z => nomatch z)]; exact z
    by_cases hb : b = a
    · subst hb
      rw [upd_same] at q
      cases q
      exact ⟨ho, stay (I.hok b _ ha)⟩
    · rw [upd_ne hb] at q
      exact stay (I.hok b ob q)
theorem pairedAt {α β : Type} {R : α → β → Prop} : ∀ {xs : List α} {ys : List β}, Paired R xs ys → ∀ {i : Nat} {y : β}, ys[i]? = some y → ∃ x, xs[i]? = some x ∧ R x y
  | _, _, .nil, _, _, h => by simp at h
  | _, _, .cons r t, 0, _, h => ⟨_, rfl, by
    have := Option.some.inj h
    rw [← this]
    exact r⟩
  | _, _, .cons r t, i + 1, y, h => by
    obtain ⟨x, h1, h2⟩ := pairedAt t (i := i) (y := y) (by simpa using h)
    exact ⟨x, by simpa using h1, h2⟩
noncomputable def Itk (a : Addr) (o : Obj) (kvs : List (List Key × V)) : It :=
  ⟨fun i H => H a = some (.frz o (.dT kvs)) ∧ i < kvs.length, fun i H x H' => H' = H ∧ ∃ b p, kvs[i]? = some p ∧ x = .ref b ∧ H b = some (.tup (p.1.map kV)), fun i H => H a = some (.frz o (.dT kvs)) ∧ kvs.length ≤ i⟩
theorem turn_dictT {P : Program} {w : World} {K : PySem.W.Frag} {tg : Expr} (a it : Addr) {o : Obj} {kvs : List (List Key × V)} {es : Array DictEntry} {ep : Nat} (hdat : o.data = .dict es ep) (hn : es.size = kvs.length) : Turn P w K tg (Itk a o kvs) [it] it (fun i h => h.IsKeyIter it a i es.size ep) where
  mem := by simp
  obj := fun i h st b hb => by
    have e : b = it := by simpa using hb
    subst e
    obtain ⟨o, e, c, d⟩ := st
    exact ⟨o, e, fun v z => by rw [d] at z; cases z⟩
  keep := fun i h h' st k => st.at fun o e => k it (by simp) o e
  item := by
    intro X hP hw hK hc i pins s σ H E I hf st hg
    subst hP hw hK
    obtain ⟨hq, hx⟩ := hg
    obtain ⟨ho, hz, hs, xs, rel, o2, es2, ep2, ho2, hex, hd2, hes, hnd⟩ := (show ObjOk X.prog X.w H s.heap a (.frz o (.dT kvs)) from I.hok a _ hq)
    rw [ho] at ho2
    cases ho2
    rw [hdat] at hd2
    cases hd2
    obtain ⟨f0, f1, f2, f3, f4, f5⟩ := hf it (by simp)
    have hlt : i < es.size := by rw [hn]; exact hx
    refine next_dictR st ho hdat hlt fun h' st' sb => ?_
    have I1 : Inv X pins σ H { s with heap := h' } := I.turned (t' := s.toks) (fun b o hb e => (sb.2 b hb).trans e) f0 f1 f3 f4 f5
    obtain ⟨oi, e, c, d⟩ := id st'
    have hlx : i < xs.length := by
      have := Paired.length rel
      (first | lia | omega)
    have ek : es[i].key = .ref xs[i].2.1 := by
      have h1 : es.toList[i]? = some es[i] := by simp [hlt]
      rw [hes, List.getElem?_map, List.getElem?_eq_getElem hlx] at h1
      have h2 : entryOfKey (tupleKind (mixKind X.prog X.w)) xs[i] = es[i] := Option.some.inj h1
      rw [← h2]
      rfl
    obtain ⟨p, hp, r1, r2, r3⟩ := pairedAt rel (List.getElem?_eq_getElem hlx)
    exact ⟨_, rfl, go_of (s := { s with heap := h' }) e c d (by decide) ⟨.ref xs[i].2.1, H, I1, ek, ⟨rfl, _, p, hp, rfl, r2⟩, st', fun b hb => (hf b hb).1⟩⟩
  done := by
    intro X hP hw hK hc i pins s σ H E I hf st hg
    subst hP hw hK
    obtain ⟨hq, hx⟩ := hg
    obtain ⟨ho, _⟩ := (show ObjOk X.prog X.w H s.heap a (.frz o (.dT kvs)) from I.hok a _ hq)
    obtain ⟨f0, f1, f2, f3, f4, f5⟩ := hf it (by simp)
    exact stop_dictR (I.ok.hd hc) st ho hdat (by (first | lia | omega)) fun h' eb => ⟨rfl, I.turned (t' := s.toks) (fun b o hb e => eb b o hb e) f0 f1 f3 f4 f5⟩
  self := fun _ _ _ _ _ st h => wpAny_pyIter_keyiter st h
noncomputable def iDT (tl : TE) : TI := fun σ H R => tl σ H fun x H1 => ∃ a kvs, x = .ref a ∧ H1 a = some (.dT kvs) ∧ ∀ o, R (Itk a o kvs) (upd H1 a (.frz o (.dT kvs)))
theorem pi_dictT {X : Cx} {tg l : Expr} {tl : TE} (hl : PE X l tl) : PI X tg l (iDT tl) := by
  intro pins s σ H R I h
  refine thn (hl pins s σ H _ I h) fun v s1 ⟨x, H1, I1, r1, q1⟩ => ?_
  obtain ⟨a, kvs, e, hq, q⟩ := q1
  subst e
  cases r1
  obtain ⟨hz, hs, xs, rel, o, es, ep, ho, hex, hdat, hes, hnd⟩ := (show ObjOk X.prog X.w H1 s1.heap a (.dT kvs) from I1.hok a _ hq)
  have hn : es.size = kvs.length := by
    have h1 := congrArg List.length hes
    rw [List.length_map] at h1
    have h2 := Paired.length rel
    simp at h1
    (first | lia | omega)
  have I2 := freeze I1 hq ho
  refine iter_dictR hs ho hex hdat ?_
  refine ⟨s1.heap.objs.size, [s1.heap.objs.size], _, _, _, rfl, I2.kept (t' := s1.toks) fun b o e => Heap.get?_push_of_some _ e, turn_dictT a _ hdat hn, ⟨_, Heap.get?_push_size _ rfl, rfl, rfl⟩, fun b hb => ?_, q o⟩
  have e : b = s1.heap.objs.size := by simpa using hb
  subst e
  exact I2.fpOk (Nat.le_refl _) (I2.hok.fresh (Nat.le_refl _))
section
variable {prog : Program} {w : World} {A : Around} {E : Value → Shared → Prop} {s : Shared}
theorem collect_tuple {l : Addr} {vs : List Value} {Q : List Value → Shared → Prop} {o : Obj} {n : Nat} (ho : s.heap.get? l = some o) (hc : o.cls = .type "tuple") (hd : o.data = .seq vs.toArray n)
    (h : Q vs { s with heap := (s.heap.push (seqObj "list" #[] 0)).update s.heap.objs.size (Obj.mapSeq (· ++ vs.toArray)) }) (hsz : vs.length ≤ sizeLine := by size_fits) :
    wpAny (model prog w) A (collect (.ref l)) Q E s := by
  unfold collect
  refine wpAny_bind (wpAny_runValue (codeAny_builtin entry_proto_collect' ?_))
  show wpAny _ _ (do again (.builtin "list.__iadd__" ⟨[← newList [], .ref l], []⟩)) _ _ s
  refine wpAny_bind (wpAny_newList (wpAny_pure ⟨Code.quiet_builtin _ (by decide +kernel), codeAny_builtin entry_list_iadd' ?_⟩))
  show wpAny _ _ (Builtin.List.listExtendWith (.ref s.heap.objs.size) (.ref l) (.ref s.heap.objs.size)) _ _ { s with heap := s.heap.push (seqObj "list" #[] 0) }
  unfold Builtin.List.listExtendWith
  have ho' : (s.heap.push (seqObj "list" #[] 0)).get? l = some o := Heap.get?_push_of_some _ ho
  refine wpAny_bind (wpAny_typeOf (T := "tuple") ⟨o, ho', hc⟩ ?_)
  have ht : (Value.type "tuple" == Value.type "tuple") = true := by rfl
  rw [if_pos (by rw [ht]; simp)]
  refine wpAny_bind (listItems_at ho' hd ?_)
  refine wpAny_bind (listItems_at (xs := #[]) (n := 0) (Heap.get?_push_size _ rfl) rfl ?_)
  rw [if_neg (by simp)]
  refine wpAny_bind (listUpdate_at (xs := #[]) (n := 0) (Heap.get?_push_size _ rfl) rfl ?_ (Nat.zero_le _) (by show (#[] ++ vs.toArray).size ≤ sizeLine + 1; simp only [Array.size_append, List.size_toArray, List.length_nil]; (first | lia | omega)))
  refine wpAny_pure ?_
  show wpAny (model prog w) A (do
      let o ← load s.heap.objs.size
      match o.data with
      | .seq xs _ => pure xs.toList
      | _ => unsupported "internal:collect") Q E { s with heap := (s.heap.push (seqObj "list" #[] 0)).update s.heap.objs.size (Obj.mapSeq (· ++ vs.toArray)) }
  refine wpAny_bind (wpAny_load (get?_update_seq (Heap.get?_push_size _ rfl) _) ?_)
  show wpAny _ _ (pure ((#[] : Array Value) ++ vs.toArray).toList) Q E _
  rw [show ((#[] : Array Value) ++ vs.toArray).toList = vs by simp]
  exact wpAny_pure h
theorem sorted_tup {l : Addr} {vs : List Value} {ns : List Int} {Q : Value → Shared → Prop} {o : Obj} {n : Nat} (ho : s.heap.get? l = some o) (hc : o.cls = .type "tuple") (hd : o.data = .seq vs.toArray n) (hI : IntsAre vs ns) (h64 : vs.length < 64)
    (h : ∀ (out : Array Value) (ns' : List Int), IntsAre out.toList ns' → ns'.Perm ns → ns'.Pairwise (· ≤ ·) → Q (.ref (s.heap.objs.size + 1)) { s with heap := sortedAll s.heap vs out }) :
    wpAny (model prog w) A (call (.builtin "sorted") [.ref l]) Q E s := by
  refine Calls.call_function_entry kind_sorted plain_sorted entry_sorted (args_sorted1 _) ?_
  unfold Builtin.«sorted»
  refine wpAny_bind (m := checkCount "sorted" 1 1 _) (wpAny_pure ?_)
  refine wpAny_bind (collect_tuple ho hc hd ?_)
  refine wpAny_bind (wpAny_newList ?_)
  have hsz : ((s.heap.push (seqObj "list" #[] 0)).update s.heap.objs.size (Obj.mapSeq (· ++ vs.toArray))).objs.size = s.heap.objs.size + 1 := by
    rw [Heap.size_update, size_push']
  have hoL : (((s.heap.push (seqObj "list" #[] 0)).update s.heap.objs.size (Obj.mapSeq (· ++ vs.toArray))).push (seqObj "list" vs.toArray 0)).get? (s.heap.objs.size + 1) = some (seqObj "list" vs.toArray 0) := by
    rw [← hsz]; exact Heap.get?_push_size _ rfl
  show wpAny _ _ _ _ _ { s with heap := ((s.heap.push (seqObj "list" #[] 0)).update s.heap.objs.size (Obj.mapSeq (· ++ vs.toArray))).push (seqObj "list" vs.toArray 0) }
  rw [hsz]
  refine wpAny_bind (wpAny_holding (wpAny_call_entry slot_list_sort ⟨_, hoL, rfl⟩ entry_list_sort (list_sort_tree hoL hI h64 fun out ns' a1 a2 a3 => ⟨_, rfl, ?_⟩) (args_list_sort _)))
  exact wpAny_pure ⟨_, rfl, h out ns' a1 a2 a3⟩
end
theorem vals_ints : ∀ {us : List Value} {ns : List Int}, IntsAre us ns → Vals (ns.map V.int) us := by
  intro us ns h
  induction h with
  | nil => exact .nil
  | cons n t _ ih => exact .cons ⟨t, rfl⟩ ih
theorem call_sortT {X : Cx} : CallR X (.builtin "sorted") (fun xs H Q => ∃ p ns, xs = [.ref p] ∧ SqT X.K H p (ns.map V.int) ∧ ns.length < 60 ∧ ∀ l (ns' : List Int), ns'.Perm ns → ns'.Pairwise (· ≤ ·) → H l = none → Q (.ref l) (upd H l (.lst (ns'.map V.int)))) := by
  intro pins s σ H xs us Q I r h
  obtain ⟨p, ns, rfl, hq, hl, q⟩ := h
  obtain ⟨u, rfl, rx⟩ := vals1 r
  cases rx
  obtain ⟨its, r', pl, hz⟩ := I.tuple hq
  have hlen := r'.length
  rw [List.length_map] at hlen
  obtain ⟨o, ho, hc, n, hd⟩ := pl
  refine sorted_tup ho hc hd (intsAre_of r') (by (first | lia | omega)) fun out ns' i1 i2 i3 => ?_
  have hln : ns'.length = ns.length := i2.length_eq
  obtain ⟨e, he⟩ := sortedAll_at s.heap its out
  have hfr : H (s.heap.objs.size + 1) = none := I.hok.fresh (Nat.le_succ _)
  refine ⟨.ref (s.heap.objs.size + 1), _, I.laid (t' := s.toks) (o := .lst (ns'.map V.int)) (fun b ob q => sortedAll_old q) (Nat.le_succ _) ?_, rfl, q _ ns' i2 i3 hfr⟩
  refine ⟨by rw [List.length_map]; have : (1000 : Nat) < sizeLine := by decide
             (first | lia | omega), out.toList, e, vals_ints i1, ?_⟩
  rw [he]
section
variable {prog : Program} {w : World} {A : Around} {E : Value → Shared → Prop} {s : Shared}
theorem collect_range {Q : List Value → Shared → Prop} {r : Addr} {a b c : Int} {t u v : Tok} {n : Nat} (hh : A.handled = none) (hr : IsRange s.heap r a b c t u v) (hsmall : Builtin.Range.small a b c = true) (hn : Builtin.Range.rangeSize a b c = n) (hlen : n ≤ 2 ^ 24)
    (hQ : ∀ h' tk acc, (∀ b o, s.heap.get? b = some o → h'.get? b = some o) → ItemsOf (fun i v => ∃ t, v = .int (a + i * c) t) acc n → Q acc.toList { s with heap := h', toks := tk }) : wpAny (model prog w) A (collect (.ref r)) Q E s := by
  unfold collect
  refine wpAny_bind (wpAny_runValue (codeAny_builtin F.entry_proto_collect ?_))
  rw [Around.under_plainId F.plain_proto_collect _]
  show wpAny _ A.in1 (newList [] >>= fun l => again (.builtin "list.__iadd__" ⟨[l, .ref r], []⟩)) _ _ s
  refine wpAny_bind (wpAny_newObj_type ?_)
  refine wpAny_pure ⟨plainId_quiet F.plain_list_iadd _, codeAny_builtin F.entry_list_iadd ?_⟩
  rw [Around.under_plainId F.plain_list_iadd _]
  show wpAny _ A.in1 (Builtin.List.listExtendWith (.ref s.heap.objs.size) (.ref r) (.ref s.heap.objs.size)) _ _ _
  have fin : ∀ s' : Shared, (∃ (h' : Heap) (tk : Nat) (acc : Array Value) (c' : Nat), s' = { s with heap := h', toks := tk } ∧ (∀ b o, s.heap.get? b = some o → h'.get? b = some o) ∧ h'.get? s.heap.objs.size = some { cls := .type "list", dict := none, data := .seq acc c', slots := #[] } ∧ ItemsOf (fun i v => ∃ t, v = .int (a + i * c) t) acc n) →
      wpAny (model prog w) A (do
        let o ← load s.heap.objs.size
        match o.data with
        | .seq xs _ => pure xs.toList
        | _ => unsupported "internal:collect") Q E s' := fun s' ⟨h', tk, acc, c', e, hk, hS, hacc⟩ => by
    subst e
    refine wpAny_bind (wpAny_load hS ?_)
    exact wpAny_pure (hQ h' tk acc hk hacc)
  refine wpAny_mono (wpAny_extend_range (R := fun r s' => r = .ok (.ret (.ref s.heap.objs.size)) ∧ ∃ (h' : Heap) (tk : Nat) (acc : Array Value) (c' : Nat), s' = { s with heap := h', toks := tk } ∧ (∀ b o, s.heap.get? b = some o → h'.get? b = some o) ∧ h'.get? s.heap.objs.size = some { cls := .type "list", dict := none, data := .seq acc c', slots := #[] } ∧ ItemsOf (fun i v => ∃ t, v = .int (a + i * c) t) acc n)
    (s := { s with heap := s.heap.push { cls := .type "list", data := .seq ([] : List Value).toArray } }) (A := A) hh (Heap.get?_push_of_some _ hr) hsmall hn hlen s.heap.objs.size (.ref s.heap.objs.size) 0 (Heap.get?_push_size _ rfl) fun h' tk acc c' hk hS' hacc => ⟨rfl, h', tk, acc, c', rfl, fun b o e => hk b o (Nat.ne_of_lt (Heap.lt_size e)) (Heap.get?_push_of_some _ e), hS', hacc⟩) (fun fl s' h => ?_) (fun e s' h => ?_)
  · cases fl with
    | done f =>
      obtain ⟨e, h⟩ := h
      cases e
      exact fin s' h
    | again c' => exact ⟨h.1, codeAny_mono h.2 fun r s'' hr => by
        obtain ⟨rfl, hr⟩ := hr
        exact fin s'' hr⟩
  · exact absurd h.1 (by simp)
end
theorem meets_tuple_new_range (r : Addr) (a b c : Int) (t u v : Tok) (n : Nat) (hsmall : Builtin.Range.small a b c = true) (hn : Builtin.Range.rangeSize a b c = n) (hlen : n ≤ 2 ^ 24) :
    Meets (Builtin.«tuple.__new__» ⟨[.type "tuple", .ref r], []⟩)
      (fun A R s => A.handled = none ∧ IsRange s.heap r a b c t u v ∧ ∀ (h' : Heap) (tk : Nat) (acc : Array Value), (∀ b o', s.heap.get? b = some o' → h'.get? b = some o') → ItemsOf (fun i v => ∃ t, v = .int (a + i * c) t) acc n → R (.ok (.ret (.ref h'.objs.size))) { s with heap := h'.push { cls := .type "tuple", data := .seq acc }, toks := tk }) :=
  .of_wp fun prog w A R s h => by
    obtain ⟨hp, g, d, tk, os⟩ := s
    obtain ⟨hh, ht, h⟩ := h
    have hsub := sub_tuple_self
    have hinit := init_tuple_lookup
    have hmh := madeHere_tuple
    have hT : Shared.TypeIs ⟨hp, g, d, tk, os⟩ (.ref r) "range" := ⟨_, ht, rfl⟩
    wp_walk using wpAny_loadPart' ht, wpAny_typeOf hT, collect_range (show A.in1.handled = none from hh) ht hsmall hn hlen
    intro h' tk2 acc hk hacc
    show wpAny _ _ (Builtin.Tuple.tupleExact acc.toList.toArray >>= fun v => ret v) _ _ _
    unfold Builtin.Tuple.tupleExact
    refine wpAny_bind (wpAny_newObj_type ?_ (by show acc.toList.toArray.size ≤ sizeLine; rw [Array.toArray_toList, hacc.1, sizeLine_eq]; (first | lia | omega)))
    refine wpAny_pure ⟨_, rfl, ?_⟩
    have e : acc.toList.toArray = acc := by simp
    rw [e]
    exact h h' tk2 acc hk hacc
theorem vals_at : ∀ {xs : List V} {us : List Value}, xs.length = us.length → (∀ (i : Nat) x u, xs[i]? = some x → us[i]? = some u → RelV x u) → Vals xs us
  | [], [], _, _ => .nil
  | [], _ :: _, h, _ => by simp at h
  | _ :: _, [], h, _ => by simp at h
  | x :: xs, u :: us, h, k => .cons (k 0 x u rfl rfl) (vals_at (by simpa using h) fun i x' u' h1 h2 => k (i + 1) x' u' (by simpa using h1) (by simpa using h2))
noncomputable def tTupRng (ta : TA) : TE := fun σ H Q => ta σ H fun vs H1 => ∃ j : Nat, vs = [.int j] ∧ j ≤ 1000 ∧ ∀ p, H1 p = none → Q (.ref p) (upd H1 p (.tup ((List.range j).map fun (i : Nat) => V.int i)))
theorem pe_tuprng {X : Cx} {a : Expr} {ta : TA} {p p2 pos pos2 : Pos} (hg1 : Gl X "tuple") (hm1 : X.mg "tuple" = none) (hg2 : Gl X "range") (hm2 : X.mg "range" = none) (ha : PA X [a] ta) (hc : X.calm = true := by rfl)
    (hs : starEach [a] X.env = [(false, eval a X.env)] := by rfl) (hs2 : starEach [.Call (.Name "range" p2) [a] [] pos2] X.env = [(false, eval (.Call (.Name "range" p2) [a] [] pos2) X.env)] := by rfl) :
    PE X (.Call (.Name "tuple" p) [.Call (.Name "range" p2) [a] [] pos2] [] pos) (tTupRng ta) := by
  intro pins s σ H Q I h
  refine Call_name1 hs2 (ld_blt I hg1 hm1 boot_tuple (PySem.callWith_type1 ?_))
  refine Call_ (ld_blt I hg2 hm2 boot_range (PyProof.Rows.callWith_type1 (thn (ha pos2 pins s σ H _ I h) fun us s1 ⟨vs, H1, I1, r1, q1⟩ => ?_) hs rfl))
  obtain ⟨j, e, hj, q⟩ := q1
  subst e
  cases r1 with
  | cons r rr =>
    cases rr
    obtain ⟨t, rfl⟩ := r
    refine call_range_1 ?_
    have e1 : Builtin.Range.rangeSize 0 (j : Int) 1 = (j : Int) := by rw [rangeSize_one]; split <;> (first | lia | omega)
    refine callType_new F.called_tuple (by decide) (F.typeCall_tuple_1 _) (F.newCall_tuple_1 _) (fun obj => F.args_object_init_2 obj _) F.entry_tuple_new (meets_tuple_new_range s1.heap.objs.size 0 j 1 _ _ _ j (small_one (by (first | lia | omega)) (by (first | lia | omega)) (by (first | lia | omega)) (by (first | lia | omega))) e1 (by (first | lia | omega))) ⟨I1.ok.hd hc, IsRange.new .., fun h' tk acc hk hacc => ⟨⟨_, Heap.get?_push_size _ rfl, rfl⟩, ?_⟩⟩
    have I2 : Inv X pins σ H1 { s1 with heap := h', toks := tk } := I1.kept (t' := tk) fun b o e => hk b o (Heap.get?_push_of_some _ e)
    have hsz : acc.size = j := hacc.1
    have vals : Vals ((List.range j).map fun (i : Nat) => V.int i) acc.toList := vals_at (by simp [hsz]) fun i x u h1 h2 => by
      have hi : i < j := by
        have := (List.getElem?_eq_some_iff.mp h2).1
        rw [Array.length_toList] at this
        (first | lia | omega)
      rw [List.getElem?_map, List.getElem?_range hi] at h1
      have ex : V.int i = x := Option.some.inj h1
      rw [Array.getElem?_toList] at h2
      obtain ⟨t', ht'⟩ := hacc.2 i u h2
      rw [← ex, ht']
      exact ⟨t', by rw [Int.mul_one, Int.zero_add]⟩
    have ea : acc = acc.toList.toArray := by simp
    have ok : ObjOk X.prog X.w (upd H1 h'.objs.size (.tup ((List.range j).map fun (i : Nat) => V.int i))) (h'.push { cls := .type "tuple", data := .seq acc }) h'.objs.size (.tup ((List.range j).map fun (i : Nat) => V.int i)) := by
      refine ⟨by rw [List.length_map, List.length_range]; have : (1000 : Nat) < sizeLine := by decide
                 (first | lia | omega), acc.toList, vals, ?_⟩
      have := IsTup.new h' acc.toList.toArray
      rw [← ea] at this
      rw [← ea]
      exact this
    exact ⟨.ref h'.objs.size, _, I2.laid (t' := tk) (fun b o e => Heap.get?_push_of_some _ e) (Nat.le_refl _) ok, rfl, q _ (I2.hok.fresh (Nat.le_refl _))⟩
noncomputable def rCatE (K : PySem.W.Frag) : V → V → Hp → VK → Prop := fun x y H Q => (∃ a b ys, x = .ref a ∧ y = .ref b ∧ SqT K H a [] ∧ SqT K H b ys ∧ Q (.ref b) H) ∨ rCatT K x y H Q
theorem op_catTE {X : Cx} : OpR X (binaryOp .Add) (rCatE X.K) := by
  intro pins s σ H x y v u Q I rx ry h
  rcases h with ⟨a, b, ys, rfl, rfl, ha, hb, q⟩ | h
  · cases rx
    cases ry
    obtain ⟨its, r1, p1, _⟩ := I.tuple ha
    obtain ⟨its2, r2, p2, _⟩ := I.tuple hb
    cases r1
    obtain ⟨⟨cls, dd, data, sl⟩, ho, hc, n, hd⟩ := id p1
    obtain ⟨⟨cls2, dd2, data2, sl2⟩, ho2, hc2, n2, hd2⟩ := id p2
    simp only at hc hd hc2 hd2
    subst hc hd hc2 hd2
    exact concat_meets ⟨_, ho, rfl⟩ ⟨_, ho2, rfl⟩ noFill_tuple_add seq_tuple_add PySem.F.slot_tuple_add PySem.F.entry_tuple_add (PySem.F.args_tuple_add_2 _ _)
      (tuple_addW0 a b #[] its2.toArray n n2 dd dd2 sl sl2 rfl) ⟨ho, ho2, ⟨.ref b, H, I, rfl, q⟩⟩
  · exact op_catT pins s σ H x y v u Q I rx ry h
noncomputable def tDisp1 (tk tv : TE) : TE := fun σ H Q => ∀ p, H p = none → tk σ (upd H p (.dT [])) fun x H1 => tv σ H1 fun y H2 => ∃ b ks, x = .ref b ∧ H2 b = some (.tup (ks.map kV)) ∧ H2 p = some (.dT []) ∧ Q (.ref p) (upd H2 p (.dT [(ks, y)]))
theorem pe_dispT1 {X : Cx} {pos : Pos} {k v : Expr} {tk tv : TE} (hu : X.A.units + 1 < cLine) (hk : PE X k tk) (hv : PE X v tv) : PE X (.Dict [some k] [v] pos) (tDisp1 tk tv) := by
  intro pins s σ H Q I q
  have hn := I.hok.fresh (Nat.le_refl s.heap.objs.size)
  have I1 := I.laid (a := s.heap.objs.size) (o := .dT []) (h' := s.heap.push { cls := .type "dict", data := .dict #[] }) (t' := s.toks) (fun _ _ q => Heap.get?_push_of_some _ q) (Nat.le_refl _) (dt_empty s.heap I.big)
  have hq := q _ hn
  rw [arm_eval_Dict, zip_pairTrees [some k] [v] X.env pos rfl rfl, dictDisplay_pairs _ (by simp [pairTrees]) (by simp [pairTrees])]
  refine wpAny_bind (wpAny_standAt (wpAny_bind ?_))
  unfold subDict
  refine wpAny_bind (wpAny_alloc ?_)
  refine wpAny_bind (wpAny_holding ?_)
  rw [if_pos (by simp [pairTrees])]
  refine wpAny_bind (pairTrees_cons_walk (thn (hk pins _ σ _ _ I1 hq) fun kv s2 ⟨x, H1, I2, rx, q2⟩ => thn (hv pins s2 σ H1 _ I2 q2) fun vv s3 ⟨y, H2, I3, ry, b, ks, ex, eb, ep, q3⟩ => pairTrees_nil_walk ?_))
  subst ex
  cases rx
  refine wpAny_holding ?_
  obtain ⟨z, hd, xs, rel, dd⟩ := dt_of I3.hok ep
  cases rel
  rw [List.forIn_cons]
  refine wpAny_bind (wpAny_bind (wpAny_bind (wpAny_dictSet_heap (hsz := Nat.zero_le _) (show X.A.units < cLine by (first | lia | omega)) (key_of I3.hok eb) dd fun h' dd' hs => wpAny_pure ?_)))
  refine wpAny_pure (wpAny_pure (wpAny_pure (wpAny_pure ⟨.ref s.heap.objs.size, _, ?_, rfl, q3⟩)))
  obtain ⟨qo, es, epp, hqo, h2, h3, h4, _, h5⟩ := dd'
  refine d_write I3 (by rw [ep]; exact True.intro) hs ⟨qo, hqo⟩ ⟨by show 1 ≤ sizeLine; decide, hd, _, ?_, qo, es, epp, hqo, h2, h3, h4, h5⟩
  have r1 : KT H2 (putK [] ks y) (storedH [] ks b vv) := KT.put (kvs := []) (xs := []) .nil ks eb ry
  exact KT.keeps r1 fun c ys ec => by
    rw [upd_ne (ne_of ec ep (fun z => nomatch z))]
    exact ec
theorem comp_filterT {K : PySem.W.Frag} {a : Addr} {ns : List Int} {tt : Shared → Hp → Addr → List Addr → TT} {te : Shared → Hp → Addr → List Addr → TE} {js : List Nat} {σ : L2.St} {H1 : Hp} {Q : VK} (hn : ns.length ≤ 100000) (ha : H1 a = some (.tup (ns.map V.int))) (p : Int → Bool)
    (ht : ∀ s₀ H₀ C ex n H (R : Bool → Hp → Prop), R (p n) H → tt s₀ H₀ C ex (some (.int n) :: js.map fun j => (σ[j]?).join) H R)
    (hs : ∀ s₀ H₀ C ex n H (R : VK), R (.int n) H → te s₀ H₀ C ex (some (.int n) :: js.map fun j => (σ[j]?).join) H R)
    (hd : ∀ H D, Same H1 H → H1 D = none → H D = some (.lst ((ns.filter p).map V.int)) → Q (.ref D) H) : CompAtG (Itt K a) (gName 0) tt te 1 js σ Q H1 := by
  intro D hD
  refine ⟨fun i m ys H => m = ns.length - i ∧ i ≤ ns.length ∧ ys = ((ns.take i).filter p).map V.int ∧ Same H1 H ∧ H D = some (.lst ys), ⟨ns.length, by simp, Nat.zero_le _, rfl, same_upd hD _, upd_same⟩, ?_⟩
  rintro i m ys H ⟨rfl, hi, rfl, sm, hDl⟩
  refine ⟨hDl, ?_⟩
  have hr := sm _ _ ha
  by_cases hlt : i < ns.length
  · have eq : ns[i]? = some ns[i] := List.getElem?_eq_getElem hlt
    have h0 : (ns.map V.int)[i]? = some (.int ns[i]) := by rw [List.getElem?_map, eq]; rfl
    refine .inr ⟨⟨_, _, SqT.of hr, h0⟩, fun x H' y s₀ H₀ C ex σ0 hσ => ?_⟩
    obtain ⟨e, y⟩ := y
    subst e
    have ex' := y _ (SqT.of hr)
    rw [h0] at ex'
    cases ex'
    obtain ⟨v1, rfl⟩ : ∃ v1, σ0 = [v1] := by
      match σ0, hσ with
      | [v1], _ => exact ⟨v1, rfl⟩
    refine ⟨⟨[some (.int ns[i])], rfl, rfl⟩, ?_⟩
    refine ht s₀ H₀ C ex ns[i] H' _ ?_
    have hz : (100000 : Nat) < sizeLine := by decide
    have et : (ns.take (i + 1)).filter p = (ns.take i).filter p ++ if p ns[i] then [ns[i]] else [] := by
      rw [List.take_succ, eq, List.filter_append]
      cases hp : p ns[i] <;> simp [hp]
    by_cases hp : p ns[i] = true
    · rw [if_pos hp]
      rw [if_pos hp] at et
      refine hs s₀ H₀ C ex ns[i] H' _ ⟨hDl, ?_, ns.length - (i + 1), by (first | lia | omega), rfl, hlt, ?_, ?_, upd_same⟩
      · rw [List.length_map]
        have := List.length_filter_le p (ns.take i)
        rw [List.length_take] at this
        (first | lia | omega)
      · rw [et, List.map_append]; rfl
      · intro b o e
        rw [upd_ne (ne_of_none e hD)]
        exact sm _ _ e
    · rw [if_neg hp]
      rw [if_neg hp, List.append_nil] at et
      exact ⟨hDl, ns.length - (i + 1), by (first | lia | omega), rfl, hlt, by rw [et], sm, hDl⟩
  · have e : i = ns.length := by (first | lia | omega)
    subst e
    rw [List.take_length] at hDl
    exact .inl ⟨⟨_, SqT.of hr, by rw [List.length_map]; (first | lia | omega)⟩, hd H D sm hD hDl⟩
end L3

namespace L3
open PySem PySem.W PySem.Calls PySem.Spec PyProof.Rows L2 Ra
theorem item_bt {ns : List Int} (h : (WData.list (ns.map WData.int)).layable = true) : ∀ n ∈ ns, Bt 1048576 n := fun n hn => by
  have x := layableW_item h (.int n) (List.mem_map.mpr ⟨n, hn, rfl⟩)
  have y : (WData.int n).weight ≤ 2 ^ 20 := (layableW_iff.mp x).2.2
  have z : Builtin.Int.intBits n ≤ 1048576 := y
  exact PySem.intBits_le_iff.mp z
theorem attach_callB {l : OpenLaw} {n : Nat} {q : Program} {loose : List Str} {XP : (Str → Option Value) → Heap → Prop} {YP : World → Heap → Prop} {d : DefRec} (hn : l.most = some n) (hdf : d.params.defaults = [])
    (call : ∀ (w : World) (s₀ s₁ : Shared) (mg mb : Str → Option Value) (fa : Addr) (o : Obj) (pm cd doc : Value) (a : Addr) (vs : List Value) (ns : List Int),
      Ground q loose [] XP w s₀ mg mb s₁.heap → YP w s₁.heap → s₁.heap.get? fa = some o → o.data = .func (docDef d.name d.params d.body d.scope pm cd doc) → s₁.heap.CodeRec cd d.name → mg d.name = some (.ref fa) →
      s₁.heap.get? a = some { cls := .type "list", data := .seq vs.toArray } → IntsAre vs ns → ns.length ≤ n → (∀ n ∈ ns, Bt 1048576 n) → s₁.gens = #[] →
      codeAny (model l.prog w) callerA (.call (.ref fa) ⟨[.ref a], []⟩) (fun r s' => r = .ok (.ret (.bool true)) ∧ OldK s₁.heap s'.heap ∧ s'.os = s₁.os ∧ AllBare s'.gens) s₁) :
    WalkO q loose XP YP l.row.toRowW d [] (fun f vs => PySem.call f vs) := by
  intro w s₀ s₁ mg mb G Y fa o pm cd doc dV kV ho hd hcd hD hmg hg args vals as hpre hlay hrd hwl hlo
  obtain rfl : dV = .none := Dflts.none hD hdf
  obtain rfl : kV = .none := Dflts.noKw hD
  obtain ⟨a, vs, ns, rfl, rfl, hobj, hints, hlen⟩ := Att.script_of hn hpre hwl
  have hb : ∀ n ∈ ns, Bt 1048576 n := item_bt (layW_cons hlay).1
  refine enter_call (codeAny_mono (call w s₀ s₁ mg mb fa o pm cd doc a vs ns G Y ho (fd_plain hd) hcd hmg hobj hints hlen hb hg) fun r s' hq => ?_)
  obtain ⟨rfl, h2, h3, h4⟩ := hq
  exact ⟨.inl ⟨.bool true, .bool true, [], rfl, fun _ => rfl, .bool true, Att.post_true l _, fun _ => ⟨List.Pairwise.nil, fun _ hm => (nomatch hm)⟩⟩, h2, h3, h4⟩
theorem walkB_of {l : PySem.W.OpenLaw} {n k : Nat} {q : Program} {loose : List Str} {XP : (Str → Option Value) → Heap → Prop} {YP : World → Heap → Prop} {d : DefRec} {K : Params → PySem.W.Frag} {CX : World → CXT} {sp : World → Sp} {x : Str}
    (hn : l.most = some n) (hn2 : n ≤ sizeLine) (hdf : d.params.defaults = []) (hr : Room k callerA)
    (hY : ∀ (w : World) (h : Heap), YP w h → (K w.params).In h)
    (F : ∀ (w : World) (mg : Str → Option Value) (fa : Addr) (h : Heap), (K w.params).In h → h.Ns mainGlobals mg → mg d.name = some (.ref fa) →
      ∃ fd : FuncData, (∀ (s : Shared) (u : Value), BindsTo s fd ⟨[u], []⟩ [(x, u)]) ∧
        ∀ base : Heap, (K w.params).In base → base.Ns mainGlobals mg → FnOk l.prog w (K w.params) mg base (CX w) k fa fd [x] (sp w))
    (hsp : ∀ (w : World) (H : Hp) (a : Addr) (ns : List Int), ns.length ≤ n → (∀ n ∈ ns, Bt 1048576 n) → SqL (K w.params) H a (ns.map V.int) → sp w [.ref a] H (fun v _ => v = .bl true) fun _ _ _ => False)
    (hCX : ∀ (w : World) (H : Hp) (s : Shared) (e : Value) (s' : Shared), CX w [] H s (fun _ _ _ => False) e s' → False) :
    PySem.W.WalkO q loose XP YP l.row.toRowW d [] (fun f vs => PySem.call f vs) := by
  refine attach_callB hn hdf fun w s₀ s₁ mg mb fa o pm cd doc a vs ns G Y ho hd hcd hmg hobj hints hlen hbt hg => ?_
  have KX := hY w _ Y
  obtain ⟨fd, hb, hF⟩ := F w mg fa _ KX G.T.g hmg
  exact law_call KX G.T.g G.T.b G.T.builtins G.T.nolimit hg hobj hints (Nat.le_trans hlen hn2) hr hF hb (fun H _ hS => hsp w H a ns hlen hbt hS) fun H e s' => hCX w H s₁ e s'
end L3

namespace L3
open PySem PySem.Spec PyProof.Rows L2 Ra
structure CalM (P : Program) (w : World) (K : PySem.W.Frag) (mg : Str → Option Value) (base : Heap) (C : Addr) (m : Str) (k : Nat) (ps : List Str) (sp : Sp) : Prop where
  ex : ∃ f fd, FnOk P w K mg base CX0 k f fd ps sp ∧ Binds K fd ps [] ∧ Meth K C m f ∧ Cls K C
structure CalC (P : Program) (w : World) (K : PySem.W.Frag) (mg : Str → Option Value) (base : Heap) (x : Str) (C : Addr) (k : Nat) (ps : List Str) (sp : Sp) : Prop where
  ex : ∃ f fd, FnOk P w K mg base CX0 k f fd ps sp ∧ Binds K fd ps [] ∧ Mk K C f ∧ mg x = some (.ref C)
section
variable {X : Cx} {C : Addr} {m x : Str} {k j : Nat} {ps : List Str} {sp : Sp} {o e : Expr} {es : List Expr} {ta : TE} {t : TA} {p apos pos : Pos} {pl : Sem Bool}
end
structure CalD (P : Program) (w : World) (K : PySem.W.Frag) (mg : Str → Option Value) (base : Heap) (x : Str) (k : Nat) (ps : List Str) (ds : List Value) (dvs : List V) (sp : Sp) : Prop where
  ex : ∃ f fd, FnOk P w K mg base CX0 k f fd ps sp ∧ Binds K fd ps ds ∧ PySem.W.keepIn K (.ref f) = true ∧ mg x = some (.ref f)
  dv : Vals dvs ds
theorem pe_clD {X : Cx} {x : Str} {k j : Nat} {ps : List Str} {ds : List Value} {dvs : List V} {sp : Sp} {e : Expr} {es : List Expr} {t : TA} {p pos : Pos} (C : CalD X.prog X.w X.K X.mg X.base x k ps ds dvs sp) (hr : Room j X.A) (ha : PA X (e :: es) t) (hkj : k ≤ j := by decide) (hg : Gl X x := by rfl)
    (hdb : (x == ("__debug__" : Str)) = false := by decide) (he : starEach (e :: es) X.env = (false, eval e X.env) :: starEach es X.env := by rfl) (hpl : (backTo pos (starEach es X.env)).any (·.1) = false := by rfl) :
    PE X (.Call (.Name x p) (e :: es) [] pos) (tCall sp dvs E0 t) := by
  obtain ⟨f, fd, F, b, kp, m⟩ := C.ex
  exact pe_call F (hr.mono hkj) hg m kp b C.dv pass0 ha hdb he hpl
structure CalK (P : Program) (w : World) (K : PySem.W.Frag) (mg : Str → Option Value) (base : Heap) (x : Str) (k : Nat) (ps ks : List Str) (gV : List V → List V → List V) (sp : Sp) : Prop where
  ex : ∃ f fd g, FnOk P w K mg base CX0 k f fd ps sp ∧ KBinds K fd ps ks g gV ∧ PySem.W.keepIn K (.ref f) = true ∧ mg x = some (.ref f)
noncomputable abbrev FunD (K : PySem.W.Frag) (x qual : Str) (st : Stmt) (dV : Value) (f : Addr) (fd : FuncData) : Prop := ∃ (oc : Value) (od : Option Addr) (kV doc pm : Value) (an : Option Addr) (cdv ct : Value) (osl : Array (Option Value)),
      fd = PySem.W.fnOf x qual (defArgs st) (defBody st) (defScope st) dV kV doc pm an cdv ct ∧ K.lookup f = some ⟨oc, od, .func fd, osl⟩ ∧ PySem.W.codeIn K cdv qual = true
theorem okD {P : Program} {w : World} {K : PySem.W.Frag} {mg : Str → Option Value} {base : Heap} {x qual : Str} {st : Stmt} {f : Addr} {fd : FuncData} {N ps : List Str} {k : Nat} {sp : Sp} {dV : Value} (F : FunD K x qual st dV f fd)
    (S : FnScope N ps (defScope st)) (len : ∀ vs H Q E, sp vs H Q E → vs.length = ps.length)
    (hbody : ∀ (cdv : Value) (A : Around) (outer : List Env) (s : Shared) (H : Hp) (vs : List V) (Q : VK) (E : XK), Room k (A.deeper (envOfC qual (defScope st) s.heap.objs.size f cdv)) → sp vs H Q E →
      ∃ t, PSs (cxOf CX0 P w K mg base N qual (defScope st) f cdv A outer s H E).nox (defBody st) t ∧ t { nx := fun _ H' => Q .non H', rt := Q } (start N vs) H) : FnOk P w K mg base CX0 (k + 1) f fd ps sp := by
  obtain ⟨oc, od, kV, doc, pm, an, cdv, ct, osl, rfl, lk, hcd⟩ := F
  refine fn_of lk hcd S len fun A outer s H vs Q E hr hsp => ?_
  obtain ⟨t, h, q⟩ := hbody cdv A outer s H vs Q E hr hsp
  exact ⟨t, h.nox, q⟩
noncomputable def tRevS (K : PySem.W.Frag) (te ts : TE) : TE := fun σ H Q => te σ H fun x H1 => ts σ H1 fun y H2 => ∃ a xs, x = .ref a ∧ y = .int (-1) ∧ SqL K H2 a xs ∧ ∀ p, H2 p = none → Q (.ref p) (upd H2 p (.lst xs.reverse))
end L3

namespace L3
open PySem PySem.Spec PyProof.Rows L2 Ra
structure PEw (X : Cx) (e : Expr) (te : TE) : Prop where
  h : PE X e te
structure PAw (X : Cx) (es : List Expr) (t : TA) : Prop where
  h : PA X es t
section
variable {X : Cx} {es xs : List Expr} {e e2 : Expr} {p p2 : Pos} {te te2 : TE} {t : TA} {k : Nat}
end
structure PSw (X : Cx) (st : Stmt) (t : TS) : Prop where
  h : PS X st t
structure PSsw (X : Cx) (ss : List Stmt) (t : TS) : Prop where
  h : PSs X ss t
section
variable {X : Cx} {a b e : Expr} {pos pos' : Pos} {ta tb te : TE} {st : Stmt} {ss : List Stmt} {t u : TS}
end
end L3


namespace L3
open PySem PySem.Spec PyProof.Rows L2 Ra
section
variable {prog : Program} {w : World} {A : Around} {E : Value → Shared → Prop} {s : Shared}
theorem enum_step {e it l : Addr} {c : Int} {i : Nat} {items : Array Value} {x old : Value} {Q : Value → Shared → Prop} (eE : IsEnum s.heap e it c old) (eI : s.heap.IsListIter it l i) (eL : s.heap.IsList l items) (ex : items[i]? = some x) (ne : e ≠ it)
    (q : ∀ h', IsEnumOut h' e it (c + 1) x s.heap.objs.size → h'.IsListIter it l (i + 1) → h'.get? s.heap.objs.size = some { cls := .type "tuple", data := .seq #[.int c s.toks, x] } →
      (∀ b o, b ≠ e → b ≠ it → s.heap.get? b = some o → h'.get? b = some o) → Q (.ref s.heap.objs.size) { s with heap := h', toks := s.toks + 1 }) :
    wpAny (model prog w) A (Builtin.«enumerate.__next__» ⟨[.ref e], []⟩) (fun fin s' => ∃ v, fin = .done (.ret v) ∧ Q v s') E s := by
  obtain ⟨hp, gg, dd, tk, oo⟩ := s
  show wpAny (model prog w) A (field (.ref e) 2 >>= _) _ E _
  refine wpAny_bind (wpAny_field eE rfl (x := .ref it) rfl (wpAny_bind (wpAny_nextOf_list_item eI eL ex fun k1 eI1 sb1 => ?_)))
  replace sb1 : Heap.SameBut it hp k1 := sb1
  have eE1 : IsEnum k1 e it c old := (sb1.2 e ne).trans eE
  show wpAny (model prog w) A (field (.ref e) 3 >>= _) _ E ⟨k1, gg, dd, tk, oo⟩
  refine wpAny_bind (wpAny_field eE1 rfl (x := rawInt c) rfl ?_)
  show wpAny (model prog w) A (field (.ref e) 4 >>= _) _ E ⟨k1, gg, dd, tk, oo⟩
  refine wpAny_bind (wpAny_field eE1 rfl (x := .none) rfl ?_)
  show wpAny (model prog w) A (mkInt c >>= _) _ E ⟨k1, gg, dd, tk, oo⟩
  refine wpAny_bind (wpAny_mkInt ?_)
  show wpAny (model prog w) A (setField (.ref e) 3 (rawInt (c + 1)) >>= _) _ E ⟨k1, gg, dd, tk + 1, oo⟩
  refine wpAny_bind (wpAny_setField_rec eE1 (by simp) fun k2 eE2 sb2 => ?_)
  replace sb2 : Heap.SameBut e k1 k2 := sb2
  replace eE2 : IsEnum k2 e it (c + 1) old := eE2
  show wpAny (model prog w) A (setField (.ref e) 4 .none >>= _) _ E ⟨k2, gg, dd, tk + 1, oo⟩
  refine wpAny_bind (wpAny_setField_rec eE2 (by simp) fun k3 eE3 sb3 => ?_)
  replace sb3 : Heap.SameBut e k2 k3 := sb3
  replace eE3 : IsEnum k3 e it (c + 1) old := eE3
  show wpAny (model prog w) A (newTuple [.int c tk, x] >>= _) _ E ⟨k3, gg, dd, tk + 1, oo⟩
  refine wpAny_bind (wpAny_newTuple ?_)
  have sz : k3.objs.size = hp.objs.size := by rw [sb3.1, sb2.1, sb1.1]
  have lt : e < hp.objs.size := Heap.lt_size eE
  have ne2 : hp.objs.size ≠ e := Nat.ne_of_gt lt
  obtain ⟨k4, e4⟩ : ∃ k4, k4 = k3.push { cls := .type "tuple", data := .seq #[.int c tk, x] } := ⟨_, rfl⟩
  have eE4 : IsEnum k4 e it (c + 1) old := by rw [e4]; exact Heap.get?_push_of_some _ eE3
  have eT4 : k4.get? hp.objs.size = some { cls := .type "tuple", data := .seq #[.int c tk, x] } := by rw [e4, ← sz]; exact Heap.get?_push_size _ rfl
  have kp4 : ∀ b o, b ≠ e → b ≠ it → hp.get? b = some o → k4.get? b = some o := fun b o z1 z2 h => by
    rw [e4]
    exact Heap.get?_push_of_some _ (sb3.extBut b o z1 (sb2.extBut b o z1 (sb1.extBut b o z2 h)))
  have eI4 : k4.IsListIter it l (i + 1) := by
    obtain ⟨o, ho, r⟩ := (eI1.extBut sb2.extBut ne.symm).extBut sb3.extBut ne.symm
    exact ⟨o, by rw [e4]; exact Heap.get?_push_of_some _ ho, r⟩
  show wpAny (model prog w) A (Builtin.SmallTypes.ownedTupleIsFree (.ref e) >>= _) _ E ⟨k3.push { cls := .type "tuple", data := .seq #[.int c tk, x] }, gg, dd, tk + 1, oo⟩
  rw [sz, ← e4]
  refine wpAny_bind ?_
  unfold Builtin.SmallTypes.ownedTupleIsFree
  refine wpAny_bind (wpAny_field eE4 rfl (x := .none) rfl (wpAny_pure ?_))
  rw [if_pos rfl]
  refine wpAny_bind (wpAny_rule (wpAny_bind (wpAny_field eE4 rfl (x := old) rfl (wpAny_bind (wpAny_setField_rec eE4 (by simp) fun k5 eE5 sb5 => ?_)))))
  replace sb5 : Heap.SameBut e k4 k5 := sb5
  replace eE5 : IsEnum k5 e it (c + 1) x := eE5
  show wpAny (model prog w) A (Builtin.SmallTypes.ownedTupleHandOut (.ref e) (.ref hp.objs.size) >>= _) _ E ⟨k5, gg, dd, tk + 1, oo⟩
  refine wpAny_bind ?_
  unfold Builtin.SmallTypes.ownedTupleHandOut
  refine wpAny_bind (wpAny_setField_rec eE5 (by simp) fun k6 eE6 sb6 => ?_)
  replace sb6 : Heap.SameBut e k5 k6 := sb6
  replace eE6 : IsEnumOut k6 e it (c + 1) x hp.objs.size := eE6
  refine wpAny_setField_rec eE6 (by simp) fun k7 eE7 sb7 => ?_
  replace sb7 : Heap.SameBut e k6 k7 := sb7
  have up : ∀ b o, b ≠ e → k4.get? b = some o → k7.get? b = some o := fun b o z h => sb7.extBut b o z (sb6.extBut b o z (sb5.extBut b o z h))
  exact wpAny_bind (wpAny_letGo (wpAny_pure ⟨_, rfl, q k7 eE7 (eI4.at fun o h => up it o ne.symm h) (up _ _ ne2 eT4) fun b o z1 z2 h => up b o z1 (kp4 b o z1 z2 h)⟩))
theorem next_enum {e it l : Addr} {c : Int} {i : Nat} {items : Array Value} {x old : Value} {Q : Option Value → Shared → Prop} (eE : IsEnum s.heap e it c old) (eI : s.heap.IsListIter it l i) (eL : s.heap.IsList l items) (ex : items[i]? = some x) (ne : e ≠ it)
    (q : ∀ h', IsEnumOut h' e it (c + 1) x s.heap.objs.size → h'.IsListIter it l (i + 1) → h'.get? s.heap.objs.size = some { cls := .type "tuple", data := .seq #[.int c s.toks, x] } →
      (∀ b o, b ≠ e → b ≠ it → s.heap.get? b = some o → h'.get? b = some o) → Q (some (.ref s.heap.objs.size)) { s with heap := h', toks := s.toks + 1 }) : wpAny (model prog w) A (pyNext (.ref e)) Q E s := by
  have ty : s.TypeIs (.ref e) "enumerate" := ⟨_, eE, rfl⟩
  have sl := F.slot_enumerate_next
  unfold pyNext
  exact wpAny_bind (wpAny_attempt (wpAny_callSpecial?_slot (name := Str.ofString "__next__") ty sl (wpAny_call_entry sl ty F.entry_enumerate_next (enum_step eE eI eL ex ne fun h' a b c k => wpAny_pure (q h' a b c k)) (F.args_enumerate_next_1 _))))
theorem next_enum_end {e it l : Addr} {c : Int} {i : Nat} {items : Array Value} {old : Value} {Q : Option Value → Shared → Prop} (hh : A.handled = none) (eE : IsEnum s.heap e it c old) (eI : s.heap.IsListIter it l i) (eL : s.heap.IsList l items) (ex : items[i]? = none)
    (q : ∀ h', Heap.ExtBut it s.heap h' → Q none { s with heap := h' }) : wpAny (model prog w) A (pyNext (.ref e)) Q E s := by
  have ty : s.TypeIs (.ref e) "enumerate" := ⟨_, eE, rfl⟩
  have sl := F.slot_enumerate_next
  unfold pyNext
  refine wpAny_bind (wpAny_attempt (wpAny_callSpecial?_slot (name := Str.ofString "__next__") ty sl (wpAny_call_entry sl ty F.entry_enumerate_next ?_ (F.args_enumerate_next_1 _))))
  show wpAny (model prog w) _ (field (.ref e) 2 >>= _) _ _ _
  refine wpAny_bind (wpAny_field eE rfl (x := .ref it) rfl (wpAny_bind (wpAny_nextOf_list_end hh eI eL ex fun h' x eb hx => ?_)))
  obtain ⟨o, ho, hc⟩ := hx
  exact wpAny_bind (wpAny_isInstance (T := "StopIteration") (b := true) ⟨o, ho, hc⟩ isSubtype_stop (wpAny_pure (q _ eb)))
end
theorem turned2 {X : Cx} {pins : List (Addr × Obj)} {σ : L2.St} {H : Hp} {s : Shared} {h' : Heap} {t' : Nat} {e it : Addr} {o o' : Obj} {vs : Array Value} (I : Inv X pins σ H s) (k : ∀ b u, b ≠ e → b ≠ it → s.heap.get? b = some u → h'.get? b = some u) (ho : s.heap.get? it = some o) (ho' : h'.get? it = some o')
    (hd : o'.data = .fields vs) (fe : FpOk X pins H e) (fi : FpOk X pins H it) : Inv X pins σ H { s with heap := h', toks := t' } := by
  have I1 : Inv X pins σ H { s with heap := s.heap.update it fun _ => o', toks := s.toks } := I.turned (it := it) (fun b u hb eb => (Heap.get?_update_other s.heap _ (Ne.symm hb)).trans eb) fi.1 fi.2.1 fi.2.2.2.1 fi.2.2.2.2.1 fi.2.2.2.2.2
  have I2 := I1.turned (h' := h') (t' := t') (it := e) (fun b u hb eb => ?_) fe.1 fe.2.1 fe.2.2.2.1 fe.2.2.2.2.1 fe.2.2.2.2.2
  · exact I2
  · by_cases z : b = it
    · subst z
      rw [Heap.get?_update_self (fun _ => o') ho (Obj.isFreed_of_fields hd)] at eb
      exact ho'.trans eb
    · exact k b u hb z ((Heap.get?_update_other s.heap _ (Ne.symm z)).symm.trans eb)
noncomputable def Ite (K : PySem.W.Frag) (a : Addr) (c : Int) : It :=
  ⟨fun i H => ∃ xs x, SqL K H a xs ∧ xs[i]? = some x, fun i H v H' => ∃ T x, v = .ref T ∧ H T = none ∧ H' = upd H T (.tup [.int (c + i), x]) ∧ ∀ xs, SqL K H a xs → xs[i]? = some x, fun i H => ∃ xs, SqL K H a xs ∧ xs.length ≤ i⟩
theorem turn_enum {P : Program} {w : World} {K : PySem.W.Frag} {es : List Expr} {k : Nat} {tp : Pos} (a e it : Addr) (c : Int) (ne : e ≠ it) : Turn P w K (.Tuple es k tp) (Ite K a c) [e, it] e (fun i h => (∃ old, IsEnum h e it (c + (i : Nat)) old) ∧ h.IsListIter it a i) where
  mem := by simp
  obj := fun i h st b hb => by
    obtain ⟨⟨old, se⟩, o, so, oc, od⟩ := st
    rcases List.mem_cons.mp hb with rfl | hb
    · exact ⟨_, se, fun v z => by
        have z' : Data.fields _ = Data.cell v := z
        cases z'⟩
    · obtain rfl : b = it := by simpa using hb
      exact ⟨o, so, fun v z => by rw [od] at z; cases z⟩
  keep := fun i h h' st kk => ⟨let ⟨old, se⟩ := st.1; ⟨old, kk e (by simp) _ se⟩, st.2.at fun o eo => kk it (by simp) o eo⟩
  item := by
    intro X hP hw hK hc i pins s σ H E I hf st hg
    subst hP hw hK
    obtain ⟨⟨old, se⟩, si⟩ := st
    obtain ⟨xs, x, hq, hx⟩ := hg
    obtain ⟨its, rv, p, hz⟩ := I.list hq
    obtain ⟨u, hu, ru⟩ := rv.get hx
    have fe := hf e (by simp)
    have fi := hf it (by simp)
    have lte : e < s.heap.objs.size := Heap.lt_size se
    obtain ⟨oi, hoi, hoc, hod⟩ := id si
    have lti : it < s.heap.objs.size := Heap.lt_size hoi
    refine next_enum se si p.isList (x := u) (by simpa using hu) ne fun h1 so1 si1 ht1 hk1 => ⟨_, rfl, wpAny_letOwnedTupleGo_enum so1 fun h2 se2 sb2 => ?_⟩
    replace sb2 : Heap.SameBut e h1 h2 := sb2
    have fresh : H s.heap.objs.size = none := I.hok.fresh (Nat.le_refl _)
    have I1 : Inv X pins σ (upd H s.heap.objs.size (.tup [.int (c + (i : Nat)), x])) { s with heap := s.heap.push { cls := .type "tuple", data := .seq ([.int (c + (i : Nat)) s.toks, u] : List Value).toArray }, toks := s.toks } :=
      I.laid (fun b o eb => Heap.get?_push_of_some _ eb) (Nat.le_refl _) (show ObjOk X.prog X.w _ _ _ (.tup _) from ⟨(by show 2 ≤ sizeLine; decide), _, .cons ⟨_, rfl⟩ (.cons ru .nil), IsTup.new _ _⟩)
    have si2 : h2.IsListIter it a (i + 1) := si1.at fun o eo => (sb2.2 it ne.symm).trans eo
    obtain ⟨o2, ho2, _, hd2⟩ := id si2
    have fo : ∀ b, b < s.heap.objs.size → FpOk X pins H b → FpOk X pins (upd H s.heap.objs.size (.tup [.int (c + (i : Nat)), x])) b := fun b lb fb => ⟨by rw [upd_ne (Nat.ne_of_lt lb)]; exact fb.1, fb.2⟩
    have I2 := turned2 (h' := h2) (t' := s.toks + 1) I1 (e := e) (it := it) (fun b o z1 z2 eb => ?_) (Heap.get?_push_of_some _ hoi) ho2 hd2 (fo e lte fe) (fo it lti fi)
    · refine ⟨.ref s.heap.objs.size, _, I2, rfl, ⟨_, x, rfl, fresh, rfl, fun ys hy => by rw [I.list_inj hy hq]; exact hx⟩, ⟨⟨u, ?_⟩, si2⟩, fun b hb => ?_⟩
      · have ei : c + ((i + 1 : Nat) : Int) = c + (i : Nat) + 1 := by (first | lia | omega)
        rw [ei]
        exact se2
      · rcases List.mem_cons.mp hb with rfl | hb
        · exact (fo _ lte fe).1
        · obtain rfl : b = it := by simpa using hb
          exact (fo _ lti fi).1
    · rcases Heap.get?_push_cases eb with ⟨rfl, rfl⟩ | eb
      · exact (sb2.2 _ z1).trans ht1
      · exact (sb2.2 _ z1).trans (hk1 b o z1 z2 eb)
  done := by
    intro X hP hw hK hc i pins s σ H E I hf st hg
    subst hP hw hK
    obtain ⟨⟨old, se⟩, si⟩ := st
    obtain ⟨xs, hq, hx⟩ := hg
    obtain ⟨its, rv, p, hz⟩ := I.list hq
    obtain ⟨f0, f1, f2, f3, f4, f5⟩ := hf it (by simp)
    have hlen := rv.length
    exact next_enum_end (I.ok.hd hc) se si p.isList (by simp; (first | lia | omega)) fun h' eb => ⟨rfl, I.turned (t' := s.toks) (fun b o hb z => eb b o hb z) f0 f1 f3 f4 f5⟩
  self := fun _ _ _ _ _ st h => let ⟨_, se⟩ := st.1; wpAny_pyIter_enum se h
noncomputable def iEnum (K : PySem.W.Frag) (ta : TA) : TI := fun σ H R => ta σ H fun vs H1 => ∃ a, vs = [.ref a] ∧ (∃ xs, SqL K H1 a xs) ∧ R (Ite K a 0) H1
theorem pi_enum {X : Cx} {es : List Expr} {k : Nat} {tp : Pos} {a : Expr} {ta : TA} {p pos : Pos} (hg : Gl X "enumerate") (hm : X.mg "enumerate" = none) (ha : PA X [a] ta) (hs : starEach [a] X.env = [(false, eval a X.env)] := by rfl) : PI X (.Tuple es k tp) (.Call (.Name "enumerate" p) [a] [] pos) (iEnum X.K ta) := by
  intro pins s σ H R I h
  refine Call_ (ld_blt I hg hm boot_enumerate (PyProof.Rows.callWith_type1 (thn (ha pos pins s σ H _ I h) fun us s1 ⟨vs, H1, I1, r1, q1⟩ => ?_) hs rfl))
  obtain ⟨l, rfl, ⟨xs, hq⟩, q⟩ := q1
  cases r1 with
  | cons r rr =>
    cases rr
    cases r
    obtain ⟨its, rv, pl, hz⟩ := I1.list hq
    refine call_enumerate_list pl.isList fun h' se si hsz hk => wpAny_pyIter_enum se ?_
    have I2 : Inv X pins σ H1 { s1 with heap := h' } := I1.kept (t' := s1.toks) hk
    refine ⟨s1.heap.objs.size + 1, [s1.heap.objs.size + 1, s1.heap.objs.size], _, _, H1, rfl, I2, turn_enum l _ _ 0 (Nat.succ_ne_self _), ⟨⟨.none, by simpa using se⟩, si⟩, fun b hb => ?_, q⟩
    rcases List.mem_cons.mp hb with rfl | hb
    · exact I1.fpOk (Nat.le_succ _) (I1.hok.fresh (Nat.le_succ _))
    · obtain rfl : b = s1.heap.objs.size := by simpa using hb
      exact I1.fpOk (Nat.le_refl _) (I1.hok.fresh (Nat.le_refl _))
theorem for_enum {K : PySem.W.Frag} {a : Addr} {c : Int} {xs : List V} {g : TG} {tb : TS} {D : Ends} {σ : L2.St} {H : Hp} (Pv : Nat → L2.St → Hp → Prop) (h0 : Pv 0 σ H) (hl : ∀ i σ H, i ≤ xs.length → Pv i σ H → SqL K H a xs)
    (hs : ∀ i x σ H T, xs[i]? = some x → Pv i σ H → H T = none → g (.ref T) σ (upd H T (.tup [.int (c + i), x])) fun σ2 H2 => tb { D with nx := Pv (i + 1), ct := Pv (i + 1), bk := D.nx } σ2 H2) (hd : ∀ σ H, Pv xs.length σ H → D.nx σ H) :
    ∃ W : Nat → Nat → L2.St → Hp → Prop, (∃ m, W 0 m σ H) ∧ ∀ i m σ H, W i m σ H →
      ((Ite K a c).stop i H ∧ D.nx σ H) ∨ ((Ite K a c).go i H ∧ ∃ N : L2.St → Hp → Prop, (∀ σ' H', N σ' H' → ∃ m', m' < m ∧ W (i + 1) m' σ' H') ∧ ∀ x H', (Ite K a c).yld i H x H' → g x σ H' fun σ2 H2 => tb { D with nx := N, ct := N, bk := D.nx } σ2 H2) := by
  refine ⟨fun i m σ H => m = xs.length - i ∧ i ≤ xs.length ∧ Pv i σ H, ⟨xs.length, by simp, Nat.zero_le _, h0⟩, ?_⟩
  rintro i m σ H ⟨rfl, hi, p⟩
  have q := hl i σ H hi p
  by_cases hlt : i < xs.length
  · refine .inr ⟨⟨xs, _, q, List.getElem?_eq_getElem hlt⟩, Pv (i + 1), fun σ' H' p' => ⟨xs.length - (i + 1), by (first | lia | omega), rfl, hlt, p'⟩, ?_⟩
    rintro v H' ⟨T, x, rfl, hT, rfl, y⟩
    exact hs i x σ H T (y xs q) p hT
  · obtain rfl : i = xs.length := by (first | lia | omega)
    exact .inl ⟨⟨xs, q, Nat.le_refl _⟩, hd σ H p⟩
end L3

namespace My
open PySem L2 L3 Ra Rq PyProof.Rows
theorem la1 {us : List Value} (h : us.length = 1) : ∃ a, us = [a] := match us, h with | [a], _ => ⟨a, rfl⟩
theorem la2 {us : List Value} (h : us.length = 2) : ∃ a b, us = [a, b] := match us, h with | [a, b], _ => ⟨a, b, rfl⟩
theorem la3 {us : List Value} (h : us.length = 3) : ∃ a b c, us = [a, b, c] := match us, h with | [a, b, c], _ => ⟨a, b, c, rfl⟩
theorem la4 {us : List Value} (h : us.length = 4) : ∃ a b c d, us = [a, b, c, d] := match us, h with | [a, b, c, d], _ => ⟨a, b, c, d, rfl⟩
theorem bt2 {n : Nat} {x : Int} (h : x.natAbs < 2 ^ n) : Bt n x := h
local macro_rules | `(tactic| walk_at "s") => `(tactic| first
  | refine ⟨_, rfl, ?_⟩
  | refine ⟨_, _, rfl, rfl, ?_⟩
  | refine ⟨_, _, rfl, ?_⟩
  | refine ⟨rfl, ?_⟩
  | refine ⟨_, _, _, _, rfl, rfl, Pr.sq (by assumption), rfl, ?_⟩
  | refine ⟨_, _, _, _, rfl, TyOf.int _, kit_int_int _, ?_⟩
  | refine ⟨_, _, _, _, rfl, TyOf.int _, kit_int_bool _, ?_⟩
  | refine ⟨_, _, _, _, rfl, TyOf.tup (by assumption), kit_tup_tup _, ?_⟩
  | refine ⟨_, _, rfl, .inr (Pr.sq (by assumption)), ?_⟩
  | refine iteF ?_
  | refine iteT ?_
  | refine ⟨(by show (0 : Int) < _; decide), ?_⟩
  | refine ⟨⟨(by decide), bt2 (by decide +kernel)⟩, ?_⟩
  | refine ⟨(⟨(by decide), (by decide), (by decide)⟩ : CPow _ _), ?_⟩)
local macro_rules | `(tactic| walk_at "r") => `(tactic| repeat walk_at "s")

structure Txt (mg : Str → Option Value) : Prop where
  z_abs : mg "abs" = none
  z_len : mg "len" = none
  z_isinstance : mg "isinstance" = none
  z_int : mg "int" = none
  z_bool : mg "bool" = none
  z_tuple : mg "tuple" = none
  z_range : mg "range" = none
  z_list : mg "list" = none
  z_min : mg "min" = none
  z_max : mg "max" = none
  z_all : mg "all" = none
  z_enumerate : mg "enumerate" = none
  z_zip : mg "zip" = none
  z_sorted : mg "sorted" = none
  z_reversed : mg "reversed" = none


noncomputable def top (i : Nat) : Stmt := PySem.Challenge.pw_tautcord_k32_bands_by_elimination.main.body.getD i (.Pass ⟨0, 0, 0, 0⟩)
noncomputable abbrev s_is_whole : Stmt := top 4
noncomputable abbrev s_divisor : Stmt := top 5
noncomputable abbrev s_fraction : Stmt := top 7
noncomputable abbrev s_side : Stmt := top 8
noncomputable abbrev s_poly : Stmt := top 10
noncomputable abbrev s_shared_bottom : Stmt := top 11
noncomputable abbrev s_whole_figures : Stmt := top 12
noncomputable abbrev s_whole_times : Stmt := top 13
noncomputable abbrev s_band : Stmt := top 15
noncomputable abbrev s_parts_of_row : Stmt := top 16
noncomputable abbrev s_part_beside : Stmt := top 17
noncomputable abbrev s_whole_minus : Stmt := top 18
noncomputable abbrev s_law_cell_at : Stmt := top 20
noncomputable abbrev s_law_whole : Stmt := top 21
noncomputable abbrev s_law_divisor : Stmt := top 22
noncomputable abbrev s_law_low : Stmt := top 23
noncomputable abbrev s_law_numbers : Stmt := top 24
noncomputable abbrev s_law_worth : Stmt := top 25
noncomputable abbrev s_law_is : Stmt := top 26
noncomputable abbrev s_law_figures : Stmt := top 27
noncomputable abbrev s_law_table_by : Stmt := top 28
noncomputable abbrev s_law_least : Stmt := top 29
noncomputable abbrev s_law_added : Stmt := top 30
noncomputable abbrev s_law : Stmt := top 31
noncomputable def sp_div : Sp := fun vs H Q _ => ∃ a b, vs = [.int a, .int b] ∧ Q (.int (g a b)) H
noncomputable def sp_cell (K : PySem.W.Frag) : Sp := fun vs H Q _ => ∃ (a : Addr) (ns : List Int) (k : Nat), vs = [.ref a, .int k] ∧ SqL K H a (ns.map V.int) ∧ Q (.int (cellA ns k)) H
noncomputable def sp_mixed : Sp := fun vs H Q _ => ∃ c k, vs = [.int c, .int k] ∧ (0 ≤ k ∧ k ≤ 1000) ∧ Q (.int (mixed c k)) H
noncomputable def sp_signed : Sp := fun vs H Q _ => ∃ n, vs = [.int n] ∧ ∀ H', Same H H' → Q (.int (signed n)) H'
noncomputable def sp_low : Sp := fun vs H Q _ => ∃ t b, vs = [.int t, .int b] ∧ 0 < b ∧ Bt 8000 b ∧ ∀ r H', Same H H' → Pr H' r (t / g t b) (b / g t b) → Q (.ref r) H'
noncomputable def sp_ratio : Sp := fun vs H Q _ => ∃ n, vs = [.int n] ∧ 0 ≤ n ∧ ∀ r x y H', Same H H' → Fq x y → Bt 101 x → Bt 101 y → Pr H' r x y → Q (.ref r) H'
noncomputable def sp_whole : Sp := fun vs H Q _ => ∃ i, vs = [.int i] ∧ Q (.bl true) H
noncomputable def sp_is : Sp := fun vs H Q _ => ∃ r x y t b, vs = [.ref r, .int t, .int b] ∧ Pr H r x y ∧ Fq x y ∧ x * b = t * y ∧ IntMulOk x b ∧ IntMulOk t y ∧ Q (.bl true) H
noncomputable def sp_plus : Sp := fun vs H Q _ => ∃ p q a b c d, vs = [.ref p, .ref q] ∧ Pr H p a b ∧ Pr H q c d ∧ 0 < b ∧ 0 < d ∧ Bt 8000 a ∧ Bt 8000 b ∧ Bt 8000 c ∧ Bt 8000 d ∧ ∀ r H', Same H H' → Pr H' r (plsN a b c d) (plsD a b c d) → Q (.ref r) H'
noncomputable def sp_minus : Sp := fun vs H Q _ => ∃ p q a b c d, vs = [.ref p, .ref q] ∧ Pr H p a b ∧ Pr H q c d ∧ 0 < b ∧ 0 < d ∧ Bt 8000 a ∧ Bt 8000 b ∧ Bt 8000 c ∧ Bt 8000 d ∧ ∀ r H', Same H H' → Pr H' r (plsN a b (-c) d) (plsD a b (-c) d) → Q (.ref r) H'
noncomputable def sp_times : Sp := fun vs H Q _ => ∃ p q a b c d, vs = [.ref p, .ref q] ∧ Pr H p a b ∧ Pr H q c d ∧ 0 < b ∧ 0 < d ∧ Bt 8000 a ∧ Bt 8000 b ∧ Bt 8000 c ∧ Bt 8000 d ∧ ∀ r H', Same H H' → Pr H' r (tmsN a b c d) (tmsD a b c d) → Q (.ref r) H'
noncomputable def sp_law (K : PySem.W.Frag) : Sp := fun vs H Q _ => ∃ (a : Addr) (ns : List Int), vs = [.ref a] ∧ SqL K H a (ns.map V.int) ∧ ns.length ≤ 63 ∧ ∀ H', Q (.bl true) H'
theorem g_bt {n : Nat} {t b : Int} (h : 0 < b) (k : Bt n b) : Bt n (g t b) := by
  refine k.of_le ?_
  have h1 : g t b ≤ b := Int.le_of_dvd h (g_dvd_right t b)
  have h2 := g_nonneg t b
  (first | lia | omega)
section
variable {P : Program} {w : World} {K : PySem.W.Frag} {mg : Str → Option Value} {base : Heap} {f : Addr} {fd : FuncData}
theorem sc_divisor : FnScope ["one", "other", "first", "second", "rest"] ["one", "other"] (defScope s_divisor) := ⟨rfl, rfl, rfl, by decide +kernel, rfl, by decide +kernel, by decide +kernel⟩
theorem ok_divisor (F : Fun K "divisor" "divisor" s_divisor f fd) (T : Txt mg) : FnOk P w K mg base CX0 1 f fd ["one", "other"] sp_div := by
  refine F.ok sc_divisor (fun vs H Q E h => ?_) (fun cdv A outer s H vs Q E hr h => ?_)
  · obtain ⟨a, b, rfl, _⟩ := h
    rfl
  obtain ⟨a, b, rfl, q⟩ := h
  refine ⟨_, (pss_cons (ps_set (i := 2) sc_divisor.nd rfl (Or.inl rfl) (pe_callB call_abs rfl T.z_abs boot_abs (pa_cons (pv 0) pa_nil)))
      (pss_cons (ps_set (i := 3) sc_divisor.nd rfl (Or.inl rfl) (pe_callB call_abs rfl T.z_abs boot_abs (pa_cons (pv 1) pa_nil)))
      (pss_cons (ps_while PassesOwn.never (pt_cmpR op_gt (pv 3) pe_int (nomark _))
        (pss_cons (ps_set (i := 4) sc_divisor.nd rfl (Or.inl rfl) (pe_op op_mod (pv 2) (pv 3)))
        (pss_cons (ps_set (i := 2) sc_divisor.nd rfl (Or.inl rfl) (pv 3))
        (pss_one (ps_set (i := 3) sc_divisor.nd rfl (Or.inl rfl) (pv 4))))))
      (pss_one (ps_ret (pv 2)))))), ?_⟩
  refine ⟨_, rfl, _, rfl, _, rfl, _, rfl, ?_⟩
  refine ⟨fun m σ H' => ∃ x y r, σ = [some (.int a), some (.int b), some (.int x), some (.int y), r] ∧ H = H' ∧ 0 ≤ x ∧ 0 ≤ y ∧ g x y = g a b ∧ m = y.toNat, ⟨_, _, _, _, rfl, rfl, ?_, ?_, g_abs a b, rfl⟩, ?_⟩
  · split <;> (first | lia | omega)
  · split <;> (first | lia | omega)
  rintro m σ _ ⟨x, y, r, rfl, rfl, hx, hy, e, rfl⟩
  refine ⟨_, rfl, _, _, rfl, rfl, _, rfl, ?_⟩
  refine ite2 (fun c => ⟨fun σ' H' => ∃ m', m' < y.toNat ∧ ∃ x y r, σ' = [some (.int a), some (.int b), some (.int x), some (.int y), r] ∧ H = H' ∧ 0 ≤ x ∧ 0 ≤ y ∧ g x y = g a b ∧ m' = y.toNat, fun _ _ h => h, ?_⟩) (fun c => ?_)
  · have c' : (0 : Int) < y := of_decide_eq_true c
    refine ⟨_, rfl, _, rfl, _, _, rfl, rfl, c', _, rfl, _, rfl, ?_⟩
    have h1 := Int.emod_nonneg x (show y ≠ 0 by (first | lia | omega))
    have h2 := Int.emod_lt_of_pos x c'
    exact ⟨_, by (first | lia | omega), y, x % y, _, rfl, rfl, hy, h1, by rw [g_step hx c', e], rfl⟩
  · have c' : ¬ (0 : Int) < y := of_decide_eq_false (Bool.eq_false_iff.mpr c)
    have y0 : y = 0 := by (first | lia | omega)
    refine ⟨_, rfl, ?_⟩
    rw [← e, y0, g_end hx] at q
    exact q
theorem sc_law_whole : FnScope ["_law_found"] ["_law_found"] (defScope s_law_whole) := ⟨rfl, rfl, rfl, by decide +kernel, rfl, by decide +kernel, by decide +kernel⟩
theorem ok_law_whole (F : Fun K "_law_whole" "_law_whole" s_law_whole f fd) (T : Txt mg) : FnOk P w K mg base CX0 1 f fd ["_law_found"] sp_whole := by
  refine F.ok sc_law_whole (fun vs H Q E h => ?_) (fun cdv A outer s H vs Q E hr h => ?_)
  · obtain ⟨i, rfl, _⟩ := h
    rfl
  obtain ⟨i, rfl, q⟩ := h
  refine ⟨_, (pss_one (ps_ret (pe_and (pe_callB call_isi rfl T.z_isinstance boot_isinstance (pa_cons (pv 0) (pa_cons (pe_bltn (v := .ty "int") rfl T.z_int boot_int rfl) pa_nil))) (pe_one (pe_not (pe_callB call_isi rfl T.z_isinstance boot_isinstance (pa_cons (pv 0) (pa_cons (pe_bltn (v := .ty "bool") rfl T.z_bool boot_bool rfl) pa_nil)))))))), ?_⟩
  refine ⟨_, rfl, _, _, _, _, rfl, TyOf.int _, kit_int_int _, _, rfl, iteT ?_⟩
  exact ⟨_, rfl, _, _, _, _, rfl, TyOf.int _, kit_int_bool _, _, rfl, q⟩

noncomputable def sp_whole2 : Sp := fun vs H Q _ => ∃ i, vs = [.int i] ∧ Q (.bl true) H
noncomputable def sp_fraction (c : Addr) : Sp := fun vs H Q E => ∃ t b, vs = [.int t, .int b] ∧ (b = 0 → E (.ref c) none H) ∧ (b ≠ 0 → Bt 8000 b ∧ ∀ r H', Same H H' → Pr H' r (frN t b) (frD t b) → Q (.ref r) H')
noncomputable def sp_over (cN : Addr) : Sp := fun vs H Q E => ∃ p q a b c d, vs = [.ref p, .ref q] ∧ Pr H p a b ∧ Pr H q c d ∧ (c = 0 → E (.ref cN) none H) ∧
  (c ≠ 0 → 0 < b ∧ 0 < d ∧ Bt 8000 a ∧ Bt 8000 b ∧ Bt 8000 c ∧ Bt 8000 d ∧ ∀ r H', Same H H' → Pr H' r (tmsN a b (frN d c) (frD d c)) (tmsD a b (frN d c) (frD d c)) → Q (.ref r) H')
noncomputable def sp_under : Sp := fun vs H Q _ => ∃ p q a b c d, vs = [.ref p, .ref q] ∧ Pr H p a b ∧ Pr H q c d ∧ IntMulOk a d ∧ IntMulOk c b ∧ Q (.bl (decide (a * d < c * b))) H
noncomputable def sp_side : Sp := fun vs H Q _ => ∃ p a b, vs = [.ref p] ∧ Pr H p a b ∧ Q (.int (sgn a)) H
noncomputable def sp_side2 : Sp := fun vs H Q _ => ∃ p a b, vs = [.ref p] ∧ Pr H p a b ∧ Bt 9000 a ∧ Q (.int (sgn a)) H
theorem sc_is_whole : FnScope ["thing"] ["thing"] (defScope s_is_whole) := ⟨rfl, rfl, rfl, by decide +kernel, rfl, by decide +kernel, by decide +kernel⟩
theorem ok_is_whole (F : Fun K "is_whole" "is_whole" s_is_whole f fd) (T : Txt mg) : FnOk P w K mg base CX0 1 f fd ["thing"] sp_whole := by
  refine F.ok sc_is_whole (fun vs H Q E h => ?_) (fun cdv A outer s H vs Q E hr h => ?_)
  · obtain ⟨i, rfl, _⟩ := h
    rfl
  obtain ⟨i, rfl, q⟩ := h
  refine ⟨_, (pss_one (ps_ret (pe_and (pe_callB call_isi rfl T.z_isinstance boot_isinstance (pa_cons (pv 0) (pa_cons (pe_bltn (v := .ty "int") rfl T.z_int boot_int rfl) pa_nil))) (pe_one (pe_not (pe_callB call_isi rfl T.z_isinstance boot_isinstance (pa_cons (pv 0) (pa_cons (pe_bltn (v := .ty "bool") rfl T.z_bool boot_bool rfl) pa_nil)))))))), ?_⟩
  refine ⟨_, rfl, _, _, _, _, rfl, TyOf.int _, kit_int_int _, _, rfl, iteT ?_⟩
  exact ⟨_, rfl, _, _, _, _, rfl, TyOf.int _, kit_int_bool _, _, rfl, q⟩
theorem sc_side : FnScope ["one"] ["one"] (defScope s_side) := ⟨rfl, rfl, rfl, by decide +kernel, rfl, by decide +kernel, by decide +kernel⟩
theorem ok_side (F : Fun K "side" "side" s_side f fd) (T : Txt mg) : FnOk P w K mg base CX0 1 f fd ["one"] sp_side := by
  refine F.ok sc_side (fun vs H Q E h => ?_) (fun cdv A outer s H vs Q E hr h => ?_)
  · obtain ⟨p, a, b, rfl, _⟩ := h
    rfl
  obtain ⟨p, a, b, rfl, hp, q⟩ := h
  unfold sgn at q
  refine ⟨_, (pss_cons (ps_if (pt_cmpR op_gt (pe_ix ix_tup (pv 0) pe_int (fun _ _ => rfl)) pe_int (nomark _))
        (pss_one (ps_ret pe_int))
        pss_nil)
      (pss_cons (ps_if (pt_cmpR op_lt (pe_ix ix_tup (pv 0) pe_int (fun _ _ => rfl)) pe_int (nomark _))
        (pss_one (ps_ret (pe_un un_neg pe_int)))
        pss_nil)
      (pss_one (ps_ret pe_int)))), ?_⟩
  refine ⟨_, rfl, _, _, _, _, rfl, rfl, hp.sq, rfl, _, _, rfl, rfl, _, rfl, ?_⟩
  refine ite2 (fun c => ?_) (fun c => ?_)
  · have z : a > 0 := of_decide_eq_true c
    rw [if_pos z] at q
    exact q
  · have z : ¬ a > 0 := of_decide_eq_false (Bool.eq_false_iff.mpr c)
    rw [if_neg z] at q
    refine ⟨_, rfl, _, _, _, _, rfl, rfl, hp.sq, rfl, _, _, rfl, rfl, _, rfl, ?_⟩
    refine ite2 (fun c2 => ?_) (fun c2 => ?_)
    · have z2 : a < 0 := of_decide_eq_true c2
      rw [if_pos z2] at q
      exact ⟨_, rfl, q⟩
    · have z2 : ¬ a < 0 := of_decide_eq_false (Bool.eq_false_iff.mpr c2)
      rw [if_neg z2] at q
      exact q

noncomputable def sp_bin (n : Nat) (op : Rat → Rat → Rat) : Sp := fun vs H Q _ => ∃ p q a b, vs = [.ref p, .ref q] ∧ Pq H p a ∧ Pq H q b ∧ Bq n a ∧ Bq n b ∧ ∀ r H', Same H H' → Pq H' r (op a b) → Q (.ref r) H'
noncomputable def sp_lowQ : Sp := fun vs H Q _ => ∃ t b, vs = [.int t, .int b] ∧ 0 < b ∧ Bt 8000 b ∧ ∀ r H', Same H H' → Pq H' r ((t : Rat) / (b : Rat)) → Q (.ref r) H'
noncomputable def sp_ratioQ : Sp := fun vs H Q _ => ∃ n, vs = [.int n] ∧ 0 ≤ n ∧ ∀ r q H', Same H H' → Bq 101 q → Pq H' r q → Q (.ref r) H'
noncomputable def sp_isQ : Sp := fun vs H Q _ => ∃ r q t b, vs = [.ref r, .int t, .int b] ∧ Pq H r q ∧ b ≠ 0 ∧ q = (t : Rat) / (b : Rat) ∧ IntMulOk q.num b ∧ IntMulOk t q.den ∧ Q (.bl true) H
noncomputable def sp_atQ : Sp := fun vs H Q _ => ∃ (a : Addr) (qs : List Rat) (k : Nat), vs = [.ref a, .int k] ∧ Rw H a qs ∧ ∀ p H', Same H H' → Pq H' p (qs.getD k 0) → Q (.ref p) H'
noncomputable def sp_stripQ : Sp := fun vs H Q _ => ∃ a qs, vs = [.ref a] ∧ Rw H a qs ∧ qs.length ≤ 1000 ∧ ∀ r H', Same H H' → H r = none → Rw H' r (Po.strip qs) → Q (.ref r) H'
noncomputable def sp_row_by : Sp := fun vs H Q _ => ∃ c k w, vs = [.int c, .int k, .int w] ∧ (0 ≤ k ∧ k ≤ 900) ∧ (w = 2 ∨ w = 3) ∧ ∀ r qs H', Same H H' → H r = none → Rw H' r qs → qs.length ≤ 13 → (∀ q ∈ qs, Bq 101 q) → (w = 2 → ∀ q ∈ qs, Bq 6 q) → Q (.ref r) H'
noncomputable def sp_sameQ : Sp := fun vs H Q _ => ∃ a b qs, vs = [.ref a, .ref b] ∧ Rw H a qs ∧ Rw H b qs ∧ qs.length ≤ 1000 ∧ Q (.bl true) H
noncomputable abbrev Rws (H : Hp) : List Addr → List (List Rat) → Prop := Paired (Rw H)
noncomputable def ApartAt (a h k : Addr) (H : Hp) (R : Hp → Prop) : Prop := ∃ qs as bs rss, Rw H a qs ∧ qs.length ≤ 1000 ∧ H h = some (.lst (as.map V.ref)) ∧ Rws H as rss ∧ H k = some (.lst (bs.map V.ref)) ∧ Rws H bs rss ∧
  a ∉ as ∧ a ∉ bs ∧ a ≠ h ∧ a ≠ k ∧ h ∉ as ∧ as.length ≤ 2 ∧ (∀ rs ∈ rss, rs.length ≤ 1000) ∧ ∀ H', Sx (a :: as) H H' → R H'
noncomputable def sp_apart : Sp := fun vs H Q _ => ∃ a h k, vs = [.ref a, .ref h, .ref k] ∧ ApartAt a h k H fun H' => Q (.bl true) H'

noncomputable def sp_pbin (op : List Rat → List Rat → List Rat) : Sp := fun vs H Q _ => ∃ a b ps qs, vs = [.ref a, .ref b] ∧ Rw H a ps ∧ Rw H b qs ∧ ps.length ≤ 30 ∧ qs.length ≤ 30 ∧ (∀ q ∈ ps, Bq 1500 q) ∧ (∀ q ∈ qs, Bq 1500 q) ∧ ∀ r H', Same H H' → H r = none → Rw H' r (op ps qs) → Q (.ref r) H'
noncomputable def sp_scaled : Sp := fun vs H Q _ => ∃ a p qs x, vs = [.ref a, .ref p] ∧ Rw H a qs ∧ Pq H p x ∧ qs.length ≤ 30 ∧ (∀ q ∈ qs, Bq 1500 q) ∧ Bq 1500 x ∧ ∀ r H', Same H H' → H r = none → Rw H' r (Po.pscale qs x) → Q (.ref r) H'
noncomputable def sp_slope : Sp := fun vs H Q _ => ∃ a qs, vs = [.ref a] ∧ Rw H a qs ∧ qs.length ≤ 30 ∧ (∀ q ∈ qs, Bq 1500 q) ∧ ∀ r H', Same H H' → H r = none → Rw H' r (Po.pslope qs) → Q (.ref r) H'
noncomputable def sp_sum : Sp := fun vs H Q _ => ∃ a b ps qs sg, vs = [.ref a, .ref b, .int sg] ∧ Rw H a ps ∧ Rw H b qs ∧ (sg = 1 ∨ sg = -1) ∧ ps.length ≤ 30 ∧ qs.length ≤ 30 ∧ (∀ q ∈ ps, Bq 1500 q) ∧ (∀ q ∈ qs, Bq 1500 q) ∧
  ∀ r H', Same H H' → H r = none → Rw H' r (if sg = 1 then Po.padd ps qs else Po.psub ps qs) → Q (.ref r) H'
noncomputable def sp_product : Sp := fun vs H Q _ => ∃ a b ps qs, vs = [.ref a, .ref b] ∧ Rw H a ps ∧ Rw H b qs ∧ ps.length ≤ 13 ∧ qs.length ≤ 13 ∧ (∀ q ∈ ps, Bq 101 q) ∧ (∀ q ∈ qs, Bq 101 q) ∧ ∀ r H', Same H H' → H r = none → Rw H' r (Po.pmul ps qs) → Q (.ref r) H'
noncomputable def GoodAt (a d h k : Addr) (H : Hp) (R : Hp → Prop) : Prop := ∃ qs as bs rss, Rw H a qs ∧ Rw H d qs ∧ qs.length ≤ 1000 ∧ H h = some (.lst (as.map V.ref)) ∧ Rws H as rss ∧ H k = some (.lst (bs.map V.ref)) ∧ Rws H bs rss ∧
  a ∉ as ∧ a ∉ bs ∧ a ≠ h ∧ a ≠ k ∧ h ∉ as ∧ as.length ≤ 2 ∧ (∀ rs ∈ rss, rs.length ≤ 1000) ∧ ∀ H', Sx (a :: as) H H' → R H'
noncomputable def sp_good : Sp := fun vs H Q _ => ∃ a d h k, vs = [.ref a, .ref d, .ref h, .ref k] ∧ GoodAt a d h k H fun H' => Q (.bl true) H'
structure Two (H : Hp) (kp o1 o2 : Addr) (ps qs : List Rat) : Prop where
  one : Rw H o1 ps
  other : Rw H o2 qs
  kept : H kp = some (.lst [.ref o1, .ref o2])
noncomputable def sp_handed : Sp := fun vs H Q _ => ∃ a b ps qs tw, vs = [.ref a, .ref b, .bl tw] ∧ Rw H a ps ∧ Rw H b qs ∧ (tw = true → ps = qs) ∧ ps.length ≤ 30 ∧ qs.length ≤ 30 ∧
  ∀ r x y H', Same H H' → H r = none → H x = none → H y = none → H' r = some (.lst [.ref x, .ref y]) → Rw H' x ps → Rw H' y qs → r ≠ x → r ≠ y → Q (.ref r) H'

theorem sgn_iff {a : Int} : sgn a = 0 ↔ a = 0 := by
  unfold sgn
  split
  · (first | lia | omega)
  · split <;> (first | lia | omega)
theorem flat_rep {α : Type} (x : α) (n : Nat) : (List.replicate n [x]).flatten = List.replicate n x := by
  induction n with
  | zero => rfl
  | succ n ih => rw [List.replicate_succ, List.flatten_cons, ih]; rfl
theorem sc_poly : FnScope ["figures", "most"] ["figures"] (defScope s_poly) := ⟨rfl, rfl, rfl, by decide +kernel, rfl, by decide +kernel, by decide +kernel⟩
theorem ok_poly (F : Fun K "poly" "poly" s_poly f fd) (T : Txt mg) (C_side : Cal P w K mg base "side" 1 ["one"] sp_side) : FnOk P w K mg base CX0 2 f fd ["figures"] sp_stripQ := by
  refine F.ok sc_poly (fun vs H Q E h => ?_) (fun cdv A outer s H vs Q E hr h => ?_)
  · obtain ⟨a, qs, rfl, _⟩ := h
    rfl
  obtain ⟨a, qs, rfl, ⟨ps, h1, h2⟩, hz, q⟩ := h
  have hl := h2.length
  refine ⟨_, (pss_cons (ps_set (i := 1) sc_poly.nd rfl (Or.inl rfl) (pe_callB call_len_seq rfl T.z_len PySem.boot_len (pa_cons (pv 0) pa_nil)))
      (pss_cons (ps_while PassesOwn.never (PW.pt (pw_and (pt_cmpR op_gt (pv 1) pe_int (nomark _)) (pw_and1 (pt_cmpR op_eq (pe_cl C_side hr (pa_cons (pe_ix ix_list (pv 0) (pe_op op_sub (pv 1) pe_int) (fun _ _ => rfl)) pa_nil)) pe_int (nomark _)))))
        (pss_one (ps_aug (i := 1) sc_poly.nd rfl (Or.inl rfl) pe_int ip_sub)))
      (pss_one (ps_ret (pe_slice sl_list (pv 0) po_none (po_some (pv 1))))))), ?_⟩
  refine ⟨_, rfl, a, _, rfl, .inl (SqL.of h1), ?_⟩
  refine ⟨fun m σ H' => ∃ n : Nat, σ = [some (.ref a), some (.int n)] ∧ H = H' ∧ n ≤ qs.length ∧ Po.strip (qs.take n) = Po.strip qs ∧ m = n, ⟨_, qs.length, ?_, rfl, Nat.le_refl _, by rw [List.take_length], rfl⟩, ?_⟩
  · rw [List.length_map, hl]; rfl
  rintro m σ _ ⟨n, rfl, rfl, hn, e, rfl⟩
  have fin : Po.strip qs = qs.take m → ∀ p, H p = none → Q (.ref p) (upd H p (.lst (cutV (ps.map V.ref) none (some (m : Int))))) := fun e2 p hp => by
    refine q p _ (same_upd hp _) hp ⟨ps.take m, ?_, ?_⟩
    · rw [upd_same]
      unfold cutV
      rw [HT.sIx_none, HT.sIx_nat, List.length_map, Nat.min_eq_left (by (first | lia | omega)), List.drop_zero, List.map_take]
      rfl
    · rw [e2]
      exact (h2.take m).keep (same_upd hp _)
  refine ⟨_, rfl, _, _, rfl, rfl, _, rfl, ?_⟩
  refine ite2 (fun c => ?_) (fun c => ?_)
  · have c' : (0 : Int) < m := of_decide_eq_true c
    obtain ⟨n, rfl⟩ : ∃ n, m = n + 1 := ⟨m - 1, by (first | lia | omega)⟩
    have hlt : n < qs.length := by (first | lia | omega)
    have eq := List.getElem?_eq_getElem hlt
    obtain ⟨p, e1, hp⟩ := h2.get eq
    have e0 : ((n + 1 : Nat) : Int) - 1 = (n : Int) := by (first | lia | omega)
    have ei : atI (ps.map V.ref) (((n + 1 : Nat) : Int) - 1) = some (.ref p) := by
      rw [e0]
      exact atI_nat e1
    refine ⟨_, rfl, _, rfl, _, _, rfl, rfl, a, _, _, _, rfl, rfl, SqL.of h1, ei, _, _, _, rfl, hp, rfl, _, rfl, ?_⟩
    refine ite2 (fun c2 => ⟨fun σ' H' => ∃ m', m' < n + 1 ∧ ∃ n : Nat, σ' = [some (.ref a), some (.int n)] ∧ H = H' ∧ n ≤ qs.length ∧ Po.strip (qs.take n) = Po.strip qs ∧ m' = n, fun _ _ h => h, ?_⟩) (fun c2 => ?_)
    · have z : qs[n] = 0 := num_zero.mp (sgn_iff.mp (V.int.inj (of_decide_eq_true c2)))
      refine ⟨_, rfl, _, _, rfl, rfl, n, by (first | lia | omega), n, ?_, rfl, by (first | lia | omega), ?_, rfl⟩
      · show [some (V.ref a), some (V.int (((n + 1 : Nat) : Int) - 1))] = _
        rw [e0]
      · rw [Po.take_snoc eq, z, Po.strip_snoc0] at e
        exact e
    · have z : qs[n] ≠ 0 := fun z => of_decide_eq_false (Bool.eq_false_iff.mpr c2) (congrArg V.int (sgn_iff.mpr (num_zero.mpr z)))
      refine ⟨_, rfl, _, rfl, _, rfl, _, _, rfl, SqL.of h1, fun p hp => fin ?_ p hp⟩
      rw [Po.take_snoc eq, Po.strip_snoc z] at e
      rw [← e, Po.take_snoc eq]
  · have c' : ¬ (0 : Int) < m := of_decide_eq_false (Bool.eq_false_iff.mpr c)
    obtain rfl : m = 0 := by (first | lia | omega)
    refine iteF ?_
    refine ⟨_, rfl, _, rfl, _, rfl, _, _, rfl, SqL.of h1, fun p hp => fin ?_ p hp⟩
    rw [← e]
    rfl

noncomputable def cell0 (ns : List Int) (k : Nat) : Int := ns.getD k 0
noncomputable def sp_cell0 (K : PySem.W.Frag) : Sp := fun vs H Q _ => ∃ (a : Addr) (ns : List Int) (k : Nat), vs = [.ref a, .int k] ∧ SqL K H a (ns.map V.int) ∧ Q (.int (cell0 ns k)) H
noncomputable def sp_gcd : Sp := fun vs H Q _ => ∃ a b, vs = [.int a, .int b] ∧ 0 ≤ b ∧ Q (.int (g a b)) H
noncomputable def sp_numbers : Sp := fun vs H Q _ => ∃ (c : Int) (m : Nat), vs = [.int c, .int m] ∧ m ≤ 100 ∧ ∀ (r : Addr) (ns : List Int) (H' : Hp), Same H H' → H r = none → H' r = some (.lst (ns.map V.int)) → ns.length = m → (∀ n ∈ ns, 0 ≤ n ∧ n < 100000) → Q (.ref r) H'
noncomputable def abv (v : Int) : Rat := ((1 + v % 12 : Int) : Rat) / ((1 + v / 12 % 12 : Int) : Rat)
noncomputable def sp_above : Sp := fun vs H Q _ => ∃ v, vs = [.int v] ∧ ∀ r H', Same H H' → Pq H' r (abv v) → Q (.ref r) H'
structure Drawn (mo : Nat) (gs ws : List Rat) : Prop where
  len : gs.length = ws.length + 1
  most : ws.length ≤ mo
  pos : (∀ q ∈ gs, 0 < q) ∧ ∀ q ∈ ws, 0 < q
  size : ((∀ q ∈ gs, Bq 4 q) ∧ ∀ q ∈ ws, Bq 4 q) ∨ (ws.length ≤ 1 + mo / 11 ∧ (∀ q ∈ gs, Bq 101 q) ∧ ∀ q ∈ ws, Bq 101 q)
noncomputable def sp_cord_by (K : PySem.W.Frag) : Sp := fun vs H Q _ => ∃ (a : Addr) (ns : List Int) (most : Nat), vs = [.ref a, .int most] ∧ SqL K H a (ns.map V.int) ∧ (∀ n ∈ ns, Bt 1048576 n) ∧ (4 ≤ most ∧ most ≤ 12) ∧
  ∀ r ga wa gs ws H', Same H H' → H' r = some (.tup [.ref ga, .ref wa]) → H ga = none → H wa = none → ga ≠ wa → Rw H' ga gs → Rw H' wa ws → Drawn most gs ws → Q (.ref r) H'
noncomputable def sp_lawB (K : PySem.W.Frag) : Sp := fun vs H Q _ => ∃ (a : Addr) (ns : List Int), vs = [.ref a] ∧ SqL K H a (ns.map V.int) ∧ ns.length ≤ 63 ∧ (∀ n ∈ ns, Bt 1048576 n) ∧ ∀ H', Q (.bl true) H'
noncomputable def CbyM (H : Hp) (a xs : Addr) (mo : Nat) (hd : Int) (σ' : L2.St) (H' : Hp) : Prop := ∃ (m' : Nat) (pt : Addr) (qs : List Rat) (v w : Option V), σ' = [some (.ref a), some (.int mo), some (.int hd), some (.int m'), some (.ref xs), some (.ref pt), v, w] ∧ Same H H' ∧ H pt = none ∧ Rw H' pt qs ∧ qs.length = 2 * m' + 1 ∧ m' ≤ mo ∧ (∀ q ∈ qs, 0 < q) ∧ ((∀ q ∈ qs, Bq 4 q) ∨ (m' ≤ 1 + mo / 11 ∧ ∀ q ∈ qs, Bq 101 q))
noncomputable def CbyI (H2 : Hp) (a xs pt : Addr) (mo m' : Nat) (hd : Int) (i : Nat) (σ : L2.St) (H' : Hp) : Prop := ∃ (v w : Option V) (qs : List Rat), σ = [some (.ref a), some (.int mo), some (.int hd), some (.int m'), some (.ref xs), some (.ref pt), v, w] ∧ Same H2 H' ∧ Rw H' pt qs ∧ qs.length = i ∧ (∀ q ∈ qs, 0 < q) ∧ ∀ q ∈ qs, Bq 101 q
theorem sc_law_cell_at : FnScope ["_law_script", "_law_k"] ["_law_script", "_law_k"] (defScope s_law_cell_at) := ⟨rfl, rfl, rfl, by decide +kernel, rfl, by decide +kernel, by decide +kernel⟩
theorem ok_law_cell_at (F : Fun K "_law_cell_at" "_law_cell_at" s_law_cell_at f fd) (T : Txt mg) : FnOk P w K mg base CX0 1 f fd ["_law_script", "_law_k"] (sp_cell0 K) := by
  refine F.ok sc_law_cell_at (fun vs H Q E h => ?_) (fun cdv A outer s H vs Q E hr h => ?_)
  · obtain ⟨a, ns, k, rfl, _⟩ := h
    rfl
  obtain ⟨a, ns, k, rfl, hS, q⟩ := h
  refine ⟨_, (pss_cons (ps_if (pt_cmpR op_lt (pv 1) (pe_callB call_len_seq rfl T.z_len PySem.boot_len (pa_cons (pv 0) pa_nil)) (nomark _))
        (pss_one (ps_ret (pe_ix ix_list (pv 0) (pv 1) (fun _ _ => rfl))))
        pss_nil)
      (pss_one (ps_ret pe_int))), ?_⟩
  have hl : (ns.map V.int).length = ns.length := List.length_map _
  refine ⟨_, rfl, _, rfl, a, _, rfl, .inl hS, _, _, rfl, rfl, _, rfl, ?_⟩
  refine ite2 (fun c => ?_) (fun c => ?_)
  · have c' : (k : Int) < (((ns.map V.int).length : Nat) : Int) := of_decide_eq_true c
    rw [hl] at c'
    have hk : k < ns.length := by (first | lia | omega)
    refine ⟨_, rfl, _, rfl, a, _, _, _, rfl, rfl, hS, atI_nat (v := .int (cell0 ns k)) ?_, q⟩
    unfold cell0
    rw [List.getElem?_map, List.getD_eq_getElem?_getD, List.getElem?_eq_getElem hk]
    rfl
  · have c' : ¬ (k : Int) < (((ns.map V.int).length : Nat) : Int) := of_decide_eq_false (Bool.eq_false_iff.mpr c)
    rw [hl] at c'
    have e : cell0 ns k = 0 := by
      unfold cell0
      rw [List.getD_eq_getElem?_getD, List.getElem?_eq_none (by (first | lia | omega))]
      rfl
    rw [e] at q
    exact q
theorem sc_law_divisor : FnScope ["_law_one", "_law_other"] ["_law_one", "_law_other"] (defScope s_law_divisor) := ⟨rfl, rfl, rfl, by decide +kernel, rfl, by decide +kernel, by decide +kernel⟩
theorem ok_law_divisor (F : Fun K "_law_divisor" "_law_divisor" s_law_divisor f fd) (T : Txt mg) : FnOk P w K mg base CX0 1 f fd ["_law_one", "_law_other"] sp_gcd := by
  refine F.ok sc_law_divisor (fun vs H Q E h => ?_) (fun cdv A outer s H vs Q E hr h => ?_)
  · obtain ⟨a, b, rfl, _⟩ := h
    rfl
  obtain ⟨a, b, rfl, hb, q⟩ := h
  refine ⟨_, (pss_cons (ps_while PassesOwn.never (pt_cmpR op_ne (pv 1) pe_int (nomark _))
        (pss_one (ps_par (i := 0) (j := 1) rfl sc_law_divisor.nd rfl rfl (by decide) rfl rfl (pa_cons (pv 1) (pa_cons (pe_op op_mod (pv 0) (pv 1)) pa_nil)) (by with_unfolding_all rfl))))
      (pss_one (ps_ret (pe_callB call_abs rfl T.z_abs boot_abs (pa_cons (pv 0) pa_nil))))), ?_⟩
  refine ⟨fun m σ H' => ∃ x y, σ = [some (.int x), some (.int y)] ∧ H = H' ∧ 0 ≤ y ∧ g x y = g a b ∧ m = y.toNat, ⟨_, _, _, rfl, rfl, hb, rfl, rfl⟩, ?_⟩
  rintro m σ _ ⟨x, y, rfl, rfl, hy, e, rfl⟩
  refine ⟨_, rfl, rfl, _, rfl, ?_⟩
  by_cases y0 : y = 0
  · subst y0
    refine iteNS rfl ?_
    refine ⟨_, rfl, _, rfl, ?_⟩
    have e2 : (if x < 0 then -x else x) = g x 0 := by
      unfold g
      rw [Int.gcd_zero_right]
      split <;> (first | lia | omega)
    rw [e2, e]
    exact q
  · refine iteSS (fun z => y0 (V.int.inj z)) ⟨fun σ' H' => ∃ m', m' < y.toNat ∧ ∃ x y, σ' = [some (.int x), some (.int y)] ∧ H = H' ∧ 0 ≤ y ∧ g x y = g a b ∧ m' = y.toNat, fun _ _ h => h, ?_⟩
    have hy0 : 0 < y := by (first | lia | omega)
    have h1 := Int.emod_nonneg x y0
    have h2 := Int.emod_lt_of_pos x hy0
    have e3 : g y (x % y) = g x y := by
      unfold g
      rw [Int.gcd_comm x y]
      exact congrArg _ (by rw [Int.emod_def, Int.sub_eq_add_neg, ← Int.mul_neg, Int.gcd_add_mul_left_right])
    exact ⟨_, rfl, _, rfl, _, rfl, _, _, rfl, rfl, hy0, _, _, rfl, _, by (first | lia | omega), y, x % y, rfl, rfl, h1, by rw [e3, e], rfl⟩
theorem sc_law_low : FnScope ["_law_top", "_law_bottom", "_law_part"] ["_law_top", "_law_bottom"] (defScope s_law_low) := ⟨rfl, rfl, rfl, by decide +kernel, rfl, by decide +kernel, by decide +kernel⟩
theorem ok_law_low (F : Fun K "_law_low" "_law_low" s_law_low f fd) (T : Txt mg) (C_law_divisor : Cal P w K mg base "_law_divisor" 1 ["_law_one", "_law_other"] sp_gcd) : FnOk P w K mg base CX0 2 f fd ["_law_top", "_law_bottom"] sp_lowQ := by
  refine F.ok sc_law_low (fun vs H Q E h => ?_) (fun cdv A outer s H vs Q E hr h => ?_)
  · obtain ⟨t, b, rfl, _⟩ := h
    rfl
  obtain ⟨t, b, rfl, hb, bb, q⟩ := h
  have c1 : 0 < g t b ∧ Bt 9000 (g t b) := ⟨g_pos (by (first | lia | omega)), (g_bt hb bb).mono (by decide)⟩
  refine ⟨_, (pss_cons (ps_set (i := 2) sc_law_low.nd rfl (Or.inl rfl) (pe_cl C_law_divisor hr (pa_cons (pv 0) (pa_cons (pv 1) pa_nil))))
      (pss_one (ps_ret (pe_tup (pa_cons (pe_op op_fdP (pv 0) (pv 2)) (pa_cons (pe_op op_fdP (pv 1) (pv 2)) pa_nil)))))), ?_⟩
  refine ⟨_, rfl, _, rfl, _, _, rfl, by (first | lia | omega), ?_⟩
  exact ⟨_, rfl, _, rfl, _, _, rfl, rfl, c1, _, rfl, _, rfl, _, _, rfl, rfl, c1, (by show 2 ≤ sizeLine; decide), fun p hp => q p _ (same_upd hp _) (Pq.of Pr.new ⟨(low_q hb).1.symm, (low_q hb).2.symm⟩)⟩
theorem sc_law_numbers : FnScope ["_law_cell", "_law_many", "_law_found", "_law_rest", "_law_k", "_law_one"] ["_law_cell", "_law_many"] (defScope s_law_numbers) := ⟨rfl, rfl, rfl, by decide +kernel, rfl, by decide +kernel, by decide +kernel⟩
theorem ok_law_numbers (F : Fun K "_law_numbers" "_law_numbers" s_law_numbers f fd) (T : Txt mg) : FnOk P w K mg base CX0 1 f fd ["_law_cell", "_law_many"] sp_numbers := by
  refine F.ok sc_law_numbers (fun vs H Q E h => ?_) (fun cdv A outer s H vs Q E hr h => ?_)
  · obtain ⟨c, m, rfl, _⟩ := h
    rfl
  obtain ⟨c, m, rfl, hm, q⟩ := h
  have hz : (1000 : Nat) < sizeLine := by decide
  refine ⟨_, (pss_cons (ps_set (i := 2) sc_law_numbers.nd rfl (Or.inl rfl) (pe_lst pa_nil))
      (pss_cons (ps_set (i := 3) sc_law_numbers.nd rfl (Or.inl rfl) (pe_op op_fdP (pv 0) pe_int))
      (pss_cons (ps_for PassesOwn.never rfl (pi_range1 rfl T.z_range (pa_cons (pv 1) pa_nil)) (pg_name (i := 4) sc_law_numbers.nd rfl (Or.inl rfl))
        (pss_one (ps_if (PW.pt (pw_and (pt_cmpR op_eq (pe_op op_mod (pv 0) pe_int) pe_int (nomark _)) (pw_and1 (pt_cmpR op_gt (pv 0) (pe_op op_pow pe_int pe_int) (nomark _)))))
          (pss_cons (ps_expr (pe_bm PySem.F.plainAttrs_list PySem.F.slot_list_append PySem.F.type_list_append mt_append (pv 2) (pa_cons (pe_op op_mod (pv 3) pe_int) pa_nil)))
          (pss_one (ps_set (i := 3) sc_law_numbers.nd rfl (Or.inl rfl) (pe_op op_fdP (pv 3) pe_int))))
          (pss_cons (ps_set (i := 5) sc_law_numbers.nd rfl (Or.inl rfl) (pe_op op_mod (pe_op op_add (pe_op op_add (pe_op op_mulB (pv 0) (pe_op op_add pe_int (pe_op op_mulB pe_int (pv 4)))) (pe_op op_mulB pe_int (pv 4))) pe_int) pe_int))
          (pss_one (ps_expr (pe_bm PySem.F.plainAttrs_list PySem.F.slot_list_append PySem.F.type_list_append mt_append (pv 2) (pa_cons (pe_op op_mod (pe_op op_mulB (pv 5) (pe_op op_add (pe_op op_add (pv 5) pe_int) (pv 4))) pe_int) pa_nil))))))))
      (pss_one (ps_ret (pv 2)))))), ?_⟩
  refine ⟨(by show 0 ≤ sizeLine; decide), fun D hD => ?_⟩
  refine ⟨_, rfl, _, _, rfl, rfl, ⟨by decide, bt2 (by decide +kernel)⟩, ?_⟩
  refine ⟨_, rfl, _, rfl, by (first | lia | omega), by (first | lia | omega), ?_⟩
  rw [Int.toNat_natCast]
  refine for_range (n := m) (fun i σ H' => (∃ (r : Int) (v w : Option V), σ = [some (.int c), some (.int m), some (.ref D), some (.int r), v, w]) ∧ Same H H' ∧ ∃ ns : List Int, H' D = some (.lst (ns.map V.int)) ∧ ns.length = i ∧ ∀ n ∈ ns, 0 ≤ n ∧ n < 100000)
    ⟨⟨_, _, _, rfl⟩, same_upd hD _, [], upd_same, rfl, fun n hn => absurd hn (by simp)⟩ ?_ ?_
  · rintro i σ H1 hi ⟨⟨r, v, w, rfl⟩, sm, ns, hns, hl, hb⟩
    have fin : ∀ x : Int, 0 ≤ x → x < 100000 → Same H (upd H1 D (.lst (ns.map V.int ++ [.int x]))) ∧ ∃ ns' : List Int, upd H1 D (.lst (ns.map V.int ++ [.int x])) D = some (.lst (ns'.map V.int)) ∧ ns'.length = i + 1 ∧ ∀ n ∈ ns', 0 ≤ n ∧ n < 100000 := fun x h0 h1 => by
      refine ⟨same_updF sm hD _, ns ++ [x], by rw [upd_same]; simp, by simp [hl], fun n hn => ?_⟩
      rcases List.mem_append.mp hn with z | z
      · exact hb n z
      · rw [List.mem_singleton.mp z]; exact ⟨h0, h1⟩
    have other : ∀ {R : Prop}, (∀ x : Int, 0 ≤ x → x < 100000 → ∀ y : Int, x = y * (y + 3 + (0 + (i : Int))) % 99989 → 0 ≤ y → y < 99991 → R) → R := fun {R} h => by
      refine h _ (Int.emod_nonneg _ (by decide)) ?_ ((c * (48271 + 2 * (0 + (i : Int))) + 7919 * (0 + (i : Int)) + 5) % 99991) rfl (Int.emod_nonneg _ (by decide)) (Int.emod_lt_of_pos _ (by decide))
      have := Int.emod_lt_of_pos ((c * (48271 + 2 * (0 + (i : Int))) + 7919 * (0 + (i : Int)) + 5) % 99991 * ((c * (48271 + 2 * (0 + (i : Int))) + 7919 * (0 + (i : Int)) + 5) % 99991 + 3 + (0 + (i : Int)))) (show (0 : Int) < 99989 by decide)
      (first | lia | omega)
    have way : ∀ {y : Int}, y = (c * (48271 + 2 * (0 + (i : Int))) + 7919 * (0 + (i : Int)) + 5) % 99991 → 0 ≤ y ∧ y < 99991 := fun {y} e => by
      rw [e]
      exact ⟨Int.emod_nonneg _ (by decide), Int.emod_lt_of_pos _ (by decide)⟩
    have tail : ∀ v' : Option V, (∃ (r' : Int) (v w : Option V), ([some (.int c), some (.int m), some (.ref D), some (.int r), some (.int (0 + (i : Int))), v'] : L2.St) = [some (.int c), some (.int m), some (.ref D), some (.int r'), v, w]) := fun v' => ⟨_, _, _, rfl⟩
    refine ⟨_, rfl, _, _, rfl, rfl, (by show (0 : Int) < 2; decide), rfl, _, rfl, ?_⟩
    have els : ∀ (G : Prop), (∀ y : Int, y = (c * (48271 + 2 * (0 + (i : Int))) + 7919 * (0 + (i : Int)) + 5) % 99991 → G) → G := fun G h => h _ rfl
    have mulk : IntMulOk c (48271 + 2 * (0 + (i : Int))) := CMul.ok (.inr ⟨by (first | lia | omega), by (first | lia | omega)⟩)
    have emd := Int.emod_nonneg (c * (48271 + 2 * (0 + (i : Int))) + 7919 * (0 + (i : Int)) + 5) (show (99991 : Int) ≠ 0 by decide)
    have emd2 := Int.emod_lt_of_pos (c * (48271 + 2 * (0 + (i : Int))) + 7919 * (0 + (i : Int)) + 5) (show (0 : Int) < 99991 by decide)
    have e99 : ∀ x : Int, 0 ≤ x % 99989 ∧ x % 99989 < 100000 := fun x => ⟨Int.emod_nonneg _ (by decide), by have := Int.emod_lt_of_pos x (show (0 : Int) < 99989 by decide); (first | lia | omega)⟩
    have r10 : ∀ x : Int, 0 ≤ x % 1000 ∧ x % 1000 < 100000 := fun x => ⟨Int.emod_nonneg _ (by decide), by have := Int.emod_lt_of_pos x (show (0 : Int) < 1000 by decide); (first | lia | omega)⟩
    have lz : (ns.map V.int).length < sizeLine := by rw [List.length_map]; (first | lia | omega)
    refine ite2 (fun _ => ?_) (fun _ => ?_)
    · refine ⟨_, rfl, _, _, rfl, rfl, ⟨by decide, by decide, by decide⟩, _, _, rfl, rfl, _, rfl, ?_⟩
      refine ite2 (fun _ => ?_) (fun _ => ?_)
      · exact ⟨_, rfl, .inl ⟨rfl, _, SqL.of hns⟩, _, rfl, _, _, rfl, rfl, (by show (0 : Int) < 1000; decide), D, _, _, rfl, rfl, hns, lz, _, rfl, _, _, rfl, rfl, ⟨by decide, bt2 (by decide +kernel)⟩, ⟨_, _, _, rfl⟩, fin _ (r10 _).1 (r10 _).2⟩
      · exact ⟨_, rfl, _, rfl, _, _, rfl, rfl, CMul.ok (.inl ⟨by decide, by decide⟩), _, _, rfl, rfl, _, _, rfl, rfl, mulk, _, rfl, _, _, rfl, rfl, CMul.ok (.inl ⟨by decide, by decide⟩), _, _, rfl, rfl, _, _, rfl, rfl, _, _, rfl, rfl, (by show (0 : Int) < 99991; decide),
          _, rfl, .inl ⟨rfl, _, SqL.of hns⟩, _, rfl, _, rfl, _, _, rfl, rfl, _, rfl, _, _, rfl, rfl, _, _, rfl, rfl, CMul.ok (.inl ⟨by (first | lia | omega), by (first | lia | omega)⟩), _, _, rfl, rfl, (by show (0 : Int) < 99989; decide), D, _, _, rfl, rfl, hns, lz, ⟨_, _, _, rfl⟩, fin _ (e99 _).1 (e99 _).2⟩
    · exact iteF ⟨_, rfl, _, rfl, _, _, rfl, rfl, CMul.ok (.inl ⟨by decide, by decide⟩), _, _, rfl, rfl, _, _, rfl, rfl, mulk, _, rfl, _, _, rfl, rfl, CMul.ok (.inl ⟨by decide, by decide⟩), _, _, rfl, rfl, _, _, rfl, rfl, _, _, rfl, rfl, (by show (0 : Int) < 99991; decide),
          _, rfl, .inl ⟨rfl, _, SqL.of hns⟩, _, rfl, _, rfl, _, _, rfl, rfl, _, rfl, _, _, rfl, rfl, _, _, rfl, rfl, CMul.ok (.inl ⟨by (first | lia | omega), by (first | lia | omega)⟩), _, _, rfl, rfl, (by show (0 : Int) < 99989; decide), D, _, _, rfl, rfl, hns, lz, ⟨_, _, _, rfl⟩, fin _ (e99 _).1 (e99 _).2⟩
  · rintro σ H1 ⟨⟨r, v, w, rfl⟩, sm, ns, hns, hl, hb⟩
    exact ⟨_, rfl, q D ns H1 sm hD hns hl hb⟩

noncomputable def sp_fracQ : Sp := fun vs H Q _ => ∃ t b, vs = [.int t, .int b] ∧ 0 < b ∧ Bt 8000 b ∧ ∀ r H', Same H H' → Pq H' r ((t : Rat) / (b : Rat)) → Q (.ref r) H'
noncomputable def sp_overQ : Sp := fun vs H Q _ => ∃ p q x y, vs = [.ref p, .ref q] ∧ Pq H p x ∧ Pq H q y ∧ 0 < y ∧ Bq 8000 x ∧ Bq 8000 y ∧ ∀ r H', Same H H' → Pq H' r (x / y) → Q (.ref r) H'
theorem sc_fraction : FnScope ["top", "bottom", "shared"] ["top", "bottom"] (defScope s_fraction) := ⟨rfl, rfl, rfl, by decide +kernel, rfl, by decide +kernel, by decide +kernel⟩
theorem ok_fraction {dV : Value} (F : FunD K "fraction" "fraction" s_fraction dV f fd) (T : Txt mg) (C_is_whole : Cal P w K mg base "is_whole" 1 ["thing"] sp_whole) (C_divisor : Cal P w K mg base "divisor" 1 ["one", "other"] sp_div) : FnOk P w K mg base CX0 2 f fd ["top", "bottom"] sp_fracQ := by
  refine okD F sc_fraction (fun vs H Q E h => ?_) (fun cdv A outer s H vs Q E hr h => ?_)
  · obtain ⟨t, b, rfl, _⟩ := h
    rfl
  obtain ⟨t, b, rfl, hb, bb, q⟩ := h
  have c1 : 0 < g t b ∧ Bt 9000 (g t b) := ⟨g_pos (by (first | lia | omega)), (g_bt hb bb).mono (by decide)⟩
  refine ⟨_, (pss_cons (ps_if (PW.pt (pw_or (pt_not (pt_val (pe_cl C_is_whole hr (pa_cons (pv 0) pa_nil)))) (pw_or1 (pt_not (pt_val (pe_cl C_is_whole hr (pa_cons (pv 1) pa_nil)))))))
        (pss_one ps_never)
        pss_nil)
      (pss_cons (ps_if (pt_cmpR op_eq (pv 1) pe_int (nomark _))
        (pss_one ps_never)
        pss_nil)
      (pss_cons (ps_set (i := 2) sc_fraction.nd rfl (Or.inl rfl) (pe_cl C_divisor hr (pa_cons (pv 0) (pa_cons (pv 1) pa_nil))))
      (pss_cons (ps_if (pt_cmpR op_lt (pv 1) pe_int (nomark _))
        (pss_one (ps_set (i := 2) sc_fraction.nd rfl (Or.inl rfl) (pe_un un_neg (pv 2))))
        pss_nil)
      (pss_one (ps_ret (pe_tup (pa_cons (pe_op op_fdP (pv 0) (pv 2)) (pa_cons (pe_op op_fdP (pv 1) (pv 2)) pa_nil))))))))), ?_⟩
  refine ⟨_, rfl, _, rfl, _, rfl, iteF ?_⟩
  refine ⟨_, rfl, _, rfl, _, rfl, iteF ?_⟩
  refine ⟨_, rfl, rfl, _, rfl, iteND (fun z => by have := V.int.inj z; (first | lia | omega)) ?_⟩
  refine ⟨_, rfl, _, rfl, _, _, rfl, ?_⟩
  refine ⟨_, rfl, _, _, rfl, rfl, _, rfl, iteND (by (first | lia | omega)) ?_⟩
  exact ⟨_, rfl, _, rfl, _, _, rfl, rfl, c1, _, rfl, _, rfl, _, _, rfl, rfl, c1, (by show 2 ≤ sizeLine; decide), fun p hp => q p _ (same_upd hp _) (Pq.of Pr.new ⟨(low_q hb).1.symm, (low_q hb).2.symm⟩)⟩

theorem atI_lastR {ps : List Addr} {y : Addr} (h : (ps.map V.ref)[ps.length - 1]? = some (.ref y)) : atI (ps.map V.ref) (-1) = some (.ref y) := by
  rcases List.eq_nil_or_concat ps with rfl | ⟨L, z, rfl⟩
  · simp at h
  · have e : z = y := by simpa using h
    rw [List.concat_eq_append, List.map_append, e]
    exact atI_last _ _

noncomputable def cq (ns : List Int) : List Rat := ns.map fun (z : Int) => (z : Rat)
theorem rpow_add (t : Rat) (i j : Nat) : t ^ (i + j) = t ^ i * t ^ j := by
  induction j with
  | zero => rw [Nat.add_zero, Rat.pow_zero]; grind
  | succ j ih => rw [← Nat.add_assoc, Rat.pow_succ, Rat.pow_succ, ih]; grind
theorem cq_length (ns : List Int) : (cq ns).length = ns.length := List.length_map _
theorem ev_snoc (xs : List Rat) (y t : Rat) : Po.ev (xs ++ [y]) t = Po.ev xs t + y * t ^ xs.length := by
  induction xs with
  | nil => simp only [List.nil_append, Po.ev, List.length_nil, Rat.pow_zero]; grind
  | cons x xs ih => rw [List.cons_append, Po.ev, ih, Po.ev, List.length_cons, Rat.pow_succ]; grind
theorem ev_set (xs : List Rat) (k : Nat) (y t : Rat) (h : k < xs.length) : Po.ev (xs.set k y) t = Po.ev xs t + (y - xs.getD k 0) * t ^ k := by
  induction xs generalizing k with
  | nil => simp at h
  | cons x xs ih =>
    cases k with
    | zero => simp only [List.set_cons_zero, Po.ev, List.getD_cons_zero, Rat.pow_zero]; grind
    | succ k => rw [List.set_cons_succ, Po.ev, ih k (by simpa using h), Po.ev, List.getD_cons_succ, Rat.pow_succ]; grind
theorem ev_zero_list (n : Nat) (t : Rat) : Po.ev (cq (List.replicate n 0)) t = 0 := by
  induction n with
  | zero => rfl
  | succ n ih =>
    show Po.ev ((((0 : Int)) : Rat) :: cq (List.replicate n 0)) t = 0
    rw [Po.ev, ih]
    have : ((0 : Int) : Rat) = 0 := rfl
    rw [this]
    grind
theorem ev_app_zero (xs : List Rat) (n : Nat) (t : Rat) : Po.ev (xs ++ cq (List.replicate n 0)) t = Po.ev xs t := by
  induction xs with
  | nil => exact ev_zero_list n t
  | cons x xs ih => rw [List.cons_append, Po.ev, ih, Po.ev]
noncomputable def sp_shb : Sp := fun vs H Q _ => ∃ a qs β, vs = [.ref a] ∧ Rw H a qs ∧ qs.length ≤ 12 ∧ (∀ q ∈ qs, Bq β q) ∧ β ≤ 600 ∧ ∀ B : Int, 0 < B → (∀ q ∈ qs, (q.den : Int) ∣ B) → Bt (β * qs.length + 1) B → Q (.int B) H
theorem sc_shared_bottom : FnScope ["figures", "bottom", "figure"] ["figures"] (defScope s_shared_bottom) := ⟨rfl, rfl, rfl, by decide +kernel, rfl, by decide +kernel, by decide +kernel⟩
theorem ok_shared_bottom (F : Fun K "shared_bottom" "shared_bottom" s_shared_bottom f fd) (T : Txt mg) (C_divisor : Cal P w K mg base "divisor" 1 ["one", "other"] sp_div) : FnOk P w K mg base CX0 2 f fd ["figures"] sp_shb := by
  refine F.ok sc_shared_bottom (fun vs H Q E h => ?_) (fun cdv A outer s H vs Q E hr h => ?_)
  · obtain ⟨a, qs, β, rfl, _⟩ := h
    rfl
  obtain ⟨a, qs, β, rfl, ⟨ps, ea, kp⟩, hl, bq, hβ, q⟩ := h
  have lp := kp.length
  refine ⟨_, (pss_cons (ps_set (i := 1) sc_shared_bottom.nd rfl (Or.inl rfl) pe_int)
      (pss_cons (ps_for PassesOwn.never rfl (pi_list (pv 0)) (pg_name (i := 2) sc_shared_bottom.nd rfl (Or.inl rfl))
        (pss_one (ps_set (i := 1) sc_shared_bottom.nd rfl (Or.inl rfl) (pe_op op_mulB (pv 1) (pe_op op_fdP (pe_ix ix_tup (pv 2) pe_int (fun _ _ => rfl)) (pe_cl C_divisor hr (pa_cons (pv 1) (pa_cons (pe_ix ix_tup (pv 2) pe_int (fun _ _ => rfl)) pa_nil))))))))
      (pss_one (ps_ret (pv 1))))), ?_⟩
  refine ⟨_, rfl, a, rfl, ⟨_, SqL.of ea⟩, ?_⟩
  refine for_list (xs := ps.map V.ref) (fun i σ H' => H = H' ∧ ∃ (B : Int) (v : Option V), σ = [some (.ref a), some (.int B), v] ∧ 0 < B ∧ (∀ q ∈ qs.take i, (q.den : Int) ∣ B) ∧ Bt (β * i + 1) B)
    ⟨rfl, 1, _, rfl, by decide, fun q hq => absurd hq (by simp), Bt.mono (m := 1) (by show (1 : Nat) < 2 ^ 1; decide) (by (first | lia | omega))⟩ ?_ ?_ ?_
  · rintro i σ _ _ ⟨rfl, _⟩
    exact SqL.of ea
  · rintro i x σ _ hi ⟨rfl, B, v, rfl, hB, hd, bB⟩
    have hlt : i < qs.length := by
      have := (List.getElem?_eq_some_iff.mp hi).1
      rw [List.length_map] at this
      (first | lia | omega)
    have eq := List.getElem?_eq_getElem hlt
    obtain ⟨p1, e1, k1⟩ := kp.get eq
    rw [hi] at e1
    cases e1
    have b1 := bq _ (List.getElem_mem hlt)
    have d1 := den_pos qs[i]
    have hg : 0 < g B qs[i].den := g_pos (by (first | lia | omega))
    have bg : Bt 9000 (g B qs[i].den) := (g_bt d1 b1.2).mono (by (first | lia | omega))
    have gd := g_dvd_right B (qs[i].den : Int)
    have gB := g_dvd_left B (qs[i].den : Int)
    have hmul : β * i ≤ 600 * 12 := Nat.mul_le_mul hβ (by (first | lia | omega))
    have bdv : Bt β ((qs[i].den : Int) / g B qs[i].den) := b1.2.ediv
    refine ⟨_, rfl, _, rfl, _, _, _, _, rfl, rfl, k1.sq, rfl, _, rfl, _, rfl, _, _, _, _, rfl, rfl, k1.sq, rfl, _, _, rfl, _, _, rfl, rfl, ⟨hg, bg⟩, _, _, rfl, rfl, mul_of bB bdv (by (first | lia | omega)), rfl, _, _, rfl, ?_, fun q hq => ?_, ?_⟩
    · obtain ⟨c, hc⟩ := gd
      have : (qs[i].den : Int) / g B qs[i].den = c := Int.ediv_eq_of_eq_mul_right (Int.ne_of_gt hg) hc
      rw [this]
      refine Int.mul_pos hB ?_
      by_cases h0 : 0 < c
      · exact h0
      · exfalso
        have : g B qs[i].den * c ≤ 0 := Int.mul_nonpos_of_nonneg_of_nonpos (by (first | lia | omega)) (by (first | lia | omega))
        (first | lia | omega)
    · rw [List.take_succ, eq] at hq
      rcases List.mem_append.mp hq with z | z
      · exact Int.dvd_trans (hd q z) (Int.dvd_mul_right _ _)
      · have : q = qs[i] := by simpa using z
        rw [this]
        obtain ⟨c, hc⟩ := gd
        obtain ⟨e, he⟩ := gB
        have e1 : (qs[i].den : Int) / g B qs[i].den = c := Int.ediv_eq_of_eq_mul_right (Int.ne_of_gt hg) hc
        rw [e1]
        refine ⟨e, ?_⟩
        generalize g B (qs[i].den : Int) = gg at *
        rw [hc, he, Int.mul_assoc, Int.mul_assoc, Int.mul_comm e c]
    · rw [Nat.mul_succ]
      exact (bB.mul bdv).mono (by (first | lia | omega))
  · rintro σ _ ⟨rfl, B, v, rfl, hB, hd, bB⟩
    rw [List.length_map, lp] at hd bB
    rw [List.take_length] at hd
    exact ⟨_, rfl, q B hB hd bB⟩
noncomputable def Iz (H : Hp) (a : Addr) (ns : List Int) : Prop := H a = some (.lst (ns.map V.int))
noncomputable def WtI (H : Hp) (a b D : Addr) (ns ms : List Int) (n α γ i : Nat) (σ : L2.St) (H' : Hp) : Prop := ∃ (v1 v2 v3 v4 : Option V) (zs : List Int), σ = [some (.ref a), some (.ref b), some (.ref D), v1, v2, v3, v4] ∧ Same H H' ∧ Iz H' D zs ∧ zs.length = n ∧ (∀ t, Po.ev (cq zs) t = Po.ev (cq (ns.take i)) t * Po.ev (cq ms) t) ∧ ∀ z ∈ zs, z.natAbs ≤ i * 2 ^ (α + γ)
noncomputable def WtJ (H : Hp) (a b D : Addr) (ns ms : List Int) (n α γ i : Nat) (ni : Int) (j : Nat) (σ : L2.St) (H' : Hp) : Prop := ∃ (v3 v4 : Option V) (zs : List Int), σ = [some (.ref a), some (.ref b), some (.ref D), some (.int (0 + (i : Int))), some (.int ni), v3, v4] ∧ Same H H' ∧ Iz H' D zs ∧ zs.length = n ∧ (∀ t, Po.ev (cq zs) t = Po.ev (cq (ns.take i)) t * Po.ev (cq ms) t + (ni : Rat) * t ^ i * Po.ev (cq (ms.take j)) t) ∧ ∀ k z, zs[k]? = some z → z.natAbs ≤ (i + if i ≤ k ∧ k < i + j then 1 else 0) * 2 ^ (α + γ)
noncomputable def WmI (H : Hp) (a b D : Addr) (ns ms : List Int) (α j : Nat) (σ : L2.St) (H' : Hp) : Prop := ∃ (v1 v2 : Option V) (zs : List Int), σ = [some (.ref a), some (.ref b), some (.ref D), v1, v2] ∧ Same H H' ∧ Iz H' D zs ∧ zs.length = max ns.length ms.length ∧ (∀ t, Po.ev (cq zs) t = Po.ev (cq ns) t - Po.ev (cq (ms.take j)) t) ∧ (∀ z ∈ zs, Bt (α + 1) z) ∧ ∀ k z, zs[k]? = some z → j ≤ k → z.natAbs < 2 ^ α
theorem WtI.elim {H : Hp} {a b D : Addr} {ns ms : List Int} {n α γ i : Nat} {σ : L2.St} {H' : Hp} {G : Prop} (h : WtI H a b D ns ms n α γ i σ H') (k : ∀ (v1 v2 v3 v4 : Option V) (zs : List Int), σ = [some (.ref a), some (.ref b), some (.ref D), v1, v2, v3, v4] → (Same H H') → (Iz H' D zs) → (zs.length = n) → ((∀ t, Po.ev (cq zs) t = Po.ev (cq (ns.take i)) t * Po.ev (cq ms) t)) → (∀ z ∈ zs, z.natAbs ≤ i * 2 ^ (α + γ)) → G) : G := by
  obtain ⟨v1, v2, v3, v4, zs, h0', h1', h2', h3', h4', h5'⟩ := h
  exact k _ _ _ _ _ h0' h1' h2' h3' h4' h5'
theorem WtJ.elim {H : Hp} {a b D : Addr} {ns ms : List Int} {n α γ i : Nat} {ni : Int} {j : Nat} {σ : L2.St} {H' : Hp} {G : Prop} (h : WtJ H a b D ns ms n α γ i ni j σ H') (k : ∀ (v3 v4 : Option V) (zs : List Int), σ = [some (.ref a), some (.ref b), some (.ref D), some (.int (0 + (i : Int))), some (.int ni), v3, v4] → (Same H H') → (Iz H' D zs) → (zs.length = n) → ((∀ t, Po.ev (cq zs) t = Po.ev (cq (ns.take i)) t * Po.ev (cq ms) t + (ni : Rat) * t ^ i * Po.ev (cq (ms.take j)) t)) → (∀ k z, zs[k]? = some z → z.natAbs ≤ (i + if i ≤ k ∧ k < i + j then 1 else 0) * 2 ^ (α + γ)) → G) : G := by
  obtain ⟨v3, v4, zs, h0', h1', h2', h3', h4', h5'⟩ := h
  exact k _ _ _ h0' h1' h2' h3' h4' h5'
theorem WmI.elim {H : Hp} {a b D : Addr} {ns ms : List Int} {α j : Nat} {σ : L2.St} {H' : Hp} {G : Prop} (h : WmI H a b D ns ms α j σ H') (k : ∀ (v1 v2 : Option V) (zs : List Int), σ = [some (.ref a), some (.ref b), some (.ref D), v1, v2] → (Same H H') → (Iz H' D zs) → (zs.length = max ns.length ms.length) → ((∀ t, Po.ev (cq zs) t = Po.ev (cq ns) t - Po.ev (cq (ms.take j)) t)) → ((∀ z ∈ zs, Bt (α + 1) z)) → (∀ k z, zs[k]? = some z → j ≤ k → z.natAbs < 2 ^ α) → G) : G := by
  obtain ⟨v1, v2, zs, h0', h1', h2', h3', h4', h5', h6'⟩ := h
  exact k _ _ _ h0' h1' h2' h3' h4' h5' h6'
noncomputable def sp_whf : Sp := fun vs H Q _ => ∃ a qs B β γ, vs = [.ref a, .int B] ∧ Rw H a qs ∧ qs.length ≤ 100 ∧ 0 < B ∧ (∀ q ∈ qs, (q.den : Int) ∣ B) ∧ (∀ q ∈ qs, Bq β q) ∧ Bt γ B ∧ β ≤ 600 ∧ γ ≤ 9000 ∧
  ∀ r ns H', Same H H' → H r = none → Iz H' r ns → cq ns = qs.map (· * (B : Rat)) → (∀ n ∈ ns, Bt (β + γ) n) → Q (.ref r) H'
theorem sc_whole_figures : FnScope ["one", "bottom"] ["one", "bottom"] (defScope s_whole_figures) := ⟨rfl, rfl, rfl, by decide +kernel, rfl, by decide +kernel, by decide +kernel⟩
theorem ok_whole_figures (F : Fun K "whole_figures" "whole_figures" s_whole_figures f fd) (T : Txt mg) : FnOk P w K mg base CX0 1 f fd ["one", "bottom"] sp_whf := by
  refine F.ok sc_whole_figures (fun vs H Q E h => ?_) (fun cdv A outer s H vs Q E hr h => ?_)
  · obtain ⟨a, qs, B, β, γ, rfl, _⟩ := h
    rfl
  obtain ⟨a, qs, B, β, γ, rfl, ra, hl, hB, hd, bq, bB, hβ, hγ, q⟩ := h
  obtain ⟨xa, ea, la⟩ := ra.there
  refine ⟨_, (pss_one (ps_ret (pe_comp (N' := ["figure", "bottom"]) (fsc := defScope s_whole_figures) (N := ["one", "bottom"]) [1] ⟨rfl, by decide +kernel, by decide +kernel, by decide +kernel, rfl, by decide +kernel, rfl, by decide +kernel⟩ (pi_list (pv 0)) (fun _ _ _ _ => (pe_op op_mulB (pe_ix ix_tup (pv 0) pe_int (fun _ _ => rfl)) (pe_op op_fdP (pv 1) (pe_ix ix_tup (pv 0) pe_int (fun _ _ => rfl)))))))), ?_⟩
  refine ⟨_, rfl, a, rfl, ⟨_, SqL.of ea⟩, comp_listZ (by (first | lia | omega)) ra (fun q => q.num * (B / q.den)) ?_ fun H1 D s1 nD eD => q D _ H1 s1 nD eD ?_ ?_⟩
  · intro _ _ _ _ p x H1 R hx kp s1 fin
    have b1 := bq x hx
    exact ⟨_, rfl, _, _, _, _, rfl, rfl, kp.sq, rfl, _, rfl, _, rfl, _, _, _, _, rfl, rfl, kp.sq, rfl, _, _, rfl, rfl, ⟨den_pos x, b1.2.mono (by (first | lia | omega))⟩, _, _, rfl, rfl, mul_of b1.1 (bB.ediv) (by (first | lia | omega)), fin⟩
  · unfold cq
    rw [List.map_map]
    refine List.map_congr_left fun x hx => ?_
    show ((x.num * (B / (x.den : Int)) : Int) : Rat) = x * (B : Rat)
    obtain ⟨c, hc⟩ := hd x hx
    have d := den_pos x
    have e1 : B / (x.den : Int) = c := by
      rw [hc]
      exact Int.mul_ediv_cancel_left _ (by (first | lia | omega))
    rw [e1, hc, Rat.intCast_mul, Rat.intCast_mul]
    have e := q_eq x
    have n := den_ne x
    have e3 : x = (x.num : Rat) / ((x.den : Int) : Rat) := e.symm
    generalize (x.num : Rat) = u at *
    generalize ((x.den : Int) : Rat) = v at *
    rw [e3]
    grind
  · intro n hn
    obtain ⟨x, hx, rfl⟩ := List.mem_map.mp hn
    exact ((bq x hx).1.mul bB.ediv)
noncomputable def sp_wht : Sp := fun vs H Q _ => ∃ a b ns ms α γ, vs = [.ref a, .ref b] ∧ Iz H a ns ∧ Iz H b ms ∧ ns.length ≤ 60 ∧ ms.length ≤ 60 ∧ (∀ n ∈ ns, Bt α n) ∧ (∀ n ∈ ms, Bt γ n) ∧ α + γ ≤ 100000 ∧
  ∀ r zs H', Same H H' → H r = none → Iz H' r zs → (∀ t, Po.ev (cq zs) t = Po.ev (cq ns) t * Po.ev (cq ms) t) → zs.length ≤ ns.length + ms.length - 1 → (∀ z ∈ zs, Bt (α + γ + 6) z) → Q (.ref r) H'
theorem cq_set (zs : List Int) (k : Nat) (z : Int) : cq (zs.set k z) = (cq zs).set k (z : Rat) := by unfold cq; rw [List.map_set]
theorem cq_getD (zs : List Int) (k : Nat) : (cq zs).getD k 0 = ((zs.getD k 0 : Int) : Rat) := by
  unfold cq
  rw [List.getD_eq_getElem?_getD, List.getElem?_map, List.getD_eq_getElem?_getD]
  cases zs[k]? with
  | none => rfl
  | some z => rfl
theorem ev_take (ns : List Int) (i : Nat) (t : Rat) (h : i < ns.length) : Po.ev (cq (ns.take (i + 1))) t = Po.ev (cq (ns.take i)) t + (ns[i] : Rat) * t ^ i := by
  rw [List.take_succ, List.getElem?_eq_getElem h]
  show Po.ev (cq (ns.take i ++ [ns[i]])) t = _
  unfold cq
  rw [List.map_append, List.map_cons, List.map_nil, ev_snoc, List.length_map, List.length_take, Nat.min_eq_left (by (first | lia | omega))]
theorem sc_whole_times : FnScope ["one", "other", "product", "power", "figure", "further", "factor"] ["one", "other"] (defScope s_whole_times) := ⟨rfl, rfl, rfl, by decide +kernel, rfl, by decide +kernel, by decide +kernel⟩
set_option maxHeartbeats 4000000 in
theorem ok_whole_times (F : Fun K "whole_times" "whole_times" s_whole_times f fd) (T : Txt mg) : FnOk P w K mg base CX0 1 f fd ["one", "other"] sp_wht := by
  refine F.ok sc_whole_times (fun vs H Q E h => ?_) (fun cdv A outer s H vs Q E hr h => ?_)
  · obtain ⟨a, b, ns, ms, α, γ, rfl, _⟩ := h
    rfl
  obtain ⟨a, b, ns, ms, α, γ, rfl, ea, eb, ln, lm, bn, bm, hag, q⟩ := h
  have hz : (1000 : Nat) < sizeLine := by decide
  refine ⟨_, (pss_cons (ps_if (PW.pt (pw_or (pt_cmpR op_eq (pe_callB call_len_seq rfl T.z_len PySem.boot_len (pa_cons (pv 0) pa_nil)) pe_int (nomark _)) (pw_or1 (pt_cmpR op_eq (pe_callB call_len_seq rfl T.z_len PySem.boot_len (pa_cons (pv 1) pa_nil)) pe_int (nomark _)))))
        (pss_one (ps_ret (pe_lst pa_nil)))
        pss_nil)
      (pss_cons (ps_set (i := 2) sc_whole_times.nd rfl (Or.inl rfl) (pe_op op_rep (pe_lst (pa_cons pe_int pa_nil)) (pe_op op_sub (pe_op op_add (pe_callB call_len_seq rfl T.z_len PySem.boot_len (pa_cons (pv 0) pa_nil)) (pe_callB call_len_seq rfl T.z_len PySem.boot_len (pa_cons (pv 1) pa_nil))) pe_int)))
      (pss_cons (ps_for PassesOwn.never rfl (pi_enum rfl T.z_enumerate (pa_cons (pv 0) pa_nil)) (pg_tup rfl (pgs_cons (pg_name (i := 3) sc_whole_times.nd rfl (Or.inl rfl)) (pgs_cons (pg_name (i := 4) sc_whole_times.nd rfl (Or.inl rfl)) pgs_nil)))
        (pss_one (ps_for PassesOwn.never rfl (pi_enum rfl T.z_enumerate (pa_cons (pv 1) pa_nil)) (pg_tup rfl (pgs_cons (pg_name (i := 5) sc_whole_times.nd rfl (Or.inl rfl)) (pgs_cons (pg_name (i := 6) sc_whole_times.nd rfl (Or.inl rfl)) pgs_nil)))
          (pss_one (ps_asg (pe_op op_add (pe_ix ix_list (pv 2) (pe_op op_add (pv 3) (pv 5)) (fun _ _ => rfl)) (pe_op op_mulB (pv 4) (pv 6))) (pg_sub (pv 2) (pe_op op_add (pv 3) (pv 5)) set_list))))))
      (pss_one (ps_ret (pv 2)))))), ?_⟩
  have lna : (ns.map V.int).length = ns.length := List.length_map _
  have lmb : (ms.map V.int).length = ms.length := List.length_map _
  have empty : (ns = [] ∨ ms = []) → ∀ l, H l = none → Q (.ref l) (upd H l (.lst [])) := fun he l hl => by
    refine q l [] _ (same_upd hl _) hl upd_same (fun t => ?_) (by simp) (fun z hz => absurd hz (by simp))
    rcases he with rfl | rfl
    · show (0 : Rat) = 0 * _; grind
    · show (0 : Rat) = _ * 0; grind
  refine ⟨_, rfl, a, _, rfl, .inl (SqL.of ea), rfl, _, rfl, ?_⟩
  by_cases h1 : ns = []
  · refine iteD (congrArg V.int (by rw [lna, h1]; rfl)) ?_
    exact ⟨(by show 0 ≤ sizeLine; decide), fun l hl => empty (.inl h1) l hl⟩
  · have l1 : ns.length ≠ 0 := fun z => h1 (List.length_eq_zero_iff.mp z)
    refine iteND (fun z => l1 (by have := V.int.inj z; rw [lna] at this; (first | lia | omega))) ?_
    refine ⟨_, rfl, b, _, rfl, .inl (SqL.of eb), rfl, _, rfl, ?_⟩
    by_cases h2 : ms = []
    · refine iteD (congrArg V.int (by rw [lmb, h2]; rfl)) ?_
      exact ⟨(by show 0 ≤ sizeLine; decide), fun l hl => empty (.inr h2) l hl⟩
    · have l2 : ms.length ≠ 0 := fun z => h2 (List.length_eq_zero_iff.mp z)
      refine iteND (fun z => l2 (by have := V.int.inj z; rw [lmb] at this; (first | lia | omega))) ?_
      obtain ⟨n, hn⟩ : ∃ n, n = ns.length + ms.length - 1 := ⟨_, rfl⟩
      refine ⟨(by show 1 ≤ sizeLine; decide), fun l0 hl0 => ?_⟩
      have s1 := same_upd hl0 (.lst [.int 0])
      refine ⟨_, rfl, a, _, rfl, .inl (SqL.of (s1 _ _ ea)), _, rfl, b, _, rfl, .inl (SqL.of (s1 _ _ eb)), _, _, rfl, rfl, _, _, rfl, rfl, l0, _, _, rfl, rfl, upd_same, ?_, ?_, ?_, fun D hD => ?_⟩
      · rw [lna, lmb]; (first | lia | omega)
      · rw [lna, lmb]; (first | lia | omega)
      · rw [lna, lmb, List.length_singleton]; (first | lia | omega)
      have en : (((ns.map V.int).length : Int) + ((ms.map V.int).length : Int) - 1).toNat = n := by
        rw [lna, lmb]; (first | lia | omega)
      rw [en, flat_rep]
      have s2 := same_upd hD (.lst (List.replicate n (V.int 0)))
      have hD0 : H D = none := s1.free hD
      have s02 := s1.trans s2
      have iz0 : Iz (upd (upd H l0 (.lst [.int 0])) D (.lst (List.replicate n (V.int 0)))) D (List.replicate n 0) := by
        unfold Iz
        rw [upd_same, List.map_replicate]
      have ea2 := s02 _ _ ea
      have eb2 := s02 _ _ eb
      refine ⟨_, rfl, a, rfl, ⟨_, SqL.of ea2⟩, ?_⟩
      refine for_enum (xs := ns.map V.int) (WtI H a b D ns ms n α γ)
        ⟨_, _, _, _, _, rfl, s02, iz0, by simp, fun t => by rw [ev_zero_list]; show (0 : Rat) = 0 * _; grind, fun z hz => by rw [(List.mem_replicate.mp hz).2]; simp⟩ ?_ ?_ ?_
      · intro i σ H' _ hI
        exact WtI.elim hI fun v1 v2 v3 v4 zs _ sm _ _ _ _ => SqL.of (sm _ _ ea)
      · intro i x σ H1 t1 hx hI ht1
        refine WtI.elim hI fun v1 v2 v3 v4 zs eσ sm iz lz evz bz => ?_
        subst eσ
        have hi : i < ns.length := by
          have h := (List.getElem?_eq_some_iff.mp hx).1
          rw [lna] at h
          exact h
        obtain rfl : x = .int ns[i] := by
          rw [List.getElem?_map, List.getElem?_eq_getElem hi] at hx
          exact (Option.some.inj hx).symm
        refine ⟨t1, _, rfl, SqT.of upd_same, rfl, _, _, rfl, _, _, rfl, rfl, ?_⟩
        have u1 := same_upd ht1 (.tup [.int (0 + (i : Int)), .int ns[i]])
        have sm1 := sm.trans u1
        have iz1 : Iz (upd H1 t1 (.tup [.int (0 + (i : Int)), .int ns[i]])) D zs := u1 _ _ iz
        generalize upd H1 t1 (.tup [.int (0 + (i : Int)), .int ns[i]]) = H2 at *
        refine ⟨_, rfl, b, rfl, ⟨_, SqL.of (sm1 _ _ eb)⟩, ?_⟩
        refine for_enum (xs := ms.map V.int) (WtJ H a b D ns ms n α γ i ns[i])
          ⟨_, _, zs, rfl, sm1, iz1, lz, fun t => by rw [evz t]; show _ = _ + _ * (0 : Rat); grind, fun k z hk => by
            rw [if_neg (by (first | lia | omega)), Nat.add_zero]
            exact bz z (List.mem_of_getElem? hk)⟩ ?_ ?_ ?_
        · intro j σ H' _ hJ
          exact WtJ.elim hJ fun v3 v4 zs _ sm' _ _ _ _ => SqL.of (sm' _ _ eb)
        · intro j y σ H3 t2 hy hJ ht2
          refine WtJ.elim hJ fun v3 v4 zs3 eσ sm3 iz3 lz3 ev3 bz3 => ?_
          subst eσ
          have hj : j < ms.length := by
            have h := (List.getElem?_eq_some_iff.mp hy).1
            rw [lmb] at h
            exact h
          obtain rfl : y = .int ms[j] := by
            rw [List.getElem?_map, List.getElem?_eq_getElem hj] at hy
            exact (Option.some.inj hy).symm
          refine ⟨t2, _, rfl, SqT.of upd_same, rfl, _, _, rfl, _, _, rfl, rfl, ?_⟩
          have u2 := same_upd ht2 (.tup [.int (0 + (j : Int)), .int ms[j]])
          have sm4 := sm3.trans u2
          have iz4 : Iz (upd H3 t2 (.tup [.int (0 + (j : Int)), .int ms[j]])) D zs3 := u2 _ _ iz3
          generalize upd H3 t2 (.tup [.int (0 + (j : Int)), .int ms[j]]) = H4 at *
          have hk : i + j < zs3.length := by (first | lia | omega)
          have ei : (0 + (i : Int)) + (0 + (j : Int)) = ((i + j : Nat) : Int) := by (first | lia | omega)
          have eo : atI (zs3.map V.int) ((0 + (i : Int)) + (0 + (j : Int))) = some (.int zs3[i + j]) := by
            rw [ei]
            refine atI_nat ?_
            rw [List.getElem?_map, List.getElem?_eq_getElem hk]
            rfl
          have bni := bn _ (List.getElem_mem hi)
          have bmj := bm _ (List.getElem_mem hj)
          refine ⟨_, rfl, _, rfl, _, rfl, _, _, rfl, rfl, D, _, _, _, rfl, rfl, SqL.of iz4, eo, _, rfl, _, rfl, _, _, rfl, rfl, mul_of bni bmj (by (first | lia | omega)), _, _, rfl, rfl, ?_⟩
          refine ⟨_, rfl, _, rfl, _, rfl, _, _, rfl, rfl, D, _, _, i + j, rfl, rfl, iz4, ?_, _, _, zs3.set (i + j) (zs3[i + j] + ns[i] * ms[j]), rfl, same_updF sm4 hD0 _, ?_, by rw [List.length_set]; exact lz3, fun t => ?_, fun k z hkz => ?_⟩
          · rw [ei, List.length_map]
            unfold ixN
            rw [if_pos (by (first | lia | omega)), if_pos (by (first | lia | omega))]
            rfl
          · unfold Iz
            rw [upd_same, List.map_set]
          · rw [cq_set, ev_set _ _ _ _ (by rw [cq_length]; exact hk), ev3 t, cq_getD, ev_take ms j t hj]
            have e1 : zs3.getD (i + j) 0 = zs3[i + j] := by rw [List.getD_eq_getElem?_getD, List.getElem?_eq_getElem hk]; rfl
            rw [e1, Rat.intCast_add, Rat.intCast_mul, rpow_add]
            grind
          · rw [List.getElem?_set] at hkz
            by_cases hkk : i + j = k
            · rw [if_pos hkk, if_pos hk] at hkz
              cases hkz
              subst hkk
              rw [if_pos (by (first | lia | omega))]
              have o1 := bz3 (i + j) _ (List.getElem?_eq_getElem hk)
              rw [if_neg (by (first | lia | omega)), Nat.add_zero] at o1
              have o2 : (ns[i] * ms[j]).natAbs < 2 ^ (α + γ) := bni.mul bmj
              have o3 := Int.natAbs_add_le zs3[i + j] (ns[i] * ms[j])
              rw [Nat.add_mul, Nat.one_mul]
              (first | lia | omega)
            · rw [if_neg hkk] at hkz
              have o1 := bz3 k z hkz
              refine Nat.le_trans o1 (Nat.mul_le_mul_right _ ?_)
              by_cases hc : i ≤ k ∧ k < i + j
              · rw [if_pos hc, if_pos (by (first | lia | omega))]
                exact Nat.le_refl _
              · rw [if_neg hc, Nat.add_zero]
                exact Nat.le_add_right _ _
        · intro σ H3 hJ
          refine WtJ.elim hJ fun v3 v4 zs3 eσ sm3 iz3 lz3 ev3 bz3 => ?_
          subst eσ
          refine ⟨_, _, _, _, zs3, rfl, sm3, iz3, lz3, fun t => ?_, fun z hz => ?_⟩
          · rw [ev3 t, lmb, List.take_length, ev_take ns i t hi]
            grind
          · obtain ⟨k, hk⟩ := List.getElem?_of_mem hz
            refine Nat.le_trans (bz3 k z hk) (Nat.mul_le_mul_right _ ?_)
            split <;> (first | lia | omega)
      · intro σ H1 hI
        refine WtI.elim hI fun v1 v2 v3 v4 zs eσ sm iz lz evz bz => ?_
        subst eσ
        rw [lna, List.take_length] at evz
        rw [lna] at bz
        refine ⟨_, rfl, q D zs H1 sm hD0 iz evz (by (first | lia | omega)) fun z hz => ?_⟩
        show z.natAbs < 2 ^ (α + γ + 6)
        have o := bz z hz
        have o2 : ns.length * 2 ^ (α + γ) ≤ 60 * 2 ^ (α + γ) := Nat.mul_le_mul_right _ ln
        rw [Nat.pow_add]
        have o3 : 0 < 2 ^ (α + γ) := Nat.pow_pos (by decide)
        (first | lia | omega)
noncomputable def sp_whm : Sp := fun vs H Q _ => ∃ a b ns ms α, vs = [.ref a, .ref b] ∧ Iz H a ns ∧ Iz H b ms ∧ ns.length ≤ 100 ∧ ms.length ≤ 100 ∧ (∀ n ∈ ns, Bt α n) ∧ (∀ n ∈ ms, Bt α n) ∧
  ∀ r zs H', Same H H' → H r = none → Iz H' r zs → (∀ t, Po.ev (cq zs) t = Po.ev (cq ns) t - Po.ev (cq ms) t) → zs.length = max ns.length ms.length → (∀ z ∈ zs, Bt (α + 1) z) → Q (.ref r) H'
theorem sc_whole_minus : FnScope ["one", "other", "rest", "power", "figure"] ["one", "other"] (defScope s_whole_minus) := ⟨rfl, rfl, rfl, by decide +kernel, rfl, by decide +kernel, by decide +kernel⟩
set_option maxHeartbeats 2000000 in
theorem ok_whole_minus (F : Fun K "whole_minus" "whole_minus" s_whole_minus f fd) (T : Txt mg) : FnOk P w K mg base CX0 1 f fd ["one", "other"] sp_whm := by
  refine F.ok sc_whole_minus (fun vs H Q E h => ?_) (fun cdv A outer s H vs Q E hr h => ?_)
  · obtain ⟨a, b, ns, ms, α, rfl, _⟩ := h
    rfl
  obtain ⟨a, b, ns, ms, α, rfl, ea, eb, ln, lm, bn, bm, q⟩ := h
  have hz : (1000 : Nat) < sizeLine := by decide
  have lna : (ns.map V.int).length = ns.length := List.length_map _
  have lmb : (ms.map V.int).length = ms.length := List.length_map _
  refine ⟨_, (pss_cons (ps_set (i := 2) sc_whole_minus.nd rfl (Or.inl rfl) (pe_op op_cat (pv 0) (pe_op op_rep (pe_lst (pa_cons pe_int pa_nil)) (pe_op op_sub (pe_callB call_len_seq rfl T.z_len PySem.boot_len (pa_cons (pv 1) pa_nil)) (pe_callB call_len_seq rfl T.z_len PySem.boot_len (pa_cons (pv 0) pa_nil))))))
      (pss_cons (ps_for PassesOwn.never rfl (pi_enum rfl T.z_enumerate (pa_cons (pv 1) pa_nil)) (pg_tup rfl (pgs_cons (pg_name (i := 3) sc_whole_minus.nd rfl (Or.inl rfl)) (pgs_cons (pg_name (i := 4) sc_whole_minus.nd rfl (Or.inl rfl)) pgs_nil)))
        (pss_one (ps_asg (pe_op op_sub (pe_ix ix_list (pv 2) (pv 3) (fun _ _ => rfl)) (pv 4)) (pg_sub (pv 2) (pv 3) set_list))))
      (pss_one (ps_ret (pv 2))))), ?_⟩
  refine ⟨_, rfl, (by show 1 ≤ sizeLine; decide), fun l0 hl0 => ?_⟩
  have s1 := same_upd hl0 (.lst [.int 0])
  refine ⟨_, rfl, b, _, rfl, .inl (SqL.of (s1 _ _ eb)), _, rfl, a, _, rfl, .inl (SqL.of (s1 _ _ ea)), _, _, rfl, rfl, l0, _, _, rfl, rfl, upd_same, ?_, ?_, ?_, fun l1 hl1 => ?_⟩
  · rw [lna, lmb]; (first | lia | omega)
  · rw [lna, lmb]; (first | lia | omega)
  · rw [lna, lmb, List.length_singleton]; (first | lia | omega)
  have en : (((ms.map V.int).length : Int) - ((ns.map V.int).length : Int)).toNat = ms.length - ns.length := by
    rw [lna, lmb]; (first | lia | omega)
  rw [en, flat_rep]
  have s2 := same_upd hl1 (.lst (List.replicate (ms.length - ns.length) (V.int 0)))
  have s12 := s1.trans s2
  refine ⟨a, l1, _, _, rfl, rfl, s12 _ _ ea, upd_same, by rw [lna, List.length_replicate]; (first | lia | omega), fun D hD => ?_⟩
  have s3 := same_upd hD (.lst (ns.map V.int ++ List.replicate (ms.length - ns.length) (V.int 0)))
  have iz0 : Iz (upd (upd (upd H l0 (.lst [.int 0])) l1 (.lst (List.replicate (ms.length - ns.length) (V.int 0)))) D (.lst (ns.map V.int ++ List.replicate (ms.length - ns.length) (V.int 0)))) D (ns ++ List.replicate (ms.length - ns.length) 0) := by
    unfold Iz
    rw [upd_same, List.map_append, List.map_replicate]
  have s03 := s12.trans s3
  have hD0 : H D = none := s12.free hD
  have eb3 := s03 _ _ eb
  refine ⟨_, rfl, b, rfl, ⟨_, SqL.of eb3⟩, ?_⟩
  refine for_enum (xs := ms.map V.int) (WmI H a b D ns ms α)
    ⟨_, _, _, rfl, s03, iz0, by rw [List.length_append, List.length_replicate]; (first | lia | omega), fun t => ?_, fun z hz => ?_, fun k z hk _ => ?_⟩ ?_ ?_ ?_
  · have : cq (ns ++ List.replicate (ms.length - ns.length) 0) = cq ns ++ cq (List.replicate (ms.length - ns.length) 0) := by unfold cq; rw [List.map_append]
    rw [this, ev_app_zero]
    show _ = _ - (0 : Rat)
    grind
  · rcases List.mem_append.mp hz with z' | z'
    · exact (bn z z').mono (by (first | lia | omega))
    · rw [(List.mem_replicate.mp z').2]; exact Bt.zero
  · rcases List.mem_append.mp (List.mem_of_getElem? hk) with z' | z'
    · exact bn z z'
    · rw [(List.mem_replicate.mp z').2]; exact (Bt.zero : Bt α 0)
  · intro j σ H' _ hI
    exact WmI.elim hI fun v1 v2 zs _ sm _ _ _ _ _ => SqL.of (sm _ _ eb)
  · intro j y σ H1 t1 hy hI ht1
    refine WmI.elim hI fun v1 v2 zs eσ sm iz lz evz bz bz2 => ?_
    subst eσ
    have hj : j < ms.length := by
      have h := (List.getElem?_eq_some_iff.mp hy).1
      rw [lmb] at h
      exact h
    obtain rfl : y = .int ms[j] := by
      rw [List.getElem?_map, List.getElem?_eq_getElem hj] at hy
      exact (Option.some.inj hy).symm
    refine ⟨t1, _, rfl, SqT.of upd_same, rfl, _, _, rfl, _, _, rfl, rfl, ?_⟩
    have u1 := same_upd ht1 (.tup [.int (0 + (j : Int)), .int ms[j]])
    have sm1 := sm.trans u1
    have iz1 : Iz (upd H1 t1 (.tup [.int (0 + (j : Int)), .int ms[j]])) D zs := u1 _ _ iz
    generalize upd H1 t1 (.tup [.int (0 + (j : Int)), .int ms[j]]) = H2 at *
    have hk : j < zs.length := by (first | lia | omega)
    have eo : atI (zs.map V.int) (0 + (j : Int)) = some (.int zs[j]) := by
      refine atI_0 ?_
      rw [List.getElem?_map, List.getElem?_eq_getElem hk]
      rfl
    refine ⟨_, rfl, _, rfl, D, _, _, _, rfl, rfl, SqL.of iz1, eo, _, rfl, _, _, rfl, rfl, ?_⟩
    have bnew : Bt (α + 1) (zs[j] - ms[j]) := by
      rw [Int.sub_eq_add_neg]
      exact bt_add (bz2 j _ (List.getElem?_eq_getElem hk) (Nat.le_refl _)) (bm _ (List.getElem_mem hj)).neg
    refine ⟨_, rfl, _, rfl, D, _, _, j, rfl, rfl, iz1, ?_, _, _, zs.set j (zs[j] - ms[j]), rfl, same_updF sm1 hD0 _, ?_, by rw [List.length_set]; exact lz, fun t => ?_, fun z hz => ?_, fun k z hkz hjk => ?_⟩
    · rw [List.length_map]
      unfold ixN
      rw [if_pos (by (first | lia | omega)), if_pos (by (first | lia | omega))]
      congr 1
      (first | lia | omega)
    · unfold Iz
      rw [upd_same, List.map_set]
    · rw [cq_set, ev_set _ _ _ _ (by rw [cq_length]; exact hk), evz t, cq_getD, ev_take ms j t hj]
      have e1 : zs.getD j 0 = zs[j] := by rw [List.getD_eq_getElem?_getD, List.getElem?_eq_getElem hk]; rfl
      rw [e1, Rat.intCast_sub]
      grind
    · rcases List.mem_or_eq_of_mem_set hz with z' | z'
      · exact bz z z'
      · rw [z']; exact bnew
    · rw [List.getElem?_set, if_neg (by (first | lia | omega))] at hkz
      exact bz2 k z hkz (by (first | lia | omega))
  · intro σ H1 hI
    refine WmI.elim hI fun v1 v2 zs eσ sm iz lz evz bz _ => ?_
    subst eσ
    rw [lmb, List.take_length] at evz
    exact ⟨_, rfl, q D zs H1 sm hD0 iz evz lz bz⟩

structure Tab (H : Hp) (D : Addr) (rcs : List (Addr × List Addr)) (tb : List (List (List Rat))) (n : Nat) : Prop where
  e : H D = some (.lst (rcs.map fun rc => V.ref rc.1))
  k : Paired (Rc H) rcs tb
  len : tb.length = n
  sq : ∀ row ∈ tb, row.length = n
theorem Tab.keep {H H' : Hp} {D : Addr} {rcs : List (Addr × List Addr)} {tb : List (List (List Rat))} {n : Nat} (h : Tab H D rcs tb n) (s : Same H H') : Tab H' D rcs tb n := ⟨s _ _ h.e, Paired.imp' (fun _ _ z => Rc.keep z s) h.k, h.len, h.sq⟩
noncomputable def cellQ (tb : List (List (List Rat))) (i j : Nat) : List Rat := (tb.getD i []).getD j []
theorem Tab.cell {H : Hp} {D : Addr} {rcs : List (Addr × List Addr)} {tb : List (List (List Rat))} {n : Nat} (h : Tab H D rcs tb n) {i j : Nat} (hi : i < n) (hj : j < n) :
    ∃ (rc : Addr × List Addr) (c : Addr), (rcs.map fun rc => V.ref rc.1)[i]? = some (V.ref rc.1) ∧ H rc.1 = some (.lst (rc.2.map V.ref)) ∧ (rc.2.map V.ref)[j]? = some (V.ref c) ∧ Rw H c (cellQ tb i j) := by
  have hi' : i < tb.length := by rw [h.len]; exact hi
  obtain ⟨rc, erc, krc⟩ := paired_get h.k (List.getElem?_eq_getElem hi')
  have hj' : j < tb[i].length := by rw [h.sq _ (List.getElem_mem hi')]; exact hj
  obtain ⟨c, ec, kc⟩ := paired_get krc.2 (List.getElem?_eq_getElem hj')
  refine ⟨rc, c, by rw [List.getElem?_map, erc]; rfl, krc.1, by rw [List.getElem?_map, ec]; rfl, ?_⟩
  have : cellQ tb i j = tb[i][j] := by
    have e1 : tb.getD i [] = tb[i] := by rw [List.getD_eq_getElem?_getD, List.getElem?_eq_getElem hi']; rfl
    unfold cellQ
    rw [e1, List.getD_eq_getElem?_getD, List.getElem?_eq_getElem hj']
    rfl
  rw [this]
  exact kc
noncomputable def beside (tb : List (List (List Rat))) (n i : Nat) (o : Int) : List Rat := if o < 0 ∨ o = n ∨ (cellQ tb o.toNat i).length = 0 then [] else cellQ tb i o.toNat
noncomputable def sp_beside : Sp := fun vs H Q _ => ∃ (D : Addr) (rcs : List (Addr × List Addr)) (tb : List (List (List Rat))) (n i : Nat) (o : Int), vs = [.ref D, .int i, .int o] ∧ Tab H D rcs tb n ∧ i < n ∧ -1 ≤ o ∧ o ≤ n ∧ ∀ r H', Same H H' → Rw H' r (beside tb n i o) → Q (.ref r) H'
theorem sc_part_beside : FnScope ["table", "place", "other"] ["table", "place", "other"] (defScope s_part_beside) := ⟨rfl, rfl, rfl, by decide +kernel, rfl, by decide +kernel, by decide +kernel⟩
theorem ok_part_beside (F : Fun K "part_beside" "part_beside" s_part_beside f fd) (T : Txt mg) : FnOk P w K mg base CX0 1 f fd ["table", "place", "other"] sp_beside := by
  refine F.ok sc_part_beside (fun vs H Q E h => ?_) (fun cdv A outer s H vs Q E hr h => ?_)
  · obtain ⟨D, rcs, tb, n, i, o, rfl, _⟩ := h
    rfl
  obtain ⟨D, rcs, tb, n, i, o, rfl, tab, hi, ho1, ho2, q⟩ := h
  have lr : rcs.length = n := by rw [Paired.length tab.k, tab.len]
  refine ⟨_, (pss_cons (ps_if (PW.pt (pw_or (pt_cmpR op_lt (pv 2) pe_int (nomark _)) (pw_or (pt_cmpR op_eq (pv 2) (pe_callB call_len_seq rfl T.z_len PySem.boot_len (pa_cons (pv 0) pa_nil)) (nomark _)) (pw_or1 (pt_cmpR op_eq (pe_callB call_len_seq rfl T.z_len PySem.boot_len (pa_cons (pe_ix ix_list (pe_ix ix_list (pv 0) (pv 2) (fun _ _ => rfl)) (pv 1) (fun _ _ => rfl)) pa_nil)) pe_int (nomark _))))))
        (pss_one (ps_ret (pe_lst pa_nil)))
        pss_nil)
      (pss_one (ps_ret (pe_ix ix_list (pe_ix ix_list (pv 0) (pv 1) (fun _ _ => rfl)) (pv 2) (fun _ _ => rfl))))), ?_⟩
  have nil : (o < 0 ∨ o = n ∨ (cellQ tb o.toNat i).length = 0) → ∀ l, H l = none → Q (.ref l) (upd H l (.lst [])) := fun hc l hl => by
    refine q l _ (same_upd hl _) ?_
    unfold beside
    rw [if_pos hc]
    exact ⟨[], upd_same, .nil⟩
  refine ⟨_, rfl, _, _, rfl, rfl, _, rfl, ?_⟩
  by_cases h1 : o < 0
  · exact iteD h1 ⟨(by show 0 ≤ sizeLine; decide), nil (.inl h1)⟩
  refine iteND h1 ?_
  refine ⟨_, rfl, _, rfl, D, _, rfl, .inl (SqL.of tab.e), rfl, _, rfl, ?_⟩
  by_cases h2 : o = n
  · exact iteD (congrArg V.int (by rw [List.length_map]; (first | lia | omega))) ⟨(by show 0 ≤ sizeLine; decide), nil (.inr (.inl h2))⟩
  refine iteND (fun z => h2 (by have := V.int.inj z; rw [List.length_map] at this; (first | lia | omega))) ?_
  obtain ⟨m, rfl⟩ : ∃ m : Nat, o = m := ⟨o.toNat, by (first | lia | omega)⟩
  have hm : m < n := by (first | lia | omega)
  obtain ⟨rc, c, e1, e2, e3, kc⟩ := tab.cell hm hi
  obtain ⟨xc, ec, lc⟩ := kc.there
  refine ⟨_, rfl, _, rfl, D, _, _, _, rfl, rfl, SqL.of tab.e, atI_nat e1, _, rfl, rc.1, _, _, _, rfl, rfl, SqL.of e2, atI_nat e3, c, _, rfl, .inl (SqL.of ec), rfl, _, rfl, ?_⟩
  by_cases h3 : (cellQ tb m i).length = 0
  · exact iteD (congrArg V.int (by (first | lia | omega))) ⟨(by show 0 ≤ sizeLine; decide), nil (.inr (.inr (by rw [Int.toNat_natCast]; exact h3)))⟩
  refine iteND (fun z => h3 (by have := V.int.inj z; (first | lia | omega))) ?_
  obtain ⟨rc', c', e1', e2', e3', kc'⟩ := tab.cell hi hm
  refine ⟨_, rfl, _, rfl, D, _, _, _, rfl, rfl, SqL.of tab.e, atI_nat e1', _, rfl, rc'.1, _, _, _, rfl, rfl, SqL.of e2', atI_nat e3', q c' H (Same.refl _) ?_⟩
  unfold beside
  rw [if_neg (by rw [Int.toNat_natCast]; (first | lia | omega)), Int.toNat_natCast]
  exact kc'
noncomputable def sp_parts : Sp := fun vs H Q _ => ∃ (D : Addr) (rcs : List (Addr × List Addr)) (tb : List (List (List Rat))) (n i : Nat), vs = [.ref D, .int i] ∧ Tab H D rcs tb n ∧ i < n ∧
  ∀ r x y z H', Same H H' → H' r = some (.tup [.ref x, .ref y, .ref z]) → Rw H' x (beside tb n i ((i : Int) - 1)) → Rw H' y (cellQ tb i i) → Rw H' z (beside tb n i ((i : Int) + 1)) → Q (.ref r) H'
theorem sc_parts_of_row : FnScope ["table", "place"] ["table", "place"] (defScope s_parts_of_row) := ⟨rfl, rfl, rfl, by decide +kernel, rfl, by decide +kernel, by decide +kernel⟩
theorem ok_parts_of_row (F : Fun K "parts_of_row" "parts_of_row" s_parts_of_row f fd) (T : Txt mg) (C_part_beside : Cal P w K mg base "part_beside" 1 ["table", "place", "other"] sp_beside) : FnOk P w K mg base CX0 2 f fd ["table", "place"] sp_parts := by
  refine F.ok sc_parts_of_row (fun vs H Q E h => ?_) (fun cdv A outer s H vs Q E hr h => ?_)
  · obtain ⟨D, rcs, tb, n, i, rfl, _⟩ := h
    rfl
  obtain ⟨D, rcs, tb, n, i, rfl, tab, hi, q⟩ := h
  refine ⟨_, (pss_one (ps_ret (pe_tup (pa_cons (pe_cl C_part_beside hr (pa_cons (pv 0) (pa_cons (pv 1) (pa_cons (pe_op op_sub (pv 1) pe_int) pa_nil)))) (pa_cons (pe_ix ix_list (pe_ix ix_list (pv 0) (pv 1) (fun _ _ => rfl)) (pv 1) (fun _ _ => rfl)) (pa_cons (pe_cl C_part_beside hr (pa_cons (pv 0) (pa_cons (pv 1) (pa_cons (pe_op op_add (pv 1) pe_int) pa_nil)))) pa_nil)))))), ?_⟩
  refine ⟨_, rfl, _, rfl, _, rfl, _, _, rfl, rfl, D, rcs, tb, n, i, _, rfl, tab, hi, by (first | lia | omega), by (first | lia | omega), fun x H1 s1 rx => ?_⟩
  have tab1 := tab.keep s1
  obtain ⟨rc, c, e1, e2, e3, kc⟩ := tab1.cell hi hi
  refine ⟨_, rfl, _, rfl, D, _, _, _, rfl, rfl, SqL.of tab1.e, atI_nat e1, _, rfl, rc.1, _, _, _, rfl, rfl, SqL.of e2, atI_nat e3, ?_⟩
  refine ⟨_, rfl, _, rfl, _, rfl, _, _, rfl, rfl, D, rcs, tb, n, i, _, rfl, tab1, hi, by (first | lia | omega), by (first | lia | omega), fun z H2 s2 rz => ⟨(by show 3 ≤ sizeLine; decide), fun r hr' => ?_⟩⟩
  have u := same_upd hr' (.tup [.ref x, .ref c, .ref z])
  exact q r x c z _ (s1.trans (s2.trans u)) upd_same (rx.keep (s2.trans u)) (kc.keep (s2.trans u)) (rz.keep u)
noncomputable def dp (tb : List (List (List Rat))) (n : Nat) (t : Rat) : Nat → Rat × Rat
  | 0 => (1, 0)
  | k + 1 => (Po.ev (cellQ tb k k) t * (dp tb n t k).1 - Po.ev (beside tb n k ((k : Int) - 1)) t * (dp tb n t k).2, Po.ev (beside tb n k ((k : Int) + 1)) t * (dp tb n t k).1)
theorem beside_mem {tb : List (List (List Rat))} {n i : Nat} {o : Int} {β : Nat} (h : (∀ i, (cellQ tb i i).length ≤ 3) ∧ (∀ i j, i ≠ j → (cellQ tb i j).length ≤ 2) ∧ ∀ i j, ∀ q ∈ cellQ tb i j, Bq β q) (hoi : o ≠ i) : (beside tb n i o).length ≤ 2 ∧ ∀ q ∈ beside tb n i o, Bq β q := by
  unfold beside
  split
  · exact ⟨by simp, fun q hq => absurd hq (by simp)⟩
  · exact ⟨h.2.1 _ _ (by (first | lia | omega)), h.2.2 _ _⟩
theorem band_alg {a b d1 d2 l m ff c : Rat} (h2 : a * b = ff * d2) : m * c * (ff * d1) - l * c * a * b = ff * c * (m * d1 - l * d2) := by
  have h3 : l * c * a * b = l * c * (ff * d2) := by rw [← h2]; grind
  rw [h3]
  grind
theorem ev_map_mulB (qs : List Rat) (B t : Rat) : Po.ev (qs.map (· * B)) t = Po.ev qs t * B := Po.ev_map_mul qs B t
noncomputable def sp_band : Sp := fun vs H Q _ => ∃ (D : Addr) (rcs : List (Addr × List Addr)) (tb : List (List (List Rat))) (n β : Nat), vs = [.ref D] ∧ Tab H D rcs tb n ∧ n ≤ 12 ∧ ((∀ i, (cellQ tb i i).length ≤ 3) ∧ (∀ i j, i ≠ j → (cellQ tb i j).length ≤ 2) ∧ ∀ i j, ∀ q ∈ cellQ tb i j, Bq β q) ∧ β ≤ 600 ∧ (16 * β + 20) * n + 2 ≤ 7000 ∧
  ∀ r qs H', Same H H' → H r = none → Rw H' r qs → Po.strip qs = qs → (∀ t, Po.ev qs t = (dp tb n t n).1) → qs.length ≤ 2 * n + 1 → (∀ q ∈ qs, Bq ((16 * β + 20) * n + 2) q) → Q (.ref r) H'
theorem v2z {a : V} {i : Nat} : [a, V.int (0 + (i : Int))] = [a, V.int i] := by rw [Int.zero_add]
theorem Iz.keep {H H' : Hp} {a : Addr} {ns : List Int} (h : Iz H a ns) (s : Same H H') : Iz H' a ns := s _ _ h
noncomputable def BandIv (H : Hp) (D : Addr) (tb : List (List (List Rat))) (n β i : Nat) (σ : L2.St) (H' : Hp) : Prop := ∃ (nw bf ra : Addr) (N B R : List Int) (F : Int) (v5 v6 v7 v8 v9 v10 : Option V), σ = [some (.ref D), some (.ref nw), some (.ref bf), some (.int F), some (.ref ra), v5, v6, v7, v8, v9, v10] ∧ Same H H' ∧ Iz H' nw N ∧ Iz H' bf B ∧ Iz H' ra R ∧ 0 < F ∧ Bt ((16 * β + 20) * i + 1) F ∧
      (∀ t, Po.ev (cq N) t = (F : Rat) * (dp tb n t i).1) ∧ (∀ t, Po.ev (cq R) t * Po.ev (cq B) t = (F : Rat) * (dp tb n t i).2) ∧ (N.length ≤ 2 * i + 1 ∧ B.length ≤ 2 * i + 1 ∧ R.length ≤ 2) ∧ (∀ z ∈ N, Bt ((16 * β + 20) * i + 2) z) ∧ (∀ z ∈ B, Bt ((16 * β + 20) * i + 2) z) ∧ ∀ z ∈ R, Bt (8 * β + 1) z
noncomputable def BandM1 (H1 : Hp) (D nw bf ra : Addr) (F : Int) (v8 v9 v10 : Option V) (Lq Mq Rq' : List Rat) (β i : Nat) (σ' : L2.St) (H' : Hp) : Prop := ∃ (pr x y z : Addr) (fc : Int), σ' = [some (.ref D), some (.ref nw), some (.ref bf), some (.int F), some (.ref ra), some (.int (0 + (i : Int))), some (.ref pr), some (.int fc), v8, v9, v10] ∧ Same H1 H' ∧ H' pr = some (.tup [.ref x, .ref y, .ref z]) ∧ Rw H' x Lq ∧ Rw H' y Mq ∧ Rw H' z Rq' ∧ 0 < fc ∧ (∀ q ∈ Lq ++ Mq ++ Rq', (q.den : Int) ∣ fc) ∧ Bt (7 * β + 1) fc
noncomputable def BandM2 (H4 : Hp) (D nw bf ra pr : Addr) (F fc : Int) (v10 : Option V) (Lq Mq : List Rat) (β i : Nat) (σ' : L2.St) (H' : Hp) : Prop := ∃ (la ma : Addr) (Ln Mn : List Int), σ' = [some (.ref D), some (.ref nw), some (.ref bf), some (.int F), some (.ref ra), some (.int (0 + (i : Int))), some (.ref pr), some (.int fc), some (.ref la), some (.ref ma), v10] ∧ Same H4 H' ∧ Iz H' la Ln ∧ Iz H' ma Mn ∧ cq Ln = Lq.map (· * (fc : Rat)) ∧ cq Mn = Mq.map (· * (fc : Rat)) ∧ (∀ z ∈ Ln, Bt (β + (7 * β + 1)) z) ∧ ∀ z ∈ Mn, Bt (β + (7 * β + 1)) z
theorem BandIv.elim {H : Hp} {D : Addr} {tb : List (List (List Rat))} {n β i : Nat} {σ : L2.St} {H' : Hp} {G : Prop} (h : BandIv H D tb n β i σ H') (k : ∀ (nw bf ra : Addr) (N B R : List Int) (F : Int) (v5 v6 v7 v8 v9 v10 : Option V), σ = [some (.ref D), some (.ref nw), some (.ref bf), some (.int F), some (.ref ra), v5, v6, v7, v8, v9, v10] → (Same H H') → (Iz H' nw N) → (Iz H' bf B) → (Iz H' ra R) → (0 < F) → (Bt ((16 * β + 20) * i + 1) F) → ((∀ t, Po.ev (cq N) t = (F : Rat) * (dp tb n t i).1)) → ((∀ t, Po.ev (cq R) t * Po.ev (cq B) t = (F : Rat) * (dp tb n t i).2)) → ((N.length ≤ 2 * i + 1 ∧ B.length ≤ 2 * i + 1 ∧ R.length ≤ 2)) → ((∀ z ∈ N, Bt ((16 * β + 20) * i + 2) z)) → ((∀ z ∈ B, Bt ((16 * β + 20) * i + 2) z)) → (∀ z ∈ R, Bt (8 * β + 1) z) → G) : G := by
  obtain ⟨nw, bf, ra, N, B, R, F, v5, v6, v7, v8, v9, v10, h0', h1', h2', h3', h4', h5', h6', h7', h8', h9', h10', h11', h12'⟩ := h
  exact k _ _ _ _ _ _ _ _ _ _ _ _ _ h0' h1' h2' h3' h4' h5' h6' h7' h8' h9' h10' h11' h12'
theorem BandM1.elim {H1 : Hp} {D nw bf ra : Addr} {F : Int} {v8 v9 v10 : Option V} {Lq Mq Rq' : List Rat} {β i : Nat} {σ' : L2.St} {H' : Hp} {G : Prop} (h : BandM1 H1 D nw bf ra F v8 v9 v10 Lq Mq Rq' β i σ' H') (k : ∀ (pr x y z : Addr) (fc : Int), σ' = [some (.ref D), some (.ref nw), some (.ref bf), some (.int F), some (.ref ra), some (.int (0 + (i : Int))), some (.ref pr), some (.int fc), v8, v9, v10] → (Same H1 H') → (H' pr = some (.tup [.ref x, .ref y, .ref z])) → (Rw H' x Lq) → (Rw H' y Mq) → (Rw H' z Rq') → (0 < fc) → ((∀ q ∈ Lq ++ Mq ++ Rq', (q.den : Int) ∣ fc)) → (Bt (7 * β + 1) fc) → G) : G := by
  obtain ⟨pr, x, y, z, fc, h0', h1', h2', h3', h4', h5', h6', h7', h8'⟩ := h
  exact k _ _ _ _ _ h0' h1' h2' h3' h4' h5' h6' h7' h8'
theorem BandM2.elim {H4 : Hp} {D nw bf ra pr : Addr} {F fc : Int} {v10 : Option V} {Lq Mq : List Rat} {β i : Nat} {σ' : L2.St} {H' : Hp} {G : Prop} (h : BandM2 H4 D nw bf ra pr F fc v10 Lq Mq β i σ' H') (k : ∀ (la ma : Addr) (Ln Mn : List Int), σ' = [some (.ref D), some (.ref nw), some (.ref bf), some (.int F), some (.ref ra), some (.int (0 + (i : Int))), some (.ref pr), some (.int fc), some (.ref la), some (.ref ma), v10] → (Same H4 H') → (Iz H' la Ln) → (Iz H' ma Mn) → (cq Ln = Lq.map (· * (fc : Rat))) → (cq Mn = Mq.map (· * (fc : Rat))) → ((∀ z ∈ Ln, Bt (β + (7 * β + 1)) z)) → (∀ z ∈ Mn, Bt (β + (7 * β + 1)) z) → G) : G := by
  obtain ⟨la, ma, Ln, Mn, h0', h1', h2', h3', h4', h5', h6', h7'⟩ := h
  exact k _ _ _ _ h0' h1' h2' h3' h4' h5' h6' h7'
theorem sc_band : FnScope ["table", "now", "before", "bottom", "right_ahead", "place", "parts", "factor", "left", "middle", "across"] ["table"] (defScope s_band) := ⟨rfl, rfl, rfl, by decide +kernel, rfl, by decide +kernel, by decide +kernel⟩
set_option maxHeartbeats 8000000 in
theorem ok_band (F : Fun K "band" "band" s_band f fd) (T : Txt mg) (C_parts_of_row : Cal P w K mg base "parts_of_row" 2 ["table", "place"] sp_parts) (C_shared_bottom : Cal P w K mg base "shared_bottom" 2 ["figures"] sp_shb) (C_whole_figures : Cal P w K mg base "whole_figures" 1 ["one", "bottom"] sp_whf) (C_whole_times : Cal P w K mg base "whole_times" 1 ["one", "other"] sp_wht) (C_whole_minus : Cal P w K mg base "whole_minus" 1 ["one", "other"] sp_whm)
    (C_fraction_d0 : CalD P w K mg base "fraction" 2 ["top", "bottom"] [] [] sp_fracQ) (C_poly : Cal P w K mg base "poly" 2 ["figures"] sp_stripQ) : FnOk P w K mg base CX0 3 f fd ["table"] sp_band := by
  refine F.ok sc_band (fun vs H Q E h => ?_) (fun cdv A outer s H vs Q E hr h => ?_)
  · obtain ⟨D, rcs, tb, n, β, rfl, _⟩ := h
    rfl
  obtain ⟨D, rcs, tb, n, β, rfl, tab, hn, hc, hβ, hbig, q⟩ := h
  have lr : rcs.length = n := by rw [Paired.length tab.k, tab.len]
  have hz : (1000 : Nat) < sizeLine := by decide
  have mulP : ∀ i, i ≤ n → (16 * β + 20) * i + 2 ≤ 7000 := fun i hi => Nat.le_trans (Nat.add_le_add_right (Nat.mul_le_mul_left _ hi) 2) hbig
  refine ⟨_, (pss_cons (ps_set (i := 1) sc_band.nd rfl (Or.inl rfl) (pe_lst (pa_cons pe_int pa_nil)))
      (pss_cons (ps_set (i := 2) sc_band.nd rfl (Or.inl rfl) (pe_lst pa_nil))
      (pss_cons (ps_set (i := 3) sc_band.nd rfl (Or.inr rfl) pe_int)
      (pss_cons (ps_set (i := 4) sc_band.nd rfl (Or.inl rfl) (pe_lst pa_nil))
      (pss_cons (ps_for PassesOwn.never rfl (pi_range1 rfl T.z_range (pa_cons (pe_callB call_len_seq rfl T.z_len PySem.boot_len (pa_cons (pv 0) pa_nil)) pa_nil)) (pg_name (i := 5) sc_band.nd rfl (Or.inl rfl))
        (pss_split 2 (pss_cons (ps_set (i := 6) sc_band.nd rfl (Or.inl rfl) (pe_cl C_parts_of_row hr (pa_cons (pv 0) (pa_cons (pv 5) pa_nil))))
        (pss_one (ps_set (i := 7) sc_band.nd rfl (Or.inl rfl) (pe_cl C_shared_bottom hr (pa_cons (pe_op op_cat (pe_op op_cat (pe_ix ix_tup (pv 6) pe_int (fun _ _ => rfl)) (pe_ix ix_tup (pv 6) pe_int (fun _ _ => rfl))) (pe_ix ix_tup (pv 6) pe_int (fun _ _ => rfl))) pa_nil)))))
        (pss_split 2 (pss_cons (ps_set (i := 8) sc_band.nd rfl (Or.inl rfl) (pe_cl C_whole_figures hr (pa_cons (pe_ix ix_tup (pv 6) pe_int (fun _ _ => rfl)) (pa_cons (pv 7) pa_nil))))
        (pss_one (ps_set (i := 9) sc_band.nd rfl (Or.inl rfl) (pe_cl C_whole_figures hr (pa_cons (pe_ix ix_tup (pv 6) pe_int (fun _ _ => rfl)) (pa_cons (pv 7) pa_nil))))))
        (pss_cons (ps_set (i := 10) sc_band.nd rfl (Or.inl rfl) (pe_cl C_whole_times hr (pa_cons (pe_cl C_whole_times hr (pa_cons (pv 8) (pa_cons (pv 4) pa_nil))) (pa_cons (pv 2) pa_nil))))
        (pss_cons (ps_set (i := 2) sc_band.nd rfl (Or.inl rfl) (pv 1))
        (pss_cons (ps_set (i := 1) sc_band.nd rfl (Or.inl rfl) (pe_cl C_whole_minus hr (pa_cons (pe_cl C_whole_times hr (pa_cons (pv 9) (pa_cons (pv 1) pa_nil))) (pa_cons (pv 10) pa_nil))))
        (pss_cons (ps_set (i := 4) sc_band.nd rfl (Or.inl rfl) (pe_cl C_whole_figures hr (pa_cons (pe_ix ix_tup (pv 6) pe_int (fun _ _ => rfl)) (pa_cons (pv 7) pa_nil))))
        (pss_one (ps_set (i := 3) sc_band.nd rfl (Or.inr rfl) (pe_op op_mulB (pv 3) (pv 7)))))))))))
      (pss_one (ps_ret (pe_cl C_poly hr (pa_cons (pe_comp (N' := ["figure", "bottom"]) (fsc := defScope s_band) (N := ["table", "now", "before", "bottom", "right_ahead", "place", "parts", "factor", "left", "middle", "across"]) [3] ⟨rfl, by decide +kernel, by decide +kernel, by decide +kernel, rfl, by decide +kernel, rfl, by decide +kernel⟩ (pi_list (pv 1)) (fun _ _ _ _ => (pe_clD C_fraction_d0 hr (pa_cons (pv 0) (pa_cons (pv 1) pa_nil))))) pa_nil))))))))), ?_⟩
  refine ⟨(by show 1 ≤ sizeLine; decide), fun a1 h1 => ⟨(by show 0 ≤ sizeLine; decide), fun a2 h2 => ⟨(by show 0 ≤ sizeLine; decide), fun a3 h3 => ?_⟩⟩⟩
  have u1 := same_upd h1 (.lst [.int 1])
  have u2 := same_upd h2 (.lst [])
  have u3 := same_upd h3 (.lst [])
  have i1 : Iz (upd (upd (upd H a1 (.lst [.int 1])) a2 (.lst [])) a3 (.lst [])) a1 [1] := (u2.trans u3) _ _ upd_same
  have i2 : Iz (upd (upd (upd H a1 (.lst [.int 1])) a2 (.lst [])) a3 (.lst [])) a2 [] := u3 _ _ upd_same
  have i3 : Iz (upd (upd (upd H a1 (.lst [.int 1])) a2 (.lst [])) a3 (.lst [])) a3 [] := upd_same
  have s0 := u1.trans (u2.trans u3)
  generalize upd (upd (upd H a1 (.lst [.int 1])) a2 (.lst [])) a3 (.lst []) = H0 at *
  have tab0 := tab.keep s0
  refine ⟨_, rfl, D, _, rfl, .inl (SqL.of tab0.e), _, rfl, by (first | lia | omega), by rw [List.length_map]; (first | lia | omega), ?_⟩
  rw [Int.toNat_natCast, List.length_map, lr]
  refine for_range (n := n) (BandIv H D tb n β)
    ⟨a1, a2, a3, [1], [], [], 1, _, _, _, _, _, _, rfl, s0, i1, i2, i3, by decide, Bt.mono (m := 1) (by show (1 : Nat) < 2 ^ 1; decide) (by (first | lia | omega)), fun t => ?_, fun t => ?_, ⟨by simp, by simp, by simp⟩, fun z hz => ?_, fun z hz => absurd hz (by simp), fun z hz => absurd hz (by simp)⟩ ?_ ?_
  · show ((1 : Int) : Rat) + t * 0 = ((1 : Int) : Rat) * 1
    grind
  · show (0 : Rat) * 0 = ((1 : Int) : Rat) * 0
    grind
  · have : z = 1 := by simpa using hz
    rw [this]
    exact Bt.mono (m := 1) (by show (1 : Nat) < 2 ^ 1; decide) (by (first | lia | omega))
  · intro i σ H1 hi hI
    refine BandIv.elim hI fun nw bf ra N B R F v5 v6 v7 v8 v9 v10 eσ sm iN iB iR hF bF eN eR lll bN bB bR => ?_
    subst eσ
    have lN := lll.1
    have lB := lll.2.1
    have lR := lll.2.2
    obtain ⟨lx, bx⟩ := beside_mem (n := n) (i := i) (o := (i : Int) - 1) hc (by (first | lia | omega))
    have ly := hc.1 i
    have by' := hc.2.2 i i
    obtain ⟨lz, bz⟩ := beside_mem (n := n) (i := i) (o := (i : Int) + 1) hc (by (first | lia | omega))
    refine ⟨BandM1 H1 D nw bf ra F v8 v9 v10 (beside tb n i ((i : Int) - 1)) (cellQ tb i i) (beside tb n i ((i : Int) + 1)) β i, ?tl1, ?hd1⟩
    case hd1 =>
      refine ⟨_, rfl, _, rfl, D, rcs, tb, n, i, v2z, tab.keep sm, hi, fun pr x y z H2 s2 epr rx ry rz => ?_⟩
      generalize beside tb n i ((i : Int) - 1) = Lq at *
      generalize beside tb n i ((i : Int) + 1) = Rq' at *
      generalize cellQ tb i i = Mq at *
      obtain ⟨px, ex, kx⟩ := id rx
      obtain ⟨py, ey, ky⟩ := id ry
      obtain ⟨pz, ez, kz⟩ := id rz
      have lpx := kx.length
      have lpy := ky.length
      have lpz := kz.length
      refine ⟨_, rfl, pr, _, _, _, rfl, rfl, SqT.of epr, rfl, _, rfl, pr, _, _, _, rfl, rfl, SqT.of epr, rfl, x, y, _, _, rfl, rfl, ex, ey, by rw [List.length_map, List.length_map]; (first | lia | omega), fun l1 hl1 => ?_⟩
      have w1 := same_upd hl1 (.lst (px.map V.ref ++ py.map V.ref))
      have el1 : (upd H2 l1 (.lst (px.map V.ref ++ py.map V.ref))) l1 = some (.lst (px.map V.ref ++ py.map V.ref)) := upd_same
      have epr1 := w1 _ _ epr
      have ez1 := w1 _ _ ez
      generalize upd H2 l1 (.lst (px.map V.ref ++ py.map V.ref)) = H3 at *
      refine ⟨_, rfl, pr, _, _, _, rfl, rfl, SqT.of epr1, rfl, l1, z, _, _, rfl, rfl, el1, ez1, by rw [List.length_append, List.length_map, List.length_map, List.length_map]; (first | lia | omega), fun l2 hl2 => ?_⟩
      have w2 := same_upd hl2 (.lst (px.map V.ref ++ py.map V.ref ++ pz.map V.ref))
      have r2 : Rw (upd H3 l2 (.lst (px.map V.ref ++ py.map V.ref ++ pz.map V.ref))) l2 (Lq ++ Mq ++ Rq') := ⟨px ++ py ++ pz, by rw [upd_same]; simp, ((kx.append ky).append kz).keep (w1.trans w2)⟩
      have w12 := w1.trans w2
      have epr3 := w2 _ _ epr1
      have l6 : (Lq ++ Mq ++ Rq').length ≤ 7 := by simp only [List.length_append]; (first | lia | omega)
      have b6 : ∀ q ∈ Lq ++ Mq ++ Rq', Bq β q := fun q hq => by
        rcases List.mem_append.mp hq with h | h
        · rcases List.mem_append.mp h with h | h
          · exact bx q h
          · exact by' q h
        · exact bz q h
      refine ⟨l2, _, β, rfl, r2, by (first | lia | omega), b6, hβ, fun fc hfc hdv bfc => ?_⟩
      exact ⟨pr, x, y, z, fc, rfl, s2.trans w12, epr3, rx.keep w12, ry.keep w12, rz.keep w12, hfc, hdv, bfc.mono (by
        have := Nat.mul_le_mul_left β l6
        (first | lia | omega))⟩
    intro σ4 H4 hM
    refine BandM1.elim hM fun pr x y z fc eσ s4 epr3 rx3 ry3 rz3 hfc hdv bf6 => ?_
    subst eσ
    have sm3 := sm.trans s4
    have iN3 := iN.keep s4
    have iB3 := iB.keep s4
    have iR3 := iR.keep s4
    have eD1' : ∀ t, dp tb n t (i + 1) = (Po.ev (cellQ tb i i) t * (dp tb n t i).1 - Po.ev (beside tb n i ((i : Int) - 1)) t * (dp tb n t i).2, Po.ev (beside tb n i ((i : Int) + 1)) t * (dp tb n t i).1) := fun t => rfl
    generalize beside tb n i ((i : Int) - 1) = Lq at *
    generalize beside tb n i ((i : Int) + 1) = Rq' at *
    generalize cellQ tb i i = Mq at *
    have dvx : ∀ q ∈ Lq, (q.den : Int) ∣ fc := fun q hq => hdv q (by simp [hq])
    have dvy : ∀ q ∈ Mq, (q.den : Int) ∣ fc := fun q hq => hdv q (by simp [hq])
    have dvz : ∀ q ∈ Rq', (q.den : Int) ∣ fc := fun q hq => hdv q (by simp [hq])
    have hi1 := mulP (i + 1) hi
    rw [Nat.mul_succ] at hi1
    refine ⟨BandM2 H4 D nw bf ra pr F fc v10 Lq Mq β i, ?tl2, ?hd2⟩
    case hd2 =>
      refine ⟨_, rfl, pr, _, _, _, rfl, rfl, SqT.of epr3, rfl, _, rfl, x, Lq, fc, β, 7 * β + 1, rfl, rx3, by (first | lia | omega), hfc, dvx, bx, bf6, hβ, by (first | lia | omega), fun la Ln H5 s5 n5 iL eL bL => ?_⟩
      exact ⟨_, rfl, pr, _, _, _, rfl, rfl, SqT.of (s5 _ _ epr3), rfl, _, rfl, y, Mq, fc, β, 7 * β + 1, rfl, ry3.keep s5, by (first | lia | omega), hfc, dvy, by', bf6, hβ, by (first | lia | omega), fun ma Mn H6 s6 n6 iM eM bM => ⟨la, ma, Ln, Mn, rfl, s5.trans s6, iL.keep s6, iM, eL, eM, bL, bM⟩⟩
    intro σ6 H6 hM
    refine BandM2.elim hM fun la ma Ln Mn eσ s46 iL iM eL eM bL bM => ?_
    subst eσ
    have lLn : Ln.length = Lq.length := by have := congrArg List.length eL; rw [cq_length, List.length_map] at this; exact this
    have lMn : Mn.length = Mq.length := by have := congrArg List.length eM; rw [cq_length, List.length_map] at this; exact this
    refine ⟨_, rfl, _, rfl, la, ra, Ln, R, β + (7 * β + 1), 8 * β + 1, rfl, iL, iR3.keep s46, by (first | lia | omega), by (first | lia | omega), bL, bR, by (first | lia | omega), fun w1a Z1 H7 s7 n7 iZ1 eZ1 lZ1 bZ1 => ?_⟩
    have s47 := s46.trans s7
    refine ⟨_, rfl, w1a, bf, Z1, B, β + (7 * β + 1) + (8 * β + 1) + 6, (16 * β + 20) * i + 2, rfl, iZ1, iB3.keep s47, by (first | lia | omega), by (first | lia | omega), bZ1, bB, by (first | lia | omega), fun ac Z2 H8 s8 n8 iZ2 eZ2 lZ2 bZ2 => ?_⟩
    have s48 := s47.trans s8
    refine ⟨_, rfl, ?_⟩
    refine ⟨_, rfl, _, rfl, ma, nw, Mn, N, β + (7 * β + 1), (16 * β + 20) * i + 2, rfl, iM.keep (s7.trans s8), iN3.keep s48, by (first | lia | omega), by (first | lia | omega), bM, bN, by (first | lia | omega), fun w3 Z3 H9 s9 n9 iZ3 eZ3 lZ3 bZ3 => ?_⟩
    refine ⟨_, rfl, w3, ac, Z3, Z2, (16 * β + 20) * i + 16 * β + 20, rfl, iZ3, iZ2.keep s9, by (first | lia | omega), by (first | lia | omega), fun zz hzz => (bZ3 zz hzz).mono (by (first | lia | omega)), fun zz hzz => (bZ2 zz hzz).mono (by (first | lia | omega)), fun nn Z4 H10 s10 n10 iZ4 eZ4 lZ4 bZ4 => ?_⟩
    have s410 := s48.trans (s9.trans s10)
    refine ⟨_, rfl, pr, _, _, _, rfl, rfl, SqT.of (s410 _ _ epr3), rfl, _, rfl, z, Rq', fc, β, 7 * β + 1, rfl, rz3.keep s410, by (first | lia | omega), hfc, dvz, bz, bf6, hβ, by (first | lia | omega), fun rn Rn H11 s11 n11 iRn eRn bRn => ?_⟩
    have lRn : Rn.length = Rq'.length := by have := congrArg List.length eRn; rw [cq_length, List.length_map] at this; exact this
    have s411 := s410.trans s11
    refine ⟨_, rfl, _, rfl, _, _, rfl, rfl, mul_of bF bf6 (by (first | lia | omega)), nn, nw, rn, Z4, N, Rn, F * fc, _, _, _, _, _, _, rfl, sm3.trans s411, iZ4.keep s11, iN3.keep s411, iRn, Int.mul_pos hF hfc, (bF.mul bf6).mono (by rw [Nat.mul_succ]; (first | lia | omega)), fun t => ?_, fun t => ?_, ⟨by (first | lia | omega), by (first | lia | omega), by (first | lia | omega)⟩, fun zz hzz => (bZ4 zz hzz).mono (by rw [Nat.mul_succ]; (first | lia | omega)), fun zz hzz => (bN zz hzz).mono (by rw [Nat.mul_succ]; (first | lia | omega)), fun zz hzz => (bRn zz hzz).mono (by (first | lia | omega))⟩
    · rw [eZ4 t, eZ3 t, eZ2 t, eZ1 t, eL, eM, ev_map_mulB, ev_map_mulB, eN t, eD1' t, Rat.intCast_mul]
      exact band_alg (eR t)
    · rw [eRn, ev_map_mulB, eN t, eD1' t, Rat.intCast_mul]
      show _ = _ * (_ * _)
      grind
  · intro σ H1 hI
    refine BandIv.elim hI fun nw bf ra N B R F v5 v6 v7 v8 v9 v10 eσ sm iN iB iR hF bF eN eR lll bN bB bR => ?_
    subst eσ
    have lN := lll.1
    have lB := lll.2.1
    have lR := lll.2.2
    have h7 := mulP n (Nat.le_refl _)
    have nF : (F : Rat) ≠ 0 := Po.cast_ne (Int.ne_of_gt hF)
    refine ⟨_, rfl, nw, rfl, ⟨_, SqL.of iN⟩, comp_intsQ (ns := N) (by (first | lia | omega)) iN (fun z => (z : Rat) / (F : Rat)) ?_ fun H2 D2 s2 nD2 rD2 => ?_⟩
    · intro _ _ _ _ z H2 R' hz s2 fin
      exact ⟨_, rfl, _, rfl, z, F, rfl, hF, bF.mono (by (first | lia | omega)), fun r H3 s3 k3 => fin r H3 s3 k3⟩
    · refine ⟨D2, _, rfl, rD2, by rw [List.length_map]; (first | lia | omega), fun r H3 s3 n3 rr => q r _ H3 (sm.trans (s2.trans s3)) ((sm.trans s2).free n3) rr (Po.strip_strip _) (fun t => ?_) ?_ fun y hy => ?_⟩
      · rw [Po.ev_strip]
        have : (N.map fun (z : Int) => (z : Rat) / (F : Rat)) = (cq N).map (· * (F : Rat)⁻¹) := by
          unfold cq
          rw [List.map_map]
          rfl
        rw [this, Po.ev_map_mul, eN t]
        have := Rat.mul_inv_cancel _ nF
        generalize (F : Rat)⁻¹ = k at *
        grind
      · have := Po.strip_length (N.map fun (z : Int) => (z : Rat) / (F : Rat))
        rw [List.length_map] at this
        (first | lia | omega)
      · obtain ⟨z, hz, rfl⟩ := List.mem_map.mp (Po.strip_mem hy)
        exact bq_of (Int.ne_of_gt hF) rfl ((bN z hz).mono (by (first | lia | omega))) (bF.mono (by (first | lia | omega)))

noncomputable def Fd12 (q : Rat) : Prop := Bq 3 q ∧ (q.den : Int) ∣ 12
theorem fd12_of {t b : Int} (h1 : -6 ≤ t) (h2 : t ≤ 6) (h3 : 1 ≤ b) (h4 : b ≤ 4) : Fd12 ((t : Rat) / (b : Rat)) := by
  refine ⟨bq_of (by (first | lia | omega)) rfl (Bt.between (by (first | lia | omega)) (by (first | lia | omega))) (Bt.between (by (first | lia | omega)) (by (first | lia | omega))), ?_⟩
  obtain ⟨_, d2⟩ := dvd_of (show b ≠ 0 by (first | lia | omega)) (q := (t : Rat) / (b : Rat)) rfl
  have : b ∣ 12 := by
    have : b = 1 ∨ b = 2 ∨ b = 3 ∨ b = 4 := by (first | lia | omega)
    rcases this with h | h | h | h <;> (rw [h]; decide)
  exact Int.dvd_trans d2 this
noncomputable def sp_figs32 : Sp := fun vs H Q _ => ∃ (v : Int) (m : Nat), vs = [.int v, .int m] ∧ m ≤ 3 ∧ ∀ r qs H', Same H H' → H r = none → Rw H' r qs → qs.length ≤ m → (∀ q ∈ qs, Fd12 q) → Q (.ref r) H'
theorem Rw.pop {H : Hp} {D : Addr} {ps : List Addr} {qs : List Rat} (e : H D = some (.lst (ps.map V.ref))) (k : Pqs H ps qs) : Rw (upd H D (.lst (ps.map V.ref).dropLast)) D qs.dropLast := by
  have k' : ∀ {ps : List Addr} {qs : List Rat}, Pqs H ps qs → Pqs H ps.dropLast qs.dropLast := by
    intro ps qs h
    induction h with
    | nil => exact .nil
    | cons a t ih =>
      cases t with
      | nil => exact .nil
      | cons b t => exact .cons a ih
  refine ⟨ps.dropLast, by rw [upd_same, List.map_dropLast], Paired.imp' (fun p t z => ?_) (k' k)⟩
  exact z.updL e
theorem sc_law_figures : FnScope ["_law_v", "_law_most", "_law_many", "_law_rest", "_law_found", "_law_k"] ["_law_v", "_law_most"] (defScope s_law_figures) := ⟨rfl, rfl, rfl, by decide +kernel, rfl, by decide +kernel, by decide +kernel⟩
set_option maxHeartbeats 1000000 in
theorem ok_law_figures (F : Fun K "_law_figures" "_law_figures" s_law_figures f fd) (T : Txt mg) (C_law_low : Cal P w K mg base "_law_low" 2 ["_law_top", "_law_bottom"] sp_lowQ) : FnOk P w K mg base CX0 3 f fd ["_law_v", "_law_most"] sp_figs32 := by
  refine F.ok sc_law_figures (fun vs H Q E h => ?_) (fun cdv A outer s H vs Q E hr h => ?_)
  · obtain ⟨v, m, rfl, _⟩ := h
    rfl
  obtain ⟨v, m, rfl, hm, q⟩ := h
  have hz : (1000 : Nat) < sizeLine := by decide
  refine ⟨_, (pss_cons (ps_set (i := 2) sc_law_figures.nd rfl (Or.inl rfl) (pe_op op_mod (pv 0) (pe_op op_add (pv 1) pe_int)))
      (pss_cons (ps_set (i := 3) sc_law_figures.nd rfl (Or.inl rfl) (pe_op op_fdP (pv 0) pe_int))
      (pss_cons (ps_set (i := 4) sc_law_figures.nd rfl (Or.inl rfl) (pe_lst pa_nil))
      (pss_cons (ps_for PassesOwn.never rfl (pi_range1 rfl T.z_range (pa_cons (pv 2) pa_nil)) (pg_name (i := 5) sc_law_figures.nd rfl (Or.inl rfl))
        (pss_cons (ps_expr (pe_bm PySem.F.plainAttrs_list PySem.F.slot_list_append PySem.F.type_list_append mt_append (pv 4) (pa_cons (pe_cl C_law_low hr (pa_cons (pe_op op_sub (pe_op op_mod (pv 3) pe_int) pe_int) (pa_cons (pe_op op_add pe_int (pe_op op_mod (pe_op op_fdP (pv 3) pe_int) pe_int)) pa_nil))) pa_nil)))
        (pss_one (ps_set (i := 3) sc_law_figures.nd rfl (Or.inl rfl) (pe_op op_add (pe_op op_fdP (pv 3) pe_int) (pe_op op_mulB pe_int (pv 5)))))))
      (pss_cons (ps_while PassesOwn.never (PW.pt (pw_and (pt_cmpR (op_neD hr.units) (pv 4) (pe_lst pa_nil) (nomark _)) (pw_and1 (pt_cmpR (op_eqD hr.units) (pe_ix ix_tup (pe_ix ix_list (pv 4) (pe_un un_neg pe_int) (fun _ _ => rfl)) pe_int (fun _ _ => rfl)) pe_int (nomark _)))))
        (pss_one (ps_expr (pe_bm0 PySem.F.plainAttrs_list PySem.F.slot_list_pop PySem.F.type_list_pop mt_pop (pv 4)))))
      (pss_one (ps_ret (pv 4)))))))), ?_⟩
  refine ⟨_, rfl, _, rfl, _, _, rfl, rfl, _, _, rfl, rfl, (by show (0 : Int) < (m : Int) + 1; (first | lia | omega)), ?_⟩
  have a0 := Int.emod_nonneg v (show (m : Int) + 1 ≠ 0 by (first | lia | omega))
  have a1 := Int.emod_lt_of_pos v (show (0 : Int) < (m : Int) + 1 by (first | lia | omega))
  refine gen_int (P := fun y => 0 ≤ y ∧ y < (m : Int) + 1) (v % ((m : Int) + 1)) ⟨a0, a1⟩ fun y ⟨y0, y1⟩ => ?_
  obtain ⟨n, rfl⟩ : ∃ n : Nat, y = n := ⟨y.toNat, by (first | lia | omega)⟩
  refine ⟨_, rfl, _, _, rfl, rfl, ⟨by decide, bt2 (by decide +kernel)⟩, ?_⟩
  refine ⟨(by show 0 ≤ sizeLine; decide), fun D hD => ?_⟩
  refine ⟨_, rfl, _, rfl, by (first | lia | omega), by (first | lia | omega), ?_⟩
  rw [Int.toNat_natCast]
  refine for_range (n := n) (fun i σ H' => (∃ (r : Int) (k : Option V), σ = [some (.int v), some (.int m), some (.int n), some (.int r), some (.ref D), k]) ∧ Same H H' ∧ ∃ qs, Rw H' D qs ∧ qs.length = i ∧ ∀ q ∈ qs, Fd12 q) ⟨⟨_, _, rfl⟩, same_upd hD _, [], ⟨[], upd_same, .nil⟩, rfl, fun q h => absurd h (by simp)⟩ ?_ ?_
  · rintro i σ H1 hi ⟨⟨r, k, rfl⟩, sm, qs, rq, lq, fq'⟩
    obtain ⟨ps, ep, kp⟩ := id rq
    have lp := kp.length
    have b0 := Int.emod_nonneg r (show (13 : Int) ≠ 0 by decide)
    have b1 := Int.emod_lt_of_pos r (show (0 : Int) < 13 by decide)
    have b2 := Int.emod_nonneg (r / 13) (show (4 : Int) ≠ 0 by decide)
    have b3 := Int.emod_lt_of_pos (r / 13) (show (0 : Int) < 4 by decide)
    have f12 := fd12_of (t := r % 13 - 6) (b := 1 + r / 13 % 4) (by (first | lia | omega)) (by (first | lia | omega)) (by (first | lia | omega)) (by (first | lia | omega))
    refine ⟨_, rfl, .inl ⟨rfl, _, SqL.of ep⟩, _, rfl, _, _, rfl, rfl, (by show (0 : Int) < 13; decide), _, _, rfl, rfl, _, rfl, _, _, rfl, rfl, ⟨by decide, bt2 (by decide +kernel)⟩, _, _, rfl, rfl, (by show (0 : Int) < 4; decide), _, _, rfl, rfl, _, _, rfl, by (first | lia | omega), Bt.between (by (first | lia | omega)) (by (first | lia | omega)), fun r2 H2 s2 k2 => ?_⟩
    refine ⟨D, _, _, rfl, rfl, s2 _ _ ep, by rw [List.length_map]; (first | lia | omega), ?_⟩
    refine ⟨_, rfl, _, _, rfl, rfl, ⟨by decide, bt2 (by decide +kernel)⟩, _, rfl, _, _, rfl, rfl, CMul.ok (.inl ⟨by decide, by decide⟩), _, _, rfl, rfl, ⟨_, _, rfl⟩, same_updF (sm.trans s2) hD _, qs ++ [_], ⟨ps ++ [r2], by rw [upd_same]; simp, Paired.imp' (fun p t (z : Pq H2 p t) => z.updL (s2 _ _ ep)) ((Pqs.keep kp s2).append (.cons k2 .nil))⟩, by rw [List.length_append, lq]; rfl, fun x hx => ?_⟩
    rcases List.mem_append.mp hx with z | z
    · exact fq' x z
    · rw [List.mem_singleton.mp z]; exact f12
  · rintro σ H1 ⟨⟨r, k, rfl⟩, sm, qs, rq, lq, fq'⟩
    refine ⟨fun m' σ H' => ∃ qs, m' = qs.length ∧ σ = [some (.int v), some (.int m), some (.int n), some (.int r), some (.ref D), k] ∧ Same H H' ∧ Rw H' D qs ∧ qs.length ≤ m ∧ ∀ q ∈ qs, Fd12 q, ⟨_, qs, rfl, rfl, sm, rq, by (first | lia | omega), fq'⟩, ?_⟩
    rintro m' _ H2 ⟨qs, rfl, rfl, s2, r2, l2, f2⟩
    refine ⟨_, rfl, (by show 0 ≤ sizeLine; decide), fun e he => ?_⟩
    have u := same_upd he (.lst [])
    refine ⟨dr qs, dr [], (r2.keep u).dv, .lst upd_same .nil, Nat.le_trans (depth_dr _) (by decide), _, rfl, ?_⟩
    rw [eqv_dr]
    by_cases h0 : qs = []
    · rw [decide_eq_true h0]
      exact iteF (iteF ⟨_, rfl, q D qs _ (s2.trans u) hD (r2.keep u) l2 f2⟩)
    rw [decide_eq_false h0]
    refine iteT ?_
    have r3 := r2.keep u
    have s3 := s2.trans u
    generalize upd H2 e (.lst []) = H3 at *
    obtain ⟨ps, ep, kp⟩ := id r3
    have lp := kp.length
    have hl : 0 < qs.length := List.length_pos_iff.mpr h0
    have hlast : qs.length - 1 < qs.length := by (first | lia | omega)
    obtain ⟨p1, e1, k1⟩ := kp.get (List.getElem?_eq_getElem hlast)
    have ea : atI (ps.map V.ref) (-1) = some (.ref p1) := by
      rw [← lp] at e1
      exact atI_lastR e1
    refine ⟨_, rfl, _, rfl, D, _, _, _, rfl, rfl, SqL.of ep, ea, _, _, _, _, rfl, rfl, k1.sq, rfl, _, _, .int _, .int _, by simp [PyData.depth], _, rfl, ite2 (fun c => ?_) (fun c => ?_)⟩
    · refine ⟨fun σ' H' => ∃ qs', qs'.length = qs.length - 1 ∧ σ' = [some (.int v), some (.int m), some (.int n), some (.int r), some (.ref D), k] ∧ Same H H' ∧ Rw H' D qs' ∧ qs'.length ≤ m ∧ ∀ q ∈ qs', Fd12 q, fun σ' H' ⟨qs', a, b, c, d, e, f⟩ => ⟨qs'.length, by (first | lia | omega), qs', rfl, b, c, d, e, f⟩, ?_⟩
      refine ⟨_, rfl, .inl ⟨rfl, _, SqL.of ep⟩, D, _, .ref p1, rfl, rfl, ep, ?_, qs.dropLast, List.length_dropLast, rfl, same_updF s3 hD _, Rw.pop ep kp, by rw [List.length_dropLast]; (first | lia | omega), fun x hx => f2 x ((List.dropLast_sublist _).subset hx)⟩
      rw [List.length_map, lp]
      exact e1
    · exact ⟨_, rfl, q D qs _ s3 hD r3 l2 f2⟩

noncomputable def sp_worthG : Sp := fun vs H Q _ => ∃ a p qs x β, vs = [.ref a, .ref p] ∧ Rw H a qs ∧ Pq H p x ∧ qs.length ≤ 60 ∧ (∀ q ∈ qs, Bq β q) ∧ Bq β x ∧ β ≤ 4000 ∧ ∀ r T M H', Same H H' → H' r = some (.tup [.int T, .int M]) → Po.Rep ((2 * β + 1) * qs.length + 1) (Po.ev qs x) T M → 0 < M → Q (.ref r) H'
noncomputable def sp_isR : Sp := fun vs H Q _ => ∃ a b T M T' M' v, vs = [.ref a, .ref b] ∧ H a = some (.tup [.int T, .int M]) ∧ H b = some (.tup [.int T', .int M']) ∧ Po.Rep 500000 v T M ∧ Po.Rep 500000 v T' M' ∧ Q (.bl true) H
theorem rep_self {n : Nat} {v : Rat} (b : Bq n v) : Po.Rep n v v.num v.den := ⟨Int.ne_of_gt (den_pos v), (q_eq v).symm, b.1, b.2⟩
structure Tb32 (tb : List (List (List Rat))) (n : Nat) : Prop where
  mid : ∀ i, (cellQ tb i i).length ≤ 3
  off : ∀ i j, i ≠ j → (cellQ tb i j).length ≤ 2
  fig : ∀ i j, ∀ q ∈ cellQ tb i j, Fd12 q
  far : ∀ i j, i + 1 < j ∨ j + 1 < i → cellQ tb i j = []
noncomputable def sp_table (K : PySem.W.Frag) : Sp := fun vs H Q _ => ∃ (a : Addr) (ns : List Int), vs = [.ref a] ∧ SqL K H a (ns.map V.int) ∧ (∀ n ∈ ns, Bt 1048576 n) ∧ ∀ D rcs tb n H', Same H H' → H D = none → Tab H' D rcs tb n → n ≤ 6 → Tb32 tb n → Q (.ref D) H'
noncomputable def CellOk (i j : Nat) (qs : List Rat) : Prop := (i = j → qs.length ≤ 3) ∧ (i ≠ j → qs.length ≤ 2) ∧ (∀ q ∈ qs, Fd12 q) ∧ (i + 1 < j ∨ j + 1 < i → qs = [])
theorem Rc.updO {H : Hp} {a : Addr} {xs ys : List V} {rc : Addr × List Addr} {row : List (List Rat)} (h : Rc H rc row) (ha : H a = some (.lst xs)) (n : a ∉ rc.1 :: rc.2) : Rc (upd H a (.lst ys)) rc row := by
  refine ⟨?_, ?_⟩
  · rw [upd_ne (fun z => n (by rw [z]; simp))]
    exact h.1
  · exact Rws.updO h.2 ha (fun z => n (List.mem_cons_of_mem _ z))
theorem Rc.fresh {H : Hp} {a : Addr} {rc : Addr × List Addr} {row : List (List Rat)} (h : Rc H rc row) (ha : H a = none) : a ∉ rc.1 :: rc.2 := fun z => by
  rcases List.mem_cons.mp z with z | z
  · rw [z, h.1] at ha
    cases ha
  · obtain ⟨rs, _, k⟩ := paired_left h.2 z
    obtain ⟨xs, e, _⟩ := k.there
    rw [ha] at e
    cases e
structure TbI (H : Hp) (D : Addr) (n i : Nat) (rcs : List (Addr × List Addr)) (tb : List (List (List Rat))) : Prop where
  k : Paired (fun rc row => Rc H rc row ∧ D ∉ rc.1 :: rc.2) rcs tb
  len : tb.length = i
  sq : ∀ row ∈ tb, row.length = n
  ok : ∀ r, r < i → ∀ c, c < n → CellOk r c (cellQ tb r c)
theorem TbI.keep {H H' : Hp} {D : Addr} {n i : Nat} {rcs : List (Addr × List Addr)} {tb : List (List (List Rat))} (h : TbI H D n i rcs tb) (s : Same H H') : TbI H' D n i rcs tb := ⟨Paired.imp' (fun _ _ z => ⟨z.1.keep s, z.2⟩) h.k, h.len, h.sq, h.ok⟩
theorem TbI.upd {H : Hp} {D a : Addr} {n i : Nat} {rcs : List (Addr × List Addr)} {tb : List (List (List Rat))} {xs ys : List V} (h : TbI H D n i rcs tb) (ha : H a = some (.lst xs)) (hn : ∀ rc ∈ rcs, a ∉ rc.1 :: rc.2) : TbI (upd H a (.lst ys)) D n i rcs tb :=
  ⟨paired_imp (fun x y hx z => ⟨Rc.updO z.1 ha (hn x hx), z.2⟩) h.k, h.len, h.sq, h.ok⟩
theorem TbI.fresh {H : Hp} {D a : Addr} {n i : Nat} {rcs : List (Addr × List Addr)} {tb : List (List (List Rat))} (h : TbI H D n i rcs tb) (ha : H a = none) : ∀ rc ∈ rcs, a ∉ rc.1 :: rc.2 := fun rc hrc => by
  obtain ⟨row, _, k⟩ := paired_left h.k hrc
  exact Rc.fresh k.1 ha
theorem getD_out {α : Type} {l : List α} {i : Nat} {d : α} (h : l.length ≤ i) : l.getD i d = d := by
  rw [List.getD_eq_getElem?_getD, List.getElem?_eq_none h]
  rfl
theorem getD_inA {α : Type} {l : List α} {i : Nat} {d : α} (h : i < l.length) : l.getD i d = l[i] := by
  rw [List.getD_eq_getElem?_getD, List.getElem?_eq_getElem h]
  rfl
theorem cellQ_out {tb : List (List (List Rat))} {n i j : Nat} (h1 : tb.length = n) (h2 : ∀ row ∈ tb, row.length = n) (h : ¬ (i < n ∧ j < n)) : cellQ tb i j = [] := by
  unfold cellQ
  by_cases hi : i < n
  · have e := getD_inA (l := tb) (i := i) (d := []) (by (first | lia | omega))
    rw [e]
    have : tb[i].length = n := h2 _ (List.getElem_mem _)
    exact getD_out (by (first | lia | omega))
  · rw [getD_out (l := tb) (by (first | lia | omega))]
    exact getD_out (by simp)
theorem TbI.tab {H : Hp} {D : Addr} {n : Nat} {rcs : List (Addr × List Addr)} {tb : List (List (List Rat))} (h : TbI H D n n rcs tb) (e : H D = some (.lst (rcs.map fun rc => V.ref rc.1))) : Tab H D rcs tb n ∧ Tb32 tb n := by
  have all : ∀ i j, CellOk i j (cellQ tb i j) := fun i j => by
    by_cases hij : i < n ∧ j < n
    · exact h.ok i hij.1 j hij.2
    · rw [cellQ_out h.len h.sq hij]
      exact ⟨fun _ => by simp, fun _ => by simp, fun q hq => absurd hq (by simp), fun _ => rfl⟩
  exact ⟨⟨e, Paired.imp' (fun _ _ z => z.1) h.k, h.len, h.sq⟩, ⟨fun i => (all i i).1 rfl, fun i j hij => (all i j).2.1 hij, fun i j => (all i j).2.2.1, fun i j => (all i j).2.2.2⟩⟩
theorem paired_appA {α β : Type} {R : α → β → Prop} {xs us : List α} {zs vs : List β} (h : Paired R xs zs) (k : Paired R us vs) : Paired R (xs ++ us) (zs ++ vs) := by
  induction h with
  | nil => exact k
  | cons x _ ih => exact .cons x ih
theorem cellQ_snoc {tb : List (List (List Rat))} {row : List (List Rat)} {i : Nat} (h : tb.length = i) (r c : Nat) : cellQ (tb ++ [row]) r c = if r < i then cellQ tb r c else if r = i then row.getD c [] else [] := by
  unfold cellQ
  by_cases h1 : r < i
  · have e : (tb ++ [row]).getD r [] = tb.getD r [] := by
      rw [getD_inA (l := tb ++ [row]) (by rw [List.length_append, List.length_singleton]; (first | lia | omega)), getD_inA (l := tb) (by (first | lia | omega)), List.getElem_append_left]
    rw [if_pos h1, e]
  · rw [if_neg h1]
    by_cases h2 : r = i
    · have e : (tb ++ [row]).getD r [] = row := by
        subst h2
        rw [getD_inA (l := tb ++ [row]) (by rw [List.length_append, List.length_singleton]; (first | lia | omega))]
        simp [h]
      rw [if_pos h2, e]
    · rw [if_neg h2, getD_out (l := tb ++ [row]) (by rw [List.length_append, List.length_singleton]; (first | lia | omega))]
      exact getD_out (by simp)
theorem sc_law_worth : FnScope ["_law_figures_here", "_law_t", "_law_top", "_law_bottom", "_law_figure"] ["_law_figures_here", "_law_t"] (defScope s_law_worth) := ⟨rfl, rfl, rfl, by decide +kernel, rfl, by decide +kernel, by decide +kernel⟩
set_option maxHeartbeats 1000000 in
theorem ok_law_worth (F : Fun K "_law_worth" "_law_worth" s_law_worth f fd) (T : Txt mg) : FnOk P w K mg base CX0 1 f fd ["_law_figures_here", "_law_t"] sp_worthG := by
  refine F.ok sc_law_worth (fun vs H Q E h => ?_) (fun cdv A outer s H vs Q E hr h => ?_)
  · obtain ⟨a, p, qs, x, β, rfl, _⟩ := h
    rfl
  obtain ⟨a, pn, ds, x, β, rfl, ⟨pd, ed, kd⟩, kx, l5, b5, bx, hbg, q⟩ := h
  have ld := kd.length
  refine ⟨_, (pss_cons (ps_set (i := 2) sc_law_worth.nd rfl (Or.inl rfl) pe_int)
      (pss_cons (ps_set (i := 3) sc_law_worth.nd rfl (Or.inl rfl) pe_int)
      (pss_cons (ps_for PassesOwn.never rfl (pi_rev rfl T.z_reversed (pa_cons (pv 0) pa_nil)) (pg_name (i := 4) sc_law_worth.nd rfl (Or.inl rfl))
        (pss_cons (ps_set (i := 2) sc_law_worth.nd rfl (Or.inl rfl) (pe_op op_add (pe_op op_mulB (pe_op op_mulB (pv 2) (pe_ix ix_tup (pv 1) pe_int (fun _ _ => rfl))) (pe_ix ix_tup (pv 4) pe_int (fun _ _ => rfl))) (pe_op op_mulB (pe_op op_mulB (pe_ix ix_tup (pv 4) pe_int (fun _ _ => rfl)) (pv 3)) (pe_ix ix_tup (pv 1) pe_int (fun _ _ => rfl)))))
        (pss_one (ps_set (i := 3) sc_law_worth.nd rfl (Or.inl rfl) (pe_op op_mulB (pe_op op_mulB (pv 3) (pe_ix ix_tup (pv 1) pe_int (fun _ _ => rfl))) (pe_ix ix_tup (pv 4) pe_int (fun _ _ => rfl)))))))
      (pss_one (ps_ret (pe_tup (pa_cons (pv 2) (pa_cons (pv 3) pa_nil)))))))), ?_⟩
  refine ⟨_, rfl, a, _, rfl, SqL.of ed, ?_⟩
  refine for_rev (xs := pd.map V.ref) (fun i σ H' => H = H' ∧ ∃ Tp M v, σ = [some (.ref a), some (.ref pn), some (.int Tp), some (.int M), v] ∧ Po.Rep ((2 * β + 1) * i + 1) (Po.ev (ds.drop (ds.length - i)) x) Tp M ∧ 0 < M) ⟨rfl, 0, 1, _, rfl, ?_⟩ ?_ ?_ ?_
  · rw [Nat.sub_zero, List.drop_length]
    exact ⟨Po.Rep.zero (by (first | lia | omega)), by decide⟩
  · rintro i σ _ _ ⟨rfl, _⟩
    exact SqL.of ed
  · rintro i y σ _ hy ⟨rfl, Tp, M, v, rfl, rep, mp⟩
    have hi : i < ds.length := by
      have h := (List.getElem?_eq_some_iff.mp hy).1
      rw [List.length_reverse, List.length_map] at h
      (first | lia | omega)
    have hi2 : ds.length - 1 - i < ds.length := by (first | lia | omega)
    have eq : ds[ds.length - 1 - i]? = some ds[ds.length - 1 - i] := List.getElem?_eq_getElem hi2
    obtain ⟨p1, e1, k1⟩ := kd.get eq
    obtain rfl : y = .ref p1 := by
      rw [List.getElem?_reverse (by rw [List.length_map]; (first | lia | omega)), List.length_map, ld] at hy
      rw [hy] at e1
      exact Option.some.inj e1
    have bqi := b5 _ (List.getElem_mem hi2)
    have st := rep.step bx bqi
    have hb1 : (2 * β + 1) * i ≤ 8001 * 60 := Nat.mul_le_mul (by (first | lia | omega)) (by (first | lia | omega))
    have hb2 : (2 * β + 1) * (i + 1) = (2 * β + 1) * i + (2 * β + 1) := Nat.mul_succ _ _
    have e2 := Po.ev_snocs ds x i hi
    rw [List.getD_eq_getElem?_getD, eq] at e2
    have e3 : (some ds[ds.length - 1 - i]).getD 0 = ds[ds.length - 1 - i] := rfl
    rw [e3] at e2
    rw [← e2] at st
    obtain ⟨_, _, bT, bM⟩ := rep
    refine ⟨_, rfl, _, rfl, _, _, _, _, rfl, rfl, kx.sq, rfl, _, _, rfl, rfl, mul_of bT bx.1 (by (first | lia | omega)), _, rfl, _, _, _, _, rfl, rfl, k1.sq, rfl, _, _, rfl, rfl, mul_of (bT.mul bx.1) bqi.2 (by (first | lia | omega)), _, rfl, _, _, _, _, rfl, rfl, k1.sq, rfl, _, rfl, _, _, rfl, rfl, mul_of bqi.1 bM (by (first | lia | omega)), _, rfl, _, _, _, _, rfl, rfl, kx.sq, rfl, _, _, rfl, rfl, mul_of (bqi.1.mul bM) bx.2 (by (first | lia | omega)), _, _, rfl, rfl, ?_⟩
    exact ⟨_, rfl, _, rfl, _, _, _, _, rfl, rfl, kx.sq, rfl, _, _, rfl, rfl, mul_of bM bx.2 (by (first | lia | omega)), _, rfl, _, _, _, _, rfl, rfl, k1.sq, rfl, _, _, rfl, rfl, mul_of (bM.mul bx.2) bqi.2 (by (first | lia | omega)), rfl, _, _, _, rfl, st.mono (by (first | lia | omega)), Int.mul_pos (Int.mul_pos mp (den_pos x)) (den_pos _)⟩
  · rintro σ _ ⟨rfl, Tp, M, v, rfl, rep, mp⟩
    rw [List.length_map, ld, Nat.sub_self, List.drop_zero] at rep
    exact ⟨_, rfl, _, rfl, (by show 2 ≤ sizeLine; decide), fun r hr' => q r Tp M _ (same_upd hr' _) upd_same rep mp⟩
theorem sc_law_is : FnScope ["_law_one", "_law_due"] ["_law_one", "_law_due"] (defScope s_law_is) := ⟨rfl, rfl, rfl, by decide +kernel, rfl, by decide +kernel, by decide +kernel⟩
theorem ok_law_is (F : Fun K "_law_is" "_law_is" s_law_is f fd) (T : Txt mg) : FnOk P w K mg base CX0 1 f fd ["_law_one", "_law_due"] sp_isR := by
  refine F.ok sc_law_is (fun vs H Q E h => ?_) (fun cdv A outer s H vs Q E hr h => ?_)
  · obtain ⟨a, b, Tp, M, Tq, M', v, rfl, _⟩ := h
    rfl
  obtain ⟨a, b, Tp, M, Tq, M', v, rfl, ea, eb, rep, rep', q⟩ := h
  have eq := rep.same rep' rfl
  obtain ⟨_, _, bT, bM⟩ := rep
  obtain ⟨_, _, bT', bM'⟩ := rep'
  refine ⟨_, (pss_one (ps_ret (pe_cmpR op_eq (pe_op op_mulB (pe_ix ix_tup (pv 0) pe_int (fun _ _ => rfl)) (pe_ix ix_tup (pv 1) pe_int (fun _ _ => rfl))) (pe_op op_mulB (pe_ix ix_tup (pv 1) pe_int (fun _ _ => rfl)) (pe_ix ix_tup (pv 0) pe_int (fun _ _ => rfl))) (nomark _)))), ?_⟩
  refine ⟨_, rfl, a, _, _, _, rfl, rfl, SqT.of ea, rfl, _, rfl, b, _, _, _, rfl, rfl, SqT.of eb, rfl, _, _, rfl, rfl, mul_of bT bM' (by decide), _, rfl, b, _, _, _, rfl, rfl, SqT.of eb, rfl, _, rfl, a, _, _, _, rfl, rfl, SqT.of ea, rfl, _, _, rfl, rfl, mul_of bT' bM (by decide), rfl, ?_⟩
  rw [decide_eq_true (congrArg V.int eq)]
  exact q
theorem sc_law_table_by : FnScope ["_law_script", "_law_many", "_law_xs", "_law_table", "_law_one", "_law_row", "_law_other", "_law_figures_here"] ["_law_script"] (defScope s_law_table_by) := ⟨rfl, rfl, rfl, by decide +kernel, rfl, by decide +kernel, by decide +kernel⟩
set_option maxHeartbeats 4000000 in
theorem ok_law_table_by (F : Fun K "_law_table_by" "_law_table_by" s_law_table_by f fd) (T : Txt mg) (C_law_cell_at : Cal P w K mg base "_law_cell_at" 1 ["_law_script", "_law_k"] (sp_cell0 K)) (C_law_numbers : Cal P w K mg base "_law_numbers" 1 ["_law_cell", "_law_many"] sp_numbers) (C_law_figures : Cal P w K mg base "_law_figures" 3 ["_law_v", "_law_most"] sp_figs32) : FnOk P w K mg base CX0 4 f fd ["_law_script"] (sp_table K) := by
  refine F.ok sc_law_table_by (fun vs H Q E h => ?_) (fun cdv A outer s H vs Q E hr h => ?_)
  · obtain ⟨a, ns, rfl, _⟩ := h
    rfl
  obtain ⟨a, ns, rfl, hS, hns, q⟩ := h
  have hz : (1000 : Nat) < sizeLine := by decide
  refine ⟨_, (pss_cons (ps_set (i := 1) sc_law_table_by.nd rfl (Or.inl rfl) (pe_op op_mod (pe_cl C_law_cell_at hr (pa_cons (pv 0) (pa_cons pe_int pa_nil))) pe_int))
      (pss_cons (ps_cut (ps_if (pt_cmpR op_eq (pe_op op_mod (pe_op op_fdP (pe_cl C_law_cell_at hr (pa_cons (pv 0) (pa_cons pe_int pa_nil))) pe_int) pe_int) pe_int (nomark _))
        (pss_one (ps_set (i := 1) sc_law_table_by.nd rfl (Or.inl rfl) (pe_op op_mod (pe_op op_fdP (pe_cl C_law_cell_at hr (pa_cons (pv 0) (pa_cons pe_int pa_nil))) pe_int) pe_int)))
        pss_nil))
      (pss_cons (ps_set (i := 2) sc_law_table_by.nd rfl (Or.inl rfl) (pe_cl C_law_numbers hr (pa_cons (pe_cl C_law_cell_at hr (pa_cons (pv 0) (pa_cons pe_int pa_nil))) (pa_cons (pe_op op_mulB pe_int (pv 1)) pa_nil))))
      (pss_cons (ps_set (i := 3) sc_law_table_by.nd rfl (Or.inl rfl) (pe_lst pa_nil))
      (pss_cons (ps_for PassesOwn.never rfl (pi_range1 rfl T.z_range (pa_cons (pv 1) pa_nil)) (pg_name (i := 4) sc_law_table_by.nd rfl (Or.inl rfl))
        (pss_cons (ps_set (i := 5) sc_law_table_by.nd rfl (Or.inl rfl) (pe_lst pa_nil))
        (pss_cons (ps_for PassesOwn.never rfl (pi_range1 rfl T.z_range (pa_cons (pv 1) pa_nil)) (pg_name (i := 6) sc_law_table_by.nd rfl (Or.inl rfl))
          (pss_cons (ps_set (i := 7) sc_law_table_by.nd rfl (Or.inl rfl) (pe_lst pa_nil))
          (pss_cons (ps_cut (ps_if (pt_cmpR op_eq (pv 4) (pv 6) (nomark _))
            (pss_one (ps_set (i := 7) sc_law_table_by.nd rfl (Or.inl rfl) (pe_cl C_law_figures hr (pa_cons (pe_ix ix_list (pv 2) (pv 4) (fun _ _ => rfl)) (pa_cons pe_int pa_nil)))))
            pss_nil))
          (pss_cons (ps_cut (ps_if (pt_cmpR op_eq (pe_op op_add (pv 4) pe_int) (pv 6) (nomark _))
            (pss_one (ps_set (i := 7) sc_law_table_by.nd rfl (Or.inl rfl) (pe_cl C_law_figures hr (pa_cons (pe_ix ix_list (pv 2) (pe_op op_add (pv 1) (pv 4)) (fun _ _ => rfl)) (pa_cons pe_int pa_nil)))))
            pss_nil))
          (pss_cons (ps_cut (ps_if (pt_cmpR op_eq (pe_op op_add (pv 6) pe_int) (pv 4) (nomark _))
            (pss_one (ps_set (i := 7) sc_law_table_by.nd rfl (Or.inl rfl) (pe_cl C_law_figures hr (pa_cons (pe_ix ix_list (pv 2) (pe_op op_add (pe_op op_mulB pe_int (pv 1)) (pv 6)) (fun _ _ => rfl)) (pa_cons pe_int pa_nil)))))
            pss_nil))
          (pss_one (ps_expr (pe_bm PySem.F.plainAttrs_list PySem.F.slot_list_append PySem.F.type_list_append mt_append (pv 5) (pa_cons (pv 7) pa_nil)))))))))
        (pss_one (ps_expr (pe_bm PySem.F.plainAttrs_list PySem.F.slot_list_append PySem.F.type_list_append mt_append (pv 3) (pa_cons (pv 5) pa_nil)))))))
      (pss_one (ps_ret (pv 3)))))))), ?_⟩
  refine ⟨_, rfl, a, ns, 0, rfl, hS, _, _, rfl, rfl, (by show (0 : Int) < 5; decide), ?_⟩
  refine ⟨fun σ' H' => ∃ n : Nat, n ≤ 6 ∧ σ' = [some (.ref a), some (.int n), none, none, none, none, none, none] ∧ H = H', ?tl, ?hd⟩
  case hd =>
    have g0 := Int.emod_nonneg (cell0 ns 0) (show (5 : Int) ≠ 0 by decide)
    have g1 := Int.emod_lt_of_pos (cell0 ns 0) (show (0 : Int) < 5 by decide)
    have g2 := Int.emod_nonneg (cell0 ns 0 / 40) (show (7 : Int) ≠ 0 by decide)
    have g3 := Int.emod_lt_of_pos (cell0 ns 0 / 40) (show (0 : Int) < 7 by decide)
    refine ⟨_, rfl, a, ns, 0, rfl, hS, _, _, rfl, rfl, ⟨by decide, bt2 (by decide +kernel)⟩, _, _, rfl, rfl, (by show (0 : Int) < 8; decide), rfl, _, rfl, ite2 (fun _ => ?_) (fun _ => ?_)⟩
    · refine ⟨_, rfl, a, ns, 0, rfl, hS, _, _, rfl, rfl, ⟨by decide, bt2 (by decide +kernel)⟩, _, _, rfl, rfl, (by show (0 : Int) < 7; decide), (cell0 ns 0 / 40 % 7).toNat, by (first | lia | omega), ?_, rfl⟩
      have e : (((cell0 ns 0 / 40 % 7).toNat : Nat) : Int) = cell0 ns 0 / 40 % 7 := by (first | lia | omega)
      rw [e]
      rfl
    · refine ⟨(cell0 ns 0 % 5).toNat, by (first | lia | omega), ?_, rfl⟩
      have e : (((cell0 ns 0 % 5).toNat : Nat) : Int) = cell0 ns 0 % 5 := by (first | lia | omega)
      rw [e]
      rfl
  rintro _ _ ⟨n, hn, rfl, rfl⟩
  refine ⟨_, rfl, a, ns, 1, rfl, hS, _, rfl, _, _, rfl, rfl, CMul.ok (.inl ⟨by decide, by decide⟩), _, 3 * n, (by show [V.int (cell0 ns 1), V.int (3 * (n : Int))] = _; rw [show (3 * (n : Int)) = ((3 * n : Nat) : Int) by (first | lia | omega)]), by (first | lia | omega), fun xa xs H1 s1 nx ex lx hx => ?_⟩
  refine ⟨(by show 0 ≤ sizeLine; decide), fun D hD => ?_⟩
  have s2 := s1.trans (same_upd hD (.lst []))
  have hDH : H D = none := s1.free hD
  have ex2 := (same_upd hD (.lst [])) _ _ ex
  refine ⟨_, rfl, _, rfl, by (first | lia | omega), by (first | lia | omega), ?_⟩
  rw [Int.toNat_natCast]
  refine for_range (n := n) (fun i σ H' => (∃ v1 v2 v3 v4, σ = [some (.ref a), some (.int n), some (.ref xa), some (.ref D), v1, v2, v3, v4]) ∧ Same H H' ∧ H' xa = some (.lst (xs.map V.int)) ∧ xa ≠ D ∧ ∃ rcs tb, H' D = some (.lst (rcs.map fun rc => V.ref rc.1)) ∧ TbI H' D n i rcs tb) ⟨⟨_, _, _, _, rfl⟩, s2, ex2, ne_of_none ex hD, [], [], upd_same, .nil, rfl, fun row h => absurd h (by simp), fun r h => absurd h (by (first | lia | omega))⟩ ?_ ?_
  · rintro i σ H3 hi ⟨⟨v1, v2, v3, v4, rfl⟩, s3, ex3, nxD, rcs, tb, eD, ti⟩
    have lr : rcs.length = i := by rw [Paired.length ti.k, ti.len]
    refine ⟨(by show 0 ≤ sizeLine; decide), fun R hR => ?_⟩
    have uR := same_upd hR (.lst [])
    have nDR : D ≠ R := ne_of_none eD hR
    have nxR : xa ≠ R := ne_of_none ex3 hR
    have frR := ti.fresh hR
    refine ⟨_, rfl, _, rfl, by (first | lia | omega), by (first | lia | omega), ?_⟩
    rw [Int.toNat_natCast]
    refine for_range (n := n) (fun j σ H' => (∃ v3 v4, σ = [some (.ref a), some (.int n), some (.ref xa), some (.ref D), some (.int (0 + (i : Int))), some (.ref R), v3, v4]) ∧ Same H H' ∧ H' xa = some (.lst (xs.map V.int)) ∧ H' D = some (.lst (rcs.map fun rc => V.ref rc.1)) ∧ TbI H' D n i rcs tb ∧ ∃ cs row, H' R = some (.lst (cs.map V.ref)) ∧ Paired (Rw H') cs row ∧ R ∉ cs ∧ D ∉ cs ∧ row.length = j ∧ ∀ c, c < j → CellOk i c (row.getD c []))
      ⟨⟨_, _, rfl⟩, s3.trans uR, uR _ _ ex3, uR _ _ eD, ti.keep uR, [], [], upd_same, .nil, by simp, by simp, rfl, fun c h => absurd h (by (first | lia | omega))⟩ ?_ ?_
    · rintro j σ H4 hj ⟨⟨v3, v4, rfl⟩, s4, ex4, eD4, ti4, cs, row, eR, kc, nRc, nDc, lrow, okc⟩
      have lcs := Paired.length kc
      have hRH : H R = none := s3.free hR
      refine ⟨(by show 0 ≤ sizeLine; decide), fun e0 he0 => ?_⟩
      have u0 := same_upd he0 (.lst [])
      have ix : ∀ {k : Nat}, k < 3 * n → ∃ z, (xs.map V.int)[k]? = some (.int z) := fun {k} hk => ⟨xs[k], by rw [List.getElem?_map, List.getElem?_eq_getElem (by (first | lia | omega))]; rfl⟩
      refine ⟨fun σ' H' => ∃ fa qs, σ' = [some (.ref a), some (.int n), some (.ref xa), some (.ref D), some (.int (0 + (i : Int))), some (.ref R), some (.int (0 + (j : Int))), some (.ref fa)] ∧ Same H4 H' ∧ H4 fa = none ∧ Rw H' fa qs ∧ (i ≠ j → qs = []) ∧ qs.length ≤ 3 ∧ ∀ q ∈ qs, Fd12 q, ?tl1, ?hd1⟩
      case hd1 =>
        refine ⟨_, rfl, _, rfl, rfl, _, rfl, ite2 (fun c => ?_) (fun c => ?_)⟩
        · have hij : i = j := by
            have := V.int.inj (of_decide_eq_true c)
            (first | lia | omega)
          obtain ⟨z, ez⟩ := ix (k := i) (by (first | lia | omega))
          refine ⟨_, rfl, _, rfl, xa, _, _, _, rfl, rfl, SqL.of (u0 _ _ ex4), atI_0 ez, _, 3, rfl, by decide, fun fa qs H5 s5 n5 r5 l5 f5 => ⟨fa, qs, rfl, u0.trans s5, u0.free n5, r5, fun z => absurd hij z, l5, f5⟩⟩
        · exact ⟨e0, [], rfl, u0, he0, ⟨[], upd_same, .nil⟩, fun _ => rfl, by simp, fun q h => absurd h (by simp)⟩
      rintro _ H5 ⟨f1, q1, rfl, s5, n5, r5, e5, l5, g5⟩
      refine ⟨fun σ' H' => ∃ fa qs, σ' = [some (.ref a), some (.int n), some (.ref xa), some (.ref D), some (.int (0 + (i : Int))), some (.ref R), some (.int (0 + (j : Int))), some (.ref fa)] ∧ Same H4 H' ∧ H4 fa = none ∧ Rw H' fa qs ∧ (i ≠ j ∧ i + 1 ≠ j → qs = []) ∧ (i = j → qs.length ≤ 3) ∧ (i ≠ j → qs.length ≤ 2) ∧ ∀ q ∈ qs, Fd12 q, ?tl2, ?hd2⟩
      case hd2 =>
        refine ⟨_, rfl, _, _, rfl, rfl, _, rfl, rfl, _, rfl, ite2 (fun c => ?_) (fun c => ?_)⟩
        · have hij : i + 1 = j := by
            have := V.int.inj (of_decide_eq_true c)
            (first | lia | omega)
          obtain ⟨z, ez⟩ := ix (k := n + i) (by (first | lia | omega))
          have ea : atI (xs.map V.int) ((n : Int) + (0 + (i : Int))) = some (.int z) := by
            rw [show (n : Int) + (0 + (i : Int)) = ((n + i : Nat) : Int) by (first | lia | omega)]
            exact atI_nat ez
          refine ⟨_, rfl, _, rfl, _, rfl, _, _, rfl, rfl, xa, _, _, _, rfl, rfl, SqL.of (s5 _ _ ex4), ea, _, 2, rfl, by decide, fun fa qs H6 s6 n6 r6 l6 f6 => ⟨fa, qs, rfl, s5.trans s6, s5.free n6, r6, fun z => absurd hij z.2, fun z => by (first | lia | omega), fun _ => l6, f6⟩⟩
        · refine ⟨f1, q1, rfl, s5, n5, r5, fun z => e5 z.1, fun _ => l5, fun z => ?_, g5⟩
          rw [e5 z]
          simp
      rintro _ H6 ⟨f2, q2, rfl, s6, n6, r6, e6, l6, l6', g6⟩
      refine ⟨fun σ' H' => ∃ fa qs, σ' = [some (.ref a), some (.int n), some (.ref xa), some (.ref D), some (.int (0 + (i : Int))), some (.ref R), some (.int (0 + (j : Int))), some (.ref fa)] ∧ Same H4 H' ∧ H4 fa = none ∧ Rw H' fa qs ∧ CellOk i j qs, ?tl3, ?hd3⟩
      case hd3 =>
        refine ⟨_, rfl, _, _, rfl, rfl, _, rfl, rfl, _, rfl, ite2 (fun c => ?_) (fun c => ?_)⟩
        · have hij : j + 1 = i := by
            have := V.int.inj (of_decide_eq_true c)
            (first | lia | omega)
          obtain ⟨z, ez⟩ := ix (k := 2 * n + j) (by (first | lia | omega))
          have ea : atI (xs.map V.int) (2 * (n : Int) + (0 + (j : Int))) = some (.int z) := by
            rw [show 2 * (n : Int) + (0 + (j : Int)) = ((2 * n + j : Nat) : Int) by (first | lia | omega)]
            exact atI_nat ez
          refine ⟨_, rfl, _, rfl, _, _, rfl, rfl, CMul.ok (.inl ⟨by decide, by decide⟩), _, rfl, _, _, rfl, rfl, xa, _, _, _, rfl, rfl, SqL.of (s6 _ _ ex4), ea, _, 2, rfl, by decide, fun fa qs H7 s7 n7 r7 l7 f7 => ⟨fa, qs, rfl, s6.trans s7, s6.free n7, r7, fun z => by (first | lia | omega), fun _ => l7, f7, fun z => by (first | lia | omega)⟩⟩
        · exact ⟨f2, q2, rfl, s6, n6, r6, l6, l6', g6, fun z => e6 (by (first | lia | omega))⟩
      rintro _ H7 ⟨fa, qs, rfl, s7, n7, r7, ok7⟩
      have eR7 := s7 _ _ eR
      have nfR : fa ≠ R := fun z => by rw [z, eR] at n7; cases n7
      have nfD : fa ≠ D := fun z => by rw [z, eD4] at n7; cases n7
      have frR4 : ∀ rc ∈ rcs, R ∉ rc.1 :: rc.2 := frR
      refine ⟨_, rfl, .inl ⟨rfl, _, SqL.of eR7⟩, _, rfl, R, _, _, rfl, rfl, eR7, by rw [List.length_map]; (first | lia | omega), ?_⟩
      refine ⟨⟨_, _, rfl⟩, same_updF (s4.trans s7) hRH _, by rw [upd_ne nxR]; exact s7 _ _ ex4, by rw [upd_ne nDR]; exact s7 _ _ eD4, (ti4.keep s7).upd eR7 frR4, cs ++ [fa], row ++ [qs], by rw [upd_same, List.map_append]; rfl, ?_, fun z => ?_, fun z => ?_, by rw [List.length_append, lrow]; rfl, fun c hc => ?_⟩
      · exact paired_appA (Rws.updO (Rws.keep kc s7) eR7 nRc) (.cons (r7.updO eR7 nfR) .nil)
      · rcases List.mem_append.mp z with z | z
        · exact nRc z
        · exact nfR (List.mem_singleton.mp z).symm
      · rcases List.mem_append.mp z with z | z
        · exact nDc z
        · exact nfD (List.mem_singleton.mp z).symm
      · by_cases hcj : c < j
        · rw [getD_inA (l := row ++ [qs]) (by rw [List.length_append, List.length_singleton]; (first | lia | omega)), List.getElem_append_left (by (first | lia | omega)), ← getD_inA (d := [])]
          exact okc c hcj
        · have : c = j := by (first | lia | omega)
          subst this
          rw [getD_inA (l := row ++ [qs]) (by rw [List.length_append, List.length_singleton]; (first | lia | omega))]
          simp [lrow]
          exact ok7
    · rintro σ H4 ⟨⟨v3, v4, rfl⟩, s4, ex4, eD4, ti4, cs, row, eR, kc, nRc, nDc, lrow, okc⟩
      refine ⟨_, rfl, .inl ⟨rfl, _, SqL.of eD4⟩, _, rfl, D, _, _, rfl, rfl, eD4, by rw [List.length_map]; (first | lia | omega), ?_⟩
      refine ⟨⟨_, _, _, _, rfl⟩, same_updF s4 hDH _, by rw [upd_ne nxD]; exact ex4, nxD, rcs ++ [(R, cs)], tb ++ [row], by rw [upd_same, List.map_append]; rfl, ?_⟩
      have nD2 : D ∉ R :: cs := fun z => by
        rcases List.mem_cons.mp z with z | z
        · exact nDR z
        · exact nDc z
      refine ⟨paired_appA (ti4.upd eD4 fun rc hrc => ?_).k (.cons ⟨Rc.updO (show Rc H4 (R, cs) row from ⟨eR, kc⟩) eD4 nD2, nD2⟩ .nil), by rw [List.length_append, ti4.len]; rfl, fun r hr' => ?_, fun r hr' c hc => ?_⟩
      · obtain ⟨_, _, z⟩ := paired_left ti4.k hrc
        exact z.2
      · rcases List.mem_append.mp hr' with z | z
        · exact ti4.sq r z
        · rw [List.mem_singleton.mp z]; exact lrow
      · rw [cellQ_snoc ti4.len]
        by_cases hri : r < i
        · rw [if_pos hri]
          exact ti4.ok r hri c hc
        · have : r = i := by (first | lia | omega)
          subst this
          rw [if_neg hri, if_pos rfl]
          exact okc c (by (first | lia | omega))
  · rintro σ H3 ⟨⟨v1, v2, v3, v4, rfl⟩, s3, ex3, nxD, rcs, tb, eD, ti⟩
    obtain ⟨t1, t2⟩ := ti.tab eD
    exact ⟨_, rfl, q D rcs tb n H3 s3 hDH t1 hn t2⟩

noncomputable def kk (ks : List Nat) : List Key := ks.map fun (n : Nat) => (Sum.inl (n : Int) : Key)
theorem kk_kV (ks : List Nat) : (kk ks).map kV = (ks.map fun (n : Nat) => (n : Int)).map V.int := by
  unfold kk
  rw [List.map_map, List.map_map]
  rfl
theorem kk_inj : ∀ {a b : List Nat}, kk a = kk b → a = b
  | [], [], _ => rfl
  | [], _ :: _, h => by cases h
  | _ :: _, [], h => by cases h
  | x :: a, y :: b, h => by
    have h' : (Sum.inl (x : Int) : Key) :: kk a = Sum.inl (y : Int) :: kk b := h
    injection h' with h1 h2
    have : (x : Int) = y := by injection h1
    rw [show x = y by (first | lia | omega), kk_inj h2]
theorem valV_none {kvs : List (List Key × V)} {k : List Key} (h : k ∉ kvs.map (·.1)) : valV kvs k = none := by
  induction kvs with
  | nil => rfl
  | cons p r ih =>
    rw [valV_neg (fun z => h (by rw [List.map_cons, z]; simp))]
    exact ih fun z => h (by rw [List.map_cons]; exact List.mem_cons_of_mem _ z)
theorem valV_some {kvs : List (List Key × V)} {k : List Key} (h : k ∈ kvs.map (·.1)) : ∃ v, valV kvs k = some v := by
  induction kvs with
  | nil => simp at h
  | cons p r ih =>
    by_cases e : p.1 = k
    · exact ⟨_, valV_pos e⟩
    · rw [valV_neg e]
      refine ih ?_
      rw [List.map_cons] at h
      rcases List.mem_cons.mp h with z | z
      · exact absurd z.symm e
      · exact z
theorem keys_put1 {kvs : List (List Key × V)} {k : List Key} (v : V) (h : k ∈ kvs.map (·.1)) : (putK kvs k v).map (·.1) = kvs.map (·.1) := by
  unfold putK
  rw [valV_any]
  obtain ⟨x, e⟩ := valV_some h
  rw [e, if_pos (show (some x).isSome = true from rfl), List.map_map]
  exact List.map_congr_left fun p _ => by
    show (if p.1 = k then (p.1, v) else p).1 = p.1
    split <;> rfl
theorem keys_put0 {kvs : List (List Key × V)} {k : List Key} (v : V) (h : k ∉ kvs.map (·.1)) : (putK kvs k v).map (·.1) = kvs.map (·.1) ++ [k] := by
  rw [putK_new v (valV_none h), List.map_append]
  rfl
theorem add_frac (q : Rat) (top : Int) {bot : Int} (hb : 0 < bot) : q + (top : Rat) / (bot : Rat) = ((q.num * bot + top * q.den : Int) : Rat) / (((q.den : Int) * bot : Int) : Rat) := by
  have d0 := Po.cast_ne (Int.ne_of_gt (den_pos q))
  have hb' := Po.cast_ne (Int.ne_of_gt hb)
  have eq := q_eq q
  rw [Rat.intCast_add, Rat.intCast_mul, Rat.intCast_mul, Rat.intCast_mul, Rat.div_def, Rat.div_def]
  rw [Rat.div_def] at eq
  have h1 := Rat.mul_inv_cancel _ d0
  have h2 := Rat.mul_inv_cancel _ hb'
  have h3 := Rat.mul_inv_cancel _ (show ((q.den : Int) : Rat) * (bot : Rat) ≠ 0 from fun z => by
    rcases Rat.mul_eq_zero.mp z with z | z
    · exact d0 z
    · exact hb' z)
  generalize ((q.den : Int) : Rat)⁻¹ = i1 at *
  generalize (bot : Rat)⁻¹ = i2 at *
  generalize (((q.den : Int) : Rat) * (bot : Rat))⁻¹ = i3 at *
  generalize ((q.den : Int) : Rat) = d at *
  generalize (q.num : Rat) = n at *
  grind
structure Dm (H : Hp) (kvs : List (List Key × V)) (L : List (List Nat)) (f : List Nat → Rat) : Prop where
  keys : kvs.map (·.1) = L.map kk
  nd : L.Nodup
  val : ∀ ks ∈ L, ∃ a, valV kvs (kk ks) = some (.ref a) ∧ Pq H a (f ks)
  out : ∀ ks, ks ∉ L → f ks = 0
theorem Dm.keep {H H' : Hp} {kvs : List (List Key × V)} {L : List (List Nat)} {f : List Nat → Rat} (d : Dm H kvs L f) (s : Same H H') : Dm H' kvs L f := ⟨d.keys, d.nd, fun ks h => by
  obtain ⟨a, e, k⟩ := d.val ks h
  exact ⟨a, e, k.keep s⟩, d.out⟩
theorem Dm.mem {H : Hp} {kvs : List (List Key × V)} {L : List (List Nat)} {f : List Nat → Rat} (d : Dm H kvs L f) {ks : List Nat} : kk ks ∈ kvs.map (·.1) ↔ ks ∈ L := by
  rw [d.keys]
  constructor
  · intro h
    obtain ⟨k', h', e⟩ := List.mem_map.mp h
    rw [← kk_inj e]
    exact h'
  · exact fun h => List.mem_map.mpr ⟨ks, h, rfl⟩
theorem Dm.updD {H : Hp} {kvs : List (List Key × V)} {L : List (List Nat)} {f : List Nat → Rat} {w : Addr} {o : HO} (d : Dm H kvs L f) (hw : ∀ xs, H w ≠ some (.tup xs)) : Dm (upd H w o) kvs L f := ⟨d.keys, d.nd, fun ks h => by
  obtain ⟨a, e, k⟩ := d.val ks h
  refine ⟨a, e, ?_⟩
  show upd H w o a = _
  rw [upd_ne (fun z => hw _ (by rw [← z]; exact k))]
  exact k, d.out⟩
theorem Dm.put {H : Hp} {kvs : List (List Key × V)} {L : List (List Nat)} {f : List Nat → Rat} (d : Dm H kvs L f) {ks : List Nat} {a : Addr} {q : Rat} (ka : Pq H a q) : Dm H (putK kvs (kk ks) (.ref a)) (if ks ∈ L then L else L ++ [ks]) (fun k => if k = ks then q else f k) := by
  refine ⟨?_, ?_, fun k hk => ?_, fun k hk => ?_⟩
  · by_cases h : ks ∈ L
    · rw [keys_put1 _ (d.mem.mpr h), if_pos h, d.keys]
    · rw [keys_put0 _ (fun z => h (d.mem.mp z)), if_neg h, d.keys, List.map_append]
      rfl
  · by_cases h : ks ∈ L
    · rw [if_pos h]; exact d.nd
    · rw [if_neg h]
      exact List.nodup_append.mpr ⟨d.nd, by simp, fun x hx y hy z => h (by
        have := List.mem_singleton.mp hy
        rw [← this, ← z]
        exact hx)⟩
  · rw [valV_put]
    by_cases e : k = ks
    · exact ⟨a, by rw [if_pos (by rw [e])], by rw [if_pos e]; exact ka⟩
    · have hk' : k ∈ L := by
        by_cases h : ks ∈ L
        · rw [if_pos h] at hk; exact hk
        · rw [if_neg h] at hk
          rcases List.mem_append.mp hk with z | z
          · exact z
          · exact absurd (List.mem_singleton.mp z) e
      obtain ⟨b, e1, k1⟩ := d.val k hk'
      exact ⟨b, by rw [if_neg (fun z => e (kk_inj z))]; exact e1, by rw [if_neg e]; exact k1⟩
  · have n1 : k ∉ L := fun z => hk (by split <;> simp [z])
    have n2 : k ≠ ks := fun z => hk (by
      by_cases h : ks ∈ L
      · rw [if_pos h, z]; exact h
      · rw [if_neg h, z]; simp)
    rw [if_neg n2]
    exact d.out k n1
theorem Dm.len {H : Hp} {kvs : List (List Key × V)} {L : List (List Nat)} {f : List Nat → Rat} (d : Dm H kvs L f) : kvs.length = L.length := by
  have := congrArg List.length d.keys
  rw [List.length_map, List.length_map] at this
  exact this
noncomputable def sp_added : Sp := fun vs H Q _ => ∃ (m tk : Addr) (kvs : List (List Key × V)) (ks : List Nat) (L : List (List Nat)) (f : List Nat → Rat) (top bot : Int), vs = [.ref m, .ref tk, .int top, .int bot] ∧ H m = some (.dT kvs) ∧ H tk = some (.tup ((kk ks).map kV)) ∧ Dm H kvs L f ∧ kvs.length < 10000 ∧ Bq 1000 (f ks) ∧ Bt 1000 top ∧ Bt 1000 bot ∧ 0 < bot ∧
  ∀ a H1, Same H H1 → Pq H1 a (f ks + (top : Rat) / (bot : Rat)) → Q .non (upd H1 m (.dT (putK kvs (kk ks) (.ref a))))
theorem sc_law_added : FnScope ["_law_more", "_law_taken", "_law_top", "_law_bottom", "_law_old"] ["_law_more", "_law_taken", "_law_top", "_law_bottom"] (defScope s_law_added) := ⟨rfl, rfl, rfl, by decide +kernel, rfl, by decide +kernel, by decide +kernel⟩
set_option maxHeartbeats 1000000 in
theorem ok_law_added (F : Fun K "_law_added" "_law_added" s_law_added f fd) (T : Txt mg) (C_law_low : Cal P w K mg base "_law_low" 2 ["_law_top", "_law_bottom"] sp_lowQ) : FnOk P w K mg base CX0 3 f fd ["_law_more", "_law_taken", "_law_top", "_law_bottom"] sp_added := by
  refine F.ok sc_law_added (fun vs H Q E h => ?_) (fun cdv A outer s H vs Q E hr h => ?_)
  · obtain ⟨m, tk, kvs, ks, L, f, top, bot, rfl, _⟩ := h
    rfl
  obtain ⟨m, tk, kvs, ks, L, f, top, bot, rfl, em, et, dm, hl, bf, bt, bb, hb, q⟩ := h
  have hz : (100000 : Nat) < sizeLine := by decide
  refine ⟨_, (pss_cons (ps_set (i := 4) sc_law_added.nd rfl (Or.inl rfl) (pe_dget2 (hu1 hr) (pv 0) (pv 1) (pe_tup (pa_cons pe_int (pa_cons pe_int pa_nil))) ⟨rfl, rfl, rfl, rfl⟩))
      (pss_one (ps_dput (hu1 hr) (pv 0) (pv 1) (pe_cl C_law_low hr (pa_cons (pe_op op_add (pe_op op_mulB (pe_ix ix_tup (pv 4) pe_int (fun _ _ => rfl)) (pv 3)) (pe_op op_mulB (pv 2) (pe_ix ix_tup (pv 4) pe_int (fun _ _ => rfl)))) (pa_cons (pe_op op_mulB (pe_ix ix_tup (pv 4) pe_int (fun _ _ => rfl)) (pv 3)) pa_nil))) rfl))), ?_⟩
  refine ⟨_, rfl, m, rfl, .inr ⟨kvs, .inl em⟩, _, rfl, (by show 2 ≤ sizeLine; decide), fun p hp => ?_⟩
  have u := same_upd hp (.tup [.int 0, .int 1])
  refine ⟨_, DGet.t (u _ _ em) (u _ _ et), ?_⟩
  obtain ⟨o, eo, ko⟩ : ∃ o, (valV kvs (kk ks)).getD (.ref p) = .ref o ∧ Pq (upd H p (.tup [.int 0, .int 1])) o (f ks) := by
    by_cases h : ks ∈ L
    · obtain ⟨a, e1, k1⟩ := dm.val ks h
      exact ⟨a, by rw [e1]; rfl, k1.keep u⟩
    · refine ⟨p, by rw [valV_none (fun z => h (dm.mem.mp z))]; rfl, ?_⟩
      rw [dm.out ks h]
      exact upd_same
  rw [eo]
  have d0 := den_pos (f ks)
  have b1 : Bt 8000 ((f ks).den * bot) := (bf.2.mul bb).mono (by decide)
  have p1 : 0 < ((f ks).den : Int) * bot := Int.mul_pos d0 hb
  refine ⟨_, rfl, _, _, _, _, rfl, rfl, ko.sq, rfl, _, rfl, _, _, rfl, rfl, mul_of bf.1 bb (by decide), _, rfl, _, rfl, _, _, _, _, rfl, rfl, ko.sq, rfl, _, _, rfl, rfl, mul_of bt bf.2 (by decide), _, _, rfl, rfl, _, rfl, _, _, _, _, rfl, rfl, ko.sq, rfl, _, rfl, _, _, rfl, rfl, mul_of bf.2 bb (by decide), _, _, rfl, p1, b1, fun a H1 s1 k1 => ?_⟩
  have em1 := (u.trans s1) _ _ em
  have et1 := (u.trans s1) _ _ et
  refine ⟨_, rfl, _, rfl, m, _, rfl, DPut.t em1 et1 (by (first | lia | omega)), q a H1 (u.trans s1) ?_⟩
  have e := add_frac (f ks) top hb
  rw [e]
  exact k1

noncomputable def sm : List Rat → Rat
  | [] => 0
  | x :: r => x + sm r
theorem sm_app (xs ys : List Rat) : sm (xs ++ ys) = sm xs + sm ys := by
  induction xs with
  | nil => show sm ys = 0 + sm ys; rw [Rat.zero_add]
  | cons x r ih => show x + sm (r ++ ys) = x + sm r + sm ys; rw [ih, Rat.add_assoc]
theorem sm_pick (A : List Nat) (g : List Nat → Rat) : ∀ {L : List (List Nat)}, L.Nodup → (A ∈ L → sm (L.map fun k => if k = A then g k else 0) = g A) ∧ (A ∉ L → sm (L.map fun k => if k = A then g k else 0) = 0)
  | [], _ => ⟨fun h => by simp at h, fun _ => rfl⟩
  | k :: L, nd => by
    obtain ⟨h1, h2⟩ := List.nodup_cons.mp nd
    obtain ⟨i1, i2⟩ := sm_pick A g h2
    have e0 : sm ((k :: L).map fun k => if k = A then g k else 0) = (if k = A then g k else 0) + sm (L.map fun k => if k = A then g k else 0) := rfl
    rw [e0]
    refine ⟨fun h => ?_, fun h => ?_⟩
    · by_cases e : k = A
      · subst e
        rw [if_pos rfl, i2 h1, Rat.add_zero]
      · rw [if_neg e, Rat.zero_add]
        rcases List.mem_cons.mp h with z | z
        · exact absurd z.symm e
        · exact i1 z
    · rw [if_neg (fun e => h (by rw [e]; simp)), Rat.zero_add]
      exact i2 fun z => h (List.mem_cons_of_mem _ z)
theorem sm_two {α : Type} (g h : α → Rat) : ∀ L : List α, sm (L.map fun k => g k + h k) = sm (L.map g) + sm (L.map h)
  | [] => by show (0 : Rat) = 0 + 0; rw [Rat.zero_add]
  | k :: L => by
    show g k + h k + sm (L.map fun k => g k + h k) = g k + sm (L.map g) + (h k + sm (L.map h))
    rw [sm_two g h L]
    grind
noncomputable abbrev Inc (ks : List Nat) : Prop := ks.Pairwise (· < ·)
theorem inc_hd {x y : Nat} {xs ys : List Nat} (hx : Inc (x :: xs)) (hy : Inc (y :: ys)) (p : (x :: xs).Perm (y :: ys)) : x = y := by
  obtain ⟨x1, x2⟩ := List.pairwise_cons.mp hx
  obtain ⟨y1, y2⟩ := List.pairwise_cons.mp hy
  have m1 : x ∈ y :: ys := p.subset (by simp)
  have m2 : y ∈ x :: xs := p.symm.subset (by simp)
  rcases List.mem_cons.mp m1 with z | z
  · exact z
  · rcases List.mem_cons.mp m2 with w | w
    · exact w.symm
    · have := y1 x z
      have := x1 y w
      (first | lia | omega)
theorem inc_eq {xs ys : List Nat} (hx : Inc xs) (hy : Inc ys) (p : xs.Perm ys) : xs = ys := by
  induction xs generalizing ys with
  | nil => exact (List.nil_perm.mp p).symm
  | cons x xs ih =>
    cases ys with
    | nil => simp at p
    | cons y ys =>
      have e := inc_hd hx hy p
      subst e
      rw [ih (List.pairwise_cons.mp hx).2 (List.pairwise_cons.mp hy).2 ((List.perm_cons x).mp p)]
theorem inc_range (k : Nat) : Inc (List.range k) := List.pairwise_lt_range
noncomputable def K2 (k : Nat) : List Nat := List.range (k - 1) ++ [k]
theorem inc_K2 (k : Nat) : Inc (K2 k) := List.pairwise_append.mpr ⟨inc_range _, by simp, fun a ha b hb => by
  have := List.mem_range.mp ha
  have := List.mem_singleton.mp hb
  (first | lia | omega)⟩
theorem range_snoc (k : Nat) : List.range (k + 1) = List.range k ++ [k] := List.range_succ
theorem perm1 {ks : List Nat} {k : Nat} (h : Inc ks) : (List.range (k + 1)).Perm (ks ++ [k]) ↔ ks = List.range k := by
  rw [range_snoc]
  constructor
  · intro p
    exact (inc_eq (inc_range k) h ((List.perm_append_right_iff _).mp p)).symm
  · intro e
    rw [e]
theorem K2_perm {k : Nat} (hk : 1 ≤ k) : (K2 k ++ [k - 1]).Perm (List.range (k + 1)) := by
  obtain ⟨j, rfl⟩ : ∃ j, k = j + 1 := ⟨k - 1, by (first | lia | omega)⟩
  unfold K2
  rw [range_snoc, range_snoc, show j + 1 - 1 = j by (first | lia | omega), List.append_assoc, List.append_assoc]
  exact (List.perm_append_left_iff _).mpr (List.Perm.swap j (j + 1) [])
theorem perm2 {ks : List Nat} {k : Nat} (h : Inc ks) (hk : 1 ≤ k) : (List.range (k + 1)).Perm (ks ++ [k - 1]) ↔ ks = K2 k := by
  constructor
  · intro p
    exact (inc_eq (inc_K2 k) h ((List.perm_append_right_iff _).mp ((K2_perm hk).trans p))).symm
  · intro e
    rw [e]
    exact (K2_perm hk).symm
theorem perm3 {ks : List Nat} {k : Nat} : ¬ (List.range (k + 1)).Perm (ks ++ [k + 1]) := fun p => by
  have : k + 1 ∈ List.range (k + 1) := p.symm.subset (by simp)
  have := List.mem_range.mp this
  (first | lia | omega)
theorem K2_succ (k : Nat) : K2 (k + 1) = List.range k ++ [k + 1] := rfl
theorem perm4 {ks : List Nat} {k : Nat} (h : Inc ks) : (K2 (k + 1)).Perm (ks ++ [k + 1]) ↔ ks = List.range k := by
  rw [K2_succ]
  constructor
  · intro p
    exact (inc_eq (inc_range k) h ((List.perm_append_right_iff _).mp p)).symm
  · intro e
    rw [e]
theorem perm5 {ks : List Nat} {k : Nat} : ¬ (K2 (k + 1)).Perm (ks ++ [k]) := fun p => by
  have : k ∈ K2 (k + 1) := p.symm.subset (by simp)
  rw [K2_succ] at this
  rcases List.mem_append.mp this with z | z
  · have := List.mem_range.mp z
    (first | lia | omega)
  · have := List.mem_singleton.mp z
    (first | lia | omega)
theorem perm6 {ks : List Nat} {k : Nat} (h : ∀ c ∈ ks, c ≤ k) : ¬ (K2 (k + 1)).Perm (ks ++ [k - 1]) := fun p => by
  have : k + 1 ∈ ks ++ [k - 1] := p.subset (by rw [K2_succ]; simp)
  rcases List.mem_append.mp this with z | z
  · have := h _ z
    (first | lia | omega)
  · have := List.mem_singleton.mp z
    (first | lia | omega)
noncomputable def ltr (ks : List Nat) (o : Nat) : Nat := (ks.filter fun c => decide (o < c)).length % 2
noncomputable def sgq (ks : List Nat) (o : Nat) : Int := 1 - 2 * (ltr ks o : Int)
theorem ltr_range {k o : Nat} (h : k ≤ o + 1) : ltr (List.range k) o = 0 := by
  unfold ltr
  rw [List.filter_eq_nil_iff.mpr fun c hc => by
    have := List.mem_range.mp hc
    simp
    (first | lia | omega)]
  rfl
theorem ltr_K2 {k : Nat} (hk : 1 ≤ k) : ltr (K2 k) (k - 1) = 1 := by
  unfold ltr K2
  rw [List.filter_append, List.filter_eq_nil_iff.mpr fun c hc => by
    have := List.mem_range.mp hc
    simp
    (first | lia | omega)]
  have : (decide (k - 1 < k)) = true := decide_eq_true (by (first | lia | omega))
  simp [this]
noncomputable def con (f : List Nat → Rat) (w : Nat → Rat) (T ks : List Nat) (o : Nat) : Rat := if T.Perm (ks ++ [o]) then f ks * w o * (sgq ks o : Rat) else 0
noncomputable def conS (f : List Nat → Rat) (w : Nat → Rat) (T ks : List Nat) (lo : Nat) : Nat → Rat
  | 0 => 0
  | j + 1 => conS f w T ks lo j + con f w T ks (lo + j)
noncomputable def lo1 (k : Nat) : Nat := k - 1
noncomputable def mny (n k : Nat) : Nat := min n (k + 2) - (k - 1)
theorem conS_one (f : List Nat → Rat) (w : Nat → Rat) {n k : Nat} (hk : k < n) {ks : List Nat} (h : Inc ks) (hc : ∀ c ∈ ks, c ≤ k) :
    conS f w (List.range (k + 1)) ks (k - 1) (mny n k) = (if ks = List.range k then f ks * w k else 0) + (if ks = K2 k then (if k = 0 then 0 else - (f ks * w (k - 1))) else 0) := by
  have e1 : con f w (List.range (k + 1)) ks k = if ks = List.range k then f ks * w k else 0 := by
    unfold con
    by_cases e : ks = List.range k
    · rw [if_pos ((perm1 h).mpr e), if_pos e, e]
      unfold sgq
      rw [ltr_range (by (first | lia | omega))]
      show _ * ((1 - 2 * ((0 : Nat) : Int) : Int) : Rat) = _
      have : ((1 - 2 * ((0 : Nat) : Int) : Int) : Rat) = 1 := by decide +kernel
      rw [this, Rat.mul_one]
    · rw [if_neg (fun z => e ((perm1 h).mp z)), if_neg e]
  have e3 : con f w (List.range (k + 1)) ks (k + 1) = 0 := by
    unfold con
    rw [if_neg perm3]
  by_cases k0 : k = 0
  · subst k0
    have z : (if ks = K2 0 then (if 0 = 0 then (0 : Rat) else - (f ks * w (0 - 1))) else 0) = 0 := by simp
    rw [z, Rat.add_zero, ← e1]
    by_cases h2 : 2 ≤ n
    · have : mny n 0 = 2 := by unfold mny; (first | lia | omega)
      rw [this]
      show 0 + con f w _ ks 0 + con f w _ ks 1 = _
      have e3' : con f w (List.range (0 + 1)) ks 1 = 0 := e3
      rw [e3', Rat.add_zero, Rat.zero_add]
    · have : mny n 0 = 1 := by unfold mny; (first | lia | omega)
      rw [this]
      show 0 + con f w _ ks 0 = _
      rw [Rat.zero_add]
  · have e2 : con f w (List.range (k + 1)) ks (k - 1) = if ks = K2 k then (if k = 0 then 0 else - (f ks * w (k - 1))) else 0 := by
      unfold con
      by_cases e : ks = K2 k
      · rw [if_pos ((perm2 h (by (first | lia | omega))).mpr e), if_pos e, if_neg k0, e]
        unfold sgq
        rw [ltr_K2 (by (first | lia | omega))]
        have : ((1 - 2 * ((1 : Nat) : Int) : Int) : Rat) = -1 := by decide +kernel
        rw [this, Rat.mul_neg, Rat.mul_one]
      · rw [if_neg (fun z => e ((perm2 h (by (first | lia | omega))).mp z)), if_neg e]
    have a0 : k - 1 + 0 = k - 1 := by (first | lia | omega)
    have a1 : k - 1 + 1 = k := by (first | lia | omega)
    have a2 : k - 1 + 2 = k + 1 := by (first | lia | omega)
    by_cases h2 : k + 2 ≤ n
    · have : mny n k = 3 := by unfold mny; (first | lia | omega)
      rw [this]
      show 0 + con f w _ ks (k - 1 + 0) + con f w _ ks (k - 1 + 1) + con f w _ ks (k - 1 + 2) = _
      rw [a0, a1, a2, e1, e2, e3, Rat.zero_add, Rat.add_zero, Rat.add_comm]
    · have : mny n k = 2 := by unfold mny; (first | lia | omega)
      rw [this]
      show 0 + con f w _ ks (k - 1 + 0) + con f w _ ks (k - 1 + 1) = _
      rw [a0, a1, e1, e2, Rat.zero_add, Rat.add_comm]
theorem conS_two (f : List Nat → Rat) (w : Nat → Rat) {n k : Nat} (hk : k < n) {ks : List Nat} (h : Inc ks) (hc : ∀ c ∈ ks, c ≤ k) :
    conS f w (K2 (k + 1)) ks (k - 1) (mny n k) = if ks = List.range k then (if k + 1 < n then f ks * w (k + 1) else 0) else 0 := by
  have e1 : con f w (K2 (k + 1)) ks (k + 1) = if ks = List.range k then f ks * w (k + 1) else 0 := by
    unfold con
    by_cases e : ks = List.range k
    · rw [if_pos ((perm4 h).mpr e), if_pos e, e]
      unfold sgq
      rw [ltr_range (by (first | lia | omega))]
      have : ((1 - 2 * ((0 : Nat) : Int) : Int) : Rat) = 1 := by decide +kernel
      rw [this, Rat.mul_one]
    · rw [if_neg (fun z => e ((perm4 h).mp z)), if_neg e]
  have e2 : con f w (K2 (k + 1)) ks k = 0 := by
    unfold con
    rw [if_neg perm5]
  have e3 : 1 ≤ k → con f w (K2 (k + 1)) ks (k - 1) = 0 := fun _ => by
    unfold con
    rw [if_neg (perm6 hc)]
  by_cases k0 : k = 0
  · subst k0
    by_cases h2 : 2 ≤ n
    · have : mny n 0 = 2 := by unfold mny; (first | lia | omega)
      rw [this, if_pos (show 0 + 1 < n by (first | lia | omega))]
      show 0 + con f w _ ks 0 + con f w _ ks 1 = _
      have e2' : con f w (K2 (0 + 1)) ks 0 = 0 := e2
      have e1' : con f w (K2 (0 + 1)) ks 1 = if ks = List.range 0 then f ks * w 1 else 0 := e1
      rw [e2', e1', Rat.zero_add, Rat.zero_add]
    · have : mny n 0 = 1 := by unfold mny; (first | lia | omega)
      rw [this, if_neg (show ¬ 0 + 1 < n by (first | lia | omega))]
      show 0 + con f w _ ks 0 = _
      have e2' : con f w (K2 (0 + 1)) ks 0 = 0 := e2
      rw [e2', Rat.zero_add, ite_self]
  · have a0 : k - 1 + 0 = k - 1 := by (first | lia | omega)
    have a1 : k - 1 + 1 = k := by (first | lia | omega)
    have a2 : k - 1 + 2 = k + 1 := by (first | lia | omega)
    by_cases h2 : k + 2 ≤ n
    · have : mny n k = 3 := by unfold mny; (first | lia | omega)
      rw [this, if_pos (show k + 1 < n by (first | lia | omega))]
      show 0 + con f w _ ks (k - 1 + 0) + con f w _ ks (k - 1 + 1) + con f w _ ks (k - 1 + 2) = _
      rw [a0, a1, a2, e1, e2, e3 (by (first | lia | omega)), Rat.zero_add, Rat.zero_add, Rat.zero_add]
    · have : mny n k = 2 := by unfold mny; (first | lia | omega)
      rw [this, if_neg (show ¬ k + 1 < n by (first | lia | omega))]
      show 0 + con f w _ ks (k - 1 + 0) + con f w _ ks (k - 1 + 1) = _
      rw [a0, a1, e2, e3 (by (first | lia | omega)), Rat.zero_add, Rat.zero_add]
      simp
theorem tot_one {f : List Nat → Rat} (w : Nat → Rat) {n k : Nat} (hk : k < n) {L : List (List Nat)} (nd : L.Nodup) (hi : ∀ ks ∈ L, Inc ks ∧ ∀ c ∈ ks, c ≤ k) (out : ∀ ks, ks ∉ L → f ks = 0) :
    sm (L.map fun ks => conS f w (List.range (k + 1)) ks (k - 1) (mny n k)) = f (List.range k) * w k - (if k = 0 then 0 else f (K2 k) * w (k - 1)) := by
  have e : (L.map fun ks => conS f w (List.range (k + 1)) ks (k - 1) (mny n k)) = L.map fun ks => (if ks = List.range k then f ks * w k else 0) + (if ks = K2 k then (if k = 0 then 0 else - (f ks * w (k - 1))) else 0) :=
    List.map_congr_left fun ks h => conS_one f w hk (hi ks h).1 (hi ks h).2
  obtain ⟨p1, p2⟩ := sm_pick (List.range k) (fun ks => f ks * w k) nd
  obtain ⟨p3, p4⟩ := sm_pick (K2 k) (fun ks => if k = 0 then 0 else - (f ks * w (k - 1))) nd
  rw [e, sm_two, Rat.sub_eq_add_neg]
  congr 1
  · by_cases z : List.range k ∈ L
    · exact p1 z
    · rw [p2 z, out _ z, Rat.zero_mul]
  · by_cases z : K2 k ∈ L
    · rw [p3 z]
      by_cases h0 : k = 0
      · rw [if_pos h0, if_pos h0, Rat.neg_zero]
      · rw [if_neg h0, if_neg h0]
    · rw [p4 z, out _ z, Rat.zero_mul]
      by_cases h0 : k = 0
      · rw [if_pos h0, Rat.neg_zero]
      · rw [if_neg h0, Rat.neg_zero]
theorem tot_two {f : List Nat → Rat} (w : Nat → Rat) {n k : Nat} (hk : k < n) {L : List (List Nat)} (nd : L.Nodup) (hi : ∀ ks ∈ L, Inc ks ∧ ∀ c ∈ ks, c ≤ k) (out : ∀ ks, ks ∉ L → f ks = 0) :
    sm (L.map fun ks => conS f w (K2 (k + 1)) ks (k - 1) (mny n k)) = if k + 1 < n then f (List.range k) * w (k + 1) else 0 := by
  have e : (L.map fun ks => conS f w (K2 (k + 1)) ks (k - 1) (mny n k)) = L.map fun ks => if ks = List.range k then (if k + 1 < n then f ks * w (k + 1) else 0) else 0 :=
    List.map_congr_left fun ks h => conS_two f w hk (hi ks h).1 (hi ks h).2
  obtain ⟨p1, p2⟩ := sm_pick (List.range k) (fun ks => if k + 1 < n then f ks * w (k + 1) else 0) nd
  rw [e]
  by_cases z : List.range k ∈ L
  · exact p1 z
  · rw [p2 z, out _ z, Rat.zero_mul, ite_self]
noncomputable def Z12 (k β : Nat) (q : Rat) : Prop := ∃ z : Int, q = (z : Rat) / ((12 ^ k : Int) : Rat) ∧ z.natAbs ≤ β
noncomputable def bn12 : Nat → Nat
  | 0 => 0
  | n + 1 => 84 + 40 * bn12 n
theorem twelve_q {q : Rat} (h : Fd12 q) : ∃ z : Int, q = (z : Rat) / ((12 : Int) : Rat) ∧ z.natAbs ≤ 84 := by
  obtain ⟨c, hc⟩ := h.2
  have d0 := den_pos q
  have c0 : 0 < c := by
    apply Decidable.byContradiction
    intro z
    have : (q.den : Int) * c ≤ 0 := Int.mul_nonpos_of_nonneg_of_nonpos (by (first | lia | omega)) (by (first | lia | omega))
    (first | lia | omega)
  have c1 : c ≤ 12 := by
    have : c ≤ (q.den : Int) * c := by
      have := Int.mul_le_mul_of_nonneg_right (show (1 : Int) ≤ q.den by (first | lia | omega)) (show 0 ≤ c by (first | lia | omega))
      (first | lia | omega)
    (first | lia | omega)
  have hn : q.num.natAbs < 2 ^ 3 := h.1.1
  refine ⟨q.num * c, ?_, ?_⟩
  · have e := q_eq q
    have hd := Po.cast_ne (Int.ne_of_gt d0)
    have h12 : ((12 : Int) : Rat) = ((q.den : Int) : Rat) * (c : Rat) := by rw [hc, Rat.intCast_mul]
    have n12 : ((12 : Int) : Rat) ≠ 0 := by decide +kernel
    rw [Rat.intCast_mul, Rat.div_def]
    rw [Rat.div_def] at e
    have h1 := Rat.mul_inv_cancel _ hd
    have h2 := Rat.mul_inv_cancel _ n12
    generalize ((12 : Int) : Rat)⁻¹ = i2 at *
    generalize ((12 : Int) : Rat) = tw at *
    generalize ((q.den : Int) : Rat)⁻¹ = i1 at *
    generalize ((q.den : Int) : Rat) = d at *
    generalize (q.num : Rat) = n at *
    generalize (c : Rat) = cc at *
    grind
  · rw [Int.natAbs_mul]
    have : c.natAbs ≤ 12 := by (first | lia | omega)
    have := Nat.mul_le_mul (show q.num.natAbs ≤ 7 by (first | lia | omega)) this
    (first | lia | omega)
theorem ev12 {t : Int} (ht : t.natAbs ≤ 40) : ∀ {qs : List Rat}, (∀ q ∈ qs, Fd12 q) → ∃ z : Int, Po.ev qs (t : Rat) = (z : Rat) / ((12 : Int) : Rat) ∧ z.natAbs ≤ bn12 qs.length
  | [], _ => ⟨0, by show (0 : Rat) = _; decide +kernel, by simp [bn12]⟩
  | q :: r, h => by
    obtain ⟨z1, e1, b1⟩ := twelve_q (h q (by simp))
    obtain ⟨z2, e2, b2⟩ := ev12 ht (qs := r) fun x hx => h x (List.mem_cons_of_mem _ hx)
    refine ⟨z1 + t * z2, ?_, ?_⟩
    · show q + (t : Rat) * Po.ev r t = _
      rw [e1, e2, Rat.intCast_add, Rat.intCast_mul, Rat.div_def, Rat.div_def, Rat.div_def]
      grind
    · show _ ≤ 84 + 40 * bn12 r.length
      have h1 := Int.natAbs_add_le z1 (t * z2)
      have h2 : (t * z2).natAbs ≤ 40 * bn12 r.length := by rw [Int.natAbs_mul]; exact Nat.mul_le_mul ht b2
      (first | lia | omega)
theorem bn12_le {n : Nat} (h : n ≤ 3) : bn12 n ≤ 200000 := by
  have : n = 0 ∨ n = 1 ∨ n = 2 ∨ n = 3 := by (first | lia | omega)
  rcases this with h | h | h | h <;> (rw [h]; decide)

theorem for_dict {a : Addr} {o : Obj} {kvs : List (List Key × V)} {g : TG} {tb : TS} {D : Ends} {σ : L2.St} {H : Hp} (Pv : Nat → L2.St → Hp → Prop) (h0 : Pv 0 σ H) (hl : ∀ i σ H, Pv i σ H → H a = some (.frz o (.dT kvs)))
    (hs : ∀ i p b σ H, kvs[i]? = some p → Pv i σ H → H b = some (.tup (p.1.map kV)) → g (.ref b) σ H fun σ2 H2 => tb { D with nx := Pv (i + 1), ct := Pv (i + 1), bk := D.nx } σ2 H2) (hd : ∀ σ H, Pv kvs.length σ H → D.nx σ H) :
    ∃ W : Nat → Nat → L2.St → Hp → Prop, (∃ m, W 0 m σ H) ∧ ∀ i m σ H, W i m σ H →
      ((Itk a o kvs).stop i H ∧ D.nx σ H) ∨ ((Itk a o kvs).go i H ∧ ∃ N : L2.St → Hp → Prop, (∀ σ' H', N σ' H' → ∃ m', m' < m ∧ W (i + 1) m' σ' H') ∧ ∀ x H', (Itk a o kvs).yld i H x H' → g x σ H' fun σ2 H2 => tb { D with nx := N, ct := N, bk := D.nx } σ2 H2) := by
  refine ⟨fun i m σ H => m = kvs.length - i ∧ i ≤ kvs.length ∧ Pv i σ H, ⟨kvs.length, by simp, Nat.zero_le _, h0⟩, ?_⟩
  rintro i m σ H ⟨rfl, hi, p⟩
  have q := hl i σ H p
  by_cases hlt : i < kvs.length
  · refine .inr ⟨⟨q, hlt⟩, Pv (i + 1), fun σ' H' p' => ⟨kvs.length - (i + 1), by (first | lia | omega), rfl, hlt, p'⟩, fun x H' y => ?_⟩
    obtain ⟨e, b, pr, hp, rfl, eb⟩ := y
    subst e
    exact hs i pr b σ _ hp p eb
  · have e : i = kvs.length := by (first | lia | omega)
    subst e
    exact .inl ⟨⟨q, Nat.le_refl _⟩, hd σ H p⟩
noncomputable def cdt (tb : List (List (List Rat))) (n : Nat) (t : Rat) : Nat → Rat × Rat
  | 0 => (1, 0)
  | k + 1 => ((cdt tb n t k).1 * Po.ev (cellQ tb k k) t - (if k = 0 then 0 else (cdt tb n t k).2 * Po.ev (cellQ tb k (k - 1)) t), if k + 1 < n then (cdt tb n t k).1 * Po.ev (cellQ tb k (k + 1)) t else 0)
noncomputable def sp_least : Sp := fun vs H Q _ => ∃ (D tp : Addr) (rcs : List (Addr × List Addr)) (tb : List (List (List Rat))) (n : Nat) (t : Int), vs = [.ref D, .ref tp] ∧ Tab H D rcs tb n ∧ n ≤ 6 ∧ Tb32 tb n ∧ Pq H tp (t : Rat) ∧ t.natAbs ≤ 40 ∧ ∀ r q H', Same H H' → Pq H' r q → q = (cdt tb n t n).1 → Bq 1000 q → Q (.ref r) H'
structure Ways (H : Hp) (kvs : List (List Key × V)) (L : List (List Nat)) (f : List Nat → Rat) (k cnt bd : Nat) : Prop where
  dm : Dm H kvs L f
  inc : ∀ ks ∈ L, Inc ks ∧ ∀ c ∈ ks, c ≤ k
  z : ∀ ks ∈ L, Z12 k bd (f ks)
  len : L.length ≤ cnt
theorem inV_nat (o : Nat) (ks : List Nat) : inV (.int o) ((kk ks).map kV) = decide (o ∈ ks) := by
  unfold inV
  rw [kk_kV]
  induction ks with
  | nil => rfl
  | cons c r ih =>
    rw [List.map_cons, List.map_cons, List.any_cons, ih]
    have e : eqV (V.int (c : Int)) (V.int (o : Int)) = decide (c = o) := by
      by_cases h : c = o
      · rw [h, decide_eq_true rfl]
        simp [eqV]
      · rw [decide_eq_false h]
        simp [eqV]
        (first | lia | omega)
    rw [e]
    by_cases h : c = o
    · simp [h]
    · have : ¬ o = c := fun z => h z.symm
      simp [h, this]
theorem flat_kk (ks : List Nat) : ((kk ks).map kV).all flatV = true := by
  rw [kk_kV, List.map_map, List.all_map]
  exact List.all_eq_true.mpr fun _ _ => rfl
theorem flt_len (ks : List Nat) (o : Nat) : ((ks.map fun (n : Nat) => (n : Int)).filter fun n => decide ((o : Int) < n)).length = (ks.filter fun c => decide (o < c)).length := by
  induction ks with
  | nil => rfl
  | cons c r ih =>
    rw [List.map_cons, List.filter_cons, List.filter_cons]
    have : decide ((o : Int) < (c : Int)) = decide (o < c) := by
      by_cases h : o < c
      · rw [decide_eq_true h, decide_eq_true (by (first | lia | omega))]
      · rw [decide_eq_false h, decide_eq_false (by (first | lia | omega))]
    rw [this]
    split
    · rw [List.length_cons, List.length_cons, ih]
    · exact ih
theorem cat_read {K : PySem.W.Frag} {H : Hp} {a b : Addr} {xs ys : List V} {Q : VK} (ha : H a = some (.tup xs)) (hb : H b = some (.tup ys)) (hy : ys ≠ []) (hz : xs.length + ys.length ≤ sizeLine) (k : ∀ p H', Same H H' → H' p = some (.tup (xs ++ ys)) → Q (.ref p) H') :
    rCatE K (.ref a) (.ref b) H Q := by
  by_cases h : xs = []
  · subst h
    exact .inl ⟨a, b, ys, rfl, rfl, SqT.of ha, SqT.of hb, k b H (Same.refl _) hb⟩
  · exact .inr ⟨a, b, xs, ys, rfl, rfl, SqT.of ha, SqT.of hb, h, hz, fun z => absurd z hy, fun _ p hp => k p _ (same_upd hp _) upd_same⟩
theorem sort_nat {ns' : List Int} {zs : List Nat} (hp : ns'.Perm (zs.map fun (n : Nat) => (n : Int))) (hs : ns'.Pairwise (· ≤ ·)) (nd : zs.Nodup) : ∃ nk : List Nat, ns' = nk.map (fun (n : Nat) => (n : Int)) ∧ nk.Perm zs ∧ Inc nk := by
  have e1 : ns' = (ns'.map Int.toNat).map (fun (n : Nat) => (n : Int)) := by
    rw [List.map_map]
    refine ((List.map_id _).symm.trans (List.map_congr_left fun x hx => ?_))
    obtain ⟨n, _, rfl⟩ := List.mem_map.mp (hp.subset hx)
    show (n : Int) = ((n : Int).toNat : Int)
    (first | lia | omega)
  have p2 : (ns'.map Int.toNat).Perm zs := by
    have := hp.map Int.toNat
    rw [List.map_map] at this
    have e : zs.map (Int.toNat ∘ fun (n : Nat) => (n : Int)) = zs := by
      conv => rhs; rw [← List.map_id zs]
      exact List.map_congr_left fun (x : Nat) _ => Int.toNat_natCast x
    rw [e] at this
    exact this
  refine ⟨ns'.map Int.toNat, e1, p2, ?_⟩
  have nd2 : (ns'.map Int.toNat).Nodup := (p2.nodup_iff).mpr nd
  have s2 : (ns'.map Int.toNat).Pairwise (· ≤ ·) := List.pairwise_map.mpr (hs.imp fun {a b} h => by (first | lia | omega))
  exact (s2.and nd2).imp fun {a b} h => by
    have := h.1
    have := h.2
    (first | lia | omega)
theorem Z12.add {k β γ : Nat} {p q : Rat} (h : Z12 k β p) (g : Z12 k γ q) : Z12 k (β + γ) (p + q) := by
  obtain ⟨z, e, b⟩ := h
  obtain ⟨y, e', b'⟩ := g
  refine ⟨z + y, ?_, Nat.le_trans (Int.natAbs_add_le _ _) (by (first | lia | omega))⟩
  rw [e, e', Rat.intCast_add, Rat.div_def, Rat.div_def, Rat.div_def, Rat.add_mul]
theorem Z12.mono {k β γ : Nat} {q : Rat} (h : Z12 k β q) (l : β ≤ γ) : Z12 k γ q := by
  obtain ⟨z, e, b⟩ := h
  exact ⟨z, e, by (first | lia | omega)⟩
theorem Z12.zero (k β : Nat) : Z12 k β 0 := ⟨0, by rw [Rat.div_def]; simp, by simp⟩
theorem Z12.bq {k β b : Nat} {q : Rat} (h : Z12 k β q) (hb : β < 2 ^ b) (hk : 4 * k + 1 ≤ b) : Bq b q := by
  obtain ⟨z, e, hz⟩ := h
  have h12 : (12 ^ k : Int) ≠ 0 := by
    have : (0 : Int) < 12 ^ k := Int.pow_pos (by decide)
    (first | lia | omega)
  refine bq_of h12 e (show z.natAbs < 2 ^ b by (first | lia | omega)) (Bt.mono (m := 4 * k + 1) ?_ hk)
  show ((12 : Int) ^ k).natAbs < 2 ^ (4 * k + 1)
  rw [Int.natAbs_pow]
  have h1 : (12 : Nat) ^ k ≤ 16 ^ k := Nat.pow_le_pow_left (by decide) k
  have h2 : (16 : Nat) ^ k = 2 ^ (4 * k) := by rw [show (16 : Nat) = 2 ^ 4 by decide, ← Nat.pow_mul]
  have h3 : (2 : Nat) ^ (4 * k) < 2 ^ (4 * k + 1) := Nat.pow_lt_pow_right (by decide) (by (first | lia | omega))
  show 12 ^ k < _
  (first | lia | omega)
theorem Z12.mul {k β γ : Nat} {p v : Rat} {s : Int} (h : Z12 k β p) (g : ∃ z : Int, v = (z : Rat) / ((12 : Int) : Rat) ∧ z.natAbs ≤ γ) (hs : s.natAbs ≤ 1) : Z12 (k + 1) (β * γ) (p * v * (s : Rat)) := by
  obtain ⟨z, e, b⟩ := h
  obtain ⟨y, e', b'⟩ := g
  refine ⟨z * y * s, ?_, ?_⟩
  · have n1 : ((12 ^ k : Int) : Rat) ≠ 0 := Po.cast_ne (by
      have : (0 : Int) < 12 ^ k := Int.pow_pos (by decide)
      (first | lia | omega))
    have n2 : ((12 : Int) : Rat) ≠ 0 := by decide +kernel
    have n3 : ((12 ^ (k + 1) : Int) : Rat) ≠ 0 := Po.cast_ne (by
      have : (0 : Int) < 12 ^ (k + 1) := Int.pow_pos (by decide)
      (first | lia | omega))
    have e12 : ((12 ^ (k + 1) : Int) : Rat) = ((12 ^ k : Int) : Rat) * ((12 : Int) : Rat) := by rw [Int.pow_succ, Rat.intCast_mul]
    rw [e, e', Rat.intCast_mul, Rat.intCast_mul, Rat.div_def, Rat.div_def, Rat.div_def]
    have h1 := Rat.mul_inv_cancel _ n1
    have h2 := Rat.mul_inv_cancel _ n2
    have h3 := Rat.mul_inv_cancel _ n3
    generalize ((12 ^ (k + 1) : Int) : Rat)⁻¹ = i3 at *
    generalize ((12 ^ (k + 1) : Int) : Rat) = a3 at *
    generalize ((12 ^ k : Int) : Rat)⁻¹ = i1 at *
    generalize ((12 ^ k : Int) : Rat) = a1 at *
    generalize ((12 : Int) : Rat)⁻¹ = i2 at *
    generalize ((12 : Int) : Rat) = a2 at *
    generalize (z : Rat) = z' at *
    generalize (y : Rat) = y' at *
    generalize (s : Rat) = s' at *
    subst e12
    have : i3 = i1 * i2 := by grind
    rw [this]
    grind
  · rw [Int.natAbs_mul, Int.natAbs_mul]
    have h1 := Nat.mul_le_mul b b'
    have h2 := Nat.mul_le_mul h1 hs
    (first | lia | omega)
theorem sgq_abs (ks : List Nat) (o : Nat) : (sgq ks o).natAbs ≤ 1 := by
  unfold sgq
  have : ltr ks o < 2 := Nat.mod_lt _ (by decide)
  (first | lia | omega)
theorem inc_len : ∀ {ks : List Nat} {lo hi : Nat}, Inc ks → (∀ c ∈ ks, lo ≤ c ∧ c < hi) → ks.length ≤ hi - lo := by
  intro ks
  induction ks with
  | nil => intro lo hi _ _; simp
  | cons c r ih =>
    intro lo hi h g
    obtain ⟨h1, h2⟩ := List.pairwise_cons.mp h
    have := ih (lo := c + 1) (hi := hi) h2 fun d hd => ⟨h1 d hd, (g d (List.mem_cons_of_mem _ hd)).2⟩
    have := g c (by simp)
    rw [List.length_cons]
    (first | lia | omega)
theorem frac_mul {q v : Rat} {T M s : Int} (hM : M ≠ 0) (hv : v = (T : Rat) / (M : Rat)) : q * v * (s : Rat) = ((q.num * T * s : Int) : Rat) / (((q.den : Int) * M : Int) : Rat) := by
  have d0 := Po.cast_ne (Int.ne_of_gt (den_pos q))
  have hb' := Po.cast_ne hM
  have eq := q_eq q
  rw [hv, Rat.intCast_mul, Rat.intCast_mul, Rat.intCast_mul, Rat.div_def, Rat.div_def]
  rw [Rat.div_def] at eq
  have h1 := Rat.mul_inv_cancel _ d0
  have h2 := Rat.mul_inv_cancel _ hb'
  have h3 := Rat.mul_inv_cancel _ (show ((q.den : Int) : Rat) * (M : Rat) ≠ 0 from fun z => by
    rcases Rat.mul_eq_zero.mp z with z | z
    · exact d0 z
    · exact hb' z)
  generalize ((q.den : Int) : Rat)⁻¹ = i1 at *
  generalize (M : Rat)⁻¹ = i2 at *
  generalize (((q.den : Int) : Rat) * (M : Rat))⁻¹ = i3 at *
  generalize ((q.den : Int) : Rat) = d at *
  generalize (M : Rat) = m at *
  generalize (q.num : Rat) = n at *
  generalize (T : Rat) = T' at *
  generalize (s : Rat) = s' at *
  have e3 : i3 = i1 * i2 := by grind
  rw [e3, ← eq]
  grind
theorem ways_put {H : Hp} {kv2 : List (List Key × V)} {L2 : List (List Nat)} {f2 : List Nat → Rat} {k c B : Nat} {a ma : Addr} {nk : List Nat} {x : Rat} (dm : Dm H kv2 L2 f2) (hi : ∀ ks ∈ L2, Inc ks ∧ ∀ c ∈ ks, c ≤ k) (hz : ∀ ks ∈ L2, Z12 k (c * B) (f2 ks)) (hl : L2.length ≤ c)
    (hm : ∀ xs, H ma ≠ some (.tup xs)) (ka : Pq H a (f2 nk + x)) (zx : Z12 k B x) (hn : Inc nk ∧ ∀ c ∈ nk, c ≤ k) :
    ∃ L3 f3, Ways (upd H ma (.dT (putK kv2 (kk nk) (.ref a)))) (putK kv2 (kk nk) (.ref a)) L3 f3 k (c + 1) ((c + 1) * B) ∧ ∀ T, f3 T = if T = nk then f2 T + x else f2 T := by
  have zn : Z12 k (c * B) (f2 nk) := by
    by_cases h : nk ∈ L2
    · exact hz nk h
    · rw [dm.out nk h]; exact Z12.zero _ _
  have zs : Z12 k ((c + 1) * B) (f2 nk + x) := by
    have := zn.add zx
    rwa [Nat.succ_mul]
  have sub : ∀ ks, ks ∈ (if nk ∈ L2 then L2 else L2 ++ [nk]) → ks ∈ L2 ∨ ks = nk := fun ks h => by
    by_cases g : nk ∈ L2
    · rw [if_pos g] at h; exact .inl h
    · rw [if_neg g] at h
      rcases List.mem_append.mp h with z | z
      · exact .inl z
      · exact .inr (List.mem_singleton.mp z)
  refine ⟨_, _, ⟨(dm.put (ks := nk) ka).updD hm, fun ks h => ?_, fun ks h => ?_, ?_⟩, fun T => ?_⟩
  · rcases sub ks h with z | z
    · exact hi ks z
    · rw [z]; exact hn
  · show Z12 k _ (if ks = nk then f2 nk + x else f2 ks)
    by_cases e : ks = nk
    · rw [if_pos e]; exact zs
    · rw [if_neg e]
      exact (hz ks ((sub ks h).resolve_right e)).mono (Nat.mul_le_mul_right _ (by (first | lia | omega)))
  · by_cases g : nk ∈ L2
    · rw [if_pos g]; (first | lia | omega)
    · rw [if_neg g, List.length_append, List.length_singleton]; (first | lia | omega)
  · show (if T = nk then f2 nk + x else f2 T) = _
    by_cases e : T = nk
    · rw [if_pos e, if_pos e, e]
    · rw [if_neg e, if_neg e]
theorem con_nk {f : List Nat → Rat} {w : Nat → Rat} {ks nk : List Nat} {o : Nat} (hn : Inc nk) (hp : nk.Perm (ks ++ [o])) {T : List Nat} (hT : Inc T) : con f w T ks o = if T = nk then f ks * w o * (sgq ks o : Rat) else 0 := by
  unfold con
  by_cases e : T = nk
  · rw [if_pos e, if_pos (by rw [e]; exact hp)]
  · rw [if_neg e, if_neg (fun z => e (inc_eq hT hn (z.trans hp.symm)))]
theorem sc_law_least : FnScope ["_law_table", "_law_t", "_law_ways", "_law_one", "_law_more", "_law_taken", "_law_other", "_law_worth_here", "_law_later", "_law_top"] ["_law_table", "_law_t"] (defScope s_law_least) := ⟨rfl, rfl, rfl, by decide +kernel, rfl, by decide +kernel, by decide +kernel⟩
set_option maxHeartbeats 4000000 in
theorem ok_law_least (F : Fun K "_law_least" "_law_least" s_law_least f fd) (T : Txt mg) (C_law_worth : Cal P w K mg base "_law_worth" 1 ["_law_figures_here", "_law_t"] sp_worthG) (C_law_added : Cal P w K mg base "_law_added" 3 ["_law_more", "_law_taken", "_law_top", "_law_bottom"] sp_added) : FnOk P w K mg base CX0 4 f fd ["_law_table", "_law_t"] sp_least := by
  refine F.ok sc_law_least (fun vs H Q E h => ?_) (fun cdv A outer s H vs Q E hr h => ?_)
  · obtain ⟨D, tp, rcs, tb, n, t, rfl, _⟩ := h
    rfl
  obtain ⟨D, tp, rcs, tb, n, t, rfl, tab, hn, t32, kt, ht, q⟩ := h
  have hz : (100000 : Nat) < sizeLine := by decide
  have lr : rcs.length = n := by rw [Paired.length tab.k, tab.len]
  refine ⟨_, (pss_cons (ps_set (i := 2) sc_law_least.nd rfl (Or.inl rfl) (pe_dispT1 (hu1 hr) (pe_tup pa_nil) (pe_tup (pa_cons pe_int (pa_cons pe_int pa_nil)))))
      (pss_cons (ps_for PassesOwn.never rfl (pi_range1 rfl T.z_range (pa_cons (pe_callB call_len_seq rfl T.z_len PySem.boot_len (pa_cons (pv 0) pa_nil)) pa_nil)) (pg_name (i := 3) sc_law_least.nd rfl (Or.inl rfl))
        (pss_cons (ps_set (i := 4) sc_law_least.nd rfl (Or.inl rfl) pe_dnewT)
        (pss_cons (ps_for PassesOwn.never rfl (pi_dictT (pv 2)) (pg_name (i := 5) sc_law_least.nd rfl (Or.inl rfl))
          (pss_one (ps_for PassesOwn.never rfl (pi_range2 rfl T.z_range (pa_cons (pe_callB (call_max2 rfl) rfl T.z_max boot_max (pa_cons pe_int (pa_cons (pe_op op_sub (pv 3) pe_int) pa_nil))) (pa_cons (pe_callB (call_min2 rfl) rfl T.z_min boot_min (pa_cons (pe_callB call_len_seq rfl T.z_len PySem.boot_len (pa_cons (pv 0) pa_nil)) (pa_cons (pe_op op_add (pv 3) pe_int) pa_nil))) pa_nil))) (pg_name (i := 6) sc_law_least.nd rfl (Or.inr rfl))
            (pss_one (ps_if (PW.pt (pw_and (pt_cmpR op_notIn_seq (pv 6) (pv 5) (by with_unfolding_all rfl)) (pw_and1 (pt_cmpR (op_neD hr.units) (pe_ix ix_list (pe_ix ix_list (pv 0) (pv 3) (fun _ _ => rfl)) (pv 6) (fun _ _ => rfl)) (pe_lst pa_nil) (nomark _)))))
              (pss_cons (ps_set (i := 7) sc_law_least.nd rfl (Or.inl rfl) (pe_cl C_law_worth hr (pa_cons (pe_ix ix_list (pe_ix ix_list (pv 0) (pv 3) (fun _ _ => rfl)) (pv 6) (fun _ _ => rfl)) (pa_cons (pv 1) pa_nil))))
              (pss_cons (ps_set (i := 8) sc_law_least.nd rfl (Or.inl rfl) (pe_op op_mod (pe_callB call_len_seq rfl T.z_len PySem.boot_len (pa_cons (pe_compG (N' := ["_law_k", "_law_other"]) (fsc := defScope s_law_least) (N := ["_law_table", "_law_t", "_law_ways", "_law_one", "_law_more", "_law_taken", "_law_other", "_law_worth_here", "_law_later", "_law_top"]) ["_law_k"] [6] ⟨rfl, by decide +kernel, by decide +kernel, rfl, by decide +kernel, by decide +kernel⟩ (pi_tup (pv 5)) (fun _ _ _ _ => (pg_blk (N' := ["_law_k", "_law_other"]) (i := 0) (by decide +kernel) rfl rfl)) (fun _ _ _ _ => (pts_one (pt_cmpR op_gt (pv 0) (pv 1) (nomark _)))) (fun _ _ _ _ => (pv 0))) pa_nil)) pe_int))
              (pss_cons (ps_set (i := 9) sc_law_least.nd rfl (Or.inl rfl) (pe_op op_mulB (pe_op op_mulB (pe_ix ix_tup (pe_dget (hu1 hr) (pv 2) (pv 5) (fun _ _ => rfl)) pe_int (fun _ _ => rfl)) (pe_ix ix_tup (pv 7) pe_int (fun _ _ => rfl))) (pe_op op_sub pe_int (pe_op op_mulB pe_int (pv 8)))))
              (pss_one (ps_expr (pe_cl C_law_added hr (pa_cons (pv 4) (pa_cons (pe_callTy call_tuple_of rfl T.z_tuple boot_tuple (pa_cons (pe_callB call_sortT rfl T.z_sorted boot_sorted (pa_cons (pe_op op_catTE (pv 5) (pe_tup (pa_cons (pv 6) pa_nil))) pa_nil)) pa_nil)) (pa_cons (pv 9) (pa_cons (pe_op op_mulB (pe_ix ix_tup (pe_dget (hu1 hr) (pv 2) (pv 5) (fun _ _ => rfl)) pe_int (fun _ _ => rfl)) (pe_ix ix_tup (pv 7) pe_int (fun _ _ => rfl))) pa_nil))))))))))
              pss_nil)))))
        (pss_one (ps_set (i := 2) sc_law_least.nd rfl (Or.inl rfl) (pv 4))))))
      (pss_one (ps_ret (pe_dget2 (hu1 hr) (pv 2) (pe_tuprng rfl T.z_tuple rfl T.z_range (pa_cons (pe_callB call_len_seq rfl T.z_len PySem.boot_len (pa_cons (pv 0) pa_nil)) pa_nil)) (pe_tup (pa_cons pe_int (pa_cons pe_int pa_nil))) ⟨rfl, rfl, rfl, rfl⟩))))), ?_⟩
  have d1 : ∀ {o : HO} {H' : Hp} {a : Addr}, H' a = some o → (∀ xs, o ≠ .tup xs) → ∀ xs, H' a ≠ some (.tup xs) := fun {o H' a} e n xs z => by
    rw [e] at z
    exact n xs (Option.some.inj z)
  intro wa hwa
  refine ⟨(by show 0 ≤ sizeLine; decide), fun e0 h0 => ⟨(by show 2 ≤ sizeLine; decide), fun p1 h1 => ?_⟩⟩
  have ua := same_upd hwa (.dT [])
  have ub := same_upd h0 (.tup [])
  have uc := same_upd h1 (.tup [.int 1, .int 1])
  have ewa := (ub.trans uc) _ _ (show upd H wa (.dT []) wa = some (.dT []) from upd_same)
  have kp1 : Pq (upd (upd (upd H wa (.dT [])) e0 (.tup [])) p1 (.tup [.int 1, .int 1])) p1 1 := upd_same
  refine ⟨e0, [], rfl, uc _ _ upd_same, ewa, ?_⟩
  have s1 := same_updF ((ua.trans ub).trans uc) hwa (.dT [([], .ref p1)])
  have dm0 : Dm (upd (upd (upd H wa (.dT [])) e0 (.tup [])) p1 (.tup [.int 1, .int 1])) [([], .ref p1)] [[]] (fun ks => if ks = [] then 1 else 0) := ⟨rfl, by simp, fun ks h => by
    have : ks = [] := by simpa using h
    subst this
    exact ⟨p1, rfl, kp1⟩, fun ks h => by
    rw [if_neg (fun z => h (by rw [z]; simp))]⟩
  have dm1 := dm0.updD (w := wa) (o := .dT [([], .ref p1)]) (d1 ewa fun xs z => nomatch z)
  have ewb : upd (upd (upd (upd H wa (.dT [])) e0 (.tup [])) p1 (.tup [.int 1, .int 1])) wa (.dT [([], .ref p1)]) wa = some (.dT [([], .ref p1)]) := upd_same
  generalize upd (upd (upd (upd H wa (.dT [])) e0 (.tup [])) p1 (.tup [.int 1, .int 1])) wa (.dT [([], .ref p1)]) = H1 at *
  clear ua ub uc kp1 dm0 ewa h0 h1
  refine ⟨_, rfl, D, _, rfl, .inl (SqL.of (tab.keep s1).e), _, rfl, by (first | lia | omega), by rw [List.length_map]; (first | lia | omega), ?_⟩
  rw [Int.toNat_natCast, List.length_map, lr]
  refine for_range (n := n) (fun k σ H' => Same H H' ∧ ∃ wa kvs L f, (∃ v3 v4 v5 v6 v7 v8 v9, σ = [some (.ref D), some (.ref tp), some (.ref wa), v3, v4, v5, v6, v7, v8, v9]) ∧ H' wa = some (.dT kvs) ∧ H wa = none ∧ Ways H' kvs L f k (3 ^ k) (2 ^ (30 * k)) ∧ f (List.range k) = (cdt tb n t k).1 ∧ f (K2 k) = (cdt tb n t k).2) ⟨s1, wa, _, _, _, ⟨_, _, _, _, _, _, _, rfl⟩, ewb, hwa, ⟨dm1, fun ks h => ?_, fun ks h => ?_, by simp⟩, rfl, rfl⟩ ?_ ?_
  · have : ks = [] := by simpa using h
    rw [this]
    exact ⟨List.Pairwise.nil, fun c hc => absurd hc (by simp)⟩
  · have : ks = [] := by simpa using h
    rw [this, if_pos rfl]
    exact ⟨1, by decide +kernel, by decide⟩
  · rintro k σ H2 hk ⟨s2, wa, kvs, L, f, ⟨v3, v4, v5, v6, v7, v8, v9, rfl⟩, ew, hw0, wy, fF, fG⟩
    have hw2 : k ≤ 5 := by (first | lia | omega)
    intro ma hma
    have um := same_upd hma (.dT [])
    have nwm : wa ≠ ma := ne_of_none ew hma
    refine ⟨_, rfl, wa, kvs, rfl, um _ _ ew, fun ob => ?_⟩
    have hma0 : H ma = none := s2.free hma
    have e3 : upd (upd H2 ma (.dT [])) wa (.frz ob (.dT kvs)) wa = some (.frz ob (.dT kvs)) := upd_same
    have e4 : upd (upd H2 ma (.dT [])) wa (.frz ob (.dT kvs)) ma = some (.dT []) := by rw [upd_ne nwm.symm, upd_same]
    have dm3 : Dm (upd (upd H2 ma (.dT [])) wa (.frz ob (.dT kvs))) kvs L f := (wy.dm.keep um).updD (d1 (um _ _ ew) fun xs z => nomatch z)
    have s3 : Same H (upd (upd H2 ma (.dT [])) wa (.frz ob (.dT kvs))) := same_updF (s2.trans um) hw0 _
    generalize upd (upd H2 ma (.dT [])) wa (.frz ob (.dT kvs)) = H3 at *
    have lkv := wy.dm.len
    have hLl := wy.len
    have p3 : 3 ^ k ≤ 3 ^ 5 := Nat.pow_le_pow_right (by decide) hw2
    have p35 : (3 : Nat) ^ 5 = 243 := by decide
    refine for_dict (fun i σ H' => Same H H' ∧ (∃ v5 v6 v7 v8 v9, σ = [some (.ref D), some (.ref tp), some (.ref wa), some (.int (0 + (k : Int))), some (.ref ma), v5, v6, v7, v8, v9]) ∧ H' wa = some (.frz ob (.dT kvs)) ∧ Dm H' kvs L f ∧ ∃ kv2 L2 f2, H' ma = some (.dT kv2) ∧ Ways H' kv2 L2 f2 (k + 1) (3 * i) (3 * i * (2 ^ (30 * k) * 200000)) ∧
      f2 (List.range (k + 1)) = sm ((L.take i).map fun ks => conS f (fun o => Po.ev (cellQ tb k o) t) (List.range (k + 1)) ks (k - 1) (mny n k)) ∧ f2 (K2 (k + 1)) = sm ((L.take i).map fun ks => conS f (fun o => Po.ev (cellQ tb k o) t) (K2 (k + 1)) ks (k - 1) (mny n k)))
      ⟨s3, ⟨_, _, _, _, _, rfl⟩, e3, dm3, [], [], fun _ => 0, e4, ⟨⟨rfl, by simp, fun ks h => absurd h (by simp), fun _ _ => rfl⟩, fun ks h => absurd h (by simp), fun ks h => absurd h (by simp), by simp⟩, rfl, rfl⟩ ?_ ?_ ?_
    · rintro i σ H' ⟨_, _, h, _⟩
      exact h
    · rintro i p b σ H4 hp ⟨s4, ⟨v5, v6, v7, v8, v9, rfl⟩, ew4, dm4, kv2, L2, f2, em4, wy2, fT1, fT2⟩ eb
      have hik : i < kvs.length := (List.getElem?_eq_some_iff.mp hp).1
      have hiL : i < L.length := by (first | lia | omega)
      have ep : p.1 = kk L[i] := by
        have h1 : (kvs.map (·.1))[i]? = some p.1 := by rw [List.getElem?_map, hp]; rfl
        rw [wy.dm.keys, List.getElem?_map, List.getElem?_eq_getElem hiL] at h1
        exact (Option.some.inj h1).symm
      rw [ep] at eb
      have mL : L[i] ∈ L := List.getElem_mem hiL
      have tk1 : ∀ g : List Nat → Rat, sm ((L.take (i + 1)).map g) = sm ((L.take i).map g) + g L[i] := fun g => by
        rw [List.take_succ_eq_append_getElem hiL, List.map_append, sm_app]
        show _ + (g L[i] + 0) = _
        rw [Rat.add_zero]
      rw [tk1, tk1]
      obtain ⟨inc1, le1⟩ := wy.inc _ mL
      have zk := wy.z _ mL
      have vk := dm4.val _ mL
      generalize L[i] = ks at *
      clear ep tk1
      generalize hS1 : sm ((L.take i).map fun ks => conS f (fun o => Po.ev (cellQ tb k o) t) (List.range (k + 1)) ks (k - 1) (mny n k)) = S1 at *
      generalize hS2 : sm ((L.take i).map fun ks => conS f (fun o => Po.ev (cellQ tb k o) t) (K2 (k + 1)) ks (k - 1) (mny n k)) = S2 at *
      have tab4 := tab.keep s4
      refine ⟨_, rfl, _, _, rfl, rfl, _, _, rfl, _, rfl, D, _, rfl, .inl (SqL.of tab4.e), _, rfl, _, _, rfl, rfl, _, _, rfl, _, _, rfl, ?_, ?_⟩
      · rw [List.length_map, lr]
        refine ⟨?_, ?_, ?_, ?_⟩ <;> (split <;> (first | lia | omega))
      have elo : (if (0 : Int) + (k : Int) - 1 > 0 then 0 + (k : Int) - 1 else 0) = ((k - 1 : Nat) : Int) := by split <;> (first | lia | omega)
      have ehi : (if (0 : Int) + (k : Int) + 2 < (n : Int) then 0 + (k : Int) + 2 else (n : Int)) = ((min n (k + 2) : Nat) : Int) := by split <;> (first | lia | omega)
      have emn : (((min n (k + 2) : Nat) : Int) - ((k - 1 : Nat) : Int)).toNat = mny n k := by unfold mny; (first | lia | omega)
      rw [List.length_map, lr, elo, ehi, emn]
      have mny3 : mny n k ≤ 3 := by unfold mny; (first | lia | omega)
      refine for_range (lo := ((k - 1 : Nat) : Int)) (n := mny n k) (fun j σ H' => Same H H' ∧ (∃ v6 v7 v8 v9, σ = [some (.ref D), some (.ref tp), some (.ref wa), some (.int (0 + (k : Int))), some (.ref ma), some (.ref b), v6, v7, v8, v9]) ∧ H' wa = some (.frz ob (.dT kvs)) ∧ Dm H' kvs L f ∧ H' b = some (.tup ((kk ks).map kV)) ∧ ∃ kv2 L2 f2, H' ma = some (.dT kv2) ∧ Ways H' kv2 L2 f2 (k + 1) (3 * i + j) ((3 * i + j) * (2 ^ (30 * k) * 200000)) ∧
        f2 (List.range (k + 1)) = S1 + conS f (fun o => Po.ev (cellQ tb k o) t) (List.range (k + 1)) ks (k - 1) j ∧ f2 (K2 (k + 1)) = S2 + conS f (fun o => Po.ev (cellQ tb k o) t) (K2 (k + 1)) ks (k - 1) j)
        ⟨s4, ⟨_, _, _, _, rfl⟩, ew4, dm4, eb, kv2, L2, f2, em4, wy2, by rw [fT1]; exact (Rat.add_zero _).symm, by rw [fT2]; exact (Rat.add_zero _).symm⟩ ?_ ?_
      · clear em4 wy2 fT1 fT2 eb dm4 ew4 s4 tab4 kv2 L2 f2
        rintro j σ H5 hj ⟨s5, ⟨v6, v7, v8, v9, rfl⟩, ew5, dm5, eb5, kv2, L2, f2, em5, wy5, g1, g2⟩
        have eo : ((k - 1 : Nat) : Int) + (j : Int) = ((k - 1 + j : Nat) : Int) := by (first | lia | omega)
        have hon : k - 1 + j < n := by
          unfold mny at hj
          (first | lia | omega)
        have hok : k - 1 + j ≤ k + 1 := by
          unfold mny at hj
          (first | lia | omega)
        rw [eo]
        have cs1 : ∀ T, conS f (fun o => Po.ev (cellQ tb k o) t) T ks (k - 1) (j + 1) = conS f (fun o => Po.ev (cellQ tb k o) t) T ks (k - 1) j + con f (fun o => Po.ev (cellQ tb k o) t) T ks (k - 1 + j) := fun T => rfl
        rw [cs1, cs1]
        clear eo cs1
        generalize hS1' : S1 + conS f (fun o => Po.ev (cellQ tb k o) t) (List.range (k + 1)) ks (k - 1) j = S3 at *
        generalize hS2' : S2 + conS f (fun o => Po.ev (cellQ tb k o) t) (K2 (k + 1)) ks (k - 1) j = S4 at *
        rw [← Rat.add_assoc, ← Rat.add_assoc, hS1', hS2']
        generalize k - 1 + j = o at *
        have tab5 := tab.keep s5
        have skip : ∀ H6, Same H5 H6 → (∀ T, Inc T → con f (fun o => Po.ev (cellQ tb k o) t) T ks o = 0) → Same H H6 ∧ H6 wa = some (.frz ob (.dT kvs)) ∧ Dm H6 kvs L f ∧ H6 b = some (.tup ((kk ks).map kV)) ∧ ∃ kv2 L2 f2, H6 ma = some (.dT kv2) ∧ Ways H6 kv2 L2 f2 (k + 1) (3 * i + (j + 1)) ((3 * i + (j + 1)) * (2 ^ (30 * k) * 200000)) ∧
            f2 (List.range (k + 1)) = S3 + con f (fun o => Po.ev (cellQ tb k o) t) (List.range (k + 1)) ks o ∧ f2 (K2 (k + 1)) = S4 + con f (fun o => Po.ev (cellQ tb k o) t) (K2 (k + 1)) ks o := fun H6 s6 hc => by
          refine ⟨s5.trans s6, s6 _ _ ew5, dm5.keep s6, s6 _ _ eb5, kv2, L2, f2, s6 _ _ em5, ⟨wy5.dm.keep s6, wy5.inc, fun ks h => (wy5.z ks h).mono (Nat.mul_le_mul_right _ (by (first | lia | omega))), by have := wy5.len; (first | lia | omega)⟩, ?_, ?_⟩
          · rw [hc _ (inc_range _), Rat.add_zero]; exact g1
          · rw [hc _ (inc_K2 _), Rat.add_zero]; exact g2
        refine ⟨_, rfl, _, rfl, b, _, rfl, .inr (SqT.of eb5), rfl, flat_kk ks, _, rfl, ?_⟩
        rw [inV_nat]
        by_cases hoks : o ∈ ks
        · rw [decide_eq_true hoks]
          refine iteF (iteF ?_)
          obtain ⟨a1, a2, a3, a4, a5⟩ := skip H5 (Same.refl _) fun T iT => by
            unfold con
            rw [if_neg]
            intro pm
            have nd : (ks ++ [o]).Nodup := (pm.nodup_iff).mp (iT.imp fun {a b} h => Nat.ne_of_lt h)
            exact (List.nodup_append.mp nd).2.2 o hoks o (by simp) rfl
          exact ⟨a1, ⟨_, _, _, _, rfl⟩, a2, a3, a4, a5⟩
        rw [decide_eq_false hoks]
        refine iteT ?_
        have hkn : k < n := hk
        obtain ⟨rc, c, e1, e2, e3, kc⟩ := tab5.cell hkn hon
        refine ⟨_, rfl, _, rfl, D, _, _, _, rfl, rfl, SqL.of tab5.e, atI_0 e1, _, rfl, rc.1, _, _, _, rfl, rfl, SqL.of e2, atI_nat e3, (by show 0 ≤ sizeLine; decide), fun el hel => ?_⟩
        have ul := same_upd hel (.lst [])
        refine ⟨dr (cellQ tb k o), dr [], (kc.keep ul).dv, .lst upd_same .nil, Nat.le_trans (depth_dr _) (by decide), _, rfl, ?_⟩
        rw [eqv_dr]
        by_cases hce : cellQ tb k o = []
        · rw [decide_eq_true hce]
          refine iteF ?_
          obtain ⟨a1, a2, a3, a4, a5⟩ := skip _ ul fun T iT => by
            unfold con
            have : (fun o => Po.ev (cellQ tb k o) (t : Rat)) o = 0 := by
              show Po.ev (cellQ tb k o) (t : Rat) = 0
              rw [hce]
              rfl
            rw [this, Rat.mul_zero, Rat.zero_mul, ite_self]
          exact ⟨a1, ⟨_, _, _, _, rfl⟩, a2, a3, a4, a5⟩
        rw [decide_eq_false hce]
        refine iteT ?_
        have s6 := s5.trans ul
        have tab6 := tab.keep s6
        have ew6 := ul _ _ ew5
        have dm6 := dm5.keep ul
        have eb6 := ul _ _ eb5
        have em6 := ul _ _ em5
        have wd6 := wy5.dm.keep ul
        have kc6 := kc.keep ul
        have e26 := ul _ _ e2
        generalize upd H5 el (.lst []) = H6 at *
        clear ew5 dm5 eb5 em5 e2 kc tab5 hel ul
        have hcl : (cellQ tb k o).length ≤ 3 := by
          by_cases hko : k = o
          · rw [← hko]; exact t32.mid k
          · have := t32.off k o hko
            (first | lia | omega)
        have hfg := t32.fig k o
        have kt6 := kt.keep s6
        refine ⟨_, rfl, _, rfl, D, _, _, _, rfl, rfl, SqL.of tab6.e, atI_0 e1, _, rfl, rc.1, _, _, _, rfl, rfl, SqL.of e26, atI_nat e3, _, rfl, c, tp, cellQ tb k o, t, 6, rfl, kc6, kt6, by (first | lia | omega), fun q hq => (hfg q hq).1.mono (by decide), ?_, by decide, fun wr Tw Mw H7 s7 ewr rep mp => ?_⟩
        · have e1 : ((t : Rat)).num = t := rfl
          have e2 : ((t : Rat)).den = 1 := rfl
          refine ⟨?_, ?_⟩
          · rw [e1]
            show t.natAbs < 2 ^ 6
            (first | lia | omega)
          · rw [e2]
            show (1 : Int).natAbs < 2 ^ 6
            decide
        have ew7 := s7 _ _ ew6
        have dm7 := dm6.keep s7
        have eb7 := s7 _ _ eb6
        have em7 := s7 _ _ em6
        have wd7 := wd6.keep s7
        have s07 := s6.trans s7
        clear ew6 dm6 eb6 em6 wd6 tab6 kc6 kt6 e26 e1 e3
        have bfk : Bq 200 (f ks) := zk.bq (b := 200) (Nat.pow_lt_pow_right (by decide) (by (first | lia | omega))) (by (first | lia | omega))
        obtain ⟨hM, hv, bT, bM⟩ := rep
        have bT4 := bT.mono (show _ ≤ 40 by (first | lia | omega))
        have bM4 := bM.mono (show _ ≤ 40 by (first | lia | omega))
        have lks : ks.length ≤ 6 := by
          have := inc_len (lo := 0) (hi := k + 1) inc1 fun c hc => ⟨Nat.zero_le _, by have := le1 c hc; (first | lia | omega)⟩
          (first | lia | omega)
        refine ⟨_, rfl, b, rfl, ⟨_, SqT.of eb7⟩, ?_⟩
        refine comp_filterT (ns := ks.map fun (n : Nat) => (n : Int)) (by rw [List.length_map]; (first | lia | omega)) (by rw [← kk_kV]; exact eb7) (fun n => decide ((o : Int) < n)) (fun s₀ H₀ C ex n H R h => ⟨_, rfl, _, rfl, _, _, rfl, rfl, _, rfl, h⟩) (fun s₀ H₀ C ex n H R h => ⟨_, rfl, h⟩) (fun H8 Dl s8 hDl eD => ?_)
        have ew8 := s8 _ _ ew7
        have dm8 := dm7.keep s8
        have eb8 := s8 _ _ eb7
        have em8 := s8 _ _ em7
        have wd8 := wd7.keep s8
        have ewr8 := s8 _ _ ewr
        have s08 := s07.trans s8
        clear ew7 dm7 eb7 em7 wd7 ewr
        have elt : ((((ks.map fun (n : Nat) => (n : Int)).filter fun n => decide ((o : Int) < n)).map V.int).length : Int) = ((ks.filter fun c => decide (o < c)).length : Int) := by
          rw [List.length_map, flt_len]
        refine ⟨Dl, _, rfl, .inl (SqL.of eD), _, _, congrArg V.int elt, rfl, (show (0 : Int) < 2 by decide), ?_⟩
        have hlt2 : ltr ks o < 2 := Nat.mod_lt _ (by decide)
        have bl2 : Bt 2 (ltr ks o : Int) := by show ((ltr ks o : Int)).natAbs < 4; (first | lia | omega)
        have bs2 : Bt 2 (sgq ks o) := by
          have := sgq_abs ks o
          show (sgq ks o).natAbs < 4
          (first | lia | omega)
        obtain ⟨av, eav, kav⟩ := dm8.val _ mL
        have dg : DGet H8 wa (.ref b) (some (.ref av)) := .inr ⟨kvs, kk ks, b, .inr ⟨ob, ew8⟩, rfl, eb8, eav.symm⟩
        have m1 : IntMulOk (f ks).num Tw := mul_of bfk.1 bT4 (by decide)
        have m2 : IntMulOk ((f ks).num * Tw) (1 - 2 * (ltr ks o : Int)) := mul_of (bfk.1.mul bT4) bs2 (by decide)
        have m3 : IntMulOk 2 (ltr ks o : Int) := mul_of (m := 2) (by show (2 : Nat) < 4; decide) bl2 (by decide)
        refine ⟨_, rfl, _, rfl, wa, _, rfl, dg, _, _, _, _, rfl, rfl, kav.sq, rfl, _, rfl, _, _, _, _, rfl, rfl, SqT.of ewr8, rfl, _, _, rfl, rfl, m1, _, rfl, _, _, rfl, rfl, m3, _, _, rfl, rfl, _, _, rfl, rfl, m2, ?_⟩
        refine ⟨_, rfl, _, rfl, _, rfl, (by show 1 ≤ sizeLine; decide), fun op hop => ?_⟩
        have uo := same_upd hop (.tup [.int (o : Int)])
        refine cat_read (uo _ _ eb8) upd_same (by simp) (by rw [kk_kV, List.length_map, List.length_map]; show _ + 1 ≤ _; (first | lia | omega)) fun cp H9 s9 ec => ?_
        have u9 := uo.trans s9
        have ecI : (kk ks).map kV ++ [V.int (o : Int)] = ((ks ++ [o]).map fun (n : Nat) => (n : Int)).map V.int := by
          rw [kk_kV, List.map_append, List.map_append]
          rfl
        rw [ecI] at ec
        refine ⟨cp, _, rfl, SqT.of ec, by rw [List.length_map, List.length_append]; show _ + 1 < _; (first | lia | omega), fun sl ns' pm srt hsl => ?_⟩
        have nd : (ks ++ [o]).Nodup := List.nodup_append.mpr ⟨inc1.imp fun {a b} h => Nat.ne_of_lt h, by simp, fun x hx y hy z => hoks (by
          have := List.mem_singleton.mp hy
          rw [← this, ← z]
          exact hx)⟩
        obtain ⟨nk, ens, pnk, ink⟩ := sort_nat pm srt nd
        have lenk : ∀ c ∈ nk, c ≤ k + 1 := fun c hc => by
          rcases List.mem_append.mp (pnk.subset hc) with z | z
          · have := le1 c z
            (first | lia | omega)
          · rw [List.mem_singleton.mp z]
            exact hok
        subst ens
        rw [← kk_kV] at *
        have us := same_upd hsl (.lst ((kk nk).map kV))
        refine ⟨sl, _, rfl, .inl ⟨SqL.of upd_same, fun tk htk => ?_⟩⟩
        have ut := same_upd htk (.tup ((kk nk).map kV))
        have etk : upd (upd H9 sl (.lst ((kk nk).map kV))) tk (.tup ((kk nk).map kV)) tk = some (.tup ((kk nk).map kV)) := upd_same
        have ss := (u9.trans us).trans ut
        generalize upd (upd H9 sl (.lst ((kk nk).map kV))) tk (.tup ((kk nk).map kV)) = HA at *
        have ewA := ss _ _ ew8
        have dmA := dm8.keep ss
        have ebA := ss _ _ eb8
        have emA := ss _ _ em8
        have wdA := wd8.keep ss
        have ewrA := ss _ _ ewr8
        have s0A := s08.trans ss
        have kavA := kav.keep ss
        have dgA : DGet HA wa (.ref b) (some (.ref av)) := .inr ⟨kvs, kk ks, b, .inr ⟨ob, ewA⟩, rfl, ebA, eav.symm⟩
        have m4 : IntMulOk ((f ks).den : Int) Mw := mul_of bfk.2 bM4 (by decide)
        have c740 : 3 * i + j ≤ 1024 := by (first | lia | omega)
        have zn : Z12 (k + 1) ((3 * i + j) * (2 ^ (30 * k) * 200000)) (f2 nk) := by
          by_cases h : nk ∈ L2
          · exact wy5.z nk h
          · rw [wdA.out nk h]; exact Z12.zero _ _
        have bfn : Bq 1000 (f2 nk) := zn.bq (b := 1000) (by
          have h1 : 2 ^ (30 * k) ≤ 2 ^ 150 := Nat.pow_le_pow_right (by decide) (by (first | lia | omega))
          have h2 : (3 * i + j) * (2 ^ (30 * k) * 200000) ≤ 1024 * (2 ^ 150 * 262144) := Nat.mul_le_mul c740 (Nat.mul_le_mul h1 (by decide))
          have h3 : 1024 * (2 ^ 150 * 262144) = 2 ^ 178 := by decide
          rw [h3] at h2
          exact Nat.lt_of_le_of_lt h2 (Nat.pow_lt_pow_right (by decide) (by decide))) (by (first | lia | omega))
        have lk2 := wdA.len
        have ll2 := wy5.len
        have hbot : 0 < ((f ks).den : Int) * Mw := Int.mul_pos (den_pos _) mp
        have efr := frac_mul (q := f ks) (s := sgq ks o) hM hv
        have zx : Z12 (k + 1) (2 ^ (30 * k) * 200000) (f ks * Po.ev (cellQ tb k o) (t : Rat) * (sgq ks o : Rat)) := zk.mul (by
          obtain ⟨z, e, hz⟩ := ev12 ht hfg
          exact ⟨z, e, Nat.le_trans hz (bn12_le hcl)⟩) (sgq_abs ks o)
        refine ⟨_, rfl, _, rfl, _, rfl, wa, _, rfl, dgA, _, _, _, _, rfl, rfl, kavA.sq, rfl, _, rfl, _, _, _, _, rfl, rfl, SqT.of ewrA, rfl, _, _, rfl, rfl, m4, ?_⟩
        refine ⟨ma, tk, kv2, nk, L2, f2, _, _, rfl, emA, etk, wdA, by (first | lia | omega), bfn, ((bfk.1.mul bT4).mul bs2).mono (by decide), (bfk.2.mul bM4).mono (by decide), hbot, fun a HB sB kaB => ?_⟩
        replace kaB : Pq HB a (f2 nk + f ks * Po.ev (cellQ tb k o) (t : Rat) * (sgq ks o : Rat)) := by
          rw [efr]
          exact kaB
        have emB := sB _ _ emA
        obtain ⟨L3, f3, wy3, hf3⟩ := ways_put (wdA.keep sB) wy5.inc wy5.z wy5.len (d1 emB fun xs z => nomatch z) kaB zx ⟨ink, lenk⟩
        refine ⟨same_updF (s0A.trans sB) hma0 _, ⟨_, _, _, _, rfl⟩, ?_, (dmA.keep sB).updD (d1 emB fun xs z => nomatch z), ?_, _, L3, f3, upd_same, wy3, ?_, ?_⟩
        · rw [upd_ne nwm]
          exact sB _ _ ewA
        · rw [upd_ne (fun z => d1 emB (fun xs z => nomatch z) _ (by rw [← z]; exact sB _ _ ebA))]
          exact sB _ _ ebA
        · rw [hf3, con_nk ink pnk (inc_range _)]
          by_cases e : List.range (k + 1) = nk
          · rw [if_pos e, if_pos e, g1]
          · rw [if_neg e, if_neg e, g1, Rat.add_zero]
        · rw [hf3, con_nk ink pnk (inc_K2 _)]
          by_cases e : K2 (k + 1) = nk
          · rw [if_pos e, if_pos e, g2]
          · rw [if_neg e, if_neg e, g2, Rat.add_zero]
      · rintro σ H5 ⟨s5, ⟨v6, v7, v8, v9, rfl⟩, ew5, dm5, eb5, kv2, L2, f2, em5, wy5, g1, g2⟩
        exact ⟨s5, ⟨_, _, _, _, _, rfl⟩, ew5, dm5, kv2, L2, f2, em5, ⟨wy5.dm, wy5.inc, fun ks h => (wy5.z ks h).mono (Nat.mul_le_mul_right _ (by (first | lia | omega))), by have := wy5.len; (first | lia | omega)⟩, g1, g2⟩
    · rintro σ H4 ⟨s4, ⟨v5, v6, v7, v8, v9, rfl⟩, ew4, dm4, kv2, L2, f2, em4, wy2, fT1, fT2⟩
      rw [lkv, List.take_length] at fT1 fT2
      refine ⟨_, rfl, s4, ma, kv2, L2, f2, ⟨_, _, _, _, _, _, _, rfl⟩, em4, hma0, ⟨wy2.dm, wy2.inc, fun ks h => (wy2.z ks h).mono ?_, ?_⟩, ?_, ?_⟩
      · rw [lkv]
        have h1 : 3 * L.length ≤ 729 := by (first | lia | omega)
        have h2 : 2 ^ (30 * (k + 1)) = 2 ^ (30 * k) * 2 ^ 30 := by rw [← Nat.pow_add]; congr 1
        rw [h2]
        have h3 := Nat.mul_le_mul_right (2 ^ (30 * k) * 200000) h1
        have h4 : (2 : Nat) ^ 30 = 1073741824 := by decide
        rw [h4]
        generalize 2 ^ (30 * k) = B at *
        (first | lia | omega)
      · have := wy2.len
        rw [lkv] at this
        rw [Nat.pow_succ]
        (first | lia | omega)
      · rw [fT1, tot_one _ hk wy.dm.nd wy.inc wy.dm.out, fF, fG]
        rfl
      · rw [fT2, tot_two _ hk wy.dm.nd wy.inc wy.dm.out, fF]
        rfl
  · rintro σ H2 ⟨s2, wa, kvs, L, f, ⟨v3, v4, v5, v6, v7, v8, v9, rfl⟩, ew, hw0, wy, fF, fG⟩
    have tab2 := tab.keep s2
    refine ⟨_, rfl, wa, rfl, .inr ⟨kvs, .inl ew⟩, _, rfl, D, _, rfl, .inl (SqL.of tab2.e), n, by rw [List.length_map, lr], by (first | lia | omega), fun rp hrp => ?_⟩
    have ur := same_upd hrp (.tup ((List.range n).map fun (i : Nat) => V.int i))
    refine ⟨(by show 2 ≤ sizeLine; decide), fun dp hdp => ?_⟩
    have ud := same_upd hdp (.tup [.int 0, .int 1])
    have erp : upd (upd H2 rp (.tup ((List.range n).map fun (i : Nat) => V.int i))) dp (.tup [.int 0, .int 1]) rp = some (.tup ((kk (List.range n)).map kV)) := by
      rw [kk_kV, List.map_map]
      exact ud _ _ upd_same
    have kdp : Pq (upd (upd H2 rp (.tup ((List.range n).map fun (i : Nat) => V.int i))) dp (.tup [.int 0, .int 1])) dp 0 := upd_same
    have uu := ur.trans ud
    generalize upd (upd H2 rp (.tup ((List.range n).map fun (i : Nat) => V.int i))) dp (.tup [.int 0, .int 1]) = H3 at *
    refine ⟨_, DGet.t (uu _ _ ew) erp, ?_⟩
    have bq6 : ∀ q, Z12 n (2 ^ (30 * n)) q → Bq 1000 q := fun q h => h.bq (b := 1000) (Nat.pow_lt_pow_right (by decide) (by (first | lia | omega))) (by (first | lia | omega))
    by_cases hL : List.range n ∈ L
    · obtain ⟨a0, ea, ka⟩ := wy.dm.val _ hL
      rw [ea]
      exact q a0 _ H3 (s2.trans uu) (ka.keep uu) fF (bq6 _ (wy.z _ hL))
    · rw [valV_none (fun z => hL (wy.dm.mem.mp z))]
      have f0 := wy.dm.out _ hL
      refine q dp 0 H3 (s2.trans uu) kdp (by rw [← fF, f0]) (bq6 _ (Z12.zero _ _))

theorem beside_up {tb : List (List (List Rat))} {n j : Nat} (t : Rat) (hj : j + 1 < n) : Po.ev (beside tb n (j + 1) (((j + 1 : Nat) : Int) - 1)) t * Po.ev (beside tb n j ((j : Int) + 1)) t = Po.ev (cellQ tb (j + 1) j) t * Po.ev (cellQ tb j (j + 1)) t := by
  have e1 : (((j + 1 : Nat) : Int) - 1) = (j : Int) := by (first | lia | omega)
  have e2 : ((j : Int) + 1) = ((j + 1 : Nat) : Int) := by (first | lia | omega)
  rw [e1, e2]
  unfold beside
  rw [Int.toNat_natCast, Int.toNat_natCast]
  have z0 : Po.ev [] t = 0 := rfl
  by_cases h1 : (cellQ tb j (j + 1)).length = 0
  · rw [if_pos (.inr (.inr h1)), List.length_eq_zero_iff.mp h1, z0, Rat.zero_mul, Rat.mul_zero]
  · rw [if_neg (by (first | lia | omega))]
    by_cases h2 : (cellQ tb (j + 1) j).length = 0
    · rw [if_pos (.inr (.inr h2)), List.length_eq_zero_iff.mp h2, z0, Rat.zero_mul, Rat.zero_mul]
    · rw [if_neg (by (first | lia | omega))]
theorem dp_cdt (tb : List (List (List Rat))) (n : Nat) (t : Rat) : ∀ k, k ≤ n → (dp tb n t k).1 = (cdt tb n t k).1 ∧ ∀ j, k = j + 1 → (dp tb n t j).1 = (cdt tb n t j).1
  | 0, _ => ⟨rfl, fun j h => by (first | lia | omega)⟩
  | k + 1, hk => by
    obtain ⟨i1, i2⟩ := dp_cdt tb n t k (by (first | lia | omega))
    refine ⟨?_, fun j h => by
      have : k = j := by (first | lia | omega)
      rw [← this]; exact i1⟩
    show Po.ev (cellQ tb k k) t * (dp tb n t k).1 - Po.ev (beside tb n k ((k : Int) - 1)) t * (dp tb n t k).2 = (cdt tb n t k).1 * Po.ev (cellQ tb k k) t - (if k = 0 then 0 else (cdt tb n t k).2 * Po.ev (cellQ tb k (k - 1)) t)
    rw [i1, Rat.mul_comm (Po.ev (cellQ tb k k) t)]
    congr 1
    cases k with
    | zero =>
      show _ * (0 : Rat) = 0
      rw [Rat.mul_zero]
    | succ j =>
      rw [if_neg (by (first | lia | omega))]
      show Po.ev (beside tb n (j + 1) (((j + 1 : Nat) : Int) - 1)) t * (Po.ev (beside tb n j ((j : Int) + 1)) t * (dp tb n t j).1) = (if j + 1 < n then (cdt tb n t j).1 * Po.ev (cellQ tb j (j + 1)) t else 0) * Po.ev (cellQ tb (j + 1) j) t
      rw [if_pos (show j + 1 < n by (first | lia | omega)), ← Rat.mul_assoc, beside_up t (show j + 1 < n by (first | lia | omega)), i2 j rfl]
      grind
noncomputable def drt (tb : List (List (List Rat))) : PyData := .list (tb.map drr)
theorem Rc.dv {H : Hp} {rc : Addr × List Addr} {row : List (List Rat)} (h : Rc H rc row) : Dv H (.ref rc.1) (drr row) := .lst h.1 (Rws.dv h.2)
theorem Rcs.dv : ∀ {H : Hp} {rcs : List (Addr × List Addr)} {tb : List (List (List Rat))}, Paired (Rc H) rcs tb → DvAll H (rcs.map fun rc => V.ref rc.1) (tb.map drr)
  | _, _, _, .nil => .nil
  | _, _, _, .cons h t => .cons (Rc.dv h) (Rcs.dv t)
theorem Tab.dv {H : Hp} {D : Addr} {rcs : List (Addr × List Addr)} {tb : List (List (List Rat))} {n : Nat} (h : Tab H D rcs tb n) : Dv H (.ref D) (drt tb) := .lst h.e (Rcs.dv h.k)
theorem depthAll_drr (tb : List (List (List Rat))) : PyData.depthAll (tb.map drr) ≤ 4 := by
  induction tb with
  | nil => simp [PyData.depthAll]
  | cons r t ih =>
    have := depth_drr r
    simp only [List.map_cons, PyData.depthAll]
    (first | lia | omega)
theorem depth_drt (tb : List (List (List Rat))) : (drt tb).depth ≤ 5 := by
  have := depthAll_drr tb
  unfold drt
  simp only [PyData.depth]
  (first | lia | omega)
theorem eqvAll_drr_self (tb : List (List (List Rat))) : PyData.eqvAll (tb.map drr) (tb.map drr) = true := by
  induction tb with
  | nil => simp [PyData.eqvAll]
  | cons r t ih => simp only [List.map_cons, PyData.eqvAll, eqv_drr_self, ih, Bool.and_self]
theorem eqv_drt_self (tb : List (List (List Rat))) : PyData.eqv (drt tb) (drt tb) = true := by
  unfold drt
  simp only [PyData.eqv, eqvAll_drr_self]
theorem comp_tabs {K : PySem.W.Frag} {a : Addr} {as : List (Addr × List Addr)} {tb : List (List (List Rat))} {te : Shared → Hp → Addr → List Addr → TE} {js : List Nat} {σ : L2.St} {H1 : Hp} {Q : VK} (hn : as.length ≤ 100000) (ha : H1 a = some (.lst (as.map fun rc => V.ref rc.1))) (hr : Paired (Rc H1) as tb)
    (hs : ∀ s₀ H₀ C ex rc row H (R : VK), row ∈ tb → Rc H rc row → Same H1 H → (∀ r cs H2, Same H H2 → H r = none → (∀ c ∈ cs, H c = none) → Rc H2 (r, cs) row → R (.ref r) H2) → te s₀ H₀ C ex (some (.ref rc.1) :: js.map fun j => (σ[j]?).join) H R)
    (hd : ∀ H D rcs, Same H1 H → H1 D = none → H D = some (.lst (rcs.map fun rc => V.ref rc.1)) → Paired (Rc H) rcs tb → Q (.ref D) H) : CompAt (Itl K a) te js σ Q H1 := by
  intro D hD
  have hlr : as.length = tb.length := Paired.length hr
  refine ⟨fun i m ys H => m = as.length - i ∧ i ≤ as.length ∧ (∃ rcs : List (Addr × List Addr), ys = (rcs.map fun rc => V.ref rc.1) ∧ rcs.length = i ∧ Paired (Rc H) rcs (tb.take i) ∧ ∀ rc ∈ rcs, D ∉ rc.1 :: rc.2) ∧ Same H1 H ∧ H D = some (.lst ys), ⟨as.length, by simp, Nat.zero_le _, ⟨[], rfl, rfl, .nil, fun c h => absurd h (by simp)⟩, same_upd hD _, upd_same⟩, ?_⟩
  rintro i m ys H ⟨rfl, hi, ⟨rcs, rfl, hc, hp, hDc⟩, sm, hDl⟩
  refine ⟨hDl, ?_⟩
  have hr' := sm _ _ ha
  by_cases hlt : i < as.length
  · have eqa : (as.map fun rc => V.ref rc.1)[i]? = some (.ref as[i].1) := by rw [List.getElem?_map, List.getElem?_eq_getElem hlt]; rfl
    have hlt2 : i < tb.length := by (first | lia | omega)
    have eqr : tb[i]? = some tb[i] := List.getElem?_eq_getElem hlt2
    refine .inr ⟨⟨_, _, SqL.of hr', eqa⟩, fun x H' y s₀ H₀ C ex => ?_⟩
    obtain ⟨e, y⟩ := y
    subst e
    have ex' := y _ (SqL.of hr')
    rw [eqa] at ex'
    cases ex'
    have kr : Rc H' as[i] tb[i] := by
      obtain ⟨rc, e1, k1⟩ := paired_get hr eqr
      rw [List.getElem?_eq_getElem hlt] at e1
      cases e1
      exact k1.keep sm
    refine hs s₀ H₀ C ex as[i] _ H' _ (List.getElem_mem hlt2) kr sm fun r cs H2 s2 nr ncs rr => ?_
    have h2 := s2 _ _ hDl
    have nD : D ∉ r :: cs := fun z => by
      rcases List.mem_cons.mp z with z | z
      · rw [← z, hDl] at nr; cases nr
      · have := ncs D z
        rw [hDl] at this; cases this
    have hz : (100000 : Nat) < sizeLine := by decide
    have upO : ∀ {rc : Addr × List Addr} {row : List (List Rat)} {ys : List V}, D ∉ rc.1 :: rc.2 → Rc H2 rc row → Rc (upd H2 D (.lst ys)) rc row := fun {rc row ys} hn' k => ⟨by
      rw [upd_ne (fun z => hn' (by rw [← z]; exact List.mem_cons_self))]; exact k.1, Rws.updO k.2 h2 fun z => hn' (List.mem_cons_of_mem _ z)⟩
    refine ⟨h2, by rw [List.length_map]; (first | lia | omega), as.length - (i + 1), by (first | lia | omega), rfl, hlt, ⟨rcs ++ [(r, cs)], by simp, by simp [hc], ?_, fun rc hrc => ?_⟩, same_updF (sm.trans s2) hD _, upd_same⟩
    · rw [List.take_succ, eqr]
      have app : ∀ {xs us : List (Addr × List Addr)} {zs vs : List (List (List Rat))} {HH : Hp}, Paired (Rc HH) xs zs → Paired (Rc HH) us vs → Paired (Rc HH) (xs ++ us) (zs ++ vs) := by
        intro xs us zs vs HH h k
        induction h with
        | nil => exact k
        | cons x _ ih => exact .cons x ih
      exact app (paired_imp (fun rc row hrc k => upO (hDc rc hrc) k) (Paired.imp' (fun _ _ z => Rc.keep z s2) hp)) (.cons (upO nD rr) .nil)
    · rcases List.mem_append.mp hrc with z | z
      · exact hDc rc z
      · have : rc = (r, cs) := by simpa using z
        rw [this]
        exact nD
  · have e : i = as.length := by (first | lia | omega)
    subst e
    rw [hlr, List.take_length] at hp
    exact .inl ⟨⟨_, SqL.of hr', by rw [List.length_map]; (first | lia | omega)⟩, hd H D rcs sm hD hDl hp⟩
noncomputable def cs_law : Scope := { kind := .function, names := [(".0", .local), ("_law_row", .local)], isGenerator := false, isCoroutine := false }
noncomputable def K32A (K : PySem.W.Frag) (a : Addr) (ns : List Int) (σ' : L2.St) (H' : Hp) : Prop := ∃ (D Hd fo : Addr) (rcs rcs2 : List (Addr × List Addr)) (tb : List (List (List Rat))) (n : Nat) (qs : List Rat) (H0 : Hp) (v : Option V), σ' = [some (.ref a), some (.ref D), some (.ref Hd), some (.ref fo), v, none, none, none, none] ∧ SqL K H0 a (ns.map V.int) ∧ Tab H0 D rcs tb n ∧ Tab H0 Hd rcs2 tb n ∧ n ≤ 6 ∧ Tb32 tb n ∧ Same H0 H' ∧ H0 fo = none ∧ Rw H' fo qs ∧ Po.strip qs = qs ∧ (∀ t, Po.ev qs t = (dp tb n t n).1) ∧ qs.length ≤ 2 * n + 1 ∧ ∀ q ∈ qs, Bq 410 q
theorem sc_law : FnScope ["_law_script", "_law_table", "_law_handed", "_law_found", "_law_figure", "_law_kept", "_law_first", "_law_turn", "_law_t"] ["_law_script"] (defScope s_law) := ⟨rfl, rfl, rfl, by decide +kernel, rfl, by decide +kernel, by decide +kernel⟩
set_option maxHeartbeats 4000000 in
theorem ok_law (F : Fun K "law" "law" s_law f fd) (T : Txt mg) (C_law_cell_at : Cal P w K mg base "_law_cell_at" 1 ["_law_script", "_law_k"] (sp_cell0 K)) (C_law_whole : Cal P w K mg base "_law_whole" 1 ["_law_found"] sp_whole) (C_law_divisor : Cal P w K mg base "_law_divisor" 1 ["_law_one", "_law_other"] sp_gcd) (C_law_table_by : Cal P w K mg base "_law_table_by" 4 ["_law_script"] (sp_table K)) (C_law_worth : Cal P w K mg base "_law_worth" 1 ["_law_figures_here", "_law_t"] sp_worthG) (C_law_is : Cal P w K mg base "_law_is" 1 ["_law_one", "_law_due"] sp_isR) (C_law_least : Cal P w K mg base "_law_least" 4 ["_law_table", "_law_t"] sp_least) (C_band : Cal P w K mg base "band" 3 ["table"] sp_band) : FnOk P w K mg base CX0 5 f fd ["_law_script"] (sp_lawB K) := by
  refine F.ok sc_law (fun vs H Q E h => ?_) (fun cdv A outer s H vs Q E hr h => ?_)
  · obtain ⟨a, ns, rfl, _⟩ := h
    rfl
  obtain ⟨a, ns, rfl, hS, h63, bns, q⟩ := h
  have hz : (100000 : Nat) < sizeLine := by decide
  have bb : ∀ {n : Nat}, n ≤ 6 → (16 * 3 + 20) * n + 2 ≤ 410 := fun h => by (first | lia | omega)
  refine ⟨_, (pss_split 5 (pss_cons (ps_set (i := 1) sc_law.nd rfl (Or.inl rfl) (pe_cl C_law_table_by hr (pa_cons (pv 0) pa_nil)))
      (pss_cons (ps_setComp (i := 2) sc_law.nd rfl (Or.inl rfl) (N' := ["_law_row"]) (fsc := defScope s_law) (N := ["_law_script", "_law_table", "_law_handed", "_law_found", "_law_figure", "_law_kept", "_law_first", "_law_turn", "_law_t"]) [] ⟨rfl, by decide +kernel, by decide +kernel, by decide +kernel, rfl, by decide +kernel, rfl, by decide +kernel⟩ (pi_list (pv 1)) (fun _ _ _ _ => (pe_comp (N' := ["_law_figures_here"]) (fsc := cs_law) (N := ["_law_row"]) [] ⟨rfl, by decide +kernel, by decide +kernel, by decide +kernel, rfl, by decide +kernel, rfl, by decide +kernel⟩ (pi_list (pv 0)) (fun _ _ _ _ => (pe_callTy call_list_of rfl T.z_list boot_list (pa_cons (pv 0) pa_nil))))))
      (pss_cons (ps_set (i := 3) sc_law.nd rfl (Or.inl rfl) (pe_cl C_band hr (pa_cons (pv 2) pa_nil)))
      (pss_cons (ps_if (PW.pt (pw_or (pt_cmpR (op_neD hr.units) (pv 2) (pv 1) (nomark _)) (pw_or (pt_not (pt_val (pe_callB call_isi rfl T.z_isinstance boot_isinstance (pa_cons (pv 3) (pa_cons (pe_bltn (v := .ty "list") rfl T.z_list boot_list rfl) pa_nil))))) (pw_or1 (pt_cmpR op_gt (pe_callB call_len_seq rfl T.z_len PySem.boot_len (pa_cons (pv 3) pa_nil)) (pe_op op_add (pe_op op_mulB pe_int (pe_callB call_len_seq rfl T.z_len PySem.boot_len (pa_cons (pv 1) pa_nil))) pe_int) (nomark _))))))
        (pss_one (ps_ret pe_bl))
        pss_nil)
      (pss_one (ps_if (PW.pt (pw_and (pt_cmpR (op_neD hr.units) (pv 3) (pe_lst pa_nil) (nomark _)) (pw_and1 (pt_cmpR (op_eqD hr.units) (pe_ix ix_tup (pe_ix ix_list (pv 3) (pe_un un_neg pe_int) (fun _ _ => rfl)) pe_int (fun _ _ => rfl)) pe_int (nomark _)))))
        (pss_one (ps_ret pe_bl))
        pss_nil))))))
      (pss_split 1 (pss_one (ps_for PassesOwn.never rfl (pi_list (pv 3)) (pg_name (i := 4) sc_law.nd rfl (Or.inl rfl))
        (pss_cons (ps_if (PW.pt (pw_or (pt_not (pt_val (pe_callB call_isi rfl T.z_isinstance boot_isinstance (pa_cons (pv 4) (pa_cons (pe_bltn (v := .ty "tuple") rfl T.z_tuple boot_tuple rfl) pa_nil))))) (pw_or (pt_cmpR op_ne (pe_callB call_len_seq rfl T.z_len PySem.boot_len (pa_cons (pv 4) pa_nil)) pe_int (nomark _)) (pw_or (pt_not (pt_val (pe_cl C_law_whole hr (pa_cons (pe_ix ix_tup (pv 4) pe_int (fun _ _ => rfl)) pa_nil)))) (pw_or1 (pt_not (pt_val (pe_cl C_law_whole hr (pa_cons (pe_ix ix_tup (pv 4) pe_int (fun _ _ => rfl)) pa_nil)))))))))
          (pss_one (ps_ret pe_bl))
          pss_nil)
        (pss_one (ps_if (PW.pt (pw_or (pt_cmpR op_lt (pe_ix ix_tup (pv 4) pe_int (fun _ _ => rfl)) pe_int (nomark _)) (pw_or1 (pt_cmpR op_ne (pe_cl C_law_divisor hr (pa_cons (pe_ix ix_tup (pv 4) pe_int (fun _ _ => rfl)) (pa_cons (pe_ix ix_tup (pv 4) pe_int (fun _ _ => rfl)) pa_nil))) pe_int (nomark _)))))
          (pss_one (ps_ret pe_bl))
          pss_nil)))))
      (pss_cons (ps_set (i := 5) sc_law.nd rfl (Or.inl rfl) (pe_callTy call_list_of rfl T.z_list boot_list (pa_cons (pv 3) pa_nil)))
      (pss_cons (ps_expr (pe_bm PySem.F.plainAttrs_list PySem.F.slot_list_append PySem.F.type_list_append mt_append (pv 3) (pa_cons (pe_tup (pa_cons pe_int (pa_cons pe_int pa_nil))) pa_nil)))
      (pss_cons (ps_if (PW.pt (pw_or (pt_cmpR (op_neD hr.units) (pv 2) (pv 1) (nomark _)) (pw_or1 (pt_cmpR (op_neD hr.units) (pe_cl C_band hr (pa_cons (pv 2) pa_nil)) (pv 5) (nomark _)))))
        (pss_one (ps_ret pe_bl))
        pss_nil)
      (pss_cons (ps_set (i := 3) sc_law.nd rfl (Or.inl rfl) (pv 5))
      (pss_cons (ps_set (i := 6) sc_law.nd rfl (Or.inl rfl) (pe_op op_sub (pe_op op_mod (pe_cl C_law_cell_at hr (pa_cons (pv 0) (pa_cons pe_int pa_nil))) pe_int) pe_int))
      (pss_cons (ps_for PassesOwn.never rfl (pi_range1 rfl T.z_range (pa_cons (pe_op op_add (pe_op op_mulB pe_int (pe_callB call_len_seq rfl T.z_len PySem.boot_len (pa_cons (pv 1) pa_nil))) pe_int) pa_nil)) (pg_name (i := 7) sc_law.nd rfl (Or.inl rfl))
        (pss_cons (ps_set (i := 8) sc_law.nd rfl (Or.inl rfl) (pe_tup (pa_cons (pe_op op_add (pv 6) (pv 7)) (pa_cons pe_int pa_nil))))
        (pss_one (ps_if (pt_not (pt_val (pe_cl C_law_is hr (pa_cons (pe_cl C_law_worth hr (pa_cons (pv 3) (pa_cons (pv 8) pa_nil))) (pa_cons (pe_cl C_law_least hr (pa_cons (pv 1) (pa_cons (pv 8) pa_nil))) pa_nil)))))
          (pss_one (ps_ret pe_bl))
          pss_nil))))
      (pss_one (ps_ret pe_bl)))))))))), ?_⟩
  refine ⟨K32A K a ns, ?tlA, ?hdA⟩
  case hdA =>
    refine ⟨_, rfl, a, ns, rfl, hS, bns, fun D rcs tb n H1 s1 nD tab hn t32 => ?_⟩
    have lr : rcs.length = n := by rw [Paired.length tab.k, tab.len]
    refine ⟨_, rfl, D, rfl, ⟨_, SqL.of tab.e⟩, comp_tabs (by (first | lia | omega)) tab.e tab.k ?_ fun H2 Hd rcs2 s2 nHd eHd kHd => ?_⟩
    · intro s₀ H₀ C ex rc row H' R hrow krc sH fin
      have hrl : rc.2.length = row.length := Paired.length krc.2
      have hr6 := tab.sq row hrow
      refine ⟨_, rfl, rc.1, rfl, ⟨_, SqL.of krc.1⟩, comp_rows (by (first | lia | omega)) krc.1 krc.2 ?_ fun H2 D2 cs s2 nD2 eD2 kcs fcs hD2 => fin D2 cs H2 s2 nD2 fcs ⟨eD2, kcs⟩⟩
      intro _ _ _ _ p rs H' R' hp kp s' fin'
      obtain ⟨xs, exs, lx⟩ := kp.there
      exact ⟨_, rfl, p, _, rfl, .inl (SqL.of exs), fun l hl => fin' l _ (same_upd hl _) hl (kp.copy exs hl)⟩
    have tabh : Tab H2 Hd rcs2 tb n := ⟨eHd, kHd, tab.len, tab.sq⟩
    have tab2 := tab.keep s2
    refine ⟨_, rfl, Hd, rcs2, tb, n, 3, rfl, tabh, by (first | lia | omega), ⟨t32.mid, t32.off, fun i j q hq => (t32.fig i j q hq).1⟩, by decide, by (first | lia | omega), fun fo qs H3 s3 nf rf hst hev hle hbq => ?_⟩
    have b410 : ∀ q ∈ qs, Bq 410 q := fun q hq => (hbq q hq).mono (bb hn)
    obtain ⟨ps, ef, kf⟩ := id rf
    have lp := kf.length
    have tab3 := tab2.keep s3
    have tabh3 := tabh.keep s3
    refine ⟨_, rfl, _, rfl, drt tb, drt tb, tabh3.dv, tab3.dv, Nat.le_trans (depth_drt _) (by decide), _, rfl, ?_⟩
    rw [eqv_drt_self]
    refine iteF ?_
    refine ⟨_, rfl, _, _, _, _, rfl, TyOf.lst ef, kit_lst_lst _, _, rfl, iteF ?_⟩
    refine ⟨_, rfl, fo, _, rfl, .inl (SqL.of ef), _, rfl, D, _, rfl, .inl (SqL.of tab3.e), _, _, rfl, rfl, CMul.ok (.inl ⟨by decide, by decide⟩), _, _, rfl, rfl, _, _, rfl, rfl, _, rfl, iteND (by rw [List.length_map, List.length_map]; (first | lia | omega)) ?_⟩
    have mk : ∀ H4, Same H3 H4 → K32A K a ns [some (.ref a), some (.ref D), some (.ref Hd), some (.ref fo), none, none, none, none, none] H4 := fun H4 s4 => ⟨D, Hd, fo, rcs, rcs2, tb, n, qs, H2, none, rfl, (s1.trans s2).seq hS, tab2, tabh, hn, t32, s3.trans s4, nf, rf.keep s4, hst, hev, hle, b410⟩
    refine ⟨_, rfl, (by show 0 ≤ sizeLine; decide), fun e he => ?_⟩
    have ue := same_upd he (.lst [])
    refine ⟨dr qs, dr [], (rf.keep ue).dv, .lst upd_same .nil, Nat.le_trans (depth_dr _) (by decide), _, rfl, ?_⟩
    rw [eqv_dr]
    by_cases h0 : qs = []
    · rw [decide_eq_true h0]
      exact iteF (iteF (mk _ ue))
    · rw [decide_eq_false h0]
      refine iteT ?_
      rcases List.eq_nil_or_concat ps with z | ⟨L, p, z⟩
      · exact absurd (List.length_eq_zero_iff.mp (by rw [← lp, z]; rfl)) h0
      · rw [List.concat_eq_append] at z
        have hlq : qs.length - 1 < qs.length := by
          have : qs.length ≠ 0 := fun w => h0 (List.length_eq_zero_iff.mp w)
          (first | lia | omega)
        obtain ⟨p', e', k'⟩ := kf.get (List.getElem?_eq_getElem hlq)
        have hLl : L.length = qs.length - 1 := by
          rw [z, List.length_append, List.length_singleton] at lp
          (first | lia | omega)
        obtain rfl : p' = p := by
          rw [z, List.map_append, List.getElem?_append_right (by rw [List.length_map]; (first | lia | omega)), List.length_map, hLl, Nat.sub_self] at e'
          simpa using e'.symm
        have hne : qs[qs.length - 1] ≠ 0 := Po.strip_last hst (by rw [List.getLast?_eq_getElem?, List.getElem?_eq_getElem hlq])
        have hn0 : qs[qs.length - 1].num ≠ 0 := fun w => hne (Rat.num_eq_zero.mp w)
        have ei : atI (ps.map V.ref) (-1) = some (.ref p') := by rw [z, List.map_append]; exact atI_last _ _
        refine ⟨_, rfl, _, rfl, fo, _, _, _, rfl, rfl, SqL.of (ue _ _ ef), ei, _, _, _, _, rfl, rfl, (k'.keep ue).sq, rfl, _, _, .int _, .int _, by simp [PyData.depth], _, rfl, ?_⟩
        have ee : PyData.eqv (.int qs[qs.length - 1].num) (.int 0) = false := by simp [PyData.eqv, hn0]
        rw [ee]
        exact iteF (mk _ ue)
  intro σA HA hA
  obtain ⟨D, Hd, fo, rcs, rcs2, tb, n, qs, H0, v, rfl, hS0, tab, tabh, hn, t32, s0, nf, rf, hst, hev, hle, b410⟩ := hA
  refine ⟨K32A K a ns, ?tlB, ?hdB⟩
  case hdB =>
    obtain ⟨ps, ef, kf⟩ := id rf
    have lp := kf.length
    refine ⟨_, rfl, fo, rfl, ⟨_, SqL.of ef⟩, ?_⟩
    refine for_list (xs := ps.map V.ref) (fun i σ H' => HA = H' ∧ ∃ v, σ = [some (.ref a), some (.ref D), some (.ref Hd), some (.ref fo), v, none, none, none, none]) ⟨rfl, _, rfl⟩ ?_ ?_ ?_
    · rintro i σ _ _ ⟨rfl, _⟩
      exact SqL.of ef
    · rintro i x σ _ hi ⟨rfl, v, rfl⟩
      have hlt : i < qs.length := by
        have := (List.getElem?_eq_some_iff.mp hi).1
        rw [List.length_map] at this
        (first | lia | omega)
      obtain ⟨p1, e1, k1⟩ := kf.get (List.getElem?_eq_getElem hlt)
      rw [hi] at e1
      cases e1
      have d1 := den_pos qs[i]
      have hg : g qs[i].num qs[i].den = 1 := by
        unfold g
        rw [(fq qs[i]).one]
        rfl
      refine ⟨_, rfl, _, _, _, _, rfl, TyOf.tup k1, kit_tup_tup _, _, rfl, iteF ?_⟩
      refine ⟨_, rfl, _, _, rfl, .inr k1.sq, rfl, _, rfl, iteNS rfl ?_⟩
      refine ⟨_, rfl, _, _, _, _, rfl, rfl, k1.sq, rfl, _, rfl, _, rfl, iteF ?_⟩
      refine ⟨_, rfl, _, _, _, _, rfl, rfl, k1.sq, rfl, _, rfl, _, rfl, iteF ?_⟩
      refine ⟨_, rfl, _, _, _, _, rfl, rfl, k1.sq, rfl, _, _, rfl, rfl, _, rfl, iteND (by (first | lia | omega)) ?_⟩
      exact ⟨_, rfl, _, _, _, _, rfl, rfl, k1.sq, rfl, _, rfl, _, _, _, _, rfl, rfl, k1.sq, rfl, _, _, rfl, by (first | lia | omega), rfl, _, rfl, iteNS (congrArg V.int hg) ⟨rfl, _, rfl⟩⟩
    · rintro σ _ ⟨rfl, v, rfl⟩
      exact ⟨D, Hd, fo, rcs, rcs2, tb, n, qs, H0, v, rfl, hS0, tab, tabh, hn, t32, s0, nf, rf, hst, hev, hle, b410⟩
  clear hS0 tab tabh hn t32 s0 nf rf hst hev hle b410
  intro σB HB hB
  obtain ⟨D, Hd, fo, rcs, rcs2, tb, n, qs, H0, v, rfl, hS0, tab, tabh, hn, t32, s0, nf, rf, hst, hev, hle, b410⟩ := hB
  have lr : rcs.length = n := by rw [Paired.length tab.k, tab.len]
  obtain ⟨xf, ef, lf⟩ := rf.there
  refine ⟨_, rfl, fo, _, rfl, .inl (SqL.of ef), fun kp hkp => ?_⟩
  have u := same_upd hkp (.lst xf)
  have rk := rf.copy ef hkp
  have nkf : kp ≠ fo := fun z => by rw [z, ef] at hkp; cases hkp
  have efA := u _ _ ef
  have sA := s0.trans u
  generalize upd HB kp (.lst xf) = HA2 at *
  refine ⟨_, rfl, .inl ⟨rfl, _, SqL.of efA⟩, (by show 2 ≤ sizeLine; decide), fun t ht => ?_⟩
  have u2 := same_upd ht (.tup [.int 1, .int 1])
  refine ⟨fo, xf, _, rfl, rfl, u2 _ _ efA, by (first | lia | omega), ?_⟩
  have sC := same_updF (sA.trans u2) nf (.lst (xf ++ [.ref t]))
  have rkC := (rk.keep u2).updO (ys := xf ++ [.ref t]) (u2 _ _ efA) nkf
  generalize upd (upd HA2 t (.tup [.int 1, .int 1])) fo (.lst (xf ++ [.ref t])) = HC at *
  refine ⟨_, rfl, _, rfl, drt tb, drt tb, (tabh.keep sC).dv, (tab.keep sC).dv, Nat.le_trans (depth_drt _) (by decide), _, rfl, ?_⟩
  rw [eqv_drt_self]
  refine iteF ?_
  refine ⟨_, rfl, Hd, rcs2, tb, n, 3, rfl, tabh.keep sC, by (first | lia | omega), ⟨t32.mid, t32.off, fun i j q hq => (t32.fig i j q hq).1⟩, by decide, by (first | lia | omega), fun fo2 qs2 HD sD nf2 rf2 hst2 hev2 hle2 hbq2 => ?_⟩
  have eqq : qs2 = qs := by
    have := Po.strip_ext (Po.ev_inj (ps := qs2) (qs := qs) fun t => by rw [hev2, hev])
    rw [hst2, hst] at this
    exact this
  rw [eqq] at rf2
  refine ⟨_, rfl, dr qs, dr qs, rf2.dv, (rkC.keep sD).dv, Nat.le_trans (depth_dr _) (by decide), _, rfl, ?_⟩
  rw [eqv_dr_self]
  refine iteF ?_
  refine ⟨_, rfl, ?_⟩
  have s0D := sC.trans sD
  have rkD := rkC.keep sD
  refine ⟨_, rfl, a, ns, 2, rfl, s0D.seq hS0, _, _, rfl, rfl, (show (0 : Int) < 41 by decide), _, _, rfl, rfl, ?_⟩
  have tabD := tab.keep s0D
  refine ⟨_, rfl, D, _, rfl, .inl (SqL.of tabD.e), _, _, rfl, rfl, CMul.ok (.inl ⟨by decide, by decide⟩), _, _, rfl, rfl, _, rfl, by (first | lia | omega), by rw [List.length_map]; (first | lia | omega), ?_⟩
  rw [List.length_map, lr, show (3 * (n : Int) + 1).toNat = 3 * n + 1 by (first | lia | omega)]
  have zb : -20 ≤ cell0 ns 2 % 41 - 20 ∧ cell0 ns 2 % 41 - 20 ≤ 20 := by (first | lia | omega)
  refine for_range (n := 3 * n + 1) (fun i σ H' => Same HD H' ∧ ∃ v7 v8, σ = [some (.ref a), some (.ref D), some (.ref Hd), some (.ref kp), v, some (.ref kp), some (.int (cell0 ns 2 % 41 - 20)), v7, v8]) ⟨Same.refl _, _, _, rfl⟩ ?_ ?_
  · rintro i σ H9 hi ⟨sm, v7, v8, rfl⟩
    generalize cell0 ns 2 % 41 - 20 = z at *
    refine ⟨_, rfl, _, rfl, _, _, rfl, rfl, (by show 2 ≤ sizeLine; decide), fun tp htp => ?_⟩
    have ut := same_upd htp (.tup [.int (z + (0 + (i : Int))), .int 1])
    have kt : Pq (upd H9 tp (.tup [.int (z + (0 + (i : Int))), .int 1])) tp ((z + (0 + (i : Int)) : Int) : Rat) := Pq.of Pr.new ⟨rfl, rfl⟩
    generalize upd H9 tp (.tup [.int (z + (0 + (i : Int))), .int 1]) = HT at *
    have h40 : (z + (0 + (i : Int))).natAbs ≤ 40 := by (first | lia | omega)
    generalize z + (0 + (i : Int)) = zz at *
    have bt : Bq 410 (zz : Rat) := (Bq.int (show Bt 10 zz by show zz.natAbs < 1024; (first | lia | omega)) (by decide)).mono (by decide)
    have smT := sm.trans ut
    refine ⟨_, rfl, _, rfl, kp, tp, qs, (zz : Rat), 410, rfl, rkD.keep smT, kt, by (first | lia | omega), b410, bt, by decide, fun w1 T1 M1 HE sE eE rep mp => ?_⟩
    refine ⟨_, rfl, _, rfl, D, tp, rcs, tb, n, zz, rfl, tabD.keep (smT.trans sE), hn, t32, kt.keep sE, h40, fun w2 q2 HF sF k2 e2 b2 => ?_⟩
    rw [hev, (dp_cdt tb n (zz : Rat) n (Nat.le_refl _)).1, ← e2] at rep
    exact ⟨w1, w2, T1, M1, _, _, q2, rfl, sF _ _ eE, k2, rep.mono (by (first | lia | omega)), (rep_self b2).mono (by decide), _, rfl, iteF ⟨smT.trans (sE.trans sF), _, _, rfl⟩⟩
  · rintro σ H9 ⟨sm, v7, v8, rfl⟩
    exact q H9

end
set_option maxHeartbeats 4000000 in
theorem all_mk {l : PySem.W.OpenLaw} {w : World} {K : PySem.W.Frag} {h : Heap} {mg : Str → Option Value} {fa f1 f2 f3 f4 f5 f6 f7 f8 f9 f10 f11 f12 f13 f14 f15 f16 f17 f18 f19 f20 f21 f22 f23 f24 : Addr} (X : K.In h) (G : h.Ns mainGlobals mg) (hfa : mg "law" = some (.ref fa))
    {od1 an1 od2 an2 od3 an3 od4 an4 od5 an5 od6 an6 od7 an7 od8 an8 od9 an9 od10 an10 od11 an11 od12 an12 od13 an13 od14 an14 od15 an15 od16 an16 od17 an17 od18 an18 od19 an19 od20 an20 od21 an21 od22 an22 od23 an23 od24 an24 : Option Addr} {sl1 sl2 sl3 sl4 sl5 sl6 sl7 sl8 sl9 sl10 sl11 sl12 sl13 sl14 sl15 sl16 sl17 sl18 sl19 sl20 sl21 sl22 sl23 sl24 : Array (Option Value)} {oc1 kV1 dc1 pm1 cd1 ct1 oc2 kV2 dc2 pm2 cd2 ct2 oc3 kV3 dc3 pm3 cd3 ct3 oc4 kV4 dc4 pm4 cd4 ct4 oc5 kV5 dc5 pm5 cd5 ct5 oc6 kV6 dc6 pm6 cd6 ct6 oc7 kV7 dc7 pm7 cd7 ct7 oc8 kV8 dc8 pm8 cd8 ct8 oc9 kV9 dc9 pm9 cd9 ct9 oc10 kV10 dc10 pm10 cd10 ct10 oc11 kV11 dc11 pm11 cd11 ct11 oc12 kV12 dc12 pm12 cd12 ct12 oc13 kV13 dc13 pm13 cd13 ct13 oc14 kV14 dc14 pm14 cd14 ct14 oc15 kV15 dc15 pm15 cd15 ct15 oc16 kV16 dc16 pm16 cd16 ct16 oc17 kV17 dc17 pm17 cd17 ct17 oc18 kV18 dc18 pm18 cd18 ct18 oc19 kV19 dc19 pm19 cd19 ct19 oc20 kV20 dc20 pm20 cd20 ct20 oc21 kV21 dc21 pm21 cd21 ct21 oc22 kV22 dc22 pm22 cd22 ct22 oc23 kV23 dc23 pm23 cd23 ct23 oc24 kV24 dc24 pm24 cd24 ct24 : Value}
    {dt3 : Addr} {dto3 : Value} {dtd3 : Option Addr} {dtn3 : Nat} {dts3 : Array (Option Value)} {dtk3_0 : Tok}
    (a1 : PySem.W.nsIn K mainGlobals "divisor" = some (some (.ref f1))) (l1 : K.lookup f1 = some ⟨oc1, od1, .func (PySem.W.fnOf "divisor" "divisor" (defArgs s_divisor) (defBody s_divisor) (defScope s_divisor) .none kV1 dc1 pm1 an1 cd1 ct1), sl1⟩) (c1 : PySem.W.codeIn K cd1 "divisor" = true) (k1 : PySem.W.keepIn K (.ref f1) = true)
    (a2 : PySem.W.nsIn K mainGlobals "is_whole" = some (some (.ref f2))) (l2 : K.lookup f2 = some ⟨oc2, od2, .func (PySem.W.fnOf "is_whole" "is_whole" (defArgs s_is_whole) (defBody s_is_whole) (defScope s_is_whole) .none kV2 dc2 pm2 an2 cd2 ct2), sl2⟩) (c2 : PySem.W.codeIn K cd2 "is_whole" = true) (k2 : PySem.W.keepIn K (.ref f2) = true)
    (a3 : PySem.W.nsIn K mainGlobals "fraction" = some (some (.ref f3))) (l3 : K.lookup f3 = some ⟨oc3, od3, .func (PySem.W.fnOf "fraction" "fraction" (defArgs s_fraction) (defBody s_fraction) (defScope s_fraction) (.ref dt3) kV3 dc3 pm3 an3 cd3 ct3), sl3⟩) (c3 : PySem.W.codeIn K cd3 "fraction" = true) (k3 : PySem.W.keepIn K (.ref f3) = true)
    (d3 : K.lookup dt3 = some ⟨dto3, dtd3, .seq #[.int 1 dtk3_0] dtn3, dts3⟩)
    (a4 : PySem.W.nsIn K mainGlobals "side" = some (some (.ref f4))) (l4 : K.lookup f4 = some ⟨oc4, od4, .func (PySem.W.fnOf "side" "side" (defArgs s_side) (defBody s_side) (defScope s_side) .none kV4 dc4 pm4 an4 cd4 ct4), sl4⟩) (c4 : PySem.W.codeIn K cd4 "side" = true) (k4 : PySem.W.keepIn K (.ref f4) = true)
    (a5 : PySem.W.nsIn K mainGlobals "poly" = some (some (.ref f5))) (l5 : K.lookup f5 = some ⟨oc5, od5, .func (PySem.W.fnOf "poly" "poly" (defArgs s_poly) (defBody s_poly) (defScope s_poly) .none kV5 dc5 pm5 an5 cd5 ct5), sl5⟩) (c5 : PySem.W.codeIn K cd5 "poly" = true) (k5 : PySem.W.keepIn K (.ref f5) = true)
    (a6 : PySem.W.nsIn K mainGlobals "shared_bottom" = some (some (.ref f6))) (l6 : K.lookup f6 = some ⟨oc6, od6, .func (PySem.W.fnOf "shared_bottom" "shared_bottom" (defArgs s_shared_bottom) (defBody s_shared_bottom) (defScope s_shared_bottom) .none kV6 dc6 pm6 an6 cd6 ct6), sl6⟩) (c6 : PySem.W.codeIn K cd6 "shared_bottom" = true) (k6 : PySem.W.keepIn K (.ref f6) = true)
    (a7 : PySem.W.nsIn K mainGlobals "whole_figures" = some (some (.ref f7))) (l7 : K.lookup f7 = some ⟨oc7, od7, .func (PySem.W.fnOf "whole_figures" "whole_figures" (defArgs s_whole_figures) (defBody s_whole_figures) (defScope s_whole_figures) .none kV7 dc7 pm7 an7 cd7 ct7), sl7⟩) (c7 : PySem.W.codeIn K cd7 "whole_figures" = true) (k7 : PySem.W.keepIn K (.ref f7) = true)
    (a8 : PySem.W.nsIn K mainGlobals "whole_times" = some (some (.ref f8))) (l8 : K.lookup f8 = some ⟨oc8, od8, .func (PySem.W.fnOf "whole_times" "whole_times" (defArgs s_whole_times) (defBody s_whole_times) (defScope s_whole_times) .none kV8 dc8 pm8 an8 cd8 ct8), sl8⟩) (c8 : PySem.W.codeIn K cd8 "whole_times" = true) (k8 : PySem.W.keepIn K (.ref f8) = true)
    (a9 : PySem.W.nsIn K mainGlobals "whole_minus" = some (some (.ref f9))) (l9 : K.lookup f9 = some ⟨oc9, od9, .func (PySem.W.fnOf "whole_minus" "whole_minus" (defArgs s_whole_minus) (defBody s_whole_minus) (defScope s_whole_minus) .none kV9 dc9 pm9 an9 cd9 ct9), sl9⟩) (c9 : PySem.W.codeIn K cd9 "whole_minus" = true) (k9 : PySem.W.keepIn K (.ref f9) = true)
    (a10 : PySem.W.nsIn K mainGlobals "part_beside" = some (some (.ref f10))) (l10 : K.lookup f10 = some ⟨oc10, od10, .func (PySem.W.fnOf "part_beside" "part_beside" (defArgs s_part_beside) (defBody s_part_beside) (defScope s_part_beside) .none kV10 dc10 pm10 an10 cd10 ct10), sl10⟩) (c10 : PySem.W.codeIn K cd10 "part_beside" = true) (k10 : PySem.W.keepIn K (.ref f10) = true)
    (a11 : PySem.W.nsIn K mainGlobals "parts_of_row" = some (some (.ref f11))) (l11 : K.lookup f11 = some ⟨oc11, od11, .func (PySem.W.fnOf "parts_of_row" "parts_of_row" (defArgs s_parts_of_row) (defBody s_parts_of_row) (defScope s_parts_of_row) .none kV11 dc11 pm11 an11 cd11 ct11), sl11⟩) (c11 : PySem.W.codeIn K cd11 "parts_of_row" = true) (k11 : PySem.W.keepIn K (.ref f11) = true)
    (a12 : PySem.W.nsIn K mainGlobals "band" = some (some (.ref f12))) (l12 : K.lookup f12 = some ⟨oc12, od12, .func (PySem.W.fnOf "band" "band" (defArgs s_band) (defBody s_band) (defScope s_band) .none kV12 dc12 pm12 an12 cd12 ct12), sl12⟩) (c12 : PySem.W.codeIn K cd12 "band" = true) (k12 : PySem.W.keepIn K (.ref f12) = true)
    (a13 : PySem.W.nsIn K mainGlobals "_law_cell_at" = some (some (.ref f13))) (l13 : K.lookup f13 = some ⟨oc13, od13, .func (PySem.W.fnOf "_law_cell_at" "_law_cell_at" (defArgs s_law_cell_at) (defBody s_law_cell_at) (defScope s_law_cell_at) .none kV13 dc13 pm13 an13 cd13 ct13), sl13⟩) (c13 : PySem.W.codeIn K cd13 "_law_cell_at" = true) (k13 : PySem.W.keepIn K (.ref f13) = true)
    (a14 : PySem.W.nsIn K mainGlobals "_law_whole" = some (some (.ref f14))) (l14 : K.lookup f14 = some ⟨oc14, od14, .func (PySem.W.fnOf "_law_whole" "_law_whole" (defArgs s_law_whole) (defBody s_law_whole) (defScope s_law_whole) .none kV14 dc14 pm14 an14 cd14 ct14), sl14⟩) (c14 : PySem.W.codeIn K cd14 "_law_whole" = true) (k14 : PySem.W.keepIn K (.ref f14) = true)
    (a15 : PySem.W.nsIn K mainGlobals "_law_divisor" = some (some (.ref f15))) (l15 : K.lookup f15 = some ⟨oc15, od15, .func (PySem.W.fnOf "_law_divisor" "_law_divisor" (defArgs s_law_divisor) (defBody s_law_divisor) (defScope s_law_divisor) .none kV15 dc15 pm15 an15 cd15 ct15), sl15⟩) (c15 : PySem.W.codeIn K cd15 "_law_divisor" = true) (k15 : PySem.W.keepIn K (.ref f15) = true)
    (a16 : PySem.W.nsIn K mainGlobals "_law_low" = some (some (.ref f16))) (l16 : K.lookup f16 = some ⟨oc16, od16, .func (PySem.W.fnOf "_law_low" "_law_low" (defArgs s_law_low) (defBody s_law_low) (defScope s_law_low) .none kV16 dc16 pm16 an16 cd16 ct16), sl16⟩) (c16 : PySem.W.codeIn K cd16 "_law_low" = true) (k16 : PySem.W.keepIn K (.ref f16) = true)
    (a17 : PySem.W.nsIn K mainGlobals "_law_numbers" = some (some (.ref f17))) (l17 : K.lookup f17 = some ⟨oc17, od17, .func (PySem.W.fnOf "_law_numbers" "_law_numbers" (defArgs s_law_numbers) (defBody s_law_numbers) (defScope s_law_numbers) .none kV17 dc17 pm17 an17 cd17 ct17), sl17⟩) (c17 : PySem.W.codeIn K cd17 "_law_numbers" = true) (k17 : PySem.W.keepIn K (.ref f17) = true)
    (a18 : PySem.W.nsIn K mainGlobals "_law_worth" = some (some (.ref f18))) (l18 : K.lookup f18 = some ⟨oc18, od18, .func (PySem.W.fnOf "_law_worth" "_law_worth" (defArgs s_law_worth) (defBody s_law_worth) (defScope s_law_worth) .none kV18 dc18 pm18 an18 cd18 ct18), sl18⟩) (c18 : PySem.W.codeIn K cd18 "_law_worth" = true) (k18 : PySem.W.keepIn K (.ref f18) = true)
    (a19 : PySem.W.nsIn K mainGlobals "_law_is" = some (some (.ref f19))) (l19 : K.lookup f19 = some ⟨oc19, od19, .func (PySem.W.fnOf "_law_is" "_law_is" (defArgs s_law_is) (defBody s_law_is) (defScope s_law_is) .none kV19 dc19 pm19 an19 cd19 ct19), sl19⟩) (c19 : PySem.W.codeIn K cd19 "_law_is" = true) (k19 : PySem.W.keepIn K (.ref f19) = true)
    (a20 : PySem.W.nsIn K mainGlobals "_law_figures" = some (some (.ref f20))) (l20 : K.lookup f20 = some ⟨oc20, od20, .func (PySem.W.fnOf "_law_figures" "_law_figures" (defArgs s_law_figures) (defBody s_law_figures) (defScope s_law_figures) .none kV20 dc20 pm20 an20 cd20 ct20), sl20⟩) (c20 : PySem.W.codeIn K cd20 "_law_figures" = true) (k20 : PySem.W.keepIn K (.ref f20) = true)
    (a21 : PySem.W.nsIn K mainGlobals "_law_table_by" = some (some (.ref f21))) (l21 : K.lookup f21 = some ⟨oc21, od21, .func (PySem.W.fnOf "_law_table_by" "_law_table_by" (defArgs s_law_table_by) (defBody s_law_table_by) (defScope s_law_table_by) .none kV21 dc21 pm21 an21 cd21 ct21), sl21⟩) (c21 : PySem.W.codeIn K cd21 "_law_table_by" = true) (k21 : PySem.W.keepIn K (.ref f21) = true)
    (a22 : PySem.W.nsIn K mainGlobals "_law_added" = some (some (.ref f22))) (l22 : K.lookup f22 = some ⟨oc22, od22, .func (PySem.W.fnOf "_law_added" "_law_added" (defArgs s_law_added) (defBody s_law_added) (defScope s_law_added) .none kV22 dc22 pm22 an22 cd22 ct22), sl22⟩) (c22 : PySem.W.codeIn K cd22 "_law_added" = true) (k22 : PySem.W.keepIn K (.ref f22) = true)
    (a23 : PySem.W.nsIn K mainGlobals "_law_least" = some (some (.ref f23))) (l23 : K.lookup f23 = some ⟨oc23, od23, .func (PySem.W.fnOf "_law_least" "_law_least" (defArgs s_law_least) (defBody s_law_least) (defScope s_law_least) .none kV23 dc23 pm23 an23 cd23 ct23), sl23⟩) (c23 : PySem.W.codeIn K cd23 "_law_least" = true) (k23 : PySem.W.keepIn K (.ref f23) = true)
    (a24 : PySem.W.nsIn K mainGlobals "law" = some (some (.ref f24))) (l24 : K.lookup f24 = some ⟨oc24, od24, .func (PySem.W.fnOf "law" "law" (defArgs s_law) (defBody s_law) (defScope s_law) .none kV24 dc24 pm24 an24 cd24 ct24), sl24⟩) (c24 : PySem.W.codeIn K cd24 "law" = true) (k24 : PySem.W.keepIn K (.ref f24) = true)
    (z_abs : PySem.W.nsIn K mainGlobals "abs" = some none) (z_len : PySem.W.nsIn K mainGlobals "len" = some none) (z_isinstance : PySem.W.nsIn K mainGlobals "isinstance" = some none) (z_int : PySem.W.nsIn K mainGlobals "int" = some none) (z_bool : PySem.W.nsIn K mainGlobals "bool" = some none) (z_tuple : PySem.W.nsIn K mainGlobals "tuple" = some none) (z_range : PySem.W.nsIn K mainGlobals "range" = some none) (z_list : PySem.W.nsIn K mainGlobals "list" = some none) (z_min : PySem.W.nsIn K mainGlobals "min" = some none) (z_max : PySem.W.nsIn K mainGlobals "max" = some none) (z_all : PySem.W.nsIn K mainGlobals "all" = some none) (z_enumerate : PySem.W.nsIn K mainGlobals "enumerate" = some none) (z_zip : PySem.W.nsIn K mainGlobals "zip" = some none) (z_sorted : PySem.W.nsIn K mainGlobals "sorted" = some none) (z_reversed : PySem.W.nsIn K mainGlobals "reversed" = some none) :
    ∃ fd : FuncData, (∀ (s : Shared) (v : Value), BindsTo s fd ⟨[v], []⟩ [("_law_script", v)]) ∧ ∀ base : Heap, K.In base → base.Ns mainGlobals mg → FnOk l.prog w K mg base CX0 5 fa fd ["_law_script"] (sp_lawB K) := by
  have e := hfa.symm.trans (PySem.W.mg_of X G a24)
  cases e
  have T : Txt mg := ⟨PySem.W.mg_none_of X G z_abs, PySem.W.mg_none_of X G z_len, PySem.W.mg_none_of X G z_isinstance, PySem.W.mg_none_of X G z_int, PySem.W.mg_none_of X G z_bool, PySem.W.mg_none_of X G z_tuple, PySem.W.mg_none_of X G z_range, PySem.W.mg_none_of X G z_list, PySem.W.mg_none_of X G z_min, PySem.W.mg_none_of X G z_max, PySem.W.mg_none_of X G z_all, PySem.W.mg_none_of X G z_enumerate, PySem.W.mg_none_of X G z_zip, PySem.W.mg_none_of X G z_sorted, PySem.W.mg_none_of X G z_reversed⟩
  have F1 := fun_mk (st := s_divisor) l1 c1 k1
  have b1 := F1.binds (ps := ["one", "other"]) fun _ _ _ _ _ _ us hl => by
    obtain ⟨u0, u1, rfl⟩ := la2 hl
    rfl
  have F2 := fun_mk (st := s_is_whole) l2 c2 k2
  have b2 := F2.binds (ps := ["thing"]) fun _ _ _ _ _ _ us hl => by
    obtain ⟨u0, rfl⟩ := la1 hl
    rfl
  have F4 := fun_mk (st := s_side) l4 c4 k4
  have b4 := F4.binds (ps := ["one"]) fun _ _ _ _ _ _ us hl => by
    obtain ⟨u0, rfl⟩ := la1 hl
    rfl
  have F5 := fun_mk (st := s_poly) l5 c5 k5
  have b5 := F5.binds (ps := ["figures"]) fun _ _ _ _ _ _ us hl => by
    obtain ⟨u0, rfl⟩ := la1 hl
    rfl
  have F6 := fun_mk (st := s_shared_bottom) l6 c6 k6
  have b6 := F6.binds (ps := ["figures"]) fun _ _ _ _ _ _ us hl => by
    obtain ⟨u0, rfl⟩ := la1 hl
    rfl
  have F7 := fun_mk (st := s_whole_figures) l7 c7 k7
  have b7 := F7.binds (ps := ["one", "bottom"]) fun _ _ _ _ _ _ us hl => by
    obtain ⟨u0, u1, rfl⟩ := la2 hl
    rfl
  have F8 := fun_mk (st := s_whole_times) l8 c8 k8
  have b8 := F8.binds (ps := ["one", "other"]) fun _ _ _ _ _ _ us hl => by
    obtain ⟨u0, u1, rfl⟩ := la2 hl
    rfl
  have F9 := fun_mk (st := s_whole_minus) l9 c9 k9
  have b9 := F9.binds (ps := ["one", "other"]) fun _ _ _ _ _ _ us hl => by
    obtain ⟨u0, u1, rfl⟩ := la2 hl
    rfl
  have F10 := fun_mk (st := s_part_beside) l10 c10 k10
  have b10 := F10.binds (ps := ["table", "place", "other"]) fun _ _ _ _ _ _ us hl => by
    obtain ⟨u0, u1, u2, rfl⟩ := la3 hl
    rfl
  have F11 := fun_mk (st := s_parts_of_row) l11 c11 k11
  have b11 := F11.binds (ps := ["table", "place"]) fun _ _ _ _ _ _ us hl => by
    obtain ⟨u0, u1, rfl⟩ := la2 hl
    rfl
  have F12 := fun_mk (st := s_band) l12 c12 k12
  have b12 := F12.binds (ps := ["table"]) fun _ _ _ _ _ _ us hl => by
    obtain ⟨u0, rfl⟩ := la1 hl
    rfl
  have F13 := fun_mk (st := s_law_cell_at) l13 c13 k13
  have b13 := F13.binds (ps := ["_law_script", "_law_k"]) fun _ _ _ _ _ _ us hl => by
    obtain ⟨u0, u1, rfl⟩ := la2 hl
    rfl
  have F14 := fun_mk (st := s_law_whole) l14 c14 k14
  have b14 := F14.binds (ps := ["_law_found"]) fun _ _ _ _ _ _ us hl => by
    obtain ⟨u0, rfl⟩ := la1 hl
    rfl
  have F15 := fun_mk (st := s_law_divisor) l15 c15 k15
  have b15 := F15.binds (ps := ["_law_one", "_law_other"]) fun _ _ _ _ _ _ us hl => by
    obtain ⟨u0, u1, rfl⟩ := la2 hl
    rfl
  have F16 := fun_mk (st := s_law_low) l16 c16 k16
  have b16 := F16.binds (ps := ["_law_top", "_law_bottom"]) fun _ _ _ _ _ _ us hl => by
    obtain ⟨u0, u1, rfl⟩ := la2 hl
    rfl
  have F17 := fun_mk (st := s_law_numbers) l17 c17 k17
  have b17 := F17.binds (ps := ["_law_cell", "_law_many"]) fun _ _ _ _ _ _ us hl => by
    obtain ⟨u0, u1, rfl⟩ := la2 hl
    rfl
  have F18 := fun_mk (st := s_law_worth) l18 c18 k18
  have b18 := F18.binds (ps := ["_law_figures_here", "_law_t"]) fun _ _ _ _ _ _ us hl => by
    obtain ⟨u0, u1, rfl⟩ := la2 hl
    rfl
  have F19 := fun_mk (st := s_law_is) l19 c19 k19
  have b19 := F19.binds (ps := ["_law_one", "_law_due"]) fun _ _ _ _ _ _ us hl => by
    obtain ⟨u0, u1, rfl⟩ := la2 hl
    rfl
  have F20 := fun_mk (st := s_law_figures) l20 c20 k20
  have b20 := F20.binds (ps := ["_law_v", "_law_most"]) fun _ _ _ _ _ _ us hl => by
    obtain ⟨u0, u1, rfl⟩ := la2 hl
    rfl
  have F21 := fun_mk (st := s_law_table_by) l21 c21 k21
  have b21 := F21.binds (ps := ["_law_script"]) fun _ _ _ _ _ _ us hl => by
    obtain ⟨u0, rfl⟩ := la1 hl
    rfl
  have F22 := fun_mk (st := s_law_added) l22 c22 k22
  have b22 := F22.binds (ps := ["_law_more", "_law_taken", "_law_top", "_law_bottom"]) fun _ _ _ _ _ _ us hl => by
    obtain ⟨u0, u1, u2, u3, rfl⟩ := la4 hl
    rfl
  have F23 := fun_mk (st := s_law_least) l23 c23 k23
  have b23 := F23.binds (ps := ["_law_table", "_law_t"]) fun _ _ _ _ _ _ us hl => by
    obtain ⟨u0, u1, rfl⟩ := la2 hl
    rfl
  have F24 := fun_mk (st := s_law) l24 c24 k24
  refine ⟨PySem.W.fnOf "law" "law" (defArgs s_law) (defBody s_law) (defScope s_law) .none kV24 dc24 pm24 an24 cd24 ct24, fun s v => .of_eq rfl, fun base _ _ => ?_⟩
  have C_divisor : Cal l.prog w K mg base "divisor" 1 ["one", "other"] (sp_div) := ⟨_, _, ok_divisor F1 T, b1, k1, PySem.W.mg_of X G a1⟩
  have C_is_whole : Cal l.prog w K mg base "is_whole" 1 ["thing"] (sp_whole) := ⟨_, _, ok_is_whole F2 T, b2, k2, PySem.W.mg_of X G a2⟩
  have O_fraction := ok_fraction (P := l.prog) (w := w) (base := base) (dV := .ref dt3) ⟨_, _, _, _, _, _, _, _, _, rfl, l3, c3⟩ T C_is_whole C_divisor
  have bd3_0 : Binds K (PySem.W.fnOf "fraction" "fraction" (defArgs s_fraction) (defBody s_fraction) (defScope s_fraction) (.ref dt3) kV3 dc3 pm3 an3 cd3 ct3) ["top", "bottom"] [] := fun s us KI hl => by
    simp only [List.length_append, List.length_cons, List.length_nil] at hl
    rcases us with _ | ⟨u0, _ | ⟨u1, _ | ⟨ux, us⟩⟩⟩
    · simp only [List.length_cons, List.length_nil] at hl; (first | lia | omega)
    · simp only [List.length_cons, List.length_nil] at hl; (first | lia | omega)
    · exact PySem.W.binds_K KI rfl d3 rfl rfl rfl
    · simp only [List.length_cons] at hl; (first | lia | omega)
  have C_fraction_d0 : CalD l.prog w K mg base "fraction" 2 ["top", "bottom"] [] [] (sp_fracQ) := ⟨⟨_, _, O_fraction, bd3_0, k3, PySem.W.mg_of X G a3⟩, .nil⟩
  have bd3_1 : Binds K (PySem.W.fnOf "fraction" "fraction" (defArgs s_fraction) (defBody s_fraction) (defScope s_fraction) (.ref dt3) kV3 dc3 pm3 an3 cd3 ct3) ["top", "bottom"] [.int 1 dtk3_0] := fun s us KI hl => by
    simp only [List.length_append, List.length_cons, List.length_nil] at hl
    rcases us with _ | ⟨u0, _ | ⟨ux, us⟩⟩
    · simp only [List.length_cons, List.length_nil] at hl; (first | lia | omega)
    · exact PySem.W.binds_K KI rfl d3 rfl rfl rfl
    · simp only [List.length_cons] at hl; (first | lia | omega)
  have C_fraction_d1 : CalD l.prog w K mg base "fraction" 2 ["top", "bottom"] [.int 1 dtk3_0] [(.int 1 : V)] (sp_fracQ) := ⟨⟨_, _, O_fraction, bd3_1, k3, PySem.W.mg_of X G a3⟩, (.cons ⟨_, rfl⟩ .nil)⟩
  have C_side : Cal l.prog w K mg base "side" 1 ["one"] (sp_side) := ⟨_, _, ok_side F4 T, b4, k4, PySem.W.mg_of X G a4⟩
  have C_poly : Cal l.prog w K mg base "poly" 2 ["figures"] (sp_stripQ) := ⟨_, _, ok_poly F5 T C_side, b5, k5, PySem.W.mg_of X G a5⟩
  have C_shared_bottom : Cal l.prog w K mg base "shared_bottom" 2 ["figures"] (sp_shb) := ⟨_, _, ok_shared_bottom F6 T C_divisor, b6, k6, PySem.W.mg_of X G a6⟩
  have C_whole_figures : Cal l.prog w K mg base "whole_figures" 1 ["one", "bottom"] (sp_whf) := ⟨_, _, ok_whole_figures F7 T, b7, k7, PySem.W.mg_of X G a7⟩
  have C_whole_times : Cal l.prog w K mg base "whole_times" 1 ["one", "other"] (sp_wht) := ⟨_, _, ok_whole_times F8 T, b8, k8, PySem.W.mg_of X G a8⟩
  have C_whole_minus : Cal l.prog w K mg base "whole_minus" 1 ["one", "other"] (sp_whm) := ⟨_, _, ok_whole_minus F9 T, b9, k9, PySem.W.mg_of X G a9⟩
  have C_part_beside : Cal l.prog w K mg base "part_beside" 1 ["table", "place", "other"] (sp_beside) := ⟨_, _, ok_part_beside F10 T, b10, k10, PySem.W.mg_of X G a10⟩
  have C_parts_of_row : Cal l.prog w K mg base "parts_of_row" 2 ["table", "place"] (sp_parts) := ⟨_, _, ok_parts_of_row F11 T C_part_beside, b11, k11, PySem.W.mg_of X G a11⟩
  have C_band : Cal l.prog w K mg base "band" 3 ["table"] (sp_band) := ⟨_, _, ok_band F12 T C_parts_of_row C_shared_bottom C_whole_figures C_whole_times C_whole_minus C_fraction_d0 C_poly, b12, k12, PySem.W.mg_of X G a12⟩
  have C_law_cell_at : Cal l.prog w K mg base "_law_cell_at" 1 ["_law_script", "_law_k"] (sp_cell0 K) := ⟨_, _, ok_law_cell_at F13 T, b13, k13, PySem.W.mg_of X G a13⟩
  have C_law_whole : Cal l.prog w K mg base "_law_whole" 1 ["_law_found"] (sp_whole) := ⟨_, _, ok_law_whole F14 T, b14, k14, PySem.W.mg_of X G a14⟩
  have C_law_divisor : Cal l.prog w K mg base "_law_divisor" 1 ["_law_one", "_law_other"] (sp_gcd) := ⟨_, _, ok_law_divisor F15 T, b15, k15, PySem.W.mg_of X G a15⟩
  have C_law_low : Cal l.prog w K mg base "_law_low" 2 ["_law_top", "_law_bottom"] (sp_lowQ) := ⟨_, _, ok_law_low F16 T C_law_divisor, b16, k16, PySem.W.mg_of X G a16⟩
  have C_law_numbers : Cal l.prog w K mg base "_law_numbers" 1 ["_law_cell", "_law_many"] (sp_numbers) := ⟨_, _, ok_law_numbers F17 T, b17, k17, PySem.W.mg_of X G a17⟩
  have C_law_worth : Cal l.prog w K mg base "_law_worth" 1 ["_law_figures_here", "_law_t"] (sp_worthG) := ⟨_, _, ok_law_worth F18 T, b18, k18, PySem.W.mg_of X G a18⟩
  have C_law_is : Cal l.prog w K mg base "_law_is" 1 ["_law_one", "_law_due"] (sp_isR) := ⟨_, _, ok_law_is F19 T, b19, k19, PySem.W.mg_of X G a19⟩
  have C_law_figures : Cal l.prog w K mg base "_law_figures" 3 ["_law_v", "_law_most"] (sp_figs32) := ⟨_, _, ok_law_figures F20 T C_law_low, b20, k20, PySem.W.mg_of X G a20⟩
  have C_law_table_by : Cal l.prog w K mg base "_law_table_by" 4 ["_law_script"] (sp_table K) := ⟨_, _, ok_law_table_by F21 T C_law_cell_at C_law_numbers C_law_figures, b21, k21, PySem.W.mg_of X G a21⟩
  have C_law_added : Cal l.prog w K mg base "_law_added" 3 ["_law_more", "_law_taken", "_law_top", "_law_bottom"] (sp_added) := ⟨_, _, ok_law_added F22 T C_law_low, b22, k22, PySem.W.mg_of X G a22⟩
  have C_law_least : Cal l.prog w K mg base "_law_least" 4 ["_law_table", "_law_t"] (sp_least) := ⟨_, _, ok_law_least F23 T C_law_worth C_law_added, b23, k23, PySem.W.mg_of X G a23⟩
  exact ok_law F24 T C_law_cell_at C_law_whole C_law_divisor C_law_table_by C_law_worth C_law_is C_law_least C_band
theorem walk {l : PySem.W.OpenLaw} {q : Program} {loose : List Str} {XP : (Str → Option Value) → Heap → Prop} {YP : World → Heap → Prop} {d : DefRec} {K : Params → PySem.W.Frag} (hn : l.most = some 63) (hdf : d.params.defaults = [])
    (hY : ∀ (w : World) (h : Heap), YP w h → (K w.params).In h)
    (F : ∀ (w : World) (mg : Str → Option Value) (fa : Addr) (h : Heap), (K w.params).In h → h.Ns mainGlobals mg → mg d.name = some (.ref fa) →
      ∃ fd : FuncData, (∀ (s : Shared) (u : Value), BindsTo s fd ⟨[u], []⟩ [("_law_script", u)]) ∧ ∀ base : Heap, (K w.params).In base → base.Ns mainGlobals mg → FnOk l.prog w (K w.params) mg base CX0 5 fa fd ["_law_script"] (sp_lawB (K w.params))) :
    PySem.W.WalkO q loose XP YP l.row.toRowW d [] (fun f vs => PySem.call f vs) :=
  L3.walkB_of (n := 63) (k := 5) (x := "_law_script") (CX := fun _ => CX0) (sp := fun w => sp_lawB (K w.params)) hn (by decide) hdf ⟨rfl, by decide, by decide⟩ hY F (fun _ _ a ns hl hb hS => ⟨a, ns, rfl, hS, hl, hb, fun _ => rfl⟩) fun _ _ _ _ _ z => z
end My
namespace My
open PySem PySem.W L2
noncomputable abbrev tp : Program := PySem.Challenge.pw_tautcord_k32_bands_by_elimination
noncomputable abbrev ke (P : Params) (x : Str) (n : Nat) (v : Value) : DictEntry := { hash := PyData.keyHash P x, key := .str x n, val := v }
noncomputable abbrev fo (x y : Str) (s : Stmt) (g : Addr) (m c : Value) : Obj := { cls := .type "function", data := .func { name := x, qualname := y, params := defArgs s, body := .stmts (defBody s), scope := defScope s, globals := g, closure := [], defaults := .none, kwdefaults := .none, pyModule := m, code := c } }
noncomputable abbrev tE : Obj := { cls := .type "tuple", data := .seq #[] }
noncomputable abbrev fE : Obj := { cls := .none, data := .fields #[] }
noncomputable def tL : Nat → List Str → List Value
  | _, [] => []
  | n, x :: xs => .str x n :: tL (n + 1) xs
noncomputable abbrev tS (n : Nat) (xs : List Str) : Obj := { cls := .type "tuple", data := .seq (Array.mk (tL n xs)) }
noncomputable abbrev pF (x y : Str) (s : Stmt) : Obj := { cls := .none, dict := none, data := .func { name := x, qualname := y, params := defArgs s, body := .stmts (defBody s), scope := defScope s, globals := 0, closure := [], defaults := .none, kwdefaults := .none, doc := .none, pyModule := .none, annotations := none, code := .none, closureTuple := .none, builtins := 0 }, slots := #[] }
noncomputable abbrev cO (x y : Str) (k l a b r m z : Nat) : Obj := { cls := .type "code", data := .fields #[.str x k, .str y (k + 1), .str "/claim/cut.py" (k + 2), .int l 0, .int a 0, .int 0 0, .int 0 0, .int b 0, .ref r, .bool Bool.true, .int 181 0, .ref (r + 1), .none, .ref (r + 2), .ref (r + 3), .ref (r + 4), .int m 0, .int l 0, .str "/claim/cut.py" z] }
noncomputable abbrev lf (o : Obj) : BT := .node o .nil .nil
noncomputable def q : Program := view tp [1, 2, 4, 5, 8, 10, 11, 12, 13, 15, 16, 17, 18, 20, 21, 22, 23, 24, 25, 26, 27, 28, 29, 30, 31]
noncomputable def bE : List Stmt := behindTheImports tp
noncomputable def eE : Env := { scope := tp.main.scope, locals := mainNs, globals := mainNs, cells := [], code := .ref 13, frame := some 14 }
noncomputable abbrev cE : Code := .body bE eE
noncomputable def u11_a (P : Params) : Obj := tE
noncomputable def u12_a (P : Params) : Obj := fE
noncomputable def u13_a (P : Params) : Obj := { cls := .type "code", data := .fields #[.str "<module>" 182, .str "<module>" 183, .str "/claim/cut.py" 184, .int 1 0, .int 0 0, .int 0 0, .int 0 0, .int 0 0, .ref 11, .bool Bool.false, .int 181 0, .ref 12, .none, .none, .none, .none, .int 185 0, .int 1 0, .str "/claim/cut.py" 186] }
noncomputable def u14_a (P : Params) : Obj := { cls := .type "frame", slots := #[some (.ref 13), some (.ref 3), some (.ref 3), none, some (.str "__main__" 164), none, some (.ref 0)] }
noncomputable def u3_1 (P : Params) : Obj := { cls := .type "dict", data := .dict #[ke P "__name__" 165 (.str "law_tautcord_k32_bands_by_elimination" 336), ke P "__doc__" 166 .none, ke P "__package__" 167 .none, ke P "__loader__" 168 (.builtin "__main__.__loader__#opaque"), ke P "__spec__" 169 .none, ke P "__annotations__" 170 (.ref 6), ke P "__builtins__" 171 (.ref 4), ke P "__file__" 173 (.str "/claim/cut.py" 172), ke P "__cached__" 174 .none, ke P "CordError" 206 (.ref 24), ke P "NoFraction" 222 (.ref 37), ke P "is_whole" 231 (.ref 46), ke P "divisor" 242 (.ref 53), ke P "fraction" 254 (.ref 61), ke P "side" 261 (.ref 68), ke P "poly" 271 (.ref 75), ke P "shared_bottom" 280 (.ref 82), ke P "whole_figures" 286 (.ref 87), ke P "whole_times" 299 (.ref 94), ke P "band" 307 (.ref 99), ke P "parts_of_row" 315 (.ref 106), ke P "part_beside" 324 (.ref 113), ke P "whole_minus" 335 (.ref 120), ke P "_law_cell_at" 345 (.ref 127), ke P "_law_whole" 352 (.ref 134), ke P "_law_divisor" 360 (.ref 141), ke P "_law_low" 369 (.ref 148), ke P "_law_numbers" 381 (.ref 155)] 28 }
noncomputable def u12_1 (P : Params) : Obj := { cls := .none, data := .fields #[.int 2 0, .int 0 0, .ref 20, .int 4 0, .int 0 0, .ref 33, .int 7 0, .int 0 0, .ref 45, .int 9 0, .int 0 0, .ref 52, .int 18 0, .int 0 0, .ref 60, .int 27 0, .int 0 0, .ref 67, .int 34 0, .int 0 0, .ref 74, .int 39 0, .int 0 0, .ref 81, .int 44 0, .int 0 0, .ref 86, .int 46 0, .int 0 0, .ref 93, .int 55 0, .int 0 0, .ref 98, .int 71 0, .int 0 0, .ref 105, .int 73 0, .int 0 0, .ref 112, .int 77 0, .int 0 0, .ref 119, .int 83 0, .int 0 0, .ref 126, .int 87 0, .int 0 0, .ref 133, .int 89 0, .int 0 0, .ref 140, .int 93 0, .int 0 0, .ref 147, .int 96 0, .int 0 0, .ref 154] }
noncomputable def u15_1 (P : Params) : Obj := { cls := .type "tuple", data := .seq #[.type "ValueError"] }
noncomputable def u16_1 (P : Params) : Obj := { cls := .type "builtin_function_or_method", data := .fields #[.builtin "type.__prepare__", .type "type"] }
noncomputable def u17_1 (P : Params) : Obj := { cls := .type "dict", data := .dict #[ke P "__module__" 196 (.str "tautcord.errors" 187), ke P "__qualname__" 198 (.str "CordError" 197), ke P "__firstlineno__" 200 (.int 2 199), ke P "__static_attributes__" 201 (.ref 22)] 4 }
noncomputable def u18_1 (P : Params) : Obj := tE
noncomputable def u19_1 (P : Params) : Obj := fE
noncomputable def u20_1 (P : Params) : Obj := { cls := .type "code", data := .fields #[.str "CordError" 191, .str "CordError" 192, .str "/claim/cut.py" 193, .int 2 0, .int 0 0, .int 0 0, .int 0 0, .int 0 0, .ref 18, .bool Bool.false, .int 181 0, .ref 19, .none, .none, .none, .none, .int 194 0, .int 2 0, .str "/claim/cut.py" 195] }
noncomputable def u21_1 (P : Params) : Obj := { cls := .type "frame", slots := #[some (.ref 20), some (.ref 3), some (.ref 17), none, some (.str "tautcord.errors" 187), none, some (.ref 0)] }
noncomputable def u22_1 (P : Params) : Obj := tE
noncomputable def u23_1 (P : Params) : Obj := { cls := .type "dict", data := .dict #[ke P "__module__" 196 (.str "tautcord.errors" 187), ke P "__firstlineno__" 200 (.int 2 199), ke P "__static_attributes__" 201 (.ref 22), ke P "__weakref__" 203 (.ref 25), ke P "__doc__" 204 .none] 3 }
noncomputable def u24_1 (P : Params) : Obj := { cls := .type "type", data := .cls { name := "CordError", bases := [.type "ValueError"], mro := [.ref 24, .type "ValueError", .type "Exception", .type "BaseException", .type "object"], ns := 23, qualname := "CordError", subclasses := [.ref 37] }, slots := #[some (.ref 15), none, some (.str "CordError" 189), some (.str "CordError" 197), some (.builtin "ValueError.__new__"), some (.bool Bool.true)] }
noncomputable def u25_1 (P : Params) : Obj := { cls := .type "getset_descriptor", data := .fields #[.str "__weakref__" 202, .ref 24, .builtin "ExceptionGroup.__weakref__", .none] }
noncomputable def u26_1 (P : Params) : Obj := { cls := .type "super", data := .fields #[.ref 24, .ref 24, .ref 24] }
noncomputable def u27_1 (P : Params) : Obj := { cls := .type "builtin_function_or_method", data := .fields #[.builtin "object.__init_subclass__", .ref 24] }
noncomputable def u28_1 (P : Params) : Obj := { cls := .type "tuple", data := .seq #[.ref 24] }
noncomputable def u29_1 (P : Params) : Obj := { cls := .type "builtin_function_or_method", data := .fields #[.builtin "type.__prepare__", .type "type"] }
noncomputable def u30_1 (P : Params) : Obj := { cls := .type "dict", data := .dict #[ke P "__module__" 214 (.str "tautcord.errors" 187), ke P "__qualname__" 216 (.str "NoFraction" 215), ke P "__firstlineno__" 218 (.int 4 217), ke P "__static_attributes__" 219 (.ref 35)] 4 }
noncomputable def u31_1 (P : Params) : Obj := tE
noncomputable def u32_1 (P : Params) : Obj := fE
noncomputable def u33_1 (P : Params) : Obj := { cls := .type "code", data := .fields #[.str "NoFraction" 209, .str "NoFraction" 210, .str "/claim/cut.py" 211, .int 4 0, .int 0 0, .int 0 0, .int 0 0, .int 0 0, .ref 31, .bool Bool.false, .int 181 0, .ref 32, .none, .none, .none, .none, .int 212 0, .int 4 0, .str "/claim/cut.py" 213] }
noncomputable def u34_1 (P : Params) : Obj := { cls := .type "frame", slots := #[some (.ref 33), some (.ref 3), some (.ref 30), none, some (.str "tautcord.errors" 187), none, some (.ref 0)] }
noncomputable def u35_1 (P : Params) : Obj := tE
noncomputable def u36_1 (P : Params) : Obj := { cls := .type "dict", data := .dict #[ke P "__module__" 214 (.str "tautcord.errors" 187), ke P "__firstlineno__" 218 (.int 4 217), ke P "__static_attributes__" 219 (.ref 35), ke P "__doc__" 220 .none] 2 }
noncomputable def u37_1 (P : Params) : Obj := { cls := .type "type", data := .cls { name := "NoFraction", bases := [.ref 24], mro := [.ref 37, .ref 24, .type "ValueError", .type "Exception", .type "BaseException", .type "object"], ns := 36, qualname := "NoFraction" }, slots := #[some (.ref 28), none, some (.str "NoFraction" 207), some (.str "NoFraction" 215), some (.builtin "ValueError.__new__"), some (.bool Bool.true)] }
noncomputable def u38_1 (P : Params) : Obj := { cls := .type "super", data := .fields #[.ref 37, .ref 37, .ref 37] }
noncomputable def u39_1 (P : Params) : Obj := { cls := .type "builtin_function_or_method", data := .fields #[.builtin "object.__init_subclass__", .ref 37] }
noncomputable def u40_1 (P : Params) : Obj := tE
noncomputable def u41_1 (P : Params) : Obj := fE
noncomputable def u42_1 (P : Params) : Obj := tS 228 ["thing"]
noncomputable def u43_1 (P : Params) : Obj := tE
noncomputable def u44_1 (P : Params) : Obj := pF "is_whole" "is_whole" (top 4)
noncomputable def u45_1 (P : Params) : Obj := cO "is_whole" "is_whole" 225 7 1 3 40 229 230
noncomputable def u46_1 (P : Params) : Obj := fo "is_whole" "is_whole" (top 4) 3 (.str "tautcord.wholes" 223) (.ref 45)
noncomputable def u47_1 (P : Params) : Obj := tE
noncomputable def u48_1 (P : Params) : Obj := fE
noncomputable def u49_1 (P : Params) : Obj := tS 235 ["one", "other", "first", "second", "rest"]
noncomputable def u50_1 (P : Params) : Obj := tE
noncomputable def u51_1 (P : Params) : Obj := pF "divisor" "divisor" (top 5)
noncomputable def u52_1 (P : Params) : Obj := cO "divisor" "divisor" 232 9 2 3 47 240 241
noncomputable def u53_1 (P : Params) : Obj := fo "divisor" "divisor" (top 5) 3 (.str "tautcord.wholes" 223) (.ref 52)
noncomputable def u54_1 (P : Params) : Obj := { cls := .type "tuple", data := .seq #[.int 1 245] }
noncomputable def u55_1 (P : Params) : Obj := tE
noncomputable def u56_1 (P : Params) : Obj := fE
noncomputable def u57_1 (P : Params) : Obj := tS 249 ["top", "bottom", "shared"]
noncomputable def u58_1 (P : Params) : Obj := tE
noncomputable def u59_1 (P : Params) : Obj := pF "fraction" "fraction" (top 7)
noncomputable def u60_1 (P : Params) : Obj := cO "fraction" "fraction" 246 18 2 3 55 252 253
noncomputable def u61_1 (P : Params) : Obj := { cls := .type "function", dict := none, data := .func { name := "fraction", qualname := "fraction", params := defArgs (top 7), body := .stmts (defBody (top 7)), scope := defScope (top 7), globals := 3, closure := [], defaults := .ref 54, kwdefaults := .none, doc := .none, pyModule := .str "tautcord.ratios" 243, annotations := none, code := .ref 60, closureTuple := .none, builtins := 0 }, slots := #[] }
noncomputable def u62_1 (P : Params) : Obj := tE
noncomputable def u63_1 (P : Params) : Obj := fE
noncomputable def u64_1 (P : Params) : Obj := tS 258 ["one"]
noncomputable def u65_1 (P : Params) : Obj := tE
noncomputable def u66_1 (P : Params) : Obj := pF "side" "side" (top 8)
noncomputable def u67_1 (P : Params) : Obj := cO "side" "side" 255 27 1 3 62 259 260
noncomputable def u68_1 (P : Params) : Obj := fo "side" "side" (top 8) 3 (.str "tautcord.ratios" 243) (.ref 67)
noncomputable def u69_1 (P : Params) : Obj := tE
noncomputable def u70_1 (P : Params) : Obj := fE
noncomputable def u71_1 (P : Params) : Obj := tS 267 ["figures", "most"]
noncomputable def u72_1 (P : Params) : Obj := tE
noncomputable def u73_1 (P : Params) : Obj := pF "poly" "poly" (top 10)
noncomputable def u74_1 (P : Params) : Obj := cO "poly" "poly" 264 34 1 3 69 269 270
noncomputable def u75_1 (P : Params) : Obj := fo "poly" "poly" (top 10) 3 (.str "tautcord.polys" 262) (.ref 74)
noncomputable def u76_1 (P : Params) : Obj := tE
noncomputable def u77_1 (P : Params) : Obj := fE
noncomputable def u78_1 (P : Params) : Obj := tS 275 ["figures", "bottom", "figure"]
noncomputable def u79_1 (P : Params) : Obj := tE
noncomputable def u80_1 (P : Params) : Obj := pF "shared_bottom" "shared_bottom" (top 11)
noncomputable def u81_1 (P : Params) : Obj := cO "shared_bottom" "shared_bottom" 272 39 1 3 76 278 279
noncomputable def u82_1 (P : Params) : Obj := fo "shared_bottom" "shared_bottom" (top 11) 3 (.str "tautcord.polys" 262) (.ref 81)
noncomputable def u83_1 (P : Params) : Obj := tE
noncomputable def u84_1 (P : Params) : Obj := fE
noncomputable def u85_1 (P : Params) : Obj := pF "whole_figures" "whole_figures" (top 12)
noncomputable def u86_1 (P : Params) : Obj := { cls := .type "code", data := .fields #[.str "whole_figures" 281, .str "whole_figures" 282, .str "/claim/cut.py" 283, .int 44 0, .int 2 0, .int 0 0, .int 0 0, .int 3 0, .ref 83, .bool Bool.true, .int 181 0, .ref 84, .none, .none, .none, .ref 85, .int 284 0, .int 44 0, .str "/claim/cut.py" 285] }
noncomputable def u87_1 (P : Params) : Obj := fo "whole_figures" "whole_figures" (top 12) 3 (.str "tautcord.polys" 262) (.ref 86)
noncomputable def u88_1 (P : Params) : Obj := tE
noncomputable def u89_1 (P : Params) : Obj := fE
noncomputable def u90_1 (P : Params) : Obj := tS 290 ["one", "other", "product", "power", "figure", "further", "factor"]
noncomputable def u91_1 (P : Params) : Obj := tE
noncomputable def u92_1 (P : Params) : Obj := pF "whole_times" "whole_times" (top 13)
noncomputable def u93_1 (P : Params) : Obj := cO "whole_times" "whole_times" 287 46 2 3 88 297 298
noncomputable def u94_1 (P : Params) : Obj := fo "whole_times" "whole_times" (top 13) 3 (.str "tautcord.polys" 262) (.ref 93)
noncomputable def u95_1 (P : Params) : Obj := tE
noncomputable def u96_1 (P : Params) : Obj := fE
noncomputable def u97_1 (P : Params) : Obj := pF "band" "band" (top 15)
noncomputable def u98_1 (P : Params) : Obj := { cls := .type "code", data := .fields #[.str "band" 302, .str "band" 303, .str "/claim/cut.py" 304, .int 55 0, .int 1 0, .int 0 0, .int 0 0, .int 3 0, .ref 95, .bool Bool.true, .int 181 0, .ref 96, .none, .none, .none, .ref 97, .int 305 0, .int 55 0, .str "/claim/cut.py" 306] }
noncomputable def u99_1 (P : Params) : Obj := fo "band" "band" (top 15) 3 (.str "tautcord.bands" 300) (.ref 98)
noncomputable def u100_1 (P : Params) : Obj := tE
noncomputable def u101_1 (P : Params) : Obj := fE
noncomputable def u102_1 (P : Params) : Obj := tS 311 ["table", "place"]
noncomputable def u103_1 (P : Params) : Obj := tE
noncomputable def u104_1 (P : Params) : Obj := pF "parts_of_row" "parts_of_row" (top 16)
noncomputable def u105_1 (P : Params) : Obj := cO "parts_of_row" "parts_of_row" 308 71 2 3 100 313 314
noncomputable def u106_1 (P : Params) : Obj := fo "parts_of_row" "parts_of_row" (top 16) 3 (.str "tautcord.bands" 300) (.ref 105)
noncomputable def u107_1 (P : Params) : Obj := tE
noncomputable def u108_1 (P : Params) : Obj := fE
noncomputable def u109_1 (P : Params) : Obj := tS 319 ["table", "place", "other"]
noncomputable def u110_1 (P : Params) : Obj := tE
noncomputable def u111_1 (P : Params) : Obj := pF "part_beside" "part_beside" (top 17)
noncomputable def u112_1 (P : Params) : Obj := cO "part_beside" "part_beside" 316 73 3 3 107 322 323
noncomputable def u113_1 (P : Params) : Obj := fo "part_beside" "part_beside" (top 17) 3 (.str "tautcord.bands" 300) (.ref 112)
noncomputable def u114_1 (P : Params) : Obj := tE
noncomputable def u115_1 (P : Params) : Obj := fE
noncomputable def u116_1 (P : Params) : Obj := tS 328 ["one", "other", "rest", "power", "figure"]
noncomputable def u117_1 (P : Params) : Obj := tE
noncomputable def u118_1 (P : Params) : Obj := pF "whole_minus" "whole_minus" (top 18)
noncomputable def u119_1 (P : Params) : Obj := cO "whole_minus" "whole_minus" 325 77 2 3 114 333 334
noncomputable def u120_1 (P : Params) : Obj := fo "whole_minus" "whole_minus" (top 18) 3 (.str "tautcord.bands" 300) (.ref 119)
noncomputable def u121_1 (P : Params) : Obj := tE
noncomputable def u122_1 (P : Params) : Obj := fE
noncomputable def u123_1 (P : Params) : Obj := tS 341 ["_law_script", "_law_k"]
noncomputable def u124_1 (P : Params) : Obj := tE
noncomputable def u125_1 (P : Params) : Obj := pF "_law_cell_at" "_law_cell_at" (top 20)
noncomputable def u126_1 (P : Params) : Obj := cO "_law_cell_at" "_law_cell_at" 338 83 2 3 121 343 344
noncomputable def u127_1 (P : Params) : Obj := fo "_law_cell_at" "_law_cell_at" (top 20) 3 (.str "law_tautcord_k32_bands_by_elimination" 336) (.ref 126)
noncomputable def u128_1 (P : Params) : Obj := tE
noncomputable def u129_1 (P : Params) : Obj := fE
noncomputable def u130_1 (P : Params) : Obj := tS 349 ["_law_found"]
noncomputable def u131_1 (P : Params) : Obj := tE
noncomputable def u132_1 (P : Params) : Obj := pF "_law_whole" "_law_whole" (top 21)
noncomputable def u133_1 (P : Params) : Obj := cO "_law_whole" "_law_whole" 346 87 1 3 128 350 351
noncomputable def u134_1 (P : Params) : Obj := fo "_law_whole" "_law_whole" (top 21) 3 (.str "law_tautcord_k32_bands_by_elimination" 336) (.ref 133)
noncomputable def u135_1 (P : Params) : Obj := tE
noncomputable def u136_1 (P : Params) : Obj := fE
noncomputable def u137_1 (P : Params) : Obj := tS 356 ["_law_one", "_law_other"]
noncomputable def u138_1 (P : Params) : Obj := tE
noncomputable def u139_1 (P : Params) : Obj := pF "_law_divisor" "_law_divisor" (top 22)
noncomputable def u140_1 (P : Params) : Obj := cO "_law_divisor" "_law_divisor" 353 89 2 3 135 358 359
noncomputable def u141_1 (P : Params) : Obj := fo "_law_divisor" "_law_divisor" (top 22) 3 (.str "law_tautcord_k32_bands_by_elimination" 336) (.ref 140)
noncomputable def u142_1 (P : Params) : Obj := tE
noncomputable def u143_1 (P : Params) : Obj := fE
noncomputable def u144_1 (P : Params) : Obj := tS 364 ["_law_top", "_law_bottom", "_law_part"]
noncomputable def u145_1 (P : Params) : Obj := tE
noncomputable def u146_1 (P : Params) : Obj := pF "_law_low" "_law_low" (top 23)
noncomputable def u147_1 (P : Params) : Obj := cO "_law_low" "_law_low" 361 93 2 3 142 367 368
noncomputable def u148_1 (P : Params) : Obj := fo "_law_low" "_law_low" (top 23) 3 (.str "law_tautcord_k32_bands_by_elimination" 336) (.ref 147)
noncomputable def u149_1 (P : Params) : Obj := tE
noncomputable def u150_1 (P : Params) : Obj := fE
noncomputable def u151_1 (P : Params) : Obj := tS 373 ["_law_cell", "_law_many", "_law_found", "_law_rest", "_law_k", "_law_one"]
noncomputable def u152_1 (P : Params) : Obj := tE
noncomputable def u153_1 (P : Params) : Obj := pF "_law_numbers" "_law_numbers" (top 24)
noncomputable def u154_1 (P : Params) : Obj := cO "_law_numbers" "_law_numbers" 370 96 2 3 149 379 380
noncomputable def u155_1 (P : Params) : Obj := fo "_law_numbers" "_law_numbers" (top 24) 3 (.str "law_tautcord_k32_bands_by_elimination" 336) (.ref 154)
noncomputable def u3_2 (P : Params) : Obj := { cls := .type "dict", data := .dict #[ke P "__name__" 165 (.str "law_tautcord_k32_bands_by_elimination" 336), ke P "__doc__" 166 .none, ke P "__package__" 167 .none, ke P "__loader__" 168 (.builtin "__main__.__loader__#opaque"), ke P "__spec__" 169 .none, ke P "__annotations__" 170 (.ref 6), ke P "__builtins__" 171 (.ref 4), ke P "__file__" 173 (.str "/claim/cut.py" 172), ke P "__cached__" 174 .none, ke P "CordError" 206 (.ref 24), ke P "NoFraction" 222 (.ref 37), ke P "is_whole" 231 (.ref 46), ke P "divisor" 242 (.ref 53), ke P "fraction" 254 (.ref 61), ke P "side" 261 (.ref 68), ke P "poly" 271 (.ref 75), ke P "shared_bottom" 280 (.ref 82), ke P "whole_figures" 286 (.ref 87), ke P "whole_times" 299 (.ref 94), ke P "band" 307 (.ref 99), ke P "parts_of_row" 315 (.ref 106), ke P "part_beside" 324 (.ref 113), ke P "whole_minus" 335 (.ref 120), ke P "_law_cell_at" 345 (.ref 127), ke P "_law_whole" 352 (.ref 134), ke P "_law_divisor" 360 (.ref 141), ke P "_law_low" 369 (.ref 148), ke P "_law_numbers" 381 (.ref 155), ke P "_law_worth" 392 (.ref 162), ke P "_law_is" 400 (.ref 169), ke P "_law_figures" 412 (.ref 176), ke P "_law_table_by" 426 (.ref 183), ke P "_law_least" 432 (.ref 188), ke P "_law_added" 443 (.ref 195), ke P "law" 449 (.ref 200)] 35 }
noncomputable def u12_2 (P : Params) : Obj := { cls := .none, data := .fields #[.int 2 0, .int 0 0, .ref 20, .int 4 0, .int 0 0, .ref 33, .int 7 0, .int 0 0, .ref 45, .int 9 0, .int 0 0, .ref 52, .int 18 0, .int 0 0, .ref 60, .int 27 0, .int 0 0, .ref 67, .int 34 0, .int 0 0, .ref 74, .int 39 0, .int 0 0, .ref 81, .int 44 0, .int 0 0, .ref 86, .int 46 0, .int 0 0, .ref 93, .int 55 0, .int 0 0, .ref 98, .int 71 0, .int 0 0, .ref 105, .int 73 0, .int 0 0, .ref 112, .int 77 0, .int 0 0, .ref 119, .int 83 0, .int 0 0, .ref 126, .int 87 0, .int 0 0, .ref 133, .int 89 0, .int 0 0, .ref 140, .int 93 0, .int 0 0, .ref 147, .int 96 0, .int 0 0, .ref 154, .int 107 0, .int 0 0, .ref 161, .int 114 0, .int 0 0, .ref 168, .int 116 0, .int 0 0, .ref 175, .int 126 0, .int 0 0, .ref 182, .int 145 0, .int 0 0, .ref 187, .int 158 0, .int 0 0, .ref 194, .int 161 0, .int 0 0, .ref 199] }
noncomputable def u156_2 (P : Params) : Obj := tE
noncomputable def u157_2 (P : Params) : Obj := fE
noncomputable def u158_2 (P : Params) : Obj := tS 385 ["_law_figures_here", "_law_t", "_law_top", "_law_bottom", "_law_figure"]
noncomputable def u159_2 (P : Params) : Obj := tE
noncomputable def u160_2 (P : Params) : Obj := pF "_law_worth" "_law_worth" (top 25)
noncomputable def u161_2 (P : Params) : Obj := cO "_law_worth" "_law_worth" 382 107 2 3 156 390 391
noncomputable def u162_2 (P : Params) : Obj := fo "_law_worth" "_law_worth" (top 25) 3 (.str "law_tautcord_k32_bands_by_elimination" 336) (.ref 161)
noncomputable def u163_2 (P : Params) : Obj := tE
noncomputable def u164_2 (P : Params) : Obj := fE
noncomputable def u165_2 (P : Params) : Obj := tS 396 ["_law_one", "_law_due"]
noncomputable def u166_2 (P : Params) : Obj := tE
noncomputable def u167_2 (P : Params) : Obj := pF "_law_is" "_law_is" (top 26)
noncomputable def u168_2 (P : Params) : Obj := cO "_law_is" "_law_is" 393 114 2 3 163 398 399
noncomputable def u169_2 (P : Params) : Obj := fo "_law_is" "_law_is" (top 26) 3 (.str "law_tautcord_k32_bands_by_elimination" 336) (.ref 168)
noncomputable def u170_2 (P : Params) : Obj := tE
noncomputable def u171_2 (P : Params) : Obj := fE
noncomputable def u172_2 (P : Params) : Obj := tS 404 ["_law_v", "_law_most", "_law_many", "_law_rest", "_law_found", "_law_k"]
noncomputable def u173_2 (P : Params) : Obj := tE
noncomputable def u174_2 (P : Params) : Obj := pF "_law_figures" "_law_figures" (top 27)
noncomputable def u175_2 (P : Params) : Obj := cO "_law_figures" "_law_figures" 401 116 2 3 170 410 411
noncomputable def u176_2 (P : Params) : Obj := fo "_law_figures" "_law_figures" (top 27) 3 (.str "law_tautcord_k32_bands_by_elimination" 336) (.ref 175)
noncomputable def u177_2 (P : Params) : Obj := tE
noncomputable def u178_2 (P : Params) : Obj := fE
noncomputable def u179_2 (P : Params) : Obj := tS 416 ["_law_script", "_law_many", "_law_xs", "_law_table", "_law_one", "_law_row", "_law_other", "_law_figures_here"]
noncomputable def u180_2 (P : Params) : Obj := tE
noncomputable def u181_2 (P : Params) : Obj := pF "_law_table_by" "_law_table_by" (top 28)
noncomputable def u182_2 (P : Params) : Obj := cO "_law_table_by" "_law_table_by" 413 126 1 3 177 424 425
noncomputable def u183_2 (P : Params) : Obj := fo "_law_table_by" "_law_table_by" (top 28) 3 (.str "law_tautcord_k32_bands_by_elimination" 336) (.ref 182)
noncomputable def u184_2 (P : Params) : Obj := tE
noncomputable def u185_2 (P : Params) : Obj := fE
noncomputable def u186_2 (P : Params) : Obj := pF "_law_least" "_law_least" (top 29)
noncomputable def u187_2 (P : Params) : Obj := { cls := .type "code", data := .fields #[.str "_law_least" 427, .str "_law_least" 428, .str "/claim/cut.py" 429, .int 145 0, .int 2 0, .int 0 0, .int 0 0, .int 3 0, .ref 184, .bool Bool.true, .int 181 0, .ref 185, .none, .none, .none, .ref 186, .int 430 0, .int 145 0, .str "/claim/cut.py" 431] }
noncomputable def u188_2 (P : Params) : Obj := fo "_law_least" "_law_least" (top 29) 3 (.str "law_tautcord_k32_bands_by_elimination" 336) (.ref 187)
noncomputable def u189_2 (P : Params) : Obj := tE
noncomputable def u190_2 (P : Params) : Obj := fE
noncomputable def u191_2 (P : Params) : Obj := tS 436 ["_law_more", "_law_taken", "_law_top", "_law_bottom", "_law_old"]
noncomputable def u192_2 (P : Params) : Obj := tE
noncomputable def u193_2 (P : Params) : Obj := pF "_law_added" "_law_added" (top 30)
noncomputable def u194_2 (P : Params) : Obj := cO "_law_added" "_law_added" 433 158 4 3 189 441 442
noncomputable def u195_2 (P : Params) : Obj := fo "_law_added" "_law_added" (top 30) 3 (.str "law_tautcord_k32_bands_by_elimination" 336) (.ref 194)
noncomputable def u196_2 (P : Params) : Obj := tE
noncomputable def u197_2 (P : Params) : Obj := fE
noncomputable def u198_2 (P : Params) : Obj := pF "law" "law" (top 31)
noncomputable def u199_2 (P : Params) : Obj := { cls := .type "code", data := .fields #[.str "law" 444, .str "law" 445, .str "/claim/cut.py" 446, .int 161 0, .int 1 0, .int 0 0, .int 0 0, .int 3 0, .ref 196, .bool Bool.true, .int 181 0, .ref 197, .none, .none, .none, .ref 198, .int 447 0, .int 161 0, .str "/claim/cut.py" 448] }
noncomputable def u200_2 (P : Params) : Obj := fo "law" "law" (top 31) 3 (.str "law_tautcord_k32_bands_by_elimination" 336) (.ref 199)
noncomputable def tr_0 (P : Params) : BT := (.node (boot_o_0 P) (.node (boot_o_1 P) (.node (boot_o_3 P) (lf (boot_o_7 P)) (lf (u11_a P))) (.node (boot_o_5 P) (lf (boot_o_9 P)) (lf (u13_a P)))) (.node (boot_o_2 P) (.node (boot_o_4 P) (lf (boot_o_8 P)) (lf (u12_a P))) (.node (boot_o_6 P) (lf (boot_o_10 P)) (lf (u14_a P)))))
noncomputable def tr_1 (P : Params) : BT := (.node (boot_o_0 P) (.node (boot_o_1 P) (.node (u3_1 P) (.node (boot_o_7 P) (.node (u15_1 P) (.node (u31_1 P) (.node (u63_1 P) (lf (u127_1 P)) .nil) (lf (u95_1 P))) (.node (u47_1 P) (.node (u79_1 P) (lf (u143_1 P)) .nil) (lf (u111_1 P)))) (.node (u23_1 P) (.node (u39_1 P) (.node (u71_1 P) (lf (u135_1 P)) .nil) (lf (u103_1 P))) (.node (u55_1 P) (.node (u87_1 P) (lf (u151_1 P)) .nil) (lf (u119_1 P))))) (.node (u11_a P) (.node (u19_1 P) (.node (u35_1 P) (.node (u67_1 P) (lf (u131_1 P)) .nil) (lf (u99_1 P))) (.node (u51_1 P) (.node (u83_1 P) (lf (u147_1 P)) .nil) (lf (u115_1 P)))) (.node (u27_1 P) (.node (u43_1 P) (.node (u75_1 P) (lf (u139_1 P)) .nil) (lf (u107_1 P))) (.node (u59_1 P) (.node (u91_1 P) (lf (u155_1 P)) .nil) (lf (u123_1 P)))))) (.node (boot_o_5 P) (.node (boot_o_9 P) (.node (u17_1 P) (.node (u33_1 P) (.node (u65_1 P) (lf (u129_1 P)) .nil) (lf (u97_1 P))) (.node (u49_1 P) (.node (u81_1 P) (lf (u145_1 P)) .nil) (lf (u113_1 P)))) (.node (u25_1 P) (.node (u41_1 P) (.node (u73_1 P) (lf (u137_1 P)) .nil) (lf (u105_1 P))) (.node (u57_1 P) (.node (u89_1 P) (lf (u153_1 P)) .nil) (lf (u121_1 P))))) (.node (u13_a P) (.node (u21_1 P) (.node (u37_1 P) (.node (u69_1 P) (lf (u133_1 P)) .nil) (lf (u101_1 P))) (.node (u53_1 P) (.node (u85_1 P) (lf (u149_1 P)) .nil) (lf (u117_1 P)))) (.node (u29_1 P) (.node (u45_1 P) (.node (u77_1 P) (lf (u141_1 P)) .nil) (lf (u109_1 P))) (.node (u61_1 P) (lf (u93_1 P)) (lf (u125_1 P))))))) (.node (boot_o_2 P) (.node (boot_o_4 P) (.node (boot_o_8 P) (.node (u16_1 P) (.node (u32_1 P) (.node (u64_1 P) (lf (u128_1 P)) .nil) (lf (u96_1 P))) (.node (u48_1 P) (.node (u80_1 P) (lf (u144_1 P)) .nil) (lf (u112_1 P)))) (.node (u24_1 P) (.node (u40_1 P) (.node (u72_1 P) (lf (u136_1 P)) .nil) (lf (u104_1 P))) (.node (u56_1 P) (.node (u88_1 P) (lf (u152_1 P)) .nil) (lf (u120_1 P))))) (.node (u12_1 P) (.node (u20_1 P) (.node (u36_1 P) (.node (u68_1 P) (lf (u132_1 P)) .nil) (lf (u100_1 P))) (.node (u52_1 P) (.node (u84_1 P) (lf (u148_1 P)) .nil) (lf (u116_1 P)))) (.node (u28_1 P) (.node (u44_1 P) (.node (u76_1 P) (lf (u140_1 P)) .nil) (lf (u108_1 P))) (.node (u60_1 P) (lf (u92_1 P)) (lf (u124_1 P)))))) (.node (boot_o_6 P) (.node (boot_o_10 P) (.node (u18_1 P) (.node (u34_1 P) (.node (u66_1 P) (lf (u130_1 P)) .nil) (lf (u98_1 P))) (.node (u50_1 P) (.node (u82_1 P) (lf (u146_1 P)) .nil) (lf (u114_1 P)))) (.node (u26_1 P) (.node (u42_1 P) (.node (u74_1 P) (lf (u138_1 P)) .nil) (lf (u106_1 P))) (.node (u58_1 P) (.node (u90_1 P) (lf (u154_1 P)) .nil) (lf (u122_1 P))))) (.node (u14_a P) (.node (u22_1 P) (.node (u38_1 P) (.node (u70_1 P) (lf (u134_1 P)) .nil) (lf (u102_1 P))) (.node (u54_1 P) (.node (u86_1 P) (lf (u150_1 P)) .nil) (lf (u118_1 P)))) (.node (u30_1 P) (.node (u46_1 P) (.node (u78_1 P) (lf (u142_1 P)) .nil) (lf (u110_1 P))) (.node (u62_1 P) (lf (u94_1 P)) (lf (u126_1 P))))))))
noncomputable def tr_2 (P : Params) : BT := (.node (boot_o_0 P) (.node (boot_o_1 P) (.node (u3_2 P) (.node (boot_o_7 P) (.node (u15_1 P) (.node (u31_1 P) (.node (u63_1 P) (lf (u127_1 P)) (lf (u191_2 P))) (.node (u95_1 P) (lf (u159_2 P)) .nil)) (.node (u47_1 P) (.node (u79_1 P) (lf (u143_1 P)) .nil) (.node (u111_1 P) (lf (u175_2 P)) .nil))) (.node (u23_1 P) (.node (u39_1 P) (.node (u71_1 P) (lf (u135_1 P)) (lf (u199_2 P))) (.node (u103_1 P) (lf (u167_2 P)) .nil)) (.node (u55_1 P) (.node (u87_1 P) (lf (u151_1 P)) .nil) (.node (u119_1 P) (lf (u183_2 P)) .nil)))) (.node (u11_a P) (.node (u19_1 P) (.node (u35_1 P) (.node (u67_1 P) (lf (u131_1 P)) (lf (u195_2 P))) (.node (u99_1 P) (lf (u163_2 P)) .nil)) (.node (u51_1 P) (.node (u83_1 P) (lf (u147_1 P)) .nil) (.node (u115_1 P) (lf (u179_2 P)) .nil))) (.node (u27_1 P) (.node (u43_1 P) (.node (u75_1 P) (lf (u139_1 P)) .nil) (.node (u107_1 P) (lf (u171_2 P)) .nil)) (.node (u59_1 P) (.node (u91_1 P) (lf (u155_1 P)) .nil) (.node (u123_1 P) (lf (u187_2 P)) .nil))))) (.node (boot_o_5 P) (.node (boot_o_9 P) (.node (u17_1 P) (.node (u33_1 P) (.node (u65_1 P) (lf (u129_1 P)) (lf (u193_2 P))) (.node (u97_1 P) (lf (u161_2 P)) .nil)) (.node (u49_1 P) (.node (u81_1 P) (lf (u145_1 P)) .nil) (.node (u113_1 P) (lf (u177_2 P)) .nil))) (.node (u25_1 P) (.node (u41_1 P) (.node (u73_1 P) (lf (u137_1 P)) .nil) (.node (u105_1 P) (lf (u169_2 P)) .nil)) (.node (u57_1 P) (.node (u89_1 P) (lf (u153_1 P)) .nil) (.node (u121_1 P) (lf (u185_2 P)) .nil)))) (.node (u13_a P) (.node (u21_1 P) (.node (u37_1 P) (.node (u69_1 P) (lf (u133_1 P)) (lf (u197_2 P))) (.node (u101_1 P) (lf (u165_2 P)) .nil)) (.node (u53_1 P) (.node (u85_1 P) (lf (u149_1 P)) .nil) (.node (u117_1 P) (lf (u181_2 P)) .nil))) (.node (u29_1 P) (.node (u45_1 P) (.node (u77_1 P) (lf (u141_1 P)) .nil) (.node (u109_1 P) (lf (u173_2 P)) .nil)) (.node (u61_1 P) (.node (u93_1 P) (lf (u157_2 P)) .nil) (.node (u125_1 P) (lf (u189_2 P)) .nil)))))) (.node (boot_o_2 P) (.node (boot_o_4 P) (.node (boot_o_8 P) (.node (u16_1 P) (.node (u32_1 P) (.node (u64_1 P) (lf (u128_1 P)) (lf (u192_2 P))) (.node (u96_1 P) (lf (u160_2 P)) .nil)) (.node (u48_1 P) (.node (u80_1 P) (lf (u144_1 P)) .nil) (.node (u112_1 P) (lf (u176_2 P)) .nil))) (.node (u24_1 P) (.node (u40_1 P) (.node (u72_1 P) (lf (u136_1 P)) (lf (u200_2 P))) (.node (u104_1 P) (lf (u168_2 P)) .nil)) (.node (u56_1 P) (.node (u88_1 P) (lf (u152_1 P)) .nil) (.node (u120_1 P) (lf (u184_2 P)) .nil)))) (.node (u12_2 P) (.node (u20_1 P) (.node (u36_1 P) (.node (u68_1 P) (lf (u132_1 P)) (lf (u196_2 P))) (.node (u100_1 P) (lf (u164_2 P)) .nil)) (.node (u52_1 P) (.node (u84_1 P) (lf (u148_1 P)) .nil) (.node (u116_1 P) (lf (u180_2 P)) .nil))) (.node (u28_1 P) (.node (u44_1 P) (.node (u76_1 P) (lf (u140_1 P)) .nil) (.node (u108_1 P) (lf (u172_2 P)) .nil)) (.node (u60_1 P) (.node (u92_1 P) (lf (u156_2 P)) .nil) (.node (u124_1 P) (lf (u188_2 P)) .nil))))) (.node (boot_o_6 P) (.node (boot_o_10 P) (.node (u18_1 P) (.node (u34_1 P) (.node (u66_1 P) (lf (u130_1 P)) (lf (u194_2 P))) (.node (u98_1 P) (lf (u162_2 P)) .nil)) (.node (u50_1 P) (.node (u82_1 P) (lf (u146_1 P)) .nil) (.node (u114_1 P) (lf (u178_2 P)) .nil))) (.node (u26_1 P) (.node (u42_1 P) (.node (u74_1 P) (lf (u138_1 P)) .nil) (.node (u106_1 P) (lf (u170_2 P)) .nil)) (.node (u58_1 P) (.node (u90_1 P) (lf (u154_1 P)) .nil) (.node (u122_1 P) (lf (u186_2 P)) .nil)))) (.node (u14_a P) (.node (u22_1 P) (.node (u38_1 P) (.node (u70_1 P) (lf (u134_1 P)) (lf (u198_2 P))) (.node (u102_1 P) (lf (u166_2 P)) .nil)) (.node (u54_1 P) (.node (u86_1 P) (lf (u150_1 P)) .nil) (.node (u118_1 P) (lf (u182_2 P)) .nil))) (.node (u30_1 P) (.node (u46_1 P) (.node (u78_1 P) (lf (u142_1 P)) .nil) (.node (u110_1 P) (lf (u174_2 P)) .nil)) (.node (u62_1 P) (.node (u94_1 P) (lf (u158_2 P)) .nil) (.node (u126_1 P) (lf (u190_2 P)) .nil)))))))
noncomputable def ha (P : Params) : Heap := ⟨Array.mk [boot_o_0 P, boot_o_1 P, boot_o_2 P, boot_o_3 P, boot_o_4 P, boot_o_5 P, boot_o_6 P, boot_o_7 P, boot_o_8 P, boot_o_9 P, boot_o_10 P, u11_a P, u12_a P, u13_a P, u14_a P], {}⟩
noncomputable abbrev st_0 (w : World) (os : OsState) : SharedT := ⟨tr_0 w.params, 15, {}, Array.mk [], {}, 187, os⟩
noncomputable abbrev st_1 (w : World) (os : OsState) : SharedT := ⟨tr_1 w.params, 156, {}, Array.mk [], {}, 382, os⟩
noncomputable def l_1 : List Stmt := (bE.drop 0).take 25
noncomputable abbrev st_2 (w : World) (os : OsState) : SharedT := ⟨tr_2 w.params, 201, {}, Array.mk [], {}, 450, os⟩
noncomputable def l_2 : List Stmt := (bE.drop 25).take 7
noncomputable def hf (P : Params) : Heap := ⟨Array.mk [boot_o_0 P, boot_o_1 P, boot_o_2 P, u3_2 P, boot_o_4 P, boot_o_5 P, boot_o_6 P, boot_o_7 P, boot_o_8 P, boot_o_9 P, boot_o_10 P, u11_a P, u12_2 P, u13_a P, u14_a P, u15_1 P, u16_1 P, u17_1 P, u18_1 P, u19_1 P, u20_1 P, u21_1 P, u22_1 P, u23_1 P, u24_1 P, u25_1 P, u26_1 P, u27_1 P, u28_1 P, u29_1 P, u30_1 P, u31_1 P, u32_1 P, u33_1 P, u34_1 P, u35_1 P, u36_1 P, u37_1 P, u38_1 P, u39_1 P, u40_1 P, u41_1 P, u42_1 P, u43_1 P, u44_1 P, u45_1 P, u46_1 P, u47_1 P, u48_1 P, u49_1 P, u50_1 P, u51_1 P, u52_1 P, u53_1 P, u54_1 P, u55_1 P, u56_1 P, u57_1 P, u58_1 P, u59_1 P, u60_1 P, u61_1 P, u62_1 P, u63_1 P, u64_1 P, u65_1 P, u66_1 P, u67_1 P, u68_1 P, u69_1 P, u70_1 P, u71_1 P, u72_1 P, u73_1 P, u74_1 P, u75_1 P, u76_1 P, u77_1 P, u78_1 P, u79_1 P, u80_1 P, u81_1 P, u82_1 P, u83_1 P, u84_1 P, u85_1 P, u86_1 P, u87_1 P, u88_1 P, u89_1 P, u90_1 P, u91_1 P, u92_1 P, u93_1 P, u94_1 P, u95_1 P, u96_1 P, u97_1 P, u98_1 P, u99_1 P, u100_1 P, u101_1 P, u102_1 P, u103_1 P, u104_1 P, u105_1 P, u106_1 P, u107_1 P, u108_1 P, u109_1 P, u110_1 P, u111_1 P, u112_1 P, u113_1 P, u114_1 P, u115_1 P, u116_1 P, u117_1 P, u118_1 P, u119_1 P, u120_1 P, u121_1 P, u122_1 P, u123_1 P, u124_1 P, u125_1 P, u126_1 P, u127_1 P, u128_1 P, u129_1 P, u130_1 P, u131_1 P, u132_1 P, u133_1 P, u134_1 P, u135_1 P, u136_1 P, u137_1 P, u138_1 P, u139_1 P, u140_1 P, u141_1 P, u142_1 P, u143_1 P, u144_1 P, u145_1 P, u146_1 P, u147_1 P, u148_1 P, u149_1 P, u150_1 P, u151_1 P, u152_1 P, u153_1 P, u154_1 P, u155_1 P, u156_2 P, u157_2 P, u158_2 P, u159_2 P, u160_2 P, u161_2 P, u162_2 P, u163_2 P, u164_2 P, u165_2 P, u166_2 P, u167_2 P, u168_2 P, u169_2 P, u170_2 P, u171_2 P, u172_2 P, u173_2 P, u174_2 P, u175_2 P, u176_2 P, u177_2 P, u178_2 P, u179_2 P, u180_2 P, u181_2 P, u182_2 P, u183_2 P, u184_2 P, u185_2 P, u186_2 P, u187_2 P, u188_2 P, u189_2 P, u190_2 P, u191_2 P, u192_2 P, u193_2 P, u194_2 P, u195_2 P, u196_2 P, u197_2 P, u198_2 P, u199_2 P, u200_2 P], {}⟩
theorem t_pre (w : World) (os : OsState) : topGo treeTable tp w 11 (some (.ref 6)) 12 ⟨boot_heap w.params, Array.mk [], boot_drawn, boot_toks, os⟩ (topStub tp) = some (⟨ha w.params, Array.mk [], {}, 187, os⟩, Thread.mk (denote treeTable cE) cE ⟨0, 0, 0, 0⟩ [topFrame ⟨0, 0, 0, 0⟩]) := by kernel_rfl
theorem t_blk (w : World) (os : OsState) : segRun treeTable tp w 11 (some (.ref 6)) 1 1 ⟨ha w.params, Array.mk [], {}, 187, os⟩ (blockOf bE eE cE ⟨0, 0, 0, 0⟩ [topFrame ⟨0, 0, 0, 0⟩]) = some (.next, (st_0 w os).abs, cE, ⟨0, 0, 0, 0⟩) := by kernel_rfl
theorem t_1 (w : World) (os : OsState) : segRunT treeTable tp w 11 (some (.ref 6)) 1 974 (st_0 w os) (piecesOf l_1 eE cE ⟨0, 0, 0, 0⟩ [topFrame ⟨0, 0, 0, 0⟩]) = some (.next, st_1 w os, cE, ⟨96, 0, 106, 21⟩) := by kernel_rfl
theorem t_2 (w : World) (os : OsState) : segRunT treeTable tp w 11 (some (.ref 6)) 1 219 (st_1 w os) (piecesOf l_2 eE cE ⟨96, 0, 106, 21⟩ [topFrame ⟨0, 0, 0, 0⟩]) = some (.next, st_2 w os, cE, ⟨161, 0, 184, 15⟩) := by kernel_rfl
theorem t_fin (w : World) (os : OsState) : topRun treeTable tp w 11 (some (.ref 6)) 2 (st_2 w os).abs ⟨doneF .next, cE, ⟨161, 0, 184, 15⟩, [topFrame ⟨0, 0, 0, 0⟩]⟩ = some ⟨hf w.params, Array.mk [], {}, 450, os⟩ := by kernel_rfl
theorem l_all : l_1 ++ (l_2 ++ ([])) = bE := by kernel_rfl
theorem run0 (w : World) (os : OsState) : topRun treeTable tp w 11 (some (.ref 6)) (974 + (219 + (2))) (st_0 w os).abs (restOf (l_1 ++ (l_2 ++ ([]))) eE cE ⟨0, 0, 0, 0⟩ [topFrame ⟨0, 0, 0, 0⟩]) = some ⟨hf w.params, Array.mk [], {}, 450, os⟩ := piece_app (segRun_of (t_1 w os)) (piece_app (segRun_of (t_2 w os)) (piece_nil (t_fin w os)))
theorem run (w : World) (os : OsState) : topRun treeTable tp w 11 (some (.ref 6)) (12 + (1 + (974 + (219 + (2))))) ⟨boot_heap w.params, Array.mk [], boot_drawn, boot_toks, os⟩ (topStub tp) = some ⟨hf w.params, Array.mk [], {}, 450, os⟩ := by
  have k := run0 w os
  rw [l_all] at k
  exact go_top (t_pre w os) (piece_block (t_blk w os) k)
noncomputable def KK (P : Params) : Frag :=
  (nat_lit 2, boot_o_2 P) :: (nat_lit 3, u3_2 P) :: (nat_lit 23, u23_1 P) :: (nat_lit 24, u24_1 P) :: (nat_lit 25, u25_1 P) :: (nat_lit 36, u36_1 P) :: (nat_lit 37, u37_1 P) :: (nat_lit 45, u45_1 P) :: (nat_lit 46, u46_1 P) :: (nat_lit 52, u52_1 P) :: (nat_lit 53, u53_1 P) :: (nat_lit 54, u54_1 P) :: (nat_lit 60, u60_1 P) :: (nat_lit 61, u61_1 P) :: (nat_lit 67, u67_1 P) :: (nat_lit 68, u68_1 P) :: (nat_lit 74, u74_1 P) :: (nat_lit 75, u75_1 P) :: (nat_lit 81, u81_1 P) :: (nat_lit 82, u82_1 P) :: (nat_lit 86, u86_1 P) :: (nat_lit 87, u87_1 P) :: (nat_lit 93, u93_1 P) :: (nat_lit 94, u94_1 P) :: (nat_lit 98, u98_1 P) :: (nat_lit 99, u99_1 P) :: (nat_lit 105, u105_1 P) :: (nat_lit 106, u106_1 P) :: (nat_lit 112, u112_1 P) :: (nat_lit 113, u113_1 P) :: (nat_lit 119, u119_1 P) :: (nat_lit 120, u120_1 P) :: (nat_lit 126, u126_1 P) :: (nat_lit 127, u127_1 P) :: (nat_lit 133, u133_1 P) :: (nat_lit 134, u134_1 P) :: (nat_lit 140, u140_1 P) :: (nat_lit 141, u141_1 P) :: (nat_lit 147, u147_1 P) :: (nat_lit 148, u148_1 P) :: (nat_lit 154, u154_1 P) :: (nat_lit 155, u155_1 P) :: (nat_lit 161, u161_2 P) :: (nat_lit 162, u162_2 P) :: (nat_lit 168, u168_2 P) :: (nat_lit 169, u169_2 P) :: (nat_lit 175, u175_2 P) :: (nat_lit 176, u176_2 P) :: (nat_lit 182, u182_2 P) :: (nat_lit 183, u183_2 P) :: (nat_lit 187, u187_2 P) :: (nat_lit 188, u188_2 P) :: (nat_lit 194, u194_2 P) :: (nat_lit 195, u195_2 P) :: (nat_lit 199, u199_2 P) :: (nat_lit 200, u200_2 P) :: []
theorem KK_as (P : Params) : [2, 3, 23, 24, 25, 36, 37, 45, 46, 52, 53, 54, 60, 61, 67, 68, 74, 75, 81, 82, 86, 87, 93, 94, 98, 99, 105, 106, 112, 113, 119, 120, 126, 127, 133, 134, 140, 141, 147, 148, 154, 155, 161, 162, 168, 169, 175, 176, 182, 183, 187, 188, 194, 195, 199, 200] = (KK P).map (·.1) := by kernel_rfl
noncomputable abbrev hook : Hook := kHook KK [2, 3, 23, 24, 25, 36, 37, 45, 46, 52, 53, 54, 60, 61, 67, 68, 74, 75, 81, 82, 86, 87, 93, 94, 98, 99, 105, 106, 112, 113, 119, 120, 126, 127, 133, 134, 140, 141, 147, 148, 154, 155, 161, 162, 168, 169, 175, 176, 182, 183, 187, 188, 194, 195, 199, 200] KK_as
theorem left : LeftO tp q [("fraction" : Str)] (fun s => xlAt q [] s && recOk [] s) hook.obs hook.val 3386 :=
  LeftO.of_pieces (boot_open (by kernel_rfl) (by decide) (fun s => by kernel_rfl)) (fun w => by kernel_rfl) run (by decide) (fun w => by kernel_rfl)
theorem said : OpenLaw.wellSaid PySem.Challenge.rw_tautcord_k32_bands_by_elimination = true := by kernel_rfl
end My
open PySem PySem.W PyProof.Rows
set_option maxRecDepth 100000 in
set_option maxHeartbeats 0 in
theorem PySem.Challenge.cw_tautcord_k32_bands_by_elimination_holds : PySem.Challenge.rw_tautcord_k32_bands_by_elimination.Holds := by
  refine holds_law My.said fun said => ?_
  refine holds_open (q := My.q) (loose := [("fraction" : Str)]) (Xt := fun s => xlAt My.q [] s && recOk [] s) (XP := XL My.q []) (Yf := Hook.obs My.hook) (Ya := Hook.val My.hook) (YP := Hook.says My.hook) (N := 3386) My.left (Hook.of My.hook) (Hook.keeps My.hook) (fun s e => xl_of s (Bool.and_eq_true_iff.mp e).1) XL.keeps (by rfl) (by rfl) (by rfl) (fun s e => recFacts_of (Bool.and_eq_true_iff.mp e).2) (by rfl) said (by decide +kernel) ⟨rfl, rfl, rfl, rfl, rfl, by decide +kernel⟩ ?hw ?hc
  case hw => w_witness2
  delta My.hook
  k_fill
  refine My.walk (l := PySem.Challenge.rw_tautcord_k32_bands_by_elimination) rfl rfl (fun w h Y => PySem.W.kIn_of Y) ?F
  case F =>
    intro w mg fa h KX G hmg
    refine' My.all_mk KX G hmg ?a1 ?l1 ?c1 ?k1 ?a2 ?l2 ?c2 ?k2 ?a3 ?l3 ?c3 ?k3 ?d3 ?a4 ?l4 ?c4 ?k4 ?a5 ?l5 ?c5 ?k5 ?a6 ?l6 ?c6 ?k6 ?a7 ?l7 ?c7 ?k7 ?a8 ?l8 ?c8 ?k8 ?a9 ?l9 ?c9 ?k9 ?a10 ?l10 ?c10 ?k10 ?a11 ?l11 ?c11 ?k11 ?a12 ?l12 ?c12 ?k12 ?a13 ?l13 ?c13 ?k13 ?a14 ?l14 ?c14 ?k14 ?a15 ?l15 ?c15 ?k15 ?a16 ?l16 ?c16 ?k16 ?a17 ?l17 ?c17 ?k17 ?a18 ?l18 ?c18 ?k18 ?a19 ?l19 ?c19 ?k19 ?a20 ?l20 ?c20 ?k20 ?a21 ?l21 ?c21 ?k21 ?a22 ?l22 ?c22 ?k22 ?a23 ?l23 ?c23 ?k23 ?a24 ?l24 ?c24 ?k24 ?z_abs ?z_len ?z_isinstance ?z_int ?z_bool ?z_tuple ?z_range ?z_list ?z_min ?z_max ?z_all ?z_enumerate ?z_zip ?z_sorted ?z_reversed
    (case a1 => k_is); (case l1 => k_is); (case c1 => k_is); (case k1 => k_is)
    (case a2 => k_is); (case l2 => k_is); (case c2 => k_is); (case k2 => k_is)
    (case a3 => k_is); (case l3 => k_is); (case c3 => k_is); (case k3 => k_is)
    (case d3 => k_is); (case a4 => k_is); (case l4 => k_is); (case c4 => k_is)
    (case k4 => k_is); (case a5 => k_is); (case l5 => k_is); (case c5 => k_is)
    (case k5 => k_is); (case a6 => k_is); (case l6 => k_is); (case c6 => k_is)
    (case k6 => k_is); (case a7 => k_is); (case l7 => k_is); (case c7 => k_is)
    (case k7 => k_is); (case a8 => k_is); (case l8 => k_is); (case c8 => k_is)
    (case k8 => k_is); (case a9 => k_is); (case l9 => k_is); (case c9 => k_is)
    (case k9 => k_is); (case a10 => k_is); (case l10 => k_is); (case c10 => k_is)
    (case k10 => k_is); (case a11 => k_is); (case l11 => k_is); (case c11 => k_is)
    (case k11 => k_is); (case a12 => k_is); (case l12 => k_is); (case c12 => k_is)
    (case k12 => k_is); (case a13 => k_is); (case l13 => k_is); (case c13 => k_is)
    (case k13 => k_is); (case a14 => k_is); (case l14 => k_is); (case c14 => k_is)
    (case k14 => k_is); (case a15 => k_is); (case l15 => k_is); (case c15 => k_is)
    (case k15 => k_is); (case a16 => k_is); (case l16 => k_is); (case c16 => k_is)
    (case k16 => k_is); (case a17 => k_is); (case l17 => k_is); (case c17 => k_is)
    (case k17 => k_is); (case a18 => k_is); (case l18 => k_is); (case c18 => k_is)
    (case k18 => k_is); (case a19 => k_is); (case l19 => k_is); (case c19 => k_is)
    (case k19 => k_is); (case a20 => k_is); (case l20 => k_is); (case c20 => k_is)
    (case k20 => k_is); (case a21 => k_is); (case l21 => k_is); (case c21 => k_is)
    (case k21 => k_is); (case a22 => k_is); (case l22 => k_is); (case c22 => k_is)
    (case k22 => k_is); (case a23 => k_is); (case l23 => k_is); (case c23 => k_is)
    (case k23 => k_is); (case a24 => k_is); (case l24 => k_is); (case c24 => k_is)
    (case k24 => k_is); (case z_abs => k_is); (case z_len => k_is); (case z_isinstance => k_is)
    (case z_int => k_is); (case z_bool => k_is); (case z_tuple => k_is); (case z_range => k_is)
    (case z_list => k_is); (case z_min => k_is); (case z_max => k_is); (case z_all => k_is)
    (case z_enumerate => k_is); (case z_zip => k_is); (case z_sorted => k_is); (case z_reversed => k_is)
