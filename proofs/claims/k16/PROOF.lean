import PyProof.Rows.All
import Wide.All
import OpenK.AllK
import Wide.FinOn
import Lean
import PyProof.EqAt
import PyProof.EqKinds
import PyProof.TupleCall
import PySem.Challenge.RW_tautcord_k16_common_parts
set_option Elab.async false
set_option linter.all false
set_option maxRecDepth 100000
open PySem PySem.W in
set_option maxHeartbeats 0 in
theorem My.said : OpenLaw.wellSaid PySem.Challenge.rw_tautcord_k16_common_parts = true := by
  unfold OpenLaw.wellSaid OpenRow.wellSaid OpenRow.partSaid looksOpen
  repeat' with_reducible refine Bool.and_eq_true_iff.mpr ⟨?_, ?_⟩
  all_goals decide +kernel
namespace L2
open PySem PySem.Spec PyProof.Rows

noncomputable abbrev Key := Sum Int Str
noncomputable def keyIs : Key → Value → Bool
  | .inl k, v => Value.isInt k v
  | .inr x, v => Value.isStrOf x v
noncomputable def keyH (w : World) : Key → Int
  | .inl k => hashInt k
  | .inr x => hashStr w x
theorem keyIs_shape : ∀ {k : Key} {v : Value}, keyIs k v = true → (∃ i t, k = Sum.inl i ∧ v = Value.int i t) ∨ (∃ x t, k = Sum.inr x ∧ v = Value.str x t)
  | .inl i, v, h => by
    obtain ⟨t, e⟩ := Value.isInt_shape (k := i) (v := v) h
    exact .inl ⟨i, t, rfl, e⟩
  | .inr x, v, h => by
    obtain ⟨t, e⟩ := Value.isStrOf_shape (x := x) (v := v) h
    exact .inr ⟨x, t, rfl, e⟩
theorem key_ll (a b : Int) : decide ((Sum.inl a : Key) = Sum.inl b) = (a == b) := by
  by_cases e : a = b
  · subst e; simp
  · have h : ¬ (Sum.inl a : Key) = Sum.inl b := fun q => e (Sum.inl.inj q)
    rw [decide_eq_false h]
    exact (beq_eq_false_iff_ne.mpr e).symm
theorem key_rr (a b : Str) : decide ((Sum.inr a : Key) = Sum.inr b) = decide (a = b) := by
  by_cases e : a = b
  · subst e; simp
  · have h : ¬ (Sum.inr a : Key) = Sum.inr b := fun q => e (Sum.inr.inj q)
    rw [decide_eq_false h, decide_eq_false e]
theorem key_lr (a : Int) (b : Str) : decide ((Sum.inl a : Key) = Sum.inr b) = false := decide_eq_false (fun q => nomatch q)
theorem key_rl (a : Str) (b : Int) : decide ((Sum.inr a : Key) = Sum.inl b) = false := decide_eq_false (fun q => nomatch q)

noncomputable def mixKind (prog : Program) (w : World) : PySem.KeyKind prog w Key where
  is := keyIs
  hash := keyH w
  inj := fun v a b ha hb => by
    rcases keyIs_shape ha with ⟨i, t, rfl, rfl⟩ | ⟨x, t, rfl, rfl⟩
    · rcases keyIs_shape hb with ⟨j, u, rfl, e⟩ | ⟨y, u, rfl, e⟩
      · injection e with e1 _; rw [e1]
      · exact nomatch e
    · rcases keyIs_shape hb with ⟨j, u, rfl, e⟩ | ⟨y, u, rfl, e⟩
      · exact nomatch e
      · injection e with e1 _; rw [e1]
  byValue := fun k v h => by
    rcases keyIs_shape h with ⟨i, t, rfl, rfl⟩ | ⟨x, t, rfl, rfl⟩ <;> rfl
  pyHash := fun hv h => by
    rcases keyIs_shape hv with ⟨i, t, rfl, rfl⟩ | ⟨x, t, rfl, rfl⟩
    · exact wpAny_pyHash_int h
    · exact wpAny_pyHash_str h
  eqBool := fun hu hv h => by
    rcases keyIs_shape hu with ⟨i, t, rfl, rfl⟩ | ⟨x, t, rfl, rfl⟩
    · rcases keyIs_shape hv with ⟨j, u, rfl, rfl⟩ | ⟨y, u, rfl, rfl⟩
      · rw [key_ll] at h; exact wpAny_eqBool_int h
      · rw [key_lr] at h; exact SeqAt.EqAt.int_str i t y u _ _ _ _ h
    · rcases keyIs_shape hv with ⟨j, u, rfl, rfl⟩ | ⟨y, u, rfl, rfl⟩
      · rw [key_rl] at h; exact SeqAt.EqAt.str_int x t j u _ _ _ _ h
      · rw [key_rr] at h; exact wpAny_eqBool_str h
  «strs» := fun k x t v h => by
    rcases keyIs_shape h with ⟨i, u, rfl, e⟩ | ⟨y, u, rfl, e⟩
    · exact nomatch e
    · injection e with e1 _
      subst e1
      cases v <;> rfl

end L2

namespace L2
open PySem PySem.Spec PyProof.Rows

inductive V where
  | non | bl (b : Bool) | int (i : Int) | str (x : Str) | byt (b : Array UInt8) | flt (b : UInt64) | ref (a : Addr) | ty (n : String)
  deriving DecidableEq

noncomputable def RelV : V → Value → Prop
  | .non, u => u = Value.none
  | .bl b, u => u = Value.bool b
  | .int i, u => ∃ t, u = Value.int i t
  | .str x, u => ∃ t, u = Value.str x t
  | .byt b, u => ∃ t, u = Value.bytes b t
  | .flt b, u => ∃ t, u = Value.float b t
  | .ref a, u => u = Value.ref a
  | .ty n, u => u = Value.type n

noncomputable abbrev Vals : List V → List Value → Prop := Paired RelV
theorem Vals.length {xs : List V} {us : List Value} (r : Vals xs us) : xs.length = us.length := Paired.length r
theorem Vals.get : ∀ {xs : List V} {us : List Value} {i : Nat} {x : V}, Vals xs us → xs[i]? = some x → ∃ u, us[i]? = some u ∧ RelV x u
  | _, _, _, _, .nil, e => by simp at e
  | _, _, 0, _, .cons r _, e => by simp at e; subst e; exact ⟨_, rfl, r⟩
  | _, _, i + 1, x, .cons _ t, e => by
    obtain ⟨u, h1, h2⟩ := Vals.get (i := i) (x := x) t (by simpa using e)
    exact ⟨u, by simpa using h1, h2⟩
theorem Vals.set {x : V} {u : Value} (r : RelV x u) : ∀ {xs : List V} {us : List Value} (i : Nat), Vals xs us → Vals (xs.set i x) (us.set i u)
  | _, _, _, .nil => .nil
  | _, _, 0, .cons _ t => .cons r t
  | _, _, i + 1, .cons q t => .cons q (Vals.set r i t)
theorem Vals.append : ∀ {xs ys : List V} {us ws : List Value}, Vals xs us → Vals ys ws → Vals (xs ++ ys) (us ++ ws)
  | _, _, _, _, .nil, s => s
  | _, _, _, _, .cons r t, s => .cons r (Vals.append t s)
theorem Vals.take : ∀ {xs : List V} {us : List Value} (n : Nat), Vals xs us → Vals (xs.take n) (us.take n)
  | _, _, 0, _ => .nil
  | _, _, _ + 1, .nil => .nil
  | _, _, n + 1, .cons r t => .cons r (Vals.take n t)
theorem Vals.drop : ∀ {xs : List V} {us : List Value} (n : Nat), Vals xs us → Vals (xs.drop n) (us.drop n)
  | _, _, 0, r => r
  | _, _, _ + 1, .nil => .nil
  | _, _, n + 1, .cons _ t => Vals.drop n t

noncomputable def RelO : Option V → Option Value → Prop
  | some v, some u => RelV v u
  | none, none => True
  | _, _ => False
noncomputable def KV {κ : Type} : List (κ × V) → List (κ × Value) → Prop := Paired fun (p : κ × V) (q : κ × Value) => p.1 = q.1 ∧ RelV p.2 q.2

noncomputable def kV : Key → V
  | .inl i => .int i
  | .inr x => .str x

inductive HO where
  | lst (xs : List V)
  | tup (xs : List V)
  | dK (kvs : List (Key × V)) | dT (kvs : List (List Key × V))
  | set (S : Int → Bool) (n : Nat)
  | ins (C dx : Addr) (fs : List (Str × V))
  | own (x : Addr)
  | xd (fs : List (Str × V))
  | met (f x : Addr)
  | rng (lo hi : Int)
  | frz (o : Obj) (u : HO)
  | tbl (ps : Array Value)
  | ext (φ : Heap → Prop)

noncomputable abbrev Hp := Addr → Option HO
noncomputable def upd (H : Hp) (a : Addr) (o : HO) : Hp := fun b => if b = a then some o else H b
theorem upd_same {H : Hp} {a : Addr} {o : HO} : upd H a o a = some o := by unfold upd; rw [if_pos rfl]
theorem upd_ne {H : Hp} {a b : Addr} {o : HO} (h : b ≠ a) : upd H a o b = H b := by unfold upd; rw [if_neg h]
theorem ne_of {H : Hp} {a b : Addr} {o u : HO} (h : H a = some o) (h' : H b = some u) (d : o ≠ u) : a ≠ b := by
  intro e; subst e; rw [h] at h'; exact d (Option.some.inj h')
theorem ne_of_none {H : Hp} {a b : Addr} {o : HO} (h : H a = some o) (h' : H b = none) : a ≠ b := by
  intro e; subst e; rw [h] at h'; cases h'

section
variable (P : Program) (w : World)
noncomputable def ObjOk (H : Hp) (h : Heap) (a : Addr) : HO → Prop
  | .lst xs => xs.length ≤ sizeLine ∧ ∃ (its : List Value) (n : Nat), Vals xs its ∧ h.get? a = some { cls := .type "list", data := .seq its.toArray n }
  | .tup xs => xs.length ≤ sizeLine ∧ ∃ its : List Value, Vals xs its ∧ IsTup h a its.toArray
  | .dK kvs => kvs.length ≤ sizeLine ∧ (a == sysModules) = false ∧ ∃ vs, KV kvs vs ∧ h.DictOf (mixKind P w) a vs
  | .dT kvs => kvs.length ≤ sizeLine ∧ (a == sysModules) = false ∧ ∃ xs : List (List Key × Addr × Value),
      Paired (fun (p : List Key × V) (q : List Key × Addr × Value) => p.1 = q.1 ∧ H q.2.1 = some (.tup (p.1.map kV)) ∧ RelV p.2 q.2.2) kvs xs ∧
      ∃ o es ep, h.get? a = some o ∧ o.ExactDict ∧ o.data = .dict es ep ∧ es.toList = xs.map (entryOfKey (tupleKind (mixKind P w))) ∧ (xs.map (·.1)).Nodup
  | .set S n => h.SetOf (intKind P w) a S n
  | .ins C dx fs => H dx = some (.own a) ∧ fs.length ≤ 1000 ∧ dx ≠ a ∧ h.get? a = some (PySem.W.instObj C dx) ∧
      ∃ mA, h.Ns1 dx mA ∧ (∀ f, RelO (fs.lookup f) (mA f)) ∧ PySem.Within mA (fs.map (·.1))
  | .own _ => ∃ o, h.get? a = some o
  | .xd fs => ∃ mA, h.Ns1 a mA ∧ ∀ f, RelO (fs.lookup f) (mA f)
  | .rng lo hi => ∃ t u v, h.get? a = some { cls := .type "range", data := .fields #[.int lo t, .int hi u, .int 1 v] }
  | .frz o u => h.get? a = some o ∧ ObjOk H h a u
  | .tbl ps => h.get? a = some { cls := .none, data := .fields ps }
  | .met f x => h.get? a = some (PySem.W.methodObj (.ref f) (.ref x))
  | .ext φ => φ h ∧ (∃ o, h.get? a = some o) ∧ ∀ h1 h2 : Heap, φ h1 → (∀ o, h1.get? a = some o → h2.get? a = some o) → φ h2
noncomputable def HOk (H : Hp) (h : Heap) : Prop := ∀ a o, H a = some o → ObjOk P w H h a o
end

section
variable {P : Program} {w : World} {H H' : Hp} {h h' : Heap} {a : Addr} {o : HO}
theorem ObjOk.lt (x : ObjOk P w H h a o) : a < h.objs.size := by
  cases o with
  | lst xs => obtain ⟨_, _, _, _, e⟩ := x; exact Heap.lt_size e
  | tup xs => obtain ⟨_, _, _, p⟩ := x; exact p.lt
  | dK kvs => obtain ⟨_, _, _, _, o, _, _, e, _⟩ := x; exact Heap.lt_size e
  | dT kvs => obtain ⟨_, _, _, _, o, _, _, e, _⟩ := x; exact Heap.lt_size e
  | set S n => obtain ⟨o, _, _, _, e, _⟩ := x; exact Heap.lt_size e
  | ins C dx fs => obtain ⟨_, _, _, e, _⟩ := x; exact Heap.lt_size e
  | own y => obtain ⟨_, e⟩ := x; exact Heap.lt_size e
  | xd fs => obtain ⟨_, ⟨_, _, _, e, _⟩, _⟩ := x; exact Heap.lt_size e
  | rng lo hi => obtain ⟨_, _, _, e⟩ := x; exact Heap.lt_size e
  | frz ob u => obtain ⟨e, _⟩ := x; exact Heap.lt_size e
  | tbl ps => exact Heap.lt_size (show h.get? a = some _ from x)
  | met f y => exact Heap.lt_size (show h.get? a = some _ from x)
  | ext φ => obtain ⟨_, ⟨_, e⟩, _⟩ := x; exact Heap.lt_size e
theorem Paired.mapP {α β : Type} {F G : α → β → Prop} : ∀ {l₁ : List α} {l₂ : List β}, Paired F l₁ l₂ → (∀ a b, F a b → G a b) → Paired G l₁ l₂
  | _, _, .nil, _ => .nil
  | _, _, .cons r t, f => .cons (f _ _ r) (Paired.mapP t f)
theorem Paired.imp' {α β : Type} {F G : α → β → Prop} (f : ∀ a b, F a b → G a b) {l₁ : List α} {l₂ : List β} (r : Paired F l₁ l₂) : Paired G l₁ l₂ := Paired.mapP r f
theorem ObjOk.stay (x : ObjOk P w H h a o) (k : ∀ b u, (b = a ∨ H b = some (.own a)) → h.get? b = some u → h'.get? b = some u)
    (ho : ∀ b, H b = some (.own a) → H' b = some (.own a)) (ht : ∀ b xs, H b = some (.tup xs) → H' b = some (.tup xs)) : ObjOk P w H' h' a o := by
  induction o with
  | lst xs => obtain ⟨z, its, n, r, e⟩ := x; exact ⟨z, its, n, r, k _ _ (.inl rfl) e⟩
  | tup xs => obtain ⟨z, its, r, ob, e, c⟩ := x; exact ⟨z, its, r, ob, k _ _ (.inl rfl) e, c⟩
  | dK kvs => obtain ⟨z, y, vs, r, ob, es, ep, e, c⟩ := x; exact ⟨z, y, vs, r, ob, es, ep, k _ _ (.inl rfl) e, c⟩
  | dT kvs =>
    obtain ⟨z, y, xs, r, ob, es, ep, e, c⟩ := x
    exact ⟨z, y, xs, Paired.mapP r fun p q z => ⟨z.1, ht _ _ z.2.1, z.2.2⟩, ob, es, ep, k _ _ (.inl rfl) e, c⟩
  | set S n => obtain ⟨ob, es, ep, t, e, c⟩ := x; exact ⟨ob, es, ep, t, k _ _ (.inl rfl) e, c⟩
  | ins C dx fs =>
    obtain ⟨d, z, ne, e, mA, ⟨od, es, ep, e2, c⟩, r⟩ := x
    exact ⟨ho _ d, z, ne, k _ _ (.inl rfl) e, mA, ⟨od, es, ep, k _ _ (.inr d) e2, c⟩, r⟩
  | own y => obtain ⟨ob, e⟩ := x; exact ⟨ob, k _ _ (.inl rfl) e⟩
  | xd fs => obtain ⟨mA, ⟨od, es, ep, e, c⟩, r⟩ := x; exact ⟨mA, ⟨od, es, ep, k _ _ (.inl rfl) e, c⟩, r⟩
  | rng lo hi => obtain ⟨t, u, v, e⟩ := x; exact ⟨t, u, v, k _ _ (.inl rfl) e⟩
  | frz ob u ih => obtain ⟨e, q⟩ := x; exact ⟨k _ _ (.inl rfl) e, ih q⟩
  | tbl ps =>
    have e : h.get? a = some { cls := .none, data := .fields ps } := x
    show h'.get? a = some { cls := .none, data := .fields ps }
    exact k a _ (.inl rfl) e
  | met f y =>
    have e : h.get? a = some (PySem.W.methodObj (.ref f) (.ref y)) := x
    show h'.get? a = some (PySem.W.methodObj (.ref f) (.ref y))
    exact k a _ (.inl rfl) e
  | ext φ => obtain ⟨p, ⟨o, e⟩, st⟩ := x; exact ⟨st _ _ p fun o q => k _ _ (.inl rfl) q, ⟨o, k _ _ (.inl rfl) e⟩, st⟩
theorem HOk.lt (x : HOk P w H h) (e : H a = some o) : a < h.objs.size := (x a o e).lt
theorem HOk.fresh (x : HOk P w H h) (e : h.objs.size ≤ a) : H a = none := by
  cases q : H a with
  | none => rfl
  | some u => exact absurd (Nat.lt_of_lt_of_le (x.lt q) e) (Nat.lt_irrefl _)
theorem HOk.kept (x : HOk P w H h) (k : ∀ b u, h.get? b = some u → h'.get? b = some u) : HOk P w H h' := fun a o e =>
  (x a o e).stay (fun b u _ q => k b u q) (fun _ q => q) fun _ _ q => q
theorem HOk.laid (x : HOk P w H h) (k : ∀ b u, h.get? b = some u → h'.get? b = some u) (hp : h.objs.size ≤ a) (new : ObjOk P w (upd H a o) h' a o) : HOk P w (upd H a o) h' := fun b u e => by
  have hn := x.fresh hp
  by_cases hb : b = a
  · subst hb; rw [upd_same] at e; cases e; exact new
  · rw [upd_ne hb] at e
    exact (x b u e).stay (fun c v _ q => k c v q) (fun c q => by rw [upd_ne (ne_of_none q hn)]; exact q) fun c xs q => by rw [upd_ne (ne_of_none q hn)]; exact q
end

noncomputable def Rd (H : Hp) (a : Addr) (u : HO) : Prop := H a = some u ∨ ∃ o, H a = some (.frz o u)
theorem Rd.ok {P : Program} {w : World} {H : Hp} {h : Heap} {a : Addr} {u : HO} (r : Rd H a u) (x : HOk P w H h) : ObjOk P w H h a u := by
  rcases r with r | ⟨o, r⟩
  · exact x a u r
  · obtain ⟨_, q⟩ := x a _ r
    exact q
noncomputable def Mut : Option HO → Prop
  | some (.lst _) => True
  | some (.dK _) => True
  | some (.dT _) => True
  | some (.set _ _) => True
  | some (.ins _ _ _) => True
  | some (.ext _) => True
  | _ => False
section
variable {P : Program} {w : World} {H : Hp} {h h' : Heap} {x e : Addr} {o' : HO}
theorem HOk.write (ok : HOk P w H h) (mu : Mut (H x)) (he : e = x ∨ H e = some (.own x)) (k : ∀ b u, b ≠ e → h.get? b = some u → h'.get? b = some u) (heo : ∃ u, h'.get? e = some u)
    (new : ObjOk P w (upd H x o') h' x o') : HOk P w (upd H x o') h' := fun b u q => by
  have nown : ∀ c y, H c = some (.own y) → c ≠ x := fun c y r z => by subst z; rw [r] at mu; exact mu
  have ntup : ∀ c xs, H c = some (.tup xs) → c ≠ x := fun c xs r z => by subst z; rw [r] at mu; exact mu
  by_cases hb : b = x
  · subst hb; rw [upd_same] at q; cases q; exact new
  · rw [upd_ne hb] at q
    by_cases hbe : b = e
    · have q' : H b = some (.own x) := by
        rcases he with z | z
        · exact absurd (hbe.trans z) hb
        · rw [hbe]; exact z
      rw [q] at q'; cases q'
      obtain ⟨v, hv⟩ := heo
      exact ⟨v, by rw [hbe]; exact hv⟩
    · refine (ok b u q).stay (fun c v hc r => k c v ?_ r) (fun c r => by rw [upd_ne (nown c b r)]; exact r) fun c xs r => by rw [upd_ne (ntup c xs r)]; exact r
      rcases hc with rfl | hc
      · exact hbe
      · rintro rfl
        rcases he with z | z
        · exact nown c b hc z
        · rw [hc] at z; cases z; exact hb rfl
end

structure Un (fs ex : List Addr) (H H' : Hp) (h h' : Heap) : Prop where
  keep : ∀ b o, h.get? b = some o → H b = none → b ∉ fs → b ∉ ex → h'.get? b = some o
  slot : ∀ b o, h.get? b = some o → H b = none → b ∈ fs → b ∉ ex → ∃ sl, h'.get? b = some { o with slots := sl }
  free : ∀ b o, h.get? b = some o → H b = none → b ∉ ex → H' b = none
  there : ∀ b o, h.get? b = some o → b ∉ ex → ∃ o', h'.get? b = some o'
  tups : ∀ b xs, H b = some (.tup xs) → H' b = some (.tup xs)
  frzs : ∀ b o u, H b = some (.frz o u) → H' b = some (.frz o u)
  tbls : ∀ b ps, H b = some (.tbl ps) → ∃ more, H' b = some (.tbl (ps ++ more))
section
variable {fs fs' ex ex' : List Addr} {H H1 H2 : Hp} {h h1 h2 h' : Heap} {a x e : Addr} {o : HO}
theorem Un.any (u : Un fs ex H H1 h h1) {b : Addr} {ob : Obj} (q : h.get? b = some ob) (n : H b = none) (hx : b ∉ ex) : ∃ sl, h1.get? b = some { ob with slots := sl } := by
  by_cases hb : b ∈ fs
  · exact u.slot b ob q n hb hx
  · exact ⟨ob.slots, u.keep b ob q n hb hx⟩
theorem Un.kept (k : ∀ b u, h.get? b = some u → h'.get? b = some u) : Un fs ex H H h h' :=
  ⟨fun b ob q _ _ _ => k b ob q, fun b ob q _ _ _ => ⟨ob.slots, k b ob q⟩, fun _ _ _ n _ => n, fun b ob q _ => ⟨ob, k b ob q⟩, fun _ _ q => q, fun _ _ _ q => q, fun _ ps q => ⟨#[], by rw [q]; simp⟩⟩
theorem Un.refl : Un fs ex H H h h := Un.kept fun _ _ q => q
theorem Un.laid (k : ∀ b u, h.get? b = some u → h'.get? b = some u) (hp : h.objs.size ≤ a) (hn : H a = none) : Un fs ex H (upd H a o) h h' where
  keep := fun b u q _ _ _ => k b u q
  slot := fun b u q _ _ _ => ⟨u.slots, k b u q⟩
  free := fun b u q n _ => by rw [upd_ne (Nat.ne_of_lt (Nat.lt_of_lt_of_le (Heap.lt_size q) hp))]; exact n
  there := fun b u q _ => ⟨u, k b u q⟩
  tups := fun b xs q => by rw [upd_ne (ne_of_none q hn)]; exact q
  frzs := fun b u xs q => by rw [upd_ne (ne_of_none q hn)]; exact q
  tbls := fun b ps q => ⟨#[], by rw [upd_ne (ne_of_none q hn), q]; simp⟩
theorem Un.write (mu : Mut (H x)) (he : e = x ∨ H e = some (.own x)) (k : ∀ b u, b ≠ e → h.get? b = some u → h'.get? b = some u) (heo : ∃ u, h'.get? e = some u) : Un fs ex H (upd H x o) h h' := by
  have hx : ∀ b, H b = none → b ≠ x := fun b n z => by subst z; rw [n] at mu; exact mu
  have hb : ∀ b, H b = none → b ≠ e := fun b n z => by
    subst z
    rcases he with r | r
    · exact hx b n r
    · rw [n] at r; cases r
  have hm : ∀ b u, H b = some u → ¬ Mut (some u) → b ≠ x := fun b u q nm z => by subst z; rw [q] at mu; exact nm mu
  refine ⟨fun b u q n _ _ => k b u (hb b n) q, fun b u q n _ _ => ⟨u.slots, k b u (hb b n) q⟩, fun b u q n _ => by rw [upd_ne (hx b n)]; exact n, fun b u q _ => ?_,
    fun b xs q => by rw [upd_ne (hm b _ q fun z => z)]; exact q, fun b u xs q => by rw [upd_ne (hm b _ q fun z => z)]; exact q, fun b ps q => ⟨#[], by rw [upd_ne (hm b _ q fun z => z), q]; simp⟩⟩
  by_cases hbe : b = e
  · subst hbe; exact heo
  · exact ⟨u, k b u hbe q⟩
end

noncomputable def trk (h : Heap) (H : Hp) : List Addr := (List.range h.objs.size).filter fun a => (H a).isSome
noncomputable def hidT (h : Heap) (H : Hp) : Heap := PySem.W.hideAll h (trk h H)
theorem hidT_size (h : Heap) (H : Hp) : (hidT h H).objs.size = h.objs.size := PySem.W.hideAll_size _ _
theorem hidT_get {h : Heap} {H : Hp} {b : Addr} {o : Obj} (e : h.get? b = some o) (n : H b = none) : (hidT h H).get? b = some o :=
  PySem.W.hideAll_get _ e fun hm => by
    have q : (H b).isSome = true := (List.mem_filter.mp hm).2
    rw [n] at q; simp at q
theorem of_hidT {h : Heap} {H : Hp} {b : Addr} {o : Obj} (e : (hidT h H).get? b = some o) : h.get? b = some o ∧ H b = none := by
  have e' : h.get? b = some o := PySem.W.of_hideAll (trk h H) e
  refine ⟨e', ?_⟩
  cases q : H b with
  | none => rfl
  | some x =>
    have hm : b ∈ trk h H := List.mem_filter.mpr ⟨List.mem_range.mpr (Heap.lt_size e'), by simp [q]⟩
    have z : (hidT h H).get? b = none := PySem.W.hideAll_none (trk h H) hm
    rw [z] at e; cases e

noncomputable def allNews (g h : Heap) (L : Addr) : List (Addr × Obj) := (List.range h.objs.size).filterMap fun a => if a = L ∨ (g.get? a).isSome = true then none else (h.get? a).map fun o => (a, o)
noncomputable def rest (g h : Heap) (L d : Addr) : List (Addr × Obj) := (allNews g h L).filter fun p => decide (p.1 ≠ d)
end L2

namespace L2
open PySem PySem.Spec PyProof.Rows

structure Mod (K : PySem.W.Frag) (mg : Str → Option Value) (base : Heap) : Prop where
  kin : K.In base
  glob : base.Ns mainGlobals mg
  blt : ∃ mb, base.Ns builtinsNs mb ∧ ∀ x : Str, x ≠ "__name__" → mb x = bootBuiltins x
  nolimit : base.NoLimit

structure Cx where
  prog : Program
  w : World
  K : PySem.W.Frag
  mg : Str → Option Value
  base : Heap
  A : Around
  N : List Str
  s₀ : Shared
  H₀ : Hp
  env : Env
  outer : List Env
  stack : List Env
  ex : List Addr
  fn : Str → Bool
  calm : Bool
  pn : List (Addr × Obj)
  xe : Value → Shared → Prop
noncomputable def frs (l : List Env) : List Addr := l.filterMap (·.frame)
noncomputable abbrev Cx.fs (X : Cx) : List Addr := frs X.outer

noncomputable def Vis (sc : Scope) (x : Str) : Prop := sc.names.lookup x = some .local ∨ sc.names.lookup x = some .cell ∨ sc.names.lookup x = some .free
noncomputable def Loc (sc : Scope) (x : Str) : Prop := sc.names.lookup x = some .local ∨ sc.names.lookup x = some .cell
noncomputable def Look (env : Env) (h : Heap) (m : Str → Option Value) (x : Str) (u : Value) : Prop :=
  (env.kindOf x = some .local ∧ m x = some u) ∨ ((env.kindOf x = some .cell ∨ env.kindOf x = some .free) ∧ ∃ c, env.cells.lookup x = some c ∧ h.IsCell c (some u))

structure Cx.Ok (X : Cx) : Prop where
  mod : Mod X.K X.mg X.base
  kind : X.env.scope.kind = .function
  glob : X.env.globals = mainGlobals
  blt : X.env.builtins = builtinsNs
  above : X.s₀.heap.objs.size ≤ X.env.locals
  inj : ∀ x y c, X.env.cells.lookup x = some c → X.env.cells.lookup y = some c → x = y
  has : ∀ x, (X.env.kindOf x = some .cell ∨ X.env.kindOf x = some .free) → ∃ c, X.env.cells.lookup x = some c
  cab : ∀ x c, X.fn x = true → X.env.cells.lookup x = some c → X.s₀.heap.objs.size ≤ c
  hd : X.calm = true → X.A.handled = none
  frames : X.A.frames = some X.stack
  stk : X.stack = X.outer ∨ (X.stack = X.env :: X.outer ∧ X.env.frame = some X.env.locals)
  exf : ∀ b ∈ X.ex, b ≠ X.env.locals ∧ ∀ x c, X.env.cells.lookup x = some c → c ≠ b
  bs : ∀ b o, X.base.get? b = some o → X.s₀.heap.get? b = some o ∧ X.H₀ b = none
  bsz : X.base.objs.size ≤ X.s₀.heap.objs.size
  noex : ∀ b o, X.base.get? b = some o → b ∉ X.ex
  exfs : ∀ b ∈ X.ex, b ∉ X.fs
  funs : X.s₀.heap.FunFrames X.base X.outer
  frf : ∀ b ∈ X.fs, X.H₀ b = none

structure Inv (X : Cx) (pins : List (Addr × Obj)) (σ : List (Option V)) (H : Hp) (s : Shared) : Prop where
  ok : X.Ok
  os : s.os = X.s₀.os
  bare : AllBare s.gens
  base : Un X.fs X.ex X.H₀ H X.s₀.heap s.heap
  loc : ∃ m, s.heap.Ns X.env.locals m ∧ ∀ (i : Nat) (x : Str) (v : V), X.N[i]? = some x → σ[i]? = some (some v) → Vis X.env.scope x → ∃ u, RelV v u ∧ Look X.env s.heap m x u
  cell : ∀ x c, X.env.cells.lookup x = some c → ∃ v, s.heap.IsCell c v
  free : H X.env.locals = none
  freeC : ∀ x c, X.env.cells.lookup x = some c → H c = none
  pin : ∀ p ∈ X.pn ++ pins, s.heap.get? p.1 = some p.2 ∧ H p.1 = none ∧ p.1 ≠ X.env.locals ∧ p.1 ∉ X.fs ∧ ∀ v, p.2.data ≠ .cell v
  hok : HOk X.prog X.w H s.heap
  len : σ.length = X.N.length

section
variable {X : Cx} {pins : List (Addr × Obj)} {σ : List (Option V)} {H H' : Hp} {s : Shared} {h' : Heap}

theorem Cx.Ok.nofr (ok : X.Ok) {b : Addr} {o : Obj} (e : X.base.get? b = some o) : b ∉ X.fs := fun hb => by
  have := (ok.funs.mem hb).1
  rw [e] at this; cases this
theorem Inv.bs (I : Inv X pins σ H s) : ∀ b o, X.base.get? b = some o → s.heap.get? b = some o ∧ H b = none := fun b o e =>
  ⟨I.base.keep b o (I.ok.bs b o e).1 (I.ok.bs b o e).2 (I.ok.nofr e) (I.ok.noex b o e), I.base.free b o (I.ok.bs b o e).1 (I.ok.bs b o e).2 (I.ok.noex b o e)⟩
theorem Inv.bk (I : Inv X pins σ H s) : ∀ b o, X.base.get? b = some o → s.heap.get? b = some o := fun b o e => (I.bs b o e).1
theorem Inv.mod (I : Inv X pins σ H s) : Mod X.K X.mg X.base := I.ok.mod
theorem Inv.kIn (I : Inv X pins σ H s) : X.K.In s.heap := I.ok.mod.kin.keeps I.bk
theorem Inv.lt (I : Inv X pins σ H s) : X.env.locals < s.heap.objs.size := let ⟨_, hn, _⟩ := I.loc; hn.lt
theorem Inv.sz (I : Inv X pins σ H s) : X.s₀.heap.objs.size ≤ s.heap.objs.size := Nat.le_trans I.ok.above (Nat.le_of_lt I.lt)
theorem Inv.nofs (I : Inv X pins σ H s) {a : Addr} (h : s.heap.objs.size ≤ a) : a ∉ X.fs := fun hb => by
  obtain ⟨_, o, ho, _⟩ := I.ok.funs.mem hb
  exact absurd (Nat.lt_of_lt_of_le (Heap.lt_size ho) (Nat.le_trans I.sz h)) (Nat.lt_irrefl _)
theorem Inv.cne (I : Inv X pins σ H s) : ∀ x c, X.env.cells.lookup x = some c → c ≠ X.env.locals := fun x c e z => by
  obtain ⟨v, o, ho, hd⟩ := I.cell x c e
  obtain ⟨m, ⟨o', es, ep, ho', hd', _⟩, _⟩ := I.loc
  rw [z, ho'] at ho; cases ho; rw [hd'] at hd; cases hd
theorem Inv.funs (I : Inv X pins σ H s) : s.heap.FunFrames X.base X.outer := by
  have all : ∀ (l : List Env), (∀ b ∈ frs l, b ∈ X.fs) → X.s₀.heap.FunFrames X.base l → s.heap.FunFrames X.base l := by
    intro l
    induction l with
    | nil => intro _ _; trivial
    | cons env r ih =>
      intro hs hl
      obtain ⟨hk, ⟨L, o, hf, hn, ho, hd⟩, hr⟩ := hl
      have hL : L ∈ X.fs := hs L (by unfold frs; rw [List.filterMap_cons, hf]; exact List.mem_cons_self)
      obtain ⟨sl, e⟩ := I.base.slot L o ho (I.ok.frf L hL) hL fun z => I.ok.exfs L z hL
      exact ⟨hk, ⟨L, _, hf, hn, e, hd⟩, ih (fun b hb => hs b (by unfold frs; rw [List.filterMap_cons, hf]; exact List.mem_cons_of_mem _ hb)) hr⟩
  exact all X.outer (fun _ hb => hb) I.ok.funs

theorem Inv.stack (I : Inv X pins σ H s) : s.heap.FunFrames X.base X.stack := by
  rcases I.ok.stk with e | ⟨e, hf⟩
  · rw [e]; exact I.funs
  · rw [e]
    obtain ⟨m, hn, _⟩ := I.loc
    refine .cons (by rw [I.ok.kind]; decide) hf hn ?_ I.funs
    exact Heap.get?_none_of_le (Nat.le_trans I.ok.bsz I.ok.above)
theorem Inv.stkSub (I : Inv X pins σ H s) : ∀ b ∈ frs X.stack, b ∈ X.env.locals :: X.fs := fun b hb => by
  rcases I.ok.stk with e | ⟨e, hf⟩
  · rw [e] at hb; exact List.mem_cons_of_mem _ hb
  · rw [e] at hb
    unfold frs at hb
    rw [List.filterMap_cons, hf] at hb
    exact hb
theorem Inv.stkFree (I : Inv X pins σ H s) : ∀ b ∈ frs X.stack, H b = none := fun b hb => by
  rcases List.mem_cons.mp (I.stkSub b hb) with e | hb
  · rw [e]; exact I.free
  · obtain ⟨_, o, ho, _⟩ := I.ok.funs.mem hb
    exact I.base.free b o ho (I.ok.frf b hb) fun z => I.ok.exfs b z hb

theorem Inv.step {g' : Array GenState} {t' : Nat} {d' : Drawn} {ch : List Addr} (I : Inv X pins σ H s)
    (hch : ∀ b ∈ ch, (b ∈ X.ex ∨ X.s₀.heap.objs.size ≤ b) ∧ b ≠ X.env.locals ∧ (∀ x c, X.env.cells.lookup x = some c → c ≠ b) ∧ ∀ p ∈ X.pn ++ pins, p.1 ≠ b)
    (keep : ∀ b o, b ≠ X.env.locals → b ∉ X.fs → b ∉ ch → s.heap.get? b = some o → H b = none → h'.get? b = some o)
    (slot : ∀ b o, b ≠ X.env.locals → b ∈ X.fs → b ∉ ch → s.heap.get? b = some o → H b = none → ∃ sl, h'.get? b = some { o with slots := sl }) (free : ∀ b o, b ∉ ch → s.heap.get? b = some o → H b = none → H' b = none)
    (there : ∀ b o, b ∉ ch → s.heap.get? b = some o → ∃ o', h'.get? b = some o')
    (tups : ∀ b xs, H b = some (.tup xs) → H' b = some (.tup xs)) (frzs : ∀ b o u, H b = some (.frz o u) → H' b = some (.frz o u)) (tbls : ∀ b ps, H b = some (.tbl ps) → ∃ more, H' b = some (.tbl (ps ++ more)))
    (ns : ∀ m, s.heap.Ns X.env.locals m → h'.Ns X.env.locals m) (hok : HOk X.prog X.w H' h') (hg : AllBare g') :
    Inv X pins σ H' { s with heap := h', gens := g', drawn := d', toks := t' } := by
  have neL : ∀ b o, X.s₀.heap.get? b = some o → b ≠ X.env.locals := fun b o e => Nat.ne_of_lt (Nat.lt_of_lt_of_le (Heap.lt_size e) I.ok.above)
  have neC : ∀ b o, X.s₀.heap.get? b = some o → b ∉ X.ex → b ∉ ch := fun b o e hx hb => by
    rcases (hch b hb).1 with z | z
    · exact hx z
    · exact absurd (Nat.lt_of_lt_of_le (Heap.lt_size e) z) (Nat.lt_irrefl _)
  have cellK : ∀ x c, X.env.cells.lookup x = some c → ∀ v, s.heap.IsCell c v → h'.IsCell c v := fun x c e v ⟨o, ho, hd⟩ => by
    have nch : c ∉ ch := fun z => (hch c z).2.2.1 x c e rfl
    by_cases hc : c ∈ X.fs
    · obtain ⟨sl, q⟩ := slot c o (I.cne x c e) hc nch ho (I.freeC x c e)
      exact ⟨_, q, hd⟩
    · exact ⟨o, keep c o (I.cne x c e) hc nch ho (I.freeC x c e), hd⟩
  refine ⟨I.ok, I.os, hg, ⟨fun b o e n hb hx => ?_, fun b o e n hb hx => ?_, fun b o e n hx => ?_, fun b o e hx => ?_, fun b xs e => tups b xs (I.base.tups b xs e), fun b o xs e => frzs b o xs (I.base.frzs b o xs e), fun b ps e => ?_⟩, ?_, fun x c e => ?_, ?_, fun x c e => ?_, fun p hp => ?_, hok, I.len⟩
  · exact keep b o (neL b o e) hb (neC b o e hx) (I.base.keep b o e n hb hx) (I.base.free b o e n hx)
  · obtain ⟨sl, e1⟩ := I.base.slot b o e n hb hx
    obtain ⟨sl', e2⟩ := slot b _ (neL b o e) hb (neC b o e hx) e1 (I.base.free b o e n hx)
    exact ⟨sl', e2⟩
  · obtain ⟨o', e1⟩ := I.base.there b o e hx
    exact free b o' (neC b o e hx) e1 (I.base.free b o e n hx)
  · obtain ⟨o', e1⟩ := I.base.there b o e hx
    exact there b o' (neC b o e hx) e1
  · obtain ⟨m1, e1⟩ := I.base.tbls b ps e
    obtain ⟨m2, e2⟩ := tbls b _ e1
    exact ⟨m1 ++ m2, by rw [e2, Array.append_assoc]⟩
  · obtain ⟨m, hn, hl⟩ := I.loc
    refine ⟨m, ns m hn, fun i x v e1 e2 e3 => ?_⟩
    obtain ⟨u, r, l⟩ := hl i x v e1 e2 e3
    refine ⟨u, r, ?_⟩
    rcases l with l | ⟨k, c, e, z⟩
    · exact .inl l
    · exact .inr ⟨k, c, e, cellK x c e _ z⟩
  · obtain ⟨v, z⟩ := I.cell x c e
    exact ⟨v, cellK x c e v z⟩
  · obtain ⟨m, ⟨o, _, _, ho, _⟩, _⟩ := I.loc
    exact free _ o (fun z => (hch _ z).2.1 rfl) ho I.free
  · obtain ⟨v, o, ho, hd⟩ := I.cell x c e
    exact free c o (fun z => (hch c z).2.2.1 x c e rfl) ho (I.freeC x c e)
  · obtain ⟨e, n, ne, nf, d⟩ := I.pin p hp
    have nch : p.1 ∉ ch := fun z => (hch p.1 z).2.2.2 p hp rfl
    exact ⟨keep p.1 p.2 ne nf nch e n, free p.1 p.2 nch e n, ne, nf, d⟩
theorem Inv.un {t' : Nat} (I : Inv X pins σ H s) (u : Un X.fs [] H H' s.heap h') (hok : HOk X.prog X.w H' h') : Inv X pins σ H' { s with heap := h', toks := t' } := by
  obtain ⟨m, ⟨o, es, ep, ho, r⟩, _⟩ := id I.loc
  obtain ⟨sl, hL⟩ := u.any ho I.free (by simp)
  exact I.step (g' := s.gens) (d' := s.drawn) (ch := []) (fun _ z => nomatch z) (fun b o _ hb _ e n => u.keep b o e n hb (by simp)) (fun b o _ hb _ e n => u.slot b o e n hb (by simp)) (fun b o _ e n => u.free b o e n (by simp)) (fun b o _ e => u.there b o e (by simp)) u.tups u.frzs u.tbls (fun m' hm => by
    obtain ⟨o', es', ep', ho', r'⟩ := hm
    rw [ho] at ho'; cases ho'
    exact ⟨_, es', ep', hL, r'⟩) hok I.bare
theorem Inv.call {g' : Array GenState} {t' : Nat} {d' : Drawn} {ch : List Addr} (I : Inv X pins σ H s) (u : Un (frs X.stack) ch H H' s.heap h') (hok : HOk X.prog X.w H' h') (hg : AllBare g')
    (hch : ∀ b ∈ ch, (b ∈ X.ex ∨ X.s₀.heap.objs.size ≤ b) ∧ b ≠ X.env.locals ∧ (∀ x c, X.env.cells.lookup x = some c → c ≠ b) ∧ ∀ p ∈ X.pn ++ pins, p.1 ≠ b) :
    Inv X pins σ H' { s with heap := h', gens := g', drawn := d', toks := t' } := by
  obtain ⟨m, ⟨o, es, ep, ho, r⟩, _⟩ := id I.loc
  obtain ⟨sl, hL⟩ := u.any ho I.free fun z => (hch _ z).2.1 rfl
  exact I.step (ch := ch) hch (fun b o hL hb hc e n => u.keep b o e n (fun z => (List.mem_cons.mp (I.stkSub b z)).elim hL hb) hc) (fun b o _ _ hc e n => u.any e n hc) (fun b o hc e n => u.free b o e n hc) (fun b o hc e => u.there b o e hc) u.tups u.frzs u.tbls (fun m' hm => by
    obtain ⟨o', es', ep', ho', r'⟩ := hm
    rw [ho] at ho'; cases ho'
    exact ⟨_, es', ep', hL, r'⟩) hok hg
theorem Inv.turned {t' : Nat} {it : Addr} (I : Inv X pins σ H s) (k : ∀ b o, b ≠ it → s.heap.get? b = some o → h'.get? b = some o) (hn : H it = none) (hL : it ≠ X.env.locals)
    (h1 : it ∈ X.ex ∨ X.s₀.heap.objs.size ≤ it) (h2 : ∀ x c, X.env.cells.lookup x = some c → c ≠ it) (h3 : ∀ p ∈ X.pn ++ pins, p.1 ≠ it) : Inv X pins σ H { s with heap := h', toks := t' } := by
  have nit : ∀ b u, H b = some u → b ≠ it := fun b u e z => by rw [z, hn] at e; cases e
  refine I.step (g' := s.gens) (d' := s.drawn) (ch := [it]) (fun b hb => ?_) (fun b o _ _ hc e _ => k b o (fun z => hc (by simp [z])) e) (fun b o _ _ hc e _ => ⟨o.slots, k b o (fun z => hc (by simp [z])) e⟩) (fun _ _ _ _ n => n)
    (fun b o hc e => ⟨o, k b o (fun z => hc (by simp [z])) e⟩) (fun _ _ e => e) (fun _ _ _ e => e) (fun b ps e => ⟨#[], by rw [e]; simp⟩) (fun m hm => ?_) (fun b u e => ?_) I.bare
  · have e : b = it := by simpa using hb
    subst e
    exact ⟨h1, hL, h2, h3⟩
  · obtain ⟨o, es, ep, ho, r⟩ := hm
    exact ⟨o, es, ep, k _ o (Ne.symm hL) ho, r⟩
  · refine (I.hok b u e).stay (fun c v hc q => k c v ?_ q) (fun _ q => q) fun _ _ q => q
    rcases hc with z | z
    · rw [z]; exact nit b u e
    · exact nit c _ z
theorem Inv.tok (I : Inv X pins σ H s) (t : Nat) : Inv X pins σ H { s with toks := t } := I.un (h' := s.heap) (t' := t) Un.refl I.hok
theorem Inv.kept {t' : Nat} (I : Inv X pins σ H s) (k : ∀ b u, s.heap.get? b = some u → h'.get? b = some u) : Inv X pins σ H { s with heap := h', toks := t' } := I.un (Un.kept k) (I.hok.kept k)
theorem Inv.laid {a : Addr} {o : HO} {t' : Nat} (I : Inv X pins σ H s) (k : ∀ b u, s.heap.get? b = some u → h'.get? b = some u) (hp : s.heap.objs.size ≤ a) (new : ObjOk X.prog X.w (upd H a o) h' a o) :
    Inv X pins σ (upd H a o) { s with heap := h', toks := t' } := I.un (Un.laid k hp (I.hok.fresh hp)) (I.hok.laid k hp new)
theorem Inv.write {x e : Addr} {o : HO} {t' : Nat} (I : Inv X pins σ H s) (mu : Mut (H x)) (he : e = x ∨ H e = some (.own x)) (k : ∀ b u, b ≠ e → s.heap.get? b = some u → h'.get? b = some u) (heo : ∃ u, h'.get? e = some u)
    (new : ObjOk X.prog X.w (upd H x o) h' x o) : Inv X pins σ (upd H x o) { s with heap := h', toks := t' } := I.un (Un.write mu he k heo) (I.hok.write mu he k heo new)
theorem Inv.weak {σ' : List (Option V)} (I : Inv X pins σ H s) (hl : σ'.length = σ.length) (w : ∀ (i : Nat) v, σ'[i]? = some (some v) → σ[i]? = some (some v)) : Inv X pins σ' H s :=
  ⟨I.ok, I.os, I.bare, I.base, let ⟨m, hn, hl'⟩ := I.loc; ⟨m, hn, fun i x v e1 e2 e3 => hl' i x v e1 (w i v e2) e3⟩, I.cell, I.free, I.freeC, I.pin, I.hok, hl.trans I.len⟩
theorem Inv.pins_of {pins' : List (Addr × Obj)} (I : Inv X pins σ H s) (h : ∀ p ∈ pins', s.heap.get? p.1 = some p.2 ∧ H p.1 = none ∧ p.1 ≠ X.env.locals ∧ p.1 ∉ X.fs ∧ ∀ v, p.2.data ≠ .cell v) : Inv X pins' σ H s :=
  ⟨I.ok, I.os, I.bare, I.base, I.loc, I.cell, I.free, I.freeC, fun p hp => (List.mem_append.mp hp).elim (fun z => I.pin p (List.mem_append_left _ z)) (h p), I.hok, I.len⟩

theorem nodup_ix {N : List Str} (hN : N.Nodup) {i j : Nat} {x : Str} (a : N[i]? = some x) (b : N[j]? = some x) : i = j := by
  obtain ⟨h1, e1⟩ := List.getElem?_eq_some_iff.mp a
  obtain ⟨h2, e2⟩ := List.getElem?_eq_some_iff.mp b
  exact (List.getElem_inj hN).mp (e1.trans e2.symm)

theorem store_ok2 {M : Model} {A : Around} {E : Value → Shared → Prop} {i : Nat} {x : Str} {v : V} {u : Value} {Q : Unit → Shared → Prop} (I : Inv X pins σ H s) (hN : X.N.Nodup) (hi : X.N[i]? = some x) (hx : Loc X.env.scope x) (r : RelV v u)
    (h : ∀ s', Inv X pins (σ.set i (some v)) H s' → (∃ a, Heap.SameBut a s.heap s'.heap ∧ (a = X.env.locals ∨ X.env.cells.lookup x = some a)) → Q () s') (hf : X.fn x = true ∨ X.env.scope.names.lookup x = some .local := by first | exact .inl rfl | exact .inr rfl | assumption) : wpAny M A (storeName X.env x u) Q E s := by
  obtain ⟨m, hn, hl⟩ := id I.loc
  have hcls : (X.env.scope.kind == .class || (X.env.scope.kind == .module && X.env.locals != X.env.globals)) = false := by rw [I.ok.kind]; rfl
  have hiσ : i < σ.length := by rw [I.len]; exact (List.getElem?_eq_some_iff.mp hi).1
  have cne := I.cne
  have tracked : ∀ {a : Addr} {h' : Heap}, (∃ o, s.heap.get? a = some o ∧ H a = none) → Heap.SameBut a s.heap h' → HOk X.prog X.w H h' := fun {a h'} ha hs b ob e => by
    obtain ⟨_, _, hfree⟩ := ha
    refine (I.hok b ob e).stay (fun c w' hc q => (hs.2 c ?_).trans q) (fun _ q => q) fun _ _ q => q
    rintro rfl
    rcases hc with rfl | hc
    · rw [hfree] at e; cases e
    · rw [hfree] at hc; cases hc
  rcases hx with hk | hk
  · refine wpAny_storeName_local hk hn (fun h' hn' hs => ?_) hcls
    obtain ⟨oL, _, _, hoL, _⟩ := id hn
    refine h _ ⟨I.ok, I.os, I.bare, ⟨fun b o e n hb hx => ?_, fun b o e n hb hx => ?_, I.base.free, fun b o e hx => ?_, I.base.tups, I.base.frzs, I.base.tbls⟩, ⟨_, hn', fun j y v' e1 e2 e3 => ?_⟩, fun y c e => ?_, I.free, I.freeC, fun p hp => ?_, tracked ⟨oL, hoL, I.free⟩ hs, by simpa using I.len⟩ ⟨_, hs, .inl rfl⟩
    · exact (hs.2 b (Nat.ne_of_lt (Nat.lt_of_lt_of_le (Heap.lt_size e) I.ok.above))).trans (I.base.keep b o e n hb hx)
    · obtain ⟨sl, e1⟩ := I.base.slot b o e n hb hx
      exact ⟨sl, (hs.2 b (Nat.ne_of_lt (Nat.lt_of_lt_of_le (Heap.lt_size e) I.ok.above))).trans e1⟩
    · obtain ⟨o', e1⟩ := I.base.there b o e hx
      exact ⟨o', (hs.2 b (Nat.ne_of_lt (Nat.lt_of_lt_of_le (Heap.lt_size e) I.ok.above))).trans e1⟩
    · by_cases hj : j = i
      · subst hj
        rw [hi] at e1; cases e1
        rw [List.getElem?_set_self hiσ] at e2
        cases e2
        exact ⟨u, r, .inl ⟨hk, by simp⟩⟩
      · rw [List.getElem?_set_ne (Ne.symm hj)] at e2
        obtain ⟨u', r', q⟩ := hl j y v' e1 e2 e3
        refine ⟨u', r', ?_⟩
        rcases q with ⟨k, e⟩ | ⟨k, c, e, z⟩
        · refine .inl ⟨k, ?_⟩
          have : y ≠ x := fun e => hj (nodup_ix hN e1 (e ▸ hi))
          simp [this, e]
        · exact .inr ⟨k, c, e, z.sameBut hs (cne y c e)⟩
    · obtain ⟨w', z⟩ := I.cell y c e
      exact ⟨w', z.sameBut hs (cne y c e)⟩
    · obtain ⟨e, n, ne, nf, d⟩ := I.pin p hp
      exact ⟨(hs.2 p.1 ne).trans e, n, ne, nf, d⟩
  · have hfn : X.fn x = true := by
      rcases hf with z | z
      · exact z
      · rw [z] at hk; cases hk
    obtain ⟨c, hc⟩ := I.ok.has x (.inl hk)
    obtain ⟨w', z⟩ := I.cell x c hc
    refine wpAny_storeName_cell I.ok.kind hk hc z (fun h' hc' hs => ?_)
    obtain ⟨oc, hoc, hocd⟩ := id z
    refine h { s with heap := h' } ⟨I.ok, I.os, I.bare, ⟨fun b o e n hb hx => ?_, fun b o e n hb hx => ?_, I.base.free, fun b o e hx => ?_, I.base.tups, I.base.frzs, I.base.tbls⟩, ⟨m, hn.sameBut hs (Ne.symm (cne x c hc)), fun j y v' e1 e2 e3 => ?_⟩, fun y c' e => ?_, I.free, I.freeC, fun p hp => ?_, tracked ⟨oc, hoc, I.freeC x c hc⟩ hs, by simpa using I.len⟩ ⟨c, hs, .inr hc⟩
    · exact (hs.2 b (Nat.ne_of_lt (Nat.lt_of_lt_of_le (Heap.lt_size e) (I.ok.cab x c hfn hc)))).trans (I.base.keep b o e n hb hx)
    · obtain ⟨sl, e1⟩ := I.base.slot b o e n hb hx
      exact ⟨sl, (hs.2 b (Nat.ne_of_lt (Nat.lt_of_lt_of_le (Heap.lt_size e) (I.ok.cab x c hfn hc)))).trans e1⟩
    · obtain ⟨o', e1⟩ := I.base.there b o e hx
      exact ⟨o', (hs.2 b (Nat.ne_of_lt (Nat.lt_of_lt_of_le (Heap.lt_size e) (I.ok.cab x c hfn hc)))).trans e1⟩
    · by_cases hj : j = i
      · subst hj
        rw [hi] at e1; cases e1
        rw [List.getElem?_set_self hiσ] at e2
        cases e2
        exact ⟨u, r, .inr ⟨.inl hk, c, hc, hc'⟩⟩
      · rw [List.getElem?_set_ne (Ne.symm hj)] at e2
        obtain ⟨u', r', q⟩ := hl j y v' e1 e2 e3
        refine ⟨u', r', ?_⟩
        rcases q with q | ⟨k, c', e, z'⟩
        · exact .inl q
        · refine .inr ⟨k, c', e, z'.sameBut hs ?_⟩
          rintro rfl
          exact hj (nodup_ix hN e1 (I.ok.inj _ _ _ e hc ▸ hi))
    · by_cases hcc : c' = c
      · subst hcc; exact ⟨_, hc'⟩
      · obtain ⟨w2, z2⟩ := I.cell y c' e
        exact ⟨w2, z2.sameBut hs hcc⟩
    · obtain ⟨e, n, ne, nf, d⟩ := I.pin p hp
      refine ⟨(hs.2 p.1 ?_).trans e, n, ne, nf, d⟩
      intro q
      rw [q, hoc] at e
      have q' : oc = p.2 := Option.some.inj e
      exact d w' (by rw [← q']; exact hocd)
theorem store_ok {M : Model} {A : Around} {E : Value → Shared → Prop} {i : Nat} {x : Str} {v : V} {u : Value} {Q : Unit → Shared → Prop} (I : Inv X pins σ H s) (hN : X.N.Nodup) (hi : X.N[i]? = some x) (hx : Loc X.env.scope x) (r : RelV v u)
    (h : ∀ s', Inv X pins (σ.set i (some v)) H s' → Q () s') (hf : X.fn x = true ∨ X.env.scope.names.lookup x = some .local := by first | exact .inl rfl | exact .inr rfl | assumption) : wpAny M A (storeName X.env x u) Q E s :=
  store_ok2 I hN hi hx r (fun s' I' _ => h s' I') hf
theorem Inv.call' {s' : Shared} {ch : List Addr} (I : Inv X pins σ H s) (ho : s'.os = s.os) (u : Un (frs X.stack) ch H H' s.heap s'.heap) (hok : HOk X.prog X.w H' s'.heap) (hg : AllBare s'.gens)
    (hch : ∀ b ∈ ch, (b ∈ X.ex ∨ X.s₀.heap.objs.size ≤ b) ∧ b ≠ X.env.locals ∧ (∀ x c, X.env.cells.lookup x = some c → c ≠ b) ∧ ∀ p ∈ X.pn ++ pins, p.1 ≠ b) : Inv X pins σ H' s' := by
  obtain ⟨h', g', d', t', o'⟩ := s'
  have e : o' = s.os := ho
  subst e
  exact I.call (g' := g') (t' := t') (d' := d') u hok hg hch
end

noncomputable abbrev XK := Value → Option Addr → Hp → Prop
noncomputable abbrev St := List (Option V)
noncomputable abbrev VK := V → Hp → Prop
noncomputable abbrev TE := St → Hp → VK → Prop
noncomputable abbrev TT := St → Hp → (Bool → Hp → Prop) → Prop
noncomputable abbrev TA := St → Hp → (List V → Hp → Prop) → Prop
structure Ends where
  nx : St → Hp → Prop
  rt : VK
  bk : St → Hp → Prop := fun _ _ => False
  ct : St → Hp → Prop := fun _ _ => False
noncomputable abbrev TS := Ends → St → Hp → Prop

noncomputable def EP (X : Cx) (pins : List (Addr × Obj)) (σ : St) (Q : VK) (u : Value) (s' : Shared) : Prop := ∃ v H', Inv X pins σ H' s' ∧ RelV v u ∧ Q v H'
noncomputable def TP (X : Cx) (pins : List (Addr × Obj)) (σ : St) (Q : Bool → Hp → Prop) (b : Bool) (s' : Shared) : Prop := ∃ H', Inv X pins σ H' s' ∧ Q b H'
noncomputable def AP (X : Cx) (pins : List (Addr × Obj)) (σ : St) (Q : List V → Hp → Prop) (us : List Value) (s' : Shared) : Prop := ∃ vs H', Inv X pins σ H' s' ∧ Vals vs us ∧ Q vs H'
noncomputable def SP (X : Cx) (pins : List (Addr × Obj)) (D : Ends) (f : Flow) (s' : Shared) : Prop :=
  match f with
  | .next => ∃ σ' H', Inv X pins σ' H' s' ∧ D.nx σ' H'
  | .brk => ∃ σ' H', Inv X pins σ' H' s' ∧ D.bk σ' H'
  | .cont => ∃ σ' H', Inv X pins σ' H' s' ∧ D.ct σ' H'
  | .ret u => ∃ v σ' H', Inv X pins σ' H' s' ∧ RelV v u ∧ D.rt v H'

noncomputable def PE (X : Cx) (e : Expr) (t : TE) : Prop :=
  ∀ (pins : List (Addr × Obj)) (s : Shared) (σ : St) (H : Hp) (Q : VK), Inv X pins σ H s → t σ H Q → wpAny (model X.prog X.w) X.A (eval e X.env) (EP X pins σ Q) X.xe s
noncomputable def PT (X : Cx) (e : Expr) (t : TT) : Prop :=
  ∀ (pins : List (Addr × Obj)) (s : Shared) (σ : St) (H : Hp) (Q : Bool → Hp → Prop), Inv X pins σ H s → t σ H Q → wpAny (model X.prog X.w) X.A (isTrue e X.env (eval e X.env)) (TP X pins σ Q) X.xe s
noncomputable def PW (X : Cx) (e : Expr) (t : TT) : Prop :=
  ∀ (whole : Sem Value) (pins : List (Addr × Obj)) (s : Shared) (σ : St) (H : Hp) (Q : Bool → Hp → Prop), Inv X pins σ H s → t σ H Q → wpAny (model X.prog X.w) X.A (isTrue e X.env whole) (TP X pins σ Q) X.xe s
theorem PW.pt {X : Cx} {e : Expr} {t : TT} (h : PW X e t) : PT X e t := h _
noncomputable def PA (X : Cx) (es : List Expr) (t : TA) : Prop :=
  ∀ (pos : Pos) (pins : List (Addr × Obj)) (s : Shared) (σ : St) (H : Hp) (Q : List V → Hp → Prop), Inv X pins σ H s → t σ H Q → wpAny (model X.prog X.w) X.A (spliced (backTo pos (starEach es X.env))) (AP X pins σ Q) X.xe s
noncomputable def PS (X : Cx) (st : Stmt) (t : TS) : Prop :=
  ∀ (pins : List (Addr × Obj)) (s : Shared) (σ : St) (H : Hp) (D : Ends), Inv X pins σ H s → t D σ H → wpAny (model X.prog X.w) X.A (exec st X.env) (SP X pins D) X.xe s
noncomputable def PSs (X : Cx) (st : List Stmt) (t : TS) : Prop :=
  ∀ (pins : List (Addr × Obj)) (s : Shared) (σ : St) (H : Hp) (D : Ends), Inv X pins σ H s → t D σ H → wpAny (model X.prog X.w) X.A (execs st X.env) (SP X pins D) X.xe s
theorem thn {α : Type} {t : Sem α} {Q Q' : α → Shared → Prop} {M : Model} {A : Around} {E : Value → Shared → Prop} {s : Shared} (h : wpAny M A t Q E s) (hQ : ∀ a s, Q a s → Q' a s) : wpAny M A t Q' E s := wpAny_mono h hQ fun _ _ x => x
end L2

namespace L2
open PySem PySem.Spec PyProof.Rows
section
variable {X : Cx}


noncomputable def tVar (i : Nat) : TE := fun σ H Q => ∃ v, σ[i]? = some (some v) ∧ Q v H
noncomputable def tC (v : V) : TE := fun _ H Q => Q v H
theorem pe_var {i : Nat} {x : Str} {pos : Pos} (hN : X.N[i]? = some x) (hv : Vis X.env.scope x) (hd : (x == ("__debug__" : Str)) = false := by decide) (hcd : (x == ("__classdict__" : Str)) = false := by decide) : PE X (.Name x pos) (tVar i) := by
  intro pins s σ H Q I h
  obtain ⟨v, e, h⟩ := h
  obtain ⟨m, hn, hl⟩ := I.loc
  obtain ⟨u, r, l⟩ := hl i x v hN e hv
  have fin : EP X pins σ Q u s := ⟨v, H, I, r, h⟩
  rcases l with ⟨hk, hm⟩ | ⟨hk, c, hc, hcell⟩
  · exact wpAny_Name (wpAny_loadName_local I.ok.kind hk hn hm fin) hd
  · rcases hk with hk | hk
    · exact wpAny_Name (wpAny_loadName_cell I.ok.kind hk hc hcell fin) hd
    · exact wpAny_Name (wpAny_loadName_free I.ok.kind hk hc hcell fin hcd) hd
theorem pe_int {i j pos} : PE X (.Constant (.int i) j pos) (tC (.int i)) := fun _ _ _ H _ I h => wpAny_Constant_int ⟨.int i, H, I.tok _, ⟨_, rfl⟩, h⟩
theorem pe_bl {b j pos} : PE X (.Constant (.bool b) j pos) (tC (.bl b)) := fun _ _ _ H _ I h => Constant_bool ⟨.bl b, H, I, rfl, h⟩
theorem pe_non {j pos} : PE X (.Constant .none j pos) (tC .non) := fun _ _ _ H _ I h => Constant_none ⟨.non, H, I, rfl, h⟩

noncomputable def Gl (X : Cx) (x : Str) : Prop := X.env.kindOf x = some .globalImplicit
theorem ld_glob {E : Value → Shared → Prop} {pins : List (Addr × Obj)} {s : Shared} {σ : St} {H : Hp} {x : Str} {u : Value} {pos : Pos} {Q : Value → Shared → Prop} (I : Inv X pins σ H s) (hg : Gl X x) (hm : X.mg x = some u) (h : Q u s)
    (hd : (x == ("__debug__" : Str)) = false := by decide) : wpAny (model X.prog X.w) X.A (eval (.Name x pos) X.env) Q E s :=
  Calls.Name_function_global I.ok.kind hg (Calls.loadGlobal_global (by rw [I.ok.glob]; exact I.mod.glob.keeps I.bk) hm h) hd
theorem ld_blt {E : Value → Shared → Prop} {pins : List (Addr × Obj)} {s : Shared} {σ : St} {H : Hp} {x : Str} {u : Value} {pos : Pos} {Q : Value → Shared → Prop} (I : Inv X pins σ H s) (hg : Gl X x) (hm : X.mg x = none) (hv : bootBuiltins x = some u) (h : Q u s)
    (hn : x ≠ "__name__" := by decide) (hd : (x == ("__debug__" : Str)) = false := by decide) : wpAny (model X.prog X.w) X.A (eval (.Name x pos) X.env) Q E s := by
  obtain ⟨mb, h1, h2⟩ := I.mod.blt
  exact Calls.Name_function_global I.ok.kind hg (Calls.loadGlobal_builtin (by rw [I.ok.glob]; exact I.mod.glob.keeps I.bk) hm (by rw [I.ok.blt]; exact h1.keeps I.bk) ((h2 x hn).trans hv) h) hd
theorem pe_bltn {x : Str} {v : V} {u : Value} {pos : Pos} (hg : Gl X x) (hm : X.mg x = none) (hv : bootBuiltins x = some u) (r : RelV v u) (hn : x ≠ "__name__" := by decide) (hd : (x == ("__debug__" : Str)) = false := by decide) : PE X (.Name x pos) (tC v) :=
  fun _ _ _ H _ I h => ld_blt I hg hm hv ⟨v, H, I, r, h⟩ hn hd

noncomputable def t2I (ta tb : TE) (k : Int → Int → Hp → Prop) : St → Hp → Prop := fun σ H => ta σ H fun x H1 => tb σ H1 fun y H2 => ∃ i j, x = .int i ∧ y = .int j ∧ k i j H2
noncomputable def tAdd (ta tb : TE) : TE := fun σ H Q => t2I ta tb (fun i j H2 => Q (.int (i + j)) H2) σ H
noncomputable def tSub (ta tb : TE) : TE := fun σ H Q => t2I ta tb (fun i j H2 => Q (.int (i - j)) H2) σ H
noncomputable def tMul (ta tb : TE) : TE := fun σ H Q => t2I ta tb (fun i j H2 => (-(2 ^ 64) < i ∧ i < 2 ^ 64) ∧ Q (.int (i * j)) H2) σ H
variable {a b : Expr} {ta tb : TE} {pos : Pos}

noncomputable def PC (X : Cx) (op : CmpOp) (a b : Expr) (t : TE) : Prop :=
  ∀ (pins : List (Addr × Obj)) (s : Shared) (σ : St) (H : Hp) (Q : VK), Inv X pins σ H s → t σ H Q →
    wpAny (model X.prog X.w) X.A (eval a X.env) (fun v s₁ => wpAny (model X.prog X.w) X.A (eval b X.env) (fun u s₂ => wpAny (model X.prog X.w) X.A (compareOp op v u) (EP X pins σ Q) X.xe s₂) X.xe s₁) X.xe s
noncomputable def tCmp (p : Int → Int → Bool) (ta tb : TE) : TE := fun σ H Q => t2I ta tb (fun i j H2 => Q (.bl (p i j)) H2) σ H
noncomputable abbrev tLt : TE → TE → TE := tCmp fun i j => decide (i < j)
noncomputable abbrev tLe : TE → TE → TE := tCmp fun i j => decide (i ≤ j)
noncomputable abbrev tGt : TE → TE → TE := tCmp fun i j => decide (j < i)
noncomputable abbrev tGe : TE → TE → TE := tCmp fun i j => decide (j ≤ i)
noncomputable abbrev tEqI : TE → TE → TE := tCmp fun i j => decide (i = j)
noncomputable abbrev tNeI : TE → TE → TE := tCmp fun i j => !decide (i = j)
noncomputable def tIsN (ta : TE) : TE := fun σ H Q => ta σ H fun x H1 => Q (.bl (decide (x = .non))) H1
noncomputable def tNotN (ta : TE) : TE := fun σ H Q => ta σ H fun x H1 => Q (.bl (!decide (x = .non))) H1
noncomputable def tB (t : TE) : TT := fun σ H Q => t σ H fun x H1 => ∃ c, x = .bl c ∧ Q c H1
theorem pt_val {e : Expr} {t : TE} (h : PE X e t) (he : ∀ whole, isTrue e X.env whole = (do let v ← whole; standAt e.pos; holding [v] (truthy v)) := by intro _; rfl) : PT X e (tB t) := by
  intro pins s σ H Q I hw
  refine isTrue_plain (thn (h pins s σ H _ I hw) fun v s1 ⟨x, H1, I1, r1, q1⟩ => ?_) (he _)
  obtain ⟨d, rfl, q⟩ := q1
  cases r1
  exact wpAny_truthy_bool ⟨H1, I1, q⟩

variable {tA tB' : TT} {rest : List Expr}
noncomputable def tAnd (t u : TT) : TT := fun σ H Q => t σ H fun c H1 => if c = true then u σ H1 Q else Q false H1
noncomputable def tOr (t u : TT) : TT := fun σ H Q => t σ H fun c H1 => if c = true then Q true H1 else u σ H1 Q
noncomputable def tNot (t : TT) : TT := fun σ H Q => t σ H fun c H1 => Q (!c) H1
theorem pw_and1 (ha : PT X a tA) : PW X (.BoolOp .And [a] pos) tA := by
  intro wh pins s σ H Q I h
  refine isTrue_and (thn (ha pins s σ H Q I h) fun c s1 e => ?_)
  cases c with
  | true => exact isTrue_and_nil e
  | false => exact e
theorem pw_or1 (ha : PT X a tA) : PW X (.BoolOp .Or [a] pos) tA := by
  intro wh pins s σ H Q I h
  refine isTrue_or (thn (ha pins s σ H Q I h) fun c s1 e => ?_)
  cases c with
  | false => exact isTrue_or_nil e
  | true => exact e
theorem pw_and (ha : PT X a tA) (hb : PW X (.BoolOp .And (b :: rest) pos) tB') : PW X (.BoolOp .And (a :: b :: rest) pos) (tAnd tA tB') := by
  intro wh pins s σ H Q I h
  refine isTrue_and (thn (ha pins s σ H _ I h) fun c s1 ⟨H1, I1, q1⟩ => ?_)
  cases c with
  | true => exact hb wh pins s1 σ H1 Q I1 q1
  | false => exact ⟨H1, I1, q1⟩
theorem pw_or (ha : PT X a tA) (hb : PW X (.BoolOp .Or (b :: rest) pos) tB') : PW X (.BoolOp .Or (a :: b :: rest) pos) (tOr tA tB') := by
  intro wh pins s σ H Q I h
  refine isTrue_or (thn (ha pins s σ H _ I h) fun c s1 ⟨H1, I1, q1⟩ => ?_)
  cases c with
  | true => exact ⟨H1, I1, q1⟩
  | false => exact hb wh pins s1 σ H1 Q I1 q1
theorem pt_not (ha : PT X a tA) : PT X (.UnaryOp .Not a pos) (tNot tA) := by
  intro pins s σ H Q I h
  exact isTrue_not (ha pins s σ H (fun c H1 => Q (!c) H1) I h)
noncomputable def tAndV (ta tb : TE) : TE := fun σ H Q => ta σ H fun x H1 => ∃ c, x = .bl c ∧ if c = true then tb σ H1 Q else Q (.bl false) H1
noncomputable def tOrV (ta tb : TE) : TE := fun σ H Q => ta σ H fun x H1 => ∃ c, x = .bl c ∧ if c = true then Q (.bl true) H1 else tb σ H1 Q
noncomputable def tNotV (ta : TE) : TE := fun σ H Q => ta σ H fun x H1 => ∃ c, x = .bl c ∧ Q (.bl (!c)) H1
theorem pe_one {op} {t : TE} (h : PE X a t) : PE X (.BoolOp op [a] pos) t := fun pins s σ H Q I hw => BoolOp_one (h pins s σ H Q I hw)
theorem pe_and (ha : PE X a ta) (hb : PE X (.BoolOp .And (b :: rest) pos) tb) : PE X (.BoolOp .And (a :: b :: rest) pos) (tAndV ta tb) := by
  intro pins s σ H Q I h
  refine BoolOp_and (thn (ha pins s σ H _ I h) fun v s1 ⟨x, H1, I1, r1, q1⟩ => ?_)
  obtain ⟨c, rfl, q1⟩ := q1
  cases r1
  refine wpAny_truthy_bool ?_
  cases c with
  | true => exact hb pins s1 σ H1 Q I1 q1
  | false => exact ⟨.bl false, H1, I1, rfl, q1⟩
theorem pe_not (ha : PE X a ta) : PE X (.UnaryOp .Not a pos) (tNotV ta) := by
  intro pins s σ H Q I h
  refine UnaryOp_ (thn (ha pins s σ H _ I h) fun v s1 ⟨x, H1, I1, r1, q1⟩ => ?_)
  obtain ⟨c, rfl, q1⟩ := q1
  cases r1
  exact not_of (wpAny_truthy_bool ⟨.bl (!c), H1, I1, rfl, q1⟩)
noncomputable def tIf (t : TT) (ta tb : TE) : TE := fun σ H Q => t σ H fun c H1 => if c = true then ta σ H1 Q else tb σ H1 Q
end
end L2

namespace L2
open PySem PySem.Spec PyProof.Rows

noncomputable def SqL (K : PySem.W.Frag) (H : Hp) (a : Addr) (xs : List V) : Prop :=
  Rd H a (.lst xs) ∨
    ∃ (o : Obj) (its : Array Value) (n : Nat), K.lookup a = some o ∧ o.cls = .type "list" ∧ o.dict = none ∧ o.data = .seq its n ∧ its.size ≤ sizeLine ∧ Vals xs its.toList
noncomputable def SqT (K : PySem.W.Frag) (H : Hp) (a : Addr) (xs : List V) : Prop :=
  Rd H a (.tup xs) ∨
    ∃ (o : Obj) (its : Array Value) (n : Nat), K.lookup a = some o ∧ o.cls = .type "tuple" ∧ o.data = .seq its n ∧ its.size ≤ sizeLine ∧ Vals xs its.toList
noncomputable def absV : Value → Option V
  | .none => some .non
  | .bool b => some (.bl b)
  | .int i _ => some (.int i)
  | .str x _ => some (.str x)
  | .bytes b _ => some (.byt b)
  | .float b _ => some (.flt b)
  | .ref a => some (.ref a)
  | .type n => some (.ty n)
  | _ => none
theorem RelV.abs {x : V} {u : Value} (r : RelV x u) : absV u = some x := by
  cases x with
  | non => cases r; rfl
  | bl _ => cases r; rfl
  | int _ => obtain ⟨t, rfl⟩ := r; rfl
  | str _ => obtain ⟨t, rfl⟩ := r; rfl
  | byt _ => obtain ⟨t, rfl⟩ := r; rfl
  | flt _ => obtain ⟨t, rfl⟩ := r; rfl
  | ref _ => cases r; rfl
  | ty _ => cases r; rfl
theorem RelV.inj {x y : V} {u : Value} (r : RelV x u) (q : RelV y u) : x = y := Option.some.inj (r.abs.symm.trans q.abs)
theorem Vals.inj : ∀ {xs ys : List V} {us : List Value}, Vals xs us → Vals ys us → xs = ys
  | _, _, _, .nil, .nil => rfl
  | _, _, _, .cons r t, .cons r' t' => by rw [r.inj r', Vals.inj t t']
section
variable {X : Cx} {pins : List (Addr × Obj)} {σ : St} {H : Hp} {s : Shared} {a : Addr} {xs ys : List V}
theorem SqL.of {K : PySem.W.Frag} (h : H a = some (.lst xs)) : SqL K H a xs := .inl (.inl h)
theorem SqT.of {K : PySem.W.Frag} (h : H a = some (.tup xs)) : SqT K H a xs := .inl (.inl h)
theorem Inv.list (I : Inv X pins σ H s) (h : SqL X.K H a xs) : ∃ its : List Value, Vals xs its ∧ PlainL s.heap a its.toArray ∧ xs.length ≤ sizeLine := by
  rcases h with h | ⟨o, its, n, hk, hc, hd, hs, hz, r⟩
  · obtain ⟨z, its, n, r, e⟩ := h.ok I.hok
    exact ⟨its, r, ⟨_, n, e, rfl, rfl, rfl⟩, z⟩
  · refine ⟨its.toList, r, ⟨o, n, I.kIn a o hk, hc, hd, by simpa using hs⟩, ?_⟩
    have e := r.length
    simp only [Array.length_toList] at e
    (first | lia | omega)
theorem Inv.tuple (I : Inv X pins σ H s) (h : SqT X.K H a xs) : ∃ its : List Value, Vals xs its ∧ IsTup s.heap a its.toArray ∧ xs.length ≤ sizeLine := by
  rcases h with h | ⟨o, its, n, hk, hc, hs, hz, r⟩
  · obtain ⟨z, its, r, p⟩ := h.ok I.hok
    exact ⟨its, r, p, z⟩
  · refine ⟨its.toList, r, ⟨o, I.kIn a o hk, hc, n, by simpa using hs⟩, ?_⟩
    have e := r.length
    simp only [Array.length_toList] at e
    (first | lia | omega)
theorem Inv.list_inj (I : Inv X pins σ H s) (h : SqL X.K H a xs) (h' : SqL X.K H a ys) : xs = ys := by
  obtain ⟨its, r, ⟨o, n, e, _, _, d⟩, _⟩ := I.list h
  obtain ⟨its', r', ⟨o', n', e', _, _, d'⟩, _⟩ := I.list h'
  rw [e] at e'; cases e'
  rw [d] at d'
  injection d' with d1 _
  have : its = its' := by simpa using congrArg Array.toList d1
  subst this
  exact r.inj r'
theorem Inv.tuple_inj (I : Inv X pins σ H s) (h : SqT X.K H a xs) (h' : SqT X.K H a ys) : xs = ys := by
  obtain ⟨its, r, ⟨o, e, _, n, d⟩, _⟩ := I.tuple h
  obtain ⟨its', r', ⟨o', e', _, n', d'⟩, _⟩ := I.tuple h'
  rw [e] at e'; cases e'
  rw [d] at d'
  injection d' with d1 _
  have : its = its' := by simpa using congrArg Array.toList d1
  subst this
  exact r.inj r'
end

noncomputable abbrev Cx.wish (X : Cx) (E : Value → Shared → Prop) : Cx := { X with xe := E }
noncomputable abbrev Cx.nox (X : Cx) : Cx := X.wish fun _ _ => False
theorem Cx.Ok.wish {X : Cx} (ok : X.Ok) (E : Value → Shared → Prop) : (X.wish E).Ok :=
  ⟨ok.mod, ok.kind, ok.glob, ok.blt, ok.above, ok.inj, ok.has, ok.cab, ok.hd, ok.frames, ok.stk, ok.exf, ok.bs, ok.bsz, ok.noex, ok.exfs, ok.funs, ok.frf⟩
theorem Cx.Ok.unwish {X : Cx} {E : Value → Shared → Prop} (ok : (X.wish E).Ok) : X.Ok :=
  ⟨ok.mod, ok.kind, ok.glob, ok.blt, ok.above, ok.inj, ok.has, ok.cab, ok.hd, ok.frames, ok.stk, ok.exf, ok.bs, ok.bsz, ok.noex, ok.exfs, ok.funs, ok.frf⟩
section
variable {X : Cx} {pins : List (Addr × Obj)} {σ : St} {H : Hp} {s : Shared} {E : Value → Shared → Prop}
theorem Inv.wish (I : Inv X pins σ H s) (E : Value → Shared → Prop) : Inv (X.wish E) pins σ H s := ⟨I.ok.wish E, I.os, I.bare, I.base, I.loc, I.cell, I.free, I.freeC, I.pin, I.hok, I.len⟩
theorem Inv.unwish (I : Inv (X.wish E) pins σ H s) : Inv X pins σ H s := ⟨I.ok.unwish, I.os, I.bare, I.base, I.loc, I.cell, I.free, I.freeC, I.pin, I.hok, I.len⟩
theorem SP.unwish {D : Ends} {f : Flow} {s' : Shared} (h : SP (X.wish E) pins D f s') : SP X pins D f s' := by
  cases f with
  | next => obtain ⟨σ', H', I, q⟩ := h; exact ⟨σ', H', I.unwish, q⟩
  | brk => obtain ⟨σ', H', I, q⟩ := h; exact ⟨σ', H', I.unwish, q⟩
  | cont => obtain ⟨σ', H', I, q⟩ := h; exact ⟨σ', H', I.unwish, q⟩
  | ret u => obtain ⟨v, σ', H', I, r, q⟩ := h; exact ⟨v, σ', H', I.unwish, r, q⟩
theorem PSs.nox {st : List Stmt} {t : TS} (h : PSs X.nox st t) : PSs X st t := fun pins s σ H D I hw =>
  wpAny_mono (h pins s σ H D (I.wish _) hw) (fun _ _ q => q.unwish) fun _ _ z => False.elim z
end

section
variable {X : Cx} {st : Stmt} {rest : List Stmt} {t u : TS} {e : Expr} {te : TE} {pos : Pos}
noncomputable def tNext : TS := fun D σ H => D.nx σ H
noncomputable def tSeq (t u : TS) : TS := fun D σ H => t { D with nx := u D } σ H
theorem pss_nil : PSs X [] tNext := fun _ _ σ H _ I h => wpAny_execs_nil ⟨σ, H, I, h⟩
theorem pss_cons (h1 : PS X st t) (h2 : PSs X rest u) : PSs X (st :: rest) (tSeq t u) := by
  intro pins s σ H D I h
  refine wpAny_execs_cons (thn (h1 pins s σ H { D with nx := u D } I h) fun f s1 q => ?_)
  cases f with
  | next =>
    obtain ⟨σ', H', I', q⟩ := q
    exact h2 pins s1 σ' H' D I' q
  | ret v => exact q
  | brk => exact q
  | cont => exact q
theorem pss_one (h1 : PS X st t) : PSs X [st] t := by
  intro pins s σ H D I h
  refine wpAny_execs_cons (thn (h1 pins s σ H D I h) fun f s1 q => ?_)
  cases f with
  | next => exact wpAny_execs_nil q
  | ret v => exact q
  | brk => exact q
  | cont => exact q
noncomputable def tBreak : TS := fun D σ H => D.bk σ H
noncomputable def tCont : TS := fun D σ H => D.ct σ H
theorem Inv.quiet {pins : List (Addr × Obj)} {σ : St} {H : Hp} {s : Shared} (I : Inv X pins σ H s) : interactive X.env = false := by simp [interactive, I.ok.kind]
noncomputable def tDrop (te : TE) : TS := fun D σ H => te σ H fun _ H1 => D.nx σ H1
theorem ps_expr (he : PE X e te) (hs : swapsWith e none pos.line X.env = pure false := by rfl) : PS X (.Expr e pos) (tDrop te) := by
  intro pins s σ H D I h
  exact wpAny_Expr_any (thn (he pins s σ H _ I h) fun v s1 ⟨x, H1, I1, r1, q1⟩ => ⟨σ, H1, I1, q1⟩) I.quiet hs
noncomputable def tRet (te : TE) : TS := fun D σ H => te σ H D.rt
theorem ps_ret (he : PE X e te) : PS X (.Return (some e) pos) (tRet te) := by
  intro pins s σ H D I h
  exact wpAny_Return_some (thn (he pins s σ H _ I h) fun v s1 ⟨x, H1, I1, r1, q1⟩ => ⟨x, σ, H1, I1, r1, q1⟩)
noncomputable def tRetN : TS := fun D _ H => D.rt .non H
noncomputable def tIfS (c : TT) (t u : TS) : TS := fun D σ H => c σ H fun b H1 => if b = true then t D σ H1 else u D σ H1
theorem ps_if {c : Expr} {a b : List Stmt} {tc : TT} (hc : PT X c tc) (ha : PSs X a t) (hb : PSs X b u) : PS X (.If c a b pos) (tIfS tc t u) := by
  intro pins s σ H D I h
  refine wpAny_If (thn (hc pins s σ H _ I h) fun d s1 ⟨H1, I1, q1⟩ => ?_)
  cases d with
  | true => exact ha pins s1 σ H1 D I1 q1
  | false => exact hb pins s1 σ H1 D I1 q1
noncomputable def tNever : TS := fun _ _ _ => False
theorem ps_never : PS X st tNever := fun _ _ _ _ _ _ h => h.elim
end

noncomputable abbrev TG := V → St → Hp → (St → Hp → Prop) → Prop
noncomputable abbrev TGs := List V → St → Hp → (St → Hp → Prop) → Prop
noncomputable def PG (X : Cx) (target : Expr) (t : TG) : Prop :=
  ∀ (pins : List (Addr × Obj)) (s : Shared) (σ : St) (H : Hp) (v : V) (u : Value) (Q : St → Hp → Prop), Inv X pins σ H s → RelV v u → t v σ H Q →
    wpAny (model X.prog X.w) X.A (assign target X.env u) (fun _ s' => ∃ σ' H', Inv X pins σ' H' s' ∧ Q σ' H') X.xe s
noncomputable def PGs (X : Cx) (ts : List Expr) (t : TGs) : Prop :=
  ∀ (pins : List (Addr × Obj)) (s : Shared) (σ : St) (H : Hp) (vs : List V) (us : List Value) (Q : St → Hp → Prop), Inv X pins σ H s → Vals vs us → t vs σ H Q →
    wpAny (model X.prog X.w) X.A (assignInOrder ((assignEach ts X.env).map (·.2)) us) (fun _ s' => ∃ σ' H', Inv X pins σ' H' s' ∧ Q σ' H') X.xe s
noncomputable abbrev TSet := V → V → V → Hp → (Hp → Prop) → Prop
noncomputable def PSet (X : Cx) (t : TSet) : Prop :=
  ∀ (pins : List (Addr × Obj)) (s : Shared) (σ : St) (H : Hp) (o i v : V) (ov iv u : Value) (Q : Hp → Prop), Inv X pins σ H s → RelV o ov → RelV i iv → RelV v u → t o i v H Q →
    wpAny (model X.prog X.w) X.A (setItem ov iv u) (fun _ s' => ∃ H', Inv X pins σ H' s' ∧ Q H') X.xe s
noncomputable abbrev TIp := V → V → Hp → VK → Prop
noncomputable def PIp (X : Cx) (op : Operator) (t : TIp) : Prop :=
  ∀ (pins : List (Addr × Obj)) (s : Shared) (σ : St) (H : Hp) (x y : V) (v u : Value) (Q : VK), Inv X pins σ H s → RelV x v → RelV y u → t x y H Q →
    wpAny (model X.prog X.w) X.A (inplaceOp op v u) (EP X pins σ Q) X.xe s
section
variable {X : Cx} {pos : Pos}
noncomputable def gName (i : Nat) : TG := fun v σ H Q => Q (σ.set i (some v)) H
theorem pg_name {i : Nat} {x : Str} (hN : X.N.Nodup) (hi : X.N[i]? = some x) (hx : Loc X.env.scope x) (hf : X.fn x = true ∨ X.env.scope.names.lookup x = some .local := by first | exact .inl rfl | exact .inr rfl | assumption) : PG X (.Name x pos) (gName i) := by
  intro pins s σ H v u Q I r h
  exact wpAny_assign_Name (store_ok I hN hi hx r (fun s' I' => ⟨_, H, I', h⟩) hf)
noncomputable def gNil : TGs := fun vs σ H Q => vs = [] ∧ Q σ H
noncomputable def gCons (t : TG) (u : TGs) : TGs := fun vs σ H Q => ∃ v r, vs = v :: r ∧ t v σ H fun σ' H' => u r σ' H' Q
theorem pgs_nil : PGs X [] gNil := by
  intro pins s σ H vs us Q I r h
  obtain ⟨e, h⟩ := h
  subst e
  cases r
  exact assignInOrder_nil ⟨σ, H, I, h⟩
theorem pgs_cons {e : Expr} {es : List Expr} {t : TG} {u : TGs} (h1 : PG X e t) (h2 : PGs X es u)
    (hs : (assignEach (e :: es) X.env).map (·.2) = assign e X.env :: (assignEach es X.env).map (·.2) := by rfl) : PGs X (e :: es) (gCons t u) := by
  intro pins s σ H vs us Q I r h
  obtain ⟨v, vr, e1, h⟩ := h
  subst e1
  cases r with
  | cons r rr =>
    rw [hs]
    refine assignInOrder_cons (thn (h1 pins s σ H _ _ _ I r h) fun _ s1 ⟨σ1, H1, I1, q1⟩ => ?_)
    exact h2 pins s1 σ1 H1 _ _ Q I1 rr q1
noncomputable def gTup (K : PySem.W.Frag) (n : Nat) (t : TGs) : TG := fun v σ H Q => ∃ a xs, v = .ref a ∧ SqT K H a xs ∧ xs.length = n ∧ t xs σ H Q
theorem pg_tup {es : List Expr} {k : Nat} {t : TGs} {n : Nat} (hc : X.calm = true) (h : PGs X es t)
    (hn : (assignEach es X.env).length = n := by rfl) (hst : (assignEach es X.env).findIdx? (·.1) = none := by rfl) : PG X (.Tuple es k pos) (gTup X.K n t) := by
  intro pins s σ H v u Q I r hw
  obtain ⟨a, xs, e1, hq, hl, hw⟩ := hw
  subst e1
  cases r
  obtain ⟨its, rv, ht, hz⟩ := I.tuple hq
  refine assign_Tuple_tuple (I.ok.hd hc) ht (by simp [hn, ← hl, rv.length]) hst fun h' hx => ?_
  have I1 : Inv X pins σ H { s with heap := h' } := I.kept (t' := s.toks) fun b o e => hx b o (Nat.ne_of_lt (Heap.lt_size e)) e
  exact h pins _ σ H xs _ Q I1 (by simpa using rv) hw
noncomputable def gSub (to ti : TE) (t : TSet) : TG := fun v σ H Q => to σ H fun o H1 => ti σ H1 fun i H2 => t o i v H2 fun H3 => Q σ H3
theorem pg_sub {o i : Expr} {to ti : TE} {t : TSet} (ho : PE X o to) (hi : PE X i ti) (hs : PSet X t)
    (ha : ∀ v, assign (.Subscript o i pos) X.env v = (do
      let ov ← holding [v] (eval o X.env)
      let iv ← holding [v, ov] (eval i X.env)
      standAt pos
      holding [v, ov, iv] (setItem ov iv v)
      release [v, ov, iv] []) := by intro _; rfl) : PG X (.Subscript o i pos) (gSub to ti t) := by
  intro pins s σ H v u Q I r h
  rw [ha]
  refine wpAny_bind (wpAny_holding (thn (ho pins s σ H _ I h) fun ov s1 ⟨x, H1, I1, r1, q1⟩ => ?_))
  refine wpAny_bind (wpAny_holding (thn (hi pins s1 σ H1 _ I1 q1) fun iv s2 ⟨y, H2, I2, r2, q2⟩ => ?_))
  refine wpAny_bind (wpAny_standAt (wpAny_bind (wpAny_holding (thn (hs pins s2 σ H2 x y v ov iv u _ I2 r1 r2 r q2) fun _ s3 ⟨H3, I3, q3⟩ => ?_))))
  exact wpAny_release ⟨σ, H3, I3, q3⟩
noncomputable def tAsg (te : TE) (g : TG) : TS := fun D σ H => te σ H fun x H1 => g x σ H1 D.nx
theorem ps_asg {tg e : Expr} {te : TE} {g : TG} (he : PE X e te) (hg : PG X tg g) (hs : swapsWithSole [tg] e pos.line X.env = pure false := by rfl) (hw : swappedStores [tg] e X.env = pure none := by rfl)
    (h1 : (assignEach [tg] X.env).map (·.2) = [assign tg X.env] := by rfl) : PS X (.Assign [tg] e pos) (tAsg te g) := by
  intro pins s σ H D I h
  refine wpAny_Assign_stores (thn (he pins s σ H _ I h) fun v s1 ⟨x, H1, I1, r1, q1⟩ => ?_) hs hw
  rw [h1]
  exact thn (hg pins s1 σ H1 x v _ I1 r1 q1) fun _ s2 q => q
theorem ps_set {i : Nat} {x : Str} {e : Expr} {te : TE} {pos' : Pos} (hN : X.N.Nodup) (hi : X.N[i]? = some x) (hx : Loc X.env.scope x) (he : PE X e te) (hs : swapsWith e (some (.Name x pos')) pos.line X.env = pure false := by rfl) (hf : X.fn x = true ∨ X.env.scope.names.lookup x = some .local := by first | exact .inl rfl | exact .inr rfl | assumption) :
    PS X (.Assign [.Name x pos'] e pos) (tAsg te (gName i)) := by
  intro pins s σ H D I h
  refine wpAny_Assign_Name (thn (he pins s σ H _ I h) fun v s1 ⟨y, H1, I1, r1, q1⟩ => ?_) hs
  exact store_ok I1 hN hi hx r1 (fun s2 I2 => ⟨_, H1, I2, q1⟩) hf
noncomputable def tPar (i j : Nat) (ta : TA) : TS := fun D σ H => ta σ H fun vs H1 => ∃ v w, vs = [v, w] ∧ D.nx ((σ.set i (some v)).set j (some w)) H1
theorem ps_par {i j : Nat} {x y : Str} {a b : Expr} {ta : TA} {px py pt : Pos} {kt k2 pt2} (hc : X.calm = true) (hN : X.N.Nodup) (hi : X.N[i]? = some x) (hj : X.N[j]? = some y) (hij : i ≠ j)
    (hx : X.env.scope.names.lookup x = some .local) (hy : X.env.scope.names.lookup y = some .local) (ha : PA X [a, b] ta)
    (hw : swappedStores [.Tuple [.Name x px, .Name y py] kt pt] (.Tuple [a, b] k2 pt2) X.env = pure (some [x, y]))
    (hs : swapsWithSole [.Tuple [.Name x px, .Name y py] kt pt] (.Tuple [a, b] k2 pt2) pos.line X.env = pure false := by rfl) :
    PS X (.Assign [.Tuple [.Name x px, .Name y py] kt pt] (.Tuple [a, b] k2 pt2) pos) (tPar i j ta) := by
  intro pins s σ H D I h
  rw [exec_Assign_arm]
  refine wpAny_bind (wpAny_standAt ?_)
  rw [hs]
  refine wpAny_bind (wpAny_pure ?_)
  rw [if_neg (by decide)]
  refine wpAny_bind (Tuple_ (thn (ha _ pins s σ H _ I h) fun us s1 ⟨vs, H1, I1, r1, q1⟩ => ?_))
  obtain ⟨v, w, e1, q1⟩ := q1
  subst e1
  obtain ⟨u1, u2, rfl, rv, rw'⟩ : ∃ u1 u2, us = [u1, u2] ∧ RelV v u1 ∧ RelV w u2 := by
    cases r1 with
    | cons p q =>
      cases q with
      | cons p' q' =>
        cases q'
        exact ⟨_, _, rfl, p, p'⟩
  refine wpAny_newObj_type ?_ (by show 2 ≤ sizeLine; decide)
  have I2 : Inv X pins σ H1 { s1 with heap := s1.heap.push { cls := .type "tuple", data := .seq [u1, u2].toArray } } := I1.kept (t' := s1.toks) fun b o e => Heap.get?_push_of_some _ e
  rw [hw]
  refine wpAny_bind (wpAny_pure ?_)
  show wpAny (model X.prog X.w) X.A (do rule "assign.swapped-stores"; let items ← unpackItems (.ref s1.heap.objs.size) 2 none; assignInOrder [fun v => bindName X.env y v, fun v => bindName X.env x v] items.reverse; pure Flow.next) _ _ _
  refine wpAny_bind (wpAny_rule (wpAny_bind (unpackItems_tuple (items := #[u1, u2]) (I.ok.hd hc) (IsTup.new s1.heap _) fun h' hx' => ?_)))
  have I3 := I2.kept (h' := h') (t' := s1.toks) fun b o e => hx' b o (Nat.ne_of_lt (Heap.lt_size e)) e
  show wpAny _ _ (assignInOrder [fun v => bindName X.env y v, fun v => bindName X.env x v] [u2, u1] >>= fun _ => pure Flow.next) _ _ _
  refine wpAny_bind (assignInOrder_cons (wpAny_bindName (store_ok I3 hN hj (.inl hy) rw' (fun s2 I4 => ?_) (.inr hy))))
  refine assignInOrder_cons (wpAny_bindName (store_ok I4 hN hi (.inl hx) rv (fun s3 I5 => assignInOrder_nil (wpAny_pure ?_)) (.inr hx)))
  rw [List.set_comm _ _ (Ne.symm hij)] at I5
  exact ⟨_, H1, I5, q1⟩
noncomputable def tAug (i : Nat) (te : TE) (ti : TIp) : TS := fun D σ H => ∃ x, σ[i]? = some (some x) ∧ te σ H fun y H1 => ti x y H1 fun z H2 => D.nx (σ.set i (some z)) H2
theorem ps_aug {i : Nat} {x : Str} {e : Expr} {te : TE} {op : Operator} {ti : TIp} {pos' : Pos} (hN : X.N.Nodup) (hi : X.N[i]? = some x) (hx : Loc X.env.scope x) (he : PE X e te) (ho : PIp X op ti) (hf : X.fn x = true ∨ X.env.scope.names.lookup x = some .local := by first | exact .inl rfl | exact .inr rfl | assumption) :
    PS X (.AugAssign (.Name x pos') op e pos) (tAug i te ti) := by
  intro pins s σ H D I h
  obtain ⟨v, e1, h⟩ := h
  obtain ⟨m, hn, hl⟩ := I.loc
  have vis : Vis X.env.scope x := by rcases hx with k | k; exact .inl k; exact .inr (.inl k)
  obtain ⟨u, r, l⟩ := hl i x v hi e1 vis
  refine wpAny_AugAssign_Name ?_
  have go : wpAny (model X.prog X.w) X.A (eval e X.env) (fun w s₂ => wpAny (model X.prog X.w) X.A (inplaceOp op u w) (fun r s₃ => wpAny (model X.prog X.w) X.A (storeName X.env x r) (fun _ => SP X pins D .next) X.xe s₃) X.xe s₂) X.xe s := by
    refine thn (he pins s σ H _ I h) fun w s1 ⟨y, H1, I1, r1, q1⟩ => ?_
    refine thn (ho pins s1 σ H1 v y u w _ I1 r r1 q1) fun z s2 ⟨zv, H2, I2, r2, q2⟩ => ?_
    exact store_ok I2 hN hi hx r2 (fun s3 I3 => ⟨_, H2, I3, q2⟩) hf
  rcases l with ⟨hk, hm⟩ | ⟨hk, c, hc, hcell⟩
  · exact wpAny_loadName_local I.ok.kind hk hn hm go
  · rcases hk with hk | hk
    · exact wpAny_loadName_cell I.ok.kind hk hc hcell go
    · rcases hx with k | k
      · have : X.env.scope.names.lookup x = some .free := hk
        rw [k] at this; cases this
      · have : X.env.scope.names.lookup x = some .free := hk
        rw [k] at this; cases this
noncomputable def tAugS (to ti te : TE) (tget : V → V → Hp → VK → Prop) (tip : TIp) (tset : TSet) : TS := fun D σ H => to σ H fun o H1 => ti σ H1 fun i H2 => tget o i H2 fun x H3 => te σ H3 fun y H4 => tip x y H4 fun z H5 => tset o i z H5 fun H6 => D.nx σ H6
noncomputable def PGet (X : Cx) (t : V → V → Hp → VK → Prop) : Prop :=
  ∀ (pins : List (Addr × Obj)) (s : Shared) (σ : St) (H : Hp) (o i : V) (ov iv : Value) (Q : VK), Inv X pins σ H s → RelV o ov → RelV i iv → t o i H Q →
    wpAny (model X.prog X.w) X.A (getItem ov iv) (EP X pins σ Q) X.xe s
noncomputable def ipI (f : Int → Int → Int) : TIp := fun x y H Q => ∃ i j, x = .int i ∧ y = .int j ∧ Q (.int (f i j)) H
theorem ip_sub : PIp X .Sub (ipI fun i j => i - j) := by
  intro pins s σ H x y v u Q I r1 r2 h
  obtain ⟨i, j, e1, e2, q⟩ := h
  subst e1; subst e2
  obtain ⟨t, rfl⟩ := r1
  obtain ⟨t', rfl⟩ := r2
  exact isub_int ⟨.int _, H, I.tok _, ⟨_, rfl⟩, q⟩
end

section
variable {X : Cx} {pos : Pos}
noncomputable def tWhile (c : TT) (tb : TS) : TS := fun D σ H => ∃ W : Nat → St → Hp → Prop, (∃ m, W m σ H) ∧ ∀ m σ H, W m σ H →
  c σ H fun b H1 => if b = true then ∃ N : St → Hp → Prop, (∀ σ' H', N σ' H' → ∃ m', m' < m ∧ W m' σ' H') ∧ tb { D with nx := N, ct := N, bk := D.nx } σ H1 else D.nx σ H1
theorem ps_while {c : Expr} {body : List Stmt} {tc : TT} {tb : TS} (hp : PassesOwn (model X.prog X.w) X.A X.env X.xe) (hc : PT X c tc) (hb : PSs X body tb) : PS X (.While c body [] pos) (tWhile tc tb) := by
  intro pins s σ H D I h
  obtain ⟨W, ⟨m0, w0⟩, turn⟩ := h
  refine wpAny_While (codeAny_whileLoop (fun n s' => ∃ σ' H', Inv X pins σ' H' s' ∧ W n σ' H') ?_ m0 ⟨σ, H, I, w0⟩)
  rintro n s1 ⟨σ1, H1, I1, w1⟩
  refine wpAny_passesOwn hp (thn (hc pins s1 σ1 H1 _ I1 (turn n σ1 H1 w1)) fun b s2 ⟨H2, I2, q2⟩ => ?_)
  cases b with
  | true =>
    obtain ⟨N, hN, q2⟩ := q2
    rw [if_pos rfl]
    refine wpAny_passesOwn hp (thn (hb pins s2 σ1 H2 _ I2 q2) fun f s3 q3 => ?_)
    cases f with
    | next =>
      obtain ⟨σ3, H3, I3, n3⟩ := q3
      obtain ⟨m', hm, w3⟩ := hN σ3 H3 n3
      exact ⟨m', hm, σ3, H3, I3, w3⟩
    | cont =>
      obtain ⟨σ3, H3, I3, n3⟩ := q3
      obtain ⟨m', hm, w3⟩ := hN σ3 H3 n3
      exact ⟨m', hm, σ3, H3, I3, w3⟩
    | brk => exact q3
    | ret v => exact q3
  | false =>
    rw [if_neg Bool.false_ne_true]
    exact wpAny_execs_nil ⟨σ1, H2, I2, q2⟩
end

structure It where
  go : Nat → Hp → Prop
  yld : Nat → Hp → V → Hp → Prop
  stop : Nat → Hp → Prop
noncomputable def FpOk (X : Cx) (pins : List (Addr × Obj)) (H : Hp) (b : Addr) : Prop :=
  H b = none ∧ b ≠ X.env.locals ∧ b ∉ X.fs ∧ (b ∈ X.ex ∨ X.s₀.heap.objs.size ≤ b) ∧ (∀ x c, X.env.cells.lookup x = some c → c ≠ b) ∧ ∀ p ∈ X.pn ++ pins, p.1 ≠ b
theorem Inv.fpOk {X : Cx} {pins : List (Addr × Obj)} {σ : St} {H H' : Hp} {s : Shared} {b : Addr} (I : Inv X pins σ H s) (hb : s.heap.objs.size ≤ b) (hn : H' b = none) : FpOk X pins H' b := by
  refine ⟨hn, Nat.ne_of_gt (Nat.lt_of_lt_of_le I.lt hb), I.nofs hb, .inr (Nat.le_trans I.sz hb), fun x c e z => ?_, fun p hp z => ?_⟩
  · obtain ⟨v, q⟩ := I.cell x c e
    exact absurd (Nat.lt_of_lt_of_le q.lt (by rw [z]; exact hb)) (Nat.lt_irrefl _)
  · exact absurd (Nat.lt_of_lt_of_le (Heap.lt_size (I.pin p hp).1) (by rw [z]; exact hb)) (Nat.lt_irrefl _)
structure Turn (P : Program) (w : World) (K : PySem.W.Frag) (tg : Expr) (J : It) (fp : List Addr) (it : Addr) (tn : Nat → Heap → Prop) : Prop where
  mem : it ∈ fp
  obj : ∀ i h, tn i h → ∀ b ∈ fp, ∃ o, h.get? b = some o ∧ ∀ v, o.data ≠ .cell v
  keep : ∀ i h h', tn i h → (∀ b ∈ fp, ∀ o, h.get? b = some o → h'.get? b = some o) → tn i h'
  item : ∀ (X : Cx), X.prog = P → X.w = w → X.K = K → X.calm = true → ∀ (i : Nat) (pins : List (Addr × Obj)) (s : Shared) (σ : St) (H : Hp) (E : Value → Shared → Prop), Inv X pins σ H s → (∀ b ∈ fp, FpOk X pins H b) → tn i s.heap → J.go i H →
    wpAny (model P w) X.A (pyNext (.ref it)) (fun r s1 => ∃ u, r = some u ∧
      wpAny (model P w) X.A (letOwnedTupleGo tg (.ref it) u) (fun _ s2 => ∃ x H', Inv X pins σ H' s2 ∧ RelV x u ∧ J.yld i H x H' ∧ tn (i + 1) s2.heap ∧ ∀ b ∈ fp, H' b = none) E s1) E s
  done : ∀ (X : Cx), X.prog = P → X.w = w → X.K = K → X.calm = true → ∀ (i : Nat) (pins : List (Addr × Obj)) (s : Shared) (σ : St) (H : Hp) (E : Value → Shared → Prop), Inv X pins σ H s → (∀ b ∈ fp, FpOk X pins H b) → tn i s.heap → J.stop i H →
    wpAny (model P w) X.A (pyNext (.ref it)) (fun r s1 => r = none ∧ Inv X pins σ H s1) E s
  self : ∀ (A : Around) (i : Nat) (s : Shared) (Q : Value → Shared → Prop) (E : Value → Shared → Prop), tn i s.heap → Q (.ref it) s → wpAny (model P w) A (pyIter (.ref it)) Q E s
noncomputable abbrev TI := St → Hp → (It → Hp → Prop) → Prop
noncomputable def PIE (X : Cx) (pins : List (Addr × Obj)) (σ : St) (tg : Expr) (R : It → Hp → Prop) (itv : Value) (s2 : Shared) : Prop :=
  ∃ (it : Addr) (fp : List Addr) (tn : Nat → Heap → Prop) (J : It) (H' : Hp), itv = .ref it ∧ Inv X pins σ H' s2 ∧ Turn X.prog X.w X.K tg J fp it tn ∧ tn 0 s2.heap ∧ (∀ b ∈ fp, FpOk X pins H' b) ∧ R J H'
noncomputable def PI (X : Cx) (tg iter : Expr) (wi : TI) : Prop :=
  ∀ (pins : List (Addr × Obj)) (s : Shared) (σ : St) (H : Hp) (R : It → Hp → Prop), Inv X pins σ H s → wi σ H R →
    wpAny (model X.prog X.w) X.A (eval iter X.env) (fun v s1 => wpAny (model X.prog X.w) X.A (pyIter v) (PIE X pins σ tg R) X.xe s1) X.xe s

theorem go_of {M : Model} {A : Around} {E : Value → Shared → Prop} {s : Shared} {tg : Expr} {it : Addr} {u : Value} {o : Obj} {n : String} {vs : Array Value} {Q : Unit → Shared → Prop} (ho : s.heap.get? it = some o) (hc : o.cls = .type n) (hd : o.data = .fields vs)
    (hn : ["enumerate", "zip", "dict_itemiterator", "dict_reverseitemiterator", "odict_iterator", "itertools.zip_longest", "itertools.pairwise"].contains n = false) (hQ : Q () s) : wpAny M A (letOwnedTupleGo tg (.ref it) u) Q E s := by
  unfold letOwnedTupleGo
  cases tg <;> first
    | exact wpAny_pure hQ
    | (cases u <;> first
        | exact wpAny_pure hQ
        | (refine wpAny_bind (wpAny_load ho ?_)
           rw [hc, hd]
           show wpAny M A (if (["enumerate", "zip", "dict_itemiterator", "dict_reverseitemiterator", "odict_iterator", "itertools.zip_longest", "itertools.pairwise"].contains n && vs[0]? == some (rawInt _)) = true then _ else _) Q E s
           rw [if_neg (by intro h; rw [hn, Bool.false_and] at h; cases h)]
           exact wpAny_pure hQ))

noncomputable def Itl (K : PySem.W.Frag) (a : Addr) : It :=
  ⟨fun i H => ∃ xs x, SqL K H a xs ∧ xs[i]? = some x, fun i H x H' => H' = H ∧ ∀ xs, SqL K H a xs → xs[i]? = some x, fun i H => ∃ xs, SqL K H a xs ∧ xs.length ≤ i⟩
noncomputable def Itt (K : PySem.W.Frag) (a : Addr) : It :=
  ⟨fun i H => ∃ xs x, SqT K H a xs ∧ xs[i]? = some x, fun i H x H' => H' = H ∧ ∀ xs, SqT K H a xs → xs[i]? = some x, fun i H => ∃ xs, SqT K H a xs ∧ xs.length ≤ i⟩
noncomputable def Itr (lo : Int) (n : Nat) : It := ⟨fun i _ => i < n, fun i H x H' => H' = H ∧ x = .int (lo + i), fun i _ => n ≤ i⟩
theorem turn_list {P : Program} {w : World} {K : PySem.W.Frag} {tg : Expr} (a it : Addr) : Turn P w K tg (Itl K a) [it] it (fun i h => h.IsListIter it a i) where
  mem := by simp
  obj := fun i h st b hb => by
    have e : b = it := by simpa using hb
    subst e
    obtain ⟨o, e, c, d⟩ := st
    exact ⟨o, e, fun v z => by rw [d] at z; cases z⟩
  keep := fun i h h' st k => st.at fun o e => k it (by simp) o e
  item := by
    intro X hP hw hK hc i pins s σ H E I hf st hg
    subst hP hw hK
    obtain ⟨xs, x, hq, hx⟩ := hg
    obtain ⟨its, rv, p, hz⟩ := I.list hq
    obtain ⟨u, hu, ru⟩ := rv.get hx
    obtain ⟨f0, f1, f2, f3, f4, f5⟩ := hf it (by simp)
    refine wpAny_pyNext_list_item st p.isList (x := u) (by simpa using hu) fun h' st' sb => ?_
    have I1 : Inv X pins σ H { s with heap := h' } := I.turned (t' := s.toks) (fun b o hb e => (sb.2 b hb).trans e) f0 f1 f3 f4 f5
    obtain ⟨o, e, c, d⟩ := id st'
    exact ⟨u, rfl, go_of (s := { s with heap := h' }) e c d (by decide) ⟨x, H, I1, ru, ⟨rfl, fun ys hy => by rw [I.list_inj hy hq]; exact hx⟩, st', fun b hb => (hf b hb).1⟩⟩
  done := by
    intro X hP hw hK hc i pins s σ H E I hf st hg
    subst hP hw hK
    obtain ⟨xs, hq, hx⟩ := hg
    obtain ⟨its, rv, p, hz⟩ := I.list hq
    obtain ⟨f0, f1, f2, f3, f4, f5⟩ := hf it (by simp)
    have hl := rv.length
    exact wpAny_pyNext_list_end (I.ok.hd hc) st p.isList (by simp; (first | lia | omega)) fun h' eb => ⟨rfl, I.turned (t' := s.toks) (fun b o hb e => eb b o hb e) f0 f1 f3 f4 f5⟩
  self := fun _ _ _ _ _ st h => wpAny_pyIter_listiter st h
theorem turn_tuple {P : Program} {w : World} {K : PySem.W.Frag} {tg : Expr} (a it : Addr) : Turn P w K tg (Itt K a) [it] it (fun i h => h.IsTupleIter it a i) where
  mem := by simp
  obj := fun i h st b hb => by
    have e : b = it := by simpa using hb
    subst e
    obtain ⟨o, e, c, d⟩ := st
    exact ⟨o, e, fun v z => by rw [d] at z; cases z⟩
  keep := fun i h h' st k => st.at fun o e => k it (by simp) o e
  item := by
    intro X hP hw hK hc i pins s σ H E I hf st hg
    subst hP hw hK
    obtain ⟨xs, x, hq, hx⟩ := hg
    obtain ⟨its, rv, p, hz⟩ := I.tuple hq
    obtain ⟨u, hu, ru⟩ := rv.get hx
    obtain ⟨f0, f1, f2, f3, f4, f5⟩ := hf it (by simp)
    refine wpAny_pyNext_tuple_item st (show s.heap.IsTuple a its.toArray from p) (x := u) (by simpa using hu) fun h' st' sb => ?_
    have I1 : Inv X pins σ H { s with heap := h' } := I.turned (t' := s.toks) (fun b o hb e => (sb.2 b hb).trans e) f0 f1 f3 f4 f5
    obtain ⟨o, e, c, d⟩ := id st'
    exact ⟨u, rfl, go_of (s := { s with heap := h' }) e c d (by decide) ⟨x, H, I1, ru, ⟨rfl, fun ys hy => by rw [I.tuple_inj hy hq]; exact hx⟩, st', fun b hb => (hf b hb).1⟩⟩
  done := by
    intro X hP hw hK hc i pins s σ H E I hf st hg
    subst hP hw hK
    obtain ⟨xs, hq, hx⟩ := hg
    obtain ⟨its, rv, p, hz⟩ := I.tuple hq
    obtain ⟨f0, f1, f2, f3, f4, f5⟩ := hf it (by simp)
    have hl := rv.length
    exact wpAny_pyNext_tuple_end (I.ok.hd hc) st (show s.heap.IsTuple a its.toArray from p) (by simp; (first | lia | omega)) fun h' eb => ⟨rfl, I.turned (t' := s.toks) (fun b o hb e => eb b o hb e) f0 f1 f3 f4 f5⟩
  self := fun _ _ _ _ _ st h => wpAny_pyIter_tupleiter st h
theorem turn_range {P : Program} {w : World} {K : PySem.W.Frag} {tg : Expr} (it : Addr) (lo : Int) (n : Nat) : Turn P w K tg (Itr lo n) [it] it (fun i h => IsRangeIter h it (lo + (i : Nat) * 1) ((n : Int) - (i : Nat)) 1) where
  mem := by simp
  obj := fun i h st b hb => by
    have e : b = it := by simpa using hb
    subst e
    exact ⟨_, st, fun v z => by
      have z' : Data.fields _ = Data.cell v := z
      cases z'⟩
  keep := fun i h h' st k => k it (by simp) _ st
  item := by
    intro X hP hw hK hc i pins s σ H E I hf st hg
    subst hP hw hK
    obtain ⟨f0, f1, f2, f3, f4, f5⟩ := hf it (by simp)
    have W := Walks.range (prog := X.prog) (w := X.w) (I.ok.hd hc) it lo 1 n
    refine W.item i s _ _ hg st fun v h' tk hv st' kk => ?_
    obtain ⟨t, rfl⟩ := hv
    have I1 : Inv X pins σ H { s with heap := h', toks := tk } := I.turned (fun b o hb e => kk b o (by simpa using hb) e) f0 f1 f3 f4 f5
    refine ⟨_, rfl, go_of (s := { s with heap := h', toks := tk }) (n := "range_iterator") st' rfl rfl (by decide) ⟨.int (lo + i), H, I1, ⟨t, ?_⟩, ⟨rfl, rfl⟩, st', fun b hb => (hf b hb).1⟩⟩
    rw [Int.mul_one]
  done := by
    intro X hP hw hK hc i pins s σ H E I hf st hg
    subst hP hw hK
    obtain ⟨f0, f1, f2, f3, f4, f5⟩ := hf it (by simp)
    exact wpAny_pyNext_range_end (I.ok.hd hc) st (by have : n ≤ i := hg; (first | lia | omega)) fun h' eb => ⟨rfl, I.turned (t' := s.toks) (fun b o hb e => eb b o hb e) f0 f1 f3 f4 f5⟩
  self := fun _ _ _ _ _ st h => wpAny_pyIter_rangeiter st h
end L2

namespace L2
open PySem PySem.Spec PyProof.Rows
section
variable {X : Cx} {tg : Expr}
noncomputable def iList (K : PySem.W.Frag) (tl : TE) : TI := fun σ H R => tl σ H fun x H1 => ∃ a, x = .ref a ∧ (∃ xs, SqL K H1 a xs) ∧ R (Itl K a) H1
noncomputable def iTup (K : PySem.W.Frag) (tl : TE) : TI := fun σ H R => tl σ H fun x H1 => ∃ a, x = .ref a ∧ (∃ xs, SqT K H1 a xs) ∧ R (Itt K a) H1
theorem pi_list {l : Expr} {tl : TE} (hl : PE X l tl) : PI X tg l (iList X.K tl) := by
  intro pins s σ H R I h
  refine thn (hl pins s σ H _ I h) fun v s1 ⟨x, H1, I1, r1, q1⟩ => ?_
  obtain ⟨a, e, ⟨xs, hq⟩, q⟩ := q1
  subst e
  cases r1
  obtain ⟨its, rv, p, hz⟩ := I1.list hq
  refine wpAny_pyIter_list p.isList ?_
  refine ⟨s1.heap.objs.size, [s1.heap.objs.size], _, _, H1, rfl, I1.kept (t' := s1.toks) fun b o e => Heap.get?_push_of_some _ e, turn_list a _, ⟨_, Heap.get?_push_size _ rfl, rfl, rfl⟩, fun b hb => ?_, q⟩
  have e : b = s1.heap.objs.size := by simpa using hb
  subst e
  exact I1.fpOk (Nat.le_refl _) (I1.hok.fresh (Nat.le_refl _))
theorem pi_tup {l : Expr} {tl : TE} (hl : PE X l tl) : PI X tg l (iTup X.K tl) := by
  intro pins s σ H R I h
  refine thn (hl pins s σ H _ I h) fun v s1 ⟨x, H1, I1, r1, q1⟩ => ?_
  obtain ⟨a, e, ⟨xs, hq⟩, q⟩ := q1
  subst e
  cases r1
  obtain ⟨its, rv, p, hz⟩ := I1.tuple hq
  refine wpAny_pyIter_tuple (show s1.heap.IsTuple a its.toArray from p) ?_
  refine ⟨s1.heap.objs.size, [s1.heap.objs.size], _, _, H1, rfl, I1.kept (t' := s1.toks) fun b o e => Heap.get?_push_of_some _ e, turn_tuple a _, ⟨_, Heap.get?_push_size _ rfl, rfl, rfl⟩, fun b hb => ?_, q⟩
  have e : b = s1.heap.objs.size := by simpa using hb
  subst e
  exact I1.fpOk (Nat.le_refl _) (I1.hok.fresh (Nat.le_refl _))
theorem range_it {pins : List (Addr × Obj)} {σ : St} {H : Hp} {s : Shared} {R : It → Hp → Prop} {E : Value → Shared → Prop} {lo hi : Int} {t u v : Tok} {tk : Nat} (I : Inv X pins σ H s) (h1 : -(2 ^ 62) ≤ lo) (h2 : lo < 2 ^ 62) (h3 : -(2 ^ 62) ≤ hi) (h4 : hi < 2 ^ 62)
    (q : R (Itr lo (hi - lo).toNat) H) : wpAny (model X.prog X.w) X.A (pyIter (.ref s.heap.objs.size)) (PIE X pins σ tg R) E { s with heap := s.heap.push { cls := .type "range", data := .fields #[.int lo t, .int hi u, .int 1 v] }, toks := tk } := by
  refine wpAny_pyIter_range (IsRange.new ..) (small_one h1 h2 h3 h4) ?_
  have I1 : Inv X pins σ H { s with heap := s.heap.push { cls := .type "range", data := .fields #[.int lo t, .int hi u, .int 1 v] }, toks := tk } := I.kept fun b o e => Heap.get?_push_of_some _ e
  refine ⟨(s.heap.push { cls := .type "range", data := .fields #[.int lo t, .int hi u, .int 1 v] }).objs.size, [(s.heap.push { cls := .type "range", data := .fields #[.int lo t, .int hi u, .int 1 v] }).objs.size], _, _, H, rfl,
    I1.kept (t' := tk) fun b o e => Heap.get?_push_of_some _ e, turn_range _ lo (hi - lo).toNat, ?_, fun b hb => ?_, q⟩
  · have e1 : lo + ((0 : Nat) : Int) * 1 = lo := by simp
    have e2 : (((hi - lo).toNat : Nat) : Int) - ((0 : Nat) : Int) = Builtin.Range.rangeSize lo hi 1 := by rw [rangeSize_one]; split <;> (first | lia | omega)
    show IsRangeIter _ _ (lo + ((0 : Nat) : Int) * 1) ((((hi - lo).toNat : Nat) : Int) - ((0 : Nat) : Int)) 1
    rw [e1, e2]
    exact Heap.get?_push_size _ rfl
  · have e : b = (s.heap.push { cls := .type "range", data := .fields #[.int lo t, .int hi u, .int 1 v] }).objs.size := by simpa using hb
    subst e
    exact I1.fpOk (Nat.le_refl _) (I1.hok.fresh (Nat.le_refl _))
noncomputable def iRng1 (ta : TA) : TI := fun σ H R => ta σ H fun vs H1 => ∃ j : Int, vs = [.int j] ∧ -(2 ^ 62) ≤ j ∧ j < 2 ^ 62 ∧ R (Itr 0 j.toNat) H1
noncomputable def iRng2 (ta : TA) : TI := fun σ H R => ta σ H fun vs H1 => ∃ i j : Int, vs = [.int i, .int j] ∧ (-(2 ^ 62) ≤ i ∧ i < 2 ^ 62 ∧ -(2 ^ 62) ≤ j ∧ j < 2 ^ 62) ∧ R (Itr i (j - i).toNat) H1
theorem pi_range1 {a : Expr} {ta : TA} {p pos : Pos} (hg : Gl X "range") (hm : X.mg "range" = none) (ha : PA X [a] ta) (hs : starEach [a] X.env = [(false, eval a X.env)] := by rfl) : PI X tg (.Call (.Name "range" p) [a] [] pos) (iRng1 ta) := by
  intro pins s σ H R I h
  refine Call_ (ld_blt I hg hm boot_range (PyProof.Rows.callWith_type1 (thn (ha pos pins s σ H _ I h) fun us s1 ⟨vs, H1, I1, r1, q1⟩ => ?_) hs rfl))
  obtain ⟨j, e, q1, q2, q⟩ := q1
  subst e
  cases r1 with
  | cons r rr =>
    cases rr
    obtain ⟨t, rfl⟩ := r
    exact call_range_1 (range_it I1 (by (first | lia | omega)) (by (first | lia | omega)) q1 q2 (by simpa using q))

noncomputable def tFor (wi : TI) (g : TG) (tb : TS) : TS := fun D σ H => wi σ H fun J H1 => ∃ W : Nat → Nat → St → Hp → Prop, (∃ m, W 0 m σ H1) ∧ ∀ i m σ H, W i m σ H →
  (J.stop i H ∧ D.nx σ H) ∨ (J.go i H ∧ ∃ N : St → Hp → Prop, (∀ σ' H', N σ' H' → ∃ m', m' < m ∧ W (i + 1) m' σ' H') ∧ ∀ x H', J.yld i H x H' → g x σ H' fun σ2 H2 => tb { D with nx := N, ct := N, bk := D.nx } σ2 H2)
noncomputable def pinsAt (fp : List Addr) (h : Heap) : List (Addr × Obj) := fp.filterMap fun b => (h.get? b).map fun o => (b, o)
theorem mem_pinsAt {fp : List Addr} {h : Heap} {b : Addr} {o : Obj} (hb : b ∈ fp) (e : h.get? b = some o) : (b, o) ∈ pinsAt fp h := List.mem_filterMap.mpr ⟨b, hb, by rw [e]; rfl⟩
theorem of_pinsAt {fp : List Addr} {h : Heap} {p : Addr × Obj} (hp : p ∈ pinsAt fp h) : p.1 ∈ fp ∧ h.get? p.1 = some p.2 := by
  obtain ⟨b, hb, e⟩ := List.mem_filterMap.mp hp
  cases q : h.get? b with
  | none => rw [q] at e; cases e
  | some o =>
    rw [q] at e
    have e' : (b, o) = p := Option.some.inj e
    subst e'
    exact ⟨hb, q⟩
theorem Inv.pinned {pins : List (Addr × Obj)} {σ : St} {H : Hp} {s : Shared} {fp : List Addr} (I : Inv X pins σ H s) (hf : ∀ b ∈ fp, FpOk X pins H b) (ho : ∀ b ∈ fp, ∃ o, s.heap.get? b = some o ∧ ∀ v, o.data ≠ .cell v) : Inv X (pins ++ pinsAt fp s.heap) σ H s :=
  I.pins_of fun p hp => (List.mem_append.mp hp).elim (fun z => I.pin p (List.mem_append_right _ z)) fun z => by
    obtain ⟨hb, e⟩ := of_pinsAt z
    obtain ⟨f0, f1, f2, _⟩ := hf p.1 hb
    obtain ⟨o, e', d⟩ := ho p.1 hb
    rw [e] at e'; cases e'
    exact ⟨e, f0, f1, f2, d⟩
theorem Inv.unpinned {pins pl : List (Addr × Obj)} {σ : St} {H : Hp} {s : Shared} (I : Inv X (pins ++ pl) σ H s) : Inv X pins σ H s := I.pins_of fun p hp => I.pin p (List.mem_append_right _ (List.mem_append_left _ hp))
theorem ps_for {iter : Expr} {body : List Stmt} {wi : TI} {g : TG} {tb : TS} {pos : Pos} (hp : PassesOwn (model X.prog X.w) X.A X.env X.xe) (hc : X.calm = true) (hi : PI X tg iter wi) (hg : PG X tg g) (hb : PSs X body tb)
    (hs : ∀ x, foldedSetIterable iter X.env x = pure x := by intro _; rfl) : PS X (.For tg iter body [] pos) (tFor wi g tb) := by
  intro pins s σ H D I h
  refine wpAny_For (thn (hi pins s σ H _ I h) fun v s1 h1 => thn h1 fun itv s2 h2 => ?_) hs
  obtain ⟨it, fp, tn, J, H2, e, I2, T, st2, f2, W, ⟨m0, w0⟩, turn⟩ := h2
  subst e
  -- what stays true of the iterator's objects through the loop
  have stat : ∀ {H' : Hp}, (∀ b ∈ fp, H' b = none) → ∀ b ∈ fp, FpOk X pins H' b := fun hn b hb => ⟨hn b hb, (f2 b hb).2⟩
  refine codeAny_forLoop_any (fun n s' => ∃ i σ' H', Inv X pins σ' H' s' ∧ tn i s'.heap ∧ (∀ b ∈ fp, H' b = none) ∧ W i n σ' H') ?_ m0 ⟨0, σ, H2, I2, st2, fun b hb => (f2 b hb).1, w0⟩
  rintro n s3 ⟨i, σ3, H3, I3, st3, fr3, w3⟩
  rcases turn i n σ3 H3 w3 with ⟨stop, qn⟩ | ⟨go, N, hN, step⟩
  · refine wpAny_passesOwn hp (thn (T.done X rfl rfl rfl hc i pins s3 σ3 H3 X.xe I3 (stat fr3) st3 stop) fun r s4 ⟨hr, I4⟩ => ?_)
    subst hr
    exact wpAny_execs_nil ⟨σ3, H3, I4, qn⟩
  · refine wpAny_passesOwn hp (thn (T.item X rfl rfl rfl hc i pins s3 σ3 H3 X.xe I3 (stat fr3) st3 go) fun r s4 ⟨u, hr, h4⟩ => ?_)
    subst hr
    refine wpAny_passesOwn hp (thn h4 fun _ s5 ⟨x, H5, I5, r5, y5, st5, fr5⟩ => ?_)
    have I5' := I5.pinned (stat fr5) (T.obj _ _ st5)
    refine wpAny_passesOwn hp (thn (hg _ s5 σ3 H5 x u _ I5' r5 (step x H5 y5)) fun _ s6 ⟨σ6, H6, I6, q6⟩ => ?_)
    refine wpAny_passesOwn hp (thn (hb _ s6 σ6 H6 _ I6 q6) fun f s7 q7 => ?_)
    have again : ∀ {σ7 : St} {H7 : Hp}, Inv X (pins ++ pinsAt fp s5.heap) σ7 H7 s7 → N σ7 H7 → ∃ m, m < n ∧ ∃ i σ' H', Inv X pins σ' H' s7 ∧ tn i s7.heap ∧ (∀ b ∈ fp, H' b = none) ∧ W i m σ' H' := fun {σ7 H7} I7 n7 => by
      obtain ⟨m', hm, w7⟩ := hN σ7 H7 n7
      refine ⟨m', hm, i + 1, σ7, H7, I7.unpinned, T.keep _ _ _ st5 fun b hb o e => (I7.pin (b, o) (List.mem_append_right _ (List.mem_append_right _ (mem_pinsAt hb e)))).1, fun b hb => ?_, w7⟩
      obtain ⟨o, e, d⟩ := T.obj _ _ st5 b hb
      exact (I7.pin (b, o) (List.mem_append_right _ (List.mem_append_right _ (mem_pinsAt hb e)))).2.1
    cases f with
    | next => obtain ⟨σ7, H7, I7, n7⟩ := q7; exact again I7 n7
    | cont => obtain ⟨σ7, H7, I7, n7⟩ := q7; exact again I7 n7
    | brk => obtain ⟨σ7, H7, I7, q7⟩ := q7; exact ⟨σ7, H7, I7.unpinned, q7⟩
    | ret v => obtain ⟨x7, σ7, H7, I7, r7, q7⟩ := q7; exact ⟨x7, σ7, H7, I7.unpinned, r7, q7⟩
end

theorem for_list {K : PySem.W.Frag} {a : Addr} {xs : List V} {g : TG} {tb : TS} {D : Ends} {σ : St} {H : Hp} (Pv : Nat → St → Hp → Prop) (h0 : Pv 0 σ H) (hl : ∀ i σ H, i ≤ xs.length → Pv i σ H → SqL K H a xs)
    (hs : ∀ i x σ H, xs[i]? = some x → Pv i σ H → g x σ H fun σ2 H2 => tb { D with nx := Pv (i + 1), ct := Pv (i + 1), bk := D.nx } σ2 H2) (hd : ∀ σ H, Pv xs.length σ H → D.nx σ H) :
    ∃ W : Nat → Nat → St → Hp → Prop, (∃ m, W 0 m σ H) ∧ ∀ i m σ H, W i m σ H →
      ((Itl K a).stop i H ∧ D.nx σ H) ∨ ((Itl K a).go i H ∧ ∃ N : St → Hp → Prop, (∀ σ' H', N σ' H' → ∃ m', m' < m ∧ W (i + 1) m' σ' H') ∧ ∀ x H', (Itl K a).yld i H x H' → g x σ H' fun σ2 H2 => tb { D with nx := N, ct := N, bk := D.nx } σ2 H2) := by
  refine ⟨fun i m σ H => m = xs.length - i ∧ i ≤ xs.length ∧ Pv i σ H, ⟨xs.length, by simp, Nat.zero_le _, h0⟩, ?_⟩
  rintro i m σ H ⟨rfl, hi, p⟩
  have q := hl i σ H hi p
  by_cases hlt : i < xs.length
  · refine .inr ⟨⟨xs, xs[i], q, by simp [hlt]⟩, Pv (i + 1), fun σ' H' p' => ⟨xs.length - (i + 1), by (first | lia | omega), rfl, hlt, p'⟩, fun x H' y => ?_⟩
    obtain ⟨e, y⟩ := y
    subst e
    exact hs i x σ _ (y xs q) p
  · have e : i = xs.length := by (first | lia | omega)
    subst e
    exact .inl ⟨⟨xs, q, Nat.le_refl _⟩, hd σ H p⟩
theorem for_tup {K : PySem.W.Frag} {a : Addr} {xs : List V} {g : TG} {tb : TS} {D : Ends} {σ : St} {H : Hp} (Pv : Nat → St → Hp → Prop) (h0 : Pv 0 σ H) (hl : ∀ i σ H, i ≤ xs.length → Pv i σ H → SqT K H a xs)
    (hs : ∀ i x σ H, xs[i]? = some x → Pv i σ H → g x σ H fun σ2 H2 => tb { D with nx := Pv (i + 1), ct := Pv (i + 1), bk := D.nx } σ2 H2) (hd : ∀ σ H, Pv xs.length σ H → D.nx σ H) :
    ∃ W : Nat → Nat → St → Hp → Prop, (∃ m, W 0 m σ H) ∧ ∀ i m σ H, W i m σ H →
      ((Itt K a).stop i H ∧ D.nx σ H) ∨ ((Itt K a).go i H ∧ ∃ N : St → Hp → Prop, (∀ σ' H', N σ' H' → ∃ m', m' < m ∧ W (i + 1) m' σ' H') ∧ ∀ x H', (Itt K a).yld i H x H' → g x σ H' fun σ2 H2 => tb { D with nx := N, ct := N, bk := D.nx } σ2 H2) := by
  refine ⟨fun i m σ H => m = xs.length - i ∧ i ≤ xs.length ∧ Pv i σ H, ⟨xs.length, by simp, Nat.zero_le _, h0⟩, ?_⟩
  rintro i m σ H ⟨rfl, hi, p⟩
  have q := hl i σ H hi p
  by_cases hlt : i < xs.length
  · refine .inr ⟨⟨xs, xs[i], q, by simp [hlt]⟩, Pv (i + 1), fun σ' H' p' => ⟨xs.length - (i + 1), by (first | lia | omega), rfl, hlt, p'⟩, fun x H' y => ?_⟩
    obtain ⟨e, y⟩ := y
    subst e
    exact hs i x σ _ (y xs q) p
  · have e : i = xs.length := by (first | lia | omega)
    subst e
    exact .inl ⟨⟨xs, q, Nat.le_refl _⟩, hd σ H p⟩
theorem for_range {lo : Int} {n : Nat} {g : TG} {tb : TS} {D : Ends} {σ : St} {H : Hp} (Pv : Nat → St → Hp → Prop) (h0 : Pv 0 σ H)
    (hs : ∀ i σ H, i < n → Pv i σ H → g (.int (lo + i)) σ H fun σ2 H2 => tb { D with nx := Pv (i + 1), ct := Pv (i + 1), bk := D.nx } σ2 H2) (hd : ∀ σ H, Pv n σ H → D.nx σ H) :
    ∃ W : Nat → Nat → St → Hp → Prop, (∃ m, W 0 m σ H) ∧ ∀ i m σ H, W i m σ H →
      ((Itr lo n).stop i H ∧ D.nx σ H) ∨ ((Itr lo n).go i H ∧ ∃ N : St → Hp → Prop, (∀ σ' H', N σ' H' → ∃ m', m' < m ∧ W (i + 1) m' σ' H') ∧ ∀ x H', (Itr lo n).yld i H x H' → g x σ H' fun σ2 H2 => tb { D with nx := N, ct := N, bk := D.nx } σ2 H2) := by
  refine ⟨fun i m σ H => m = n - i ∧ i ≤ n ∧ Pv i σ H, ⟨n, by simp, Nat.zero_le _, h0⟩, ?_⟩
  rintro i m σ H ⟨rfl, hi, p⟩
  by_cases hlt : i < n
  · refine .inr ⟨hlt, Pv (i + 1), fun σ' H' p' => ⟨n - (i + 1), by (first | lia | omega), rfl, hlt, p'⟩, fun x H' y => ?_⟩
    obtain ⟨e, y⟩ := y
    subst e y
    exact hs i σ _ hlt p
  · have e : i = n := by (first | lia | omega)
    subst e
    exact .inl ⟨Nat.le_refl _, hd σ H p⟩
end L2

namespace L2
open PySem PySem.Spec PyProof.Rows

noncomputable abbrev R2 := V → V → Hp → VK → Prop
noncomputable def OpR (X : Cx) (f : Value → Value → Sem Value) (r : R2) : Prop :=
  ∀ (pins : List (Addr × Obj)) (s : Shared) (σ : St) (H : Hp) (x y : V) (v u : Value) (Q : VK), Inv X pins σ H s → RelV x v → RelV y u → r x y H Q →
    wpAny (model X.prog X.w) X.A (f v u) (EP X pins σ Q) X.xe s
noncomputable def UnR (X : Cx) (f : Value → Sem Value) (r : V → Hp → VK → Prop) : Prop :=
  ∀ (pins : List (Addr × Obj)) (s : Shared) (σ : St) (H : Hp) (x : V) (v : Value) (Q : VK), Inv X pins σ H s → RelV x v → r x H Q →
    wpAny (model X.prog X.w) X.A (f v) (EP X pins σ Q) X.xe s
noncomputable def CallR (X : Cx) (f : Value) (r : List V → Hp → VK → Prop) : Prop :=
  ∀ (pins : List (Addr × Obj)) (s : Shared) (σ : St) (H : Hp) (xs : List V) (us : List Value) (Q : VK), Inv X pins σ H s → Vals xs us → r xs H Q →
    wpAny (model X.prog X.w) X.A (call f us) (EP X pins σ Q) X.xe s
noncomputable def TruR (X : Cx) (r : V → Hp → (Bool → Hp → Prop) → Prop) : Prop :=
  ∀ (pins : List (Addr × Obj)) (s : Shared) (σ : St) (H : Hp) (x : V) (v : Value) (Q : Bool → Hp → Prop), Inv X pins σ H s → RelV x v → r x H Q →
    wpAny (model X.prog X.w) X.A (truthy v) (TP X pins σ Q) X.xe s

noncomputable def tOp (r : R2) (ta tb : TE) : TE := fun σ H Q => ta σ H fun x H1 => tb σ H1 fun y H2 => r x y H2 Q
noncomputable def tUn (r : V → Hp → VK → Prop) (ta : TE) : TE := fun σ H Q => ta σ H fun x H1 => r x H1 Q
noncomputable def rI (C : Int → Int → Prop) (g : Int → Int → V) : R2 := fun x y H Q => ∃ i j, x = .int i ∧ y = .int j ∧ C i j ∧ Q (g i j) H
noncomputable def rI0 (g : Int → Int → V) : R2 := fun x y H Q => ∃ i j, x = .int i ∧ y = .int j ∧ Q (g i j) H
noncomputable def rU (g : Int → V) : V → Hp → VK → Prop := fun x H Q => ∃ i, x = .int i ∧ Q (g i) H

section
variable {X : Cx} {a b c : Expr} {ta tb tc : TE} {pos : Pos}

theorem binT (ha : PE X a ta) (hb : PE X b tb) {pins : List (Addr × Obj)} {s : Shared} {σ : St} {H : Hp} {R : V → V → Hp → Prop} (I : Inv X pins σ H s)
    (h : ta σ H fun x H1 => tb σ H1 fun y H2 => R x y H2) {Q : Value → Shared → Prop} {f : Value → Value → Sem Value}
    (hf : ∀ v u s2 x y H2, Inv X pins σ H2 s2 → RelV x v → RelV y u → R x y H2 → wpAny (model X.prog X.w) X.A (f v u) Q X.xe s2) :
    wpAny (model X.prog X.w) X.A (eval a X.env) (fun v s₁ => wpAny (model X.prog X.w) X.A (eval b X.env) (fun u s₂ => wpAny (model X.prog X.w) X.A (f v u) Q X.xe s₂) X.xe s₁) X.xe s := by
  refine thn (ha pins s σ H _ I h) fun v s1 ⟨x, H1, I1, r1, q1⟩ => ?_
  refine thn (hb pins s1 σ H1 _ I1 q1) fun u s2 ⟨y, H2, I2, r2, q2⟩ => ?_
  exact hf v u s2 x y H2 I2 r1 r2 q2

theorem pe_op {op : Operator} {r : R2} (ho : OpR X (binaryOp op) r) (ha : PE X a ta) (hb : PE X b tb) : PE X (.BinOp a op b pos) (tOp r ta tb) := by
  intro pins s σ H Q I h
  exact wpAny_BinOp (binT ha hb I h fun v u s2 x y H2 I2 rx ry q => ho pins s2 σ H2 x y v u Q I2 rx ry q)
theorem pe_un {op : UnaryOp} {r : V → Hp → VK → Prop} (ho : UnR X (unaryOp op) r) (ha : PE X a ta) : PE X (.UnaryOp op a pos) (tUn r ta) := by
  intro pins s σ H Q I h
  exact UnaryOp_ (thn (ha pins s σ H _ I h) fun v s1 ⟨x, H1, I1, r1, q1⟩ => ho pins s1 σ H1 x v Q I1 r1 q1)

theorem opI {f : Value → Value → Sem Value} {C : Int → Int → Prop} {g : Int → Int → Int}
    (rule : ∀ (i j : Int) (t u : Tok) (s : Shared) (Q : Value → Shared → Prop) (E : Value → Shared → Prop), C i j → Q (.int (g i j) s.toks) { s with toks := s.toks + 1 } → wpAny (model X.prog X.w) X.A (f (.int i t) (.int j u)) Q E s) :
    OpR X f (rI C fun i j => .int (g i j)) := by
  intro pins s σ H x y v u Q I rx ry h
  obtain ⟨i, j, rfl, rfl, hc, q⟩ := h
  obtain ⟨t, rfl⟩ := rx
  obtain ⟨t', rfl⟩ := ry
  exact rule i j t t' s _ _ hc ⟨.int (g i j), H, I.tok _, ⟨_, rfl⟩, q⟩
theorem opI0 {f : Value → Value → Sem Value} {g : Int → Int → Int}
    (rule : ∀ (i j : Int) (t u : Tok) (s : Shared) (Q : Value → Shared → Prop) (E : Value → Shared → Prop), Q (.int (g i j) s.toks) { s with toks := s.toks + 1 } → wpAny (model X.prog X.w) X.A (f (.int i t) (.int j u)) Q E s) :
    OpR X f (rI0 fun i j => .int (g i j)) := by
  intro pins s σ H x y v u Q I rx ry h
  obtain ⟨i, j, rfl, rfl, q⟩ := h
  obtain ⟨t, rfl⟩ := rx
  obtain ⟨t', rfl⟩ := ry
  exact rule i j t t' s _ _ ⟨.int (g i j), H, I.tok _, ⟨_, rfl⟩, q⟩
theorem opB0 {f : Value → Value → Sem Value} {g : Int → Int → Bool}
    (rule : ∀ (i j : Int) (t u : Tok) (s : Shared) (Q : Value → Shared → Prop) (E : Value → Shared → Prop), Q (.bool (g i j)) s → wpAny (model X.prog X.w) X.A (f (.int i t) (.int j u)) Q E s) :
    OpR X f (rI0 fun i j => .bl (g i j)) := by
  intro pins s σ H x y v u Q I rx ry h
  obtain ⟨i, j, rfl, rfl, q⟩ := h
  obtain ⟨t, rfl⟩ := rx
  obtain ⟨t', rfl⟩ := ry
  exact rule i j t t' s _ _ ⟨.bl (g i j), H, I, rfl, q⟩

noncomputable def CDiv (i j : Int) : Prop := 0 < j ∧ j < 1073741824
noncomputable def CDivN (i j : Int) : Prop := j ≠ 0 ∧ j.natAbs < 1073741824
noncomputable def CPow (i j : Int) : Prop := 0 ≤ j ∧ j ≤ 1000000 ∧ i.natAbs < 2 ^ 64
noncomputable def CMul (i j : Int) : Prop := (-(2 ^ 64) < i ∧ i < 2 ^ 64) ∨ (-(2 ^ 64) < j ∧ j < 2 ^ 64)
theorem CMul.ok {i j : Int} (h : CMul i j) : IntMulOk i j := by
  rcases h with ⟨h1, h2⟩ | ⟨h1, h2⟩
  · exact .of_left (intBits_le_64 h1 h2)
  · exact .of_right (intBits_le_64 h1 h2)

theorem op_add : OpR X (binaryOp .Add) (rI0 fun i j => .int (i + j)) := opI0 fun _ _ _ _ _ _ _ q => add_int q
theorem op_sub : OpR X (binaryOp .Sub) (rI0 fun i j => .int (i - j)) := opI0 fun _ _ _ _ _ _ _ q => sub_int q
theorem op_mod : OpR X (binaryOp .Mod) (rI (fun _ j => 0 < j) fun i j => .int (i % j)) := opI fun i j _ _ _ _ _ hc q => by
  have h1 : (0 : Int) < j := hc
  exact mod_int' (by (first | lia | omega)) (by rw [Int.fmod_eq_emod_of_nonneg i (by (first | lia | omega))]; exact q)
theorem op_pow : OpR X (binaryOp .Pow) (rI CPow fun i j => .int (i ^ j.toNat)) := opI fun _ _ _ _ _ _ _ hc q => pow_int_small hc.1 hc.2.1 hc.2.2 q


theorem unI {f : Value → Sem Value} {g : Int → Int}
    (rule : ∀ (i : Int) (t : Tok) (s : Shared) (Q : Value → Shared → Prop) (E : Value → Shared → Prop), Q (.int (g i) s.toks) { s with toks := s.toks + 1 } → wpAny (model X.prog X.w) X.A (f (.int i t)) Q E s) :
    UnR X f (rU fun i => .int (g i)) := by
  intro pins s σ H x v Q I rx h
  obtain ⟨i, rfl, q⟩ := h
  obtain ⟨t, rfl⟩ := rx
  exact rule i t s _ _ ⟨.int (g i), H, I.tok _, ⟨_, rfl⟩, q⟩
theorem un_neg : UnR X (unaryOp .USub) (rU fun i => .int (-i)) := unI fun _ _ _ _ _ q => neg_int q

end

noncomputable def scal : V → V → Bool
  | .non, .non => true | .non, .int _ => true | .int _, .non => true | .non, .bl _ => true | .bl _, .non => true | .non, .str _ => true | .str _, .non => true
  | .int _, .int _ => true | .bl _, .bl _ => true | .str _, .str _ => true | .byt _, .byt _ => true
  | .int _, .str _ => true | .str _, .int _ => true | .bl _, .str _ => true | .str _, .bl _ => true
  | _, _ => false
noncomputable def rEq : R2 := fun x y H Q => scal x y = true ∧ Q (.bl (decide (x = y))) H
noncomputable def rNe : R2 := fun x y H Q => scal x y = true ∧ Q (.bl (!decide (x = y))) H

theorem dec_int {i j : Int} : decide (V.int i = V.int j) = (i == j) := by
  rw [Bool.eq_iff_iff]
  simp
theorem dec_bl {i j : Bool} : decide (V.bl i = V.bl j) = (i == j) := by
  rw [Bool.eq_iff_iff]
  simp
theorem dec_str {i j : Str} : decide (V.str i = V.str j) = (i == j) := by
  rw [Bool.eq_iff_iff]
  simp
theorem dec_byt {i j : Array UInt8} : decide (V.byt i = V.byt j) = (i.toList == j.toList) := by
  rw [Bool.eq_iff_iff]
  cases i
  cases j
  simp

section
variable {X : Cx} {a b c : Expr} {ta tb tc : TE} {pos : Pos}
theorem fin_bl {pins : List (Addr × Obj)} {σ : St} {H : Hp} {s : Shared} {Q : VK} {k k' : Bool} (I : Inv X pins σ H s) (q : Q (.bl k) H) (e : k = k') : EP X pins σ Q (.bool k') s := by
  subst e
  exact ⟨.bl k, H, I, rfl, q⟩
theorem op_eq : OpR X (compareOp .Eq) rEq := by
  intro pins s σ H x y v u Q I rx ry h
  obtain ⟨hs, q⟩ := h
  cases x with
  | non =>
    cases rx
    cases y with
    | non => cases ry; exact PySem.EqNone.eq_none_none (fin_bl I q (by simp))
    | bl j => cases ry; exact PySem.EqNone.eq_none_bool (fin_bl I q (by simp))
    | int j => obtain ⟨t', rfl⟩ := ry; exact PySem.EqNone.eq_none_int (fin_bl I q (by simp))
    | str j => obtain ⟨t', rfl⟩ := ry; exact PySem.EqNone.eq_none_str (fin_bl I q (by simp))
    | _ => exact absurd (show false = true from hs) Bool.false_ne_true
  | bl i =>
    cases rx
    cases y with
    | non => cases ry; exact PySem.EqNone.eq_bool_none (fin_bl I q (by simp))
    | bl j => cases ry; exact eq_bool (fin_bl I q dec_bl)
    | str j => obtain ⟨t', rfl⟩ := ry; exact PySem.EqMixed.eq_bool_str (fin_bl I q (by simp))
    | _ => exact absurd (show false = true from hs) Bool.false_ne_true
  | int i =>
    obtain ⟨t, rfl⟩ := rx
    cases y with
    | non => cases ry; exact PySem.EqNone.eq_int_none (fin_bl I q (by simp))
    | int j => obtain ⟨t', rfl⟩ := ry; exact eq_int (fin_bl I q dec_int)
    | str j => obtain ⟨t', rfl⟩ := ry; exact PySem.EqMixed.eq_int_str (fin_bl I q (by simp))
    | _ => exact absurd (show false = true from hs) Bool.false_ne_true
  | str i =>
    obtain ⟨t, rfl⟩ := rx
    cases y with
    | non => cases ry; exact PySem.EqNone.eq_str_none (fin_bl I q (by simp))
    | bl j => cases ry; exact PySem.EqMixed.eq_str_bool (fin_bl I q (by simp))
    | int j => obtain ⟨t', rfl⟩ := ry; exact PySem.EqMixed.eq_str_int (fin_bl I q (by simp))
    | str j => obtain ⟨t', rfl⟩ := ry; exact eq_str (fin_bl I q dec_str)
    | _ => exact absurd (show false = true from hs) Bool.false_ne_true
  | byt i =>
    obtain ⟨t, rfl⟩ := rx
    cases y with
    | byt j => obtain ⟨t', rfl⟩ := ry; exact PySem.W.eq_bytes (fin_bl I q dec_byt)
    | _ => exact absurd (show false = true from hs) Bool.false_ne_true
  | _ => cases y <;> exact absurd (show false = true from hs) Bool.false_ne_true
theorem op_ne : OpR X (compareOp .NotEq) rNe := by
  intro pins s σ H x y v u Q I rx ry h
  obtain ⟨hs, q⟩ := h
  cases x with
  | non =>
    cases rx
    cases y with
    | non => cases ry; exact PySem.EqNone.ne_none_none (fin_bl I q (by simp))
    | bl j => cases ry; exact PySem.EqNone.ne_none_bool (fin_bl I q (by simp))
    | int j => obtain ⟨t', rfl⟩ := ry; exact PySem.EqNone.ne_none_int (fin_bl I q (by simp))
    | str j => obtain ⟨t', rfl⟩ := ry; exact PySem.EqNone.ne_none_str (fin_bl I q (by simp))
    | _ => exact absurd (show false = true from hs) Bool.false_ne_true
  | bl i =>
    cases rx
    cases y with
    | non => cases ry; exact PySem.EqNone.ne_bool_none (fin_bl I q (by simp))
    | bl j => cases ry; exact ne_bool (fin_bl I q (congrArg not dec_bl))
    | str j => obtain ⟨t', rfl⟩ := ry; exact PySem.EqMixed.ne_bool_str (fin_bl I q (by simp))
    | _ => exact absurd (show false = true from hs) Bool.false_ne_true
  | int i =>
    obtain ⟨t, rfl⟩ := rx
    cases y with
    | non => cases ry; exact PySem.EqNone.ne_int_none (fin_bl I q (by simp))
    | int j => obtain ⟨t', rfl⟩ := ry; exact ne_int (fin_bl I q (congrArg not dec_int))
    | str j => obtain ⟨t', rfl⟩ := ry; exact PySem.EqMixed.ne_int_str (fin_bl I q (by simp))
    | _ => exact absurd (show false = true from hs) Bool.false_ne_true
  | str i =>
    obtain ⟨t, rfl⟩ := rx
    cases y with
    | non => cases ry; exact PySem.EqNone.ne_str_none (fin_bl I q (by simp))
    | bl j => cases ry; exact PySem.EqMixed.ne_str_bool (fin_bl I q (by simp))
    | int j => obtain ⟨t', rfl⟩ := ry; exact PySem.EqMixed.ne_str_int (fin_bl I q (by simp))
    | str j => obtain ⟨t', rfl⟩ := ry; exact ne_str (fin_bl I q (congrArg not dec_str))
    | _ => exact absurd (show false = true from hs) Bool.false_ne_true
  | byt i =>
    obtain ⟨t, rfl⟩ := rx
    cases y with
    | byt j => obtain ⟨t', rfl⟩ := ry; exact PySem.W.ne_bytes (fin_bl I q (congrArg not dec_byt))
    | _ => exact absurd (show false = true from hs) Bool.false_ne_true
  | _ => cases y <;> exact absurd (show false = true from hs) Bool.false_ne_true

theorem op_lt : OpR X (compareOp .Lt) (rI0 fun i j => .bl (decide (i < j))) := opB0 fun _ _ _ _ _ _ _ q => lt_int q
theorem op_gt : OpR X (compareOp .Gt) (rI0 fun i j => .bl (decide (j < i))) := opB0 fun _ _ _ _ _ _ _ q => gt_int q
theorem op_ge : OpR X (compareOp .GtE) (rI0 fun i j => .bl (decide (j ≤ i))) := opB0 fun _ _ _ _ _ _ _ q => ge_int q

theorem op_isN : OpR X (compareOp .Is) (fun x y H Q => y = .non ∧ Q (.bl (decide (x = .non))) H) := by
  intro pins s σ H x y v u Q I rx ry h
  obtain ⟨rfl, q⟩ := h
  cases ry
  refine is_none_gen (fin_bl I q ?_)
  cases x <;> first
    | (cases rx; rfl)
    | (obtain ⟨t, rfl⟩ := rx; rfl)
theorem op_notN : OpR X (compareOp .IsNot) (fun x y H Q => y = .non ∧ Q (.bl (!decide (x = .non))) H) := by
  intro pins s σ H x y v u Q I rx ry h
  obtain ⟨rfl, q⟩ := h
  cases ry
  refine isnot_none_gen (fin_bl I q ?_)
  cases x <;> first
    | (cases rx; rfl)
    | (obtain ⟨t, rfl⟩ := rx; rfl)

noncomputable def isObj : HO → Bool
  | .lst _ => true
  | .ins _ _ _ => true
  | _ => false


theorem nomark (b : Expr) {op : CmpOp} (h : op ≠ .In := by decide) (h2 : op ≠ .NotIn := by decide) : behindInMarks op b = false := by
  have e1 : (op == CmpOp.In) = false := by cases op <;> first | rfl | exact absurd rfl h
  have e2 : (op == CmpOp.NotIn) = false := by cases op <;> first | rfl | exact absurd rfl h2
  cases b <;> simp [behindInMarks, e1, e2]
theorem pe_cmpR {op : CmpOp} {r : R2} (ho : OpR X (compareOp op) r) (ha : PE X a ta) (hb : PE X b tb) (hm : behindInMarks op b = false) : PE X (.Compare a [op] [b] pos) (tOp r ta tb) := by
  intro pins s σ H Q I h
  exact wpAny_Compare1 (binT ha hb I h fun v u s2 x y H2 I2 rx ry q => ho pins s2 σ H2 x y v u Q I2 rx ry q) hm
noncomputable def tTest (t : TE) : TT := fun σ H Q => t σ H fun x H' => ∃ k, x = .bl k ∧ Q k H'
theorem pt_cmpR {op : CmpOp} {r : R2} (ho : OpR X (compareOp op) r) (ha : PE X a ta) (hb : PE X b tb) (hm : behindInMarks op b = false) : PT X (.Compare a [op] [b] pos) (tTest (tOp r ta tb)) := by
  intro pins s σ H Q I h
  refine wpAny_isTrue_Compare1 (thn (ha pins s σ H _ I h) fun v s1 ⟨x, H1, I1, r1, q1⟩ => thn (hb pins s1 σ H1 _ I1 q1) fun u s2 ⟨y, H2, I2, r2, q2⟩ =>
    thn (ho pins s2 σ H2 x y v u _ I2 r1 r2 q2) fun c s3 ⟨z, H3, I3, r3, k, e, q3⟩ => ?_) hm
  subst e
  cases r3
  exact wpAny_truthy_bool ⟨H3, I3, q3⟩
noncomputable def tChain (r r' : R2) (ta tb tc : TE) : TE := fun σ H Q => ta σ H fun x H1 => tb σ H1 fun y H2 => r x y H2 fun z H3 => ∃ k, z = .bl k ∧
  (if k = true then tc σ H3 fun w' H4 => r' y w' H4 Q else Q (.bl false) H3)

noncomputable def TruV (K : PySem.W.Frag) (x : V) (H : Hp) (k : Bool) : Prop :=
  match x with
  | .non => k = false
  | .bl b => k = b
  | .int i => k = (i != 0)
  | .str y => y.length ≤ sizeLine ∧ k = ((y.length : Int) != 0)
  | .byt y => y.size ≤ sizeLine ∧ k = ((y.size : Int) != 0)
  | .ref p => (∃ xs, SqL K H p xs ∧ k = !xs.isEmpty) ∨ (∃ xs, SqT K H p xs ∧ k = !xs.isEmpty) ∨ ∃ kvs, H p = some (.dK kvs) ∧ k = !kvs.isEmpty
  | _ => False
theorem line63 : (sizeLine : Nat) < 2 ^ 63 := by rw [sizeLine_eq]; decide


noncomputable def PlainIxT (b : Expr) : Prop := ∀ o i, subscripted b false o i = operate [o, i] (getItem o i)

theorem vals1 {x : V} {us : List Value} (r : Vals [x] us) : ∃ u, us = [u] ∧ RelV x u := by
  cases r with
  | cons r1 r2 => cases r2; exact ⟨_, rfl, r1⟩
theorem vals2 {x y : V} {us : List Value} (r : Vals [x, y] us) : ∃ u w', us = [u, w'] ∧ RelV x u ∧ RelV y w' := by
  cases r with
  | cons r1 r2 =>
    cases r2 with
    | cons r3 r4 => cases r4; exact ⟨_, _, rfl, r1, r3⟩
theorem call_abs : CallR X (.builtin "abs") (fun xs H Q => ∃ i, xs = [.int i] ∧ Q (.int (if i < 0 then -i else i)) H) := by
  intro pins s σ H xs us Q I r h
  obtain ⟨i, rfl, q⟩ := h
  obtain ⟨u, rfl, t, rfl⟩ := vals1 r
  exact call_abs_int fun u tk => ⟨.int (if i < 0 then -i else i), H, I.tok _, ⟨_, rfl⟩, q⟩
noncomputable def LenV (K : PySem.W.Frag) (x : V) (H : Hp) (n : Nat) : Prop :=
  match x with
  | .str y => y.length ≤ sizeLine ∧ n = y.length
  | .byt y => y.size ≤ sizeLine ∧ n = y.size
  | .ref p => (∃ xs, SqL K H p xs ∧ n = xs.length) ∨ ∃ xs, SqT K H p xs ∧ n = xs.length
  | _ => False
end
end L2

namespace L2
open PySem PySem.Spec PyProof.Rows

structure ObjM (h : Heap) (x dx C : Addr) (mA : Str → Option Value) : Prop where
  obj : h.get? x = some (PySem.W.instObj C dx)
  ns : h.Ns1 dx mA
  ne : dx ≠ x

theorem lookIn_ns {h : Heap} {dx : Addr} {mA : Str → Option Value} (n : h.Ns1 dx mA) : ∃ od, h.get? dx = some od ∧ ∀ name, PySem.W.lookIn name od = some (mA name) := by
  obtain ⟨o, es, ep, ho, hd, hk, _, hm⟩ := n
  refine ⟨o, ho, fun name => ?_⟩
  have e := hm name
  unfold nsFind findBy at e
  rw [← Array.find?_toList] at e
  unfold PySem.W.lookIn
  rw [hd]
  dsimp only
  split
  · rename_i y q
    rw [q] at e
    exact congrArg some e
  · rename_i q
    rw [q] at e
    have a : es.toList.any (·.refKey) = false := by
      rw [List.any_eq_false]
      intro y hy
      obtain ⟨z, t, hkey⟩ := hk y (Array.mem_toList_iff.mp hy)
      simp [DictEntry.refKey, hkey]
    have a' : ¬ es.toList.any (·.refKey) = true := by rw [a]; exact Bool.false_ne_true
    rw [if_neg a']
    exact congrArg some e

theorem ObjM.look {h : Heap} {x dx C : Addr} {mA : Str → Option Value} (I : ObjM h x dx C mA) : ∃ od, PySem.W.InstAt h x (PySem.W.instObj C dx) C (some od) ∧ ∀ name, PySem.W.lookIn name od = some (mA name) :=
  let ⟨od, ho, hl⟩ := lookIn_ns I.ns
  ⟨od, ⟨I.obj, rfl, rfl, ho⟩, hl⟩

section
variable {prog : Program} {w : World} {A : Around} {E : Value → Shared → Prop} {s : Shared} {K : PySem.W.Frag} {x dx C f : Addr} {mA : Str → Option Value} {name : Str} {v : Value}





end

noncomputable def putF (f : Str) (v : V) : List (Str × V) → List (Str × V)
  | [] => [(f, v)]
  | (g, x) :: r => if g = f then (g, v) :: r else (g, x) :: putF f v r


section
variable {P : Program} {w : World} {H H' : Hp} {h h' : Heap} {a C dx : Addr} {fs fs' : List (Str × V)}
theorem ins_get (hok : HOk P w H h) (e : H a = some (.ins C dx fs)) : ∃ mA, ObjM h a dx C mA ∧ (∀ f, RelO (fs.lookup f) (mA f)) ∧ PySem.Within mA (fs.map (·.1)) ∧ fs.length ≤ 1000 ∧ H dx = some (.own a) := by
  obtain ⟨d, z, ne, ob, mA, n, r, q⟩ := (show ObjOk P w H h a (.ins C dx fs) from hok a _ e)
  exact ⟨mA, ⟨ob, n, ne⟩, r, q, z, d⟩
end

structure Cls (K : PySem.W.Frag) (C : Addr) : Prop where
  pg : PySem.W.plainGet K C Str.empty = true
  hd : PySem.W.hasDictIn K C = true
  po : PySem.W.plainOver K C = true
  sa : PySem.W.findIn K (.ref C) "__setattr__" = some (some (.builtin "object.__setattr__"))
theorem Cls.get {K : PySem.W.Frag} {C : Addr} (c : Cls K C) (f : Str) : PySem.W.plainGet K C f = true := c.pg
noncomputable def NoAttr (K : PySem.W.Frag) (C : Addr) (f : Str) : Prop := PySem.W.findIn K (.ref C) f = some none
structure Con (K : PySem.W.Frag) (C : Addr) (f : Str) (v : V) (u : Value) : Prop where
  at_ : PySem.W.findIn K (.ref C) f = some (some u)
  rel : RelV v u
  get : PySem.W.specialIn K u "__get__" = some none
  cp : PySem.W.copiedNames.contains f = false
structure Meth (K : PySem.W.Frag) (C : Addr) (m : Str) (f : Addr) : Prop where
  at_ : PySem.W.findIn K (.ref C) m = some (some (.ref f))
  fn : PySem.W.isFn K (.ref f) = true
  kp : PySem.W.keepIn K (.ref f) = true

section
variable {X : Cx} {pins : List (Addr × Obj)} {σ : St} {H : Hp} {s : Shared} {a C dx : Addr} {fs : List (Str × V)} {f : Str} {v : V} {A : Around} {E : Value → Shared → Prop}






end

noncomputable def tFld (K : PySem.W.Frag) (ta : TE) (f : Str) : TE := fun σ H Q => ta σ H fun x H1 => ∃ a C dx fs v, x = .ref a ∧ H1 a = some (.ins C dx fs) ∧ Cls K C ∧ NoAttr K C f ∧ fs.lookup f = some v ∧ Q v H1
noncomputable def tCon (K : PySem.W.Frag) (ta : TE) (f : Str) : TE := fun σ H Q => ta σ H fun x H1 => ∃ a C dx fs v u, x = .ref a ∧ H1 a = some (.ins C dx fs) ∧ Cls K C ∧ Con K C f v u ∧ fs.lookup f = none ∧ Q v H1
noncomputable def sFld (K : PySem.W.Frag) (ta tv : TE) (f : Str) : TS := fun D σ H => tv σ H fun y H1 => ta σ H1 fun x H2 => ∃ a C dx fs, x = .ref a ∧ H2 a = some (.ins C dx fs) ∧ Cls K C ∧ NoAttr K C f ∧ fs.length < 1000 ∧
  D.nx σ (upd H2 a (.ins C dx (putF f y fs)))
noncomputable def InOp (X : Cx) (op : Operator) (rd : V → V → Hp → VK → Prop) : Prop :=
  ∀ (pins : List (Addr × Obj)) (s : Shared) (σ : St) (H : Hp) (x y : V) (u v : Value) (Q : VK), Inv X pins σ H s → RelV x u → RelV y v → rd x y H Q → wpAny (model X.prog X.w) X.A (inplaceOp op u v) (EP X pins σ Q) X.xe s
noncomputable def sFldAug (K : PySem.W.Frag) (ta tv : TE) (rd : V → V → Hp → VK → Prop) (f : Str) : TS := fun D σ H => ta σ H fun x H1 => ∃ a C dx fs v, x = .ref a ∧ H1 a = some (.ins C dx fs) ∧ Cls K C ∧ NoAttr K C f ∧ fs.lookup f = some v ∧
  tv σ H1 fun y H2 => rd v y H2 fun z H3 => ∃ dx' fs', H3 a = some (.ins C dx' fs') ∧ fs'.length < 1000 ∧ D.nx σ (upd H3 a (.ins C dx' (putF f z fs')))

section
variable {X : Cx} {o e value : Expr} {f : Str} {pos pos' tpos : Pos} {ta tv : TE}
noncomputable def rAdd : V → V → Hp → VK → Prop := fun x y H Q => ∃ i j, x = .int i ∧ y = .int j ∧ Q (.int (i + j)) H
noncomputable def rSub : V → V → Hp → VK → Prop := fun x y H Q => ∃ i j, x = .int i ∧ y = .int j ∧ Q (.int (i - j)) H

end

section
variable {X : Cx} {pins : List (Addr × Obj)} {σ : St} {H : Hp} {s : Shared} {A : Around} {E : Value → Shared → Prop} {Q : Value → Shared → Prop} {c : Value} {b : Bool}
inductive TyOf (K : PySem.W.Frag) (H : Hp) : V → Value → Prop where
  | non : TyOf K H .non (.type "NoneType")
  | bl (x : Bool) : TyOf K H (.bl x) (.type "bool")
  | int (i : Int) : TyOf K H (.int i) (.type "int")
  | str (x : Str) : TyOf K H (.str x) (.type "str")
  | flt (x : UInt64) : TyOf K H (.flt x) (.type "float")
  | lst {a : Addr} {xs : List V} (e : H a = some (.lst xs)) : TyOf K H (.ref a) (.type "list")
  | frz {a : Addr} {o : Obj} {xs : List V} (e : H a = some (.frz o (.lst xs))) : TyOf K H (.ref a) (.type "list")
  | tup {a : Addr} {xs : List V} (e : H a = some (.tup xs)) : TyOf K H (.ref a) (.type "tuple")
  | dK {a : Addr} {kvs : List (Key × V)} (e : H a = some (.dK kvs)) : TyOf K H (.ref a) (.type "dict")
  | dT {a : Addr} {kvs : List (List Key × V)} (e : H a = some (.dT kvs)) : TyOf K H (.ref a) (.type "dict")
  | ins {a C dx : Addr} {fs : List (Str × V)} (e : H a = some (.ins C dx fs)) (cl : Cls K C) (ha : PySem.W.findIn K (.ref C) "__class__" = some (some (.builtin "object.__class__")))
      (hn : PySem.W.specialIn K (.builtin "object.__class__") "__get__" = some (some (.builtin "getset_descriptor.__get__"))) (htk : PySem.W.takesIn K (.builtin "object.__class__") = some true)
      (hm : PySem.W.mroIn K C (.type "object") = some true) : TyOf K H (.ref a) (.ref C)
theorem isinst_ok {x : V} {u t : Value} (I : Inv X pins σ H s) (rx : RelV x u) (ty : TyOf X.K H x t) (e : PySem.W.kitOne X.K t c = some b) (h : ∀ tk, Q (.bool b) { s with toks := tk }) :
    wpAny (model X.prog X.w) A (call (.builtin "isinstance") [u, c]) Q E s := by
  cases ty with
  | non => cases (show u = Value.none from rx); exact PySem.W.kia_one PySem.W.kitx_none I.kIn True.intro e (fun z => nomatch z) h
  | bl y => cases (show u = Value.bool y from rx); exact PySem.W.kia_one PySem.W.kitx_bool I.kIn True.intro e (fun z => nomatch z) h
  | int i => obtain ⟨t, q⟩ := (show ∃ t, u = Value.int i t from rx); cases q; exact PySem.W.kia_one PySem.W.kitx_int I.kIn True.intro e (fun z => nomatch z) h
  | str y => obtain ⟨t, q⟩ := (show ∃ t, u = Value.str y t from rx); cases q; exact PySem.W.kia_one PySem.W.kitx_str I.kIn True.intro e (fun z => nomatch z) h
  | flt y => obtain ⟨t, q⟩ := (show ∃ t, u = Value.float y t from rx); cases q; exact PySem.W.kia_one PySem.W.kitx_float I.kIn True.intro e (fun z => nomatch z) h
  | @lst a xs ea =>
    cases (show u = Value.ref a from rx)
    obtain ⟨_, _, n, _, h1⟩ := (show ObjOk X.prog X.w H s.heap a (.lst xs) from I.hok a _ ea)
    exact PySem.W.kia_one PySem.W.kitx_list I.kIn ⟨_, h1, rfl⟩ e (fun z => nomatch z) h
  | @frz a ob xs ea =>
    cases (show u = Value.ref a from rx)
    obtain ⟨_, _, _, n, _, h1⟩ := (show ObjOk X.prog X.w H s.heap a (.frz ob (.lst xs)) from I.hok a _ ea)
    exact PySem.W.kia_one PySem.W.kitx_list I.kIn ⟨_, h1, rfl⟩ e (fun z => nomatch z) h
  | @tup a xs ea =>
    cases (show u = Value.ref a from rx)
    obtain ⟨_, _, _, p⟩ := (show ObjOk X.prog X.w H s.heap a (.tup xs) from I.hok a _ ea)
    obtain ⟨o, h1, h2, _⟩ := p
    exact PySem.W.kia_one PySem.W.kitx_tuple I.kIn ⟨o, h1, h2⟩ e (fun z => nomatch z) h
  | @dK a kvs ea =>
    cases (show u = Value.ref a from rx)
    obtain ⟨_, _, vs, _, p⟩ := (show ObjOk X.prog X.w H s.heap a (.dK kvs) from I.hok a _ ea)
    obtain ⟨o, es, ep, h1, h2, _⟩ := p
    exact PySem.W.kia_one PySem.W.kitx_dict I.kIn ⟨o, h1, h2.1⟩ e (fun z => nomatch z) h
  | @dT a kvs ea =>
    cases (show u = Value.ref a from rx)
    obtain ⟨_, _, xs, _, o, es, ep, h1, h2, _⟩ := (show ObjOk X.prog X.w H s.heap a (.dT kvs) from I.hok a _ ea)
    exact PySem.W.kia_one PySem.W.kitx_dict I.kIn ⟨o, h1, h2.1⟩ e (fun z => nomatch z) h
  | @ins a C dx fs ea cl ha hn htk hm =>
    cases (show u = Value.ref a from rx)
    obtain ⟨mA, O, _⟩ := ins_get I.hok ea
    obtain ⟨od, J, _⟩ := O.look
    exact PySem.W.kia_one (PySem.W.kitx_own (cl.get _) cl.hd ha hn htk hm) I.kIn J e (fun z => nomatch z) h
end
end L2

namespace L2
open PySem PySem.Spec PyProof.Rows

structure Room (k : Nat) (A : Around) : Prop where
  hd : A.handled = none
  dp : A.depth + 3 * k + 5 < recursionLimit
  un : A.units + 16 * k + 200 < cLine
theorem Room.mono {j k : Nat} {A : Around} (r : Room k A) (h : j ≤ k) : Room j A := ⟨r.hd, by have := r.dp; (first | lia | omega), by have := r.un; (first | lia | omega)⟩
theorem Room.deeper {k : Nat} {A : Around} (r : Room (k + 1) A) (env : Env) : Room k (A.deeper env) :=
  ⟨r.hd, by have := r.dp; show A.depth + 1 + 3 * k + 5 < _; (first | lia | omega), by have := r.un; show A.units + 3 + 16 * k + 200 < _; (first | lia | omega)⟩
theorem Room.depth {k : Nat} {A : Around} (r : Room k A) : A.depth < recursionLimit := by have := r.dp; (first | lia | omega)
theorem Room.units {k : Nat} {A : Around} (r : Room k A) : A.units + 64 < cLine := by have := r.un; (first | lia | omega)

noncomputable def tNil : TA := fun _ H Q => Q [] H
noncomputable def tCons (ta : TE) (tr : TA) : TA := fun σ H Q => ta σ H fun x H1 => tr σ H1 fun xs H2 => Q (x :: xs) H2
section
variable {X : Cx} {e : Expr} {es : List Expr} {te : TE} {t : TA} {pos : Pos}
theorem pa_nil : PA X [] tNil := fun _ _ _ _ H Q I h => Calls.spliced_nil ⟨[], H, I, .nil, h⟩
theorem pa_cons (ha : PE X e te) (hr : PA X es t) (hs : starEach (e :: es) X.env = (false, eval e X.env) :: starEach es X.env := by rfl) : PA X (e :: es) (tCons te t) := by
  intro pos pins s σ H Q I h
  rw [hs]
  show wpAny _ _ (spliced ((false, eval e X.env) :: backTo pos (starEach es X.env))) _ _ s
  refine Calls.spliced_cons (thn (ha pins s σ H _ I h) fun u s1 ⟨x, H1, I1, r1, q1⟩ => ?_)
  exact thn (hr pos pins s1 σ H1 _ I1 q1) fun us s2 ⟨xs, H2, I2, r2, q2⟩ => ⟨x :: xs, H2, I2, .cons r1 r2, q2⟩

noncomputable def tTup (t : TA) : TE := fun σ H Q => t σ H fun xs H1 => xs.length ≤ sizeLine ∧ ∀ p, H1 p = none → Q (.ref p) (upd H1 p (.tup xs))
noncomputable def tLst (t : TA) : TE := fun σ H Q => t σ H fun xs H1 => xs.length ≤ sizeLine ∧ ∀ p, H1 p = none → Q (.ref p) (upd H1 p (.lst xs))
theorem pe_tup {x1} (h : PA X es t) : PE X (.Tuple es x1 pos) (tTup t) := by
  intro pins s σ H Q I hq
  refine wpAny_Tuple_spliced (thn (h pos pins s σ H _ I hq) fun us s1 ⟨xs, H1, I1, r, z, q⟩ => ⟨by rw [← r.length]; exact z, ?_⟩)
  have hf : H1 s1.heap.objs.size = none := I1.hok.fresh (Nat.le_refl _)
  refine ⟨.ref s1.heap.objs.size, upd H1 s1.heap.objs.size (.tup xs), I1.laid (t' := s1.toks) (fun b u e => Heap.get?_push_of_some _ e) (Nat.le_refl _) ?_, rfl, q _ hf⟩
  exact ⟨z, us, r, ⟨_, Heap.get?_push_size _ rfl, rfl, _, rfl⟩⟩
theorem pe_lst (h : PA X es t) : PE X (.List es pos) (tLst t) := by
  intro pins s σ H Q I hq
  refine wpAny_List_spliced (thn (h pos pins s σ H _ I hq) fun us s1 ⟨xs, H1, I1, r, z, q⟩ => ⟨by rw [← r.length]; exact z, ?_⟩)
  have hf : H1 s1.heap.objs.size = none := I1.hok.fresh (Nat.le_refl _)
  refine ⟨.ref s1.heap.objs.size, upd H1 s1.heap.objs.size (.lst xs), I1.laid (t' := s1.toks) (fun b u e => Heap.get?_push_of_some _ e) (Nat.le_refl _) ?_, rfl, q _ hf⟩
  exact ⟨z, us, 0, r, Heap.get?_push_size _ rfl⟩
end

noncomputable abbrev Sp := List V → Hp → VK → XK → Prop
noncomputable abbrev CXT := List Env → Hp → Shared → XK → Value → Shared → Prop

structure Env0 (P : Program) (w : World) (K : PySem.W.Frag) (mg : Str → Option Value) (base : Heap) (A : Around) (outer : List Env) (s : Shared) (H : Hp) : Prop where
  frames : A.frames = some outer
  mod : Mod K mg base
  bs : ∀ b o, base.get? b = some o → s.heap.get? b = some o ∧ H b = none
  bsz : base.objs.size ≤ s.heap.objs.size
  funs : s.heap.FunFrames base outer
  frf : ∀ b ∈ frs outer, H b = none
  hok : HOk P w H s.heap
  bare : AllBare s.gens
noncomputable def CE (outer : List Env) (P : Program) (w : World) (H : Hp) (s : Shared) (Q : VK) (u : Value) (s' : Shared) : Prop :=
  ∃ v H', s'.os = s.os ∧ AllBare s'.gens ∧ Un (frs outer) [] H H' s.heap s'.heap ∧ HOk P w H' s'.heap ∧ RelV v u ∧ Q v H'
noncomputable def CR (CX : CXT) (outer : List Env) (P : Program) (w : World) (H : Hp) (s : Shared) (Q : VK) (E : XK) (r : Result) (s' : Shared) : Prop :=
  match r with
  | .ok (.ret u) => CE outer P w H s Q u s'
  | .ok _ => False
  | .error e => CX outer H s E e s'
structure FnOk (P : Program) (w : World) (K : PySem.W.Frag) (mg : Str → Option Value) (base : Heap) (CX : CXT) (k : Nat) (f : Addr) (fd : FuncData) (ps : List Str) (sp : Sp) : Prop where
  len : ∀ vs H Q E, sp vs H Q E → vs.length = ps.length
  run : ∀ (A : Around) (outer : List Env) (s : Shared) (H : Hp) (args : Args) (us : List Value) (vs : List V) (Q : VK) (E : XK), Room k A → Env0 P w K mg base A outer s H → BindsTo s fd args (ps.zip us) → Vals vs us → sp vs H Q E →
    codeAny (model P w) A (.call (.ref f) args) (CR CX outer P w H s Q E) s
theorem FnOk.imp {P : Program} {w : World} {K : PySem.W.Frag} {mg : Str → Option Value} {base : Heap} {CX : CXT} {k : Nat} {f : Addr} {fd : FuncData} {ps : List Str} {sp sp' : Sp} (F : FnOk P w K mg base CX k f fd ps sp)
    (h : ∀ vs H Q E, sp' vs H Q E → sp vs H Q E) : FnOk P w K mg base CX k f fd ps sp' :=
  ⟨fun vs H Q E q => F.len vs H Q E (h _ _ _ _ q), fun A outer s H args us vs Q E hr he hb hv hs => F.run A outer s H args us vs Q E hr he hb hv (h _ _ _ _ hs)⟩


section
variable {X : Cx} {pins : List (Addr × Obj)} {σ : St} {H : Hp} {s s' : Shared}
theorem Inv.env0 (I : Inv X pins σ H s) : Env0 X.prog X.w X.K X.mg X.base X.A X.stack s H :=
  ⟨I.ok.frames, I.ok.mod, I.bs, Nat.le_trans I.ok.bsz I.sz, I.stack, I.stkFree, I.hok, I.bare⟩
theorem Inv.after {Q : VK} {u : Value} (I : Inv X pins σ H s) (h : CE X.stack X.prog X.w H s Q u s') : EP X pins σ Q u s' := by
  obtain ⟨v, H', os, bare, un, hok, r, q⟩ := h
  obtain ⟨hh, g, d, t, os'⟩ := s'
  obtain rfl : os' = s.os := os
  exact ⟨v, H', I.call (h' := hh) (g' := g) (d' := d) (t' := t) (ch := []) un hok bare (fun b z => absurd z (by simp)), r, q⟩
end

noncomputable def tCall (sp : Sp) (dvs : List V) (E : XK) (t : TA) : TE := fun σ H Q => t σ H fun vs H1 => sp (vs ++ dvs) H1 Q E
noncomputable def tMeth (C : Addr) (m : Str) (sp : Sp) (dvs : List V) (E : XK) (ta : TE) (t : TA) : TE := fun σ H Q => ta σ H fun x H1 => ∃ a dx fs, x = .ref a ∧ H1 a = some (.ins C dx fs) ∧ fs.lookup m = none ∧
  t σ H1 fun vs H2 => sp (x :: (vs ++ dvs)) H2 Q E
noncomputable def tMake (C : Addr) (sp : Sp) (dvs : List V) (E : XK) (t : TA) : TE := fun σ H Q => t σ H fun vs H1 => ∀ x dx, H1 x = none → H1 dx = none → dx ≠ x →
  sp (.ref x :: (vs ++ dvs)) (upd (upd H1 dx (.own x)) x (.ins C dx [])) (fun v H2 => v = .non ∧ Q (.ref x) H2) E

noncomputable def Binds (K : PySem.W.Frag) (fd : FuncData) (ps : List Str) (ds : List Value) : Prop :=
  ∀ (s : Shared) (us : List Value), K.In s.heap → (us ++ ds).length = ps.length → BindsTo s fd ⟨us, []⟩ (ps.zip (us ++ ds))
theorem Binds.all {K : PySem.W.Frag} {fd : FuncData} {ps : List Str} (h : ∀ us : List Value, us.length = ps.length → bindArgs fd ⟨us, []⟩ = pure (ps.zip us)) : Binds K fd ps [] := fun s us _ hl => by
  rw [List.append_nil] at hl ⊢
  exact .of_eq (h us hl)

noncomputable def Passes (CX : CXT) (X : Cx) (E : XK) : Prop := ∀ (pins : List (Addr × Obj)) (σ : St) (H : Hp) (s : Shared) (e : Value) (s' : Shared), Inv X pins σ H s → CX X.stack H s E e s' → X.xe e s'

section
variable {X : Cx} {CX : CXT} {k : Nat} {f C : Addr} {fd : FuncData} {ps : List Str} {sp : Sp} {dvs : List V} {ds : List Value} {E : XK} {x m : Str} {p pos apos : Pos} {e o : Expr} {es : List Expr} {ta : TE} {t : TA}

theorem run_fn {pins : List (Addr × Obj)} {σ : St} {H : Hp} {s : Shared} {Q : VK} {us : List Value} {vs : List V} (F : FnOk X.prog X.w X.K X.mg X.base CX k f fd ps sp) (hr : Room k X.A) (hb : Binds X.K fd ps ds) (hd : Vals dvs ds) (hx : Passes CX X E)
    (I : Inv X pins σ H s) (r : Vals vs us) (h : sp (vs ++ dvs) H Q E) : wpAny (model X.prog X.w) X.A (call (.ref f) us) (EP X pins σ Q) X.xe s := by
  have r2 : Vals (vs ++ dvs) (us ++ ds) := r.append hd
  have hl : (us ++ ds).length = ps.length := by rw [← r2.length]; exact F.len _ _ _ _ h
  refine wpAny_call (codeAny_mono (F.run X.A X.stack s H ⟨us, []⟩ (us ++ ds) (vs ++ dvs) Q E hr I.env0 (hb s us I.kIn hl) r2 h) fun r s' hq => ?_)
  cases r with
  | error e => exact hx pins σ H s e s' I hq
  | ok fl =>
    cases fl with
    | ret u => exact I.after hq
    | next => exact False.elim hq
    | brk => exact False.elim hq
    | cont => exact False.elim hq

theorem pe_call (F : FnOk X.prog X.w X.K X.mg X.base CX k f fd ps sp) (hr : Room k X.A) (hg : Gl X x) (hm : X.mg x = some (.ref f)) (hk : PySem.W.keepIn X.K (.ref f) = true) (hb : Binds X.K fd ps ds) (hd : Vals dvs ds) (hx : Passes CX X E)
    (ha : PA X (e :: es) t) (hdb : (x == ("__debug__" : Str)) = false := by decide) (he : starEach (e :: es) X.env = (false, eval e X.env) :: starEach es X.env := by rfl) (hpl : (backTo pos (starEach es X.env)).any (·.1) = false := by rfl) :
    PE X (.Call (.Name x p) (e :: es) [] pos) (tCall sp dvs E t) := by
  intro pins s σ H Q I h
  refine wpAny_Call_Name_kw (ld_glob I hg hm ?_ hdb)
  refine PySem.W.callWith_K (h₀ := X.base) I.ok.mod.kin hk (thn (ha pos pins s σ H _ I h) fun us s1 ⟨vs, H1, I1, r, q⟩ => ⟨I1.kIn, ?_⟩) he hpl
  exact run_fn F hr hb hd hx I1 r q


structure Mk (K : PySem.W.Frag) (C f : Addr) : Prop where
  makes : PySem.W.makesIn K C = true
  init : PySem.W.findIn K (.ref C) "__init__" = some (some (.ref f))
  fn : PySem.W.isFn K (.ref f) = true
  kp : PySem.W.keepIn K (.ref C) = true

end

noncomputable def PK (X : Cx) (kws : List Keyword) (t : TA) : Prop :=
  ∀ (pos : Pos) (pins : List (Addr × Obj)) (s : Shared) (σ : St) (H : Hp) (Q : List V → Hp → Prop), Inv X pins σ H s → t σ H Q → wpAny (model X.prog X.w) X.A (evalAll ((backToKw pos (keywordEach kws X.env)).map (·.2))) (AP X pins σ Q) X.xe s
section
variable {X : Cx} {CX : CXT} {k : Nat} {f C : Addr} {fd : FuncData} {ps ks : List Str} {sp : Sp} {E : XK} {x m : Str} {p pos apos kpos : Pos} {e o : Expr} {es : List Expr} {kws : List Keyword} {te ta : TE} {t tk : TA} {nm : Option Str}

structure KBinds (K : PySem.W.Frag) (fd : FuncData) (ps ks : List Str) (g : List Value → List Value → List Value) (gV : List V → List V → List V) : Prop where
  to : ∀ (s : Shared) (us ws : List Value), K.In s.heap → (g us ws).length = ps.length → BindsTo s fd ⟨us, ks.zip ws⟩ (ps.zip (g us ws))
  rel : ∀ {vs : List V} {us : List Value} {zs : List V} {ws : List Value}, Vals vs us → Vals zs ws → Vals (gV vs zs) (g us ws)
noncomputable def tCallK (sp : Sp) (gV : List V → List V → List V) (E : XK) (t tk : TA) : TE := fun σ H Q => t σ H fun vs H1 => tk σ H1 fun zs H2 => sp (gV vs zs) H2 Q E
variable {g : List Value → List Value → List Value} {gV : List V → List V → List V}
end

structure FnScope (N P : List Str) (sc : Scope) : Prop where
  kind : sc.kind = .function
  co : sc.isCoroutine = false
  gen : sc.isGenerator = false
  nd : N.Nodup
  pre : N.take P.length = P
  par : ∀ x ∈ P, sc.names.lookup x = some .local ∨ sc.names.lookup x = some .cell
  nofree : ∀ y ∈ sc.names, y.2 ≠ .free

theorem bindL_out {kindOf : Str → Option NameKind} {x : Str} : ∀ {binds : List (Str × Value)} {m : Str → Option Value}, (∀ v, (x, v) ∉ binds) → bindL kindOf binds m x = m x
  | [], _, _ => rfl
  | (n, v) :: r, m, h => by
    unfold bindL
    rw [bindL_out fun w hw => h w (List.mem_cons_of_mem _ hw)]
    split
    · have : x ≠ n := by rintro rfl; exact h v List.mem_cons_self
      simp [this]
    · rfl
theorem bindC_out {kindOf : Str → Option NameKind} {x : Str} : ∀ {binds : List (Str × Value)} {m : Str → Option Value}, (∀ v, (x, v) ∉ binds) → bindC kindOf binds m x = m x
  | [], _, _ => rfl
  | (n, v) :: r, m, h => by
    unfold bindC
    rw [bindC_out fun w hw => h w (List.mem_cons_of_mem _ hw)]
    split
    · rfl
    · have : x ≠ n := by rintro rfl; exact h v List.mem_cons_self
      simp [this]
theorem bindL_get {kindOf : Str → Option NameKind} {x : Str} {v : Value} : ∀ {P : List Str} {vs : List Value} {i : Nat} {m : Str → Option Value}, P.Nodup → P[i]? = some x → vs[i]? = some v → kindOf x = some .local →
    bindL kindOf (P.zip vs) m x = some v
  | [], _, _, _, _, h, _, _ => by simp at h
  | _ :: _, [], _, _, _, _, h, _ => by simp at h
  | p :: P, w :: vs, 0, m, nd, h1, h2, hk => by
    simp at h1 h2; subst h1; subst h2
    show bindL kindOf ((p, w) :: P.zip vs) m p = _
    unfold bindL
    rw [bindL_out fun v hv => (List.nodup_cons.mp nd).1 (List.of_mem_zip hv).1, if_pos hk]
    simp
  | p :: P, w :: vs, i + 1, m, nd, h1, h2, hk => by
    show bindL kindOf ((p, w) :: P.zip vs) m x = _
    unfold bindL
    exact bindL_get (i := i) (List.nodup_cons.mp nd).2 (by simpa using h1) (by simpa using h2) hk
theorem bindC_get {kindOf : Str → Option NameKind} {x : Str} {v : Value} : ∀ {P : List Str} {vs : List Value} {i : Nat} {m : Str → Option Value}, P.Nodup → P[i]? = some x → vs[i]? = some v → kindOf x ≠ some .local →
    bindC kindOf (P.zip vs) m x = some v
  | [], _, _, _, _, h, _, _ => by simp at h
  | _ :: _, [], _, _, _, _, h, _ => by simp at h
  | p :: P, w :: vs, 0, m, nd, h1, h2, hk => by
    simp at h1 h2; subst h1; subst h2
    show bindC kindOf ((p, w) :: P.zip vs) m p = _
    unfold bindC
    rw [bindC_out fun v hv => (List.nodup_cons.mp nd).1 (List.of_mem_zip hv).1, if_neg hk]
    simp
  | p :: P, w :: vs, i + 1, m, nd, h1, h2, hk => by
    show bindC kindOf ((p, w) :: P.zip vs) m x = _
    unfold bindC
    exact bindC_get (i := i) (List.nodup_cons.mp nd).2 (by simpa using h1) (by simpa using h2) hk

noncomputable def start (N : List Str) (vs : List V) : St := vs.map some ++ List.replicate (N.length - vs.length) none

noncomputable def cxOf (CX : CXT) (P : Program) (w : World) (K : PySem.W.Frag) (mg : Str → Option Value) (base : Heap) (N : List Str) (qual : Str) (scope : Scope) (f : Addr) (cd : Value) (A : Around) (outer : List Env) (s : Shared) (H : Hp) (E : XK) : Cx where
  prog := P
  w := w
  K := K
  mg := mg
  base := base
  A := A.deeper (envOfC qual scope s.heap.objs.size f cd)
  N := N
  s₀ := s
  H₀ := H
  env := envOfC qual scope s.heap.objs.size f cd
  outer := outer
  stack := envOfC qual scope s.heap.objs.size f cd :: outer
  ex := []
  calm := true
  fn := fun _ => true
  pn := []
  xe := fun e s' => wpAny (model P w) (A.deeper (envOfC qual scope s.heap.objs.size f cd)) (leaving (envOfC qual scope s.heap.objs.size f cd) e) (fun _ s'' => CX outer H s E e s'') (fun e' s'' => CX outer H s E e' s'') s'

theorem cell_has {sc : Scope} {n : Nat} {x : Str} (h : sc.names.lookup x = some .cell) : ∃ c, (cellsFrom n sc.names []).lookup x = some c := by
  have q := PySem.W.cellsFrom_some sc.names n [] (.inl h)
  exact Option.isSome_iff_exists.mp q

theorem inv_start {CX : CXT} {P : Program} {w : World} {K : PySem.W.Frag} {mg : Str → Option Value} {base : Heap} {N ps : List Str} {qual : Str} {scope : Scope} {f : Addr} {cd : Value} {A : Around} {outer : List Env} {s s1 : Shared} {H : Hp} {E : XK} {us : List Value} {vs : List V}
    (S : FnScope N ps scope) (hd : A.handled = none) (e0 : Env0 P w K mg base A outer s H) (hl : vs.length = ps.length) (r : Vals vs us)
    (x : InCallC s s.heap.objs.size (bindL (envOfC qual scope s.heap.objs.size f cd).kindOf (ps.zip us) fun _ => none) (cellsFrom (s.heap.objs.size + 1) scope.names []) (bindC (envOfC qual scope s.heap.objs.size f cd).kindOf (ps.zip us) fun _ => none) s1) :
    Inv (cxOf CX P w K mg base N qual scope f cd A outer s H E) [] (start N vs) H s1 := by
  have hpl : ps.length ≤ N.length := by have := congrArg List.length S.pre; rw [List.length_take] at this; (first | lia | omega)
  obtain ⟨h1, tk, rfl, hk⟩ := x.done
  have noA : ∀ b : Addr, b ∉ (cxOf CX P w K mg base N qual scope f cd A outer s H E).ex := fun b z => absurd (show b ∈ ([] : List Addr) from z) (by simp)
  refine ⟨⟨e0.mod, S.kind, rfl, rfl, Nat.le_refl _, fun y z c h1 h2 => ?_, fun y hy => ?_, fun y c _ h => ?_, fun _ => hd, Around.frames_deeper e0.frames, .inr ⟨rfl, rfl⟩, fun b z => absurd z (noA b), e0.bs, e0.bsz, fun b _ _ => noA b, fun b z => absurd z (noA b), e0.funs, e0.frf⟩,
    rfl, e0.bare, Un.kept hk, ⟨_, x.toInCall.ns, fun i y v h1 h2 h3 => ?_⟩, fun y c h => ⟨_, x.cell y c h⟩, e0.hok.fresh (Nat.le_refl _), fun y c h => ?_, fun p hp => absurd (show p ∈ ([] : List (Addr × Obj)) from hp) (by simp), e0.hok.kept hk, ?_⟩
  · exact name_of_addr x.apart (PySem.mem_of_lookup h1) (PySem.mem_of_lookup h2)
  · have hy : scope.names.lookup y = some .cell ∨ scope.names.lookup y = some .free := hy
    rcases hy with hy | hy
    · exact cell_has hy
    · exact absurd rfl (S.nofree _ (PySem.mem_of_lookup hy))
  · exact Nat.le_of_lt (x.above y c (PySem.mem_of_lookup h))
  · have hi : i < vs.length := by
      unfold start at h2
      by_cases hi : i < vs.length
      · exact hi
      · rw [List.getElem?_append_right (by simpa using hi)] at h2
        rw [List.getElem?_replicate] at h2
        split at h2 <;> cases h2
    have ha : vs[i]? = some v := by
      unfold start at h2
      rw [List.getElem?_append_left (by simpa using hi), List.getElem?_map] at h2
      cases e : vs[i]? with
      | none => rw [e] at h2; cases h2
      | some a => rw [e] at h2; cases h2; rfl
    obtain ⟨u, hu, rv⟩ := r.get ha
    have hp : ps[i]? = some y := by
      rw [← S.pre, List.getElem?_take_of_lt (by (first | lia | omega))]; exact h1
    have ndP : ps.Nodup := by rw [← S.pre]; exact S.nd.sublist (List.take_sublist _ _)
    refine ⟨u, rv, ?_⟩
    rcases S.par y (List.mem_of_getElem? hp) with k | k
    · exact .inl ⟨k, bindL_get ndP hp hu k⟩
    · obtain ⟨c, e⟩ := cell_has (n := s.heap.objs.size + 1) k
      refine .inr ⟨.inl k, c, e, ?_⟩
      have q := x.cell y c e
      rw [bindC_get ndP hp hu (by show scope.names.lookup y ≠ _; rw [k]; decide)] at q
      exact q
  · exact e0.hok.fresh (Nat.le_of_lt (x.above y c (PySem.mem_of_lookup h)))
  · unfold start
    show _ = N.length
    rw [List.length_append, List.length_map, List.length_replicate]
    (first | lia | omega)

theorem fn_of {CX : CXT} {P : Program} {w : World} {K : PySem.W.Frag} {mg : Str → Option Value} {base : Heap} {k : Nat} {f : Addr} {name qual : Str} {params : Arguments} {body : List Stmt} {scope : Scope} {dV kV doc pm cdv ct oc : Value} {an od : Option Addr}
    {osl : Array (Option Value)} {N ps : List Str} {sp : Sp} (lk : K.lookup f = some ⟨oc, od, .func (PySem.W.fnOf name qual params body scope dV kV doc pm an cdv ct), osl⟩) (hcd : PySem.W.codeIn K cdv qual = true) (S : FnScope N ps scope)
    (len : ∀ vs H Q E, sp vs H Q E → vs.length = ps.length)
    (hbody : ∀ (A : Around) (outer : List Env) (s : Shared) (H : Hp) (vs : List V) (Q : VK) (E : XK), Room k (A.deeper (envOfC qual scope s.heap.objs.size f cdv)) → sp vs H Q E →
      ∃ t, PSs (cxOf CX P w K mg base N qual scope f cdv A outer s H E) body t ∧ t { nx := fun _ H' => Q .non H', rt := Q } (start N vs) H) :
    FnOk P w K mg base CX (k + 1) f (PySem.W.fnOf name qual params body scope dV kV doc pm an cdv ct) ps sp := by
  refine ⟨len, fun A outer s H args us vs Q E hr e0 hb r hsp => ?_⟩
  have hl := len _ _ _ _ hsp
  have KX : K.In s.heap := e0.mod.kin.keeps fun b o e => (e0.bs b o e).1
  have lim : s.heap.NoLimit := e0.mod.nolimit.keeps fun b o e => (e0.bs b o e).1
  have hkind : ∀ y ∈ ps.zip us, scope.names.lookup y.1 = some .local ∨ (scope.names.lookup y.1 = some .cell ∧ ((cellsFrom (s.heap.objs.size + 1) scope.names []).lookup y.1).isSome = true) := fun ⟨n, v⟩ hy => by
    rcases S.par n (List.of_mem_zip hy).1 with q | q
    · exact .inl q
    · exact .inr ⟨q, PySem.W.cellsFrom_some _ _ _ (.inl q)⟩
  refine codeAny_call_function hr.depth (KX _ _ lk) rfl S.co S.gen rfl (PySem.W.codeRec_of KX hcd) (hb _ _ _ _ ?_)
  refine wpAny_newFunctionEnv_cells S.kind hkind fun env he s1 x => ?_
  subst he
  refine ⟨lim.keeps x.toInCall.keep, codeAny_func ?_⟩
  obtain ⟨t, ht, hq⟩ := hbody A outer s H vs Q E (hr.deeper _) hsp
  have I : Inv (cxOf CX P w K mg base N qual scope f cdv A outer s H E) [] (start N vs) H s1 := inv_start S hr.hd e0 hl r x
  refine wpAny_mono (ht [] s1 (start N vs) H _ I hq) (fun fl s' hs => ?_) fun e s' hs => hs
  have fin : ∀ {σ' : St} {H' : Hp} {v : V} {u : Value}, Inv (cxOf CX P w K mg base N qual scope f cdv A outer s H E) [] σ' H' s' → RelV v u → Q v H' → CE outer P w H s Q u s' :=
    fun {σ' H' v u} J rv q => ⟨v, H', J.os, J.bare, J.base, J.hok, rv, q⟩
  cases fl with
  | ret u =>
    obtain ⟨v, σ', H', J, rv, q⟩ := hs
    exact fin J rv q
  | next =>
    obtain ⟨σ', H', J, q⟩ := hs
    exact fin (v := V.non) (u := Value.none) J rfl q
  | brk =>
    obtain ⟨_, _, _, q⟩ := hs
    exact False.elim q
  | cont =>
    obtain ⟨_, _, _, q⟩ := hs
    exact False.elim q
end L2

namespace L2
open PySem PySem.Spec PyProof.Rows
section
variable {X : Cx} {x : Str} {p pos : Pos} {e : Expr} {es : List Expr} {t : TA} {id T : String} {r : List V → Hp → VK → Prop}

noncomputable def tCB (r : List V → Hp → VK → Prop) (t : TA) : TE := fun σ H Q => t σ H fun vs H1 => r vs H1 Q
theorem pe_callB (hc : CallR X (.builtin id) r) (hg : Gl X x) (hm : X.mg x = none) (hv : bootBuiltins x = some (.builtin id)) (ha : PA X (e :: es) t) (hn : x ≠ "__name__" := by decide) (hdb : (x == ("__debug__" : Str)) = false := by decide)
    (he : starEach (e :: es) X.env = (false, eval e X.env) :: starEach es X.env := by rfl) (hpl : (backTo pos (starEach es X.env)).any (·.1) = false := by rfl) : PE X (.Call (.Name x p) (e :: es) [] pos) (tCB r t) := by
  intro pins s σ H Q I h
  refine wpAny_Call_Name_kw (ld_blt I hg hm hv ?_ hn hdb)
  exact PyProof.Rows.callWith_builtin1 (thn (ha pos pins s σ H _ I h) fun us s1 ⟨vs, H1, I1, r1, q1⟩ => hc pins s1 σ H1 vs us Q I1 r1 q1) he hpl
theorem pe_callTy (hc : CallR X (.type T) r) (hg : Gl X x) (hm : X.mg x = none) (hv : bootBuiltins x = some (.type T)) (ha : PA X (e :: es) t) (hn : x ≠ "__name__" := by decide) (hdb : (x == ("__debug__" : Str)) = false := by decide)
    (he : starEach (e :: es) X.env = (false, eval e X.env) :: starEach es X.env := by rfl) (hpl : (backTo pos (starEach es X.env)).any (·.1) = false := by rfl) : PE X (.Call (.Name x p) (e :: es) [] pos) (tCB r t) := by
  intro pins s σ H Q I h
  refine wpAny_Call_Name_kw (ld_blt I hg hm hv ?_ hn hdb)
  exact PyProof.Rows.callWith_type1 (thn (ha pos pins s σ H _ I h) fun us s1 ⟨vs, H1, I1, r1, q1⟩ => hc pins s1 σ H1 vs us Q I1 r1 q1) he hpl
end
end L2

namespace HT
open PySem PyProof.Rows

noncomputable def lexLt : List Int → List Int → Bool
  | [], [] => false
  | [], _ :: _ => true
  | _ :: _, [] => false
  | x :: xs, y :: ys => if x = y then lexLt xs ys else decide (x < y)


section
open PySem.SeqAt
open PySem.AutoSeq1 (wpAny_loadPart')
open PySem.MeetsSeq PySem.MeetsSeq2 PySem.MeetsSeq3

end

section
variable {prog : Program} {w : World} {A : Around} {E : Value → Shared → Prop} {s : Shared}



noncomputable def sIx (n d : Nat) : Option Int → Nat
  | none => d
  | some v => if v < 0 then (v + (n : Int)).toNat else min v.toNat n
theorem sIx_none (n d : Nat) : sIx n d none = d := rfl
theorem sIx_nat (n d k : Nat) : sIx n d (some (k : Int)) = min k n := by
  show (if (k : Int) < 0 then ((k : Int) + (n : Int)).toNat else min (k : Int).toNat n) = min k n
  rw [if_neg (by (first | lia | omega)), Int.toNat_natCast]

end
end HT

namespace L2
open PySem PySem.Spec PyProof.Rows

noncomputable abbrev TO := St → Hp → (Option Int → Hp → Prop) → Prop
noncomputable def PO (X : Cx) (e : Option Expr) (t : TO) : Prop :=
  ∀ (pins : List (Addr × Obj)) (s : Shared) (σ : St) (H : Hp) (Q : Option Int → Hp → Prop), Inv X pins σ H s → t σ H Q →
    wpAny (model X.prog X.w) X.A (evalPart e X.env) (fun u s' => ∃ o H', Inv X pins σ H' s' ∧ IsPart u o ∧ Q o H') X.xe s
noncomputable def tNoPart : TO := fun _ H Q => Q none H
noncomputable def tPart (t : TE) : TO := fun σ H Q => t σ H fun x H1 => ∃ i, x = .int i ∧ Q (some i) H1


section
variable {X : Cx} {e : Expr} {te : TE} {lo hi : Option Expr} {tl th : TO} {pos p2 : Pos}

theorem po_none : PO X none tNoPart := by
  intro pins s σ H Q I h
  rw [evalPart_none]
  exact wpAny_pure ⟨none, H, I, .none, h⟩
theorem po_some (h : PE X e te) : PO X (some e) (tPart te) := by
  intro pins s σ H Q I hw
  rw [evalPart_some]
  refine thn (h pins s σ H _ I hw) fun u s1 ⟨x, H1, I1, r1, q1⟩ => ?_
  obtain ⟨i, rfl, q⟩ := q1
  obtain ⟨t, rfl⟩ := r1
  exact ⟨some i, H1, I1, .int i t, q⟩

noncomputable def SlR (X : Cx) (r : V → Option Int → Option Int → Hp → VK → Prop) : Prop :=
  ∀ (pins : List (Addr × Obj)) (s : Shared) (σ : St) (H : Hp) (x : V) (v vl vu : Value) (lo hi : Option Int) (sl : Addr) (Q : VK), Inv X pins σ H s → RelV x v → s.heap.IsSliceOf sl vl vu .none → IsPart vl lo → IsPart vu hi → r x lo hi H Q →
    ∃ T id, typeLookup (.type T) "__getitem__" = pure (some (.builtin id)) ∧ s.TypeIs v T ∧ wpAny (model X.prog X.w) X.A (getItem v (.ref sl)) (EP X pins σ Q) X.xe s
noncomputable def tSl (r : V → Option Int → Option Int → Hp → VK → Prop) (te : TE) (tl th : TO) : TE := fun σ H Q => te σ H fun x H1 => tl σ H1 fun l H2 => th σ H2 fun u H3 => r x l u H3 Q
theorem pe_slice {r : V → Option Int → Option Int → Hp → VK → Prop} (hr : SlR X r) (he : PE X e te) (hl : PO X lo tl) (hu : PO X hi th) : PE X (.Subscript e (.Slice lo hi none p2) pos) (tSl r te tl th) := by
  intro pins s σ H Q I h
  refine Subscript_ (thn (he pins s σ H _ I h) fun v s1 ⟨x, H1, I1, r1, q1⟩ => ?_)
  refine wpAny_Slice (thn (hl pins s1 σ H1 _ I1 q1) fun vl s2 ⟨l, H2, I2, pl, q2⟩ => thn (hu pins s2 σ H2 _ I2 q2) fun vu s3 ⟨u, H3, I3, pu, q3⟩ => ?_)
  rw [evalPart_none]
  refine wpAny_pure ?_
  have I4 : Inv X pins σ H3 { s3 with heap := s3.heap.push { cls := .type "slice", data := .fields #[vl, vu, .none] } } := I3.kept (t' := s3.toks) fun b ob q => Heap.get?_push_of_some _ q
  obtain ⟨T, id, hT, ht, hg⟩ := hr pins { s3 with heap := s3.heap.push { cls := .type "slice", data := .fields #[vl, vu, .none] } } σ H3 x v vl vu l u s3.heap.objs.size Q I4 r1 (Heap.IsSliceOf.new ..) pl pu q3
  show wpAny (model X.prog X.w) X.A (subscriptTail e (.Slice lo hi none p2) v (.ref s3.heap.objs.size)) (EP X pins σ Q) X.xe { s3 with heap := s3.heap.push { cls := .type "slice", data := .fields #[vl, vu, .none] } }
  exact tail_any (ops := [.ref s3.heap.objs.size, v]) ht hT hg (by with_unfolding_all rfl)

noncomputable def cutV (xs : List V) (lo hi : Option Int) : List V := (xs.drop (HT.sIx xs.length 0 lo)).take (HT.sIx xs.length xs.length hi - HT.sIx xs.length 0 lo)
theorem cutV_length (xs : List V) (lo hi : Option Int) : (cutV xs lo hi).length ≤ xs.length := by
  unfold cutV
  rw [List.length_take, List.length_drop]
  (first | lia | omega)
noncomputable def rSlT (K : PySem.W.Frag) : V → Option Int → Option Int → Hp → VK → Prop := fun x lo hi H Q => ∃ a xs, x = .ref a ∧ SqT K H a xs ∧
  ¬ (HT.sIx xs.length 0 lo = 0 ∧ HT.sIx xs.length xs.length hi = xs.length) ∧ ∀ p, H p = none → Q (.ref p) (upd H p (.tup (cutV xs lo hi)))

noncomputable def rLtT (K : PySem.W.Frag) : R2 := fun x y H Q => ∃ a b ns ms, x = .ref a ∧ y = .ref b ∧ SqT K H a (ns.map V.int) ∧ SqT K H b (ms.map V.int) ∧ Q (.bl (HT.lexLt ns ms)) H
noncomputable def rCatT (K : PySem.W.Frag) : R2 := fun x y H Q => ∃ a b xs ys, x = .ref a ∧ y = .ref b ∧ SqT K H a xs ∧ SqT K H b ys ∧ xs ≠ [] ∧ xs.length + ys.length ≤ sizeLine ∧
  (ys = [] → Q (.ref a) H) ∧ (ys ≠ [] → ∀ p, H p = none → Q (.ref p) (upd H p (.tup (xs ++ ys))))
end
end L2

namespace L2
open PySem PySem.Spec PyProof.Rows

noncomputable def ixN (n : Nat) (i : Int) : Option Nat := if 0 ≤ i then (if i < n then some i.toNat else none) else if -(n : Int) ≤ i then some (i + n).toNat else none
noncomputable def atI {α : Type} (xs : List α) (i : Int) : Option α := (ixN xs.length i).bind fun j => xs[j]?
theorem ixN_seq {n : Nat} {i : Int} {j : Nat} (h : ixN n i = some j) : seqIndex? i n = some j ∧ j < n ∧ -(n : Int) ≤ i ∧ i < n := by
  unfold ixN at h
  by_cases h0 : 0 ≤ i
  · rw [if_pos h0] at h
    by_cases h1 : i < n
    · rw [if_pos h1] at h
      have e : i.toNat = j := Option.some.inj h
      exact ⟨by rw [seqIndex_of h0 h1, e], by (first | lia | omega), by (first | lia | omega), h1⟩
    · rw [if_neg h1] at h; cases h
  · rw [if_neg h0] at h
    by_cases h1 : -(n : Int) ≤ i
    · rw [if_pos h1] at h
      have e : (i + n).toNat = j := Option.some.inj h
      exact ⟨by rw [seqIndex_neg (by (first | lia | omega)) h1, e], by (first | lia | omega), h1, by (first | lia | omega)⟩
    · rw [if_neg h1] at h; cases h
theorem atI_get {α : Type} {xs : List α} {i : Int} {v : α} (h : atI xs i = some v) : ∃ j, seqIndex? i xs.length = some j ∧ xs[j]? = some v ∧ j < xs.length ∧ -(xs.length : Int) ≤ i ∧ i < xs.length := by
  unfold atI at h
  cases e : ixN xs.length i with
  | none => rw [e] at h; cases h
  | some j =>
    rw [e] at h
    obtain ⟨h1, h2, h3, h4⟩ := ixN_seq e
    exact ⟨j, h1, h, h2, h3, h4⟩
theorem atI_nat {α : Type} {xs : List α} {j : Nat} {v : α} (h : xs[j]? = some v) : atI xs (j : Int) = some v := by
  have hj : j < xs.length := (List.getElem?_eq_some_iff.mp h).1
  have e : ixN xs.length (j : Int) = some j := by
    unfold ixN
    rw [if_pos (by (first | lia | omega)), if_pos (by (first | lia | omega))]; simp
  unfold atI; rw [e]; exact h
theorem atI_last {α : Type} (xs : List α) (v : α) : atI (xs ++ [v]) (-1) = some v := by
  have hl : (xs ++ [v]).length = xs.length + 1 := by simp
  have e : ixN (xs ++ [v]).length (-1) = some xs.length := by
    unfold ixN
    rw [hl, if_neg (by decide), if_pos (by (first | lia | omega))]
    congr 1
    (first | lia | omega)
  unfold atI
  rw [e]
  show (xs ++ [v])[xs.length]? = some v
  simp

noncomputable def PlainIx (b : Expr) : Prop := ∀ o i, subscripted b false o i = operate [o, i] (getItem o i)
noncomputable def IxR (X : Cx) (r : R2) : Prop :=
  ∀ (value slice : Expr) (pins : List (Addr × Obj)) (s : Shared) (σ : St) (H : Hp) (x y : V) (v u : Value) (Q : VK), Inv X pins σ H s → RelV x v → RelV y u → r x y H Q →
    subscripted slice false v u = operate [v, u] (getItem v u) → wpAny (model X.prog X.w) X.A (subscriptTail value slice v u) (EP X pins σ Q) X.xe s
noncomputable def MtR (X : Cx) (id : String) (r : V → List V → Hp → VK → Prop) : Prop :=
  ∀ (pins : List (Addr × Obj)) (s : Shared) (σ : St) (H : Hp) (x : V) (xs : List V) (v : Value) (us : List Value) (Q : VK), Inv X pins σ H s → RelV x v → Vals xs us → r x xs H Q →
    wpAny (model X.prog X.w) X.A (call (.builtin id) (v :: us)) (EP X pins σ Q) X.xe s
section
variable {X : Cx} {a b : Expr} {ta tb : TE} {pos : Pos}
theorem pe_ix {r : R2} (hr : IxR X r) (ha : PE X a ta) (hb : PE X b tb) (hs : PlainIx b) : PE X (.Subscript a b pos) (tOp r ta tb) := by
  intro pins s σ H Q I h
  exact Subscript_ (binT ha hb I h fun v u s2 x y H2 I2 rx ry q => hr a b pins s2 σ H2 x y v u Q I2 rx ry q (hs _ _))

noncomputable def rIxL (K : PySem.W.Frag) : R2 := fun x y H Q => ∃ p xs i v, x = .ref p ∧ y = .int i ∧ SqL K H p xs ∧ atI xs i = some v ∧ Q v H
noncomputable def rIxT (K : PySem.W.Frag) : R2 := fun x y H Q => ∃ p xs i v, x = .ref p ∧ y = .int i ∧ SqT K H p xs ∧ atI xs i = some v ∧ Q v H
noncomputable def rIxS : R2 := fun x y H Q => ∃ z i c, x = .str z ∧ y = .int i ∧ z.length ≤ sizeLine ∧ atI z.cps.toList i = some c ∧ Q (.str ⟨#[c]⟩) H
theorem ix_list : IxR X (rIxL X.K) := by
  intro value slice pins s σ H x y v u Q I rx ry h hs
  obtain ⟨p, xs, i, z, rfl, rfl, hq, he, q⟩ := h
  cases rx
  obtain ⟨t, rfl⟩ := ry
  obtain ⟨its, r, pl, hz⟩ := I.list hq
  obtain ⟨j, h1, h2, h3, h4, h5⟩ := atI_get he
  obtain ⟨w, ew, rw'⟩ := r.get h2
  have hl := r.length
  have hn := line63
  have fin : EP X pins σ Q w s := ⟨z, H, I, rw', q⟩
  by_cases h0 : 0 ≤ i
  · have hj : i.toNat = j := by
      rw [seqIndex_of h0 h5] at h1
      exact Option.some.inj h1
    exact item_listR pl.isList h0 (by (first | lia | omega)) (by rw [hj]; simpa using ew) fin hs
  · have hj : (i + (its.toArray.size : Int)).toNat = j := by
      rw [seqIndex_neg (by (first | lia | omega)) h4] at h1
      rw [List.size_toArray, ← hl]
      exact Option.some.inj h1
    exact subscriptTail_builtinR (x := w) pl.isList.typeIs slot_list_getitem.lookup
      (wpAny_getItem_list_neg (Q := fun r s' => r = w ∧ EP X pins σ Q r s') pl.isList (by (first | lia | omega)) (by rw [List.size_toArray] <;> (first | lia | omega)) (by (first | lia | omega)) (by rw [hj]; simpa using ew) ⟨rfl, fin⟩) hs
theorem ix_tup : IxR X (rIxT X.K) := by
  intro value slice pins s σ H x y v u Q I rx ry h hs
  obtain ⟨p, xs, i, z, rfl, rfl, hq, he, q⟩ := h
  cases rx
  obtain ⟨t, rfl⟩ := ry
  obtain ⟨its, r, pl, hz⟩ := I.tuple hq
  obtain ⟨j, h1, h2, h3, h4, h5⟩ := atI_get he
  obtain ⟨w, ew, rw'⟩ := r.get h2
  have hl := r.length
  have hn := line63
  have fin : EP X pins σ Q w s := ⟨z, H, I, rw', q⟩
  exact subscriptTail_builtinR (x := w) pl.typeIs slot_tuple_getitem.lookup
    (getItem_tuple (j := j) (Q := fun r s' => r = w ∧ EP X pins σ Q r s') pl (by (first | lia | omega)) (by (first | lia | omega)) (by rw [List.size_toArray, ← hl]; exact h1) (by simpa using ew) ⟨rfl, fin⟩) hs
noncomputable def rIx (K : PySem.W.Frag) : R2 := fun x y H Q => rIxL K x y H Q ∨ rIxT K x y H Q ∨ rIxS x y H Q

theorem mapSeq_set (its : List Value) (n j : Nat) (u : Value) : Obj.mapSeq (·.setIfInBounds j u) { cls := .type "list", data := .seq its.toArray n } = { cls := .type "list", data := .seq (its.set j u).toArray n } := by
  simp [Obj.mapSeq]
theorem Inv.lst {pins : List (Addr × Obj)} {σ : St} {H : Hp} {s : Shared} {p : Addr} {xs : List V} (I : Inv X pins σ H s) (h : H p = some (.lst xs)) :
    ∃ (its : List Value) (n : Nat), Vals xs its ∧ s.heap.get? p = some { cls := .type "list", data := .seq its.toArray n } ∧ xs.length ≤ sizeLine := by
  obtain ⟨z, its, n, r, e⟩ := I.hok p _ h
  exact ⟨its, n, r, e, z⟩
theorem Inv.lstUpd {pins : List (Addr × Obj)} {σ : St} {H : Hp} {s : Shared} {p : Addr} {xs ys : List V} {its its' : List Value} {n n' : Nat} {f : Obj → Obj} (I : Inv X pins σ H s) (h : H p = some (.lst xs))
    (ho : s.heap.get? p = some { cls := .type "list", data := .seq its.toArray n }) (hf : f { cls := .type "list", data := .seq its.toArray n } = { cls := .type "list", data := .seq its'.toArray n' }) (r : Vals ys its') (hz : ys.length ≤ sizeLine) (t : Nat) :
    Inv X pins σ (upd H p (.lst ys)) { s with heap := s.heap.update p f, toks := t } := by
  have e : (s.heap.update p f).get? p = some { cls := .type "list", data := .seq its'.toArray n' } := by
    rw [Heap.get?_update_self f ho (by rw [hf] <;> rfl), hf]
  refine I.write (x := p) (e := p) (by rw [h]; trivial) (.inl rfl) (fun b u hb q => (Heap.get?_update_other _ _ (Ne.symm hb)).trans q) ⟨_, e⟩ ?_
  exact ⟨hz, its', n', r, e⟩
noncomputable def rSetL : V → V → V → Hp → (Hp → Prop) → Prop := fun o i v H Q => ∃ p xs k j, o = .ref p ∧ i = .int k ∧ H p = some (.lst xs) ∧ ixN xs.length k = some j ∧ Q (upd H p (.lst (xs.set j v)))
theorem set_list : PSet X rSetL := by
  intro pins s σ H o i v ov iv u Q I ro ri rv h
  obtain ⟨p, xs, k, j, rfl, rfl, hp, hj, q⟩ := h
  cases ro
  obtain ⟨t, rfl⟩ := ri
  obtain ⟨its, n, r, ho, hz⟩ := I.lst hp
  obtain ⟨h1, h2, h3, h4⟩ := ixN_seq hj
  have hl := r.length
  have hn := line63
  have I' : Inv X pins σ (upd H p (.lst (xs.set j v))) { s with heap := s.heap.update p (Obj.mapSeq (·.setIfInBounds j u)) } :=
    I.lstUpd hp ho (mapSeq_set its n j u) (r.set rv j) (by rw [List.length_set]; exact hz) s.toks
  by_cases h0 : 0 ≤ k
  · have hk : k.toNat = j := by
      rw [seqIndex_of h0 h4] at h1
      exact Option.some.inj h1
    exact PySem.W.ki_setAt ho h0 (by (first | lia | omega)) (by rw [List.size_toArray, ← hl]; exact h4) (by rw [hk]; exact ⟨_, I', q⟩)
  · have hk : (k + (its.toArray.size : Int)).toNat = j := by
      rw [seqIndex_neg (by (first | lia | omega)) h3] at h1
      rw [List.size_toArray, ← hl]
      exact Option.some.inj h1
    exact PySem.W.ki_setBack ho (by (first | lia | omega)) (by rw [List.size_toArray, ← hl]; exact h3) (by (first | lia | omega)) (by rw [hk]; exact ⟨_, I', q⟩)

theorem slice_bounds (lo hi : Option Int) (n : Nat) : (sliceBounds lo hi none n).1 = ((HT.sIx n 0 lo : Nat) : Int) ∧ (sliceBounds lo hi none n).2.1 = ((HT.sIx n n hi : Nat) : Int) ∧ (sliceBounds lo hi none n).2.2 = 1 := by
  refine ⟨?_, ?_, rfl⟩
  · cases lo with
    | none => simp [sliceBounds, HT.sIx]
    | some i =>
      simp only [sliceBounds, HT.sIx, Option.getD_none, show (1 : Int) > 0 by decide, if_true]
      by_cases h : i < 0
      · simp only [h, if_true] <;> (first | lia | omega)
      · simp only [h, if_false] <;> (first | lia | omega)
  · cases hi with
    | none => simp [sliceBounds, HT.sIx]
    | some i =>
      simp only [sliceBounds, HT.sIx, Option.getD_none, show (1 : Int) > 0 by decide, if_true]
      by_cases h : i < 0
      · simp only [h, if_true] <;> (first | lia | omega)
      · simp only [h, if_false] <;> (first | lia | omega)
theorem slicePick_cut (its : List Value) (lo hi : Option Int) : slicePick its.toArray lo hi none = ((its.drop (HT.sIx its.length 0 lo)).take (HT.sIx its.length its.length hi - HT.sIx its.length 0 lo)).toArray := by
  obtain ⟨h1, h2, h3⟩ := slice_bounds lo hi its.toArray.size
  unfold slicePick
  rw [h1, h2, h3]
  simp only [sliceRange_one, pick_run, List.size_toArray] <;> rfl
noncomputable def rSlL (K : PySem.W.Frag) : V → Option Int → Option Int → Hp → VK → Prop := fun x lo hi H Q => ∃ a xs, x = .ref a ∧ SqL K H a xs ∧ ∀ p, H p = none → Q (.ref p) (upd H p (.lst (cutV xs lo hi)))
theorem sl_list : SlR X (rSlL X.K) := by
  intro pins s σ H x v vl vu lo hi sl Q I rx hs pl pu h
  obtain ⟨a, xs, rfl, hx, q⟩ := h
  cases rx
  obtain ⟨its, r, ht, hz⟩ := I.list hx
  have hlen := r.length
  refine ⟨"list", _, slot_list_getitem.lookup, ht.isList.typeIs, ?_⟩
  refine wpAny_getItem_list_slice ht.isList hs pl pu .none (by simp) ?_ (by rw [List.size_toArray] <;> (first | lia | omega))
  rw [slicePick_cut, ← hlen]
  refine ⟨.ref s.heap.objs.size, _, I.laid (t' := s.toks) (o := .lst (cutV xs lo hi)) (fun b ob q => Heap.get?_push_of_some _ q) (Nat.le_refl _) ?_, rfl, q _ (I.hok.fresh (Nat.le_refl _))⟩
  exact ⟨Nat.le_trans (cutV_length xs lo hi) hz, _, 0, (r.drop (HT.sIx xs.length 0 lo)).take (HT.sIx xs.length xs.length hi - HT.sIx xs.length 0 lo), Heap.get?_push_size _ rfl⟩

noncomputable def flatV : V → Bool
  | .non => true
  | .bl _ => true
  | .int _ => true
  | .str _ => true
  | _ => false
noncomputable def eqV : V → V → Bool
  | .non, .non => true
  | .bl a, .bl b => a == b
  | .bl a, .int b => (if a then 1 else 0) == b
  | .int a, .bl b => a == (if b then 1 else 0)
  | .int a, .int b => a == b
  | .str a, .str b => a == b
  | _, _ => false
noncomputable def eqU (x : V) (u : Value) : Bool := match u with
  | .none => eqV .non x
  | .bool b => eqV (.bl b) x
  | .int i _ => eqV (.int i) x
  | .str z _ => eqV (.str z) x
  | _ => false
noncomputable def inV (x : V) (xs : List V) : Bool := xs.any fun y => eqV y x
noncomputable def rIn (K : PySem.W.Frag) (neg : Bool) : R2 := fun x y H Q => ∃ p xs, y = .ref p ∧ (SqL K H p xs ∨ SqT K H p xs) ∧ flatV x = true ∧ xs.all flatV = true ∧ Q (.bl (if neg then !inV x xs else inV x xs)) H

theorem call_len_seq : CallR X (.builtin "len") (fun xs H Q => ∃ p ys, xs = [.ref p] ∧ (SqL X.K H p ys ∨ SqT X.K H p ys) ∧ Q (.int ys.length) H) := by
  intro pins s σ H xs us Q I r h
  obtain ⟨p, ys, rfl, hq, q⟩ := h
  obtain ⟨u, rfl, rx⟩ := vals1 r
  cases rx
  have hn := line63
  rcases hq with hq | hq
  · obtain ⟨its, r', pl, hz⟩ := I.list hq
    have hlen := r'.length
    exact Calls.call_len_list pl.isList (by simp only [List.size_toArray] <;> (first | lia | omega)) ⟨.int ys.length, H, I.tok _, ⟨s.toks + 1, by rw [List.size_toArray, hlen]⟩, q⟩
  · obtain ⟨its, r', pl, hz⟩ := I.tuple hq
    have hlen := r'.length
    exact len_tuple pl (by simp only [List.size_toArray] <;> (first | lia | omega)) ⟨.int ys.length, H, I.tok _, ⟨s.toks + 1, by rw [List.size_toArray, hlen]⟩, q⟩
theorem call_list_of : CallR X (.type "list") (fun xs H Q => ∃ p ys, xs = [.ref p] ∧ (SqL X.K H p ys ∨ SqT X.K H p ys) ∧ ∀ l, H l = none → Q (.ref l) (upd H l (.lst ys))) := by
  intro pins s σ H xs us Q I r h
  obtain ⟨p, ys, rfl, hq, q⟩ := h
  obtain ⟨u, rfl, rx⟩ := vals1 r
  cases rx
  have fin : ∀ (its : List Value), Vals ys its → ys.length ≤ sizeLine → ∀ (h' : Heap) (c' : Nat), (∀ b o', s.heap.get? b = some o' → h'.get? b = some o') →
      h'.get? s.heap.objs.size = some { cls := .type "list", dict := none, data := .seq its.toArray c', slots := #[] } → EP X pins σ Q (.ref s.heap.objs.size) { s with heap := h' } := fun its r' hz h' c' kp e =>
    ⟨.ref s.heap.objs.size, _, I.laid (t' := s.toks) kp (Nat.le_refl _) (show ObjOk X.prog X.w _ h' _ (.lst ys) from ⟨hz, its, c', r', e⟩), rfl, q _ (I.hok.fresh (Nat.le_refl _))⟩
  rcases hq with hq | hq
  · obtain ⟨its, r', pl, hz⟩ := I.list hq
    have hlen := r'.length
    obtain ⟨o, ho, hc, n, hd⟩ := pl.isList
    exact call_list_seq p (.inl rfl) ho hc hd (fun h' c' kp e => fin its r' hz h' c' kp e) (by simp only [List.size_toArray] <;> (first | lia | omega))
  · obtain ⟨its, r', pl, hz⟩ := I.tuple hq
    have hlen := r'.length
    obtain ⟨o, ho, hc, n, hd⟩ := pl
    exact call_list_seq p (.inr rfl) ho hc hd (fun h' c' kp e => fin its r' hz h' c' kp e) (by simp only [List.size_toArray] <;> (first | lia | omega))

noncomputable def tyV (K : PySem.W.Frag) (T : String) (x : V) (H : Hp) : Prop := match x with
  | .str _ => T = "str"
  | .int _ => T = "int"
  | .ref p => (T = "list" ∧ ∃ xs, SqL K H p xs) ∨ (T = "tuple" ∧ ∃ o, K.lookup p = some o ∧ o.cls = .type "tuple" ∧ o.dict = none) ∨
      (T = "dict" ∧ ((∃ kvs, H p = some (.dK kvs)) ∨ ∃ kvs, H p = some (.dT kvs))) ∨ (T = "set" ∧ ∃ S n, H p = some (.set S n))
  | _ => False
theorem tyV_is {pins : List (Addr × Obj)} {σ : St} {H : Hp} {s : Shared} {T : String} {x : V} {v : Value} (I : Inv X pins σ H s) (r : RelV x v) (ty : tyV X.K T x H) :
    s.TypeIs v T ∧ ∀ a, v = .ref a → ∃ ob, s.heap.get? a = some ob ∧ ob.dict = none := by
  cases x with
  | str z =>
    obtain ⟨t, rfl⟩ := r
    cases (show T = "str" from ty)
    exact ⟨typeIs_str s z t, fun _ e => nomatch e⟩
  | int i =>
    obtain ⟨t, rfl⟩ := r
    cases (show T = "int" from ty)
    exact ⟨typeIs_int s i t, fun _ e => nomatch e⟩
  | ref p =>
    cases r
    rcases ty with ⟨rfl, xs, hq⟩ | ⟨rfl, o, hk, hc, hd⟩ | ⟨rfl, hk⟩ | ⟨rfl, S, n, hk⟩
    · obtain ⟨its, _, pl, _⟩ := I.list hq
      refine ⟨pl.isList.typeIs, fun a e => ?_⟩
      cases e
      obtain ⟨o, n, e, c, hd, _⟩ := pl
      exact ⟨o, e, hd⟩
    · refine ⟨⟨o, I.kIn p o hk, hc⟩, fun a e => ?_⟩
      cases e
      exact ⟨o, I.kIn _ o hk, hd⟩
    · have z : ∃ o, s.heap.get? p = some o ∧ o.ExactDict := by
        rcases hk with ⟨kvs, hk⟩ | ⟨kvs, hk⟩
        · obtain ⟨_, _, _, _, o, _, _, e, ex, _⟩ := I.hok p _ hk
          exact ⟨o, e, ex⟩
        · obtain ⟨_, _, _, _, o, _, _, e, ex, _⟩ := I.hok p _ hk
          exact ⟨o, e, ex⟩
      obtain ⟨o, e, ex⟩ := z
      refine ⟨⟨o, e, ex.1⟩, fun a e2 => ?_⟩
      cases e2
      exact ⟨o, e, ex.2.1⟩
    · obtain ⟨o, _, _, _, e, ex, _⟩ := I.hok p _ hk
      refine ⟨⟨o, e, ex.1⟩, fun a e2 => ?_⟩
      cases e2
      exact ⟨o, e, ex.2.1⟩
  | _ => exact False.elim ty
noncomputable def tBM0 (K : PySem.W.Frag) (T : String) (r : V → List V → Hp → VK → Prop) (to : TE) : TE := fun σ H Q => to σ H fun x H1 => tyV K T x H1 ∧ r x [] H1 Q
noncomputable def tBM (K : PySem.W.Frag) (T : String) (r : V → List V → Hp → VK → Prop) (to : TE) (t : TA) : TE := fun σ H Q => to σ H fun x H1 => tyV K T x H1 ∧ t σ H1 fun xs H2 => r x xs H2 Q
variable {o e : Expr} {es : List Expr} {to : TE} {t : TA} {name : Str} {apos cpos : Pos} {T id : String} {r : V → List V → Hp → VK → Prop}
theorem pe_bm0 (pa : PlainAttrs T) (slot : Slot T name id) (hty : typeOf (.builtin id) = pure (.type "method_descriptor")) (hm : MtR X id r) (ho : PE X o to)
    (hbase : attributeBase o name X.env (eval o X.env) = eval o X.env := by rfl) (hline : (apos.endLine == cpos.line) = true := by rfl) : PE X (.Call (.Attribute o name apos) [] [] cpos) (tBM0 X.K T r to) := by
  intro pins s σ H Q I h
  refine wpAny_Call_method0_late hbase hline (thn (ho pins s σ H _ I h) fun v s1 ⟨x, H1, I1, r1, ty, q1⟩ => ?_)
  obtain ⟨h1, h2⟩ := tyV_is I1 r1 ty
  exact ⟨T, id, pa, slot, hty, h1, h2, Calls.callWith_builtin rfl (PySem.evalArgs_none (hm pins s1 σ H1 x [] v [] Q I1 r1 .nil q1))⟩
theorem pe_bm (pa : PlainAttrs T) (slot : Slot T name id) (hty : typeOf (.builtin id) = pure (.type "method_descriptor")) (hm : MtR X id r) (ho : PE X o to) (ha : PA X (e :: es) t)
    (hbase : attributeBase o name X.env (eval o X.env) = eval o X.env := by rfl)
    (hfew : ((backTo cpos (starEach (e :: es) X.env)).all (fun x => !x.1) && (backToKw cpos (keywordEach [] X.env)).all (fun x => x.1.isSome)
      && decide ((e :: es).length + ([] : List Keyword).length + (if ([] : List Keyword).isEmpty then 0 else 1) < 30)) = true := by rfl)
    (hline : (apos.endLine == cpos.line) = true := by rfl) (hs : starEach (e :: es) X.env = (false, eval e X.env) :: starEach es X.env := by rfl) (hplain : (backTo cpos (starEach es X.env)).any (·.1) = false := by rfl) :
    PE X (.Call (.Attribute o name apos) (e :: es) [] cpos) (tBM X.K T r to t) := by
  intro pins s σ H Q I h
  refine wpAny_Call_method_late hbase hfew hline rfl (thn (ho pins s σ H _ I h) fun v s1 ⟨x, H1, I1, r1, ty, q1⟩ => ?_)
  obtain ⟨h1, h2⟩ := tyV_is I1 r1 ty
  refine ⟨T, id, pa, slot, hty, h1, h2, ?_⟩
  have hA := ha cpos pins s1 σ H1 _ I1 q1
  rw [hs] at hA ⊢
  refine Calls.callWith_builtin (by show (false || (backTo cpos (starEach es X.env)).any (·.1)) = false; rw [hplain] <;> rfl) (Calls.evalArgs_plain ?_)
  exact thn hA fun us s2 ⟨vs, H2, I2, r2, q2⟩ => hm pins s2 σ H2 x vs v us Q I2 r1 r2 q2
/- xs.append(e), list.index on a module's tuple .. are MtR facts of 06m -/
end
end L2

namespace L2
open PySem PySem.Spec PyProof.Rows

noncomputable def MtM (X : Cx) (id : String) (r : V → List V → Hp → VK → Prop) : Prop :=
  ∀ (pins : List (Addr × Obj)) (s : Shared) (σ : St) (H : Hp) (x : V) (xs : List V) (v : Value) (us : List Value) (Q : VK), Inv X pins σ H s → RelV x v → Vals xs us → r x xs H Q →
    wpAny (model X.prog X.w) X.A (call (.builtin id) (v :: us)) (EP X pins σ Q) X.xe s

theorem Vals.one : ∀ {x : V} {us : List Value}, Vals [x] us → ∃ u, us = [u] ∧ RelV x u
  | _, _, .cons r .nil => ⟨_, rfl, r⟩
theorem Vals.zero : ∀ {us : List Value}, Vals [] us → us = []
  | _, .nil => rfl
theorem Vals.dropLast {xs : List V} {us : List Value} (h : Vals xs us) : Vals xs.dropLast us.dropLast := by
  induction h with
  | nil => exact .nil
  | cons r t ih =>
    cases t with
    | nil => exact .nil
    | cons q t' => exact .cons r ih
theorem Vals.reverse {xs : List V} {us : List Value} (h : Vals xs us) : Vals xs.reverse us.reverse := by
  induction h with
  | nil => exact .nil
  | cons r t ih => rw [List.reverse_cons, List.reverse_cons]; exact Vals.append ih (.cons r .nil)
theorem erase_last {α : Type} (l : List α) : l.eraseIdx (l.length - 1) = l.dropLast := by
  induction l with
  | nil => rfl
  | cons a r ih =>
    cases r with
    | nil => rfl
    | cons b r =>
      have e : (a :: b :: r).length - 1 = ((b :: r).length - 1) + 1 := by
        have h1 : (a :: b :: r).length = r.length + 2 := rfl
        have h2 : (b :: r).length = r.length + 1 := rfl
        (first | lia | omega)
      rw [e, List.eraseIdx_cons_succ, ih]
      all_goals rfl

section
variable {X : Cx} {pins : List (Addr × Obj)} {σ : St} {H : Hp} {s : Shared} {l b : Addr} {xs ys zs : List V}

theorem Inv.lset {its its' : List Value} {n : Nat} {f : Array Value → Array Value} {t' : Nat} (I : Inv X pins σ H s) (hH : H l = some (.lst xs))
    (e : s.heap.get? l = some { cls := .type "list", data := .seq its.toArray n }) (hf : f its.toArray = its'.toArray) (hv : Vals ys its') (hz : ys.length ≤ sizeLine) :
    Inv X pins σ (upd H l (.lst ys)) { s with heap := s.heap.update l (Obj.mapSeq f), toks := t' } := by
  have q := PySem.IsL.update e f
  rw [hf] at q
  refine I.write (x := l) (e := l) (by rw [hH]; exact trivial) (.inl rfl) (fun b' u hb hu => (Heap.get?_update_other s.heap (Obj.mapSeq f) (Ne.symm hb)).trans hu) ⟨_, q⟩ ?_
  exact ⟨hz, its', _, hv, q⟩
theorem Inv.lnew {its : List Value} {t' : Nat} (I : Inv X pins σ H s) (hv : Vals ys its) (hz : ys.length ≤ sizeLine) :
    Inv X pins σ (upd H s.heap.objs.size (.lst ys)) { s with heap := s.heap.push { cls := .type "list", data := .seq its.toArray }, toks := t' } :=
  I.laid (fun _ _ q => Heap.get?_push_of_some _ q) (Nat.le_refl _) ⟨hz, its, 0, hv, Heap.get?_push_size _ rfl⟩
theorem Inv.fresh (I : Inv X pins σ H s) : H s.heap.objs.size = none := I.hok.fresh (Nat.le_refl _)
theorem Inv.lstM (I : Inv X pins σ H s) (hH : H l = some (.lst xs)) : xs.length ≤ sizeLine ∧ ∃ (its : List Value) (n : Nat), Vals xs its ∧ xs.length = its.length ∧ s.heap.get? l = some { cls := .type "list", data := .seq its.toArray n } := by
  obtain ⟨z, its, n, r, e⟩ := I.hok l _ hH
  exact ⟨z, its, n, r, r.length, e⟩

end

section
variable {X : Cx}

noncomputable def rAppend : V → List V → Hp → VK → Prop := fun x vs H Q => ∃ l xs y, x = .ref l ∧ vs = [y] ∧ H l = some (.lst xs) ∧ xs.length < sizeLine ∧ Q .non (upd H l (.lst (xs ++ [y])))
theorem mt_append : MtM X "list.append" rAppend := by
  intro pins s σ H x vs v us Q I rx rv h
  obtain ⟨l, xs, y, rfl, rfl, hH, hz, q⟩ := h
  cases rx
  obtain ⟨u, rfl, ru⟩ := rv.one
  obtain ⟨z, its, n, r, hl, e⟩ := I.lstM hH
  refine call_meets F.slot_list_append ⟨_, e, rfl⟩ F.entry_list_append (F.args_list_append_2 _ _) (PySem.list_append l its.toArray n u (by rw [List.size_toArray]; (first | lia | omega))) ⟨e, ?_⟩
  refine ⟨.non, _, I.lset (its' := its ++ [u]) hH e (by simp) (r.append (.cons ru .nil)) ?_, rfl, q⟩
  rw [List.length_append, List.length_singleton]
  (first | lia | omega)

noncomputable def rExtend : V → List V → Hp → VK → Prop := fun x vs H Q => ∃ l b xs zs, x = .ref l ∧ vs = [.ref b] ∧ H l = some (.lst xs) ∧ H b = some (.lst zs) ∧ xs.length + zs.length ≤ sizeLine ∧ Q .non (upd H l (.lst (xs ++ zs)))

noncomputable def rPop : V → List V → Hp → VK → Prop := fun x vs H Q => ∃ l xs y, x = .ref l ∧ vs = [] ∧ H l = some (.lst xs) ∧ xs[xs.length - 1]? = some y ∧ Q y (upd H l (.lst xs.dropLast))
theorem mt_pop : MtM X "list.pop" rPop := by
  intro pins s σ H x vs v us Q I rx rv h
  obtain ⟨l, xs, y, rfl, rfl, hH, hy, q⟩ := h
  cases rx
  have hus := rv.zero
  subst hus
  obtain ⟨z, its, n, r, hl, e⟩ := I.lstM hH
  obtain ⟨u, hu, ru⟩ := r.get hy
  have hy' : its.toArray[its.toArray.size - 1]? = some u := by
    show its.toArray[its.length - 1]? = some u
    rw [← Array.getElem?_toList, ← hl]
    exact hu
  refine call_meets F.slot_list_pop ⟨_, e, rfl⟩ F.entry_list_pop (F.args_list_pop_1 _) (MeetsSeq.list_pop_last l its.toArray n u hy' (by rw [List.size_toArray]; (first | lia | omega))) ⟨e, ?_⟩
  refine ⟨y, _, I.lset (its' := its.dropLast) hH e ?_ r.dropLast ?_, ru, q⟩
  · show its.toArray.eraseIdxIfInBounds (its.toArray.size - 1) = its.dropLast.toArray
    rw [List.size_toArray, List.eraseIdxIfInBounds_toArray, erase_last]
  · rw [List.length_dropLast]
    (first | lia | omega)

noncomputable def rPopAt : V → List V → Hp → VK → Prop := fun x vs H Q => ∃ l xs i k y, x = .ref l ∧ vs = [.int i] ∧ H l = some (.lst xs) ∧ -(2 ^ 63) ≤ i ∧ i < 2 ^ 63 ∧ seqIndex? i xs.length = some k ∧ xs[k]? = some y ∧ Q y (upd H l (.lst (xs.eraseIdx k)))

noncomputable def rReverse : V → List V → Hp → VK → Prop := fun x vs H Q => ∃ l xs, x = .ref l ∧ vs = [] ∧ H l = some (.lst xs) ∧ Q .non (upd H l (.lst xs.reverse))
theorem mt_reverse : MtM X "list.reverse" rReverse := by
  intro pins s σ H x vs v us Q I rx rv h
  obtain ⟨l, xs, rfl, rfl, hH, q⟩ := h
  cases rx
  have hus := rv.zero
  subst hus
  obtain ⟨z, its, n, r, hl, e⟩ := I.lstM hH
  refine call_meets F.slot_list_reverse ⟨_, e, rfl⟩ F.entry_list_reverse (F.args_list_reverse_1 _) (AutoSeq1.list_reverse_list_0 l its.toArray n (by rw [List.size_toArray]; (first | lia | omega))) ⟨e, ?_⟩
  refine ⟨.non, _, I.lset (its' := its.reverse) hH e (by simp) r.reverse ?_, rfl, q⟩
  rw [List.length_reverse]
  (first | lia | omega)

noncomputable def rClear : V → List V → Hp → VK → Prop := fun x vs H Q => ∃ l xs, x = .ref l ∧ vs = [] ∧ H l = some (.lst xs) ∧ Q .non (upd H l (.lst []))

noncomputable def rCat : R2 := fun x y H Q => ∃ l b xs zs, x = .ref l ∧ y = .ref b ∧ H l = some (.lst xs) ∧ H b = some (.lst zs) ∧ xs.length + zs.length ≤ sizeLine ∧ ∀ p, H p = none → Q (.ref p) (upd H p (.lst (xs ++ zs)))
theorem op_cat : OpR X (binaryOp .Add) rCat := by
  intro pins s σ H x y v u Q I rx ry h
  obtain ⟨l, b, xs, zs, rfl, rfl, hH, hB, hz, q⟩ := h
  cases rx
  cases ry
  obtain ⟨z, its, n, r, hl, e⟩ := I.lstM hH
  obtain ⟨z2, its2, n2, r2, hl2, e2⟩ := I.lstM hB
  refine PySem.P.add_list e e2 ?_ (by rw [List.size_toArray, List.size_toArray]; (first | lia | omega))
  have ea : its.toArray ++ its2.toArray = (its ++ its2).toArray := by simp
  rw [ea]
  exact ⟨.ref _, _, I.lnew (t' := s.toks) (r.append r2) (by rw [List.length_append]; (first | lia | omega)), rfl, q _ I.fresh⟩
noncomputable def rRep : R2 := fun x y H Q => ∃ l k xs, x = .ref l ∧ y = .int k ∧ H l = some (.lst xs) ∧ -(2 ^ 63) ≤ k ∧ k < 2 ^ 63 ∧ xs.length * k.toNat ≤ sizeLine ∧
  ∀ p, H p = none → Q (.ref p) (upd H p (.lst (List.replicate k.toNat xs).flatten))

end

section
variable {prog : Program} {w : World} {A : Around} {E : Value → Shared → Prop} {s : Shared}
set_option maxRecDepth 100000 in
end

section
variable {X : Cx}
end
end L2

namespace Att
open PySem PySem.W PySem.Calls PyProof.Rows

theorem ints_of_wellAll {P : Params} {h : Heap} : ∀ (ns : List Int) (vs : List Value), WellAll P h vs (ns.map WData.int) → IntsAre vs ns := by
  intro ns
  induction ns with
  | nil =>
    intro vs w
    rw [List.map_nil] at w
    cases w
    exact .nil
  | cons n ns ih =>
    intro vs w
    rw [List.map_cons] at w
    cases w with
    | cons a b =>
      cases a
      exact .cons _ _ (ih _ b)

theorem script_of {l : OpenLaw} {n : Nat} (hn : l.most = some n) {P : Params} {h : Heap} {args : List WData} {vals : List Value}
    (hpre : l.row.toRowW.claim.pre args = true) (hwl : WellAll P h vals args) :
    ∃ a vs ns, vals = [Value.ref a] ∧ args = [WData.list (ns.map WData.int)] ∧ h.get? a = some { cls := .type "list", data := .seq vs.toArray } ∧ IntsAre vs ns ∧ ns.length ≤ n := by
  have hsh : WShape.hasAll [] args [.list .int] = true := (pre_splitW hpre).1
  have hc : l.pre.holds [] { args := args } = true := (pre_splitW hpre).2
  obtain ⟨d, r, rfl, h1, h2⟩ := hasAllW_cons hsh
  obtain rfl := hasAllW_nil h2
  obtain ⟨xs, rfl, h3⟩ := hasW_list h1
  obtain ⟨ns, rfl⟩ := items_int h3
  have hlen : ns.length ≤ n := by
    unfold OpenLaw.pre at hc
    have h4 : (WTm.not (.lt (.lit (.int (n : Int))) (.len (.arg 0)))).holds [] { args := [.list (ns.map .int)] } = true := by
      have h4 := (holds_andW hc).1
      rw [hn] at h4
      exact h4
    have h5 := condW_of h4 (w_not (w_lt w_lit (w_len_list (w_arg rfl))))
    rw [List.length_map] at h5
    refine Nat.le_of_not_lt fun q => ?_
    have q' : (n : Int) < ((ns.length : Nat) : Int) := by (first | lia | omega)
    first
      | (rw [decide_eq_true q'] at h5; exact absurd h5 (by decide))
      | (simp at h5; (first | lia | omega))
  cases hwl with
  | cons w1 w2 =>
    cases w2
    cases w1 with
    | list ho hall => exact ⟨_, _, ns, rfl, rfl, ho, ints_of_wellAll ns _ hall, hlen⟩

theorem post_true (l : OpenLaw) (args : List WData) : l.row.toRowW.claim.post args (.bool true) args = true :=
  postW_of (r := l.row.toRowW) (X := (true == true))
    (show WShape.has [] (.bool true) .bool = true by first | rfl | decide | simp [WShape.has, WShape.arms, WShape.armsAll])
    (show (WTm.eq .res (.lit (.bool true))).value [] { args := args, res := some (.bool true), after := args } = some (.bool (true == true)) from w_eq_bool (w_res rfl) w_lit) rfl


theorem attach_call {l : OpenLaw} {n : Nat} {q : Program} {loose : List Str} {XP : (Str → Option Value) → Heap → Prop} {YP : World → Heap → Prop} {d : DefRec}
    (hn : l.most = some n) (hdf : d.params.defaults = [])
    (call : ∀ (w : World) (s₀ s₁ : Shared) (mg mb : Str → Option Value) (fa : Addr) (o : Obj) (pm cd doc : Value) (a : Addr) (vs : List Value) (ns : List Int),
      Ground q loose [] XP w s₀ mg mb s₁.heap → YP w s₁.heap →
      s₁.heap.get? fa = some o → o.data = .func (docDef d.name d.params d.body d.scope pm cd doc) → s₁.heap.CodeRec cd d.name → mg d.name = some (.ref fa) →
      s₁.heap.get? a = some { cls := .type "list", data := .seq vs.toArray } → IntsAre vs ns → ns.length ≤ n → s₁.gens = #[] →
      codeAny (model l.prog w) callerA (.call (.ref fa) ⟨[.ref a], []⟩) (fun r s' => r = .ok (.ret (.bool true)) ∧ OldK s₁.heap s'.heap ∧ s'.os = s₁.os ∧ AllBare s'.gens) s₁) :
    WalkO q loose XP YP l.row.toRowW d [] (fun f vs => PySem.call f vs) := by
  intro w s₀ s₁ mg mb G Y fa o pm cd doc dV kV ho hd hcd hD hmg hg args vals as hpre hlay hrd hwl hlo
  obtain rfl : dV = .none := Dflts.none hD hdf
  obtain rfl : kV = .none := Dflts.noKw hD
  obtain ⟨a, vs, ns, rfl, rfl, hobj, hints, hlen⟩ := script_of hn hpre hwl
  refine enter_call (codeAny_mono (call w s₀ s₁ mg mb fa o pm cd doc a vs ns G Y ho (fd_plain hd) hcd hmg hobj hints hlen hg) fun r s' hq => ?_)
  obtain ⟨rfl, h2, h3, h4⟩ := hq
  exact ⟨.inl ⟨.bool true, .bool true, [], rfl, fun _ => rfl, .bool true, post_true l _, fun _ => ⟨List.Pairwise.nil, fun _ hm => (nomatch hm)⟩⟩, h2, h3, h4⟩


section
variable {prog : Program} {w : World} {A : Around} {E : Value → Shared → Prop} {s : Shared} {K : Frag}





noncomputable def noObjs (h : Heap) : Heap := { h with objs := #[] }
noncomputable def ledger (h : Heap) (L d : Addr) : List (Addr × Obj) := (List.range h.objs.size).filterMap fun a => if a = L ∨ a = d then none else (h.get? a).map fun o => (a, o)

end
end Att

namespace L2
open PySem PySem.Spec PyProof.Rows

theorem vals_ints : ∀ {vs : List Value} {ns : List Int}, IntsAre vs ns → Vals (ns.map V.int) vs
  | _, _, .nil => .nil
  | _, _, .cons n t h => .cons ⟨t, rfl⟩ (vals_ints h)

noncomputable def Only (H : Hp) : Prop := ∀ b, H b = none ∨ ∃ o xs, H b = some (.frz o (.lst xs))

theorem law_call {P : Program} {w : World} {K : PySem.W.Frag} {mg mb : Str → Option Value} {CX : CXT} {k : Nat} {fa a : Addr} {fd : FuncData} {x : Str} {sp : Sp} {s₁ : Shared} {vs : List Value} {ns : List Int}
    (KX : K.In s₁.heap) (hns : s₁.heap.Ns mainGlobals mg) (hb : s₁.heap.Ns builtinsNs mb) (hbb : ∀ x : Str, x ≠ "__name__" → mb x = bootBuiltins x) (hlim : s₁.heap.NoLimit) (hg : s₁.gens = #[])
    (ha : s₁.heap.get? a = some { cls := .type "list", data := .seq vs.toArray }) (hi : IntsAre vs ns) (hl : ns.length ≤ sizeLine) (hr : Room k callerA)
    (F : ∀ base : Heap, K.In base → base.Ns mainGlobals mg → FnOk P w K mg base CX k fa fd [x] sp) (hbind : ∀ (s : Shared) (u : Value), BindsTo s fd ⟨[u], []⟩ [(x, u)])
    (hsp : ∀ H : Hp, Only H → SqL K H a (ns.map V.int) → sp [.ref a] H (fun v _ => v = .bl true) fun _ _ _ => False)
    (hCX : ∀ H e s', CX [] H s₁ (fun _ _ _ => False) e s' → False) :
    codeAny (model P w) callerA (.call (.ref fa) ⟨[.ref a], []⟩) (fun r s' => r = .ok (.ret (.bool true)) ∧ OldK s₁.heap s'.heap ∧ s'.os = s₁.os ∧ AllBare s'.gens) s₁ := by
  have rv := vals_ints hi
  have lenV := hi.length
  -- from an abstract heap in which nothing but the script may be tracked
  have core : ∀ H : Hp, Only H → SqL K H a (ns.map V.int) → HOk P w H s₁.heap → (∀ b, H b ≠ none → b = a) → (H a ≠ none → K.lookup a = none) →
      codeAny (model P w) callerA (.call (.ref fa) ⟨[.ref a], []⟩) (fun r s' => r = .ok (.ret (.bool true)) ∧ OldK s₁.heap s'.heap ∧ s'.os = s₁.os ∧ AllBare s'.gens) s₁ := by
    intro H hO hS hok hA hK
    have base_of : ∀ {b : Addr} {o : Obj}, s₁.heap.get? b = some o → H b = none → (hidT s₁.heap H).get? b = some o := fun e n => hidT_get e n
    have noA : ∀ {b : Addr} {o : Obj} {es : Array DictEntry} {ep : Nat}, s₁.heap.get? b = some o → o.data = .dict es ep → H b = none := fun {b o es ep} e d => by
      cases q : H b with
      | none => rfl
      | some u =>
        have e' : b = a := hA b (by rw [q]; simp)
        subst e'
        rw [ha] at e; cases e
        have d' : Data.seq vs.toArray _ = Data.dict es ep := d
        cases d'
    have nsK : ∀ {b : Addr} {m : Str → Option Value}, s₁.heap.Ns b m → (hidT s₁.heap H).Ns b m := fun {b m} ⟨o, es, ep, e, d, r⟩ => ⟨o, es, ep, base_of e (noA e d), d, r⟩
    have hKb : K.In (hidT s₁.heap H) := fun b o e => base_of (KX b o e) (by
      cases q : H b with
      | none => rfl
      | some u =>
        have e' : b = a := hA b (by rw [q]; simp)
        subst e'
        rw [hK (by rw [q]; simp)] at e; cases e)
    have hM : Mod K mg (hidT s₁.heap H) := ⟨hKb, nsK hns, ⟨mb, nsK hb, hbb⟩, let ⟨mc, h1, h2⟩ := hlim; ⟨mc, nsK h1, h2⟩⟩
    have e0 : Env0 P w K mg (hidT s₁.heap H) callerA [] s₁ H := ⟨rfl, hM, fun b o e => of_hidT e, Nat.le_of_eq (hidT_size _ _), trivial, fun b hb => absurd (show b ∈ ([] : List Addr) from hb) (by simp), hok, .of_eq hg⟩
    refine codeAny_mono ((F _ hKb (nsK hns)).run callerA [] s₁ H ⟨[.ref a], []⟩ [.ref a] [.ref a] _ _ hr e0 (hbind s₁ (.ref a)) (.cons rfl .nil) (hsp H hO hS)) fun r s' h => ?_
    cases r with
    | error e => exact (hCX H e s' h).elim
    | ok fl =>
      cases fl with
      | next => exact False.elim h
      | brk => exact False.elim h
      | cont => exact False.elim h
      | ret u =>
        obtain ⟨v, H', os, bare, un, hok', r', q⟩ := h
        have q' : v = .bl true := q
        subst q'
        obtain rfl : u = Value.bool true := r'
        refine ⟨rfl, OldK.of_keep fun b o e => ?_, os, bare⟩
        cases q : H b with
        | none => exact un.keep b o e q (by intro z; exact absurd (show b ∈ ([] : List Addr) from z) (by simp)) (by simp)
        | some u =>
          rcases hO b with z | ⟨ob, xs, z⟩
          · rw [q] at z; cases z
          · have z2 := un.frzs b ob _ z
            obtain ⟨e1, _⟩ := hok b _ z
            obtain ⟨e2, _⟩ := hok' b _ z2
            rw [e] at e1; cases e1
            exact e2
  cases hk : K.lookup a with
  | some o =>
    -- the script is one of the module's own objects
    have e := KX a o hk
    rw [ha] at e
    cases e
    refine core (fun _ => none) (fun _ => .inl rfl) (.inr ⟨_, vs.toArray, _, hk, rfl, rfl, rfl, by rw [List.size_toArray, lenV]; exact hl, by simpa using rv⟩) (fun b u z => by have z' : (none : Option HO) = some u := z; cases z') (fun b z => absurd rfl z) fun z => absurd rfl z
  | none =>
    refine core (fun b => if b = a then some (.frz { cls := .type "list", data := .seq vs.toArray } (.lst (ns.map V.int))) else none) (fun b => ?_) (.inl (.inr ⟨{ cls := .type "list", data := .seq vs.toArray }, if_pos rfl⟩)) (fun b u z => ?_) (fun b z => ?_) fun _ => hk
    · by_cases hb : b = a
      · exact .inr ⟨_, _, if_pos hb⟩
      · exact .inl (if_neg hb)
    · by_cases hb : b = a
      · have z' := (if_pos hb).symm.trans z
        cases z'
        subst hb
        exact ⟨ha, by rw [List.length_map]; exact hl, vs, _, rv, ha⟩
      · have z' := (if_neg hb).symm.trans z
        cases z'
    · by_cases hb : b = a
      · exact hb
      · exact absurd (if_neg hb) z
end L2

namespace L2
open PySem PySem.Spec PyProof.Rows

noncomputable abbrev KOf {K : PySem.W.Frag} {h : Heap} (_ : K.In h) : PySem.W.Frag := K

theorem walk_of {l : PySem.W.OpenLaw} {n k : Nat} {q : Program} {loose : List Str} {XP : (Str → Option Value) → Heap → Prop} {YP : World → Heap → Prop} {d : DefRec} {K : Params → PySem.W.Frag} {CX : World → CXT} {sp : World → Sp} {x : Str}
    (hn : l.most = some n) (hn2 : n ≤ sizeLine) (hdf : d.params.defaults = []) (hr : Room k callerA)
    (hY : ∀ (w : World) (h : Heap), YP w h → (K w.params).In h)
    (F : ∀ (w : World) (mg : Str → Option Value) (fa : Addr) (h : Heap), (K w.params).In h → h.Ns mainGlobals mg → mg d.name = some (.ref fa) →
      ∃ fd : FuncData, (∀ (s : Shared) (u : Value), BindsTo s fd ⟨[u], []⟩ [(x, u)]) ∧
        ∀ base : Heap, (K w.params).In base → base.Ns mainGlobals mg → FnOk l.prog w (K w.params) mg base (CX w) k fa fd [x] (sp w))
    (hsp : ∀ (w : World) (H : Hp) (a : Addr) (ns : List Int), ns.length ≤ n → Only H → SqL (K w.params) H a (ns.map V.int) → sp w [.ref a] H (fun v _ => v = .bl true) fun _ _ _ => False)
    (hCX : ∀ (w : World) (H : Hp) (s : Shared) (e : Value) (s' : Shared), CX w [] H s (fun _ _ _ => False) e s' → False) :
    PySem.W.WalkO q loose XP YP l.row.toRowW d [] (fun f vs => PySem.call f vs) := by
  refine Att.attach_call hn hdf fun w s₀ s₁ mg mb fa o pm cd doc a vs ns G Y ho hd hcd hmg hobj hints hlen hg => ?_
  have KX := hY w _ Y
  obtain ⟨fd, hb, hF⟩ := F w mg fa _ KX G.T.g hmg
  exact law_call KX G.T.g G.T.b G.T.builtins G.T.nolimit hg hobj hints (Nat.le_trans hlen hn2) hr hF hb (fun H hO hS => hsp w H a ns hlen hO hS) fun H e s' => hCX w H s₁ e s'
end L2

/- THE LAST THEOREM (shape; LID, My.* are yours):
   My.Adr: a structure of the addresses that your layer names (classes, functions); My.Txt K t: a structure (Prop) of the equations over K;
   My.txt_mk : {K} {implicit addresses ..} (e1 : nsIn K mainGlobals "law" = some (some (.ref f))) (e2 : K.lookup f = some ⟨oc, od, .func (fnOf "law" "law" params body scope dV kV doc pm an cdv ct), sl⟩) (e3 : codeIn K cdv "law" = true) .. : ∃ t, My.Txt K t

set_option maxRecDepth 100000 in
set_option maxHeartbeats 0 in
theorem PySem.Challenge.cw_LID_holds : PySem.Challenge.rw_LID.Holds := by
  w_on; o_law; k_head; (case hw => w_witness2)
  k_fill
  refine L2.walk_of (l := PySem.Challenge.rw_LID) (n := 63) (k := 40) (x := "script") (CX := fun w => ..) (sp := fun _ => My.sp_law) rfl (by decide) rfl ⟨rfl, by decide, by decide⟩ (fun w h Y => PySem.W.kIn_of Y) ?F ?S ?C
  case F =>
    intro w mg fa h KX G hmg
    have T : ∃ t, My.Txt (L2.KOf KX) t := by
      dsimp only [L2.KOf]                          -- K must stand as «<heap const> w.params» for k_is
      refine' My.txt_mk ?e1 ?e2 ?e3 ..
      (case e1 => PySem.W.k_is)                    -- in the order: a name -> its address -> its object -> its parts
      (case e2 => PySem.W.k_is)
      ..
    obtain ⟨t, T⟩ := T
    have e0 := hmg.symm.trans (PySem.W.mg_of KX G T.law)
    cases e0                                       -- fa is the law's own address
    exact ⟨_, fun s u => .of_eq rfl, fun base kb nb => My.law_fn T kb nb⟩     -- if «.of_eq rfl» comes too early: refine' ⟨_, ?b, fun base kb nb => My.law_fn T kb nb⟩; exact fun s u => .of_eq rfl
  case S => exact fun w H a ns hl hO hS => ..
  case C => exact ..
(the tactic k_is has no namespace: write k_is) -/

namespace L2
open PySem PySem.Spec PyProof.Rows

noncomputable def inClass (s : Stmt) (j : Nat) : Stmt := match s with
  | .ClassDef _ _ _ body _ _ _ _ _ _ _ => body.getD j (.Pass ⟨0, 0, 0, 0⟩)
  | _ => .Pass ⟨0, 0, 0, 0⟩
noncomputable def defArgs (s : Stmt) : Arguments := match s with
  | .FunctionDef _ a _ _ _ _ _ _ _ _ => a
  | _ => { posonlyargs := [], args := [], vararg := none, kwonlyargs := [], kw_defaults := [], kwarg := none, defaults := [] }
noncomputable def defBody (s : Stmt) : List Stmt := match s with
  | .FunctionDef _ _ b _ _ _ _ _ _ _ => b
  | _ => []
noncomputable def defScope (s : Stmt) : Scope := match s with
  | .FunctionDef _ _ _ _ _ _ sc _ _ _ => sc
  | _ => { kind := .function, names := [], isGenerator := false, isCoroutine := false }

noncomputable abbrev CX0 : CXT := fun _ _ _ _ _ _ => False
noncomputable abbrev E0 : XK := fun _ _ _ => False
theorem pass0 {X : Cx} : Passes CX0 X E0 := fun _ _ _ _ _ _ _ h => h.elim

structure Fun (K : PySem.W.Frag) (x qual : Str) (st : Stmt) (f : Addr) (fd : FuncData) : Prop where
  ex : ∃ (oc : Value) (od : Option Addr) (kV doc pm : Value) (an : Option Addr) (cdv ct : Value) (osl : Array (Option Value)),
    fd = PySem.W.fnOf x qual (defArgs st) (defBody st) (defScope st) .none kV doc pm an cdv ct ∧ K.lookup f = some ⟨oc, od, .func fd, osl⟩ ∧ PySem.W.codeIn K cdv qual = true
  kp : PySem.W.keepIn K (.ref f) = true
section
variable {P : Program} {w : World} {K : PySem.W.Frag} {mg : Str → Option Value} {base : Heap}
theorem Fun.ok {x qual : Str} {st : Stmt} {f : Addr} {fd : FuncData} {N ps : List Str} {k : Nat} {sp : Sp} (F : Fun K x qual st f fd) (S : FnScope N ps (defScope st)) (len : ∀ vs H Q E, sp vs H Q E → vs.length = ps.length)
    (hbody : ∀ (cdv : Value) (A : Around) (outer : List Env) (s : Shared) (H : Hp) (vs : List V) (Q : VK) (E : XK), Room k (A.deeper (envOfC qual (defScope st) s.heap.objs.size f cdv)) → sp vs H Q E →
      ∃ t, PSs (cxOf CX0 P w K mg base N qual (defScope st) f cdv A outer s H E).nox (defBody st) t ∧ t { nx := fun _ H' => Q .non H', rt := Q } (start N vs) H) : FnOk P w K mg base CX0 (k + 1) f fd ps sp := by
  obtain ⟨oc, od, kV, doc, pm, an, cdv, ct, osl, rfl, lk, hcd⟩ := F.ex
  refine fn_of lk hcd S len fun A outer s H vs Q E hr hsp => ?_
  obtain ⟨t, h, q⟩ := hbody cdv A outer s H vs Q E hr hsp
  exact ⟨t, h.nox, q⟩
theorem Fun.binds {x qual : Str} {st : Stmt} {f : Addr} {fd : FuncData} {ps : List Str} (F : Fun K x qual st f fd)
    (h : ∀ (kV doc pm : Value) (an : Option Addr) (cdv ct : Value) (us : List Value), us.length = ps.length → bindArgs (PySem.W.fnOf x qual (defArgs st) (defBody st) (defScope st) .none kV doc pm an cdv ct) ⟨us, []⟩ = pure (ps.zip us)) : Binds K fd ps [] := by
  obtain ⟨oc, od, kV, doc, pm, an, cdv, ct, osl, rfl, lk, hcd⟩ := F.ex
  exact .all (h kV doc pm an cdv ct)
theorem fun_mk {x qual : Str} {st : Stmt} {f : Addr} {oc : Value} {od an : Option Addr} {osl : Array (Option Value)} {kV doc pm cdv ct : Value} (l : K.lookup f = some ⟨oc, od, .func (PySem.W.fnOf x qual (defArgs st) (defBody st) (defScope st) .none kV doc pm an cdv ct), osl⟩)
    (c : PySem.W.codeIn K cdv qual = true) (k : PySem.W.keepIn K (.ref f) = true) : Fun K x qual st f (PySem.W.fnOf x qual (defArgs st) (defBody st) (defScope st) .none kV doc pm an cdv ct) := ⟨⟨oc, od, kV, doc, pm, an, cdv, ct, osl, rfl, l, c⟩, k⟩
end

section
variable {X : Cx}
theorem pv (i : Nat) {x : Str} {pos : Pos} (hN : X.N[i]? = some x := by rfl) (hv : Vis X.env.scope x := by first | exact Or.inl rfl | exact Or.inr (Or.inl rfl) | exact Or.inr (Or.inr rfl)) (hd : (x == ("__debug__" : Str)) = false := by decide)
    (hcd : (x == ("__classdict__" : Str)) = false := by decide) : PE X (.Name x pos) (tVar i) := pe_var hN hv hd hcd
end

theorem iteF {A B : Prop} (h : B) : if false = true then A else B := by
  rw [if_neg Bool.false_ne_true]
  exact h
theorem iteT {A B : Prop} (h : A) : if true = true then A else B := by
  rw [if_pos rfl]
  exact h
theorem ite2 {c A B : Prop} [Decidable c] (h1 : c → A) (h2 : ¬ c → B) : if c then A else B := by
  by_cases h : c
  · rw [if_pos h]
    exact h1 h
  · rw [if_neg h]
    exact h2 h
theorem iteNS {c A B : Prop} [Decidable c] (hc : c) (h : B) : if (!decide c) = true then A else B := by
  rw [decide_eq_true hc]
  exact iteF h

noncomputable def Same (H H' : Hp) : Prop := ∀ b o, H b = some o → H' b = some o
theorem Same.refl (H : Hp) : Same H H := fun _ _ h => h
theorem Same.trans {H H1 H2 : Hp} (a : Same H H1) (b : Same H1 H2) : Same H H2 := fun c o h => b c o (a c o h)
theorem Same.free {H H' : Hp} (e : Same H H') {l : Addr} (h : H' l = Option.none) : H l = Option.none := by
  cases q : H l with
  | none => rfl
  | some o =>
    rw [e l o q] at h
    cases h
theorem Same.seq {K : PySem.W.Frag} {H H' : Hp} {a : Addr} {xs : List V} (e : Same H H') (h : SqL K H a xs) : SqL K H' a xs := by
  rcases h with (h | ⟨o, h⟩) | h
  · exact .inl (.inl (e _ _ h))
  · exact .inl (.inr ⟨o, e _ _ h⟩)
  · exact .inr h

end L2

namespace Ra
noncomputable def Bt (n : Nat) (x : Int) : Prop := x.natAbs < 2 ^ n
theorem Bt.mono {m n : Nat} {x : Int} (h : Bt m x) (l : m ≤ n) : Bt n x := Nat.lt_of_lt_of_le h (Nat.pow_le_pow_right (by decide) l)
theorem Bt.neg {n : Nat} {x : Int} (h : Bt n x) : Bt n (-x) := by unfold Bt at *; rw [Int.natAbs_neg]; exact h
theorem Bt.mul {m n : Nat} {x y : Int} (h : Bt m x) (k : Bt n y) : Bt (m + n) (x * y) := by
  unfold Bt at *
  rw [Int.natAbs_mul, Nat.pow_add]
  exact Nat.mul_lt_mul'' h k
theorem Bt.of_le {n : Nat} {x y : Int} (h : Bt n x) (k : y.natAbs ≤ x.natAbs) : Bt n y := Nat.lt_of_le_of_lt k h
theorem Bt.ediv {n : Nat} {x y : Int} (h : Bt n x) : Bt n (x / y) := h.of_le (Int.natAbs_ediv_le_natAbs x y)
theorem Bt.zero {n : Nat} : Bt n 0 := Nat.pow_pos (by decide)
theorem Bt.between {n : Nat} {x : Int} (h : -(2 ^ n : Int) < x) (k : x < (2 ^ n : Int)) : Bt n x := by
  unfold Bt
  have e : ((2 ^ n : Nat) : Int) = (2 : Int) ^ n := by push_cast; rfl
  (first | lia | omega)

noncomputable def g (a b : Int) : Int := (Int.gcd a b : Nat)
theorem g_nonneg (a b : Int) : 0 ≤ g a b := Int.natCast_nonneg _
theorem g_dvd_left (a b : Int) : g a b ∣ a := Int.gcd_dvd_left a b
theorem g_dvd_right (a b : Int) : g a b ∣ b := Int.gcd_dvd_right a b
theorem g_pos {a b : Int} (h : b ≠ 0) : 0 < g a b := by
  have h1 : 0 < Int.gcd a b := Int.gcd_pos_of_ne_zero_right a h
  unfold g
  (first | lia | omega)
structure Fq (a b : Int) : Prop where
  pos : 0 < b
  one : Int.gcd a b = 1
theorem cop_mul {a b c : Int} (h : Int.gcd a b = 1) (k : Int.gcd a c = 1) : Int.gcd a (b * c) = 1 := by
  show Nat.gcd a.natAbs (b * c).natAbs = 1
  rw [Int.natAbs_mul]
  exact Nat.Coprime.mul_right h k
theorem cop_mull {a b c : Int} (h : Int.gcd a c = 1) (k : Int.gcd b c = 1) : Int.gcd (a * b) c = 1 := by
  rw [Int.gcd_comm]
  exact cop_mul (by rw [Int.gcd_comm]; exact h) (by rw [Int.gcd_comm]; exact k)
theorem cop_dvd {a b c : Int} (h : Int.gcd a b = 1) (d : c ∣ a) : Int.gcd c b = 1 := by
  have hd : c.natAbs ∣ a.natAbs := Int.natAbs_dvd_natAbs.mpr d
  exact Nat.Coprime.coprime_dvd_left hd h
theorem cop_dvdr {a b c : Int} (h : Int.gcd a b = 1) (d : c ∣ b) : Int.gcd a c = 1 := by
  rw [Int.gcd_comm]
  exact cop_dvd (by rw [Int.gcd_comm]; exact h) d
theorem div_cop {a b : Int} (h : b ≠ 0) : Int.gcd (a / g a b) (b / g a b) = 1 := by
  have hp : 0 < Int.gcd a b := Int.gcd_pos_of_ne_zero_right a h
  exact Int.gcd_ediv_gcd_ediv_gcd hp
theorem cop_add {a b k : Int} (h : Int.gcd a b = 1) : Int.gcd (a + k * b) b = 1 := by
  rw [Int.gcd_add_mul_right_left]
  exact h

theorem mul_g {a b : Int} : g a b * (a / g a b) = a := Int.mul_ediv_cancel' (g_dvd_left a b)
theorem mul_gr {a b : Int} : g a b * (b / g a b) = b := Int.mul_ediv_cancel' (g_dvd_right a b)
theorem low_ok {t b : Int} (hb : 0 < b) : Fq (t / g t b) (b / g t b) ∧ (t / g t b) * b = t * (b / g t b) := by
  have hg : 0 < g t b := g_pos (by (first | lia | omega))
  refine ⟨⟨?_, div_cop (by (first | lia | omega))⟩, ?_⟩
  · exact Int.ediv_pos_of_pos_of_dvd hb (Int.le_of_lt hg) (g_dvd_right t b)
  · have e1 := @mul_g t b
    have e2 := @mul_gr t b
    generalize t / g t b = x at *
    generalize b / g t b = y at *
    calc x * b = x * (g t b * y) := by rw [e2]
      _ = (g t b * x) * y := by rw [← Int.mul_assoc, Int.mul_comm x]
      _ = t * y := by rw [e1]
noncomputable def plsT (a b c d : Int) : Int := a * (d / g b d) + c * (b / g b d)
noncomputable def plsN (a b c d : Int) : Int := plsT a b c d / g (plsT a b c d) (g b d)
noncomputable def plsD (a b c d : Int) : Int := (b / g b d) * (d / g (plsT a b c d) (g b d))
theorem pls_ok {a b c d : Int} (h : Fq a b) (k : Fq c d) : Fq (plsN a b c d) (plsD a b c d) ∧ plsN a b c d * (b * d) = (a * d + c * b) * plsD a b c d := by
  have hs : 0 < g b d := g_pos (by have := k.pos; (first | lia | omega))
  obtain ⟨s, hs'⟩ : ∃ s, s = g b d := ⟨_, rfl⟩
  obtain ⟨x, hx⟩ : ∃ x, x = b / g b d := ⟨_, rfl⟩
  obtain ⟨y, hy⟩ : ∃ y, y = d / g b d := ⟨_, rfl⟩
  obtain ⟨t, ht⟩ : ∃ t, t = a * y + c * x := ⟨_, rfl⟩
  have et : plsT a b c d = t := by rw [ht, hx, hy]; rfl
  have eb : s * x = b := by rw [hs', hx]; exact mul_g
  have ed : s * y = d := by rw [hs', hy]; exact mul_gr
  have cxy : Int.gcd x y = 1 := by rw [hx, hy]; exact div_cop (by have := k.pos; (first | lia | omega))
  have hx0 : 0 < x := by rw [hx]; exact Int.ediv_pos_of_pos_of_dvd h.pos (g_nonneg _ _) (g_dvd_left _ _)
  have hy0 : 0 < y := by rw [hy]; exact Int.ediv_pos_of_pos_of_dvd k.pos (g_nonneg _ _) (g_dvd_right _ _)
  rw [← hs'] at hs
  obtain ⟨l, hl⟩ : ∃ l, l = g t s := ⟨_, rfl⟩
  have hl0 : 0 < l := by rw [hl]; exact g_pos (by (first | lia | omega))
  obtain ⟨T, hT⟩ : ∃ T, T = t / g t s := ⟨_, rfl⟩
  obtain ⟨S, hS⟩ : ∃ S, S = s / g t s := ⟨_, rfl⟩
  have eT : l * T = t := by rw [hl, hT]; exact mul_g
  have eS : l * S = s := by rw [hl, hS]; exact mul_gr
  have cTS : Int.gcd T S = 1 := by rw [hT, hS]; exact div_cop (by (first | lia | omega))
  have hS0 : 0 < S := by rw [hS]; exact Int.ediv_pos_of_pos_of_dvd hs (g_nonneg _ _) (g_dvd_right _ _)
  have eN : plsN a b c d = T := by unfold plsN; rw [et, ← hs', hT]
  have eD : plsD a b c d = x * (S * y) := by
    unfold plsD
    have hdl : d / g t s = S * y := by rw [← hl, ← ed, ← eS, Int.mul_assoc, Int.mul_ediv_cancel_left _ (by (first | lia | omega))]
    rw [et, ← hx, ← hs', hdl]
  have cax : Int.gcd a x = 1 := cop_dvdr h.one ⟨s, by rw [← eb, Int.mul_comm]⟩
  have ccy : Int.gcd c y = 1 := cop_dvdr k.one ⟨s, by rw [← ed, Int.mul_comm]⟩
  have ctx : Int.gcd t x = 1 := by
    rw [ht]
    exact cop_add (cop_mull cax (by rw [Int.gcd_comm]; exact cxy))
  have cty : Int.gcd t y = 1 := by
    rw [ht, Int.add_comm]
    exact cop_add (cop_mull ccy cxy)
  have dT : T ∣ t := ⟨l, by rw [← eT, Int.mul_comm]⟩
  rw [eN, eD]
  refine ⟨⟨Int.mul_pos hx0 (Int.mul_pos hS0 hy0), cop_mul (cop_dvd ctx dT) (cop_mul cTS (cop_dvd cty dT))⟩, ?_⟩
  have e1 : a * d + c * b = s * t := by
    rw [← ed, ← eb, ht, Int.mul_add]
    simp [Int.mul_comm, Int.mul_left_comm, Int.mul_assoc]
  rw [e1, ← eT, ← ed, ← eb, ← eS]
  simp [Int.mul_comm, Int.mul_left_comm, Int.mul_assoc]
noncomputable def tmsN (a b c d : Int) : Int := (a / g a d) * (c / g c b)
noncomputable def tmsD (a b c d : Int) : Int := (b / g c b) * (d / g a d)
theorem tms_ok {a b c d : Int} (h : Fq a b) (k : Fq c d) : Fq (tmsN a b c d) (tmsD a b c d) ∧ tmsN a b c d * (b * d) = (a * c) * tmsD a b c d := by
  have hb := h.pos
  have hd := k.pos
  have p1 : 0 < g a d := g_pos (by (first | lia | omega))
  have p2 : 0 < g c b := g_pos (by (first | lia | omega))
  obtain ⟨f, hf⟩ : ∃ f, f = g a d := ⟨_, rfl⟩
  obtain ⟨s, hs⟩ : ∃ s, s = g c b := ⟨_, rfl⟩
  obtain ⟨a', ha'⟩ : ∃ x, x = a / g a d := ⟨_, rfl⟩
  obtain ⟨d', hd'⟩ : ∃ x, x = d / g a d := ⟨_, rfl⟩
  obtain ⟨c', hc'⟩ : ∃ x, x = c / g c b := ⟨_, rfl⟩
  obtain ⟨b', hb'⟩ : ∃ x, x = b / g c b := ⟨_, rfl⟩
  have ea : f * a' = a := by rw [hf, ha']; exact mul_g
  have ed : f * d' = d := by rw [hf, hd']; exact mul_gr
  have ec : s * c' = c := by rw [hs, hc']; exact mul_g
  have eb : s * b' = b := by rw [hs, hb']; exact mul_gr
  have c1 : Int.gcd a' d' = 1 := by rw [ha', hd']; exact div_cop (by (first | lia | omega))
  have c2 : Int.gcd c' b' = 1 := by rw [hc', hb']; exact div_cop (by (first | lia | omega))
  have c3 : Int.gcd a' b' = 1 := cop_dvd (cop_dvdr h.one ⟨s, by rw [← eb, Int.mul_comm]⟩) ⟨f, by rw [← ea, Int.mul_comm]⟩
  have c4 : Int.gcd c' d' = 1 := cop_dvd (cop_dvdr k.one ⟨f, by rw [← ed, Int.mul_comm]⟩) ⟨s, by rw [← ec, Int.mul_comm]⟩
  have hb0 : 0 < b' := by rw [hb']; exact Int.ediv_pos_of_pos_of_dvd hb (g_nonneg _ _) (g_dvd_right _ _)
  have hd0 : 0 < d' := by rw [hd']; exact Int.ediv_pos_of_pos_of_dvd hd (g_nonneg _ _) (g_dvd_right _ _)
  have eN : tmsN a b c d = a' * c' := by unfold tmsN; rw [ha', hc']
  have eD : tmsD a b c d = b' * d' := by unfold tmsD; rw [hb', hd']
  rw [eN, eD]
  refine ⟨⟨Int.mul_pos hb0 hd0, cop_mull (cop_mul c3 c1) (cop_mul c2 c4)⟩, ?_⟩
  rw [← ea, ← ed, ← ec, ← eb]
  simp [Int.mul_comm, Int.mul_left_comm, Int.mul_assoc]
theorem g_step {a b : Int} (ha : 0 ≤ a) (hb : 0 < b) : g b (a % b) = g a b := by
  unfold g
  rw [Int.gcd_comm a b]
  exact congrArg _ (by rw [Int.emod_def, Int.sub_eq_add_neg, ← Int.mul_neg, Int.gcd_add_mul_left_right])
theorem g_end {a : Int} (ha : 0 ≤ a) : g a 0 = a := by
  unfold g
  rw [Int.gcd_zero_right]
  (first | lia | omega)
theorem g_abs (a b : Int) : g (if a < 0 then -a else a) (if b < 0 then -b else b) = g a b := by
  unfold g
  split <;> split <;> simp
end Ra

namespace Ra
noncomputable def sh (t b : Int) : Int := if b < 0 then -(g t b) else g t b
noncomputable def frN (t b : Int) : Int := t.fdiv (sh t b)
noncomputable def frD (t b : Int) : Int := b.fdiv (sh t b)
theorem sh_ne {t b : Int} (h : b ≠ 0) : sh t b ≠ 0 := by
  have := g_pos (a := t) h
  unfold sh
  split <;> (first | lia | omega)
theorem sh_bt {n : Nat} {t b : Int} (h : b ≠ 0) (k : Bt n b) : Bt n (sh t b) := by
  have d : (g t b).natAbs ≤ b.natAbs := by
    have := Int.natAbs_dvd_natAbs.mpr (g_dvd_right t b)
    exact Nat.le_of_dvd (by (first | lia | omega)) this
  refine k.of_le ?_
  unfold sh
  split
  · rw [Int.natAbs_neg]
    exact d
  · exact d
theorem sh_dvd_left (t b : Int) : sh t b ∣ t := by
  unfold sh
  split
  · exact Int.neg_dvd.mpr (g_dvd_left t b)
  · exact g_dvd_left t b
theorem sh_dvd_right (t b : Int) : sh t b ∣ b := by
  unfold sh
  split
  · exact Int.neg_dvd.mpr (g_dvd_right t b)
  · exact g_dvd_right t b
theorem frN_eq (t b : Int) : frN t b = if b < 0 then -(t / g t b) else t / g t b := by
  unfold frN
  rw [Int.fdiv_eq_ediv_of_dvd (sh_dvd_left t b)]
  unfold sh
  split
  · rw [Int.ediv_neg]
  · rfl
theorem frD_eq (t b : Int) : frD t b = if b < 0 then -(b / g t b) else b / g t b := by
  unfold frD
  rw [Int.fdiv_eq_ediv_of_dvd (sh_dvd_right t b)]
  unfold sh
  split
  · rw [Int.ediv_neg]
  · rfl
theorem fr_ok {t b : Int} (h : b ≠ 0) : Fq (frN t b) (frD t b) ∧ frN t b * b = t * frD t b := by
  have hg : 0 < g t b := g_pos h
  have e1 := @mul_g t b
  have e2 := @mul_gr t b
  have c := div_cop (a := t) h
  rw [frN_eq, frD_eq]
  generalize t / g t b = x at *
  generalize b / g t b = y at *
  generalize g t b = d at *
  have key : x * b = t * y := by
    rw [← e1, ← e2]
    simp [Int.mul_comm, Int.mul_left_comm]
  by_cases hb : b < 0
  · rw [if_pos hb, if_pos hb]
    refine ⟨⟨?_, by rw [Int.neg_gcd, Int.gcd_neg]; exact c⟩, by rw [Int.neg_mul, Int.mul_neg, key]⟩
    have : y < 0 := by
      rcases Int.lt_trichotomy y 0 with z | z | z
      · exact z
      · rw [z] at e2
        (first | lia | omega)
      · have := Int.mul_pos hg z
        (first | lia | omega)
    (first | lia | omega)
  · rw [if_neg hb, if_neg hb]
    refine ⟨⟨?_, c⟩, key⟩
    rcases Int.lt_trichotomy y 0 with z | z | z
    · have := Int.mul_pos hg (show 0 < -y by (first | lia | omega))
      rw [Int.mul_neg] at this
      (first | lia | omega)
    · rw [z] at e2
      (first | lia | omega)
    · exact z
noncomputable def sgn (a : Int) : Int := if a > 0 then 1 else if a < 0 then -1 else 0
noncomputable def ab (a : Int) : Int := if a < 0 then -a else a
end Ra

namespace Rq
open Ra
theorem den_pos (q : Rat) : (0 : Int) < (q.den : Int) := by have := q.den_pos; (first | lia | omega)
theorem den_ne (q : Rat) : ((q.den : Int) : Rat) ≠ 0 := fun h => by
  have := den_pos q
  have h2 : (q.den : Int) = 0 := Rat.intCast_eq_zero_iff.mp h
  (first | lia | omega)
theorem fq (q : Rat) : Fq q.num q.den := ⟨den_pos q, q.reduced⟩
theorem q_eq (q : Rat) : (q.num : Rat) / ((q.den : Int) : Rat) = q := by
  rw [← Rat.divInt_eq_div]
  exact Rat.num_divInt_den q
theorem of_low {N D T M : Int} (f : Fq N D) (hM : M ≠ 0) (e : N * M = T * D) {q : Rat} (hq : q = (T : Rat) / (M : Rat)) : q.num = N ∧ (q.den : Int) = D := by
  have hD := f.pos
  have hd : D.toNat ≠ 0 := by (first | lia | omega)
  have ed : ((D.toNat : Nat) : Int) = D := by (first | lia | omega)
  have hr : N.natAbs.Coprime D.toNat := by
    have h := f.one
    have e2 : D.natAbs = D.toNat := by (first | lia | omega)
    rw [← e2]
    exact h
  have key : q = (⟨N, D.toNat, hd, hr⟩ : Rat) := by
    rw [hq, ← Rat.divInt_eq_div, Rat.mk_eq_divInt, ed]
    exact (Rat.divInt_eq_divInt_iff hM (by (first | lia | omega))).mpr e.symm
  rw [key]
  exact ⟨rfl, ed⟩
theorem eq_of_low {N D : Int} (f : Fq N D) {q : Rat} (hq : q = (N : Rat) / (D : Rat)) : q.num = N ∧ (q.den : Int) = D := of_low f (by have := f.pos; (first | lia | omega)) rfl hq
theorem over_one (q : Rat) : q = q / ((1 : Int) : Rat) := by
  have : ((1 : Int) : Rat) = 1 := rfl
  rw [this]
  grind
theorem num_zero {q : Rat} : q.num = 0 ↔ q = 0 := Rat.num_eq_zero
theorem add_as (p q : Rat) : (((p.num * q.den + q.num * p.den : Int)) : Rat) / ((p.den * q.den : Int) : Rat) = p + q := by
  have e1 := q_eq p
  have e2 := q_eq q
  have n1 := den_ne p
  have n2 := den_ne q
  simp only [Rat.intCast_add, Rat.intCast_mul]
  generalize (p.num : Rat) = a at *
  generalize ((p.den : Int) : Rat) = b at *
  generalize (q.num : Rat) = c at *
  generalize ((q.den : Int) : Rat) = d at *
  subst e1 e2
  grind
theorem mul_as (p q : Rat) : (((p.num * q.num : Int)) : Rat) / ((p.den * q.den : Int) : Rat) = p * q := by
  have e1 := q_eq p
  have e2 := q_eq q
  have n1 := den_ne p
  have n2 := den_ne q
  simp only [Rat.intCast_mul]
  generalize (p.num : Rat) = a at *
  generalize ((p.den : Int) : Rat) = b at *
  generalize (q.num : Rat) = c at *
  generalize ((q.den : Int) : Rat) = d at *
  subst e1 e2
  grind
theorem pls_q (p q : Rat) : plsN p.num p.den q.num q.den = (p + q).num ∧ plsD p.num p.den q.num q.den = ((p + q).den : Int) := by
  obtain ⟨f, e⟩ := pls_ok (fq p) (fq q)
  have h1 := den_pos p
  have h2 := den_pos q
  obtain ⟨a, b⟩ := of_low (q := p + q) f (Int.ne_of_gt (Int.mul_pos h1 h2)) e (by
    have e1 := q_eq p
    have e2 := q_eq q
    have n1 := den_ne p
    have n2 := den_ne q
    simp only [Rat.intCast_add, Rat.intCast_mul]
    generalize (p.num : Rat) = a at *
    generalize ((p.den : Int) : Rat) = b at *
    generalize (q.num : Rat) = c at *
    generalize ((q.den : Int) : Rat) = d at *
    subst e1 e2
    grind)
  exact ⟨a.symm, b.symm⟩
theorem mns_q (p q : Rat) : plsN p.num p.den (-q.num) q.den = (p - q).num ∧ plsD p.num p.den (-q.num) q.den = ((p - q).den : Int) := by
  have h := pls_q p (-q)
  rw [Rat.neg_num, Rat.neg_den, ← Rat.sub_eq_add_neg] at h
  exact h
theorem tms_q (p q : Rat) : tmsN p.num p.den q.num q.den = (p * q).num ∧ tmsD p.num p.den q.num q.den = ((p * q).den : Int) := by
  obtain ⟨f, e⟩ := tms_ok (fq p) (fq q)
  have h1 := den_pos p
  have h2 := den_pos q
  obtain ⟨a, b⟩ := of_low (q := p * q) f (Int.ne_of_gt (Int.mul_pos h1 h2)) e (by
    have e1 := q_eq p
    have e2 := q_eq q
    have n1 := den_ne p
    have n2 := den_ne q
    simp only [Rat.intCast_mul]
    generalize (p.num : Rat) = a at *
    generalize ((p.den : Int) : Rat) = b at *
    generalize (q.num : Rat) = c at *
    generalize ((q.den : Int) : Rat) = d at *
    subst e1 e2
    grind)
  exact ⟨a.symm, b.symm⟩
theorem low_q {t b : Int} (hb : 0 < b) : t / g t b = ((t : Rat) / (b : Rat)).num ∧ b / g t b = (((t : Rat) / (b : Rat)).den : Int) := by
  obtain ⟨f, e⟩ := low_ok (t := t) hb
  obtain ⟨a, b⟩ := of_low f (by (first | lia | omega)) e rfl
  exact ⟨a.symm, b.symm⟩
noncomputable def Bq (n : Nat) (q : Rat) : Prop := Bt n q.num ∧ Bt n (q.den : Int)
theorem Bq.mono {m n : Nat} {q : Rat} (h : Bq m q) (l : m ≤ n) : Bq n q := ⟨h.1.mono l, h.2.mono l⟩
theorem Bq.neg {n : Nat} {q : Rat} (h : Bq n q) : Bq n (-q) := ⟨by rw [Rat.neg_num]; exact h.1.neg, by rw [Rat.neg_den]; exact h.2⟩
theorem Bq.zero {n : Nat} (h : 0 < n) : Bq n 0 := ⟨Bt.zero, Bt.mono (m := 1) (by show (1 : Nat) < 2 ^ 1; decide) h⟩
theorem Bq.one {n : Nat} (h : 0 < n) : Bq n 1 := ⟨Bt.mono (m := 1) (by show (1 : Nat) < 2 ^ 1; decide) h, Bt.mono (m := 1) (by show (1 : Nat) < 2 ^ 1; decide) h⟩
theorem dvd_of {T M : Int} {q : Rat} (hM : M ≠ 0) (hq : q = (T : Rat) / (M : Rat)) : q.num ∣ T ∧ (q.den : Int) ∣ M := by
  have e : q.num * M = T * q.den := by
    have e1 : (q.num : Rat) / ((q.den : Int) : Rat) = (T : Rat) / (M : Rat) := (q_eq q).trans hq
    rw [← Rat.divInt_eq_div, ← Rat.divInt_eq_div] at e1
    exact (Rat.divInt_eq_divInt_iff (by have := den_pos q; (first | lia | omega)) hM).mp e1
  have c := (fq q).one
  constructor
  · have d : q.num ∣ T * q.den := ⟨M, e.symm⟩
    have d' := Int.natAbs_dvd_natAbs.mpr d
    rw [Int.natAbs_mul] at d'
    exact Int.natAbs_dvd_natAbs.mp (Nat.Coprime.dvd_of_dvd_mul_right c d')
  · have d : (q.den : Int) ∣ q.num * M := ⟨T, by rw [e, Int.mul_comm]⟩
    have d' := Int.natAbs_dvd_natAbs.mpr d
    rw [Int.natAbs_mul] at d'
    exact Int.natAbs_dvd_natAbs.mp (Nat.Coprime.dvd_of_dvd_mul_left (Nat.Coprime.symm c) d')
theorem bq_of {n : Nat} {T M : Int} {q : Rat} (hM : M ≠ 0) (hq : q = (T : Rat) / (M : Rat)) (bT : Bt n T) (bM : Bt n M) : Bq n q := by
  obtain ⟨d1, d2⟩ := dvd_of hM hq
  refine ⟨?_, bM.of_le (Nat.le_of_dvd (by (first | lia | omega)) (Int.natAbs_dvd_natAbs.mpr d2))⟩
  by_cases h : T = 0
  · subst h
    have : q = 0 := by rw [hq]; simp [Rat.div_def]
    rw [this]
    exact Bt.zero
  · exact bT.of_le (Nat.le_of_dvd (by (first | lia | omega)) (Int.natAbs_dvd_natAbs.mpr d1))
theorem bt_add {n : Nat} {x y : Int} (h : Bt n x) (k : Bt n y) : Bt (n + 1) (x + y) := by
  unfold Bt at *
  have a := Int.natAbs_add_le x y
  rw [Nat.pow_succ]
  (first | lia | omega)
theorem Bq.add {m n : Nat} {p q : Rat} (h : Bq m p) (k : Bq n q) : Bq (m + n + 1) (p + q) := by
  obtain ⟨e1, e2⟩ := pls_q p q
  rw [Bq, ← e1, ← e2]
  refine ⟨(bt_add (h.1.mul k.2.ediv) ((k.1.mul h.2.ediv).mono (by (first | lia | omega)))).ediv, (h.2.ediv.mul k.2.ediv).mono (by (first | lia | omega))⟩
theorem Bq.mul {m n : Nat} {p q : Rat} (h : Bq m p) (k : Bq n q) : Bq (m + n) (p * q) := by
  obtain ⟨e1, e2⟩ := tms_q p q
  rw [Bq, ← e1, ← e2]
  exact ⟨h.1.ediv.mul k.1.ediv, h.2.ediv.mul k.2.ediv⟩
end Rq

namespace Po
open Ra Rq
noncomputable def strip : List Rat → List Rat
  | [] => []
  | q :: qs => match strip qs with
    | [] => if q = 0 then [] else [q]
    | r :: rs => q :: r :: rs
theorem strip_snoc0 (xs : List Rat) : strip (xs ++ [0]) = strip xs := by
  induction xs with
  | nil => rfl
  | cons x xs ih =>
    rw [List.cons_append, strip, ih, strip]
theorem strip_snoc {q : Rat} (h : q ≠ 0) (xs : List Rat) : strip (xs ++ [q]) = xs ++ [q] := by
  induction xs with
  | nil => simp [strip, h]
  | cons x xs ih =>
    rw [List.cons_append, strip, ih]
    cases xs <;> rfl
theorem take_snoc {α : Type} {xs : List α} {n : Nat} {x : α} (h : xs[n]? = some x) : xs.take (n + 1) = xs.take n ++ [x] := by
  rw [List.take_succ, h]
  rfl
theorem strip_length (xs : List Rat) : (strip xs).length ≤ xs.length := by
  induction xs with
  | nil => exact Nat.le_refl _
  | cons x xs ih =>
    rw [strip]
    cases h : strip xs with
    | nil =>
      rw [h] at ih
      by_cases hx : x = 0 <;> simp [hx]
    | cons r rs =>
      rw [h] at ih
      simp only [List.length_cons] at *
      (first | lia | omega)
theorem strip_take (xs : List Rat) : strip xs = xs.take (strip xs).length := by
  induction xs with
  | nil => rfl
  | cons x xs ih =>
    rw [strip]
    cases h : strip xs with
    | nil => by_cases hx : x = 0 <;> simp [hx]
    | cons r rs =>
      rw [h] at ih
      simp only [List.length_cons, List.take_succ_cons]
      rw [List.length_cons] at ih
      rw [← ih]
theorem strip_mem {xs : List Rat} {q : Rat} (h : q ∈ strip xs) : q ∈ xs := by
  rw [strip_take] at h
  exact List.mem_of_mem_take h
theorem strip_strip (xs : List Rat) : strip (strip xs) = strip xs := by
  induction xs with
  | nil => rfl
  | cons x xs ih =>
    rw [strip]
    cases h : strip xs with
    | nil => by_cases hx : x = 0 <;> simp [hx, strip]
    | cons r rs =>
      rw [h] at ih
      show strip (x :: r :: rs) = _
      rw [strip, ih]
theorem getD_strip (xs : List Rat) (i : Nat) : (strip xs).getD i 0 = xs.getD i 0 := by
  induction xs generalizing i with
  | nil => rfl
  | cons x xs ih =>
    rw [strip]
    cases h : strip xs with
    | nil =>
      rw [h] at ih
      cases i with
      | zero => by_cases hx : x = 0 <;> simp [hx]
      | succ i =>
        have e := ih i
        by_cases hx : x = 0 <;> simp [hx] at * <;> exact e
    | cons r rs =>
      rw [h] at ih
      cases i with
      | zero => rfl
      | succ i => simpa using ih i
noncomputable def ev : List Rat → Rat → Rat
  | [], _ => 0
  | q :: qs, x => q + x * ev qs x
noncomputable def padd (ps qs : List Rat) : List Rat := strip ((List.range (max ps.length qs.length)).map fun k => ps.getD k 0 + qs.getD k 0)
noncomputable def psub (ps qs : List Rat) : List Rat := strip ((List.range (max ps.length qs.length)).map fun k => ps.getD k 0 - qs.getD k 0)
noncomputable def pscale (qs : List Rat) (x : Rat) : List Rat := strip (qs.map (· * x))
noncomputable def pslope (qs : List Rat) : List Rat := (List.range (qs.length - 1)).map fun k => qs.getD (k + 1) 0 * (((1 : Int) + (k : Int) : Int) : Rat)
noncomputable def sm (f : Nat → Rat) (n : Nat) : Rat := (List.range n).foldl (fun acc i => acc + f i) 0
theorem sm_zero (f : Nat → Rat) : sm f 0 = 0 := rfl
theorem sm_succ (f : Nat → Rat) (n : Nat) : sm f (n + 1) = sm f n + f n := by
  unfold sm
  rw [List.range_succ, List.foldl_append]
  rfl
theorem sm_congr {f h : Nat → Rat} {n : Nat} (e : ∀ i, i < n → f i = h i) : sm f n = sm h n := by
  induction n with
  | zero => rfl
  | succ n ih => rw [sm_succ, sm_succ, ih fun i hi => e i (by (first | lia | omega)), e n (by (first | lia | omega))]
theorem sm_first (f : Nat → Rat) (n : Nat) : sm f (n + 1) = f 0 + sm (fun i => f (i + 1)) n := by
  induction n with
  | zero => rw [sm_succ, sm_zero, sm_zero]; grind
  | succ n ih => rw [sm_succ, ih, sm_succ]; grind
theorem sm_rev (f : Nat → Rat) (n : Nat) : sm f n = sm (fun i => f (n - 1 - i)) n := by
  induction n with
  | zero => rfl
  | succ n ih =>
    rw [sm_succ, ih, sm_first]
    have e : sm (fun i => f (n + 1 - 1 - (i + 1))) n = sm (fun i => f (n - 1 - i)) n := sm_congr fun i hi => by
      have : n + 1 - 1 - (i + 1) = n - 1 - i := by (first | lia | omega)
      rw [this]
    rw [e]
    have e2 : n + 1 - 1 - 0 = n := by (first | lia | omega)
    rw [e2]
    grind
theorem sm_add (f h : Nat → Rat) (n : Nat) : sm (fun i => f i + h i) n = sm f n + sm h n := by
  induction n with
  | zero => rw [sm_zero, sm_zero, sm_zero]; grind
  | succ n ih => rw [sm_succ, sm_succ, sm_succ, ih]; grind
theorem sm_mul (c : Rat) (f : Nat → Rat) (n : Nat) : sm (fun i => c * f i) n = c * sm f n := by
  induction n with
  | zero => rw [sm_zero, sm_zero]; grind
  | succ n ih => rw [sm_succ, sm_succ, ih]; grind
theorem sm_zeros {f : Nat → Rat} {n : Nat} (e : ∀ i, i < n → f i = 0) : sm f n = 0 := by
  induction n with
  | zero => rfl
  | succ n ih => rw [sm_succ, ih fun i hi => e i (by (first | lia | omega)), e n (by (first | lia | omega))]; grind
noncomputable def conv (ps qs : List Rat) (k : Nat) : Rat := sm (fun i => ps.getD i 0 * qs.getD (k - i) 0) (k + 1)
theorem getD_out {xs : List Rat} {i : Nat} (h : xs.length ≤ i) : xs.getD i 0 = 0 := by
  rw [List.getD_eq_getElem?_getD, List.getElem?_eq_none h]
  rfl
theorem conv_comm (ps qs : List Rat) (k : Nat) : conv ps qs k = conv qs ps k := by
  unfold conv
  rw [sm_rev]
  refine sm_congr fun i hi => ?_
  have e1 : k + 1 - 1 - i = k - i := by (first | lia | omega)
  have e2 : k - (k - i) = i := by (first | lia | omega)
  rw [e1, e2]
  exact Rat.mul_comm _ _
noncomputable def pmul (ps qs : List Rat) : List Rat := strip ((List.range (ps.length + qs.length)).map (conv ps qs))
theorem pmul_comm (ps qs : List Rat) : pmul ps qs = pmul qs ps := by
  unfold pmul
  rw [Nat.add_comm]
  congr 2
  funext k
  exact conv_comm ps qs k
theorem strip_zeros {xs : List Rat} (h : ∀ i, xs.getD i 0 = 0) : strip xs = [] := by
  induction xs with
  | nil => rfl
  | cons x xs ih =>
    rw [strip, ih fun i => by simpa using h (i + 1)]
    have : x = 0 := by simpa using h 0
    simp [this]
theorem strip_ext {xs ys : List Rat} (h : ∀ i, xs.getD i 0 = ys.getD i 0) : strip xs = strip ys := by
  induction xs generalizing ys with
  | nil => rw [strip_zeros fun i => (h i).symm]; rfl
  | cons x xs ih =>
    cases ys with
    | nil => rw [strip_zeros fun i => h i]; rfl
    | cons y ys =>
      have e0 : x = y := by simpa using h 0
      rw [strip, strip, ih fun i => by simpa using h (i + 1), e0]
theorem getD_range (f : Nat → Rat) (n i : Nat) : ((List.range n).map f).getD i 0 = if i < n then f i else 0 := by
  rw [List.getD_eq_getElem?_getD, List.getElem?_map]
  by_cases h : i < n
  · rw [List.getElem?_range h, if_pos h]
    rfl
  · rw [List.getElem?_eq_none (by rw [List.length_range]; (first | lia | omega)), if_neg h]
    rfl
theorem conv_out {ps qs : List Rat} {k : Nat} (h : ps.length + qs.length ≤ k + 1) : conv ps qs k = 0 := by
  unfold conv
  refine sm_zeros fun i hi => ?_
  by_cases h1 : ps.length ≤ i
  · rw [getD_out h1]; grind
  · rw [getD_out (xs := qs) (by (first | lia | omega))]; grind
theorem getD_pmul (ps qs : List Rat) (k : Nat) : (pmul ps qs).getD k 0 = conv ps qs k := by
  unfold pmul
  rw [getD_strip, getD_range]
  by_cases h : k < ps.length + qs.length
  · rw [if_pos h]
  · rw [if_neg h, conv_out (by (first | lia | omega))]
theorem getD_bq {n : Nat} {qs : List Rat} (hn : 0 < n) (h : ∀ q ∈ qs, Bq n q) (k : Nat) : Bq n (qs.getD k 0) := by
  rw [List.getD_eq_getElem?_getD]
  by_cases hk : k < qs.length
  · rw [List.getElem?_eq_getElem hk]
    exact h _ (List.getElem_mem hk)
  · rw [List.getElem?_eq_none (by (first | lia | omega))]
    exact Bq.zero hn
theorem sm_bq {b : Nat} {f : Nat → Rat} (hf : ∀ i, Bq b (f i)) (m : Nat) (hz : ∀ i, m ≤ i → f i = 0) (n : Nat) : Bq ((b + 1) * min n m + 1) (sm f n) := by
  induction n with
  | zero => exact Bq.zero (by (first | lia | omega))
  | succ n ih =>
    rw [sm_succ]
    by_cases h : n < m
    · have e1 : min n m = n := by (first | lia | omega)
      have e2 : min (n + 1) m = n + 1 := by (first | lia | omega)
      rw [e1] at ih
      rw [e2, Nat.mul_succ]
      exact (ih.add (hf n)).mono (by (first | lia | omega))
    · rw [hz n (by (first | lia | omega)), Rat.add_zero]
      have e1 : min n m = m := by (first | lia | omega)
      have e2 : min (n + 1) m = m := by (first | lia | omega)
      rw [e1] at ih
      rw [e2]
      exact ih
theorem conv_bq {b k n : Nat} {ps qs : List Rat} (hb : 0 < b) (hp : ∀ q ∈ ps, Bq b q) (hq : ∀ q ∈ qs, Bq b q) : Bq ((b + b + 1) * min n ps.length + 1) (sm (fun i => ps.getD i 0 * qs.getD (k - i) 0) n) :=
  sm_bq (b := b + b) (fun i => (getD_bq hb hp i).mul (getD_bq hb hq (k - i))) ps.length (fun i hi => by rw [getD_out hi]; grind) n
noncomputable def Rep (n : Nat) (v : Rat) (T M : Int) : Prop := M ≠ 0 ∧ v = (T : Rat) / (M : Rat) ∧ Bt n T ∧ Bt n M
noncomputable def lsum (qs : List Rat) : Rat := qs.foldl (· + ·) 0
end Po

namespace Po
open Ra Rq
noncomputable def stp (gs ws : List Rat) (t h0 l0 : Rat) : Nat → Rat × Rat
  | 0 => (h0 + gs.getD 0 0 * l0, l0)
  | k + 1 => ((stp gs ws t h0 l0 k).1 + gs.getD (k + 1) 0 * ((stp gs ws t h0 l0 k).2 - t * ws.getD k 0 * (stp gs ws t h0 l0 k).1), (stp gs ws t h0 l0 k).2 - t * ws.getD k 0 * (stp gs ws t h0 l0 k).1)
noncomputable def walkQ (gs ws : List Rat) (t h0 l0 : Rat) : List (Rat × Rat) := (List.range gs.length).map (stp gs ws t h0 l0)
structure R3 (n : Nat) (h l : Rat) (th tl m : Int) : Prop where
  pos : 0 < m
  eh : h = (th : Rat) / (m : Rat)
  el : l = (tl : Rat) / (m : Rat)
  bh : Bt n th
  bl : Bt n tl
  bm : Bt n m
end Po

namespace Po
open Ra Rq
noncomputable def lst (xs : List Rat) : Rat := xs.getD (xs.length - 1) 0
noncomputable def rless (rs qs : List Rat) (f : Rat) : List Rat := rs.take (rs.length - qs.length) ++ (List.range (qs.length - 1)).map fun k => rs.getD (rs.length - qs.length + k) 0 - f * qs.getD k 0
theorem rless_length {rs qs : List Rat} (f : Rat) (h : qs.length ≤ rs.length) (h0 : 0 < qs.length) : (rless rs qs f).length = rs.length - 1 := by
  unfold rless
  rw [List.length_append, List.length_take, List.length_map, List.length_range]
  (first | lia | omega)
theorem getD_append_l {xs ys : List Rat} {k : Nat} (h : k < xs.length) : (xs ++ ys).getD k 0 = xs.getD k 0 := by
  rw [List.getD_eq_getElem?_getD, List.getD_eq_getElem?_getD, List.getElem?_append_left h]
theorem getD_append_r {xs ys : List Rat} {k : Nat} (h : xs.length ≤ k) : (xs ++ ys).getD k 0 = ys.getD (k - xs.length) 0 := by
  rw [List.getD_eq_getElem?_getD, List.getD_eq_getElem?_getD, List.getElem?_append_right h]
theorem getD_take_l {xs : List Rat} {n k : Nat} (h : k < n) : (xs.take n).getD k 0 = xs.getD k 0 := by
  rw [List.getD_eq_getElem?_getD, List.getD_eq_getElem?_getD, List.getElem?_take, if_pos h]
theorem rless_getD {rs qs : List Rat} (h : qs.length ≤ rs.length) (h0 : 0 < qs.length) (hl : lst qs ≠ 0) (k : Nat) :
    rs.getD k 0 = (rless rs qs (lst rs / lst qs)).getD k 0 + if rs.length - qs.length ≤ k then (lst rs / lst qs) * qs.getD (k - (rs.length - qs.length)) 0 else 0 := by
  have ht : (rs.take (rs.length - qs.length)).length = rs.length - qs.length := by rw [List.length_take]; (first | lia | omega)
  by_cases h1 : k < rs.length - qs.length
  · rw [if_neg (by (first | lia | omega)), Rat.add_zero]
    unfold rless
    rw [getD_append_l (by rw [ht]; exact h1), getD_take_l h1]
  · rw [if_pos (by (first | lia | omega))]
    obtain ⟨j, rfl⟩ : ∃ j, k = rs.length - qs.length + j := ⟨k - (rs.length - qs.length), by (first | lia | omega)⟩
    unfold rless
    rw [getD_append_r (by rw [ht]; (first | lia | omega)), ht, Nat.add_sub_cancel_left, getD_range]
    by_cases h2 : j < qs.length - 1
    · rw [if_pos h2]
      grind
    · rw [if_neg h2]
      by_cases h3 : j = qs.length - 1
      · subst h3
        have e1 : rs.getD (rs.length - qs.length + (qs.length - 1)) 0 = lst rs := by
          unfold lst
          congr 1
          (first | lia | omega)
        have e2 : qs.getD (qs.length - 1) 0 = lst qs := rfl
        rw [e1, e2, Rat.div_mul_cancel hl]
        grind
      · rw [getD_out (xs := rs) (by (first | lia | omega)), getD_out (xs := qs) (by (first | lia | omega))]
        grind
theorem sm_single (g : Nat → Rat) (n m : Nat) : sm (fun i => if i = n then g i else 0) m = if n < m then g n else 0 := by
  induction m with
  | zero => rfl
  | succ m ih =>
    rw [sm_succ, ih]
    by_cases h : m = n
    · subst h
      rw [if_neg (by (first | lia | omega)), if_pos rfl, if_pos (by (first | lia | omega)), Rat.zero_add]
    · rw [if_neg h, Rat.add_zero]
      by_cases h2 : n < m
      · rw [if_pos h2, if_pos (by (first | lia | omega))]
      · rw [if_neg h2, if_neg (by (first | lia | omega))]
theorem conv_snoc (ps qs : List Rat) (f : Rat) (k : Nat) : conv (ps ++ [f]) qs k = conv ps qs k + if ps.length ≤ k then f * qs.getD (k - ps.length) 0 else 0 := by
  have e1 : (fun i => (ps ++ [f]).getD i 0 * qs.getD (k - i) 0) = fun i => ps.getD i 0 * qs.getD (k - i) 0 + if i = ps.length then f * qs.getD (k - i) 0 else 0 := by
    funext i
    by_cases h : i < ps.length
    · rw [getD_append_l h, if_neg (by (first | lia | omega)), Rat.add_zero]
    · rw [getD_append_r (by (first | lia | omega)), getD_out (xs := ps) (by (first | lia | omega)), Rat.zero_mul, Rat.zero_add]
      by_cases h2 : i = ps.length
      · subst h2
        rw [Nat.sub_self, if_pos rfl]
        rfl
      · rw [if_neg h2, getD_out (xs := [f]) (by simp; (first | lia | omega)), Rat.zero_mul]
  unfold conv
  rw [e1, sm_add, sm_single (fun i => f * qs.getD (k - i) 0)]
  congr 1
  by_cases h : ps.length ≤ k
  · rw [if_pos h, if_pos (by (first | lia | omega))]
  · rw [if_neg h, if_neg (by (first | lia | omega))]
theorem conv_nil (qs : List Rat) (k : Nat) : conv [] qs k = 0 := sm_zeros fun i _ => by rw [getD_out (xs := []) (by simp), Rat.zero_mul]
noncomputable def dv (qs : List Rat) : Nat → List Rat → List Rat × List Rat
  | 0, rs => ([], rs)
  | s + 1, rs => if rs.length < qs.length then ([], rs) else ((dv qs s (rless rs qs (lst rs / lst qs))).1 ++ [lst rs / lst qs], (dv qs s (rless rs qs (lst rs / lst qs))).2)
theorem dv_end {qs rs : List Rat} (s : Nat) (h : rs.length < qs.length) : dv qs s rs = ([], rs) := by
  cases s with
  | zero => rfl
  | succ s => rw [dv, if_pos h]
theorem dv_ok {qs : List Rat} (h0 : 0 < qs.length) (hl : lst qs ≠ 0) : ∀ (s : Nat) (rs : List Rat), rs.length ≤ s → (dv qs s rs).1.length = rs.length + 1 - qs.length ∧ (dv qs s rs).2.length < qs.length ∧ ∀ k, rs.getD k 0 = (dv qs s rs).2.getD k 0 + conv (dv qs s rs).1 qs k
  | 0, rs, h => by
    have : rs.length = 0 := by (first | lia | omega)
    refine ⟨by show 0 = _; (first | lia | omega), by show rs.length < _; (first | lia | omega), fun k => ?_⟩
    show rs.getD k 0 = rs.getD k 0 + conv [] qs k
    rw [conv_nil, Rat.add_zero]
  | s + 1, rs, h => by
    by_cases hlt : rs.length < qs.length
    · rw [dv_end _ hlt]
      refine ⟨by show 0 = _; (first | lia | omega), hlt, fun k => ?_⟩
      show rs.getD k 0 = rs.getD k 0 + conv [] qs k
      rw [conv_nil, Rat.add_zero]
    · rw [dv, if_neg hlt]
      have hle : qs.length ≤ rs.length := by (first | lia | omega)
      have l1 := rless_length (rs := rs) (lst rs / lst qs) hle h0
      obtain ⟨i1, i2, i3⟩ := dv_ok h0 hl s (rless rs qs (lst rs / lst qs)) (by (first | lia | omega))
      refine ⟨?_, i2, fun k => ?_⟩
      · show (_ ++ [_]).length = _
        rw [List.length_append, i1, l1, List.length_singleton]
        (first | lia | omega)
      · show _ = _ + conv (_ ++ [_]) qs k
        rw [conv_snoc, i1, l1, rless_getD hle h0 hl k, i3 k, show rs.length - 1 + 1 - qs.length = rs.length - qs.length by (first | lia | omega), Rat.add_assoc]
noncomputable def Ov (n : Nat) (M : Int) (q : Rat) : Prop := ∃ T : Int, Bt n T ∧ q * (M : Rat) = (T : Rat)
theorem Ov.mono {m n : Nat} {M : Int} {q : Rat} (h : Ov m M q) (l : m ≤ n) : Ov n M q := by
  obtain ⟨T, b, e⟩ := h
  exact ⟨T, b.mono l, e⟩
theorem Ov.zero {n : Nat} {M : Int} : Ov n M 0 := ⟨0, Bt.zero, by rw [Rat.zero_mul]; rfl⟩
theorem Ov.add {n : Nat} {M : Int} {p q : Rat} (h : Ov n M p) (k : Ov n M q) : Ov (n + 1) M (p + q) := by
  obtain ⟨T, b, e⟩ := h
  obtain ⟨U, c, f⟩ := k
  exact ⟨T + U, bt_add b c, by rw [Rat.add_mul, e, f, Rat.intCast_add]⟩
theorem Ov.neg {n : Nat} {M : Int} {q : Rat} (h : Ov n M q) : Ov n M (-q) := by
  obtain ⟨T, b, e⟩ := h
  exact ⟨-T, b.neg, by rw [Rat.neg_mul, e, Rat.intCast_neg]⟩
theorem Ov.sub {n : Nat} {M : Int} {p q : Rat} (h : Ov n M p) (k : Ov n M q) : Ov (n + 1) M (p - q) := by
  rw [Rat.sub_eq_add_neg]
  exact h.add k.neg
theorem Ov.scale {m n : Nat} {M Z : Int} {q : Rat} (h : Ov m M q) (k : Bt n Z) : Ov (m + n) (M * Z) q := by
  obtain ⟨T, b, e⟩ := h
  refine ⟨T * Z, b.mul k, ?_⟩
  rw [Rat.intCast_mul, Rat.intCast_mul, ← e]
  grind
theorem Ov.bq {n : Nat} {M : Int} {q : Rat} (h : Ov n M q) (h0 : M ≠ 0) (b : Bt n M) : Bq n q := by
  obtain ⟨T, c, e⟩ := h
  have n3 : (M : Rat) ≠ 0 := fun z => h0 (Rat.intCast_eq_zero_iff.mp z)
  refine bq_of h0 ?_ c b
  rw [← e, Rat.div_def, Rat.mul_assoc, Rat.mul_inv_cancel _ n3, Rat.mul_one]
theorem getD_ov {n : Nat} {M : Int} {qs : List Rat} (h : ∀ q ∈ qs, Ov n M q) (k : Nat) : Ov n M (qs.getD k 0) := by
  rw [List.getD_eq_getElem?_getD]
  by_cases hk : k < qs.length
  · rw [List.getElem?_eq_getElem hk]
    exact h _ (List.getElem_mem hk)
  · rw [List.getElem?_eq_none (by (first | lia | omega))]
    exact Ov.zero
theorem fac_ov {b c : Nat} {M D N : Int} {r L : Rat} (hr : Ov b M r) (hL : L ≠ 0) (hD : Bt c D) (eN : L * (D : Rat) = (N : Rat)) : Ov (b + c) (M * N) (r / L) := by
  obtain ⟨T, bT, e⟩ := hr
  refine ⟨T * D, bT.mul hD, ?_⟩
  rw [Rat.intCast_mul, Rat.intCast_mul, ← e, ← eN, Rat.div_def]
  have := Rat.mul_inv_cancel L hL
  generalize L⁻¹ = K at *
  generalize (M : Rat) = M' at *
  generalize (D : Rat) = D' at *
  grind
theorem less_ov {b c : Nat} {M D N : Int} {r x L y : Rat} (hr : Ov b M r) (hx : Ov b M x) (hy : Ov c D y) (hL : L ≠ 0) (bN : Bt c N) (eN : L * (D : Rat) = (N : Rat)) : Ov (b + c + 1) (M * N) (r - x / L * y) := by
  refine (hr.scale bN).sub ?_
  obtain ⟨T, bT, e⟩ := hx
  obtain ⟨U, bU, f⟩ := hy
  refine ⟨T * U, bT.mul bU, ?_⟩
  rw [Rat.intCast_mul, Rat.intCast_mul, ← e, ← f, ← eN, Rat.div_def]
  have := Rat.mul_inv_cancel L hL
  generalize L⁻¹ = K at *
  generalize (M : Rat) = M' at *
  generalize (D : Rat) = D' at *
  grind
theorem rless_ov {b c : Nat} {M D N : Int} {rs qs : List Rat} (hr : ∀ q ∈ rs, Ov b M q) (hq : ∀ q ∈ qs, Ov c D q) (hL : lst qs ≠ 0) (bN : Bt c N) (eN : lst qs * (D : Rat) = (N : Rat)) : ∀ q ∈ rless rs qs (lst rs / lst qs), Ov (b + c + 1) (M * N) q := by
  intro q hm
  rcases List.mem_append.mp hm with z | z
  · exact ((hr q (List.mem_of_mem_take z)).scale bN).mono (by (first | lia | omega))
  · obtain ⟨k, _, rfl⟩ := List.mem_map.mp z
    exact less_ov (getD_ov hr _) (getD_ov hr _) (getD_ov hq k) hL bN eN
end Po

namespace Po
open Ra Rq
theorem ev_strip (ps : List Rat) (t : Rat) : ev (strip ps) t = ev ps t := by
  induction ps with
  | nil => rfl
  | cons q qs ih =>
    rw [strip]
    cases h : strip qs with
    | nil =>
      rw [h] at ih
      have e0 : ev qs t = 0 := ih.symm
      by_cases hq : q = 0
      · simp only [hq, if_true, ev, e0]; grind
      · simp only [hq, if_false, ev, e0]
    | cons r rs =>
      rw [h] at ih
      show q + t * ev (r :: rs) t = q + t * ev qs t
      rw [ih]
theorem ev_sm (ps : List Rat) (t : Rat) (n : Nat) (h : ps.length ≤ n) : ev ps t = sm (fun i => ps.getD i 0 * t ^ i) n := by
  induction ps generalizing n with
  | nil => rw [sm_zeros fun i _ => by rw [getD_out (by simp)]; grind]; rfl
  | cons q qs ih =>
    obtain ⟨m, rfl⟩ : ∃ m, n = m + 1 := ⟨n - 1, by simp only [List.length_cons] at h; (first | lia | omega)⟩
    rw [sm_first, ev, ih m (by simp only [List.length_cons] at h; (first | lia | omega)), ← sm_mul]
    have e1 : (q :: qs).getD 0 0 * t ^ 0 = q := by rw [Rat.pow_zero, Rat.mul_one]; rfl
    rw [e1]
    congr 1
    refine sm_congr fun i _ => ?_
    have e2 : (q :: qs).getD (i + 1) 0 = qs.getD i 0 := by simp
    rw [e2, Rat.pow_succ]
    grind
theorem ev_range (f : Nat → Rat) (n : Nat) (t : Rat) : ev ((List.range n).map f) t = sm (fun i => f i * t ^ i) n := by
  rw [ev_sm _ t n (by simp)]
  exact sm_congr fun i hi => by rw [getD_range, if_pos hi]
theorem ev_padd (ps qs : List Rat) (t : Rat) : ev (padd ps qs) t = ev ps t + ev qs t := by
  unfold padd
  rw [ev_strip, ev_range, ev_sm ps t (max ps.length qs.length) (by (first | lia | omega)), ev_sm qs t (max ps.length qs.length) (by (first | lia | omega)), ← sm_add]
  exact sm_congr fun i _ => by grind
theorem ev_neg (qs : List Rat) (t : Rat) (n : Nat) : sm (fun i => -(qs.getD i 0 * t ^ i)) n = -sm (fun i => qs.getD i 0 * t ^ i) n := by
  have h := sm_mul (-1) (fun i => qs.getD i 0 * t ^ i) n
  have e : sm (fun i => -1 * (qs.getD i 0 * t ^ i)) n = sm (fun i => -(qs.getD i 0 * t ^ i)) n := sm_congr fun i _ => by grind
  rw [← e, h]
  grind
theorem ev_psub (ps qs : List Rat) (t : Rat) : ev (psub ps qs) t = ev ps t - ev qs t := by
  unfold psub
  rw [ev_strip, ev_range, ev_sm ps t (max ps.length qs.length) (by (first | lia | omega)), ev_sm qs t (max ps.length qs.length) (by (first | lia | omega)), Rat.sub_eq_add_neg, ← ev_neg, ← sm_add]
  exact sm_congr fun i _ => by grind
theorem ev_map_mul (qs : List Rat) (x t : Rat) : ev (qs.map (· * x)) t = ev qs t * x := by
  induction qs with
  | nil => simp [ev, Rat.zero_mul]
  | cons q qs ih => rw [List.map_cons, ev, ih, ev]; grind
theorem ev_pscale (qs : List Rat) (x t : Rat) : ev (pscale qs x) t = ev qs t * x := by
  unfold pscale
  rw [ev_strip, ev_map_mul]
theorem conv_cons (p : Rat) (ps qs : List Rat) (k : Nat) : conv (p :: ps) qs k = p * qs.getD k 0 + if k = 0 then 0 else conv ps qs (k - 1) := by
  unfold conv
  rw [sm_first]
  have e1 : (p :: ps).getD 0 0 * qs.getD (k - 0) 0 = p * qs.getD k 0 := rfl
  rw [e1]
  congr 1
  by_cases h : k = 0
  · subst h; rw [if_pos rfl, sm_zero]
  · rw [if_neg h]
    obtain ⟨m, rfl⟩ : ∃ m, k = m + 1 := ⟨k - 1, by (first | lia | omega)⟩
    rw [Nat.add_sub_cancel]
    refine sm_congr fun i hi => ?_
    have e2 : (p :: ps).getD (i + 1) 0 = ps.getD i 0 := by simp
    rw [e2, show m + 1 - (i + 1) = m - i by (first | lia | omega)]
theorem ev_conv (ps qs : List Rat) (t : Rat) : ∀ n, ps.length + qs.length ≤ n → sm (fun k => conv ps qs k * t ^ k) n = ev ps t * ev qs t := by
  induction ps with
  | nil => intro n _; rw [sm_zeros fun i _ => by rw [conv_nil]; grind]; simp [ev, Rat.zero_mul]
  | cons p ps ih =>
    intro n h
    simp only [List.length_cons] at h
    obtain ⟨m, rfl⟩ : ∃ m, n = m + 1 := ⟨n - 1, by (first | lia | omega)⟩
    have e1 : sm (fun k => conv (p :: ps) qs k * t ^ k) (m + 1) = sm (fun k => p * (qs.getD k 0 * t ^ k)) (m + 1) + sm (fun k => (if k = 0 then 0 else conv ps qs (k - 1)) * t ^ k) (m + 1) := by
      rw [← sm_add]
      exact sm_congr fun i _ => by rw [conv_cons]; grind
    have e2 : sm (fun k => (if k = 0 then 0 else conv ps qs (k - 1)) * t ^ k) (m + 1) = t * (ev ps t * ev qs t) := by
      rw [sm_first, if_pos rfl, Rat.zero_mul, Rat.zero_add, ← ih m (by (first | lia | omega)), ← sm_mul]
      refine sm_congr fun i _ => ?_
      rw [if_neg (by (first | lia | omega)), Nat.add_sub_cancel, Rat.pow_succ]
      grind
    rw [e1, e2, sm_mul, ← ev_sm qs t (m + 1) (by (first | lia | omega)), ev]
    grind
theorem ev_pmul (ps qs : List Rat) (t : Rat) : ev (pmul ps qs) t = ev ps t * ev qs t := by
  unfold pmul
  rw [ev_strip, ev_range, ev_conv ps qs t _ (Nat.le_refl _)]
noncomputable def dif (c : Rat) : List Rat → List Rat
  | [] => []
  | q :: qs => c * q :: dif (2 * c + 1) qs
theorem dif_length (qs : List Rat) : ∀ c, (dif c qs).length = qs.length := by
  induction qs with
  | nil => intro c; rfl
  | cons q qs ih => intro c; rw [dif, List.length_cons, ih, List.length_cons]
theorem ev_dif (qs : List Rat) (t : Rat) : ∀ c, ev (dif c qs) t = (c + 1) * ev qs (2 * t) - ev qs t := by
  induction qs with
  | nil => intro c; simp only [dif, ev]; grind
  | cons q qs ih => intro c; rw [dif, ev, ih, ev, ev]; grind
theorem dif_zero (qs : List Rat) : ∀ c, 0 < c → (∀ i, (dif c qs).getD i 0 = 0) → ∀ i, qs.getD i 0 = 0 := by
  induction qs with
  | nil => intro c _ _ i; rfl
  | cons q qs ih =>
    intro c hc h i
    cases i with
    | zero =>
      have h0 : c * q = 0 := h 0
      have : q = 0 := by
        rcases Rat.mul_eq_zero.mp h0 with z | z
        · grind
        · exact z
      exact this
    | succ i =>
      have := ih (2 * c + 1) (by grind) (fun j => by simpa [dif] using h (j + 1)) i
      simpa using this
theorem outside (S : List Rat) : ∃ t, ∀ s ∈ S, s < t := by
  induction S with
  | nil => exact ⟨0, fun s h => absurd h (by simp)⟩
  | cons x S ih =>
    obtain ⟨t, h⟩ := ih
    by_cases hx : x < t
    · exact ⟨t, fun s hs => by rcases List.mem_cons.mp hs with rfl | hs; exact hx; exact h s hs⟩
    · refine ⟨x + 1, fun s hs => ?_⟩
      rcases List.mem_cons.mp hs with rfl | hs
      · grind
      · have := h s hs; grind
theorem ev_zeros {ps : List Rat} (h : ∀ i, ps.getD i 0 = 0) (t : Rat) : ev ps t = 0 := by
  rw [ev_sm ps t ps.length (Nat.le_refl _)]
  exact sm_zeros fun i _ => by rw [h i]; grind
theorem zero_of_ev : ∀ (n : Nat) (ps S : List Rat), ps.length ≤ n → (∀ t, t ∉ S → ev ps t = 0) → ∀ i, ps.getD i 0 = 0
  | 0, ps, S, hl, _ => fun i => getD_out (by (first | lia | omega))
  | n + 1, [], S, _, _ => fun i => rfl
  | n + 1, q :: qs, S, hl, h => by
    have hq : ∀ i, qs.getD i 0 = 0 := by
      refine dif_zero qs 1 (by decide) (zero_of_ev n (dif 1 qs) (0 :: (S ++ S.map (· / 2))) (by rw [dif_length]; simp only [List.length_cons] at hl; (first | lia | omega)) fun t ht => ?_)
      have h0 : t ≠ 0 := fun z => ht (by simp [z])
      have h1 : t ∉ S := fun z => ht (by simp [z])
      have h2 : 2 * t ∉ S := fun z => ht (by
        refine List.mem_cons_of_mem _ (List.mem_append_right _ (List.mem_map.mpr ⟨2 * t, z, ?_⟩))
        grind)
      have a1 := h t h1
      have a2 := h (2 * t) h2
      rw [ev] at a1 a2
      rw [ev_dif]
      have a3 : t * ((1 + 1) * ev qs (2 * t) - ev qs t) = 0 := by grind
      rcases Rat.mul_eq_zero.mp a3 with z | z
      · exact absurd z h0
      · exact z
    obtain ⟨t, ht⟩ := outside S
    have a := h t fun z => by have := ht t z; grind
    rw [ev, ev_zeros hq] at a
    intro i
    cases i with
    | zero => show q = 0; grind
    | succ i => simpa using hq i
theorem getD_psub (ps qs : List Rat) (i : Nat) : (psub ps qs).getD i 0 = ps.getD i 0 - qs.getD i 0 := by
  unfold psub
  rw [getD_strip, getD_range]
  by_cases h : i < max ps.length qs.length
  · rw [if_pos h]
  · rw [if_neg h, getD_out (xs := ps) (by (first | lia | omega)), getD_out (xs := qs) (by (first | lia | omega))]; grind
theorem ev_inj {ps qs : List Rat} (h : ∀ t, ev ps t = ev qs t) (i : Nat) : ps.getD i 0 = qs.getD i 0 := by
  have := zero_of_ev _ (psub ps qs) [] (Nat.le_refl _) (fun t _ => by rw [ev_psub, h t]; grind) i
  rw [getD_psub] at this
  grind
theorem ev_strip_inj {ps qs : List Rat} (h : ∀ t, ev ps t = ev qs t) : strip ps = strip qs := strip_ext (ev_inj h)
noncomputable def plean (l h : List Rat) (w : Rat) : List Rat := psub l (strip (0 :: pscale h w))
noncomputable def pst (gs ws : List Rat) (h0 l0 : List Rat) : Nat → List Rat × List Rat
  | 0 => (padd h0 (pscale l0 (gs.getD 0 0)), l0)
  | k + 1 => (padd (pst gs ws h0 l0 k).1 (pscale (plean (pst gs ws h0 l0 k).2 (pst gs ws h0 l0 k).1 (ws.getD k 0)) (gs.getD (k + 1) 0)), plean (pst gs ws h0 l0 k).2 (pst gs ws h0 l0 k).1 (ws.getD k 0))
structure O2 (n : Nat) (h l : List Rat) (M : Int) : Prop where
  ne : M ≠ 0
  bm : Bt n M
  oh : ∀ q ∈ h, Ov n M q
  ol : ∀ q ∈ l, Ov n M q
end Po

namespace Po
open Ra Rq
end Po
namespace Po
open Ra Rq
end Po
namespace Po
open Ra Rq
theorem strip_last : ∀ {qs : List Rat}, strip qs = qs → ∀ {q : Rat}, qs.getLast? = some q → q ≠ 0
  | [], _, q, h => by simp at h
  | [x], h, q, e => by
    simp at e
    subst e
    intro z
    subst z
    simp [strip] at h
  | x :: y :: qs, h, q, e => by
    have h' : strip (y :: qs) = y :: qs := by
      rw [strip] at h
      cases hs : strip (y :: qs) with
      | nil => rw [hs] at h; by_cases hx : x = 0 <;> simp [hx] at h
      | cons r rs =>
        rw [hs] at h
        simp only [List.cons.injEq] at h
        obtain ⟨_, a, b⟩ := h
        rw [a, b]
    exact strip_last h' (by rw [List.getLast?_cons_cons] at e; exact e)
end Po
namespace Po
open Ra Rq
noncomputable def lprod (qs : List Rat) : Rat := qs.foldl (· * ·) 1
noncomputable def gsum (gs : List Rat) (k : Nat) : Rat := sm (fun i => gs.getD i 0) (k + 1)
noncomputable def sg (n : Nat) : Rat := ((1 - 2 * ((n : Int) % 2) : Int) : Rat)
end Po

namespace Po
open Ra Rq
theorem ev_dv {f g : List Rat} (h0 : 0 < g.length) (hl : lst g ≠ 0) (t : Rat) : ev f t = ev (dv g f.length f).1 t * ev g t + ev (dv g f.length f).2 t := by
  obtain ⟨_, _, e⟩ := dv_ok h0 hl f.length f (Nat.le_refl _)
  generalize hq : (dv g f.length f).1 = q at *
  generalize hr : (dv g f.length f).2 = r at *
  obtain ⟨n, hn⟩ : ∃ n, n = f.length + q.length + g.length + r.length := ⟨_, rfl⟩
  rw [ev_sm f t n (by (first | lia | omega)), ← ev_conv q g t n (by (first | lia | omega)), ev_sm r t n (by (first | lia | omega)), ← sm_add]
  exact sm_congr fun i _ => by rw [e i]; grind
theorem conv_last {α U : List Rat} (ha : 0 < α.length) (hb : 0 < U.length) : conv α U (α.length + U.length - 2) = lst α * lst U := by
  unfold conv lst
  obtain ⟨a, ea⟩ : ∃ a, α.length = a + 1 := ⟨α.length - 1, by (first | lia | omega)⟩
  obtain ⟨b, eb⟩ : ∃ b, U.length = b + 1 := ⟨U.length - 1, by (first | lia | omega)⟩
  rw [show α.length + U.length - 2 = a + b by (first | lia | omega), show α.length - 1 = a by (first | lia | omega), show U.length - 1 = b by (first | lia | omega)]
  have e : sm (fun i => α.getD i 0 * U.getD (a + b - i) 0) (a + b + 1) = sm (fun i => if i = a then α.getD a 0 * U.getD b 0 else 0) (a + b + 1) := by
    refine sm_congr fun i hi => ?_
    by_cases c : i = a
    · rw [if_pos c, c, show a + b - a = b by (first | lia | omega)]
    · rw [if_neg c]
      by_cases c2 : i < a
      · rw [getD_out (xs := U) (by (first | lia | omega)), Rat.mul_zero]
      · rw [getD_out (xs := α) (by (first | lia | omega)), Rat.zero_mul]
  rw [e, sm_single (fun _ => α.getD a 0 * U.getD b 0), if_pos (by (first | lia | omega))]
theorem lst_ne {p : List Rat} (h : strip p = p) (h0 : p ≠ []) : lst p ≠ 0 := by
  have hp : 0 < p.length := List.length_pos_iff.mpr h0
  have e : p.getLast? = some (lst p) := by
    rw [List.getLast?_eq_getElem?]
    unfold lst
    rw [List.getD_eq_getElem?_getD, List.getElem?_eq_getElem (by (first | lia | omega))]
    rfl
  exact strip_last h e
theorem strip_of_lst {p : List Rat} (h : lst p ≠ 0) : strip p = p := by
  rcases List.eq_nil_or_concat p with rfl | ⟨xs, x, rfl⟩
  · rfl
  · have e : lst (xs ++ [x]) = x := by
      unfold lst
      rw [List.getD_eq_getElem?_getD]
      simp
    rw [List.concat_eq_append] at *
    rw [e] at h
    exact strip_snoc h xs
theorem lst_nil : lst [] = 0 := rfl
theorem mul_nz {x y : Rat} (h : x ≠ 0) (k : y ≠ 0) : x * y ≠ 0 := fun z => (Rat.mul_eq_zero.mp z).elim h k
noncomputable def rm (f g : List Rat) : List Rat := strip (dv g f.length f).2
theorem rm_strip (f g : List Rat) : strip (rm f g) = rm f g := strip_strip _
theorem rm_len {f g : List Rat} (h0 : 0 < g.length) (hl : lst g ≠ 0) : (rm f g).length < g.length :=
  Nat.lt_of_le_of_lt (strip_length _) (dv_ok h0 hl f.length f (Nat.le_refl _)).2.1
theorem rm_ev {f g : List Rat} (h0 : 0 < g.length) (hl : lst g ≠ 0) : ∃ q, ∀ t, ev f t = ev q t * ev g t + ev (rm f g) t :=
  ⟨(dv g f.length f).1, fun t => by rw [show ev (rm f g) t = _ from ev_strip _ t]; exact ev_dv h0 hl t⟩
theorem rm_uniq {f g q r : List Rat} (h0 : 0 < g.length) (hl : lst g ≠ 0) (hr : r.length < g.length) (e : ∀ t, ev f t = ev q t * ev g t + ev r t) : rm f g = strip r := by
  obtain ⟨q', e'⟩ := rm_ev (f := f) h0 hl
  have hr' := rm_len (f := f) h0 hl
  have ed : ∀ t, ev (pmul (psub q' q) g) t = ev (psub r (rm f g)) t := fun t => by
    rw [ev_pmul, ev_psub, ev_psub]
    have := e t
    have := e' t
    grind
  have hd : psub q' q = [] := by
    refine Classical.byContradiction fun hn => ?_
    have hp : 0 < (psub q' q).length := List.length_pos_iff.mpr hn
    have hs : strip (psub q' q) = psub q' q := strip_strip _
    have h1 := ev_inj ed ((psub q' q).length + g.length - 2)
    rw [getD_pmul, conv_last hp h0, getD_psub, getD_out (by (first | lia | omega)), getD_out (by (first | lia | omega))] at h1
    have h2 : lst (psub q' q) * lst g = 0 := by rw [h1]; grind
    rcases Rat.mul_eq_zero.mp h2 with h | h
    · exact lst_ne hs hn h
    · exact hl h
  rw [← rm_strip f g]
  refine (ev_strip_inj fun t => ?_).symm
  have h1 := ed t
  rw [ev_pmul, hd, ev_psub] at h1
  have : ev [] t = 0 := rfl
  rw [this] at h1
  grind
noncomputable def sc (p : List Rat) (x : Rat) : List Rat := p.map (· * x)
noncomputable def mon (p : List Rat) : List Rat := sc p (lst p)⁻¹
theorem sc_len (p : List Rat) (x : Rat) : (sc p x).length = p.length := List.length_map _
theorem sc_getD (p : List Rat) (x : Rat) (k : Nat) : (sc p x).getD k 0 = p.getD k 0 * x := by
  unfold sc
  rw [List.getD_eq_getElem?_getD, List.getD_eq_getElem?_getD, List.getElem?_map]
  cases p[k]? with
  | none => exact (Rat.zero_mul x).symm
  | some q => rfl
theorem ev_sc (p : List Rat) (x t : Rat) : ev (sc p x) t = ev p t * x := ev_map_mul p x t
theorem lst_sc (p : List Rat) (x : Rat) : lst (sc p x) = lst p * x := by
  unfold lst
  rw [sc_len, sc_getD]
theorem sc_sc (p : List Rat) (x y : Rat) : sc (sc p x) y = sc p (x * y) := by
  unfold sc
  rw [List.map_map]
  exact List.map_congr_left fun q _ => Rat.mul_assoc q x y
theorem sc_strip {p : List Rat} {x : Rat} (h : strip p = p) (hx : x ≠ 0) : strip (sc p x) = sc p x := by
  by_cases h0 : p = []
  · rw [h0]; rfl
  · refine strip_of_lst ?_
    rw [lst_sc]
    exact mul_nz (lst_ne h h0) hx
theorem inv_ne {x : Rat} (h : x ≠ 0) : x⁻¹ ≠ 0 := fun z => by
  have := Rat.mul_inv_cancel x h
  rw [z, Rat.mul_zero] at this
  exact absurd this (by decide)
theorem rm_sc {f g : List Rat} {x y : Rat} (hg : g ≠ []) (hl : lst g ≠ 0) (hx : x ≠ 0) (hy : y ≠ 0) : rm (sc f x) (sc g y) = sc (rm f g) x := by
  have h0 : 0 < g.length := List.length_pos_iff.mpr hg
  obtain ⟨q, e⟩ := rm_ev (f := f) h0 hl
  rw [← sc_strip (rm_strip f g) hx]
  refine rm_uniq (q := sc q (x * y⁻¹)) (by rw [sc_len]; exact h0) (by rw [lst_sc]; exact mul_nz hl hy) (by rw [sc_len, sc_len]; exact rm_len h0 hl) fun t => ?_
  rw [ev_sc, ev_sc, ev_sc, ev_sc, e t]
  have : y * y⁻¹ = 1 := Rat.mul_inv_cancel y hy
  grind
theorem mon_lst {p : List Rat} (h : lst p ≠ 0) : lst (mon p) = 1 := by
  unfold mon
  rw [lst_sc]
  exact Rat.mul_inv_cancel _ h
theorem mon_nil : mon [] = [] := rfl
theorem mon_len (p : List Rat) : (mon p).length = p.length := sc_len _ _
theorem mon_sc {p : List Rat} {x : Rat} (hx : x ≠ 0) : mon (sc p x) = mon p := by
  unfold mon
  rw [sc_sc, lst_sc]
  congr 1
  by_cases h : lst p = 0
  · rw [h, Rat.zero_mul, Rat.inv_zero, Rat.mul_zero]
  · have h1 := Rat.mul_inv_cancel _ h
    have h2 := Rat.mul_inv_cancel _ (mul_nz h hx)
    grind
theorem mon_rm {f g : List Rat} (hf : lst f ≠ 0) (hg : lst g ≠ 0) : mon (rm (mon f) (mon g)) = mon (rm f g) := by
  have hg0 : g ≠ [] := fun z => hg (by rw [z]; rfl)
  unfold mon
  rw [rm_sc hg0 hg (inv_ne hf) (inv_ne hg)]
  exact mon_sc (inv_ne hf)
end Po
namespace Po
open Ra Rq
theorem pmul_strip (p c : List Rat) : strip (pmul p c) = pmul p c := strip_strip _
theorem pmul_nil (c : List Rat) : pmul [] c = [] := by
  unfold pmul
  refine strip_zeros fun i => ?_
  rw [getD_range]
  split
  · exact conv_nil c i
  · rfl
theorem len_of_lst {p : List Rat} (h : lst p ≠ 0) : 0 < p.length := List.length_pos_iff.mpr fun z => h (by rw [z]; rfl)
theorem pmul_len {p c : List Rat} (hp : lst p ≠ 0) (hc : lst c ≠ 0) : (pmul p c).length = p.length + c.length - 1 := by
  have h1 := len_of_lst hp
  have h2 := len_of_lst hc
  have et : (pmul p c).getD (p.length + c.length - 2) 0 ≠ 0 := by
    rw [getD_pmul, conv_last h1 h2]
    exact mul_nz hp hc
  have a : p.length + c.length - 2 < (pmul p c).length := Nat.lt_of_not_le fun z => et (getD_out z)
  have b : ¬ p.length + c.length - 1 < (pmul p c).length := fun z => by
    have hn : pmul p c ≠ [] := fun y => by rw [y] at z; exact absurd z (Nat.not_lt_zero _)
    refine lst_ne (pmul_strip p c) hn ?_
    unfold lst
    rw [getD_pmul, conv_out (by (first | lia | omega))]
  (first | lia | omega)
theorem lst_pmul {p c : List Rat} (hp : lst p ≠ 0) (hc : lst c ≠ 0) : lst (pmul p c) = lst p * lst c := by
  have h1 := len_of_lst hp
  have h2 := len_of_lst hc
  unfold lst
  rw [pmul_len hp hc, getD_pmul, show p.length + c.length - 1 - 1 = p.length + c.length - 2 by (first | lia | omega), conv_last h1 h2]
  rfl
theorem eq_of_ev {p q : List Rat} (hp : strip p = p) (hq : strip q = q) (h : ∀ t, ev p t = ev q t) : p = q := by
  rw [← hp, ← hq]
  exact ev_strip_inj h
theorem mon_strip {p : List Rat} (h : strip p = p) : strip (mon p) = mon p := by
  by_cases h0 : p = []
  · rw [h0]; rfl
  · exact sc_strip h (inv_ne (lst_ne h h0))
theorem mon_pmul {a c : List Rat} (ha : lst a ≠ 0) (hc : lst c ≠ 0) : mon (pmul a c) = pmul (mon a) (mon c) := by
  refine eq_of_ev (mon_strip (pmul_strip _ _)) (pmul_strip _ _) fun t => ?_
  unfold mon
  rw [ev_sc, ev_pmul, ev_pmul, ev_sc, ev_sc, lst_pmul ha hc]
  have h1 := Rat.mul_inv_cancel _ ha
  have h2 := Rat.mul_inv_cancel _ hc
  have h3 := Rat.mul_inv_cancel _ (mul_nz ha hc)
  grind
theorem mon_one {p : List Rat} (h : lst p = 1) : mon p = p := by
  unfold mon
  rw [h]
  unfold sc
  have : (1 : Rat)⁻¹ = 1 := by have := Rat.mul_inv_cancel (1 : Rat) (by decide); rw [Rat.one_mul] at this; exact this
  rw [this, List.map_congr_left (g := id) fun q _ => Rat.mul_one q, List.map_id]
theorem rm_mul {a b c : List Rat} (hb : lst b ≠ 0) (hc : lst c ≠ 0) : rm (pmul a c) (pmul b c) = pmul (rm a b) c := by
  have h0 := len_of_lst hb
  have h2 := len_of_lst hc
  obtain ⟨q, e⟩ := rm_ev (f := a) h0 hb
  rw [← pmul_strip (rm a b) c]
  have hl : lst (pmul b c) ≠ 0 := by rw [lst_pmul hb hc]; exact mul_nz hb hc
  refine rm_uniq (q := q) (len_of_lst hl) hl ?_ fun t => ?_
  · by_cases hn : rm a b = []
    · rw [hn, pmul_nil]; exact len_of_lst hl
    · rw [pmul_len (lst_ne (rm_strip a b) hn) hc, pmul_len hb hc]
      have := rm_len (f := a) h0 hb
      (first | lia | omega)
  · rw [ev_pmul, ev_pmul, ev_pmul, e t]
    grind
theorem pmul_eq_nil {p c : List Rat} (hp : strip p = p) (hc : lst c ≠ 0) : pmul p c = [] ↔ p = [] := by
  constructor
  · intro h
    refine Classical.byContradiction fun hn => ?_
    have h1 := pmul_len (lst_ne hp hn) hc
    have h2 := len_of_lst hc
    have h3 : 0 < p.length := List.length_pos_iff.mpr hn
    rw [h] at h1
    have : ([] : List Rat).length = 0 := rfl
    (first | lia | omega)
  · intro h; rw [h]; exact pmul_nil c
theorem pmul_one {p : List Rat} (hp : strip p = p) : pmul p [1] = p := by
  refine eq_of_ev (pmul_strip _ _) hp fun t => ?_
  rw [ev_pmul]
  have : ev [1] t = 1 := by show (1 : Rat) + t * 0 = 1; grind
  rw [this, Rat.mul_one]
inductive Eg : List Rat → List Rat → List Rat → Nat → Prop
  | done (u : List Rat) : Eg u [] u 1
  | more {u v h : List Rat} {N : Nat} : lst v = 1 → (rm u v = [] ∨ (lst (rm u v)).num.natAbs < 2 ^ 60) → Eg v (mon (rm u v)) h N → Eg u v h ((if rm u v = [] then 1 else (lst (rm u v)).num.natAbs) * N)
theorem one_nz : (1 : Rat) ≠ 0 := by decide
theorem Eg.mul {u v h c : List Rat} {N : Nat} (e : Eg u v h N) (hc : lst c = 1) : Eg (pmul u c) (pmul v c) (pmul h c) N := by
  have hc0 : lst c ≠ 0 := by rw [hc]; exact one_nz
  induction e with
  | done u => rw [pmul_nil]; exact .done _
  | @more u v h N hv hb _ ih =>
    have hv0 : lst v ≠ 0 := by rw [hv]; exact one_nz
    have er : rm (pmul u c) (pmul v c) = pmul (rm u v) c := rm_mul hv0 hc0
    have el : lst (pmul v c) = 1 := by rw [lst_pmul hv0 hc0, hv, hc, Rat.mul_one]
    have em : mon (pmul (rm u v) c) = pmul (mon (rm u v)) c := by
      by_cases hn : rm u v = []
      · rw [hn, pmul_nil, mon_nil, pmul_nil]
      · rw [mon_pmul (lst_ne (rm_strip u v) hn) hc0, mon_one hc]
    have eq : (rm (pmul u c) (pmul v c) = []) ↔ rm u v = [] := by rw [er]; exact pmul_eq_nil (rm_strip u v) hc0
    have e2 : ¬ rm u v = [] → lst (rm (pmul u c) (pmul v c)) = lst (rm u v) := fun hn => by rw [er, lst_pmul (lst_ne (rm_strip u v) hn) hc0, hc, Rat.mul_one]
    have eN : (if rm u v = [] then 1 else (lst (rm u v)).num.natAbs) = (if rm (pmul u c) (pmul v c) = [] then 1 else (lst (rm (pmul u c) (pmul v c))).num.natAbs) := by
      by_cases hn : rm u v = []
      · rw [if_pos hn, if_pos (eq.mpr hn)]
      · rw [if_neg hn, if_neg (fun z => hn (eq.mp z)), e2 hn]
    rw [eN]
    refine .more el ?_ (by rw [er, em]; exact ih)
    by_cases hn : rm u v = []
    · exact .inl (eq.mpr hn)
    · rw [e2 hn]
      exact .inr (hb.resolve_left hn)
noncomputable def eu : Nat → List Rat → List Rat → List Rat
  | 0, f, _ => f
  | n + 1, f, g => if g = [] then f else eu n g (rm f g)
theorem eu_nil (n : Nat) (f : List Rat) : eu n f [] = f := by
  cases n with
  | zero => rfl
  | succ n => rw [eu, if_pos rfl]
theorem Eg.eu {u v h : List Rat} {N : Nat} (e : Eg u v h N) : ∀ {f g : List Rat} {n : Nat}, u = mon f → v = mon g → lst f ≠ 0 → strip g = g → g.length ≤ n → h = mon (eu n f g) := by
  induction e with
  | done u =>
    intro f g n hu hv hf hg hn
    have : g = [] := List.map_eq_nil_iff.mp hv.symm
    rw [this, eu_nil, hu]
  | @more u v h N hv hb _ ih =>
    intro f g n hu hvg hf hg hn
    have hg0 : g ≠ [] := fun z => by
      rw [hvg, z, mon_nil] at hv
      exact absurd hv (by decide)
    have hgl := lst_ne hg hg0
    obtain ⟨n, rfl⟩ : ∃ m, n = m + 1 := ⟨n - 1, by have := List.length_pos_iff.mpr hg0; (first | lia | omega)⟩
    rw [Po.eu, if_neg hg0]
    refine ih hvg ?_ hgl (rm_strip f g) ?_
    · rw [hu, hvg]; exact mon_rm hf hgl
    · have := rm_len (f := f) (len_of_lst hgl) hgl
      (first | lia | omega)
theorem Eg.pos {u v h : List Rat} {N : Nat} (e : Eg u v h N) : 0 < N := by
  induction e with
  | done u => exact Nat.one_pos
  | @more u v h N hv hb _ ih =>
    refine Nat.mul_pos ?_ ih
    split
    · exact Nat.one_pos
    · rename_i hn
      have := lst_ne (rm_strip u v) hn
      exact Int.natAbs_pos.mpr fun z => this (num_zero.mp z)
end Po
namespace Po
open Ra Rq
theorem dvd_cop {a b c : Int} (h : a ∣ b * c) (k : Int.gcd a c = 1) : a ∣ b := by
  refine Int.natAbs_dvd_natAbs.mp (Nat.Coprime.dvd_of_dvd_mul_right k ?_)
  rw [← Int.natAbs_mul]
  exact Int.natAbs_dvd_natAbs.mpr h
theorem strip1 {x : Rat} (h : x ≠ 0) : strip [x] = [x] := strip_snoc (xs := []) h
theorem strip1z {x : Rat} (h : x = 0) : strip [x] = [] := by rw [h]; rfl
theorem strip2 {x y : Rat} (h : y ≠ 0) : strip [x, y] = [x, y] := strip_snoc (xs := [x]) h
theorem strip2z {x y : Rat} (h : y = 0) : strip [x, y] = strip [x] := by rw [h]; exact strip_snoc0 [x]
theorem lst1 (x : Rat) : lst [x] = x := rfl
theorem lst2 (x y : Rat) : lst [x, y] = y := rfl
theorem lst3 (x y z : Rat) : lst [x, y, z] = z := rfl
theorem mon1 {x : Rat} (h : x ≠ 0) : mon [x] = [1] := by
  show [x * x⁻¹] = [1]
  rw [Rat.mul_inv_cancel _ h]
theorem ev1 (x t : Rat) : ev [x] t = x := by show x + t * 0 = x; grind
theorem ev2' (x y t : Rat) : ev [x, y] t = x + t * y := by show x + t * (y + t * 0) = _; grind
theorem ev3' (x y z t : Rat) : ev [x, y, z] t = x + t * (y + t * z) := by show x + t * (y + t * (z + t * 0)) = _; grind
theorem ev0 (t : Rat) : ev [] t = 0 := rfl
theorem rm_by_one (u : List Rat) : rm u [1] = [] :=
  rm_uniq (q := u) (r := []) (by decide) (by rw [lst1]; exact one_nz) (by decide) fun t => by rw [ev1, ev0]; grind
theorem rm_less {u v : List Rat} (hv : lst v ≠ 0) (hu : strip u = u) (h : u.length < v.length) : rm u v = u :=
  (rm_uniq (q := []) (r := u) (len_of_lst hv) hv h fun t => by rw [ev0]; grind).trans hu
theorem rm22 (e e' : Rat) : rm [e, 1] [e', 1] = strip [e - e'] :=
  rm_uniq (q := [1]) (by simp) (by rw [lst2]; exact one_nz) (by simp) fun t => by rw [ev2', ev2', ev1, ev1]; grind
theorem rm32 (p q e : Rat) : rm [p, q, 1] [e, 1] = strip [p - (q - e) * e] :=
  rm_uniq (q := [q - e, 1]) (by simp) (by rw [lst2]; exact one_nz) (by simp) fun t => by rw [ev3', ev2', ev2', ev1]; grind
theorem rm33 (p q p' q' : Rat) : rm [p, q, 1] [p', q', 1] = strip [p - p', q - q'] :=
  rm_uniq (q := [1]) (by simp) (by rw [lst3]; exact one_nz) (by simp) fun t => by rw [ev3', ev3', ev2', ev1]; grind
theorem eg_end {u v : List Rat} (hv : lst v = 1) (h : rm u v = []) : Eg u v v 1 := by
  have e : Eg u v v ((if rm u v = [] then 1 else (lst (rm u v)).num.natAbs) * 1) := .more hv (.inl h) (by rw [h, mon_nil]; exact .done v)
  rw [if_pos h] at e
  exact e
theorem eg_by_one (u : List Rat) : Eg u [1] [1] 1 := eg_end rfl (rm_by_one u)
theorem eg_step {u v h r : List Rat} {N : Nat} (hv : lst v = 1) (e : rm u v = r) (hr : r ≠ []) (b : (lst r).num.natAbs < 2 ^ 60) (k : Eg v (mon r) h N) : Eg u v h ((lst r).num.natAbs * N) := by
  have e2 : Eg u v h ((if rm u v = [] then 1 else (lst (rm u v)).num.natAbs) * N) := .more hv (.inr (by rw [e]; exact b)) (by rw [e]; exact k)
  rw [e, if_neg hr] at e2
  exact e2
theorem eg_num {u v : List Rat} {x : Rat} (hv : lst v = 1) (e : rm u v = strip [x]) (b : x.num.natAbs < 2 ^ 60) : (x = 0 → Eg u v v 1) ∧ (x ≠ 0 → Eg u v [1] x.num.natAbs) := by
  refine ⟨fun h => eg_end hv (by rw [e, strip1z h]), fun h => ?_⟩
  have := eg_step (h := [1]) (N := 1) hv (e.trans (strip1 h)) (by simp) (by rw [lst1]; exact b) (by rw [mon1 h]; exact eg_by_one v)
  rw [lst1, Nat.mul_one] at this
  exact this
theorem num_le {T M : Int} {q : Rat} {n : Nat} (hM : M ≠ 0) (hq : q = (T : Rat) / (M : Rat)) (h : T.natAbs ≤ n) : q.num.natAbs ≤ n := by
  obtain ⟨d, _⟩ := dvd_of hM hq
  by_cases hT : T = 0
  · have : q = 0 := by rw [hq, hT]; simp [Rat.div_def]
    rw [this]
    exact Nat.zero_le _
  · exact Nat.le_trans (Nat.le_of_dvd (Int.natAbs_pos.mpr hT) (Int.natAbs_dvd_natAbs.mpr d)) h
theorem den_le {T M : Int} {q : Rat} {n : Nat} (hM : M ≠ 0) (hq : q = (T : Rat) / (M : Rat)) (h : M.natAbs ≤ n) : q.den ≤ n := by
  obtain ⟨_, d⟩ := dvd_of hM hq
  have := Nat.le_of_dvd (Int.natAbs_pos.mpr hM) (Int.natAbs_dvd_natAbs.mpr d)
  have e : ((q.den : Int)).natAbs = q.den := Int.natAbs_natCast _
  (first | lia | omega)
structure Sv (p : List Rat) : Prop where
  ex : ∃ A : Int, A ≠ 0 ∧ A.natAbs ≤ 30 ∧ ∀ q ∈ p, ∃ Y : Int, Y.natAbs ≤ 30 ∧ q = (Y : Rat) / (A : Rat)
theorem sv_one : Sv [1] := ⟨1, by decide, by decide, fun q hq => ⟨1, by decide, by rw [List.mem_singleton.mp hq]; exact over_one 1⟩⟩
theorem int_nz {x : Int} (h : x ≠ 0) : (x : Rat) ≠ 0 := fun z => h (Rat.intCast_eq_zero_iff.mp z)
theorem val_le {P Q A S T : Int} {n : Nat} (hA : A ≠ 0) (hT : T ≠ 0) (bP : P.natAbs ≤ 30) (bQ : Q.natAbs ≤ 30) (bA : A.natAbs ≤ 30) (bS : S.natAbs ≤ n) (bT : T.natAbs ≤ n) :
    ((P : Rat) / A - ((Q : Rat) / A - (S : Rat) / T) * ((S : Rat) / T)).num.natAbs ≤ 90 * (n * n) := by
  refine num_le (T := P * (T * T) - Q * (S * T) + A * (S * S)) (M := A * (T * T)) (Int.mul_ne_zero hA (Int.mul_ne_zero hT hT)) ?_ ?_
  · have h1 := int_nz hA
    have h2 := int_nz hT
    simp only [Rat.intCast_mul, Rat.intCast_add, Rat.intCast_sub]
    grind
  · have a1 : (P * (T * T)).natAbs ≤ 30 * (n * n) := by rw [Int.natAbs_mul, Int.natAbs_mul]; exact Nat.mul_le_mul bP (Nat.mul_le_mul bT bT)
    have a2 : (Q * (S * T)).natAbs ≤ 30 * (n * n) := by rw [Int.natAbs_mul, Int.natAbs_mul]; exact Nat.mul_le_mul bQ (Nat.mul_le_mul bS bT)
    have a3 : (A * (S * S)).natAbs ≤ 30 * (n * n) := by rw [Int.natAbs_mul, Int.natAbs_mul]; exact Nat.mul_le_mul bA (Nat.mul_le_mul bS bS)
    (first | lia | omega)
theorem dif_le {P A P' B : Int} (hA : A ≠ 0) (hB : B ≠ 0) (bP : P.natAbs ≤ 30) (bP' : P'.natAbs ≤ 30) (bA : A.natAbs ≤ 30) (bB : B.natAbs ≤ 30) : (P : Rat) / A - (P' : Rat) / B = ((P * B - P' * A : Int) : Rat) / ((A * B : Int) : Rat) ∧ (P * B - P' * A).natAbs ≤ 1800 := by
  constructor
  · have h1 := int_nz hA
    have h2 := int_nz hB
    simp only [Rat.intCast_mul, Rat.intCast_sub]
    grind
  · have a1 : (P * B).natAbs ≤ 30 * 30 := by rw [Int.natAbs_mul]; exact Nat.mul_le_mul bP bB
    have a2 : (P' * A).natAbs ≤ 30 * 30 := by rw [Int.natAbs_mul]; exact Nat.mul_le_mul bP' bA
    (first | lia | omega)
theorem root_sv {P Q A : Int} {e : Rat} (hA : A ≠ 0) (bP : P.natAbs ≤ 30) (bQ : Q.natAbs ≤ 30) (bA : A.natAbs ≤ 30) (h : (P : Rat) / A - ((Q : Rat) / A - e) * e = 0) : Sv [e, 1] := by
  obtain ⟨s, t, ht, hc, he⟩ : ∃ s t : Int, 0 < t ∧ Int.gcd s t = 1 ∧ e = (s : Rat) / (t : Rat) := ⟨e.num, e.den, den_pos e, (fq e).one, (q_eq e).symm⟩
  have h1 := int_nz hA
  have h2 : (t : Rat) ≠ 0 := int_nz (by (first | lia | omega))
  have key : A * (s * s) - Q * (s * t) + P * (t * t) = 0 := by
    refine Rat.intCast_eq_zero_iff.mp ?_
    simp only [Rat.intCast_mul, Rat.intCast_add, Rat.intCast_sub]
    rw [he] at h
    grind
  have dt : t ∣ A := by
    have d1 : t ∣ A * (s * s) := ⟨Q * s - P * t, by grind⟩
    have c1 : Int.gcd t (s * s) = 1 := by rw [Int.gcd_comm]; exact cop_mull hc hc
    exact dvd_cop d1 c1
  have bt : t.natAbs ≤ 30 := Nat.le_trans (Nat.le_of_dvd (Int.natAbs_pos.mpr hA) (Int.natAbs_dvd_natAbs.mpr dt)) bA
  have bs : s.natAbs ≤ 30 := by
    by_cases hs : s = 0
    · rw [hs]; decide
    by_cases hP : P = 0
    · have k2 : A * s = Q * t := by
        rw [hP] at key
        have : s * (A * s - Q * t) = 0 := by grind
        rcases Int.mul_eq_zero.mp this with z | z
        · exact absurd z hs
        · (first | lia | omega)
      have d1 : s ∣ Q * t := ⟨A, by rw [← k2, Int.mul_comm]⟩
      have d2 : s ∣ Q := dvd_cop d1 hc
      have hQ : Q ≠ 0 := fun z => by
        rw [z, Int.zero_mul] at k2
        exact (Int.mul_ne_zero hA hs) k2
      exact Nat.le_trans (Nat.le_of_dvd (Int.natAbs_pos.mpr hQ) (Int.natAbs_dvd_natAbs.mpr d2)) bQ
    · have d1 : s ∣ P * (t * t) := ⟨Q * t - A * s, by grind⟩
      have d2 : s ∣ P := dvd_cop d1 (cop_mul hc hc)
      exact Nat.le_trans (Nat.le_of_dvd (Int.natAbs_pos.mpr hP) (Int.natAbs_dvd_natAbs.mpr d2)) bP
  refine ⟨t, by (first | lia | omega), bt, fun q hq => ?_⟩
  rcases List.mem_cons.mp hq with rfl | hq
  · exact ⟨s, bs, he⟩
  · refine ⟨t, bt, ?_⟩
    rw [List.mem_singleton.mp hq]
    grind
noncomputable def Fin (u v : List Rat) : Prop := ∃ h N, Eg u v h N ∧ N < 2 ^ 40 ∧ Sv h ∧ lst h = 1 ∧ h.length ≤ 3
theorem fin_num {u v : List Rat} {x : Rat} (hv : lst v = 1) (sv : Sv v) (lv : v.length ≤ 3) (e : rm u v = strip [x]) (b : x.num.natAbs ≤ 300000000) : Fin u v := by
  obtain ⟨k0, k1⟩ := eg_num hv e (Nat.lt_of_le_of_lt b (by decide))
  by_cases h : x = 0
  · exact ⟨v, 1, k0 h, by decide, sv, hv, lv⟩
  · exact ⟨[1], _, k1 h, Nat.lt_of_le_of_lt b (by decide), sv_one, rfl, by decide⟩
theorem fin_one (u : List Rat) : Fin u [1] := ⟨[1], 1, eg_by_one u, by decide, sv_one, rfl, by decide⟩
theorem fin22 {e e' : Rat} (su : Sv [e, 1]) (sv : Sv [e', 1]) : Fin [e, 1] [e', 1] := by
  obtain ⟨A, hA, bA, fA⟩ := su.ex
  obtain ⟨B, hB, bB, fB⟩ := sv.ex
  obtain ⟨P, bP, eP⟩ := fA e (by simp)
  obtain ⟨P', bP', eP'⟩ := fB e' (by simp)
  refine fin_num rfl sv (by simp) (rm22 e e') ?_
  rw [eP, eP']
  obtain ⟨h1, h2⟩ := dif_le hA hB bP bP' bA bB
  exact Nat.le_trans (num_le (Int.mul_ne_zero hA hB) h1 h2) (by decide)
theorem fin32 {p q e : Rat} (su : Sv [p, q, 1]) (sv : Sv [e, 1]) : Fin [p, q, 1] [e, 1] := by
  obtain ⟨A, hA, bA, fA⟩ := su.ex
  obtain ⟨B, hB, bB, fB⟩ := sv.ex
  obtain ⟨P, bP, eP⟩ := fA p (by simp)
  obtain ⟨Q, bQ, eQ⟩ := fA q (by simp)
  obtain ⟨S, bS, eS⟩ := fB e (by simp)
  refine fin_num rfl sv (by simp) (rm32 p q e) ?_
  rw [eP, eQ, eS]
  exact Nat.le_trans (val_le hA hB bP bQ bA bS bB) (by decide)
theorem fin_turn {u v : List Rat} (hu : lst u = 1) (hv : lst v = 1) (h : u.length < v.length) (k : Fin v u) : Fin u v := by
  obtain ⟨h0, N, e, bN, s, l, m⟩ := k
  have hu0 : lst u ≠ 0 := by rw [hu]; exact one_nz
  have er := rm_less (by rw [hv]; exact one_nz) (strip_of_lst hu0) h
  have hn : u ≠ [] := fun z => hu0 (by rw [z]; rfl)
  have := eg_step hv er hn (by rw [hu]; decide) (by rw [mon_one hu]; exact e)
  rw [hu] at this
  exact ⟨h0, _, this, by show 1 * N < _; (first | lia | omega), s, l, m⟩
theorem fin33 {p q p' q' : Rat} (su : Sv [p, q, 1]) (sv : Sv [p', q', 1]) : Fin [p, q, 1] [p', q', 1] := by
  obtain ⟨A, hA, bA, fA⟩ := su.ex
  obtain ⟨B, hB, bB, fB⟩ := sv.ex
  obtain ⟨P, bP, eP⟩ := fA p (by simp)
  obtain ⟨Q, bQ, eQ⟩ := fA q (by simp)
  obtain ⟨P', bP', eP'⟩ := fB p' (by simp)
  obtain ⟨Q', bQ', eQ'⟩ := fB q' (by simp)
  obtain ⟨d1, d2⟩ := dif_le hA hB bP bP' bA bB
  obtain ⟨d3, d4⟩ := dif_le hA hB bQ bQ' bA bB
  have hAB := Int.mul_ne_zero hA hB
  rw [← eP, ← eP'] at d1
  rw [← eQ, ← eQ'] at d3
  have er := rm33 p q p' q'
  by_cases hq : q - q' = 0
  · exact fin_num rfl sv (by simp) (er.trans (strip2z hq)) (Nat.le_trans (num_le hAB d1 d2) (by decide))
  · obtain ⟨S, hS⟩ : ∃ S, S = P * B - P' * A := ⟨_, rfl⟩
    obtain ⟨T, hT⟩ : ∃ T, T = Q * B - Q' * A := ⟨_, rfl⟩
    rw [← hS] at d1 d2
    rw [← hT] at d3 d4
    have hT0 : T ≠ 0 := fun z => hq (by rw [d3, z]; simp [Rat.div_def])
    have by1 := num_le hAB d3 d4
    have ee : mon [p - p', q - q'] = [(S : Rat) / T, 1] := by
      show [(p - p') * (q - q')⁻¹, (q - q') * (q - q')⁻¹] = _
      rw [Rat.mul_inv_cancel _ hq, d1, d3]
      have n1 := int_nz hAB
      have n2 := int_nz hT0
      congr 1
      grind
    have bz := val_le hB hT0 bP' bQ' bB d2 d4
    rw [← eP', ← eQ'] at bz
    obtain ⟨k0, k1⟩ := eg_num (u := [p', q', 1]) (v := [(S : Rat) / T, 1]) rfl (rm32 _ _ _) (Nat.lt_of_le_of_lt bz (by decide))
    have stp : ∀ {h N}, Eg [p', q', 1] [(S : Rat) / T, 1] h N → Eg [p, q, 1] [p', q', 1] h ((q - q').num.natAbs * N) := fun k => eg_step rfl (er.trans (strip2 hq)) (by simp) (Nat.lt_of_le_of_lt by1 (by decide)) (by rw [ee]; exact k)
    by_cases hz : p' - (q' - (S : Rat) / T) * ((S : Rat) / T) = 0
    · refine ⟨_, _, stp (k0 hz), by (first | lia | omega), root_sv hB bP' bQ' bB (by rw [← eP', ← eQ']; exact hz), rfl, by simp⟩
    · refine ⟨_, _, stp (k1 hz), Nat.lt_of_le_of_lt (Nat.mul_le_mul by1 bz) (by decide), sv_one, rfl, by simp⟩
theorem len3 {u : List Rat} (h : lst u = 1) (l : u.length ≤ 3) : u = [1] ∨ (∃ e, u = [e, 1]) ∨ ∃ p q, u = [p, q, 1] := by
  match u, h, l with
  | [], h, _ => exact absurd h (by decide)
  | [x], h, _ => exact .inl (by rw [show x = 1 from h])
  | [x, y], h, _ => exact .inr (.inl ⟨x, by rw [show y = 1 from h]⟩)
  | [x, y, z], h, _ => exact .inr (.inr ⟨x, y, by rw [show z = 1 from h]⟩)
  | _ :: _ :: _ :: _ :: _, _, l => simp at l
theorem fin_all {u v : List Rat} (hu : lst u = 1) (hv : lst v = 1) (lu : u.length ≤ 3) (lv : v.length ≤ 3) (su : Sv u) (sv : Sv v) : Fin u v := by
  rcases len3 hv lv with rfl | ⟨e', rfl⟩ | ⟨p', q', rfl⟩
  · exact fin_one u
  · rcases len3 hu lu with rfl | ⟨e, rfl⟩ | ⟨p, q, rfl⟩
    · exact fin_turn hu hv (by simp) (fin_one _)
    · exact fin22 su sv
    · exact fin32 su sv
  · rcases len3 hu lu with rfl | ⟨e, rfl⟩ | ⟨p, q, rfl⟩
    · exact fin_turn hu hv (by simp) (fin_one _)
    · exact fin_turn hu hv (by simp) (fin32 sv su)
    · exact fin33 su sv
end Po
namespace Po
open Ra Rq
structure Dn (p : List Rat) : Prop where
  st : strip p = p
  len : p.length ≤ 3
  six : ∀ q ∈ p, ∃ Y : Int, Y.natAbs ≤ 30 ∧ q * ((6 : Int) : Rat) = (Y : Rat)
theorem dn_one : Dn [1] := ⟨by rw [strip1 one_nz], by decide, fun q hq => ⟨6, by decide, by rw [List.mem_singleton.mp hq, Rat.one_mul]⟩⟩
theorem lst_mem {p : List Rat} (h : p ≠ []) : lst p ∈ p := by
  have hp := List.length_pos_iff.mpr h
  unfold lst
  rw [List.getD_eq_getElem?_getD, List.getElem?_eq_getElem (by (first | lia | omega))]
  exact List.getElem_mem _
theorem sv_mon {p : List Rat} (d : Dn p) (h : p ≠ []) : Sv (mon p) := by
  obtain ⟨A, bA, eA⟩ := d.six _ (lst_mem h)
  have hl := lst_ne d.st h
  have n6 : ((6 : Int) : Rat) ≠ 0 := int_nz (by decide)
  have hA : A ≠ 0 := fun z => by
    rw [z] at eA
    exact mul_nz hl n6 eA
  refine ⟨A, hA, bA, fun q hq => ?_⟩
  obtain ⟨x, hx, rfl⟩ := List.mem_map.mp hq
  obtain ⟨Y, bY, eY⟩ := d.six x hx
  refine ⟨Y, bY, ?_⟩
  have h1 := Rat.mul_inv_cancel _ hl
  have h2 := int_nz hA
  show x * (lst p)⁻¹ = _
  generalize lst p = l at *
  generalize (A : Rat) = a at *
  generalize (Y : Rat) = y at *
  generalize ((6 : Int) : Rat) = s at *
  generalize l⁻¹ = k at *
  grind
noncomputable def Cb (n : Nat) (A : Int) (q : Rat) : Prop := ∃ T : Int, T.natAbs ≤ n ∧ q * (A : Rat) = (T : Rat)
theorem Cb.getD {n : Nat} {A : Int} {ps : List Rat} (h : ∀ q ∈ ps, Cb n A q) (k : Nat) : Cb n A (ps.getD k 0) := by
  rw [List.getD_eq_getElem?_getD]
  cases e : ps[k]? with
  | none => exact ⟨0, Nat.zero_le _, by show (0 : Rat) * _ = _; rw [Rat.zero_mul]; rfl⟩
  | some q => exact h q (List.mem_of_getElem? e)
theorem conv_cb {ps qs : List Rat} {A B : Int} (hp : ∀ q ∈ ps, Cb 30 A q) (hq : ∀ q ∈ qs, Cb 30 B q) (lp : ps.length ≤ 3) (k : Nat) : Cb 2700 (A * B) (conv ps qs k) := by
  have key : ∀ n, Cb (900 * min n 3) (A * B) (sm (fun i => ps.getD i 0 * qs.getD (k - i) 0) n) := by
    intro n
    induction n with
    | zero => exact ⟨0, Nat.zero_le _, by rw [sm_zero, Rat.zero_mul]; rfl⟩
    | succ n ih =>
      obtain ⟨T, bT, eT⟩ := ih
      rw [sm_succ]
      by_cases hn : 3 ≤ n
      · rw [getD_out (xs := ps) (by (first | lia | omega)), Rat.zero_mul, Rat.add_zero]
        exact ⟨T, by (first | lia | omega), eT⟩
      · obtain ⟨Y, bY, eY⟩ := Cb.getD hp n
        obtain ⟨Z, bZ, eZ⟩ := Cb.getD hq (k - n)
        refine ⟨T + Y * Z, ?_, ?_⟩
        · have : (Y * Z).natAbs ≤ 30 * 30 := by rw [Int.natAbs_mul]; exact Nat.mul_le_mul bY bZ
          (first | lia | omega)
        · rw [Rat.intCast_add, Rat.intCast_mul Y Z, ← eT, ← eY, ← eZ, Rat.intCast_mul]
          generalize sm _ n = x
          grind
  obtain ⟨T, bT, eT⟩ := key (k + 1)
  exact ⟨T, by (first | lia | omega), eT⟩
theorem pmul_cb {ps qs : List Rat} {A B : Int} (hp : ∀ q ∈ ps, Cb 30 A q) (hq : ∀ q ∈ qs, Cb 30 B q) (lp : ps.length ≤ 3) : ∀ q ∈ pmul ps qs, Cb 2700 (A * B) q := fun q h => by
  obtain ⟨k, _, rfl⟩ := List.mem_map.mp (strip_mem h)
  exact conv_cb hp hq lp k
theorem Sv.cb {p : List Rat} (h : Sv p) : ∃ A : Int, A ≠ 0 ∧ A.natAbs ≤ 30 ∧ ∀ q ∈ p, Cb 30 A q := by
  obtain ⟨A, hA, bA, f⟩ := h.ex
  refine ⟨A, hA, bA, fun q hq => ?_⟩
  obtain ⟨Y, bY, e⟩ := f q hq
  have := int_nz hA
  exact ⟨Y, bY, by rw [e]; grind⟩
theorem cb_q {n : Nat} {A : Int} {q : Rat} (hA : A ≠ 0) (h : Cb n A q) : q.num.natAbs ≤ n ∧ q.den ≤ A.natAbs := by
  obtain ⟨T, bT, e⟩ := h
  have n1 := int_nz hA
  have e2 : q = (T : Rat) / (A : Rat) := by rw [← e]; grind
  exact ⟨num_le hA e2 bT, den_le hA e2 (Nat.le_refl _)⟩
structure Com (f g h : List Rat) (N : Nat) : Prop where
  eg : Eg (mon f) (mon g) h N
  most : N < 2 ^ 40
  ov : ∃ D : Int, D ≠ 0 ∧ D.natAbs ≤ 900 ∧ ∀ q ∈ h, Cb 2700 D q
  one : lst h = 1
  len : h.length ≤ 5
theorem com_all {a b c : List Rat} (da : Dn a) (db : Dn b) (dc : Dn c) (na : a ≠ []) (nb : b ≠ []) (nc : c ≠ []) : ∃ h N, Com (pmul a c) (pmul b c) h N := by
  have la := lst_ne da.st na
  have lb := lst_ne db.st nb
  have lc := lst_ne dc.st nc
  obtain ⟨h, N, e, bN, s, l, m⟩ := fin_all (mon_lst la) (mon_lst lb) (by rw [mon_len]; exact da.len) (by rw [mon_len]; exact db.len) (sv_mon da na) (sv_mon db nb)
  obtain ⟨A, hA, bA, fA⟩ := s.cb
  obtain ⟨C, hC, bC, fC⟩ := (sv_mon dc nc).cb
  have lh : lst h ≠ 0 := by rw [l]; exact one_nz
  have lmc : lst (mon c) = 1 := mon_lst lc
  have lmc0 : lst (mon c) ≠ 0 := by rw [lmc]; exact one_nz
  refine ⟨pmul h (mon c), N, by rw [mon_pmul la lc, mon_pmul lb lc]; exact e.mul lmc, bN, ⟨A * C, Int.mul_ne_zero hA hC, ?_, pmul_cb fA fC m⟩, by rw [lst_pmul lh lmc0, l, lmc, Rat.mul_one], ?_⟩
  · rw [Int.natAbs_mul]
    exact Nat.mul_le_mul bA bC
  · rw [pmul_len lh lmc0, mon_len]
    have := dc.len
    (first | lia | omega)
theorem pmul_dn {a c : List Rat} (da : Dn a) (dc : Dn c) : (∀ q ∈ pmul a c, Cb 2700 36 q) ∧ (a ≠ [] → c ≠ [] → Cb 900 36 (lst (pmul a c))) := by
  refine ⟨pmul_cb (A := 6) (B := 6) da.six dc.six da.len, fun na nc => ?_⟩
  obtain ⟨Y, bY, eY⟩ := da.six _ (lst_mem na)
  obtain ⟨Z, bZ, eZ⟩ := dc.six _ (lst_mem nc)
  rw [lst_pmul (lst_ne da.st na) (lst_ne dc.st nc)]
  refine ⟨Y * Z, by rw [Int.natAbs_mul]; exact Nat.mul_le_mul bY bZ, ?_⟩
  rw [Rat.intCast_mul, ← eY, ← eZ, show ((36 : Int) : Rat) = ((6 : Int) : Rat) * ((6 : Int) : Rat) by rw [← Rat.intCast_mul]; rfl]
  grind
theorem Eg.parts {u v h : List Rat} {N : Nat} (e : Eg u v h N) : ∃ q1 q2, ∀ t, ev u t = ev q1 t * ev h t ∧ ev v t = ev q2 t * ev h t := by
  induction e with
  | done u => exact ⟨[1], [], fun t => ⟨by rw [ev1, Rat.one_mul], by rw [ev0, Rat.zero_mul]⟩⟩
  | @more u v h N hv hb _ ih =>
    obtain ⟨q1, q2, e⟩ := ih
    have hv0 : lst v ≠ 0 := by rw [hv]; exact one_nz
    obtain ⟨Q, eQ⟩ := rm_ev (f := u) (len_of_lst hv0) hv0
    refine ⟨padd (pmul Q q1) (pscale q2 (lst (rm u v))), q1, fun t => ⟨?_, (e t).1⟩⟩
    have er : ev (rm u v) t = ev (mon (rm u v)) t * lst (rm u v) := by
      by_cases hn : rm u v = []
      · rw [hn, ev0, lst_nil, Rat.mul_zero]
      · unfold mon
        rw [ev_sc]
        have := Rat.mul_inv_cancel _ (lst_ne (rm_strip u v) hn)
        grind
    have h1 := (e t).1
    have h2 := (e t).2
    rw [eQ t, er, ev_padd, ev_pmul, ev_pscale, h1, h2]
    grind
theorem Com.rests {f g h : List Rat} {N : Nat} (c : Com f g h N) (lf : lst f ≠ 0) (lg : lst g ≠ 0) : rm f h = [] ∧ rm g h = [] := by
  obtain ⟨q1, q2, e⟩ := c.eg.parts
  have lh : lst h ≠ 0 := by rw [c.one]; exact one_nz
  have one : ∀ {p q : List Rat}, lst p ≠ 0 → (∀ t, ev (mon p) t = ev q t * ev h t) → rm p h = [] := fun {p q} lp k => by
    refine rm_uniq (q := sc q (lst p)) (r := []) (len_of_lst lh) lh (len_of_lst lh) fun t => ?_
    have := k t
    unfold mon at this
    rw [ev_sc] at this
    rw [ev_sc, ev0]
    have := Rat.mul_inv_cancel _ lp
    grind
  exact ⟨one lf fun t => (e t).1, one lg fun t => (e t).2⟩
end Po
namespace Po
open Ra Rq
noncomputable def Rc (m r : Int) (q : Rat) : Prop := Int.gcd q.den m = 1 ∧ m ∣ r * q.den - q.num
structure Rp (m r : Int) (q : Rat) : Prop where
  lo : 0 ≤ r
  hi : r < m
  c : Rc m r q
theorem rc_of {m r T M : Int} {q : Rat} (hM : M ≠ 0) (hq : q = (T : Rat) / (M : Rat)) (c : Int.gcd M m = 1) (d : m ∣ r * M - T) : Rc m r q := by
  obtain ⟨_, k, hk⟩ := dvd_of hM hq
  have hd := den_ne q
  have hd0 : (q.den : Int) ≠ 0 := by have := den_pos q; (first | lia | omega)
  have hk0 : k ≠ 0 := fun z => hM (by rw [hk, z, Int.mul_zero])
  have eT : T = q.num * k := by
    have h1 : (T : Rat) = q * (M : Rat) := by
      have := int_nz hM
      rw [hq]; grind
    have h2 := q_eq q
    have h3 : (T : Rat) = ((q.num * k : Int) : Rat) := by
      rw [h1, hk, Rat.intCast_mul, Rat.intCast_mul]
      generalize ((q.den : Int) : Rat) = x at *
      generalize (q.num : Rat) = y at *
      rw [← h2]
      grind
    exact Rat.intCast_inj.mp h3
  refine ⟨cop_dvd c ⟨k, hk⟩, ?_⟩
  refine dvd_cop (c := k) ?_ (by rw [Int.gcd_comm]; exact cop_dvd c ⟨q.den, by rw [hk, Int.mul_comm]⟩)
  obtain ⟨x, hx⟩ := d
  exact ⟨x, by rw [hk, eT] at hx; rw [← hx]; grind⟩
theorem rc_mod {m r : Int} {q : Rat} (h : Rc m r q) : Rc m (r % m) q := by
  refine ⟨h.1, ?_⟩
  obtain ⟨x, hx⟩ := h.2
  have e := Int.mul_ediv_add_emod r m
  exact ⟨x - r / m * q.den, by grind⟩
theorem rp_mod {m r : Int} {q : Rat} (hm : 0 < m) (h : Rc m r q) : Rp m (r % m) q := ⟨Int.emod_nonneg _ (by (first | lia | omega)), Int.emod_lt_of_pos _ hm, rc_mod h⟩
theorem rc_less {m r x y : Int} {a b c : Rat} (ha : Rc m r a) (hb : Rc m x b) (hc : Rc m y c) : Rc m (r - x * y) (a - b * c) := by
  have n1 := den_pos a
  have n2 := den_pos b
  have n3 := den_pos c
  refine rc_of (T := a.num * (b.den * c.den) - b.num * c.num * a.den) (M := a.den * (b.den * c.den)) (Int.mul_ne_zero (by (first | lia | omega)) (Int.mul_ne_zero (by (first | lia | omega)) (by (first | lia | omega)))) ?_ (cop_mull ha.1 (cop_mull hb.1 hc.1)) ?_
  · have e1 := q_eq a
    have e2 := q_eq b
    have e3 := q_eq c
    have m1 := den_ne a
    have m2 := den_ne b
    have m3 := den_ne c
    simp only [Rat.intCast_mul, Rat.intCast_sub]
    generalize ((a.den : Int) : Rat) = d1 at *
    generalize ((b.den : Int) : Rat) = d2 at *
    generalize ((c.den : Int) : Rat) = d3 at *
    generalize (a.num : Rat) = x1 at *
    generalize (b.num : Rat) = x2 at *
    generalize (c.num : Rat) = x3 at *
    rw [← e1, ← e2, ← e3]
    grind
  · obtain ⟨k1, e1⟩ := ha.2
    obtain ⟨k2, e2⟩ := hb.2
    obtain ⟨k3, e3⟩ := hc.2
    generalize (a.den : Int) = d1 at *
    generalize (b.den : Int) = d2 at *
    generalize (c.den : Int) = d3 at *
    exact ⟨k1 * (d2 * d3) - d1 * (d3 * y * k2 + b.num * k3), by grind⟩
theorem rc_quot {m r l i : Int} {a L : Rat} (ha : Rc m r a) (hl : Rc m l L) (h0 : L ≠ 0) (hi : m ∣ i * l - 1) (hc : Int.gcd L.num m = 1) : Rc m (r * i) (a * L⁻¹) := by
  have n1 := den_pos a
  have n2 : L.num ≠ 0 := fun z => h0 (num_zero.mp z)
  refine rc_of (T := a.num * L.den) (M := a.den * L.num) (Int.mul_ne_zero (by (first | lia | omega)) n2) ?_ (cop_mull ha.1 hc) ?_
  · have e1 := q_eq a
    have e2 := q_eq L
    have m1 := den_ne a
    have m2 := den_ne L
    have m3 := int_nz n2
    have m4 := Rat.mul_inv_cancel _ h0
    simp only [Rat.intCast_mul]
    generalize ((a.den : Int) : Rat) = d1 at *
    generalize ((L.den : Int) : Rat) = d2 at *
    generalize (a.num : Rat) = x1 at *
    generalize (L.num : Rat) = x2 at *
    generalize L⁻¹ = z at *
    rw [← e1]
    have : z = d2 / x2 := by grind
    rw [this]
    grind
  · obtain ⟨k1, e1⟩ := ha.2
    obtain ⟨k2, e2⟩ := hl.2
    obtain ⟨k3, e3⟩ := hi
    generalize (a.den : Int) = d1 at *
    generalize (L.den : Int) = d2 at *
    exact ⟨k1 * i * L.num - a.num * i * k2 + a.num * d2 * k3, by grind⟩
theorem rp_zero {m r : Int} (h : Rp m r 0) : r = 0 := by
  have d := h.c.2
  have e : r * ((0 : Rat).den : Int) - (0 : Rat).num = r := by
    show r * 1 - 0 = r
    (first | lia | omega)
  rw [e] at d
  have := h.lo
  have := h.hi
  refine Classical.byContradiction fun hn => ?_
  have := Nat.le_of_dvd (Int.natAbs_pos.mpr hn) (Int.natAbs_dvd_natAbs.mpr d)
  (first | lia | omega)
theorem rp_nz {m r : Int} {q : Rat} (h : Rp m r q) (h0 : q ≠ 0) (b : (q.num.natAbs : Int) < m) : r ≠ 0 := fun z => by
  have d := h.c.2
  rw [z, Int.zero_mul, Int.zero_sub] at d
  have d2 : m ∣ q.num := by
    obtain ⟨k, hk⟩ := d
    exact ⟨-k, by rw [Int.mul_neg, ← hk, Int.neg_neg]⟩
  have hn : q.num ≠ 0 := fun y => h0 (num_zero.mp y)
  have := Nat.le_of_dvd (Int.natAbs_pos.mpr hn) (Int.natAbs_dvd_natAbs.mpr d2)
  (first | lia | omega)
theorem rc_cop {m r : Int} {q : Rat} (h : Rc m r q) : Int.gcd r m = 1 ↔ Int.gcd q.num m = 1 := by
  obtain ⟨c, k, e⟩ := h
  have e2 : r * (q.den : Int) = q.num + k * m := by grind
  constructor
  · intro hr
    have h1 : Int.gcd (r * (q.den : Int)) m = 1 := cop_mull hr c
    rw [e2] at h1
    rw [Int.gcd_add_mul_right_left] at h1
    exact h1
  · intro hq
    have h1 : Int.gcd (q.num + k * m) m = 1 := cop_add hq
    rw [← e2] at h1
    exact cop_dvd h1 ⟨_, rfl⟩
theorem rc_int (m w : Int) : Rc m w (w : Rat) := by
  refine ⟨?_, 0, ?_⟩
  · show Int.gcd ((1 : Nat) : Int) m = 1
    exact Int.one_gcd
  · show w * ((1 : Nat) : Int) - w = m * 0
    (first | lia | omega)
structure SmI (x m b bf r t : Int) : Prop where
  lo : 0 ≤ r
  hi : r < b
  le : b ≤ m
  g : Int.gcd b r = Int.gcd m x
  ex : ∃ s s' e F B : Int, r = s * m + t * x ∧ b = s' * m + bf * x ∧ (e = 1 ∨ e = -1) ∧ t = e * F ∧ bf = -(e * B) ∧ 0 < F ∧ 0 ≤ B ∧ F * b + B * r = m ∧ (s' * t - s * bf = 1 ∨ s' * t - s * bf = -1)
theorem SmI.start {x m : Int} (h0 : 0 ≤ x) (h1 : x < m) : SmI x m m 0 x 1 :=
  ⟨h0, h1, Int.le_refl _, rfl, 0, 1, 1, 1, 0, by (first | lia | omega), by (first | lia | omega), .inl rfl, rfl, by (first | lia | omega), by (first | lia | omega), by (first | lia | omega), by (first | lia | omega), .inl (by (first | lia | omega))⟩
theorem SmI.step {x m b bf r t : Int} (h : SmI x m b bf r t) (hr : 0 < r) : SmI x m r t (b - b / r * r) (bf - b / r * t) := by
  obtain ⟨lo, hi, le, g, s, s', e, F, B, e1, e2, he, e3, e4, hF, hB, e5, e6⟩ := h
  have em : b - b / r * r = b % r := by
    have := Int.mul_ediv_add_emod b r
    rw [Int.mul_comm] at this
    (first | lia | omega)
  have hq : 0 ≤ b / r := Int.ediv_nonneg (by (first | lia | omega)) lo
  refine ⟨by rw [em]; exact Int.emod_nonneg _ (by (first | lia | omega)), by rw [em]; exact Int.emod_lt_of_pos _ hr, by (first | lia | omega), ?_, s' - b / r * s, s, -e, B + b / r * F, F, ?_, e1, by (first | lia | omega), ?_, ?_, ?_, by (first | lia | omega), ?_, ?_⟩
  · have := g_step (a := b) (b := r) (by (first | lia | omega)) hr
    unfold Ra.g at this
    rw [em, ← g]
    exact Int.ofNat.inj this
  · rw [e2, e1]; grind
  · rw [e3, e4]; grind
  · rw [e3]; grind
  · have : 0 ≤ b / r * F := Int.mul_nonneg hq (by (first | lia | omega))
    have : 1 ≤ b / r := Int.le_ediv_of_mul_le hr (by (first | lia | omega))
    have : 0 < b / r := by (first | lia | omega)
    have : 0 < b / r * F := Int.mul_pos this hF
    (first | lia | omega)
  · grind
  · rcases e6 with e6 | e6
    · exact .inr (by grind)
    · exact .inl (by grind)
structure Sm (x m most r t : Int) : Prop where
  lo : 0 ≤ r
  hi : r ≤ most
  inv : Int.gcd x m = 1 → 1 < m → most = 1 → r = 1
  tb : t.natAbs * (most.natAbs + 1) ≤ m.natAbs
  ex : ∃ s s' b : Int, r = s * m + t * x ∧ (s' * t - s * b = 1 ∨ s' * t - s * b = -1)
theorem SmI.fin {x m b bf r t most : Int} (h : SmI x m b bf r t) (hr : r ≤ most) (hb : most < b) : Sm x m most r t := by
  obtain ⟨lo, hi, le, g, s, s', e, F, B, e1, e2, he, e3, e4, hF, hB, e5, e6⟩ := h
  refine ⟨lo, hr, fun hc hm h1 => ?_, ?_, s, s', bf, e1, e6⟩
  · rw [Int.gcd_comm] at hc
    rw [hc] at g
    refine Classical.byContradiction fun hn => ?_
    have : r = 0 := by (first | lia | omega)
    rw [this, Int.gcd_zero] at g
    (first | lia | omega)
  · have ht : t.natAbs = F.natAbs := by rw [e3]; rcases he with rfl | rfl <;> (first | lia | omega)
    have hbr : 0 ≤ B * r := Int.mul_nonneg hB lo
    have h1 : F * b ≤ m := by (first | lia | omega)
    have h2 : F * (most + 1) ≤ F * b := Int.mul_le_mul_of_nonneg_left (by (first | lia | omega)) (by (first | lia | omega))
    have h3 : F * (most + 1) ≤ m := by (first | lia | omega)
    rw [ht]
    have e7 : F.natAbs * (most.natAbs + 1) = (F * (most + 1)).natAbs := by
      rw [Int.natAbs_mul]
      congr 1
      (first | lia | omega)
    have : 0 ≤ F * (most + 1) := Int.mul_nonneg (by (first | lia | omega)) (by (first | lia | omega))
    (first | lia | omega)
theorem Sm.inverse {x m r t : Int} (h : Sm x m 1 r t) (hm : 1 < m) : (r = 1 ↔ Int.gcd x m = 1) ∧ (r = 1 → m ∣ t * x - 1) := by
  obtain ⟨s, s', b, e1, e2⟩ := h.ex
  refine ⟨⟨fun hr => ?_, fun hc => h.inv hc hm rfl⟩, fun hr => ⟨-s, by grind⟩⟩
  have d1 : (Int.gcd x m : Int) ∣ x := Int.gcd_dvd_left x m
  have d2 : (Int.gcd x m : Int) ∣ m := Int.gcd_dvd_right x m
  have d3 : (Int.gcd x m : Int) ∣ 1 := by
    rw [← hr, e1]
    exact Int.dvd_add (Int.dvd_mul_of_dvd_right d2) (Int.dvd_mul_of_dvd_right d1)
  have := Int.natAbs_dvd_natAbs.mpr d3
  exact Nat.dvd_one.mp this
theorem Sm.found {x m most r t : Int} {q : Rat} (h : Sm x m most r t) (hx : Rp m x q) (hm : 0 < m) (h0 : 0 < most) (b : (most + 1) * most * q.den + m * q.num.natAbs < m * (most + 1)) : t ≠ 0 ∧ t.natAbs = q.den ∧ q = (r : Rat) / (t : Rat) := by
  obtain ⟨s, s', bb, e1, e2⟩ := h.ex
  obtain ⟨_, w, ew⟩ := hx.c
  have hd := den_pos q
  have lo := h.lo
  have hi := h.hi
  have tb := h.tb
  have ma : (most.natAbs : Int) = most := by (first | lia | omega)
  have mm : (m.natAbs : Int) = m := by (first | lia | omega)
  -- the rest times the bottom is the factor times the top
  have key : r * q.den = t * q.num := by
    refine Classical.byContradiction fun hn => ?_
    have d : m ∣ r * q.den - t * q.num := ⟨s * q.den + t * w, by rw [e1]; grind⟩
    have hne : r * q.den - t * q.num ≠ 0 := by (first | lia | omega)
    have h1 := Nat.le_of_dvd (Int.natAbs_pos.mpr hne) (Int.natAbs_dvd_natAbs.mpr d)
    have h2 : (r * q.den - t * q.num).natAbs ≤ r.natAbs * q.den + t.natAbs * q.num.natAbs := by
      have a1 := Int.natAbs_sub_le (r * q.den) (t * q.num)
      rw [Int.natAbs_mul, Int.natAbs_mul, Int.natAbs_natCast] at a1
      exact a1
    have h3 : (most.natAbs + 1) * m.natAbs ≤ (most.natAbs + 1) * (r.natAbs * q.den) + m.natAbs * q.num.natAbs := by
      have c1 : (most.natAbs + 1) * m.natAbs ≤ (most.natAbs + 1) * (r.natAbs * q.den + t.natAbs * q.num.natAbs) := Nat.mul_le_mul_left _ (Nat.le_trans h1 h2)
      have c2 : (most.natAbs + 1) * (t.natAbs * q.num.natAbs) ≤ m.natAbs * q.num.natAbs := by
        rw [← Nat.mul_assoc, Nat.mul_comm (most.natAbs + 1)]
        exact Nat.mul_le_mul_right _ tb
      rw [Nat.mul_add] at c1
      (first | lia | omega)
    have h4 : (most.natAbs + 1) * (r.natAbs * q.den) ≤ (most.natAbs + 1) * (most.natAbs * q.den) := Nat.mul_le_mul_left _ (Nat.mul_le_mul_right _ (by (first | lia | omega)))
    have b2 : (most.natAbs + 1) * (most.natAbs * q.den) + m.natAbs * q.num.natAbs < (most.natAbs + 1) * m.natAbs := by
      have e : (((most.natAbs + 1) * (most.natAbs * q.den) + m.natAbs * q.num.natAbs : Nat) : Int) < (((most.natAbs + 1) * m.natAbs : Nat) : Int) := by
        push_cast
        rw [ma, mm, ← Int.mul_assoc, Int.mul_comm (most + 1) m]
        exact b
      (first | lia | omega)
    (first | lia | omega)
  have hc := (fq q).one
  obtain ⟨k, ek⟩ : (q.den : Int) ∣ t := by
    have : (q.den : Int) ∣ t * q.num := ⟨r, by rw [← key, Int.mul_comm]⟩
    exact dvd_cop this (by rw [Int.gcd_comm]; exact hc)
  have er : r = k * q.num := by
    have : r * q.den = k * q.num * q.den := by rw [key, ek]; grind
    exact Int.eq_of_mul_eq_mul_right (by (first | lia | omega)) this
  have es : s = -(k * w) := by
    have : (s + k * w) * m = 0 := by grind
    rcases Int.mul_eq_zero.mp this with z | z
    · (first | lia | omega)
    · (first | lia | omega)
  have k1 : k = 1 ∨ k = -1 := by
    have : k ∣ 1 := by
      rcases e2 with e2 | e2
      · exact ⟨s' * q.den + w * bb, by rw [← e2, ek, es]; grind⟩
      · exact ⟨-(s' * q.den + w * bb), by rw [show (1 : Int) = -(-1) by decide, ← e2, ek, es]; grind⟩
    have := Int.natAbs_dvd_natAbs.mpr this
    have := Nat.dvd_one.mp this
    (first | lia | omega)
  have ht : t.natAbs = q.den := by rw [ek, Int.natAbs_mul]; rcases k1 with rfl | rfl <;> simp
  have ht0 : t ≠ 0 := by (first | lia | omega)
  refine ⟨ht0, ht, ?_⟩
  have e3 := q_eq q
  have n1 := den_ne q
  have n2 := int_nz ht0
  have e4 : (r : Rat) * ((q.den : Int) : Rat) = (t : Rat) * (q.num : Rat) := by rw [← Rat.intCast_mul, ← Rat.intCast_mul, key]
  generalize ((q.den : Int) : Rat) = d at *
  generalize (q.num : Rat) = n at *
  rw [← e3]
  grind
noncomputable def rt (j : Nat) : Nat := 2 ^ (32 * 2 ^ j)
noncomputable def md (j : Nat) : Nat := rt j * rt j + 1
theorem rt_succ (j : Nat) : rt (j + 1) = rt j * rt j := by
  unfold rt
  rw [← Nat.pow_add]
  congr 1
  rw [Nat.pow_succ]
  (first | lia | omega)
theorem md_cop : ∀ j, j < 7 → ∀ i, i < j → Nat.gcd (md i) (md j) = 1 := by decide +kernel
theorem md_div : ∀ j, j < 7 → ∀ d, d < 512 → d < 2 ∨ md j % d ≠ 0 := by decide +kernel
theorem g_ge {N j : Nat} (hj : j < 7) (h : Nat.gcd N (md j) ≠ 1) (h0 : 0 < N) : 512 ≤ Nat.gcd N (md j) := by
  refine Nat.le_of_not_lt fun hl => ?_
  have hp : 0 < Nat.gcd N (md j) := Nat.gcd_pos_of_pos_left _ h0
  rcases md_div j hj _ hl with h1 | h1
  · (first | lia | omega)
  · exact h1 (Nat.mod_eq_zero_of_dvd (Nat.gcd_dvd_right _ _))
theorem some_good {N : Nat} (h0 : 0 < N) (hN : N < 2 ^ 63) : ∃ j, j < 7 ∧ Nat.gcd N (md j) = 1 := by
  refine Classical.byContradiction fun hn => ?_
  have no : ∀ j, j < 7 → Nat.gcd N (md j) ≠ 1 := fun j hj z => hn ⟨j, hj, z⟩
  have key : ∀ n, n ≤ 7 → ∃ P, P ∣ N ∧ 512 ^ n ≤ P ∧ ∀ j, n ≤ j → j < 7 → Nat.Coprime P (md j) := by
    intro n
    induction n with
    | zero => exact fun _ => ⟨1, Nat.one_dvd _, by decide, fun j _ _ => Nat.gcd_one_left _⟩
    | succ n ih =>
      intro hn
      obtain ⟨P, d, b, c⟩ := ih (by (first | lia | omega))
      refine ⟨P * Nat.gcd N (md n), ?_, ?_, fun j h1 h2 => ?_⟩
      · exact Nat.Coprime.mul_dvd_of_dvd_of_dvd (Nat.Coprime.coprime_dvd_right (Nat.gcd_dvd_right N (md n)) (c n (by (first | lia | omega)) (by (first | lia | omega)))) d (Nat.gcd_dvd_left _ _)
      · rw [Nat.pow_succ]
        exact Nat.mul_le_mul b (g_ge (by (first | lia | omega)) (no n (by (first | lia | omega))) h0)
      · exact Nat.Coprime.mul_left (c j (by (first | lia | omega)) h2) (Nat.Coprime.coprime_dvd_left (Nat.gcd_dvd_right N (md n)) (md_cop j h2 n (by (first | lia | omega))))
  obtain ⟨P, d, b, _⟩ := key 7 (by (first | lia | omega))
  have := Nat.le_of_dvd h0 d
  have e : (512 : Nat) ^ 7 = 2 ^ 63 := by decide
  (first | lia | omega)
end Po
namespace Po
open Ra Rq
structure Rl (R : Int → Rat → Prop) (fs : List Int) (p : List Rat) : Prop where
  len : fs.length = p.length
  at' : ∀ i, i < p.length → R (fs.getD i 0) (p.getD i 0)
theorem getD_set0 {α : Type} (d : α) (xs : List α) (k : Nat) (x : α) (i : Nat) (h : k < xs.length) : (xs.set k x).getD i d = if i = k then x else xs.getD i d := by
  rw [List.getD_eq_getElem?_getD, List.getElem?_set]
  by_cases c : i = k
  · rw [if_pos c, if_pos c.symm, if_pos h]
    rfl
  · rw [if_neg c, if_neg (fun z => c z.symm), ← List.getD_eq_getElem?_getD]
theorem getD_drop0 {α : Type} (d : α) (xs : List α) (i : Nat) (h : i < xs.length - 1) : xs.dropLast.getD i d = xs.getD i d := by
  rw [List.getD_eq_getElem?_getD, List.getD_eq_getElem?_getD, List.getElem?_dropLast, if_pos h]
theorem Rl.set {R : Int → Rat → Prop} {fs : List Int} {p : List Rat} (h : Rl R fs p) {k : Nat} {x : Int} {q : Rat} (hk : k < p.length) (r : R x q) : Rl R (fs.set k x) (p.set k q) := by
  refine ⟨by rw [List.length_set, List.length_set]; exact h.len, fun i hi => ?_⟩
  rw [List.length_set] at hi
  rw [getD_set0 _ _ _ _ _ (by rw [h.len]; exact hk), getD_set0 _ _ _ _ _ hk]
  by_cases c : i = k
  · rw [if_pos c, if_pos c]; exact r
  · rw [if_neg c, if_neg c]; exact h.at' i hi
theorem Rl.drop {R : Int → Rat → Prop} {fs : List Int} {p : List Rat} (h : Rl R fs p) : Rl R fs.dropLast p.dropLast := by
  refine ⟨by rw [List.length_dropLast, List.length_dropLast, h.len], fun i hi => ?_⟩
  rw [List.length_dropLast] at hi
  rw [getD_drop0 _ _ _ (by rw [h.len]; exact hi), getD_drop0 _ _ _ hi]
  exact h.at' i (by (first | lia | omega))
theorem Rl.map {R S : Int → Rat → Prop} {fs : List Int} {p : List Rat} (h : Rl R fs p) {f : Int → Int} {g : Rat → Rat} (k : ∀ x q, R x q → S (f x) (g q)) : Rl S (fs.map f) (p.map g) := by
  refine ⟨by rw [List.length_map, List.length_map, h.len], fun i hi => ?_⟩
  rw [List.length_map] at hi
  have h1 : i < fs.length := by rw [h.len]; exact hi
  have e := h.at' i hi
  rw [List.getD_eq_getElem?_getD, List.getElem?_eq_getElem h1, List.getD_eq_getElem?_getD, List.getElem?_eq_getElem hi] at e
  rw [List.getD_eq_getElem?_getD, List.getElem?_map, List.getElem?_eq_getElem h1, List.getD_eq_getElem?_getD, List.getElem?_map, List.getElem?_eq_getElem hi]
  exact k _ _ e
theorem Rl.imp {R S : Int → Rat → Prop} {fs : List Int} {p : List Rat} (h : Rl R fs p) (k : ∀ x q, R x q → S x q) : Rl S fs p := ⟨h.len, fun i hi => k _ _ (h.at' i hi)⟩
theorem Rl.last {R : Int → Rat → Prop} {fs : List Int} {p : List Rat} (h : Rl R fs p) (h0 : p ≠ []) : R (fs.getD (fs.length - 1) 0) (lst p) := by
  have := List.length_pos_iff.mpr h0
  unfold lst
  rw [h.len]
  exact h.at' _ (by (first | lia | omega))
noncomputable def Lw (rs v : List Rat) (st : Nat) : Nat → List Rat
  | 0 => rs.dropLast
  | i + 1 => (Lw rs v st i).set (st + i) (rs.getD (st + i) 0 - lst rs * v.getD i 0)
theorem Lw_len (rs v : List Rat) (st : Nat) : ∀ i, (Lw rs v st i).length = rs.length - 1
  | 0 => List.length_dropLast
  | i + 1 => by rw [Lw, List.length_set, Lw_len rs v st i]
theorem Lw_at (rs v : List Rat) (st : Nat) : ∀ i, st + i ≤ rs.length - 1 → ∀ k, k < rs.length - 1 → (Lw rs v st i).getD k 0 = if st ≤ k ∧ k < st + i then rs.getD k 0 - lst rs * v.getD (k - st) 0 else rs.getD k 0
  | 0, _, k, hk => by
    rw [Lw, getD_drop0 _ _ _ hk, if_neg (by (first | lia | omega))]
  | i + 1, hi, k, hk => by
    rw [Lw, getD_set0 _ _ _ _ _ (by rw [Lw_len]; (first | lia | omega)), Lw_at rs v st i (by (first | lia | omega)) k hk]
    by_cases c : k = st + i
    · rw [if_pos c, if_pos (by (first | lia | omega)), c, Nat.add_sub_cancel_left]
    · rw [if_neg c]
      by_cases c2 : st ≤ k ∧ k < st + i
      · rw [if_pos c2, if_pos (by (first | lia | omega))]
      · rw [if_neg c2, if_neg (by (first | lia | omega))]
theorem ext_getD {xs ys : List Rat} (h : xs.length = ys.length) (k : ∀ i, i < xs.length → xs.getD i 0 = ys.getD i 0) : xs = ys := by
  refine List.ext_getElem h fun i h1 h2 => ?_
  have := k i h1
  rw [List.getD_eq_getElem?_getD, List.getD_eq_getElem?_getD, List.getElem?_eq_getElem h1, List.getElem?_eq_getElem h2] at this
  exact this
theorem Lw_end {rs v : List Rat} (h : v.length ≤ rs.length) (h0 : 0 < v.length) : Lw rs v (rs.length - v.length) (v.length - 1) = rless rs v (lst rs) := by
  refine ext_getD (by rw [Lw_len, rless_length _ h h0]) fun k hk => ?_
  rw [Lw_len] at hk
  rw [Lw_at _ _ _ _ (by (first | lia | omega)) _ hk]
  unfold rless
  by_cases c : k < rs.length - v.length
  · rw [if_neg (by (first | lia | omega)), getD_append_l (by rw [List.length_take]; (first | lia | omega)), getD_take_l c]
  · rw [if_pos (by (first | lia | omega)), getD_append_r (by rw [List.length_take]; (first | lia | omega)), List.length_take, Nat.min_eq_left (by (first | lia | omega)), getD_range, if_pos (by (first | lia | omega)), show rs.length - v.length + (k - (rs.length - v.length)) = k by (first | lia | omega)]
theorem dv_next {rs v : List Rat} (h : v.length ≤ rs.length) (h0 : 0 < v.length) (h1 : lst v = 1) : (dv v rs.length rs).2 = (dv v (rless rs v (lst rs)).length (rless rs v (lst rs))).2 := by
  rw [rless_length _ h h0]
  obtain ⟨n, hn⟩ : ∃ n, rs.length = n + 1 := ⟨rs.length - 1, by (first | lia | omega)⟩
  have e : lst rs / lst v = lst rs := by rw [h1]; grind
  rw [hn, dv, if_neg (by (first | lia | omega)), e]
  rfl
theorem strip_drop {p : List Rat} (h : p ≠ []) (z : lst p = 0) : strip p.dropLast = strip p := by
  rcases List.eq_nil_or_concat p with rfl | ⟨xs, x, rfl⟩
  · exact absurd rfl h
  · rw [List.concat_eq_append] at *
    have e : lst (xs ++ [x]) = x := by
      unfold lst
      rw [List.getD_eq_getElem?_getD]
      simp
    rw [e] at z
    rw [z, strip_snoc0, List.dropLast_concat]
end Po
namespace Po
open Ra Rq
theorem rt_le {j : Nat} (h : j < 7) : rt j ≤ 2 ^ 2048 := by
  unfold rt
  refine Nat.pow_le_pow_right (by decide) ?_
  have : 2 ^ j ≤ 2 ^ 6 := Nat.pow_le_pow_right (by decide) (by (first | lia | omega))
  have e : (2 : Nat) ^ 6 = 64 := by decide
  (first | lia | omega)
theorem rt_ge (j : Nat) : ∃ k, rt j = 1024 * k ∧ 4194304 ≤ k := by
  have h1 : 1 ≤ 2 ^ j := Nat.one_le_two_pow
  refine ⟨2 ^ (32 * 2 ^ j - 10), ?_, ?_⟩
  · unfold rt
    have e : 32 * 2 ^ j = 10 + (32 * 2 ^ j - 10) := by (first | lia | omega)
    conv => lhs; rw [e]
    rw [Nat.pow_add]
  · have : 2 ^ 22 ≤ 2 ^ (32 * 2 ^ j - 10) := Nat.pow_le_pow_right (by decide) (by (first | lia | omega))
    have e : (2 : Nat) ^ 22 = 4194304 := by decide
    (first | lia | omega)
theorem md_room {j k den num : Nat} (h : rt j = 1024 * k) (hk : 4194304 ≤ k) (hd : den ≤ 900) (hn : num ≤ 2700) : (k + 1) * k * den + md j * num < md j * (k + 1) := by
  have e : md j = 1048576 * (k * k) + 1 := by
    unfold md
    rw [h]
    have : 1024 * k * (1024 * k) = 1048576 * (k * k) := by grind
    (first | lia | omega)
  have a1 : (k + 1) * k * den ≤ (k + 1) * k * 900 := Nat.mul_le_mul_left _ hd
  have a2 : md j * num ≤ md j * 2700 := Nat.mul_le_mul_left _ hn
  have a3 : md j * 3700 ≤ md j * (k + 1) := Nat.mul_le_mul_left _ (by (first | lia | omega))
  have a4 : (k + 1) * k = k * k + k := by grind
  have a5 : 4194304 * k ≤ k * k := Nat.mul_le_mul_right _ hk
  rw [a4] at a1
  rw [a4]
  (first | lia | omega)
end Po
namespace Po
open Ra Rq
noncomputable def Lm (ps qs : List Rat) (x : Rat) (k : Nat) : Nat → List Rat
  | 0 => ps
  | i + 1 => (Lm ps qs x k i).set (i + k) (ps.getD (i + k) 0 - qs.getD i 0 * x)
theorem Lm_len (ps qs : List Rat) (x : Rat) (k : Nat) : ∀ i, (Lm ps qs x k i).length = ps.length
  | 0 => rfl
  | i + 1 => by rw [Lm, List.length_set, Lm_len ps qs x k i]
theorem Lm_at (ps qs : List Rat) (x : Rat) (k : Nat) : ∀ i, k + i ≤ ps.length → ∀ j, (Lm ps qs x k i).getD j 0 = if k ≤ j ∧ j < k + i then ps.getD j 0 - qs.getD (j - k) 0 * x else ps.getD j 0
  | 0, _, j => by rw [Lm, if_neg (by (first | lia | omega))]
  | i + 1, hi, j => by
    rw [Lm, getD_set0 _ _ _ _ _ (by rw [Lm_len]; (first | lia | omega)), Lm_at ps qs x k i (by (first | lia | omega)) j]
    by_cases c : j = i + k
    · rw [if_pos c, if_pos (by (first | lia | omega)), c, Nat.add_sub_cancel]
    · rw [if_neg c]
      by_cases c2 : k ≤ j ∧ j < k + i
      · rw [if_pos c2, if_pos (by (first | lia | omega))]
      · rw [if_neg c2, if_neg (by (first | lia | omega))]
theorem Lm_end {ps qs : List Rat} {k : Nat} (h : k + qs.length = ps.length) (h0 : 0 < qs.length) (hl : lst qs ≠ 0) : strip (Lm ps qs (lst ps * (lst qs)⁻¹) k qs.length) = strip (rless ps qs (lst ps / lst qs)) := by
  refine strip_ext fun j => ?_
  have e := rless_getD (rs := ps) (by (first | lia | omega)) h0 hl j
  have ek : ps.length - qs.length = k := by (first | lia | omega)
  rw [ek] at e
  have ed : lst ps / lst qs = lst ps * (lst qs)⁻¹ := Rat.div_def _ _
  rw [Lm_at _ _ _ _ _ (by (first | lia | omega))]
  by_cases c : k ≤ j
  · rw [if_pos c] at e
    by_cases c2 : j < k + qs.length
    · rw [if_pos ⟨c, c2⟩, e, ed]
      grind
    · rw [if_neg (by (first | lia | omega)), e, getD_out (xs := qs) (by (first | lia | omega))]
      grind
  · rw [if_neg c] at e
    rw [if_neg (by (first | lia | omega)), e]
    grind
theorem rm_of_strip {p g : List Rat} (h0 : 0 < g.length) (hl : lst g ≠ 0) : rm (strip p) g = rm p g := by
  obtain ⟨q, e⟩ := rm_ev (f := p) h0 hl
  rw [rm_uniq (f := strip p) (q := q) (r := rm p g) h0 hl (rm_len h0 hl) fun t => by rw [ev_strip]; exact e t]
  exact rm_strip p g
theorem rm_next {ps qs : List Rat} (h : qs.length ≤ ps.length) (h0 : 0 < qs.length) (hl : lst qs ≠ 0) : rm (strip (rless ps qs (lst ps / lst qs))) qs = rm ps qs := by
  rw [rm_of_strip h0 hl]
  unfold rm
  congr 1
  rw [rless_length _ h h0]
  obtain ⟨n, hn⟩ : ∃ n, ps.length = n + 1 := ⟨ps.length - 1, by (first | lia | omega)⟩
  rw [hn, dv, if_neg (by (first | lia | omega))]
  rfl
noncomputable def On (n : Nat) (A : List Rat) : Prop := ∃ M : Int, M ≠ 0 ∧ Bt n M ∧ ∀ q ∈ A, Ov n M q
theorem On.mono {m n : Nat} {A : List Rat} (h : On m A) (l : m ≤ n) : On n A := by
  obtain ⟨M, h1, h2, h3⟩ := h
  exact ⟨M, h1, h2.mono l, fun q hq => (h3 q hq).mono l⟩
theorem On.bq {n : Nat} {A : List Rat} (h : On n A) : ∀ q ∈ A, Bq n q := by
  obtain ⟨M, h1, h2, h3⟩ := h
  exact fun q hq => (h3 q hq).bq h1 h2
theorem On.strip {n : Nat} {A : List Rat} (h : On n A) : On n (strip A) := by
  obtain ⟨M, h1, h2, h3⟩ := h
  exact ⟨M, h1, h2, fun q hq => h3 q (strip_mem hq)⟩
theorem On.nums {n : Nat} {A : List Rat} (h : On n A) : ∃ D N : Int, D ≠ 0 ∧ Bt n D ∧ Bt n N ∧ lst A * (D : Rat) = (N : Rat) ∧ ∀ q ∈ A, Ov n D q := by
  obtain ⟨D, h1, h2, h3⟩ := h
  obtain ⟨N, bN, eN⟩ := getD_ov h3 (A.length - 1)
  exact ⟨D, N, h1, h2, bN, eN, h3⟩
theorem On.less {b c : Nat} {rs qs : List Rat} (hr : On b rs) (hq : On c qs) (hl : lst qs ≠ 0) : On (b + c + 1) (rless rs qs (lst rs / lst qs)) ∧ Bq (b + c) (lst rs * (lst qs)⁻¹) := by
  obtain ⟨M, h1, h2, h3⟩ := hr
  obtain ⟨D, N, d1, d2, bN, eN, d3⟩ := hq.nums
  have hN : N ≠ 0 := fun z => by
    rw [z] at eN
    exact mul_nz hl (int_nz d1) eN
  refine ⟨⟨M * N, Int.mul_ne_zero h1 hN, (h2.mul bN).mono (by (first | lia | omega)), rless_ov h3 d3 hl bN eN⟩, ?_⟩
  rw [← Rat.div_def]
  exact (fac_ov (getD_ov h3 (rs.length - 1)) hl d2 eN).bq (Int.mul_ne_zero h1 hN) (h2.mul bN)
noncomputable def bA : Nat → Nat
  | 5 => 13 | 4 => 27 | 3 => 69 | 2 => 167 | 1 => 405 | _ => 979
noncomputable def bB : Nat → Nat
  | 5 => 27 | 4 => 69 | 3 => 167 | 2 => 405 | 1 => 979 | _ => 979
theorem bAB {m k : Nat} (h : m ≤ 5) (hk : k < m) (h0 : 0 < k) : bB m ≤ bA k ∧ bA m + (m + 1 - k) * (bB m + 1) ≤ bB k ∧ bB m ≤ 450 ∧ bA m + (m + 1 - k) * (bB m + 1) ≤ 1000 := by
  have key : ∀ m, m < 6 → ∀ k, k < m → 0 < k → bB m ≤ bA k ∧ bA m + (m + 1 - k) * (bB m + 1) ≤ bB k ∧ bB m ≤ 450 ∧ bA m + (m + 1 - k) * (bB m + 1) ≤ 1000 := by decide +kernel
  exact key m (by (first | lia | omega)) k hk h0
theorem bA_ge {m : Nat} : 13 ≤ bA m ∧ 27 ≤ bB m := by
  match m with
  | 0 => decide
  | 1 => decide
  | 2 => decide
  | 3 => decide
  | 4 => decide
  | 5 => decide
  | n + 6 => exact ⟨by show 13 ≤ 979; decide, by show 27 ≤ 979; decide⟩
end Po
namespace Po
theorem eu_len : ∀ (n : Nat) (f g : List Rat), strip g = g → (eu n f g).length ≤ max f.length g.length
  | 0, f, g, _ => Nat.le_max_left _ _
  | n + 1, f, g, h => by
    rw [eu]
    by_cases c : g = []
    · rw [if_pos c]; exact Nat.le_max_left _ _
    · rw [if_neg c]
      have hl := lst_ne h c
      have h1 := rm_len (f := f) (len_of_lst hl) hl
      have h2 := eu_len n g (rm f g) (rm_strip f g)
      (first | lia | omega)
end Po

namespace L3
open PySem PySem.Spec PyProof.Rows L2 Ra

theorem log2_of {j : Int} (h : Bt 9000 j) : j.natAbs.log2 < 9000 := by
  by_cases h0 : j.natAbs = 0
  · rw [h0]; decide
  · exact (Nat.log2_lt h0).mpr h
theorem mul_of {i j : Int} {m n : Nat} (h : Bt m i) (k : Bt n j) (l : m + n ≤ 134217728) : IntMulOk i j :=
  PySem.IntMulOk.of_le (PySem.intBits_le_iff.mpr h) (PySem.intBits_le_iff.mpr k) l
section
variable {X : Cx} {a b c : Expr} {ta tb tc : TE} {pos : Pos}
theorem op_fdA : OpR X (binaryOp .FloorDiv) (rI (fun _ j => j ≠ 0 ∧ Bt 9000 j) fun i j => .int (i.fdiv j)) :=
  opI fun _ _ _ _ _ _ _ hc q => floordiv_int hc.1 q (.inl (PyProof.noPylong_of_log2 (log2_of hc.2)))
theorem op_fdP : OpR X (binaryOp .FloorDiv) (rI (fun _ j => 0 < j ∧ Bt 9000 j) fun i j => .int (i / j)) := opI fun i j _ _ _ _ _ hc q => by
  have h1 : (0 : Int) < j := hc.1
  exact floordiv_int (by (first | lia | omega)) (by rw [Int.fdiv_eq_ediv_of_nonneg i (by (first | lia | omega))]; exact q) (.inl (PyProof.noPylong_of_log2 (log2_of hc.2)))
theorem op_mulB : OpR X (binaryOp .Mult) (rI IntMulOk fun i j => .int (i * j)) := opI fun _ _ _ _ _ _ _ hc q => mul_int q hc
theorem call_isi : CallR X (.builtin "isinstance") (fun xs H Q => ∃ x T t b, xs = [x, .ty T] ∧ TyOf X.K H x t ∧ PySem.W.kitOne X.K t (.type T) = some b ∧ Q (.bl b) H) := by
  intro pins s σ H xs us Q I r h
  obtain ⟨x, T, t, b, rfl, ty, e, q⟩ := h
  obtain ⟨u, w', rfl, rx, rt⟩ := vals2 r
  cases rt
  exact isinst_ok I rx ty e fun tk => ⟨.bl b, H, I.tok _, rfl, q⟩
end
theorem kit_int_int (K : PySem.W.Frag) : PySem.W.kitOne K (.type "int") (.type "int") = some true := rfl
theorem kit_int_bool (K : PySem.W.Frag) : PySem.W.kitOne K (.type "int") (.type "bool") = some false := by with_unfolding_all rfl
theorem kit_tup_tup (K : PySem.W.Frag) : PySem.W.kitOne K (.type "tuple") (.type "tuple") = some true := rfl

section
variable {X : Cx} {K : PySem.W.Frag}
end
theorem iteD {c A B : Prop} [Decidable c] (h : c) (k : A) : if decide c = true then A else B := by
  rw [decide_eq_true h]
  exact iteT k
theorem iteND {c A B : Prop} [Decidable c] (h : ¬ c) (k : B) : if decide c = true then A else B := by
  rw [decide_eq_false h]
  exact iteF k
theorem iteSS {c A B : Prop} [Decidable c] (hc : ¬ c) (h : A) : if (!decide c) = true then A else B := by
  rw [decide_eq_false hc]
  exact iteT h
theorem iteNB {b : Bool} {A B : Prop} (h : b = true) (k : B) : if (!b) = true then A else B := by
  rw [h]
  exact iteF k
structure Cal (P : Program) (w : World) (K : PySem.W.Frag) (mg : Str → Option Value) (base : Heap) (x : Str) (k : Nat) (ps : List Str) (sp : Sp) : Prop where
  ex : ∃ f fd, FnOk P w K mg base CX0 k f fd ps sp ∧ Binds K fd ps [] ∧ PySem.W.keepIn K (.ref f) = true ∧ mg x = some (.ref f)
theorem Cal.imp {P : Program} {w : World} {K : PySem.W.Frag} {mg : Str → Option Value} {base : Heap} {x : Str} {k : Nat} {ps : List Str} {sp sp' : Sp} (C : Cal P w K mg base x k ps sp) (h : ∀ {vs : List V} {H : Hp} {Q : VK} {E : XK}, sp' vs H Q E → sp vs H Q E) : Cal P w K mg base x k ps sp' := by
  obtain ⟨f, fd, F, b, kp, m⟩ := C.ex
  exact ⟨f, fd, F.imp fun _ _ _ _ z => h z, b, kp, m⟩
theorem pe_cl {X : Cx} {x : Str} {k j : Nat} {ps : List Str} {sp : Sp} {e : Expr} {es : List Expr} {t : TA} {p pos : Pos} (C : Cal X.prog X.w X.K X.mg X.base x k ps sp) (hr : Room j X.A) (ha : PA X (e :: es) t) (hkj : k ≤ j := by decide) (hg : Gl X x := by rfl)
    (hdb : (x == ("__debug__" : Str)) = false := by decide) (he : starEach (e :: es) X.env = (false, eval e X.env) :: starEach es X.env := by rfl) (hpl : (backTo pos (starEach es X.env)).any (·.1) = false := by rfl) :
    PE X (.Call (.Name x p) (e :: es) [] pos) (tCall sp [] E0 t) := by
  obtain ⟨f, fd, F, b, kp, m⟩ := C.ex
  exact pe_call F (hr.mono hkj) hg m kp b .nil pass0 ha hdb he hpl

theorem same_upd {H : Hp} {p : Addr} (h : H p = none) (o : HO) : Same H (upd H p o) := fun b u q => by rw [upd_ne (ne_of_none q h)]; exact q
noncomputable def Pr (H : Hp) (p : Addr) (x y : Int) : Prop := H p = some (.tup [.int x, .int y])
theorem Pr.keep {H H' : Hp} {p : Addr} {x y : Int} (h : Pr H p x y) (s : Same H H') : Pr H' p x y := s _ _ h
theorem Pr.sq {K : PySem.W.Frag} {H : Hp} {p : Addr} {x y : Int} (h : Pr H p x y) : SqT K H p [.int x, .int y] := SqT.of h
theorem Pr.new {H : Hp} {p : Addr} {x y : Int} : Pr (upd H p (.tup [.int x, .int y])) p x y := upd_same

noncomputable def cellA (ns : List Int) (k : Nat) : Int := ns.getD k (2 * (k : Int) + 1)
theorem cellA_in {ns : List Int} {k : Nat} (h : k < ns.length) : cellA ns k = ns[k] := by
  unfold cellA
  rw [List.getD_eq_getElem?_getD, List.getElem?_eq_getElem h]
  rfl
theorem cellA_out {ns : List Int} {k : Nat} (h : ns.length ≤ k) : cellA ns k = 2 * (k : Int) + 1 := by
  unfold cellA
  rw [List.getD_eq_getElem?_getD, List.getElem?_eq_none h]
  rfl
noncomputable def mixed (c k : Int) : Int := if c % 2 = 0 ∧ 10 ^ 18 < c then c / 2 else ((c / 2) % 10 ^ 60 + k * k) * 6364136223846793013 + (k + 1) * 1442695040888963407
theorem mixed_nonneg {c k : Int} (h : 0 ≤ k) : 0 ≤ mixed c k := by
  unfold mixed
  split
  · (first | lia | omega)
  · have h1 : 0 ≤ (c / 2) % 10 ^ 60 := Int.emod_nonneg _ (by decide)
    have h2 : 0 ≤ k * k := Int.mul_nonneg h h
    (first | lia | omega)
noncomputable def signed (n : Int) : Int := if n % 2 = 0 then n / 2 else -1 - n / 2
end L3

namespace L3
open PySem PySem.Spec PyProof.Rows L2 Ra
noncomputable def clo (sc : Scope) (env : Env) : List (Str × Addr) := ((sc.names.filter fun y => y.2 == .free).map fun y => (y.1, (env.cells.lookup y.1).getD 0)).reverse
theorem clo_in {sc : Scope} {env : Env} {y : Str} {c : Addr} (h : (clo sc env).lookup y = some c) : (y, NameKind.free) ∈ sc.names ∧ c = (env.cells.lookup y).getD 0 := by
  have m : (y, c) ∈ clo sc env := PySem.mem_of_lookup h
  unfold clo at m
  rw [List.mem_reverse, List.mem_map] at m
  obtain ⟨⟨n, k⟩, hm, e⟩ := m
  rw [List.mem_filter] at hm
  have hk : k = .free := by simpa using hm.2
  subst hk
  cases e
  exact ⟨hm.1, rfl⟩
theorem lookup_some_of_mem {α : Type} {l : List (Str × α)} {y : Str} {c : α} (h : (y, c) ∈ l) : ∃ c', l.lookup y = some c' := by
  induction l with
  | nil => cases h
  | cons p r ih =>
    obtain ⟨n, v⟩ := p
    by_cases e : y = n
    · subst e
      exact ⟨v, by simp⟩
    · have hb : (y == n) = false := by simpa using e
      rw [List.lookup_cons, hb]
      rcases List.mem_cons.mp h with z | z
      · cases z
        exact absurd rfl e
      · exact ih z
theorem clo_has {sc : Scope} {env : Env} {y : Str} (h : (y, NameKind.free) ∈ sc.names) : ∃ c, (clo sc env).lookup y = some c := by
  refine lookup_some_of_mem (c := (env.cells.lookup y).getD 0) ?_
  unfold clo
  rw [List.mem_reverse, List.mem_map]
  exact ⟨(y, .free), List.mem_filter.mpr ⟨h, by simp⟩, rfl⟩
theorem closure_aux {env : Env} : ∀ (ns : List (Str × NameKind)) (cs : List (Str × Addr)), (∀ y ∈ ns, y.2 = .free → ∃ c, env.cells.lookup y.1 = some c) →
    (forIn ns cs fun x r => (match x with | (name, kind) => if kind == .free then do let c ← cellOf env name; pure (ForInStep.yield ((name, c) :: r)) else pure (ForInStep.yield r) : Sem (ForInStep (List (Str × Addr))))) =
      pure (((ns.filter fun y => y.2 == .free).map fun y => (y.1, (env.cells.lookup y.1).getD 0)).reverse ++ cs)
  | [], cs, _ => rfl
  | (n, k) :: r, cs, h => by
    have hr : ∀ y ∈ r, y.2 = .free → ∃ c, env.cells.lookup y.1 = some c := fun y hy => h y (List.mem_cons_of_mem _ hy)
    rw [List.forIn_cons]
    by_cases hk : k = .free
    · subst hk
      obtain ⟨c, hc⟩ := h (n, .free) List.mem_cons_self rfl
      have e : cellOf env n = pure c := by unfold cellOf; rw [hc]
      have e2 : ((n, NameKind.free) :: r).filter (fun y => y.2 == .free) = (n, .free) :: r.filter fun y => y.2 == .free := by simp
      simp only [beq_self_eq_true, if_true, e, pure_bind]
      rw [closure_aux r _ hr, e2]
      simp [hc]
    · have hb : (k == NameKind.free) = false := by simpa using hk
      have e2 : ((n, k) :: r).filter (fun y => y.2 == .free) = r.filter fun y => y.2 == .free := by simp [hk]
      simp only [hb, Bool.false_eq_true, if_false, pure_bind]
      rw [closure_aux r _ hr, e2]
theorem closure_of {sc : Scope} {env : Env} (h : ∀ y ∈ sc.names, y.2 = .free → ∃ c, env.cells.lookup y.1 = some c) : closureFor sc env = pure (clo sc env) := by
  have q := closure_aux sc.names [] h
  rw [List.append_nil] at q
  unfold closureFor clo
  simp only [pure_bind, bind_pure]
  exact q
theorem relabel_lookup {sc : Scope} {env : Env} {y : Str} {k : NameKind} (h : sc.names.lookup y = some k) :
    (relabel sc env).names.lookup y = some (if (k == .free && env.scope.kind == .function && env.kindOf y == some .cell) then .cell else k) := by
  unfold relabel
  show (sc.names.map _).lookup y = _
  generalize sc.names = ns at h
  induction ns with
  | nil => cases h
  | cons p r ih =>
    obtain ⟨n, v⟩ := p
    rw [List.map_cons]
    show List.lookup y ((if (v == .free && env.scope.kind == .function && env.kindOf n == some .cell) = true then (n, NameKind.cell) else (n, v)) :: r.map _) = _
    by_cases e : y = n
    · subst e
      have ev : v = k := by simpa using h
      subst ev
      by_cases c : (v == .free && env.scope.kind == .function && env.kindOf y == some .cell) = true
      · rw [if_pos c, if_pos c]
        simp
      · rw [if_neg c, if_neg c]
        simp
    · have hb : (y == n) = false := by simpa using e
      have h' : r.lookup y = some k := by
        rw [List.lookup_cons, hb] at h
        exact h
      by_cases c : (v == .free && env.scope.kind == .function && env.kindOf n == some .cell) = true
      · rw [if_pos c]
        simp only [List.lookup_cons, hb]
        exact ih h'
      · rw [if_neg c]
        simp only [List.lookup_cons, hb]
        exact ih h'
theorem relabel_none {sc : Scope} {env : Env} {y : Str} (h : sc.names.lookup y = none) : (relabel sc env).names.lookup y = none := by
  unfold relabel
  show (sc.names.map _).lookup y = _
  generalize sc.names = ns at h
  induction ns with
  | nil => rfl
  | cons p r ih =>
    obtain ⟨n, v⟩ := p
    rw [List.map_cons]
    show List.lookup y ((if (v == .free && env.scope.kind == .function && env.kindOf n == some .cell) = true then (n, NameKind.cell) else (n, v)) :: r.map _) = _
    by_cases e : y = n
    · subst e
      simp at h
    · have hb : (y == n) = false := by simpa using e
      have h' : r.lookup y = none := by
        rw [List.lookup_cons, hb] at h
        exact h
      by_cases c : (v == .free && env.scope.kind == .function && env.kindOf n == some .cell) = true
      · rw [if_pos c]
        simp only [List.lookup_cons, hb]
        exact ih h'
      · rw [if_neg c]
        simp only [List.lookup_cons, hb]
        exact ih h'
structure CompOk (fsc csc : Scope) (x : Str) (js : List Nat) (N N' : List Str) : Prop where
  eqN : N' = x :: js.map fun j => N.getD j x
  nd : N'.Nodup
  fr : ∀ y ∈ csc.names, y.2 = .free → fsc.names.lookup y.1 = some .cell
  cell : ∀ y ∈ csc.names, y.2 ≠ .cell
  kind : csc.kind = .function
  nm : ∀ y ∈ csc.names, y.2 = .local → csc.names.lookup y.1 = some .local
  xl : csc.names.lookup x = some .local
  js : ∀ j ∈ js, j < N.length ∧ csc.names.lookup (N.getD j x) = some .free
noncomputable def blk (X : Cx) (csc : Scope) (N' : List Str) (s₀ : Shared) (H₀ : Hp) (C : Addr) (ex : List Addr) : Cx :=
  { X with N := N', s₀ := s₀, H₀ := H₀, env := compEnvC csc (clo csc X.env) C X.env, outer := X.stack, stack := X.stack, ex := ex, fn := fun _ => false, pn := [], xe := fun _ _ => False }
noncomputable def CompAt (J : It) (te : Shared → Hp → Addr → List Addr → TE) (js : List Nat) (σ : L2.St) (Q : VK) (H1 : Hp) : Prop := ∀ D, H1 D = none → ∃ W : Nat → Nat → List V → Hp → Prop, (∃ m, W 0 m [] (upd H1 D (.lst []))) ∧
  ∀ i m ys H, W i m ys H → H D = some (.lst ys) ∧ ((J.stop i H ∧ Q (.ref D) H) ∨ (J.go i H ∧ ∀ x H', J.yld i H x H' → ∀ s₀ H₀ C ex, te s₀ H₀ C ex (some x :: js.map fun j => (σ[j]?).join) H' fun y H2 =>
    H2 D = some (.lst ys) ∧ ys.length < sizeLine ∧ ∃ m', m' < m ∧ W (i + 1) m' (ys ++ [y]) (upd H2 D (.lst (ys ++ [y])))))
noncomputable def tComp (wi : TI) (te : Shared → Hp → Addr → List Addr → TE) (js : List Nat) : TE := fun σ H Q => wi σ H fun J H1 => CompAt J te js σ Q H1
theorem inv_but {X : Cx} {pins : List (Addr × Obj)} {σ : L2.St} {H : Hp} {s : Shared} {C : Addr} {h7 : Heap} (I : Inv X pins σ H s) (f : FpOk X pins H C) (sb : Heap.SameBut C s.heap h7) : Inv X pins σ H { s with heap := h7 } := by
  obtain ⟨g0, g1, g2, g3, g4, g5⟩ := f
  have hne : ∀ {b : Addr}, b ∉ [C] → b ≠ C := fun h z => h (by rw [z]; exact List.mem_cons_self)
  refine I.call' (ch := [C]) (H' := H) rfl ⟨fun b o e _ _ hx => (sb.2 b (hne hx)).trans e, fun b o e _ _ hx => ⟨o.slots, (sb.2 b (hne hx)).trans e⟩, fun _ _ _ n _ => n, fun b o e hx => ⟨o, (sb.2 b (hne hx)).trans e⟩, fun _ _ q => q, fun _ _ _ q => q, fun _ ps q => ⟨#[], by rw [Array.append_empty]; exact q⟩⟩ ?_ I.bare fun b hb => ?_
  · intro b ob e
    refine (I.hok b ob e).stay (fun c w' hcc q => (sb.2 c ?_).trans q) (fun _ q => q) fun _ _ q => q
    rintro rfl
    rcases hcc with rfl | hcc
    · rw [g0] at e; cases e
    · rw [g0] at hcc; cases hcc
  · have e : b = C := by simpa using hb
    subst e
    exact ⟨g3, g1, g4, g5⟩
theorem compLoop_gen {prog : Program} {w : World} {A : Around} {R : Result → Shared → Prop} {s : Shared} {elt target iter : Expr} {ifs : List Expr} {scope : Scope} {pos : Pos} {it acc : Value} {env : Env} (I : Nat → Shared → Prop)
    (turn : ∀ n s, I n s → wpAny (model prog w) A (pyNext it) (fun r s₁ => match r with
      | none => R (.ok .next) s₁
      | some v => wpAny (model prog w) A (letOwnedTupleGo target it v) (fun _ s₁' => wpAny (model prog w) A (assign target env v) (fun _ s₂ =>
          wpAny (model prog w) A (forIn ifs true fun c r => if r = true then do let ok ← isTrue c env (eval c env); pure (ForInStep.yield ok) else pure (ForInStep.yield r)) (fun ok s₃ =>
            if ok = true then wpAny (model prog w) A (eval elt env) (fun x s₄ =>
              wpAny (model prog w) A (call (.builtin "list.append") [acc, x]) (fun _ s₅ => ∃ m, m < n ∧ I m s₅) (notedBy (model prog w) A env fun e s' => R (.error e) s') s₄) (notedBy (model prog w) A env fun e s' => R (.error e) s') s₃
            else ∃ m, m < n ∧ I m s₃) (notedBy (model prog w) A env fun e s' => R (.error e) s') s₂) (notedBy (model prog w) A env fun e s' => R (.error e) s') s₁') (notedBy (model prog w) A env fun e s' => R (.error e) s') s₁) (notedBy (model prog w) A env fun e s' => R (.error e) s') s)
    (n : Nat) (h : I n s) : codeAny (model prog w) A (.compLoop (.ListComp elt [⟨target, iter, ifs, 0⟩] scope pos) 0 it acc env) R s := by
  refine codeAny_loop rfl I (fun n s hI => ?_) n h
  show wpAny _ A ((compTurn (.ListComp elt [⟨target, iter, ifs, 0⟩] scope pos) 0 it acc env).onRaise (fun x => do noteFrame x env; theTreesLotGoes x)) _ _ s
  refine wpAny_noted ?_
  rw [compTurn_list]
  refine wpAny_bind (wpAny_standAt (wpAny_bind (wpAny_mono (turn n s hI) (fun r s₁ h₁ => ?_) fun _ _ h' => h')))
  cases r with
  | none => exact wpAny_pure h₁
  | some v =>
    refine wpAny_bind (wpAny_mono h₁ (fun _ s₁' h₁' => ?_) fun _ _ h' => h')
    refine wpAny_bind (wpAny_mono h₁' (fun _ s₂ h₂ => wpAny_bind (wpAny_mono h₂ (fun ok s₃ h₃ => ?_) fun _ _ h' => h')) fun _ _ h' => h')
    cases ok with
    | false => exact wpAny_pure ⟨rfl, h₃⟩
    | true =>
      exact wpAny_bind (wpAny_bind (wpAny_mono h₃ (fun x s₄ h₄ => wpAny_bind (wpAny_mono h₄ (fun _ s₅ h₅ => wpAny_pure (wpAny_pure ⟨rfl, h₅⟩)) fun _ _ h' => h')) fun _ _ h' => h'))
noncomputable def PTs (X : Cx) (ifs : List Expr) (t : TT) : Prop :=
  ∀ (pins : List (Addr × Obj)) (s : Shared) (σ : L2.St) (H : Hp) (Q : Bool → Hp → Prop), Inv X pins σ H s → t σ H Q →
    wpAny (model X.prog X.w) X.A (forIn ifs true fun c r => if r = true then do let ok ← isTrue c X.env (eval c X.env); pure (ForInStep.yield ok) else pure (ForInStep.yield r)) (TP X pins σ Q) X.xe s
noncomputable def tNoTest : TT := fun _ H Q => Q true H
theorem pts_nil {X : Cx} : PTs X [] tNoTest := fun _ _ _ H _ I h => wpAny_tests_nil ⟨H, I, h⟩
structure CompOkG (fsc csc : Scope) (xs : List Str) (js : List Nat) (N N' : List Str) : Prop where
  eqN : N' = xs ++ js.map fun j => N.getD j ""
  fr : ∀ y ∈ csc.names, y.2 = .free → fsc.names.lookup y.1 = some .cell
  cell : ∀ y ∈ csc.names, y.2 ≠ .cell
  kind : csc.kind = .function
  nm : ∀ y ∈ csc.names, y.2 = .local → csc.names.lookup y.1 = some .local
  js : ∀ j ∈ js, j < N.length ∧ csc.names.lookup (N.getD j "") = some .free
noncomputable def CompAtG (J : It) (tg : TG) (tt : Shared → Hp → Addr → List Addr → TT) (te : Shared → Hp → Addr → List Addr → TE) (nx : Nat) (js : List Nat) (σ : L2.St) (Q : VK) (H1 : Hp) : Prop := ∀ D, H1 D = none → ∃ W : Nat → Nat → List V → Hp → Prop, (∃ m, W 0 m [] (upd H1 D (.lst []))) ∧
  ∀ i m ys H, W i m ys H → H D = some (.lst ys) ∧ ((J.stop i H ∧ Q (.ref D) H) ∨ (J.go i H ∧ ∀ x H', J.yld i H x H' → ∀ s₀ H₀ C ex (σ0 : L2.St), σ0.length = nx → tg x (σ0 ++ js.map fun j => (σ[j]?).join) H' fun σ1 H2 =>
    (∃ σ0' : L2.St, σ1 = σ0' ++ (js.map fun j => (σ[j]?).join) ∧ σ0'.length = nx) ∧ tt s₀ H₀ C ex σ1 H2 fun b H3 => if b = true then te s₀ H₀ C ex σ1 H3 fun y H4 =>
      H4 D = some (.lst ys) ∧ ys.length < sizeLine ∧ ∃ m', m' < m ∧ W (i + 1) m' (ys ++ [y]) (upd H4 D (.lst (ys ++ [y])))
    else H3 D = some (.lst ys) ∧ ∃ m', m' < m ∧ W (i + 1) m' ys H3))
noncomputable def tCompG (wi : TI) (tg : TG) (tt : Shared → Hp → Addr → List Addr → TT) (te : Shared → Hp → Addr → List Addr → TE) (nx : Nat) (js : List Nat) : TE := fun σ H Q => wi σ H fun J H1 => CompAtG J tg tt te nx js σ Q H1
theorem compG_core {X : Cx} {elt iter target : Expr} {ifs : List Expr} {pos pos' : Pos} {csc : Scope} {wi : TI} {tg : TG} {tt : Shared → Hp → Addr → List Addr → TT} {te : Shared → Hp → Addr → List Addr → TE} (xs : List Str) (js : List Nat) {N' : List Str} {fsc : Scope} {N : List Str} (ok : CompOkG fsc csc xs js N N') (hi : PI X target iter wi) (hg : ∀ s₀ H₀ C ex, PG (blk X csc N' s₀ H₀ C ex) target tg) (ht : ∀ s₀ H₀ C ex, PTs (blk X csc N' s₀ H₀ C ex) ifs (tt s₀ H₀ C ex))
    (he : ∀ s₀ H₀ C ex, PE (blk X csc N' s₀ H₀ C ex) elt (te s₀ H₀ C ex)) (hc : X.calm = true) (hsc : X.env.scope = fsc) (hXN : X.N = N) (hs : ∀ x, foldedSetIterable iter X.env x = pure x)
    (use : Option (Value → Sem Unit)) (R : Value → Shared → Prop) {pins : List (Addr × Obj)} {s : Shared} {σ : L2.St} {H : Hp} {Q : VK} (I : Inv X pins σ H s) (h : tCompG wi tg tt te xs.length js σ H Q)
    (hfin : ∀ (D C : Addr) (s6 : Shared) (H5 : Hp) (m6 : Str → Option Value) (r : Flow), Inv X pins σ H5 s6 → FpOk X pins H5 C → s6.heap.Ns C m6 → Q (.ref D) H5 → compPost (model X.prog X.w) X.A X.xe use R (.ref D) C (.ok r) s6) :
    wpAny (model X.prog X.w) X.A (comprehension (.ListComp elt [⟨target, iter, ifs, 0⟩] csc pos) csc X.env pos' (newList []) false (eval iter X.env) use) R X.xe s := by
  have hkX : X.env.scope.kind = .function := I.ok.kind
  have hfree : ∀ y ∈ csc.names, y.2 = .free → ∃ c, X.env.cells.lookup y.1 = some c := fun y hy hk => I.ok.has y.1 (.inl (by show X.env.scope.names.lookup y.1 = _; rw [hsc]; exact ok.fr y hy hk))
  have hcl : ∀ y c, (clo csc X.env).lookup y = some c → X.env.cells.lookup y = some c := fun y c e => by
    obtain ⟨m, e2⟩ := clo_in e
    obtain ⟨c', e3⟩ := hfree _ m rfl
    rw [e3] at e2
    rw [e3, e2]
    rfl
  refine wpAny_comprehension_free (use := use) rfl hs (closure_of hfree) ok.kind ok.nm ?_
  refine thn (hi pins s σ H _ I h) fun v s1 h1 => thn h1 fun itv s2 h2 => ?_
  obtain ⟨it, fp, tn, J, H2, e, I2, T, st2, f2, hw⟩ := h2
  subst e
  have hD : H2 s2.heap.objs.size = none := I2.hok.fresh (Nat.le_refl _)
  obtain ⟨W, ⟨m0, w0⟩, turn⟩ := hw _ hD
  refine wpAny_newObj_type ?_ (by show 0 ≤ sizeLine; decide)
  have I3 : Inv X pins σ (upd H2 s2.heap.objs.size (.lst [])) { s2 with heap := s2.heap.push { cls := .type "list", data := .seq ([] : List Value).toArray } } := I2.lnew (t' := s2.toks) .nil (by show 0 ≤ sizeLine; decide)
  generalize hs3 : ({ s2 with heap := s2.heap.push { cls := .type "list", data := .seq ([] : List Value).toArray } } : Shared) = s3 at I3 ⊢
  have hsz : s3.heap.objs.size = s2.heap.objs.size + 1 := by rw [← hs3, Heap.size_push]
  generalize hDe : s2.heap.objs.size = D at *
  have tn3 : tn 0 s3.heap := T.keep 0 s2.heap _ st2 fun b hb o e => by rw [← hs3]; exact Heap.get?_push_of_some _ e
  have fpD : ∀ b ∈ fp, b ≠ D := fun b hb z => by
    obtain ⟨o, e, _⟩ := T.obj 0 _ st2 b hb
    rw [z, ← hDe] at e
    exact absurd (Heap.lt_size e) (Nat.lt_irrefl _)
  have f3 : ∀ b ∈ fp, upd H2 D (.lst []) b = none := fun b hb => by rw [upd_ne (fpD b hb)]; exact (f2 b hb).1
  refine wpAny_newFunctionEnv ok.cell (by intro y hy; simp at hy) (fun h4 hns hsb => ?_) ok.kind
  generalize hCe : s3.heap.objs.size = C at *
  have ltC : ∀ b o, s3.heap.get? b = some o → b < C := fun b o e => by
    rw [← hCe]
    exact Heap.lt_size e
  have keep4 : ∀ b o, s3.heap.get? b = some o → h4.get? b = some o := fun b o e => by
    rw [hsb.2 b (Nat.ne_of_lt (ltC b o e))]
    exact Heap.get?_push_of_some _ e
  have Xok : (blk X csc N' s3 (upd H2 D (.lst [])) C fp).Ok := by
    refine ⟨I3.ok.mod, ?_, I3.ok.glob, I3.ok.blt, ?_, fun y z c h1 h2 => I3.ok.inj y z c (hcl y c h1) (hcl z c h2), fun y hy => ?_, fun y c h1 _ => ?_, I3.ok.hd, I3.ok.frames, .inl rfl, fun b hb => ?_, I3.bs, ?_, fun b o e hb => ?_, fun b hb hz => ?_, I3.stack, I3.stkFree⟩
    · exact ok.kind
    · exact Nat.le_of_eq hCe
    · have hy' : (relabel csc X.env).names.lookup y = some .cell ∨ (relabel csc X.env).names.lookup y = some .free := hy
      cases hk : csc.names.lookup y with
      | none =>
        rw [relabel_none hk] at hy'
        rcases hy' with z | z <;> cases z
      | some k =>
        have hm : (y, k) ∈ csc.names := PySem.mem_of_lookup hk
        by_cases hkf : k = .free
        · subst hkf
          exact clo_has hm
        · have hb : (k == NameKind.free) = false := by simpa using hkf
          rw [relabel_lookup hk] at hy'
          simp only [hb, Bool.false_and, Bool.false_eq_true, if_false] at hy'
          rcases hy' with z | z
          · exact absurd (Option.some.inj z) (ok.cell _ hm)
          · exact absurd (Option.some.inj z) hkf
    · exact absurd (show false = true from h1) Bool.false_ne_true
    · obtain ⟨g0, g1, g2, g3, g4, g5⟩ := f2 b hb
      refine ⟨fun z => ?_, fun y c e => g4 y c (hcl y c e)⟩
      obtain ⟨o, e, _⟩ := T.obj 0 _ tn3 b hb
      have z' : b = C := z
      have l := ltC b o e
      rw [z'] at l
      exact absurd l (Nat.lt_irrefl _)
    · exact Nat.le_trans I3.ok.bsz I3.sz
    · obtain ⟨g0, g1, g2, g3, g4, g5⟩ := f2 b hb
      rcases g3 with z | z
      · exact I3.ok.noex b o e z
      · exact absurd (Nat.lt_of_lt_of_le (Heap.lt_size e) (Nat.le_trans I3.ok.bsz z)) (Nat.lt_irrefl _)
    · obtain ⟨g0, g1, g2, g3, g4, g5⟩ := f2 b hb
      rcases List.mem_cons.mp (I3.stkSub b hz) with z | z
      · exact g1 z
      · exact g2 z
  have hfreeC : H2 C = none ∧ upd H2 D (.lst []) C = none := by
    have q : upd H2 D (.lst []) C = none := I3.hok.fresh (Nat.le_of_eq hCe)
    refine ⟨?_, q⟩
    rw [upd_ne (by rw [hsz]; exact Nat.succ_ne_self D)] at q
    exact q
  have I4 : Inv (blk X csc N' s3 (upd H2 D (.lst [])) C fp) [] (List.replicate xs.length none ++ js.map fun j => (σ[j]?).join) (upd H2 D (.lst [])) { s3 with heap := h4, toks := s3.toks + ([] : List (Str × Value)).length } := by
    refine ⟨Xok, rfl, I3.bare, Un.kept keep4, ⟨_, hns, fun i y v h1 h2 h3 => ?_⟩, fun y c e => ?_, hfreeC.2, fun y c e => I3.freeC y c (hcl y c e), fun p hp => absurd (show p ∈ ([] : List (Addr × Obj)) from hp) (by simp), I3.hok.kept keep4, ?_⟩
    · have h1' : (xs ++ js.map fun j => N.getD j "")[i]? = some y := by rw [← ok.eqN]; exact h1
      by_cases hi : i < xs.length
      · rw [List.getElem?_append_left (by rw [List.length_replicate]; exact hi), List.getElem?_replicate] at h2
        rw [if_pos hi] at h2
        cases h2
      · rw [List.getElem?_append_right (by (first | lia | omega)), List.getElem?_map] at h1'
        rw [List.getElem?_append_right (by rw [List.length_replicate]; (first | lia | omega)), List.length_replicate, List.getElem?_map] at h2
        cases ej : js[i - xs.length]? with
        | none => rw [ej] at h2; cases h2
        | some j =>
          rw [ej] at h1' h2
          obtain ⟨jl, jf⟩ := ok.js j (List.mem_of_getElem? ej)
          have ey : N.getD j "" = y := Option.some.inj h1'
          have ev : (σ[j]?).join = some v := Option.some.inj h2
          have ev' : σ[j]? = some (some v) := by
            cases q : σ[j]? with
            | none => rw [q] at ev; cases ev
            | some o => rw [q] at ev; rw [show o = some v from ev]
          have eN : X.N[j]? = some y := by rw [hXN, ← ey, List.getD_eq_getElem?_getD, List.getElem?_eq_getElem jl]; rfl
          rw [ey] at jf
          have kX : X.env.scope.names.lookup y = some .cell := by rw [hsc]; exact ok.fr (y, .free) (PySem.mem_of_lookup jf) rfl
          obtain ⟨m3, n3, l3⟩ := I3.loc
          obtain ⟨u, ru, lk⟩ := l3 j y v eN ev' (.inr (.inl kX))
          refine ⟨u, ru, .inr ⟨?_, ?_⟩⟩
          · left
            show (relabel csc X.env).names.lookup y = some .cell
            rw [relabel_lookup jf]
            have k2 : X.env.kindOf y = some .cell := kX
            rw [hkX, k2]
            rfl
          · rcases lk with ⟨z, _⟩ | ⟨_, c, hc1, hc2⟩
            · have z' : X.env.scope.names.lookup y = some .local := z
              rw [kX] at z'
              cases z'
            · obtain ⟨c', e'⟩ := clo_has (env := X.env) (PySem.mem_of_lookup jf)
              have : c' = c := by
                have q := hcl y c' e'
                rw [hc1] at q
                exact (Option.some.inj q).symm
              subst this
              obtain ⟨oc, ho, hd⟩ := hc2
              exact ⟨c', e', oc, keep4 _ _ ho, hd⟩
    · obtain ⟨v, oc, ho, hd⟩ := I3.cell y c (hcl y c e)
      exact ⟨v, oc, keep4 _ _ ho, hd⟩
    · show (List.replicate xs.length none ++ js.map _).length = N'.length
      rw [ok.eqN]
      simp
  have stat : ∀ {H' : Hp}, (∀ b ∈ fp, H' b = none) → ∀ b ∈ fp, FpOk (blk X csc N' s3 (upd H2 D (.lst [])) C fp) [] H' b := fun hn b hb => by
    obtain ⟨g0, g1, g2, g3, g4, g5⟩ := f2 b hb
    exact ⟨hn b hb, (Xok.exf b hb).1, Xok.exfs b hb, .inl hb, (Xok.exf b hb).2, fun p hp => absurd (show p ∈ ([] : List (Addr × Obj)) from hp) (by simp)⟩
  have loop : ∀ s' : Shared, Inv (blk X csc N' s3 (upd H2 D (.lst [])) C fp) [] (List.replicate xs.length none ++ js.map fun j => (σ[j]?).join) (upd H2 D (.lst [])) s' → tn 0 s'.heap →
      codeAny (model X.prog X.w) X.A (.compLoop (.ListComp elt [⟨target, iter, ifs, 0⟩] csc pos) 0 (.ref it) (.ref D) (compEnvC csc (clo csc X.env) C X.env)) (compPost (model X.prog X.w) X.A X.xe use R (.ref D) C) s' := by
    rintro s' I' t0
    refine compLoop_gen (fun m s => ∃ i ys H', Inv (blk X csc N' s3 (upd H2 D (.lst [])) C fp) [] (List.replicate xs.length none ++ js.map fun j => (σ[j]?).join) H' s ∧ tn i s.heap ∧ (∀ b ∈ fp, H' b = none) ∧ W i m ys H') ?_ m0 ⟨0, [], _, I', t0, f3, w0⟩
    rintro m s5 ⟨i, ys, H5, I5, t5, fr5, w5⟩
    obtain ⟨hDl, tt'⟩ := turn i m ys H5 w5
    rcases tt' with ⟨stop, qn⟩ | ⟨go, step⟩
    · refine thn (T.done (blk X csc N' s3 (upd H2 D (.lst [])) C fp) rfl rfl rfl hc i [] s5 _ H5 _ I5 (stat fr5) t5 stop) fun r s6 ⟨hr, I6⟩ => ?_
      subst hr
      obtain ⟨m6, n6, _⟩ := I6.loc
      have I7 : Inv X pins σ H5 s6 := I3.call' (s' := s6) I6.os I6.base I6.hok I6.bare fun b hb => by
        obtain ⟨g0, g1, g2, g3, g4, g5⟩ := f2 b hb
        exact ⟨g3, g1, g4, g5⟩
      exact hfin D C s6 H5 m6 _ I7 (I3.fpOk (Nat.le_of_eq hCe) I6.free) n6 qn
    · refine thn (T.item (blk X csc N' s3 (upd H2 D (.lst [])) C fp) rfl rfl rfl hc i [] s5 _ H5 _ I5 (stat fr5) t5 go) fun r s6 ⟨u, hr, h6⟩ => ?_
      subst hr
      refine thn h6 fun _ s7 ⟨xv, H6, I6, rx, y6, t6, fr6⟩ => ?_
      have I6' := I6.pinned (stat fr6) (T.obj _ _ t6)
      -- what is kept of the iterator, the block's names forgotten
      have back : ∀ {H10 : Hp} {s10 : Shared} {σ1 σ0 : L2.St}, σ1 = σ0 ++ (js.map fun j => (σ[j]?).join) → σ0.length = xs.length → Inv (blk X csc N' s3 (upd H2 D (.lst [])) C fp) ([] ++ pinsAt fp s7.heap) σ1 H10 s10 →
          Inv (blk X csc N' s3 (upd H2 D (.lst [])) C fp) [] (List.replicate xs.length none ++ js.map fun j => (σ[j]?).join) H10 s10 ∧ tn (i + 1) s10.heap ∧ ∀ b ∈ fp, H10 b = none := by
        intro H10 s10 σ1 σ0 e1 e2 I10
        subst e1
        refine ⟨(Inv.unpinned (pins := []) I10).weak (by simp [e2]) fun k v hk => ?_, T.keep _ _ _ t6 fun b hb o e => (I10.pin (b, o) (List.mem_append_right _ (List.mem_append_right _ (mem_pinsAt hb e)))).1, fun b hb => ?_⟩
        · by_cases hk' : k < xs.length
          · rw [List.getElem?_append_left (by rw [List.length_replicate]; exact hk'), List.getElem?_replicate, if_pos hk'] at hk
            cases hk
          · rw [List.getElem?_append_right (by rw [List.length_replicate]; (first | lia | omega)), List.length_replicate] at hk
            rw [List.getElem?_append_right (by (first | lia | omega)), e2]
            exact hk
        · obtain ⟨o, e, d⟩ := T.obj _ _ t6 b hb
          exact (I10.pin (b, o) (List.mem_append_right _ (List.mem_append_right _ (mem_pinsAt hb e)))).2.1
      have st0 := step xv H6 y6 s3 (upd H2 D (.lst [])) C fp (List.replicate xs.length none) (List.length_replicate ..)
      refine wpAny_mono (hg s3 (upd H2 D (.lst [])) C fp _ s7 _ H6 xv u _ I6' rx st0) (fun _ s8 h8 => ?_) (fun _ _ z => False.elim z)
      obtain ⟨σ1, H8, I8, ⟨σ0, e1, e2⟩, q8⟩ := h8
      refine wpAny_mono (ht s3 (upd H2 D (.lst [])) C fp _ s8 σ1 H8 _ I8 q8) (fun ok' s9 h9 => ?_) (fun _ _ z => False.elim z)
      obtain ⟨H9, I9, q9⟩ := h9
      cases ok' with
      | false =>
        have q9' := q9
        rw [if_neg Bool.false_ne_true] at q9'
        obtain ⟨hD9, m', hm', w9⟩ := q9'
        show if false = true then _ else _
        rw [if_neg Bool.false_ne_true]
        obtain ⟨I10, t10, f10⟩ := back e1 e2 I9
        exact ⟨m', hm', i + 1, ys, H9, I10, t10, f10, w9⟩
      | true =>
        have q9' := q9
        rw [if_pos rfl] at q9'
        show if true = true then _ else _
        rw [if_pos rfl]
        refine wpAny_mono (he s3 (upd H2 D (.lst [])) C fp _ s9 σ1 H9 _ I9 q9') (fun yv s10 h10 => ?_) (fun _ _ z => False.elim z)
        obtain ⟨y, H10, I10, ry, hD10, hlt, m', hm', w10⟩ := h10
        refine wpAny_mono (mt_append (X := blk X csc N' s3 (upd H2 D (.lst [])) C fp) _ s10 _ H10 (.ref D) [y] (.ref D) [yv] (fun _ H11 => H11 = upd H10 D (.lst (ys ++ [y]))) I10 rfl (.cons ry .nil) ⟨D, ys, y, rfl, rfl, hD10, hlt, rfl⟩) (fun v11 s11 h11 => ?_) (fun _ _ z => False.elim z)
        obtain ⟨v12, H12, I12, r12, e12⟩ := h11
        subst e12
        obtain ⟨J1, J2, J3⟩ := back e1 e2 I12
        exact ⟨m', hm', i + 1, ys ++ [y], _, J1, J2, J3, w10⟩
  have tn4 : tn 0 h4 := T.keep 0 _ _ tn3 fun b _ o e => keep4 b o e
  exact codeAny_compStart_list (loop _ I4 tn4) (T.self X.A 0 _ _ _ tn4 (loop _ I4 tn4))
theorem pg_blk {X : Cx} {csc : Scope} {N' : List Str} {s₀ : Shared} {H₀ : Hp} {C : Addr} {ex : List Addr} {i : Nat} {x : Str} {px : Pos} (nd : N'.Nodup) (hi : N'[i]? = some x) (hl : csc.names.lookup x = some .local) : PG (blk X csc N' s₀ H₀ C ex) (.Name x px) (gName i) :=
  pg_name (X := blk X csc N' s₀ H₀ C ex) nd hi (.inl (by
    show (relabel csc X.env).names.lookup x = some .local
    rw [relabel_lookup hl]
    rfl)) (.inr (by
    show (relabel csc X.env).names.lookup x = some .local
    rw [relabel_lookup hl]
    rfl))
theorem pi_mono {X : Cx} {tg iter : Expr} {wi : TI} (h : PI X tg iter wi) : PI X tg iter (fun σ H R => ∃ R' : It → Hp → Prop, wi σ H R' ∧ ∀ J H1, R' J H1 → R J H1) := by
  intro pins s σ H R I hw
  obtain ⟨R', hw, hm⟩ := hw
  refine thn (h pins s σ H R' I hw) fun v s1 h1 => thn h1 fun itv s2 h2 => ?_
  obtain ⟨it, fp, tn, J, H2, e, I2, T, st2, f2, hr⟩ := h2
  exact ⟨it, fp, tn, J, H2, e, I2, T, st2, f2, hm J H2 hr⟩
theorem comp_core {X : Cx} {elt iter : Expr} {x : Str} {px pos pos' : Pos} {csc : Scope} {wi : TI} {te : Shared → Hp → Addr → List Addr → TE} (js : List Nat) {N' : List Str} {fsc : Scope} {N : List Str} (ok : CompOk fsc csc x js N N') (hi : PI X (.Name x px) iter wi)
    (he : ∀ s₀ H₀ C ex, PE (blk X csc N' s₀ H₀ C ex) elt (te s₀ H₀ C ex)) (hc : X.calm = true) (hsc : X.env.scope = fsc) (hXN : X.N = N) (hs : ∀ x, foldedSetIterable iter X.env x = pure x)
    (use : Option (Value → Sem Unit)) (R : Value → Shared → Prop) {pins : List (Addr × Obj)} {s : Shared} {σ : L2.St} {H : Hp} {Q : VK} (I : Inv X pins σ H s) (h : tComp wi te js σ H Q)
    (hfin : ∀ (D C : Addr) (s6 : Shared) (H5 : Hp) (m6 : Str → Option Value) (r : Flow), Inv X pins σ H5 s6 → FpOk X pins H5 C → s6.heap.Ns C m6 → Q (.ref D) H5 → compPost (model X.prog X.w) X.A X.xe use R (.ref D) C (.ok r) s6) :
    wpAny (model X.prog X.w) X.A (comprehension (.ListComp elt [⟨.Name x px, iter, [], 0⟩] csc pos) csc X.env pos' (newList []) false (eval iter X.env) use) R X.xe s := by
  have ej : (js.map fun j => N.getD j x) = js.map fun j => N.getD j "" := List.map_congr_left fun j hj => by
    have := (ok.js j hj).1
    rw [List.getD_eq_getElem?_getD, List.getD_eq_getElem?_getD, List.getElem?_eq_getElem this]
    rfl
  have ok' : CompOkG fsc csc [x] js N N' := ⟨by rw [ok.eqN, ej]; rfl, ok.fr, ok.cell, ok.kind, ok.nm, fun j hj => by
    have := ok.js j hj
    have e : N.getD j x = N.getD j "" := by rw [List.getD_eq_getElem?_getD, List.getD_eq_getElem?_getD, List.getElem?_eq_getElem this.1]; rfl
    rw [e] at this
    exact this⟩
  refine compG_core (ifs := []) (tg := gName 0) (tt := fun _ _ _ _ => tNoTest) (te := te) [x] js ok' (pi_mono hi) (fun s₀ H₀ C ex => pg_blk ok.nd (by rw [ok.eqN]; rfl) ok.xl) (fun _ _ _ _ => pts_nil) he hc hsc hXN hs use R I ?_ hfin
  refine ⟨_, h, fun J H1 hw D hD => ?_⟩
  obtain ⟨W, w0, turn⟩ := hw D hD
  refine ⟨W, w0, fun i m ys H2 w => ?_⟩
  obtain ⟨e, t⟩ := turn i m ys H2 w
  refine ⟨e, t.imp id fun ⟨go, y⟩ => ⟨go, fun v H' yl s₀ H₀ C ex σ0 h0 => ?_⟩⟩
  obtain ⟨o, rfl⟩ : ∃ o, σ0 = [o] := by
    match σ0, h0 with
    | [o], _ => exact ⟨o, rfl⟩
  exact ⟨⟨[some v], rfl, rfl⟩, y v H' yl s₀ H₀ C ex⟩
theorem pe_comp {X : Cx} {elt iter : Expr} {x : Str} {px pos : Pos} {csc : Scope} {wi : TI} {te : Shared → Hp → Addr → List Addr → TE} (js : List Nat) {N' : List Str} {fsc : Scope} {N : List Str} (ok : CompOk fsc csc x js N N') (hi : PI X (.Name x px) iter wi)
    (he : ∀ s₀ H₀ C ex, PE (blk X csc N' s₀ H₀ C ex) elt (te s₀ H₀ C ex)) (hc : X.calm = true := by rfl) (hsc : X.env.scope = fsc := by rfl) (hXN : X.N = N := by rfl) (hs : ∀ x, foldedSetIterable iter X.env x = pure x := by intro _; rfl) :
    PE X (.ListComp elt [⟨.Name x px, iter, [], 0⟩] csc pos) (tComp wi te js) := by
  intro pins s σ H Q I h
  rw [eval_ListComp]
  exact comp_core js ok hi he hc hsc hXN hs none _ I h fun D C s6 H5 m6 _ I6 f6 n6 q => ⟨m6, n6, fun h7 sb => ⟨.ref D, H5, inv_but I6 f6 sb, rfl, q⟩⟩
theorem ps_setComp {X : Cx} {elt iter : Expr} {x y : Str} {px py pos spos : Pos} {i : Nat} {csc : Scope} {wi : TI} {te : Shared → Hp → Addr → List Addr → TE} (hN : X.N.Nodup) (hi' : X.N[i]? = some y) (hy : Loc X.env.scope y)
    (js : List Nat) {N' : List Str} {fsc : Scope} {N : List Str} (ok : CompOk fsc csc x js N N') (hi : PI X (.Name x px) iter wi)
    (he : ∀ s₀ H₀ C ex, PE (blk X csc N' s₀ H₀ C ex) elt (te s₀ H₀ C ex)) (hsw : swapsWith (.ListComp elt [⟨.Name x px, iter, [], 0⟩] csc pos) (some (.Name y py)) spos.line X.env = pure true := by rfl)
    (hc : X.calm = true := by rfl) (hsc : X.env.scope = fsc := by rfl) (hXN : X.N = N := by rfl) (hs : ∀ x, foldedSetIterable iter X.env x = pure x := by intro _; rfl)
    (hf : X.fn y = true ∨ X.env.scope.names.lookup y = some .local := by first | exact .inl rfl | exact .inr rfl | assumption) :
    PS X (.Assign [.Name y py] (.ListComp elt [⟨.Name x px, iter, [], 0⟩] csc pos) spos) (tAsg (tComp wi te js) (gName i)) := by
  intro pins s σ H D I h
  rw [exec_Assign_Name_used _ _ _ _ hsw]
  refine wpAny_bind (wpAny_standAt (wpAny_bind ?_))
  show wpAny _ X.A (do let _ ← comprehension (.ListComp elt [⟨.Name x px, iter, [], 0⟩] csc pos) csc X.env _ (newList []) false (eval iter X.env) (some (assign (.Name y py) X.env))) _ _ s
  refine wpAny_bind (wpAny_mono (comp_core js ok hi he hc hsc hXN hs (some (assign (.Name y py) X.env)) (fun _ s' => SP X pins D .next s') I h ?_) (fun _ s' hq => wpAny_pure (wpAny_pure hq)) fun _ _ e => e)
  intro D' C s6 H5 m6 r I6 f6 n6 q
  show wpAny _ X.A (assign (.Name y py) X.env (.ref D')) _ _ _
  obtain ⟨o6, es, ep, ho, hd, hrest⟩ := id n6
  have Ip := I6.pinned (fp := [C]) (fun b hb => by
    have e : b = C := by simpa using hb
    subst e
    exact f6) (fun b hb => by
    have e : b = C := by simpa using hb
    subst e
    exact ⟨o6, ho, fun v z => by rw [hd] at z; cases z⟩)
  refine wpAny_assign_Name (store_ok (i := i) Ip hN hi' hy (v := .ref D') rfl (fun s7 I7 => ?_) hf)
  refine ⟨m6, n6.at fun o e => (I7.pin (C, o) (List.mem_append_right _ (List.mem_append_right _ (mem_pinsAt List.mem_cons_self e)))).1, fun h7 sb => ?_⟩
  exact ⟨_, H5, inv_but I7.unpinned f6 sb, q⟩
end L3

namespace L3
open PySem PySem.Spec PyProof.Rows L2 Ra
end L3

namespace L3
open PySem PySem.Spec PyProof.Rows L2 Ra
mutual
inductive Dv (H : Hp) : V → PyData → Prop
  | non : Dv H .non .none
  | bl (b : Bool) : Dv H (.bl b) (.bool b)
  | int (i : Int) : Dv H (.int i) (.int i)
  | str (x : Str) (ok : (PyData.str x).canLay0 = true) : Dv H (.str x) (.str x)
  | lst {a : Addr} {xs : List V} {ds : List PyData} : H a = some (.lst xs) → DvAll H xs ds → Dv H (.ref a) (.list ds)
  | tup {a : Addr} {xs : List V} {ds : List PyData} : H a = some (.tup xs) → DvAll H xs ds → Dv H (.ref a) (.tuple ds)
inductive DvAll (H : Hp) : List V → List PyData → Prop
  | nil : DvAll H [] []
  | cons {v : V} {vs : List V} {d : PyData} {ds : List PyData} : Dv H v d → DvAll H vs ds → DvAll H (v :: vs) (d :: ds)
end
mutual
theorem Dv.keep {H H' : Hp} (s : Same H H') : ∀ {v : V} {d : PyData}, Dv H v d → Dv H' v d
  | _, _, .non => .non
  | _, _, .bl b => .bl b
  | _, _, .int i => .int i
  | _, _, .str x ok => .str x ok
  | _, _, .lst h r => .lst (s _ _ h) (DvAll.keep s r)
  | _, _, .tup h r => .tup (s _ _ h) (DvAll.keep s r)
theorem DvAll.keep {H H' : Hp} (s : Same H H') : ∀ {vs : List V} {ds : List PyData}, DvAll H vs ds → DvAll H' vs ds
  | _, _, .nil => .nil
  | _, _, .cons h r => .cons (Dv.keep s h) (DvAll.keep s r)
end
mutual
theorem Dv.can {H : Hp} : ∀ {v : V} {d : PyData}, Dv H v d → d.canLay0 = true
  | _, _, .non => rfl
  | _, _, .bl _ => rfl
  | _, _, .int _ => rfl
  | _, _, .str _ ok => ok
  | _, _, .lst _ r => by rw [PyData.canLay0]; exact DvAll.can r
  | _, _, .tup _ r => by rw [PyData.canLay0]; exact DvAll.can r
theorem DvAll.can {H : Hp} : ∀ {vs : List V} {ds : List PyData}, DvAll H vs ds → PyData.canLayAll0 ds = true
  | _, _, .nil => rfl
  | _, _, .cons h r => by rw [PyData.canLayAll0, Dv.can h, DvAll.can r]; rfl
end
section
variable {X : Cx} {pins : List (Addr × Obj)} {σ : L2.St} {H : Hp} {s : Shared}
mutual
theorem Dv.reads (I : Inv X pins σ H s) : ∀ {v : V} {d : PyData} {u : Value}, Dv H v d → RelV v u → ∃ as, Reads s.heap u d as
  | _, _, _, .non, r => by cases r; exact ⟨_, .none⟩
  | _, _, _, .bl b, r => by cases r; exact ⟨_, .bool b⟩
  | _, _, _, .int i, r => by obtain ⟨t, rfl⟩ := r; exact ⟨_, .int i t⟩
  | _, _, _, .str x _, r => by obtain ⟨t, rfl⟩ := r; exact ⟨_, .str x t⟩
  | _, _, _, .lst h q, r => by
    cases r
    obtain ⟨its, rv, p, _⟩ := I.list (SqL.of h)
    obtain ⟨o, e, hc, n, hd⟩ := p.isList
    obtain ⟨as, ra⟩ := DvAll.reads I q rv
    exact ⟨_, .list e hc hd ra⟩
  | _, _, _, .tup h q, r => by
    cases r
    obtain ⟨its, rv, p, _⟩ := I.tuple (SqT.of h)
    obtain ⟨o, e, hc, n, hd⟩ := p
    obtain ⟨as, ra⟩ := DvAll.reads I q rv
    exact ⟨_, .tuple e hc hd ra⟩
theorem DvAll.reads (I : Inv X pins σ H s) : ∀ {vs : List V} {ds : List PyData} {us : List Value}, DvAll H vs ds → Vals vs us → ∃ as, ReadsAll s.heap us ds as
  | _, _, _, .nil, .nil => ⟨_, .nil⟩
  | _, _, _, .cons h q, .cons r rs => by
    obtain ⟨as, ra⟩ := Dv.reads I h r
    obtain ⟨bs, rb⟩ := DvAll.reads I q rs
    exact ⟨_, .cons ra rb⟩
end
end
noncomputable def rEqD (c : Bool → Bool) : R2 := fun x y H Q => ∃ dx dy, Dv H x dx ∧ Dv H y dy ∧ dx.depth ≤ 60 ∧ Q (.bl (c (PyData.eqv dx dy))) H
theorem op_eqD {X : Cx} (hu : X.A.units + 64 < cLine) : OpR X (compareOp .Eq) (rEqD fun b => b) := by
  intro pins s σ H x y v u Q I rx ry h
  obtain ⟨dx, dy, hx, hy, hd, q⟩ := h
  obtain ⟨as, ra⟩ := hx.reads I rx
  obtain ⟨bs, rb⟩ := hy.reads I ry
  exact SeqAt.compareEq_reads ra rb hx.can hy.can (by have := Nat.min_le_left dx.depth dy.depth; (first | lia | omega)) ⟨.bl _, H, I, rfl, q⟩
theorem op_neD {X : Cx} (hu : X.A.units + 64 < cLine) : OpR X (compareOp .NotEq) (rEqD fun b => !b) := by
  intro pins s σ H x y v u Q I rx ry h
  obtain ⟨dx, dy, hx, hy, hd, q⟩ := h
  obtain ⟨as, ra⟩ := hx.reads I rx
  obtain ⟨bs, rb⟩ := hy.reads I ry
  exact SeqAt.compareNe_reads ra rb hx.can hy.can (by have := Nat.min_le_left dx.depth dy.depth; (first | lia | omega)) ⟨.bl _, H, I, rfl, q⟩
theorem paired_left {α β : Type} {F : α → β → Prop} : ∀ {xs : List α} {ys : List β} {x : α}, Paired F xs ys → x ∈ xs → ∃ y, y ∈ ys ∧ F x y
  | _, _, _, .nil, h => by simp at h
  | _, _, _, .cons a r, h => by
    rcases List.mem_cons.mp h with e | e
    · exact ⟨_, List.mem_cons_self, by rw [e]; exact a⟩
    · obtain ⟨y, hy, q⟩ := paired_left r e
      exact ⟨y, List.mem_cons_of_mem _ hy, q⟩
theorem paired_imp {α β : Type} {F G : α → β → Prop} : ∀ {xs : List α} {ys : List β}, (∀ x y, x ∈ xs → F x y → G x y) → Paired F xs ys → Paired G xs ys
  | _, _, _, .nil => .nil
  | _, _, h, .cons a r => .cons (h _ _ List.mem_cons_self a) (paired_imp (fun x y hx q => h x y (List.mem_cons_of_mem _ hx) q) r)
noncomputable def Pq (H : Hp) (p : Addr) (q : Rat) : Prop := Pr H p q.num q.den
theorem Pq.keep {H H' : Hp} {p : Addr} {q : Rat} (h : Pq H p q) (s : Same H H') : Pq H' p q := s _ _ h
theorem Pq.sq {K : PySem.W.Frag} {H : Hp} {p : Addr} {q : Rat} (h : Pq H p q) : SqT K H p [.int q.num, .int q.den] := SqT.of h
theorem Pq.of {H : Hp} {p : Addr} {x y : Int} {q : Rat} (h : Pr H p x y) (e : q.num = x ∧ (q.den : Int) = y) : Pq H p q := by
  unfold Pq
  rw [e.1, e.2]
  exact h
noncomputable abbrev Pqs (H : Hp) : List Addr → List Rat → Prop := Paired (Pq H)
theorem Pqs.keep {H H' : Hp} {ps : List Addr} {qs : List Rat} (h : Pqs H ps qs) (s : Same H H') : Pqs H' ps qs := Paired.imp' (fun _ _ z => z.keep s) h
noncomputable def Rw (H : Hp) (a : Addr) (qs : List Rat) : Prop := ∃ ps : List Addr, H a = some (.lst (ps.map V.ref)) ∧ Pqs H ps qs
theorem Rw.keep {H H' : Hp} {a : Addr} {qs : List Rat} (h : Rw H a qs) (s : Same H H') : Rw H' a qs := by
  obtain ⟨ps, h1, h2⟩ := h
  exact ⟨ps, s _ _ h1, h2.keep s⟩
theorem Pqs.get : ∀ {H : Hp} {ps : List Addr} {qs : List Rat} {i : Nat} {q : Rat}, Pqs H ps qs → qs[i]? = some q → ∃ p, (ps.map V.ref)[i]? = some (.ref p) ∧ Pq H p q
  | _, _, _, 0, _, .cons h _, e => by cases e; exact ⟨_, rfl, h⟩
  | _, _, _, _ + 1, _, .cons _ r, e => by
    rw [List.getElem?_cons_succ] at e
    obtain ⟨p, h1, h2⟩ := Pqs.get r e
    exact ⟨p, by rw [List.map_cons, List.getElem?_cons_succ]; exact h1, h2⟩
theorem Pqs.take : ∀ {H : Hp} {ps : List Addr} {qs : List Rat} (n : Nat), Pqs H ps qs → Pqs H (ps.take n) (qs.take n)
  | _, _, _, 0, _ => .nil
  | _, _, _, _ + 1, .nil => .nil
  | _, _, _, n + 1, .cons h r => .cons h (Pqs.take n r)
theorem Pqs.append : ∀ {H : Hp} {ps rs : List Addr} {qs ts : List Rat}, Pqs H ps qs → Pqs H rs ts → Pqs H (ps ++ rs) (qs ++ ts)
  | _, _, _, _, _, .nil, k => k
  | _, _, _, _, _, .cons h r, k => .cons h (Pqs.append r k)
theorem Pqs.length {H : Hp} {ps : List Addr} {qs : List Rat} (h : Pqs H ps qs) : ps.length = qs.length := Paired.length h
theorem Pqs.set : ∀ {H : Hp} {ps : List Addr} {qs : List Rat} (n : Nat) {p : Addr} {q : Rat}, Pqs H ps qs → Pq H p q → Pqs H (ps.set n p) (qs.set n q)
  | _, _, _, _, _, _, .nil, _ => .nil
  | _, _, _, 0, _, _, .cons _ r, k => .cons k r
  | _, _, _, n + 1, _, _, .cons h r, k => .cons h (Pqs.set n r k)
noncomputable def dq (q : Rat) : PyData := .tuple [.int q.num, .int q.den]
noncomputable def dr (qs : List Rat) : PyData := .list (qs.map dq)
theorem Pq.dv {H : Hp} {p : Addr} {q : Rat} (h : Pq H p q) : Dv H (.ref p) (dq q) := .tup h (.cons (.int _) (.cons (.int _) .nil))
theorem Pqs.dv : ∀ {H : Hp} {ps : List Addr} {qs : List Rat}, Pqs H ps qs → DvAll H (ps.map V.ref) (qs.map dq)
  | _, _, _, .nil => .nil
  | _, _, _, .cons h r => .cons h.dv (Pqs.dv r)
theorem Rw.dv {H : Hp} {a : Addr} {qs : List Rat} (h : Rw H a qs) : Dv H (.ref a) (dr qs) := by
  obtain ⟨ps, h1, h2⟩ := h
  exact .lst h1 h2.dv
theorem eqv_dq (p q : Rat) : PyData.eqv (dq p) (dq q) = decide (p = q) := by
  show PyData.eqv (.tuple [.int p.num, .int p.den]) (.tuple [.int q.num, .int q.den]) = _
  simp only [PyData.eqv, PyData.eqvAll, Bool.and_true]
  by_cases h : p = q
  · subst h
    simp
  · rw [decide_eq_false h]
    by_cases h1 : p.num = q.num
    · have h2 : ¬ (p.den : Int) = (q.den : Int) := fun z => h (Rat.ext h1 (by (first | lia | omega)))
      have : ((p.den : Int) == (q.den : Int)) = false := by simpa using h2
      rw [this, Bool.and_false]
    · have : (p.num == q.num) = false := by simpa using h1
      rw [this, Bool.false_and]
theorem eqv_all (ps qs : List Rat) : PyData.eqvAll (ps.map dq) (qs.map dq) = decide (ps = qs) := by
  induction ps generalizing qs with
  | nil => cases qs <;> simp [PyData.eqvAll]
  | cons p ps ih =>
    cases qs with
    | nil => simp [PyData.eqvAll]
    | cons q qs =>
      rw [List.map_cons, List.map_cons, PyData.eqvAll, eqv_dq, ih]
      by_cases h : p = q <;> by_cases k : ps = qs <;> simp [h, k]
theorem eqv_dr (ps qs : List Rat) : PyData.eqv (dr ps) (dr qs) = decide (ps = qs) := by
  show PyData.eqv (.list _) (.list _) = _
  rw [PyData.eqv]
  exact eqv_all ps qs
theorem depth_dq (q : Rat) : (dq q).depth ≤ 2 := by
  show PyData.depth (.tuple [.int q.num, .int q.den]) ≤ 2
  simp [PyData.depth, PyData.depthAll]
theorem depthAll_dq (qs : List Rat) : PyData.depthAll (qs.map dq) ≤ 2 := by
  induction qs with
  | nil => simp [PyData.depthAll]
  | cons q qs ih =>
    rw [List.map_cons, PyData.depthAll]
    exact Nat.max_le.mpr ⟨depth_dq q, ih⟩
theorem depth_dr (qs : List Rat) : (dr qs).depth ≤ 3 := by
  show PyData.depth (.list _) ≤ 3
  rw [PyData.depth]
  have := depthAll_dq qs
  (first | lia | omega)
theorem Rw.updO {H : Hp} {a b : Addr} {xs ys : List V} {qs : List Rat} (h : Rw H b qs) (ha : H a = some (.lst xs)) (n : b ≠ a) : Rw (upd H a (.lst ys)) b qs := by
  obtain ⟨ps, h1, h2⟩ := h
  exact ⟨ps, by rw [upd_ne n]; exact h1, Paired.imp' (fun p q z => by
    have z' : H p = some (.tup [.int q.num, .int q.den]) := z
    show upd H a (.lst ys) p = _
    rw [upd_ne (ne_of z' ha (by intro w; cases w))]
    exact z') h2⟩
theorem Rw.lt {H : Hp} {a : Addr} {qs : List Rat} (h : Rw H a qs) : ∃ xs, H a = some (.lst xs) ∧ xs.length = qs.length := by
  obtain ⟨ps, h1, h2⟩ := h
  exact ⟨_, h1, by rw [List.length_map, h2.length]⟩
theorem Rw.app {H H2 : Hp} {D p : Addr} {qs : List Rat} {q : Rat} (h : Rw H D qs) (s : Same H H2) (kp : Pq H2 p q) :
    ∃ xs, H2 D = some (.lst xs) ∧ xs.length = qs.length ∧ Rw (upd H2 D (.lst (xs ++ [.ref p]))) D (qs ++ [q]) := by
  obtain ⟨ps, h1, h2⟩ := h.keep s
  refine ⟨_, h1, by rw [List.length_map, h2.length], ps ++ [p], by rw [upd_same]; simp, ?_⟩
  have up : ∀ p q, Pq H2 p q → Pq (upd H2 D (.lst (ps.map V.ref ++ [.ref p]))) p q := fun p q z => by
    have z' : H2 p = some (.tup [.int q.num, .int q.den]) := z
    show upd H2 D _ p = _
    rw [upd_ne (ne_of z' h1 (by intro w; cases w))]
    exact z'
  have up2 : ∀ r t, Pq H2 r t → Pq (upd H2 D (.lst (ps.map V.ref ++ [.ref p]))) r t := fun r t z => by
    have z' : H2 r = some (.tup [.int t.num, .int t.den]) := z
    show upd H2 D _ r = _
    rw [upd_ne (ne_of z' h1 (by intro w; cases w))]
    exact z'
  exact Pqs.append (Paired.imp' up2 h2) (.cons (up2 _ _ kp) .nil)
theorem atI_0 {α : Type} {xs : List α} {j : Nat} {v : α} (h : xs[j]? = some v) : atI xs (0 + (j : Int)) = some v := by
  rw [Int.zero_add]
  exact atI_nat h
theorem kit_lst_lst (K : PySem.W.Frag) : PySem.W.kitOne K (.type "list") (.type "list") = some true := rfl
theorem eqv_dq_self (q : Rat) : PyData.eqv (dq q) (dq q) = true := by rw [eqv_dq]; simp
theorem eqv_dr_self (qs : List Rat) : PyData.eqv (dr qs) (dr qs) = true := by rw [eqv_dr]; simp
noncomputable def drr (rss : List (List Rat)) : PyData := .list (rss.map dr)
theorem Rws.dv : ∀ {H : Hp} {as : List Addr} {rss : List (List Rat)}, Paired (Rw H) as rss → DvAll H (as.map V.ref) (rss.map dr)
  | _, _, _, .nil => .nil
  | _, _, _, .cons h r => .cons h.dv (Rws.dv r)
theorem depthAll_dr (rss : List (List Rat)) : PyData.depthAll (rss.map dr) ≤ 3 := by
  induction rss with
  | nil => simp [PyData.depthAll]
  | cons q qs ih =>
    rw [List.map_cons, PyData.depthAll]
    exact Nat.max_le.mpr ⟨depth_dr q, ih⟩
theorem depth_drr (rss : List (List Rat)) : (drr rss).depth ≤ 4 := by
  show PyData.depth (.list _) ≤ 4
  rw [PyData.depth]
  have := depthAll_dr rss
  (first | lia | omega)
theorem eqvAll_dr_self (rss : List (List Rat)) : PyData.eqvAll (rss.map dr) (rss.map dr) = true := by
  induction rss with
  | nil => rfl
  | cons r rss ih => rw [List.map_cons, PyData.eqvAll, eqv_dr_self, ih]; rfl
theorem eqv_drr_self (rss : List (List Rat)) : PyData.eqv (drr rss) (drr rss) = true := by
  show PyData.eqv (.list _) (.list _) = _
  rw [PyData.eqv]
  exact eqvAll_dr_self rss
theorem Rw.ne {H : Hp} {a b : Addr} {qs : List Rat} (h : Rw H a qs) (n : H b = none) : a ≠ b := by
  obtain ⟨ps, h1, _⟩ := h
  exact ne_of_none h1 n
noncomputable def Sx (S : List Addr) (H H' : Hp) : Prop := ∀ b o, b ∉ S → H b = some o → H' b = some o
theorem Rw.copy {H : Hp} {a c : Addr} {qs : List Rat} {xs : List V} (h : Rw H a qs) (e : H a = some (.lst xs)) (n : H c = none) : Rw (upd H c (.lst xs)) c qs := by
  obtain ⟨ps, e1, e2⟩ := h
  rw [e] at e1
  have e3 : xs = ps.map V.ref := by
    have := Option.some.inj e1
    injection this
  exact ⟨ps, by rw [upd_same, e3], e2.keep (same_upd n _)⟩
theorem Rw.there {H : Hp} {a : Addr} {qs : List Rat} (h : Rw H a qs) : ∃ xs, H a = some (.lst xs) ∧ xs.length = qs.length := h.lt
theorem cut_to {α : Type} (f : α → V) (ps : List α) (k : Nat) : cutV (ps.map f) none (some (k : Int)) = (ps.take k).map f := by
  unfold cutV
  rw [HT.sIx_none, HT.sIx_nat, List.length_map, List.drop_zero, Nat.sub_zero, List.map_take]
  by_cases h : k ≤ ps.length
  · rw [Nat.min_eq_left h]
  · rw [Nat.min_eq_right (by (first | lia | omega)), List.take_of_length_le (by rw [List.length_map]; (first | lia | omega)), List.take_of_length_le (by rw [List.length_map]; (first | lia | omega))]
end L3

namespace L3
open PySem PySem.Spec PyProof.Rows L2 Ra
noncomputable def Itv (K : PySem.W.Frag) (a : Addr) (n : Nat) : It :=
  ⟨fun i H => i < n ∧ ∃ xs x, SqL K H a xs ∧ xs[n - 1 - i]? = some x, fun i H x H' => H' = H ∧ ∀ xs, SqL K H a xs → xs[n - 1 - i]? = some x, fun i _ => i = n⟩
noncomputable def iRev (K : PySem.W.Frag) (ta : TA) : TI := fun σ H R => ta σ H fun vs H1 => ∃ a xs, vs = [.ref a] ∧ SqL K H1 a xs ∧ R (Itv K a xs.length) H1
noncomputable def tCutS (t : TS) : TS := fun D σ H => ∃ Mid : L2.St → Hp → Prop, (∀ σ' H', Mid σ' H' → D.nx σ' H') ∧ t { D with nx := Mid } σ H
theorem ps_cut {X : Cx} {st : Stmt} {t : TS} (h : PS X st t) : PS X st (tCutS t) := by
  intro pins s σ H D I hw
  obtain ⟨Mid, hm, hw⟩ := hw
  refine thn (h pins s σ H _ I hw) fun f s1 q => ?_
  cases f with
  | next =>
    obtain ⟨σ', H', I', q⟩ := q
    exact ⟨σ', H', I', hm _ _ q⟩
  | ret v => exact q
  | brk => exact q
  | cont => exact q
theorem Pq.updL {H : Hp} {D p : Addr} {xs ys : List V} {q : Rat} (h : H D = some (.lst xs)) (k : Pq H p q) : Pq (upd H D (.lst ys)) p q := by
  unfold Pq Pr
  rw [upd_ne (ne_of k h (by intro z; cases z))]
  exact k
theorem Pqs.updL {H : Hp} {D : Addr} {xs ys : List V} {ps : List Addr} {qs : List Rat} (h : H D = some (.lst xs)) (k : Pqs H ps qs) : Pqs (upd H D (.lst ys)) ps qs := Paired.imp' (fun _ _ z => z.updL h) k
theorem same_updF {H1 H : Hp} {D : Addr} (s : Same H1 H) (hD : H1 D = none) (o : HO) : Same H1 (upd H D o) := fun b u q => by rw [upd_ne (ne_of_none q hD)]; exact s b u q
theorem comp_rangeQ {lo : Int} {n : Nat} {te : Shared → Hp → Addr → List Addr → TE} {js : List Nat} {σ : L2.St} {H1 : Hp} {Q : VK} (hn : n ≤ 100000) (f : Nat → Rat)
    (hs : ∀ s₀ H₀ C ex i H (R : VK), i < n → Same H1 H → (∀ p H2, Same H H2 → Pq H2 p (f i) → R (.ref p) H2) → te s₀ H₀ C ex (some (.int (lo + i)) :: js.map fun j => (σ[j]?).join) H R)
    (hd : ∀ H D, Same H1 H → H1 D = none → Rw H D ((List.range n).map f) → Q (.ref D) H) : CompAt (Itr lo n) te js σ Q H1 := by
  intro D hD
  refine ⟨fun i m ys H => m = n - i ∧ i ≤ n ∧ (∃ ps, ys = ps.map V.ref ∧ Pqs H ps ((List.range i).map f)) ∧ Same H1 H ∧ H D = some (.lst ys), ⟨n, by simp, Nat.zero_le _, ⟨[], rfl, .nil⟩, same_upd hD _, upd_same⟩, ?_⟩
  rintro i m ys H ⟨rfl, hi, ⟨ps, rfl, hp⟩, sm, hDl⟩
  refine ⟨hDl, ?_⟩
  by_cases hlt : i < n
  · refine .inr ⟨hlt, fun x H' y s₀ H₀ C ex => ?_⟩
    obtain ⟨e, y⟩ := y
    subst e y
    refine hs s₀ H₀ C ex i H' _ hlt sm fun p H2 s2 kp => ?_
    have h2 := s2 _ _ hDl
    have hp2 := hp.keep s2
    have hl := hp.length
    rw [List.length_map, List.length_range] at hl
    have hz : (100000 : Nat) < sizeLine := by decide
    refine ⟨h2, by rw [List.length_map]; (first | lia | omega), n - (i + 1), by (first | lia | omega), rfl, hlt, ⟨ps ++ [p], by simp, ?_⟩, same_updF (sm.trans s2) hD _, upd_same⟩
    rw [List.range_succ, List.map_append]
    exact (hp2.updL h2).append (.cons (kp.updL h2) .nil)
  · have e : i = n := by (first | lia | omega)
    subst e
    exact .inl ⟨Nat.le_refl _, hd H D sm hD ⟨ps, hDl, hp⟩⟩
theorem comp_listQ {K : PySem.W.Frag} {a : Addr} {qs : List Rat} {te : Shared → Hp → Addr → List Addr → TE} {js : List Nat} {σ : L2.St} {H1 : Hp} {Q : VK} (hn : qs.length ≤ 100000) (ha : Rw H1 a qs) (f : Rat → Rat)
    (hs : ∀ s₀ H₀ C ex p q H (R : VK), q ∈ qs → Pq H p q → Same H1 H → (∀ p' H2, Same H H2 → Pq H2 p' (f q) → R (.ref p') H2) → te s₀ H₀ C ex (some (.ref p) :: js.map fun j => (σ[j]?).join) H R)
    (hd : ∀ H D, Same H1 H → H1 D = none → Rw H D (qs.map f) → Q (.ref D) H) : CompAt (Itl K a) te js σ Q H1 := by
  intro D hD
  obtain ⟨rs, hrs, kr⟩ := ha
  have hlr := kr.length
  refine ⟨fun i m ys H => m = qs.length - i ∧ i ≤ qs.length ∧ (∃ ps, ys = ps.map V.ref ∧ Pqs H ps ((qs.take i).map f)) ∧ Same H1 H ∧ H D = some (.lst ys), ⟨qs.length, by simp, Nat.zero_le _, ⟨[], rfl, .nil⟩, same_upd hD _, upd_same⟩, ?_⟩
  rintro i m ys H ⟨rfl, hi, ⟨ps, rfl, hp⟩, sm, hDl⟩
  refine ⟨hDl, ?_⟩
  have hr := sm _ _ hrs
  by_cases hlt : i < qs.length
  · have eq : qs[i]? = some qs[i] := List.getElem?_eq_getElem hlt
    obtain ⟨p0, h0, k0⟩ := (kr.keep sm).get eq
    refine .inr ⟨⟨_, _, SqL.of hr, h0⟩, fun x H' y s₀ H₀ C ex => ?_⟩
    obtain ⟨e, y⟩ := y
    subst e
    have ex' := y _ (SqL.of hr)
    rw [h0] at ex'
    cases ex'
    refine hs s₀ H₀ C ex p0 _ H' _ (List.getElem_mem hlt) k0 sm fun p H2 s2 kp => ?_
    have h2 := s2 _ _ hDl
    have hp2 := hp.keep s2
    have hl := hp.length
    rw [List.length_map, List.length_take] at hl
    have hz : (100000 : Nat) < sizeLine := by decide
    refine ⟨h2, by rw [List.length_map]; (first | lia | omega), qs.length - (i + 1), by (first | lia | omega), rfl, hlt, ⟨ps ++ [p], by simp, ?_⟩, same_updF (sm.trans s2) hD _, upd_same⟩
    rw [List.take_succ, eq, List.map_append]
    exact (hp2.updL h2).append (.cons (kp.updL h2) .nil)
  · have e : i = qs.length := by (first | lia | omega)
    subst e
    rw [List.take_length] at hp
    exact .inl ⟨⟨_, SqL.of hr, by rw [List.length_map]; (first | lia | omega)⟩, hd H D sm hD ⟨ps, hDl, hp⟩⟩
end L3

namespace L3
open PySem PySem.Spec PyProof.Rows L2 Ra
noncomputable def Itz (K : PySem.W.Frag) (a b : Addr) : It :=
  ⟨fun i H => ∃ xs ys x y, SqL K H a xs ∧ SqL K H b ys ∧ xs[i]? = some x ∧ ys[i]? = some y,
   fun i H v H' => ∃ T x y, v = .ref T ∧ H T = none ∧ H' = upd H T (.tup [x, y]) ∧ (∀ xs, SqL K H a xs → xs[i]? = some x) ∧ ∀ ys, SqL K H b ys → ys[i]? = some y,
   fun i H => ∃ xs ys, SqL K H a xs ∧ SqL K H b ys ∧ (xs.length ≤ i ∨ ys.length ≤ i)⟩
noncomputable def iZip (K : PySem.W.Frag) (ta : TA) : TI := fun σ H R => ta σ H fun vs H1 => ∃ a b, vs = [.ref a, .ref b] ∧ (∃ xs, SqL K H1 a xs) ∧ (∃ ys, SqL K H1 b ys) ∧ R (Itz K a b) H1
end L3

namespace L3
open PySem PySem.Spec PyProof.Rows L2 Ra Rq
theorem comp_listZ {K : PySem.W.Frag} {a : Addr} {qs : List Rat} {te : Shared → Hp → Addr → List Addr → TE} {js : List Nat} {σ : L2.St} {H1 : Hp} {Q : VK} (hn : qs.length ≤ 100000) (ha : Rw H1 a qs) (f : Rat → Int)
    (hs : ∀ s₀ H₀ C ex p q H (R : VK), q ∈ qs → Pq H p q → Same H1 H → R (.int (f q)) H → te s₀ H₀ C ex (some (.ref p) :: js.map fun j => (σ[j]?).join) H R)
    (hd : ∀ H D, Same H1 H → H1 D = none → H D = some (.lst ((qs.map f).map V.int)) → Q (.ref D) H) : CompAt (Itl K a) te js σ Q H1 := by
  intro D hD
  obtain ⟨rs, hrs, kr⟩ := ha
  have hlr := kr.length
  refine ⟨fun i m ys H => m = qs.length - i ∧ i ≤ qs.length ∧ ys = ((qs.take i).map f).map V.int ∧ Same H1 H ∧ H D = some (.lst ys), ⟨qs.length, by simp, Nat.zero_le _, rfl, same_upd hD _, upd_same⟩, ?_⟩
  rintro i m ys H ⟨rfl, hi, rfl, sm, hDl⟩
  refine ⟨hDl, ?_⟩
  have hr := sm _ _ hrs
  by_cases hlt : i < qs.length
  · have eq : qs[i]? = some qs[i] := List.getElem?_eq_getElem hlt
    obtain ⟨p0, h0, k0⟩ := (kr.keep sm).get eq
    refine .inr ⟨⟨_, _, SqL.of hr, h0⟩, fun x H' y s₀ H₀ C ex => ?_⟩
    obtain ⟨e, y⟩ := y
    subst e
    have ex' := y _ (SqL.of hr)
    rw [h0] at ex'
    cases ex'
    refine hs s₀ H₀ C ex p0 _ H' _ (List.getElem_mem hlt) k0 sm ?_
    have hz : (100000 : Nat) < sizeLine := by decide
    refine ⟨hDl, by rw [List.length_map, List.length_map, List.length_take]; (first | lia | omega), qs.length - (i + 1), by (first | lia | omega), rfl, hlt, ?_, ?_, upd_same⟩
    · rw [List.take_succ, eq, List.map_append, List.map_append]; rfl
    · intro b o e
      rw [upd_ne (ne_of_none e hD)]
      exact sm _ _ e
  · have e : i = qs.length := by (first | lia | omega)
    subst e
    rw [List.take_length] at hDl
    exact .inl ⟨⟨_, SqL.of hr, by rw [List.length_map]; (first | lia | omega)⟩, hd H D sm hD hDl⟩
noncomputable def cnt (p : Nat → Bool) : Nat → Nat
  | 0 => 0
  | n + 1 => cnt p n + if p n then 1 else 0
end L3

namespace L3
open PySem PySem.Spec PyProof.Rows L2 Ra Rq
theorem comp_intsI {K : PySem.W.Frag} {a : Addr} {ns : List Int} {te : Shared → Hp → Addr → List Addr → TE} {js : List Nat} {σ : L2.St} {H1 : Hp} {Q : VK} (hn : ns.length ≤ 100000) (ha : H1 a = some (.lst (ns.map V.int))) (f : Int → Int)
    (hs : ∀ s₀ H₀ C ex x H (R : VK), x ∈ ns → R (.int (f x)) H → te s₀ H₀ C ex (some (.int x) :: js.map fun j => (σ[j]?).join) H R)
    (hd : ∀ H D, Same H1 H → H1 D = none → H D = some (.lst ((ns.map f).map V.int)) → Q (.ref D) H) : CompAt (Itl K a) te js σ Q H1 := by
  intro D hD
  refine ⟨fun i m ys H => m = ns.length - i ∧ i ≤ ns.length ∧ ys = ((ns.take i).map f).map V.int ∧ Same H1 H ∧ H D = some (.lst ys), ⟨ns.length, by simp, Nat.zero_le _, rfl, same_upd hD _, upd_same⟩, ?_⟩
  rintro i m ys H ⟨rfl, hi, rfl, sm, hDl⟩
  refine ⟨hDl, ?_⟩
  have hr := sm _ _ ha
  by_cases hlt : i < ns.length
  · have eq : ns[i]? = some ns[i] := List.getElem?_eq_getElem hlt
    have h0 : (ns.map V.int)[i]? = some (.int ns[i]) := by rw [List.getElem?_map, eq]; rfl
    refine .inr ⟨⟨_, _, SqL.of hr, h0⟩, fun x H' y s₀ H₀ C ex => ?_⟩
    obtain ⟨e, y⟩ := y
    subst e
    have ex' := y _ (SqL.of hr)
    rw [h0] at ex'
    cases ex'
    refine hs s₀ H₀ C ex _ H' _ (List.getElem_mem hlt) ?_
    have hz : (100000 : Nat) < sizeLine := by decide
    refine ⟨hDl, by rw [List.length_map, List.length_map, List.length_take]; (first | lia | omega), ns.length - (i + 1), by (first | lia | omega), rfl, hlt, ?_, ?_, upd_same⟩
    · rw [List.take_succ, eq, List.map_append, List.map_append]; rfl
    · intro b o e
      rw [upd_ne (ne_of_none e hD)]
      exact sm _ _ e
  · have e : i = ns.length := by (first | lia | omega)
    subst e
    rw [List.take_length] at hDl
    exact .inl ⟨⟨_, SqL.of hr, by rw [List.length_map]; (first | lia | omega)⟩, hd H D sm hD hDl⟩
end L3

namespace L3
open PySem PySem.Spec PyProof.Rows L2 Ra
structure CalM (P : Program) (w : World) (K : PySem.W.Frag) (mg : Str → Option Value) (base : Heap) (C : Addr) (m : Str) (k : Nat) (ps : List Str) (sp : Sp) : Prop where
  ex : ∃ f fd, FnOk P w K mg base CX0 k f fd ps sp ∧ Binds K fd ps [] ∧ Meth K C m f ∧ Cls K C
structure CalC (P : Program) (w : World) (K : PySem.W.Frag) (mg : Str → Option Value) (base : Heap) (x : Str) (C : Addr) (k : Nat) (ps : List Str) (sp : Sp) : Prop where
  ex : ∃ f fd, FnOk P w K mg base CX0 k f fd ps sp ∧ Binds K fd ps [] ∧ Mk K C f ∧ mg x = some (.ref C)
section
variable {X : Cx} {C : Addr} {m x : Str} {k j : Nat} {ps : List Str} {sp : Sp} {o e : Expr} {es : List Expr} {ta : TE} {t : TA} {p apos pos : Pos} {pl : Sem Bool}
end
structure CalD (P : Program) (w : World) (K : PySem.W.Frag) (mg : Str → Option Value) (base : Heap) (x : Str) (k : Nat) (ps : List Str) (ds : List Value) (dvs : List V) (sp : Sp) : Prop where
  ex : ∃ f fd, FnOk P w K mg base CX0 k f fd ps sp ∧ Binds K fd ps ds ∧ PySem.W.keepIn K (.ref f) = true ∧ mg x = some (.ref f)
  dv : Vals dvs ds
theorem pe_clD {X : Cx} {x : Str} {k j : Nat} {ps : List Str} {ds : List Value} {dvs : List V} {sp : Sp} {e : Expr} {es : List Expr} {t : TA} {p pos : Pos} (C : CalD X.prog X.w X.K X.mg X.base x k ps ds dvs sp) (hr : Room j X.A) (ha : PA X (e :: es) t) (hkj : k ≤ j := by decide) (hg : Gl X x := by rfl)
    (hdb : (x == ("__debug__" : Str)) = false := by decide) (he : starEach (e :: es) X.env = (false, eval e X.env) :: starEach es X.env := by rfl) (hpl : (backTo pos (starEach es X.env)).any (·.1) = false := by rfl) :
    PE X (.Call (.Name x p) (e :: es) [] pos) (tCall sp dvs E0 t) := by
  obtain ⟨f, fd, F, b, kp, m⟩ := C.ex
  exact pe_call F (hr.mono hkj) hg m kp b C.dv pass0 ha hdb he hpl
structure CalK (P : Program) (w : World) (K : PySem.W.Frag) (mg : Str → Option Value) (base : Heap) (x : Str) (k : Nat) (ps ks : List Str) (gV : List V → List V → List V) (sp : Sp) : Prop where
  ex : ∃ f fd g, FnOk P w K mg base CX0 k f fd ps sp ∧ KBinds K fd ps ks g gV ∧ PySem.W.keepIn K (.ref f) = true ∧ mg x = some (.ref f)
noncomputable abbrev FunD (K : PySem.W.Frag) (x qual : Str) (st : Stmt) (dV : Value) (f : Addr) (fd : FuncData) : Prop := ∃ (oc : Value) (od : Option Addr) (kV doc pm : Value) (an : Option Addr) (cdv ct : Value) (osl : Array (Option Value)),
      fd = PySem.W.fnOf x qual (defArgs st) (defBody st) (defScope st) dV kV doc pm an cdv ct ∧ K.lookup f = some ⟨oc, od, .func fd, osl⟩ ∧ PySem.W.codeIn K cdv qual = true
theorem okD {P : Program} {w : World} {K : PySem.W.Frag} {mg : Str → Option Value} {base : Heap} {x qual : Str} {st : Stmt} {f : Addr} {fd : FuncData} {N ps : List Str} {k : Nat} {sp : Sp} {dV : Value} (F : FunD K x qual st dV f fd)
    (S : FnScope N ps (defScope st)) (len : ∀ vs H Q E, sp vs H Q E → vs.length = ps.length)
    (hbody : ∀ (cdv : Value) (A : Around) (outer : List Env) (s : Shared) (H : Hp) (vs : List V) (Q : VK) (E : XK), Room k (A.deeper (envOfC qual (defScope st) s.heap.objs.size f cdv)) → sp vs H Q E →
      ∃ t, PSs (cxOf CX0 P w K mg base N qual (defScope st) f cdv A outer s H E).nox (defBody st) t ∧ t { nx := fun _ H' => Q .non H', rt := Q } (start N vs) H) : FnOk P w K mg base CX0 (k + 1) f fd ps sp := by
  obtain ⟨oc, od, kV, doc, pm, an, cdv, ct, osl, rfl, lk, hcd⟩ := F
  refine fn_of lk hcd S len fun A outer s H vs Q E hr hsp => ?_
  obtain ⟨t, h, q⟩ := hbody cdv A outer s H vs Q E hr hsp
  exact ⟨t, h.nox, q⟩
noncomputable def tRevS (K : PySem.W.Frag) (te ts : TE) : TE := fun σ H Q => te σ H fun x H1 => ts σ H1 fun y H2 => ∃ a xs, x = .ref a ∧ y = .int (-1) ∧ SqL K H2 a xs ∧ ∀ p, H2 p = none → Q (.ref p) (upd H2 p (.lst xs.reverse))
end L3

namespace L3
open PySem PySem.Spec PyProof.Rows L2 Ra Rq
theorem comp_intsL {K : PySem.W.Frag} {a : Addr} {ns : List Int} {qs : List Rat} {te : Shared → Hp → Addr → List Addr → TE} {js : List Nat} {σ : L2.St} {H1 : Hp} {Q : VK} (hn : ns.length ≤ 100000) (hl : ns.length = qs.length) (ha : H1 a = some (.lst (ns.map V.int)))
    (hs : ∀ s₀ H₀ C ex i H (R : VK), i < qs.length → Same H1 H → (∀ p' H2, Same H H2 → Pq H2 p' (qs.getD i 0) → R (.ref p') H2) → te s₀ H₀ C ex (some (.int (ns.getD i 0)) :: js.map fun j => (σ[j]?).join) H R)
    (hd : ∀ H D, Same H1 H → H1 D = none → Rw H D qs → Q (.ref D) H) : CompAt (Itl K a) te js σ Q H1 := by
  intro D hD
  refine ⟨fun i m ys H => m = qs.length - i ∧ i ≤ qs.length ∧ (∃ ps, ys = ps.map V.ref ∧ Pqs H ps (qs.take i)) ∧ Same H1 H ∧ H D = some (.lst ys), ⟨qs.length, by simp, Nat.zero_le _, ⟨[], rfl, .nil⟩, same_upd hD _, upd_same⟩, ?_⟩
  rintro i m ys H ⟨rfl, hi, ⟨ps, rfl, hp⟩, sm, hDl⟩
  refine ⟨hDl, ?_⟩
  have hr := sm _ _ ha
  by_cases hlt : i < qs.length
  · have hlt' : i < ns.length := by (first | lia | omega)
    have h0 : (ns.map V.int)[i]? = some (.int (ns.getD i 0)) := by rw [List.getElem?_map, List.getElem?_eq_getElem hlt', List.getD_eq_getElem?_getD, List.getElem?_eq_getElem hlt']; rfl
    refine .inr ⟨⟨_, _, SqL.of hr, h0⟩, fun x H' y s₀ H₀ C ex => ?_⟩
    obtain ⟨e, y⟩ := y
    subst e
    have ex' := y _ (SqL.of hr)
    rw [h0] at ex'
    cases ex'
    refine hs s₀ H₀ C ex i H' _ hlt sm fun p H2 s2 kp => ?_
    have h2 := s2 _ _ hDl
    have hp2 := hp.keep s2
    have hl2 := hp.length
    rw [List.length_take] at hl2
    have hz : (100000 : Nat) < sizeLine := by decide
    have eq : qs[i]? = some (qs.getD i 0) := by rw [List.getD_eq_getElem?_getD, List.getElem?_eq_getElem hlt]; rfl
    refine ⟨h2, by rw [List.length_map]; (first | lia | omega), qs.length - (i + 1), by (first | lia | omega), rfl, hlt, ⟨ps ++ [p], by simp, ?_⟩, same_updF (sm.trans s2) hD _, upd_same⟩
    rw [List.take_succ, eq]
    exact (hp2.updL h2).append (.cons (kp.updL h2) .nil)
  · have e : i = qs.length := by (first | lia | omega)
    subst e
    rw [List.take_length] at hp
    exact .inl ⟨⟨_, SqL.of hr, by rw [List.length_map]; (first | lia | omega)⟩, hd H D sm hD ⟨ps, hDl, hp⟩⟩
theorem refs_eqAt {X : Cx} {A : Around} (hu : A.units < cLine) {pins : List (Addr × Obj)} {s : Shared} {σ : L2.St} {H : Hp} (I : Inv X pins σ H s) : ∀ {ps : List Addr} {us : List Value}, Vals (ps.map V.ref) us → (∀ r ∈ ps, ∃ xs, H r = some (.tup xs)) → ∀ u ∈ us, SeqAt.EqAt A s u .none false
  | [], _, .nil, _ => fun u hu => by cases hu
  | p :: ps, _ :: us, .cons r t, f => fun u' hu' => by
    rcases List.mem_cons.mp hu' with rfl | h
    · cases r
      obtain ⟨xs, e⟩ := f p (by simp)
      obtain ⟨its, _, pl, _⟩ := I.tuple (SqT.of e)
      exact SeqAt.EqAt.tuple_none pl hu
    · exact refs_eqAt hu I t (fun r hr => f r (List.mem_cons_of_mem _ hr)) u' h
theorem op_inN {X : Cx} (hu : X.A.units + 64 < cLine) : OpR X (compareOp .In) (fun x y H Q => ∃ (p : Addr) (ps : List Addr), x = .non ∧ y = .ref p ∧ H p = some (.lst (ps.map V.ref)) ∧ (∀ r ∈ ps, ∃ xs, H r = some (.tup xs)) ∧ Q (.bl false) H) := by
  intro pins s σ H x y v u Q I rx ry h
  obtain ⟨p, ps, rfl, rfl, hp, ht, q⟩ := h
  cases rx
  cases ry
  obtain ⟨its, r, pl, hz⟩ := I.list (SqL.of hp)
  refine SeqAt.in_listAt (fun _ => false) pl.isList (fun w hw => refs_eqAt (A := X.A.in1) (show X.A.units + 1 < cLine by (first | lia | omega)) I r ht w (by simpa using hw)) ⟨.bl _, H, I, rfl, ?_⟩
  rw [show its.toArray.any (fun _ => false) = false by simp]
  exact q
end L3

namespace My
open PySem L2 L3 Ra Rq PyProof.Rows
theorem la1 {us : List Value} (h : us.length = 1) : ∃ a, us = [a] := match us, h with | [a], _ => ⟨a, rfl⟩
theorem la2 {us : List Value} (h : us.length = 2) : ∃ a b, us = [a, b] := match us, h with | [a, b], _ => ⟨a, b, rfl⟩
theorem la3 {us : List Value} (h : us.length = 3) : ∃ a b c, us = [a, b, c] := match us, h with | [a, b, c], _ => ⟨a, b, c, rfl⟩
theorem la4 {us : List Value} (h : us.length = 4) : ∃ a b c d, us = [a, b, c, d] := match us, h with | [a, b, c, d], _ => ⟨a, b, c, d, rfl⟩
theorem bt2 {n : Nat} {x : Int} (h : x.natAbs < 2 ^ n) : Bt n x := h
local macro_rules | `(tactic| walk_at "s") => `(tactic| first
  | refine ⟨_, rfl, ?_⟩
  | refine ⟨_, _, rfl, rfl, ?_⟩
  | refine ⟨_, _, rfl, ?_⟩
  | refine ⟨rfl, ?_⟩
  | refine ⟨_, _, _, _, rfl, rfl, Pr.sq (by assumption), rfl, ?_⟩
  | refine ⟨_, _, _, _, rfl, TyOf.int _, kit_int_int _, ?_⟩
  | refine ⟨_, _, _, _, rfl, TyOf.int _, kit_int_bool _, ?_⟩
  | refine ⟨_, _, _, _, rfl, TyOf.tup (by assumption), kit_tup_tup _, ?_⟩
  | refine ⟨_, _, rfl, .inr (Pr.sq (by assumption)), ?_⟩
  | refine iteF ?_
  | refine iteT ?_
  | refine ⟨(by show (0 : Int) < _; decide), ?_⟩
  | refine ⟨⟨(by decide), bt2 (by decide +kernel)⟩, ?_⟩
  | refine ⟨(⟨(by decide), (by decide), (by decide)⟩ : CPow _ _), ?_⟩)
local macro_rules | `(tactic| walk_at "r") => `(tactic| repeat walk_at "s")

structure Txt (mg : Str → Option Value) : Prop where
  z_abs : mg "abs" = none
  z_len : mg "len" = none
  z_isinstance : mg "isinstance" = none
  z_int : mg "int" = none
  z_bool : mg "bool" = none
  z_tuple : mg "tuple" = none
  z_range : mg "range" = none
  z_list : mg "list" = none



noncomputable def top (i : Nat) : Stmt := PySem.Challenge.pw_tautcord_k16_common_parts.main.body.getD i (.Pass ⟨0, 0, 0, 0⟩)
noncomputable abbrev s_is_whole : Stmt := top 4
noncomputable abbrev s_divisor : Stmt := top 5
noncomputable abbrev s_fraction : Stmt := top 7
noncomputable abbrev s_plus : Stmt := top 8
noncomputable abbrev s_minus : Stmt := top 9
noncomputable abbrev s_times : Stmt := top 10
noncomputable abbrev s_over : Stmt := top 11
noncomputable abbrev s_side : Stmt := top 12
noncomputable abbrev s_poly : Stmt := top 14
noncomputable abbrev s_scaled : Stmt := top 15
noncomputable abbrev s_shared_bottom : Stmt := top 16
noncomputable abbrev s_whole_figures : Stmt := top 17
noncomputable abbrev s_divided : Stmt := top 19
noncomputable abbrev s_rest_less : Stmt := top 20
noncomputable abbrev s_common : Stmt := top 21
noncomputable abbrev s_with_last_one : Stmt := top 22
noncomputable abbrev s_divides : Stmt := top 23
noncomputable abbrev s_common_guess : Stmt := top 24
noncomputable abbrev s_common_row : Stmt := top 25
noncomputable abbrev s_monic_row : Stmt := top 26
noncomputable abbrev s_rest_by : Stmt := top 27
noncomputable abbrev s_inverse : Stmt := top 28
noncomputable abbrev s_fraction_of : Stmt := top 29
noncomputable abbrev s_small_multiple : Stmt := top 30
noncomputable abbrev s_law_cell_at : Stmt := top 32
noncomputable abbrev s_law_mixed : Stmt := top 33
noncomputable abbrev s_law_signed : Stmt := top 34
noncomputable abbrev s_law_part : Stmt := top 35
noncomputable abbrev s_law_low : Stmt := top 36
noncomputable abbrev s_law_add : Stmt := top 37
noncomputable abbrev s_law_mul : Stmt := top 38
noncomputable abbrev s_law_at : Stmt := top 39
noncomputable abbrev s_law_same : Stmt := top 40
noncomputable abbrev s_law_strip : Stmt := top 41
noncomputable abbrev s_law_row_by : Stmt := top 42
noncomputable abbrev s_law_product : Stmt := top 43
noncomputable abbrev s_law_less : Stmt := top 44
noncomputable abbrev s_law_quotient : Stmt := top 45
noncomputable abbrev s_law_rest : Stmt := top 46
noncomputable abbrev s_law_walked : Stmt := top 47
noncomputable abbrev s_law_apart : Stmt := top 48
noncomputable abbrev s_law : Stmt := top 49
noncomputable def sp_div : Sp := fun vs H Q _ => ∃ a b, vs = [.int a, .int b] ∧ Q (.int (g a b)) H
noncomputable def sp_cell (K : PySem.W.Frag) : Sp := fun vs H Q _ => ∃ (a : Addr) (ns : List Int) (k : Nat), vs = [.ref a, .int k] ∧ SqL K H a (ns.map V.int) ∧ Q (.int (cellA ns k)) H
noncomputable def sp_mixed : Sp := fun vs H Q _ => ∃ c k, vs = [.int c, .int k] ∧ (0 ≤ k ∧ k ≤ 1000) ∧ Q (.int (mixed c k)) H
noncomputable def sp_signed : Sp := fun vs H Q _ => ∃ n, vs = [.int n] ∧ ∀ H', Same H H' → Q (.int (signed n)) H'
noncomputable def sp_low : Sp := fun vs H Q _ => ∃ t b, vs = [.int t, .int b] ∧ 0 < b ∧ Bt 8000 b ∧ ∀ r H', Same H H' → Pr H' r (t / g t b) (b / g t b) → Q (.ref r) H'
noncomputable def sp_ratio : Sp := fun vs H Q _ => ∃ n, vs = [.int n] ∧ 0 ≤ n ∧ ∀ r x y H', Same H H' → Fq x y → Bt 101 x → Bt 101 y → Pr H' r x y → Q (.ref r) H'
noncomputable def sp_whole : Sp := fun vs H Q _ => ∃ i, vs = [.int i] ∧ Q (.bl true) H
noncomputable def sp_is : Sp := fun vs H Q _ => ∃ r x y t b, vs = [.ref r, .int t, .int b] ∧ Pr H r x y ∧ Fq x y ∧ x * b = t * y ∧ IntMulOk x b ∧ IntMulOk t y ∧ Q (.bl true) H
noncomputable def sp_plus : Sp := fun vs H Q _ => ∃ p q a b c d, vs = [.ref p, .ref q] ∧ Pr H p a b ∧ Pr H q c d ∧ 0 < b ∧ 0 < d ∧ Bt 8000 a ∧ Bt 8000 b ∧ Bt 8000 c ∧ Bt 8000 d ∧ ∀ r H', Same H H' → Pr H' r (plsN a b c d) (plsD a b c d) → Q (.ref r) H'
noncomputable def sp_minus : Sp := fun vs H Q _ => ∃ p q a b c d, vs = [.ref p, .ref q] ∧ Pr H p a b ∧ Pr H q c d ∧ 0 < b ∧ 0 < d ∧ Bt 8000 a ∧ Bt 8000 b ∧ Bt 8000 c ∧ Bt 8000 d ∧ ∀ r H', Same H H' → Pr H' r (plsN a b (-c) d) (plsD a b (-c) d) → Q (.ref r) H'
noncomputable def sp_times : Sp := fun vs H Q _ => ∃ p q a b c d, vs = [.ref p, .ref q] ∧ Pr H p a b ∧ Pr H q c d ∧ 0 < b ∧ 0 < d ∧ Bt 8000 a ∧ Bt 8000 b ∧ Bt 8000 c ∧ Bt 8000 d ∧ ∀ r H', Same H H' → Pr H' r (tmsN a b c d) (tmsD a b c d) → Q (.ref r) H'
noncomputable def sp_law (K : PySem.W.Frag) : Sp := fun vs H Q _ => ∃ (a : Addr) (ns : List Int), vs = [.ref a] ∧ SqL K H a (ns.map V.int) ∧ ns.length ≤ 63 ∧ ∀ H', Q (.bl true) H'
theorem g_bt {n : Nat} {t b : Int} (h : 0 < b) (k : Bt n b) : Bt n (g t b) := by
  refine k.of_le ?_
  have h1 : g t b ≤ b := Int.le_of_dvd h (g_dvd_right t b)
  have h2 := g_nonneg t b
  (first | lia | omega)
section
variable {P : Program} {w : World} {K : PySem.W.Frag} {mg : Str → Option Value} {base : Heap} {f : Addr} {fd : FuncData}
theorem sc_divisor : FnScope ["one", "other", "first", "second", "rest"] ["one", "other"] (defScope s_divisor) := ⟨rfl, rfl, rfl, by decide +kernel, rfl, by decide +kernel, by decide +kernel⟩
theorem ok_divisor (F : Fun K "divisor" "divisor" s_divisor f fd) (T : Txt mg) : FnOk P w K mg base CX0 1 f fd ["one", "other"] sp_div := by
  refine F.ok sc_divisor (fun vs H Q E h => ?_) (fun cdv A outer s H vs Q E hr h => ?_)
  · obtain ⟨a, b, rfl, _⟩ := h
    rfl
  obtain ⟨a, b, rfl, q⟩ := h
  refine ⟨_, (pss_cons (ps_set (i := 2) sc_divisor.nd rfl (Or.inl rfl) (pe_callB call_abs rfl T.z_abs boot_abs (pa_cons (pv 0) pa_nil)))
      (pss_cons (ps_set (i := 3) sc_divisor.nd rfl (Or.inl rfl) (pe_callB call_abs rfl T.z_abs boot_abs (pa_cons (pv 1) pa_nil)))
      (pss_cons (ps_while PassesOwn.never (pt_cmpR op_gt (pv 3) pe_int (nomark _))
        (pss_cons (ps_set (i := 4) sc_divisor.nd rfl (Or.inl rfl) (pe_op op_mod (pv 2) (pv 3)))
        (pss_cons (ps_set (i := 2) sc_divisor.nd rfl (Or.inl rfl) (pv 3))
        (pss_one (ps_set (i := 3) sc_divisor.nd rfl (Or.inl rfl) (pv 4))))))
      (pss_one (ps_ret (pv 2)))))), ?_⟩
  refine ⟨_, rfl, _, rfl, _, rfl, _, rfl, ?_⟩
  refine ⟨fun m σ H' => ∃ x y r, σ = [some (.int a), some (.int b), some (.int x), some (.int y), r] ∧ H = H' ∧ 0 ≤ x ∧ 0 ≤ y ∧ g x y = g a b ∧ m = y.toNat, ⟨_, _, _, _, rfl, rfl, ?_, ?_, g_abs a b, rfl⟩, ?_⟩
  · split <;> (first | lia | omega)
  · split <;> (first | lia | omega)
  rintro m σ _ ⟨x, y, r, rfl, rfl, hx, hy, e, rfl⟩
  refine ⟨_, rfl, _, _, rfl, rfl, _, rfl, ?_⟩
  refine ite2 (fun c => ⟨fun σ' H' => ∃ m', m' < y.toNat ∧ ∃ x y r, σ' = [some (.int a), some (.int b), some (.int x), some (.int y), r] ∧ H = H' ∧ 0 ≤ x ∧ 0 ≤ y ∧ g x y = g a b ∧ m' = y.toNat, fun _ _ h => h, ?_⟩) (fun c => ?_)
  · have c' : (0 : Int) < y := of_decide_eq_true c
    refine ⟨_, rfl, _, rfl, _, _, rfl, rfl, c', _, rfl, _, rfl, ?_⟩
    have h1 := Int.emod_nonneg x (show y ≠ 0 by (first | lia | omega))
    have h2 := Int.emod_lt_of_pos x c'
    exact ⟨_, by (first | lia | omega), y, x % y, _, rfl, rfl, hy, h1, by rw [g_step hx c', e], rfl⟩
  · have c' : ¬ (0 : Int) < y := of_decide_eq_false (Bool.eq_false_iff.mpr c)
    have y0 : y = 0 := by (first | lia | omega)
    refine ⟨_, rfl, ?_⟩
    rw [← e, y0, g_end hx] at q
    exact q
theorem sc_law_cell_at : FnScope ["_law_script", "_law_k"] ["_law_script", "_law_k"] (defScope s_law_cell_at) := ⟨rfl, rfl, rfl, by decide +kernel, rfl, by decide +kernel, by decide +kernel⟩
theorem ok_law_cell_at (F : Fun K "_law_cell_at" "_law_cell_at" s_law_cell_at f fd) (T : Txt mg) : FnOk P w K mg base CX0 1 f fd ["_law_script", "_law_k"] (sp_cell K) := by
  refine F.ok sc_law_cell_at (fun vs H Q E h => ?_) (fun cdv A outer s H vs Q E hr h => ?_)
  · obtain ⟨a, ns, k, rfl, _⟩ := h
    rfl
  obtain ⟨a, ns, k, rfl, hS, q⟩ := h
  refine ⟨_, (pss_cons (ps_if (pt_cmpR op_lt (pv 1) (pe_callB call_len_seq rfl T.z_len PySem.boot_len (pa_cons (pv 0) pa_nil)) (nomark _))
        (pss_one (ps_ret (pe_ix ix_list (pv 0) (pv 1) (fun _ _ => rfl))))
        pss_nil)
      (pss_one (ps_ret (pe_op op_add (pe_op op_mulB pe_int (pv 1)) pe_int)))), ?_⟩
  have hl : (ns.map V.int).length = ns.length := List.length_map _
  refine ⟨_, rfl, _, rfl, a, _, rfl, .inl hS, _, _, rfl, rfl, _, rfl, ?_⟩
  refine ite2 (fun c => ?_) (fun c => ?_)
  · have c' : (k : Int) < (((ns.map V.int).length : Nat) : Int) := of_decide_eq_true c
    rw [hl] at c'
    have hk : k < ns.length := by (first | lia | omega)
    refine ⟨_, rfl, _, rfl, a, _, _, _, rfl, rfl, hS, atI_nat (v := .int (cellA ns k)) ?_, q⟩
    rw [List.getElem?_map, List.getElem?_eq_getElem hk, cellA_in hk]
    rfl
  · have c' : ¬ (k : Int) < (((ns.map V.int).length : Nat) : Int) := of_decide_eq_false (Bool.eq_false_iff.mpr c)
    rw [hl] at c'
    refine ⟨_, rfl, _, _, rfl, rfl, CMul.ok (.inl ⟨by decide, by decide⟩), _, _, rfl, rfl, ?_⟩
    rw [cellA_out (by (first | lia | omega))] at q
    exact q
theorem sc_law_mixed : FnScope ["_law_cell", "_law_k"] ["_law_cell", "_law_k"] (defScope s_law_mixed) := ⟨rfl, rfl, rfl, by decide +kernel, rfl, by decide +kernel, by decide +kernel⟩
theorem ok_law_mixed (F : Fun K "_law_mixed" "_law_mixed" s_law_mixed f fd) (T : Txt mg) : FnOk P w K mg base CX0 1 f fd ["_law_cell", "_law_k"] sp_mixed := by
  refine F.ok sc_law_mixed (fun vs H Q E h => ?_) (fun cdv A outer s H vs Q E hr h => ?_)
  · obtain ⟨c, k, rfl, _⟩ := h
    rfl
  obtain ⟨c, k, rfl, ⟨hk0, hk1⟩, q⟩ := h
  have bk : Bt 64 k := Bt.between (by (first | lia | omega)) (by (first | lia | omega))
  have rest : ¬ (c % 2 = 0 ∧ 10 ^ 18 < c) → Q (.int (((c / 2) % 10 ^ 60 + k * k) * 6364136223846793013 + (k + 1) * 1442695040888963407)) H := fun h => by
    unfold mixed at q
    rw [if_neg h] at q
    exact q
  have one : (c % 2 = 0 ∧ 10 ^ 18 < c) → Q (.int (c / 2)) H := fun h => by
    unfold mixed at q
    rw [if_pos h] at q
    exact q
  have ok1 : ∀ x : Int, IntMulOk x 6364136223846793013 := fun x => CMul.ok (.inr ⟨by decide, by decide⟩)
  have ok2 : ∀ x : Int, IntMulOk x 1442695040888963407 := fun x => CMul.ok (.inr ⟨by decide, by decide⟩)
  have ok3 : IntMulOk k k := mul_of bk bk (by decide)
  refine ⟨_, (pss_cons (ps_if (PW.pt (pw_and (pt_cmpR op_eq (pe_op op_mod (pv 0) pe_int) pe_int (nomark _)) (pw_and1 (pt_cmpR op_gt (pv 0) (pe_op op_pow pe_int pe_int) (nomark _)))))
        (pss_one (ps_ret (pe_op op_fdP (pv 0) pe_int)))
        pss_nil)
      (pss_one (ps_ret (pe_op op_add (pe_op op_mulB (pe_op op_add (pe_op op_mod (pe_op op_fdP (pv 0) pe_int) (pe_op op_pow pe_int pe_int)) (pe_op op_mulB (pv 1) (pv 1))) pe_int) (pe_op op_mulB (pe_op op_add (pv 1) pe_int) pe_int))))), ?_⟩
  refine ⟨_, rfl, _, _, rfl, rfl, (by show (0 : Int) < 2; decide), rfl, _, rfl, ?_⟩
  refine ite2 (fun c1 => ?_) (fun c1 => ?_)
  · have d1 : c % 2 = 0 := V.int.inj (of_decide_eq_true c1)
    refine ⟨_, rfl, _, _, rfl, rfl, ⟨by decide, by decide, by decide⟩, _, _, rfl, rfl, _, rfl, ?_⟩
    refine ite2 (fun c2 => ?_) (fun c2 => ?_)
    · have d2 : (10 : Int) ^ 18 < c := of_decide_eq_true c2
      exact ⟨_, rfl, _, _, rfl, rfl, ⟨by decide, bt2 (by decide +kernel)⟩, one ⟨d1, d2⟩⟩
    · have d2 : ¬ (10 : Int) ^ 18 < c := of_decide_eq_false (Bool.eq_false_iff.mpr c2)
      refine ⟨_, rfl, _, _, rfl, rfl, ⟨by decide, bt2 (by decide +kernel)⟩, _, _, rfl, rfl, ⟨by decide, by decide, by decide⟩, _, _, rfl, rfl, (by show (0 : Int) < 10 ^ 60; decide), _, rfl, _, rfl, _, _, rfl, rfl, ok3, _, _, rfl, rfl, _, _, rfl, rfl, ok1 _, _, rfl, _, _, rfl, rfl, _, _, rfl, rfl, ok2 _, _, _, rfl, rfl, ?_⟩
      exact rest fun h => d2 h.2
  · have d1 : ¬ c % 2 = 0 := fun z => of_decide_eq_false (Bool.eq_false_iff.mpr c1) (congrArg V.int z)
    refine iteF ?_
    refine ⟨_, rfl, _, _, rfl, rfl, ⟨by decide, bt2 (by decide +kernel)⟩, _, _, rfl, rfl, ⟨by decide, by decide, by decide⟩, _, _, rfl, rfl, (by show (0 : Int) < 10 ^ 60; decide), _, rfl, _, rfl, _, _, rfl, rfl, ok3, _, _, rfl, rfl, _, _, rfl, rfl, ok1 _, _, rfl, _, _, rfl, rfl, _, _, rfl, rfl, ok2 _, _, _, rfl, rfl, ?_⟩
    exact rest fun h => d1 h.1
theorem sc_law_signed : FnScope ["_law_number"] ["_law_number"] (defScope s_law_signed) := ⟨rfl, rfl, rfl, by decide +kernel, rfl, by decide +kernel, by decide +kernel⟩
theorem ok_law_signed (F : Fun K "_law_signed" "_law_signed" s_law_signed f fd) (T : Txt mg) : FnOk P w K mg base CX0 1 f fd ["_law_number"] sp_signed := by
  refine F.ok sc_law_signed (fun vs H Q E h => ?_) (fun cdv A outer s H vs Q E hr h => ?_)
  · obtain ⟨n, rfl, _⟩ := h
    rfl
  obtain ⟨n, rfl, q⟩ := h
  refine ⟨_, (pss_one (ps_ret (pe_ix ix_list (pe_lst (pa_cons (pe_op op_fdP (pv 0) pe_int) (pa_cons (pe_op op_sub (pe_un un_neg pe_int) (pe_op op_fdP (pv 0) pe_int)) pa_nil))) (pe_op op_mod (pv 0) pe_int) (fun _ _ => rfl)))), ?_⟩
  refine ⟨_, rfl, _, _, rfl, rfl, ⟨by decide, bt2 (by decide +kernel)⟩, _, rfl, _, rfl, _, _, rfl, rfl, ⟨by decide, bt2 (by decide +kernel)⟩, _, _, rfl, rfl, (by show 2 ≤ sizeLine; decide), fun p hp => ?_⟩
  have hv : atI [V.int (n / 2), V.int (-1 - n / 2)] (n % 2) = some (.int (signed n)) := by
    have h : n % 2 = 0 ∨ n % 2 = 1 := by (first | lia | omega)
    unfold signed
    rcases h with h | h
    · rw [h, if_pos rfl]
      rfl
    · rw [h, if_neg (by decide)]
      rfl
  exact ⟨_, rfl, _, _, rfl, rfl, (by show (0 : Int) < 2; decide), p, _, _, _, rfl, rfl, SqL.of upd_same, hv, q _ (same_upd hp _)⟩
theorem sc_law_part : FnScope ["_law_one", "_law_other"] ["_law_one", "_law_other"] (defScope s_law_part) := ⟨rfl, rfl, rfl, by decide +kernel, rfl, by decide +kernel, by decide +kernel⟩
theorem ok_law_part (F : Fun K "_law_part" "_law_part" s_law_part f fd) (T : Txt mg) : FnOk P w K mg base CX0 1 f fd ["_law_one", "_law_other"] sp_div := by
  refine F.ok sc_law_part (fun vs H Q E h => ?_) (fun cdv A outer s H vs Q E hr h => ?_)
  · obtain ⟨a, b, rfl, _⟩ := h
    rfl
  obtain ⟨a, b, rfl, q⟩ := h
  refine ⟨_, (pss_cons (ps_set (i := 0) sc_law_part.nd rfl (Or.inl rfl) (pe_callB call_abs rfl T.z_abs boot_abs (pa_cons (pv 0) pa_nil)))
      (pss_cons (ps_set (i := 1) sc_law_part.nd rfl (Or.inl rfl) (pe_callB call_abs rfl T.z_abs boot_abs (pa_cons (pv 1) pa_nil)))
      (pss_cons (ps_while PassesOwn.never (pt_cmpR op_gt (pv 1) pe_int (nomark _))
        (pss_one (ps_par (i := 0) (j := 1) rfl sc_law_part.nd rfl rfl (by decide) rfl rfl (pa_cons (pv 1) (pa_cons (pe_op op_mod (pv 0) (pv 1)) pa_nil)) (by with_unfolding_all rfl))))
      (pss_one (ps_ret (pv 0)))))), ?_⟩
  refine ⟨_, rfl, _, rfl, _, rfl, _, rfl, ?_⟩
  refine ⟨fun m σ H' => ∃ x y, σ = [some (.int x), some (.int y)] ∧ H = H' ∧ 0 ≤ x ∧ 0 ≤ y ∧ g x y = g a b ∧ m = y.toNat, ⟨_, _, _, rfl, rfl, ?_, ?_, g_abs a b, rfl⟩, ?_⟩
  · split <;> (first | lia | omega)
  · split <;> (first | lia | omega)
  rintro m σ _ ⟨x, y, rfl, rfl, hx, hy, e, rfl⟩
  refine ⟨_, rfl, _, _, rfl, rfl, _, rfl, ?_⟩
  refine ite2 (fun c => ⟨fun σ' H' => ∃ m', m' < y.toNat ∧ ∃ x y, σ' = [some (.int x), some (.int y)] ∧ H = H' ∧ 0 ≤ x ∧ 0 ≤ y ∧ g x y = g a b ∧ m' = y.toNat, fun _ _ h => h, ?_⟩) (fun c => ?_)
  · have c' : (0 : Int) < y := of_decide_eq_true c
    refine ⟨_, rfl, _, rfl, _, rfl, _, _, rfl, rfl, c', _, _, rfl, ?_⟩
    have h1 := Int.emod_nonneg x (show y ≠ 0 by (first | lia | omega))
    have h2 := Int.emod_lt_of_pos x c'
    exact ⟨_, by (first | lia | omega), y, x % y, rfl, rfl, hy, h1, by rw [g_step hx c', e], rfl⟩
  · have c' : ¬ (0 : Int) < y := of_decide_eq_false (Bool.eq_false_iff.mpr c)
    have y0 : y = 0 := by (first | lia | omega)
    refine ⟨_, rfl, ?_⟩
    rw [← e, y0, g_end hx] at q
    exact q
theorem sc_law_low : FnScope ["_law_top", "_law_bottom", "_law_part_here"] ["_law_top", "_law_bottom"] (defScope s_law_low) := ⟨rfl, rfl, rfl, by decide +kernel, rfl, by decide +kernel, by decide +kernel⟩
theorem ok_law_low (F : Fun K "_law_low" "_law_low" s_law_low f fd) (T : Txt mg) (C_law_part : Cal P w K mg base "_law_part" 1 ["_law_one", "_law_other"] sp_div) : FnOk P w K mg base CX0 2 f fd ["_law_top", "_law_bottom"] sp_low := by
  refine F.ok sc_law_low (fun vs H Q E h => ?_) (fun cdv A outer s H vs Q E hr h => ?_)
  · obtain ⟨t, b, rfl, _⟩ := h
    rfl
  obtain ⟨t, b, rfl, hb, bb, q⟩ := h
  have c1 : 0 < g t b ∧ Bt 9000 (g t b) := ⟨g_pos (by (first | lia | omega)), (g_bt hb bb).mono (by decide)⟩
  refine ⟨_, (pss_cons (ps_set (i := 2) sc_law_low.nd rfl (Or.inl rfl) (pe_cl C_law_part hr (pa_cons (pv 0) (pa_cons (pv 1) pa_nil))))
      (pss_one (ps_ret (pe_tup (pa_cons (pe_op op_fdP (pv 0) (pv 2)) (pa_cons (pe_op op_fdP (pv 1) (pv 2)) pa_nil)))))), ?_⟩
  refine ⟨_, rfl, _, rfl, _, _, rfl, ?_⟩
  exact ⟨_, rfl, _, rfl, _, _, rfl, rfl, c1, _, rfl, _, rfl, _, _, rfl, rfl, c1, (by show 2 ≤ sizeLine; decide), fun p hp => q p _ (same_upd hp _) Pr.new⟩
theorem sc_plus : FnScope ["one", "other", "shared", "top", "left"] ["one", "other"] (defScope s_plus) := ⟨rfl, rfl, rfl, by decide +kernel, rfl, by decide +kernel, by decide +kernel⟩
theorem ok_plus (F : Fun K "plus" "plus" s_plus f fd) (T : Txt mg) (C_divisor : Cal P w K mg base "divisor" 1 ["one", "other"] sp_div) : FnOk P w K mg base CX0 2 f fd ["one", "other"] sp_plus := by
  refine F.ok sc_plus (fun vs H Q E h => ?_) (fun cdv A outer s H vs Q E hr h => ?_)
  · obtain ⟨p, q, a, b, c, d, rfl, _⟩ := h
    rfl
  obtain ⟨p, q, a, b, c, d, rfl, hp, hq, hb, hd, ba, bb, bc, bd, k⟩ := h
  have c1 : 0 < g b d ∧ Bt 9000 (g b d) := ⟨g_pos (by (first | lia | omega)), (g_bt hd bd).mono (by decide)⟩
  have c2 : 0 < g (plsT a b c d) (g b d) ∧ Bt 9000 (g (plsT a b c d) (g b d)) := ⟨g_pos (by (first | lia | omega)), g_bt c1.1 c1.2⟩
  have m1 : IntMulOk a (d / g b d) := mul_of ba bd.ediv (by decide)
  have m2 : IntMulOk c (b / g b d) := mul_of bc bb.ediv (by decide)
  have m3 : IntMulOk (b / g b d) (d / g (plsT a b c d) (g b d)) := mul_of bb.ediv bd.ediv (by decide)
  refine ⟨_, (pss_cons (ps_set (i := 2) sc_plus.nd rfl (Or.inl rfl) (pe_cl C_divisor hr (pa_cons (pe_ix ix_tup (pv 0) pe_int (fun _ _ => rfl)) (pa_cons (pe_ix ix_tup (pv 1) pe_int (fun _ _ => rfl)) pa_nil))))
      (pss_cons (ps_set (i := 3) sc_plus.nd rfl (Or.inl rfl) (pe_op op_add (pe_op op_mulB (pe_ix ix_tup (pv 0) pe_int (fun _ _ => rfl)) (pe_op op_fdP (pe_ix ix_tup (pv 1) pe_int (fun _ _ => rfl)) (pv 2))) (pe_op op_mulB (pe_ix ix_tup (pv 1) pe_int (fun _ _ => rfl)) (pe_op op_fdP (pe_ix ix_tup (pv 0) pe_int (fun _ _ => rfl)) (pv 2)))))
      (pss_cons (ps_set (i := 4) sc_plus.nd rfl (Or.inl rfl) (pe_cl C_divisor hr (pa_cons (pv 3) (pa_cons (pv 2) pa_nil))))
      (pss_one (ps_ret (pe_tup (pa_cons (pe_op op_fdP (pv 3) (pv 4)) (pa_cons (pe_op op_mulB (pe_op op_fdP (pe_ix ix_tup (pv 0) pe_int (fun _ _ => rfl)) (pv 2)) (pe_op op_fdP (pe_ix ix_tup (pv 1) pe_int (fun _ _ => rfl)) (pv 4))) pa_nil)))))))), ?_⟩
  refine ⟨_, rfl, _, _, _, _, rfl, rfl, hp.sq, rfl, _, rfl, _, _, _, _, rfl, rfl, hq.sq, rfl, _, _, rfl, ?_⟩
  refine ⟨_, rfl, _, _, _, _, rfl, rfl, hp.sq, rfl, _, rfl, _, _, _, _, rfl, rfl, hq.sq, rfl, _, rfl, _, _, rfl, rfl, c1, _, _, rfl, rfl, m1, _, rfl, _, _, _, _, rfl, rfl, hq.sq, rfl, _, rfl, _, _, _, _, rfl, rfl, hp.sq, rfl, _, rfl, _, _, rfl, rfl, c1, _, _, rfl, rfl, m2, _, _, rfl, rfl, ?_⟩
  refine ⟨_, rfl, _, rfl, _, _, rfl, ?_⟩
  exact ⟨_, rfl, _, rfl, _, _, rfl, rfl, c2, _, rfl, _, _, _, _, rfl, rfl, hp.sq, rfl, _, rfl, _, _, rfl, rfl, c1, _, rfl, _, _, _, _, rfl, rfl, hq.sq, rfl, _, rfl, _, _, rfl, rfl, c2, _, _, rfl, rfl, m3, (by show 2 ≤ sizeLine; decide), fun r h => k r _ (same_upd h _) Pr.new⟩
theorem sc_minus : FnScope ["one", "other"] ["one", "other"] (defScope s_minus) := ⟨rfl, rfl, rfl, by decide +kernel, rfl, by decide +kernel, by decide +kernel⟩
theorem ok_minus (F : Fun K "minus" "minus" s_minus f fd) (T : Txt mg) (C_plus : Cal P w K mg base "plus" 2 ["one", "other"] sp_plus) : FnOk P w K mg base CX0 3 f fd ["one", "other"] sp_minus := by
  refine F.ok sc_minus (fun vs H Q E h => ?_) (fun cdv A outer s H vs Q E hr h => ?_)
  · obtain ⟨p, q, a, b, c, d, rfl, _⟩ := h
    rfl
  obtain ⟨p, q, a, b, c, d, rfl, hp, hq, hb, hd, ba, bb, bc, bd, k⟩ := h
  refine ⟨_, (pss_one (ps_ret (pe_cl C_plus hr (pa_cons (pv 0) (pa_cons (pe_tup (pa_cons (pe_un un_neg (pe_ix ix_tup (pv 1) pe_int (fun _ _ => rfl))) (pa_cons (pe_ix ix_tup (pv 1) pe_int (fun _ _ => rfl)) pa_nil))) pa_nil))))), ?_⟩
  refine ⟨_, rfl, _, rfl, _, _, _, _, rfl, rfl, hq.sq, rfl, _, rfl, _, rfl, _, _, _, _, rfl, rfl, hq.sq, rfl, (by show 2 ≤ sizeLine; decide), fun r h => ?_⟩
  exact ⟨_, _, _, _, _, _, rfl, hp.keep (same_upd h _), Pr.new, hb, hd, ba, bb, bc.neg, bd, fun r' H' s' h' => k r' H' ((same_upd h _).trans s') h'⟩
theorem sc_times : FnScope ["one", "other", "first", "second"] ["one", "other"] (defScope s_times) := ⟨rfl, rfl, rfl, by decide +kernel, rfl, by decide +kernel, by decide +kernel⟩
theorem ok_times (F : Fun K "times" "times" s_times f fd) (T : Txt mg) (C_divisor : Cal P w K mg base "divisor" 1 ["one", "other"] sp_div) : FnOk P w K mg base CX0 2 f fd ["one", "other"] sp_times := by
  refine F.ok sc_times (fun vs H Q E h => ?_) (fun cdv A outer s H vs Q E hr h => ?_)
  · obtain ⟨p, q, a, b, c, d, rfl, _⟩ := h
    rfl
  obtain ⟨p, q, a, b, c, d, rfl, hp, hq, hb, hd, ba, bb, bc, bd, k⟩ := h
  have c1 : 0 < g a d ∧ Bt 9000 (g a d) := ⟨g_pos (by (first | lia | omega)), (g_bt hd bd).mono (by decide)⟩
  have c2 : 0 < g c b ∧ Bt 9000 (g c b) := ⟨g_pos (by (first | lia | omega)), (g_bt hb bb).mono (by decide)⟩
  have m1 : IntMulOk (a / g a d) (c / g c b) := mul_of ba.ediv bc.ediv (by decide)
  have m2 : IntMulOk (b / g c b) (d / g a d) := mul_of bb.ediv bd.ediv (by decide)
  refine ⟨_, (pss_cons (ps_set (i := 2) sc_times.nd rfl (Or.inl rfl) (pe_cl C_divisor hr (pa_cons (pe_ix ix_tup (pv 0) pe_int (fun _ _ => rfl)) (pa_cons (pe_ix ix_tup (pv 1) pe_int (fun _ _ => rfl)) pa_nil))))
      (pss_cons (ps_set (i := 3) sc_times.nd rfl (Or.inl rfl) (pe_cl C_divisor hr (pa_cons (pe_ix ix_tup (pv 1) pe_int (fun _ _ => rfl)) (pa_cons (pe_ix ix_tup (pv 0) pe_int (fun _ _ => rfl)) pa_nil))))
      (pss_one (ps_ret (pe_tup (pa_cons (pe_op op_mulB (pe_op op_fdP (pe_ix ix_tup (pv 0) pe_int (fun _ _ => rfl)) (pv 2)) (pe_op op_fdP (pe_ix ix_tup (pv 1) pe_int (fun _ _ => rfl)) (pv 3))) (pa_cons (pe_op op_mulB (pe_op op_fdP (pe_ix ix_tup (pv 0) pe_int (fun _ _ => rfl)) (pv 3)) (pe_op op_fdP (pe_ix ix_tup (pv 1) pe_int (fun _ _ => rfl)) (pv 2))) pa_nil))))))), ?_⟩
  refine ⟨_, rfl, _, _, _, _, rfl, rfl, hp.sq, rfl, _, rfl, _, _, _, _, rfl, rfl, hq.sq, rfl, _, _, rfl, ?_⟩
  refine ⟨_, rfl, _, _, _, _, rfl, rfl, hq.sq, rfl, _, rfl, _, _, _, _, rfl, rfl, hp.sq, rfl, _, _, rfl, ?_⟩
  exact ⟨_, rfl, _, _, _, _, rfl, rfl, hp.sq, rfl, _, rfl, _, _, rfl, rfl, c1, _, rfl, _, _, _, _, rfl, rfl, hq.sq, rfl, _, rfl, _, _, rfl, rfl, c2, _, _, rfl, rfl, m1, _, rfl, _, _, _, _, rfl, rfl, hp.sq, rfl, _, rfl, _, _, rfl, rfl, c2, _, rfl, _, _, _, _, rfl, rfl, hq.sq, rfl, _, rfl, _, _, rfl, rfl, c1, _, _, rfl, rfl, m2, (by show 2 ≤ sizeLine; decide), fun r h => k r _ (same_upd h _) Pr.new⟩

noncomputable def sp_whole2 : Sp := fun vs H Q _ => ∃ i, vs = [.int i] ∧ Q (.bl true) H
noncomputable def sp_fraction (c : Addr) : Sp := fun vs H Q E => ∃ t b, vs = [.int t, .int b] ∧ (b = 0 → E (.ref c) none H) ∧ (b ≠ 0 → Bt 8000 b ∧ ∀ r H', Same H H' → Pr H' r (frN t b) (frD t b) → Q (.ref r) H')
noncomputable def sp_over (cN : Addr) : Sp := fun vs H Q E => ∃ p q a b c d, vs = [.ref p, .ref q] ∧ Pr H p a b ∧ Pr H q c d ∧ (c = 0 → E (.ref cN) none H) ∧
  (c ≠ 0 → 0 < b ∧ 0 < d ∧ Bt 8000 a ∧ Bt 8000 b ∧ Bt 8000 c ∧ Bt 8000 d ∧ ∀ r H', Same H H' → Pr H' r (tmsN a b (frN d c) (frD d c)) (tmsD a b (frN d c) (frD d c)) → Q (.ref r) H')
noncomputable def sp_under : Sp := fun vs H Q _ => ∃ p q a b c d, vs = [.ref p, .ref q] ∧ Pr H p a b ∧ Pr H q c d ∧ IntMulOk a d ∧ IntMulOk c b ∧ Q (.bl (decide (a * d < c * b))) H
noncomputable def sp_side : Sp := fun vs H Q _ => ∃ p a b, vs = [.ref p] ∧ Pr H p a b ∧ Q (.int (sgn a)) H
noncomputable def sp_side2 : Sp := fun vs H Q _ => ∃ p a b, vs = [.ref p] ∧ Pr H p a b ∧ Bt 9000 a ∧ Q (.int (sgn a)) H
theorem sc_is_whole : FnScope ["thing"] ["thing"] (defScope s_is_whole) := ⟨rfl, rfl, rfl, by decide +kernel, rfl, by decide +kernel, by decide +kernel⟩
theorem ok_is_whole (F : Fun K "is_whole" "is_whole" s_is_whole f fd) (T : Txt mg) : FnOk P w K mg base CX0 1 f fd ["thing"] sp_whole := by
  refine F.ok sc_is_whole (fun vs H Q E h => ?_) (fun cdv A outer s H vs Q E hr h => ?_)
  · obtain ⟨i, rfl, _⟩ := h
    rfl
  obtain ⟨i, rfl, q⟩ := h
  refine ⟨_, (pss_one (ps_ret (pe_and (pe_callB call_isi rfl T.z_isinstance boot_isinstance (pa_cons (pv 0) (pa_cons (pe_bltn (v := .ty "int") rfl T.z_int boot_int rfl) pa_nil))) (pe_one (pe_not (pe_callB call_isi rfl T.z_isinstance boot_isinstance (pa_cons (pv 0) (pa_cons (pe_bltn (v := .ty "bool") rfl T.z_bool boot_bool rfl) pa_nil)))))))), ?_⟩
  refine ⟨_, rfl, _, _, _, _, rfl, TyOf.int _, kit_int_int _, _, rfl, iteT ?_⟩
  exact ⟨_, rfl, _, _, _, _, rfl, TyOf.int _, kit_int_bool _, _, rfl, q⟩
theorem sc_side : FnScope ["one"] ["one"] (defScope s_side) := ⟨rfl, rfl, rfl, by decide +kernel, rfl, by decide +kernel, by decide +kernel⟩
theorem ok_side (F : Fun K "side" "side" s_side f fd) (T : Txt mg) : FnOk P w K mg base CX0 1 f fd ["one"] sp_side := by
  refine F.ok sc_side (fun vs H Q E h => ?_) (fun cdv A outer s H vs Q E hr h => ?_)
  · obtain ⟨p, a, b, rfl, _⟩ := h
    rfl
  obtain ⟨p, a, b, rfl, hp, q⟩ := h
  unfold sgn at q
  refine ⟨_, (pss_cons (ps_if (pt_cmpR op_gt (pe_ix ix_tup (pv 0) pe_int (fun _ _ => rfl)) pe_int (nomark _))
        (pss_one (ps_ret pe_int))
        pss_nil)
      (pss_cons (ps_if (pt_cmpR op_lt (pe_ix ix_tup (pv 0) pe_int (fun _ _ => rfl)) pe_int (nomark _))
        (pss_one (ps_ret (pe_un un_neg pe_int)))
        pss_nil)
      (pss_one (ps_ret pe_int)))), ?_⟩
  refine ⟨_, rfl, _, _, _, _, rfl, rfl, hp.sq, rfl, _, _, rfl, rfl, _, rfl, ?_⟩
  refine ite2 (fun c => ?_) (fun c => ?_)
  · have z : a > 0 := of_decide_eq_true c
    rw [if_pos z] at q
    exact q
  · have z : ¬ a > 0 := of_decide_eq_false (Bool.eq_false_iff.mpr c)
    rw [if_neg z] at q
    refine ⟨_, rfl, _, _, _, _, rfl, rfl, hp.sq, rfl, _, _, rfl, rfl, _, rfl, ?_⟩
    refine ite2 (fun c2 => ?_) (fun c2 => ?_)
    · have z2 : a < 0 := of_decide_eq_true c2
      rw [if_pos z2] at q
      exact ⟨_, rfl, q⟩
    · have z2 : ¬ a < 0 := of_decide_eq_false (Bool.eq_false_iff.mpr c2)
      rw [if_neg z2] at q
      exact q

noncomputable def sp_bin (n : Nat) (op : Rat → Rat → Rat) : Sp := fun vs H Q _ => ∃ p q a b, vs = [.ref p, .ref q] ∧ Pq H p a ∧ Pq H q b ∧ Bq n a ∧ Bq n b ∧ ∀ r H', Same H H' → Pq H' r (op a b) → Q (.ref r) H'
noncomputable def sp_lowQ : Sp := fun vs H Q _ => ∃ t b, vs = [.int t, .int b] ∧ 0 < b ∧ Bt 8000 b ∧ ∀ r H', Same H H' → Pq H' r ((t : Rat) / (b : Rat)) → Q (.ref r) H'
noncomputable def sp_ratioQ : Sp := fun vs H Q _ => ∃ n, vs = [.int n] ∧ 0 ≤ n ∧ ∀ r q H', Same H H' → Bq 101 q → Pq H' r q → Q (.ref r) H'
noncomputable def sp_isQ : Sp := fun vs H Q _ => ∃ r q t b, vs = [.ref r, .int t, .int b] ∧ Pq H r q ∧ b ≠ 0 ∧ q = (t : Rat) / (b : Rat) ∧ IntMulOk q.num b ∧ IntMulOk t q.den ∧ Q (.bl true) H
noncomputable def sp_atQ : Sp := fun vs H Q _ => ∃ (a : Addr) (qs : List Rat) (k : Nat), vs = [.ref a, .int k] ∧ Rw H a qs ∧ ∀ p H', Same H H' → Pq H' p (qs.getD k 0) → Q (.ref p) H'
noncomputable def sp_stripQ : Sp := fun vs H Q _ => ∃ a qs, vs = [.ref a] ∧ Rw H a qs ∧ qs.length ≤ 1000 ∧ ∀ r H', Same H H' → H r = none → Rw H' r (Po.strip qs) → Q (.ref r) H'
noncomputable def sp_row_by : Sp := fun vs H Q _ => ∃ c k w, vs = [.int c, .int k, .int w] ∧ (0 ≤ k ∧ k ≤ 900) ∧ (w = 2 ∨ w = 3) ∧ ∀ r qs H', Same H H' → H r = none → Rw H' r qs → qs.length ≤ 13 → (∀ q ∈ qs, Bq 101 q) → (w = 2 → ∀ q ∈ qs, Bq 6 q) → Q (.ref r) H'
noncomputable def sp_sameQ : Sp := fun vs H Q _ => ∃ a b qs, vs = [.ref a, .ref b] ∧ Rw H a qs ∧ Rw H b qs ∧ qs.length ≤ 1000 ∧ Q (.bl true) H
noncomputable abbrev Rws (H : Hp) : List Addr → List (List Rat) → Prop := Paired (Rw H)
noncomputable def ApartAt (a h k : Addr) (H : Hp) (R : Hp → Prop) : Prop := ∃ qs as bs rss, Rw H a qs ∧ qs.length ≤ 1000 ∧ H h = some (.lst (as.map V.ref)) ∧ Rws H as rss ∧ H k = some (.lst (bs.map V.ref)) ∧ Rws H bs rss ∧
  a ∉ as ∧ a ∉ bs ∧ a ≠ h ∧ a ≠ k ∧ h ∉ as ∧ as.length ≤ 2 ∧ (∀ rs ∈ rss, rs.length ≤ 1000) ∧ ∀ H', Sx (a :: as) H H' → R H'
noncomputable def sp_apart : Sp := fun vs H Q _ => ∃ a h k, vs = [.ref a, .ref h, .ref k] ∧ ApartAt a h k H fun H' => Q (.bl true) H'
theorem bin_minus {vs : List V} {H : Hp} {Q : VK} {E : XK} (h : sp_bin 8000 (· - ·) vs H Q E) : sp_minus vs H Q E := by
  obtain ⟨p, q, a, b, rfl, hp, hq, ba, bb, k⟩ := h
  exact ⟨p, q, _, _, _, _, rfl, hp, hq, den_pos a, den_pos b, ba.1, ba.2, bb.1, bb.2, fun r H' s hr => k r H' s (Pq.of hr ⟨(mns_q a b).1.symm, (mns_q a b).2.symm⟩)⟩
theorem bin_times {vs : List V} {H : Hp} {Q : VK} {E : XK} (h : sp_bin 8000 (· * ·) vs H Q E) : sp_times vs H Q E := by
  obtain ⟨p, q, a, b, rfl, hp, hq, ba, bb, k⟩ := h
  exact ⟨p, q, _, _, _, _, rfl, hp, hq, den_pos a, den_pos b, ba.1, ba.2, bb.1, bb.2, fun r H' s hr => k r H' s (Pq.of hr ⟨(tms_q a b).1.symm, (tms_q a b).2.symm⟩)⟩
theorem lowQ {vs : List V} {H : Hp} {Q : VK} {E : XK} (h : sp_lowQ vs H Q E) : sp_low vs H Q E := by
  obtain ⟨t, b, rfl, hb, bb, k⟩ := h
  exact ⟨t, b, rfl, hb, bb, fun r H' s hr => k r H' s (Pq.of hr ⟨(low_q hb).1.symm, (low_q hb).2.symm⟩)⟩
theorem ok_minusQ (F : Fun K "minus" "minus" s_minus f fd) (T : Txt mg) (C_plus : Cal P w K mg base "plus" 2 ["one", "other"] sp_plus) : FnOk P w K mg base CX0 3 f fd ["one", "other"] (sp_bin 8000 (· - ·)) := (ok_minus F T C_plus).imp fun _ _ _ _ => bin_minus
theorem ok_timesQ (F : Fun K "times" "times" s_times f fd) (T : Txt mg) (C_divisor : Cal P w K mg base "divisor" 1 ["one", "other"] sp_div) : FnOk P w K mg base CX0 2 f fd ["one", "other"] (sp_bin 8000 (· * ·)) := (ok_times F T C_divisor).imp fun _ _ _ _ => bin_times

theorem sc_law_add : FnScope ["_law_one", "_law_other"] ["_law_one", "_law_other"] (defScope s_law_add) := ⟨rfl, rfl, rfl, by decide +kernel, rfl, by decide +kernel, by decide +kernel⟩
theorem ok_law_add (F : Fun K "_law_add" "_law_add" s_law_add f fd) (T : Txt mg) (C_law_low : Cal P w K mg base "_law_low" 2 ["_law_top", "_law_bottom"] sp_low) : FnOk P w K mg base CX0 3 f fd ["_law_one", "_law_other"] (sp_bin 4000 (· + ·)) := by
  refine F.ok sc_law_add (fun vs H Q E h => ?_) (fun cdv A outer s H vs Q E hr h => ?_)
  · obtain ⟨p, q, a, b, rfl, _⟩ := h
    rfl
  obtain ⟨p, q, a, b, rfl, hp, hq, ba, bb, k⟩ := h
  have hb : (0 : Int) < a.den * b.den := Int.mul_pos (den_pos a) (den_pos b)
  refine ⟨_, (pss_one (ps_ret (pe_cl C_law_low hr (pa_cons (pe_op op_add (pe_op op_mulB (pe_ix ix_tup (pv 0) pe_int (fun _ _ => rfl)) (pe_ix ix_tup (pv 1) pe_int (fun _ _ => rfl))) (pe_op op_mulB (pe_ix ix_tup (pv 1) pe_int (fun _ _ => rfl)) (pe_ix ix_tup (pv 0) pe_int (fun _ _ => rfl)))) (pa_cons (pe_op op_mulB (pe_ix ix_tup (pv 0) pe_int (fun _ _ => rfl)) (pe_ix ix_tup (pv 1) pe_int (fun _ _ => rfl))) pa_nil))))), ?_⟩
  refine ⟨_, rfl, _, _, _, _, rfl, rfl, hp.sq, rfl, _, rfl, _, _, _, _, rfl, rfl, hq.sq, rfl, _, _, rfl, rfl, mul_of ba.1 bb.2 (by decide), _, rfl, _, _, _, _, rfl, rfl, hq.sq, rfl, _, rfl, _, _, _, _, rfl, rfl, hp.sq, rfl, _, _, rfl, rfl, mul_of bb.1 ba.2 (by decide), _, _, rfl, rfl, _, rfl, _, _, _, _, rfl, rfl, hp.sq, rfl, _, rfl, _, _, _, _, rfl, rfl, hq.sq, rfl, _, _, rfl, rfl, mul_of ba.2 bb.2 (by decide), _, _, rfl, hb, (ba.2.mul bb.2).mono (by decide), fun r H' s' h' => k r H' s' (Pq.of h' ?_)⟩
  have e := low_q (t := a.num * b.den + b.num * a.den) hb
  rw [add_as] at e
  exact ⟨e.1.symm, e.2.symm⟩
theorem sc_law_mul : FnScope ["_law_one", "_law_other"] ["_law_one", "_law_other"] (defScope s_law_mul) := ⟨rfl, rfl, rfl, by decide +kernel, rfl, by decide +kernel, by decide +kernel⟩
theorem ok_law_mul (F : Fun K "_law_mul" "_law_mul" s_law_mul f fd) (T : Txt mg) (C_law_low : Cal P w K mg base "_law_low" 2 ["_law_top", "_law_bottom"] sp_low) : FnOk P w K mg base CX0 3 f fd ["_law_one", "_law_other"] (sp_bin 4000 (· * ·)) := by
  refine F.ok sc_law_mul (fun vs H Q E h => ?_) (fun cdv A outer s H vs Q E hr h => ?_)
  · obtain ⟨p, q, a, b, rfl, _⟩ := h
    rfl
  obtain ⟨p, q, a, b, rfl, hp, hq, ba, bb, k⟩ := h
  have hb : (0 : Int) < a.den * b.den := Int.mul_pos (den_pos a) (den_pos b)
  refine ⟨_, (pss_one (ps_ret (pe_cl C_law_low hr (pa_cons (pe_op op_mulB (pe_ix ix_tup (pv 0) pe_int (fun _ _ => rfl)) (pe_ix ix_tup (pv 1) pe_int (fun _ _ => rfl))) (pa_cons (pe_op op_mulB (pe_ix ix_tup (pv 0) pe_int (fun _ _ => rfl)) (pe_ix ix_tup (pv 1) pe_int (fun _ _ => rfl))) pa_nil))))), ?_⟩
  refine ⟨_, rfl, _, _, _, _, rfl, rfl, hp.sq, rfl, _, rfl, _, _, _, _, rfl, rfl, hq.sq, rfl, _, _, rfl, rfl, mul_of ba.1 bb.1 (by decide), _, rfl, _, _, _, _, rfl, rfl, hp.sq, rfl, _, rfl, _, _, _, _, rfl, rfl, hq.sq, rfl, _, _, rfl, rfl, mul_of ba.2 bb.2 (by decide), _, _, rfl, hb, (ba.2.mul bb.2).mono (by decide), fun r H' s' h' => k r H' s' (Pq.of h' ?_)⟩
  have e := low_q (t := a.num * b.num) hb
  rw [mul_as] at e
  exact ⟨e.1.symm, e.2.symm⟩
theorem sc_law_at : FnScope ["_law_row", "_law_k"] ["_law_row", "_law_k"] (defScope s_law_at) := ⟨rfl, rfl, rfl, by decide +kernel, rfl, by decide +kernel, by decide +kernel⟩
theorem ok_law_at (F : Fun K "_law_at" "_law_at" s_law_at f fd) (T : Txt mg) : FnOk P w K mg base CX0 1 f fd ["_law_row", "_law_k"] sp_atQ := by
  refine F.ok sc_law_at (fun vs H Q E h => ?_) (fun cdv A outer s H vs Q E hr h => ?_)
  · obtain ⟨a, qs, k, rfl, _⟩ := h
    rfl
  obtain ⟨a, qs, k, rfl, ⟨ps, h1, h2⟩, q⟩ := h
  have hl := h2.length
  refine ⟨_, (pss_cons (ps_if (pt_cmpR op_lt (pv 1) (pe_callB call_len_seq rfl T.z_len PySem.boot_len (pa_cons (pv 0) pa_nil)) (nomark _))
        (pss_one (ps_ret (pe_ix ix_list (pv 0) (pv 1) (fun _ _ => rfl))))
        pss_nil)
      (pss_one (ps_ret (pe_tup (pa_cons pe_int (pa_cons pe_int pa_nil)))))), ?_⟩
  refine ⟨_, rfl, _, rfl, a, _, rfl, .inl (SqL.of h1), _, _, rfl, rfl, _, rfl, ?_⟩
  refine ite2 (fun c => ?_) (fun c => ?_)
  · have c' : (k : Int) < (((ps.map V.ref).length : Nat) : Int) := of_decide_eq_true c
    rw [List.length_map] at c'
    have hk : k < qs.length := by (first | lia | omega)
    obtain ⟨p, e, hp⟩ := h2.get (List.getElem?_eq_getElem hk)
    refine ⟨_, rfl, _, rfl, a, _, _, _, rfl, rfl, SqL.of h1, atI_nat e, q p H (Same.refl _) ?_⟩
    rw [List.getD_eq_getElem?_getD, List.getElem?_eq_getElem hk]
    exact hp
  · have c' : ¬ (k : Int) < (((ps.map V.ref).length : Nat) : Int) := of_decide_eq_false (Bool.eq_false_iff.mpr c)
    rw [List.length_map] at c'
    refine ⟨(by show 2 ≤ sizeLine; decide), fun p hp => q p _ (same_upd hp _) ?_⟩
    rw [List.getD_eq_getElem?_getD, List.getElem?_eq_none (by (first | lia | omega))]
    exact Pq.of Pr.new ⟨rfl, rfl⟩
theorem sc_law_strip : FnScope ["_law_row", "_law_many"] ["_law_row"] (defScope s_law_strip) := ⟨rfl, rfl, rfl, by decide +kernel, rfl, by decide +kernel, by decide +kernel⟩
theorem ok_law_strip (F : Fun K "_law_strip" "_law_strip" s_law_strip f fd) (T : Txt mg) : FnOk P w K mg base CX0 1 f fd ["_law_row"] sp_stripQ := by
  refine F.ok sc_law_strip (fun vs H Q E h => ?_) (fun cdv A outer s H vs Q E hr h => ?_)
  · obtain ⟨a, qs, rfl, _⟩ := h
    rfl
  obtain ⟨a, qs, rfl, ⟨ps, h1, h2⟩, hz, q⟩ := h
  have hl := h2.length
  refine ⟨_, (pss_cons (ps_set (i := 1) sc_law_strip.nd rfl (Or.inl rfl) (pe_callB call_len_seq rfl T.z_len PySem.boot_len (pa_cons (pv 0) pa_nil)))
      (pss_cons (ps_while PassesOwn.never (PW.pt (pw_and (pt_cmpR op_gt (pv 1) pe_int (nomark _)) (pw_and1 (pt_cmpR op_eq (pe_ix ix_tup (pe_ix ix_list (pv 0) (pe_op op_sub (pv 1) pe_int) (fun _ _ => rfl)) pe_int (fun _ _ => rfl)) pe_int (nomark _)))))
        (pss_one (ps_set (i := 1) sc_law_strip.nd rfl (Or.inl rfl) (pe_op op_sub (pv 1) pe_int))))
      (pss_one (ps_ret (pe_slice sl_list (pv 0) po_none (po_some (pv 1))))))), ?_⟩
  refine ⟨_, rfl, a, _, rfl, .inl (SqL.of h1), ?_⟩
  refine ⟨fun m σ H' => ∃ n : Nat, σ = [some (.ref a), some (.int n)] ∧ H = H' ∧ n ≤ qs.length ∧ Po.strip (qs.take n) = Po.strip qs ∧ m = n, ⟨_, qs.length, ?_, rfl, Nat.le_refl _, by rw [List.take_length], rfl⟩, ?_⟩
  · rw [List.length_map, hl]; rfl
  rintro m σ _ ⟨n, rfl, rfl, hn, e, rfl⟩
  have fin : Po.strip qs = qs.take m → ∀ p, H p = none → Q (.ref p) (upd H p (.lst (cutV (ps.map V.ref) none (some (m : Int))))) := fun e2 p hp => by
    refine q p _ (same_upd hp _) hp ⟨ps.take m, ?_, ?_⟩
    · rw [upd_same]
      unfold cutV
      rw [HT.sIx_none, HT.sIx_nat, List.length_map, Nat.min_eq_left (by (first | lia | omega)), List.drop_zero, List.map_take]
      rfl
    · rw [e2]
      exact (h2.take m).keep (same_upd hp _)
  refine ⟨_, rfl, _, _, rfl, rfl, _, rfl, ?_⟩
  refine ite2 (fun c => ?_) (fun c => ?_)
  · have c' : (0 : Int) < m := of_decide_eq_true c
    obtain ⟨n, rfl⟩ : ∃ n, m = n + 1 := ⟨m - 1, by (first | lia | omega)⟩
    have hlt : n < qs.length := by (first | lia | omega)
    have eq := List.getElem?_eq_getElem hlt
    obtain ⟨p, e1, hp⟩ := h2.get eq
    have ei : atI (ps.map V.ref) (((n + 1 : Nat) : Int) - 1) = some (.ref p) := by
      have e0 : ((n + 1 : Nat) : Int) - 1 = (n : Int) := by (first | lia | omega)
      rw [e0]
      exact atI_nat e1
    refine ⟨_, rfl, _, rfl, _, _, rfl, rfl, a, _, _, _, rfl, rfl, SqL.of h1, ei, _, _, _, _, rfl, rfl, hp.sq, rfl, rfl, _, rfl, ?_⟩
    refine ite2 (fun c2 => ⟨fun σ' H' => ∃ m', m' < n + 1 ∧ ∃ n : Nat, σ' = [some (.ref a), some (.int n)] ∧ H = H' ∧ n ≤ qs.length ∧ Po.strip (qs.take n) = Po.strip qs ∧ m' = n, fun _ _ h => h, ?_⟩) (fun c2 => ?_)
    · have z : qs[n] = 0 := num_zero.mp (V.int.inj (of_decide_eq_true c2))
      refine ⟨_, rfl, _, _, rfl, rfl, n, by (first | lia | omega), n, ?_, rfl, by (first | lia | omega), ?_, rfl⟩
      · have e0 : ((n + 1 : Nat) : Int) - 1 = (n : Int) := by (first | lia | omega)
        show [some (V.ref a), some (V.int (((n + 1 : Nat) : Int) - 1))] = _
        rw [e0]
      · rw [Po.take_snoc eq, z, Po.strip_snoc0] at e
        exact e
    · have z : qs[n] ≠ 0 := fun z => of_decide_eq_false (Bool.eq_false_iff.mpr c2) (congrArg V.int (num_zero.mpr z))
      refine ⟨_, rfl, _, rfl, _, rfl, _, _, rfl, SqL.of h1, fun p hp => fin ?_ p hp⟩
      rw [Po.take_snoc eq, Po.strip_snoc z] at e
      rw [← e, Po.take_snoc eq]
  · have c' : ¬ (0 : Int) < m := of_decide_eq_false (Bool.eq_false_iff.mpr c)
    obtain rfl : m = 0 := by (first | lia | omega)
    refine iteF ?_
    refine ⟨_, rfl, _, rfl, _, rfl, _, _, rfl, SqL.of h1, fun p hp => fin ?_ p hp⟩
    rw [← e]
    rfl
theorem sc_law_same : FnScope ["_law_told", "_law_due", "_law_k", "_law_number"] ["_law_told", "_law_due"] (defScope s_law_same) := ⟨rfl, rfl, rfl, by decide +kernel, rfl, by decide +kernel, by decide +kernel⟩
theorem ok_law_same (F : Fun K "_law_same" "_law_same" s_law_same f fd) (T : Txt mg) : FnOk P w K mg base CX0 1 f fd ["_law_told", "_law_due"] sp_sameQ := by
  refine F.ok sc_law_same (fun vs H Q E h => ?_) (fun cdv A outer s H vs Q E hr h => ?_)
  · obtain ⟨a, b, qs, rfl, _⟩ := h
    rfl
  obtain ⟨a, b, qs, rfl, ⟨ps, h1, h2⟩, ⟨rs, k1, k2⟩, hz, q⟩ := h
  have hl := h2.length
  have kl := k2.length
  refine ⟨_, (pss_cons (ps_if (PW.pt (pw_or (pt_not (pt_val (pe_callB call_isi rfl T.z_isinstance boot_isinstance (pa_cons (pv 0) (pa_cons (pe_bltn (v := .ty "list") rfl T.z_list boot_list rfl) pa_nil))))) (pw_or1 (pt_cmpR op_ne (pe_callB call_len_seq rfl T.z_len PySem.boot_len (pa_cons (pv 0) pa_nil)) (pe_callB call_len_seq rfl T.z_len PySem.boot_len (pa_cons (pv 1) pa_nil)) (nomark _)))))
        (pss_one (ps_ret pe_bl))
        pss_nil)
      (pss_cons (ps_for PassesOwn.never rfl (pi_range1 rfl T.z_range (pa_cons (pe_callB call_len_seq rfl T.z_len PySem.boot_len (pa_cons (pv 1) pa_nil)) pa_nil)) (pg_name (i := 2) sc_law_same.nd rfl (Or.inl rfl))
        (pss_cons (ps_if (PW.pt (pw_or (pt_not (pt_val (pe_callB call_isi rfl T.z_isinstance boot_isinstance (pa_cons (pe_ix ix_list (pv 0) (pv 2) (fun _ _ => rfl)) (pa_cons (pe_bltn (v := .ty "tuple") rfl T.z_tuple boot_tuple rfl) pa_nil))))) (pw_or (pt_cmpR op_ne (pe_callB call_len_seq rfl T.z_len PySem.boot_len (pa_cons (pe_ix ix_list (pv 0) (pv 2) (fun _ _ => rfl)) pa_nil)) pe_int (nomark _)) (pw_or1 (pt_cmpR (op_neD hr.units) (pe_ix ix_list (pv 0) (pv 2) (fun _ _ => rfl)) (pe_ix ix_list (pv 1) (pv 2) (fun _ _ => rfl)) (nomark _))))))
          (pss_one (ps_ret pe_bl))
          pss_nil)
        (pss_one (ps_for PassesOwn.never rfl (pi_tup (pe_ix ix_list (pv 0) (pv 2) (fun _ _ => rfl))) (pg_name (i := 3) sc_law_same.nd rfl (Or.inl rfl))
          (pss_one (ps_if (PW.pt (pw_or (pt_not (pt_val (pe_callB call_isi rfl T.z_isinstance boot_isinstance (pa_cons (pv 3) (pa_cons (pe_bltn (v := .ty "int") rfl T.z_int boot_int rfl) pa_nil))))) (pw_or1 (pt_val (pe_callB call_isi rfl T.z_isinstance boot_isinstance (pa_cons (pv 3) (pa_cons (pe_bltn (v := .ty "bool") rfl T.z_bool boot_bool rfl) pa_nil)))))))
            (pss_one (ps_ret pe_bl))
            pss_nil))))))
      (pss_one (ps_ret pe_bl)))), ?_⟩
  refine ⟨_, rfl, _, _, _, _, rfl, TyOf.lst h1, kit_lst_lst _, _, rfl, iteF ?_⟩
  refine ⟨_, rfl, _, _, rfl, .inl (SqL.of h1), _, rfl, _, _, rfl, .inl (SqL.of k1), rfl, _, rfl, iteNS (by rw [List.length_map, List.length_map, hl, kl]) ?_⟩
  refine ⟨_, rfl, _, _, rfl, .inl (SqL.of k1), _, rfl, by (first | lia | omega), by rw [List.length_map]; (first | lia | omega), ?_⟩
  rw [Int.toNat_natCast, List.length_map, kl]
  refine for_range (n := qs.length) (fun i σ H' => H = H' ∧ ∃ v w, σ = [some (.ref a), some (.ref b), v, w]) ⟨rfl, _, _, rfl⟩ ?_ ?_
  · rintro i σ _ hi ⟨rfl, v, w, rfl⟩
    obtain ⟨p, e1, hp⟩ := h2.get (List.getElem?_eq_getElem hi)
    obtain ⟨p', e2, hp'⟩ := k2.get (List.getElem?_eq_getElem hi)
    refine ⟨_, rfl, _, rfl, _, _, _, _, rfl, rfl, SqL.of h1, atI_0 e1, _, _, _, _, rfl, TyOf.tup hp, kit_tup_tup _, _, rfl, iteF ?_⟩
    refine ⟨_, rfl, _, rfl, _, _, _, _, rfl, rfl, SqL.of h1, atI_0 e1, _, _, rfl, .inr hp.sq, rfl, _, rfl, iteNS rfl ?_⟩
    refine ⟨_, rfl, _, rfl, _, _, _, _, rfl, rfl, SqL.of h1, atI_0 e1, _, rfl, _, rfl, _, _, _, _, rfl, rfl, SqL.of k1, atI_0 e2, _, _, hp.dv, hp'.dv, Nat.le_trans (depth_dq _) (by decide), _, rfl, iteNB (eqv_dq_self _) ?_⟩
    refine ⟨_, rfl, _, rfl, _, _, _, _, rfl, rfl, SqL.of h1, atI_0 e1, _, rfl, ⟨_, hp.sq⟩, ?_⟩
    refine for_tup (xs := [.int qs[i].num, .int qs[i].den]) (fun j σ H'' => H = H'' ∧ ∃ v w, σ = [some (.ref a), some (.ref b), v, w]) ⟨rfl, _, _, rfl⟩ ?_ ?_ ?_
    · rintro j σ _ _ ⟨rfl, _⟩
      exact hp.sq
    · rintro j x σ _ hx ⟨rfl, v, w, rfl⟩
      obtain ⟨m, rfl⟩ : ∃ m, x = .int m := by
        match j, hx with
        | 0, hx => exact ⟨_, (Option.some.inj hx).symm⟩
        | 1, hx => exact ⟨_, (Option.some.inj hx).symm⟩
      refine ⟨_, rfl, _, _, _, _, rfl, TyOf.int _, kit_int_int _, _, rfl, iteF ?_⟩
      exact ⟨_, rfl, _, _, _, _, rfl, TyOf.int _, kit_int_bool _, _, rfl, iteF ⟨rfl, _, _, rfl⟩⟩
    · rintro σ _ ⟨rfl, v, w, rfl⟩
      exact ⟨rfl, _, _, rfl⟩
  · rintro σ _ ⟨rfl, v, w, rfl⟩
    exact q
theorem sc_law_apart : FnScope ["_law_told", "_law_handed", "_law_kept", "_law_copy", "_law_row"] ["_law_told", "_law_handed", "_law_kept"] (defScope s_law_apart) := ⟨rfl, rfl, rfl, by decide +kernel, rfl, by decide +kernel, by decide +kernel⟩
theorem ok_law_apart (F : Fun K "_law_apart" "_law_apart" s_law_apart f fd) (T : Txt mg) : FnOk P w K mg base CX0 1 f fd ["_law_told", "_law_handed", "_law_kept"] sp_apart := by
  refine F.ok sc_law_apart (fun vs H Q E h => ?_) (fun cdv A outer s H vs Q E hr h => ?_)
  · obtain ⟨a, h, k, rfl, _⟩ := h
    rfl
  obtain ⟨a, h, k, rfl, qs, as, bs, rss, ⟨ps, h1, h2⟩, hz, hh, hhs, hk, hks, na, nb, nh, nk, nha, las, lrs, q⟩ := h
  have hl := h2.length
  have hzl : (2000 : Nat) < sizeLine := by decide
  refine ⟨_, (pss_cons (ps_set (i := 3) sc_law_apart.nd rfl (Or.inl rfl) (pe_callTy call_list_of rfl T.z_list boot_list (pa_cons (pv 0) pa_nil)))
      (pss_cons (ps_expr (pe_bm PySem.F.plainAttrs_list PySem.F.slot_list_append PySem.F.type_list_append mt_append (pv 0) (pa_cons (pe_tup (pa_cons pe_int (pa_cons pe_int pa_nil))) pa_nil)))
      (pss_cons (ps_if (pt_cmpR (op_neD hr.units) (pv 1) (pv 2) (nomark _))
        (pss_one (ps_ret pe_bl))
        pss_nil)
      (pss_cons (ps_for PassesOwn.never rfl (pi_list (pv 1)) (pg_name (i := 4) sc_law_apart.nd rfl (Or.inl rfl))
        (pss_one (ps_expr (pe_bm PySem.F.plainAttrs_list PySem.F.slot_list_append PySem.F.type_list_append mt_append (pv 4) (pa_cons (pe_tup (pa_cons pe_int (pa_cons pe_int pa_nil))) pa_nil)))))
      (pss_one (ps_ret (pe_cmpR (op_eqD hr.units) (pv 0) (pe_op op_cat (pv 3) (pe_lst (pa_cons (pe_tup (pa_cons pe_int (pa_cons pe_int pa_nil))) pa_nil))) (nomark _)))))))), ?_⟩
  refine ⟨_, rfl, a, _, rfl, .inl (SqL.of h1), fun c hc => ?_⟩
  have nac : a ≠ c := ne_of_none h1 hc
  have s1 := same_upd hc (.lst (ps.map V.ref))
  refine ⟨_, rfl, .inl ⟨rfl, _, SqL.of (s1 _ _ h1)⟩, (by show 2 ≤ sizeLine; decide), fun p hp => ?_⟩
  have s2 := same_upd hp (.tup [.int 7, .int 1])
  have s12 := s1.trans s2
  refine ⟨a, _, _, rfl, rfl, s12 _ _ h1, by rw [List.length_map]; (first | lia | omega), ?_⟩
  obtain ⟨H3, e3⟩ : ∃ H3, H3 = upd (upd (upd H c (.lst (ps.map V.ref))) p (.tup [.int 7, .int 1])) a (.lst (ps.map V.ref ++ [.ref p])) := ⟨_, rfl⟩
  rw [← e3]
  have o3 : ∀ b o, b ≠ a → H b = some o → H3 b = some o := fun b o n e => by rw [e3, upd_ne n]; exact s12 _ _ e
  have row3 : ∀ b rs, b ≠ a → Rw H b rs → Rw H3 b rs := fun b rs n r => by rw [e3]; exact (r.keep s12).updO (s12 _ _ h1) n
  have rows3 : ∀ {cs : List Addr} {tss : List (List Rat)}, a ∉ cs → Rws H cs tss → Rws H3 cs tss := fun {cs tss} n r => by
    exact paired_imp (fun c ts hm x => row3 c ts (fun z => n (by rw [← z]; exact hm)) x) r
  have dh : Dv H3 (.ref h) (drr rss) := .lst (o3 _ _ (fun z => nh z.symm) hh) (Rws.dv (rows3 na hhs))
  have dk : Dv H3 (.ref k) (drr rss) := .lst (o3 _ _ (fun z => nk z.symm) hk) (Rws.dv (rows3 nb hks))
  refine ⟨_, rfl, _, rfl, _, _, dh, dk, Nat.le_trans (depth_drr _) (by decide), _, rfl, iteNB (eqv_drr_self _) ?_⟩
  have seven : ((7 : Rat).num = 7) ∧ (((7 : Rat).den : Int) = 1) := ⟨rfl, rfl⟩
  have fa3 : H3 a = some (.lst (ps.map V.ref ++ [.ref p])) := by rw [e3, upd_same]
  have npa : p ≠ a := fun z => by have := s1 _ _ h1; rw [← z, hp] at this; cases this
  have ncp : c ≠ p := fun z => by rw [← z, upd_same] at hp; cases hp
  have fc3 : H3 c = some (.lst (ps.map V.ref)) := by rw [e3, upd_ne (fun z => nac z.symm), upd_ne ncp, upd_same]
  have kp3 : Pq H3 p 7 := by
    refine Pq.of ?_ seven
    show H3 p = _
    rw [e3, upd_ne npa, upd_same]
  have k3 : Pqs H3 ps qs := Paired.imp' (fun r t z => by
    have z' : H r = some (.tup [.int t.num, .int t.den]) := z
    exact o3 _ _ (ne_of z' h1 (by intro w; cases w)) z') h2
  have nca : c ∉ as := fun z => by
    obtain ⟨rs, _, hrs⟩ := paired_left hhs z
    obtain ⟨xs, hx, _⟩ := hrs.lt
    rw [hc] at hx
    cases hx
  refine ⟨_, rfl, h, rfl, ⟨_, SqL.of (o3 _ _ (fun z => nh z.symm) hh)⟩, ?_⟩
  refine for_list (xs := as.map V.ref) (fun i σ H' => (∃ v, σ = [some (.ref a), some (.ref h), some (.ref k), some (.ref c), v]) ∧ H' a = some (.lst (ps.map V.ref ++ [.ref p])) ∧ H' c = some (.lst (ps.map V.ref)) ∧ Pqs H' ps qs ∧ Pq H' p 7 ∧
    H' h = some (.lst (as.map V.ref)) ∧ (∀ b ∈ as, ∃ rs, Rw H' b rs ∧ rs.length ≤ 1000 + i) ∧ Sx (a :: as) H H') ⟨⟨_, rfl⟩, fa3, fc3, k3, kp3, o3 _ _ (fun z => nh z.symm) hh, ?_, ?_⟩ ?_ ?_ ?_
  · intro b hb
    obtain ⟨rs, hm, hrs⟩ := paired_left (rows3 na hhs) hb
    exact ⟨rs, hrs, lrs _ hm⟩
  · intro b o n e
    exact o3 b o (fun z => n (by rw [z]; exact List.mem_cons_self)) e
  · rintro i σ H' _ ⟨_, _, _, _, _, fh, _⟩
    exact SqL.of fh
  · rintro i x σ H' hx ⟨⟨v, rfl⟩, fa, fc, kq, kp, fh, fas, sx⟩
    rw [List.getElem?_map] at hx
    obtain ⟨b, hb, rfl⟩ : ∃ b, b ∈ as ∧ x = .ref b := by
      cases e : as[i]? with
      | none => rw [e] at hx; cases hx
      | some b => rw [e] at hx; exact ⟨b, List.mem_of_getElem? e, (Option.some.inj hx).symm⟩
    have hi : i < as.length := by
      cases e : as[i]? with
      | none => rw [e] at hx; cases hx
      | some b => exact (List.getElem?_eq_some_iff.mp e).1
    obtain ⟨rs, hrs, hrl⟩ := fas b hb
    obtain ⟨xs, hxs, hxl⟩ := hrs.lt
    refine ⟨_, rfl, .inl ⟨rfl, _, SqL.of hxs⟩, (by show 2 ≤ sizeLine; decide), fun p2 hp2 => ?_⟩
    have s2 := same_upd hp2 (.tup [.int 5, .int 1])
    have k5 : Pq (upd H' p2 (.tup [.int 5, .int 1])) p2 5 := Pq.of Pr.new ⟨rfl, rfl⟩
    obtain ⟨ys, hys, hyl, rwy⟩ := hrs.app s2 k5
    refine ⟨b, ys, _, rfl, rfl, hys, by (first | lia | omega), ⟨_, rfl⟩, ?_, ?_, ?_, ?_, ?_, ?_, ?_⟩
    · rw [upd_ne (fun z => na (by rw [z]; exact hb))]; exact s2 _ _ fa
    · rw [upd_ne (fun z => nca (by rw [z]; exact hb))]; exact s2 _ _ fc
    · exact (kq.keep s2).updL hys
    · exact (kp.keep s2).updL hys
    · rw [upd_ne (fun z => nha (by rw [z]; exact hb))]; exact s2 _ _ fh
    · intro d hd
      by_cases e : d = b
      · subst e
        exact ⟨_, rwy, by simp; (first | lia | omega)⟩
      · obtain ⟨ts, hts, htl⟩ := fas d hd
        exact ⟨ts, (hts.keep s2).updO hys e, by (first | lia | omega)⟩
    · intro d o n e
      have n1 : d ≠ b := fun z => n (by rw [z]; exact List.mem_cons_of_mem _ hb)
      rw [upd_ne n1]
      exact s2 _ _ (sx d o n e)
  · rintro σ H' ⟨⟨v, rfl⟩, fa, fc, kq, kp, fh, fas, sx⟩
    refine ⟨_, rfl, _, rfl, (by show 2 ≤ sizeLine; decide), fun p2 hp2 => ⟨(by show 1 ≤ sizeLine; decide), fun l2 hl2 => ?_⟩⟩
    have t2 := same_upd hp2 (.tup [.int 7, .int 1])
    have t3 := same_upd hl2 (.lst [.ref p2])
    have t23 := t2.trans t3
    refine ⟨c, l2, _, _, rfl, rfl, t23 _ _ fc, upd_same, by rw [List.length_map]; simp; (first | lia | omega), fun l3 hl3 => ?_⟩
    have t4 := same_upd hl3 (.lst (ps.map V.ref ++ [.ref p2]))
    have t := t23.trans t4
    have da : Rw (upd (upd (upd H' p2 (.tup [.int 7, .int 1])) l2 (.lst [.ref p2])) l3 (.lst (ps.map V.ref ++ [.ref p2]))) a (qs ++ [7]) := ⟨ps ++ [p], by rw [t _ _ fa]; simp, (kq.keep t).append (.cons (kp.keep t) .nil)⟩
    have k7 : Pq (upd H' p2 (.tup [.int 7, .int 1])) p2 7 := Pq.of Pr.new seven
    have db : Rw (upd (upd (upd H' p2 (.tup [.int 7, .int 1])) l2 (.lst [.ref p2])) l3 (.lst (ps.map V.ref ++ [.ref p2]))) l3 (qs ++ [7]) := ⟨ps ++ [p2], by rw [upd_same]; simp, (kq.keep t).append (.cons (k7.keep (t3.trans t4)) .nil)⟩
    refine ⟨_, _, da.dv, db.dv, Nat.le_trans (depth_dr _) (by decide), ?_⟩
    have fin : Q (.bl (PyData.eqv (dr (qs ++ [7])) (dr (qs ++ [7])))) (upd (upd (upd H' p2 (.tup [.int 7, .int 1])) l2 (.lst [.ref p2])) l3 (.lst (ps.map V.ref ++ [.ref p2]))) := by
      rw [eqv_dr_self]
      exact q _ fun d o n e => t _ _ (sx d o n e)
    exact fin

noncomputable def sp_pbin (op : List Rat → List Rat → List Rat) : Sp := fun vs H Q _ => ∃ a b ps qs, vs = [.ref a, .ref b] ∧ Rw H a ps ∧ Rw H b qs ∧ ps.length ≤ 30 ∧ qs.length ≤ 30 ∧ (∀ q ∈ ps, Bq 1500 q) ∧ (∀ q ∈ qs, Bq 1500 q) ∧ ∀ r H', Same H H' → H r = none → Rw H' r (op ps qs) → Q (.ref r) H'
noncomputable def sp_scaled : Sp := fun vs H Q _ => ∃ a p qs x, vs = [.ref a, .ref p] ∧ Rw H a qs ∧ Pq H p x ∧ qs.length ≤ 30 ∧ (∀ q ∈ qs, Bq 1500 q) ∧ Bq 1500 x ∧ ∀ r H', Same H H' → H r = none → Rw H' r (Po.pscale qs x) → Q (.ref r) H'
noncomputable def sp_slope : Sp := fun vs H Q _ => ∃ a qs, vs = [.ref a] ∧ Rw H a qs ∧ qs.length ≤ 30 ∧ (∀ q ∈ qs, Bq 1500 q) ∧ ∀ r H', Same H H' → H r = none → Rw H' r (Po.pslope qs) → Q (.ref r) H'
noncomputable def sp_sum : Sp := fun vs H Q _ => ∃ a b ps qs sg, vs = [.ref a, .ref b, .int sg] ∧ Rw H a ps ∧ Rw H b qs ∧ (sg = 1 ∨ sg = -1) ∧ ps.length ≤ 30 ∧ qs.length ≤ 30 ∧ (∀ q ∈ ps, Bq 1500 q) ∧ (∀ q ∈ qs, Bq 1500 q) ∧
  ∀ r H', Same H H' → H r = none → Rw H' r (if sg = 1 then Po.padd ps qs else Po.psub ps qs) → Q (.ref r) H'
noncomputable def sp_product : Sp := fun vs H Q _ => ∃ a b ps qs, vs = [.ref a, .ref b] ∧ Rw H a ps ∧ Rw H b qs ∧ ps.length ≤ 13 ∧ qs.length ≤ 13 ∧ (∀ q ∈ ps, Bq 101 q) ∧ (∀ q ∈ qs, Bq 101 q) ∧ ∀ r H', Same H H' → H r = none → Rw H' r (Po.pmul ps qs) → Q (.ref r) H'
noncomputable def GoodAt (a d h k : Addr) (H : Hp) (R : Hp → Prop) : Prop := ∃ qs as bs rss, Rw H a qs ∧ Rw H d qs ∧ qs.length ≤ 1000 ∧ H h = some (.lst (as.map V.ref)) ∧ Rws H as rss ∧ H k = some (.lst (bs.map V.ref)) ∧ Rws H bs rss ∧
  a ∉ as ∧ a ∉ bs ∧ a ≠ h ∧ a ≠ k ∧ h ∉ as ∧ as.length ≤ 2 ∧ (∀ rs ∈ rss, rs.length ≤ 1000) ∧ ∀ H', Sx (a :: as) H H' → R H'
noncomputable def sp_good : Sp := fun vs H Q _ => ∃ a d h k, vs = [.ref a, .ref d, .ref h, .ref k] ∧ GoodAt a d h k H fun H' => Q (.bl true) H'
structure Two (H : Hp) (kp o1 o2 : Addr) (ps qs : List Rat) : Prop where
  one : Rw H o1 ps
  other : Rw H o2 qs
  kept : H kp = some (.lst [.ref o1, .ref o2])
noncomputable def sp_handed : Sp := fun vs H Q _ => ∃ a b ps qs tw, vs = [.ref a, .ref b, .bl tw] ∧ Rw H a ps ∧ Rw H b qs ∧ (tw = true → ps = qs) ∧ ps.length ≤ 30 ∧ qs.length ≤ 30 ∧
  ∀ r x y H', Same H H' → H r = none → H x = none → H y = none → H' r = some (.lst [.ref x, .ref y]) → Rw H' x ps → Rw H' y qs → r ≠ x → r ≠ y → Q (.ref r) H'
theorem sc_law_product : FnScope ["_law_one", "_law_other", "_law_made", "_law_power", "_law_figure", "_law_k"] ["_law_one", "_law_other"] (defScope s_law_product) := ⟨rfl, rfl, rfl, by decide +kernel, rfl, by decide +kernel, by decide +kernel⟩
theorem ok_law_product (F : Fun K "_law_product" "_law_product" s_law_product f fd) (T : Txt mg) (C_law_at : Cal P w K mg base "_law_at" 1 ["_law_row", "_law_k"] sp_atQ) (C_law_add : Cal P w K mg base "_law_add" 3 ["_law_one", "_law_other"] (sp_bin 4000 (· + ·)))
    (C_law_mul : Cal P w K mg base "_law_mul" 3 ["_law_one", "_law_other"] (sp_bin 4000 (· * ·))) (C_law_strip : Cal P w K mg base "_law_strip" 1 ["_law_row"] sp_stripQ) : FnOk P w K mg base CX0 4 f fd ["_law_one", "_law_other"] sp_product := by
  refine F.ok sc_law_product (fun vs H Q E h => ?_) (fun cdv A outer s H vs Q E hr h => ?_)
  · obtain ⟨a, b, ps, qs, rfl, _⟩ := h
    rfl
  obtain ⟨a, b, ps, qs, rfl, ha, hb, lp, lq, bp, bq, q⟩ := h
  obtain ⟨xa, ea, la⟩ := ha.there
  obtain ⟨xb, eb, lb⟩ := hb.there
  have hz : (1000 : Nat) < sizeLine := by decide
  refine ⟨_, (pss_cons (ps_set (i := 2) sc_law_product.nd rfl (Or.inl rfl) (pe_lst pa_nil))
      (pss_cons (ps_for PassesOwn.never rfl (pi_range1 rfl T.z_range (pa_cons (pe_op op_add (pe_callB call_len_seq rfl T.z_len PySem.boot_len (pa_cons (pv 0) pa_nil)) (pe_callB call_len_seq rfl T.z_len PySem.boot_len (pa_cons (pv 1) pa_nil))) pa_nil)) (pg_name (i := 3) sc_law_product.nd rfl (Or.inl rfl))
        (pss_cons (ps_set (i := 4) sc_law_product.nd rfl (Or.inl rfl) (pe_tup (pa_cons pe_int (pa_cons pe_int pa_nil))))
        (pss_cons (ps_for PassesOwn.never rfl (pi_range1 rfl T.z_range (pa_cons (pe_op op_add (pv 3) pe_int) pa_nil)) (pg_name (i := 5) sc_law_product.nd rfl (Or.inl rfl))
          (pss_one (ps_set (i := 4) sc_law_product.nd rfl (Or.inl rfl) (pe_cl C_law_add hr (pa_cons (pv 4) (pa_cons (pe_cl C_law_mul hr (pa_cons (pe_cl C_law_at hr (pa_cons (pv 0) (pa_cons (pv 5) pa_nil))) (pa_cons (pe_cl C_law_at hr (pa_cons (pv 1) (pa_cons (pe_op op_sub (pv 3) (pv 5)) pa_nil))) pa_nil))) pa_nil))))))
        (pss_one (ps_expr (pe_bm PySem.F.plainAttrs_list PySem.F.slot_list_append PySem.F.type_list_append mt_append (pv 2) (pa_cons (pv 4) pa_nil)))))))
      (pss_one (ps_ret (pe_cl C_law_strip hr (pa_cons (pv 2) pa_nil)))))), ?_⟩
  refine ⟨(by show 0 ≤ sizeLine; decide), fun D hD => ?_⟩
  have s0 := same_upd hD (.lst [])
  refine ⟨_, rfl, _, _, rfl, .inl (SqL.of (s0 _ _ ea)), _, rfl, _, _, rfl, .inl (SqL.of (s0 _ _ eb)), _, _, rfl, rfl, _, rfl, by (first | lia | omega), by (first | lia | omega), ?_⟩
  rw [show ((xa.length : Int) + (xb.length : Int)).toNat = ps.length + qs.length by (first | lia | omega)]
  refine for_range (n := ps.length + qs.length) (fun i σ H' => (∃ v w z, σ = [some (.ref a), some (.ref b), some (.ref D), v, w, z]) ∧ Same H H' ∧ Rw H' D ((List.range i).map (Po.conv ps qs))) ⟨⟨_, _, _, rfl⟩, s0, ⟨[], upd_same, .nil⟩⟩ ?_ ?_
  · rintro i σ H1 hi ⟨⟨v, w, z, rfl⟩, sm, rw1⟩
    refine ⟨(by show 2 ≤ sizeLine; decide), fun p0 hp0 => ?_⟩
    have s1 := same_upd hp0 (.tup [.int 0, .int 1])
    have k0 : Pq (upd H1 p0 (.tup [.int 0, .int 1])) p0 0 := Pq.of Pr.new ⟨rfl, rfl⟩
    refine ⟨_, rfl, _, _, rfl, rfl, _, rfl, by (first | lia | omega), by (first | lia | omega), ?_⟩
    rw [show (0 + (i : Int) + 1).toNat = i + 1 by (first | lia | omega)]
    refine for_range (n := i + 1) (fun j σ H' => (∃ p z, σ = [some (.ref a), some (.ref b), some (.ref D), some (.int (0 + (i : Int))), some (.ref p), z] ∧ Pq H' p (Po.sm (fun t => ps.getD t 0 * qs.getD (i - t) 0) j)) ∧ Same H1 H') ⟨⟨p0, _, rfl, k0⟩, s1⟩ ?_ ?_
    · rintro j σ H2 hj ⟨⟨p, z, rfl, kp⟩, s2⟩
      have b1 := (Po.conv_bq (n := j) (k := i) (by decide) bp bq).mono (show (101 + 101 + 1) * min j ps.length + 1 ≤ 4000 by
        have : min j ps.length ≤ 13 := by (first | lia | omega)
        have := Nat.mul_le_mul_left (101 + 101 + 1) this
        (first | lia | omega))
      refine ⟨_, rfl, _, rfl, _, rfl, a, ps, j, ?_, ha.keep (sm.trans s2), fun p1 H3 s3 k1 => ?_⟩
      · simp
      refine ⟨_, rfl, _, rfl, _, rfl, _, _, rfl, rfl, b, qs, i - j, ?_, hb.keep (sm.trans (s2.trans s3)), fun p2 H4 s4 k2 => ?_⟩
      · simp
        (first | lia | omega)
      refine ⟨p1, p2, _, _, rfl, k1.keep s4, k2, (Po.getD_bq (by decide) bp j).mono (by decide), (Po.getD_bq (by decide) bq (i - j)).mono (by decide), fun p3 H5 s5 k3 => ?_⟩
      have s35 := s3.trans (s4.trans s5)
      refine ⟨p, p3, _, _, rfl, kp.keep s35, k3, b1, ((Po.getD_bq (by decide) bp j).mul (Po.getD_bq (by decide) bq (i - j))).mono (by decide), fun p4 H6 s6 k4 => ⟨⟨p4, _, rfl, ?_⟩, s2.trans (s35.trans s6)⟩⟩
      rw [Po.sm_succ]
      exact k4
    · rintro σ H2 ⟨⟨p, z, rfl, kp⟩, s2⟩
      obtain ⟨xs1, hx1, _⟩ := rw1.there
      obtain ⟨xs, hxs, hxl, rw5⟩ := rw1.app s2 kp
      rw [List.length_map, List.length_range] at hxl
      refine ⟨_, rfl, .inl ⟨rfl, _, SqL.of (s2 _ _ hx1)⟩, _, rfl, D, xs, _, rfl, rfl, hxs, by (first | lia | omega), ⟨_, _, _, rfl⟩, same_updF (sm.trans s2) hD _, ?_⟩
      rw [List.range_succ, List.map_append]
      exact rw5
  · rintro σ H1 ⟨⟨v, w, z, rfl⟩, sm, rw1⟩
    exact ⟨_, rfl, D, _, rfl, rw1, by simp; (first | lia | omega), fun r H2 s2 n2 rw2 => q r H2 (sm.trans s2) (sm.free n2) rw2⟩

theorem sgn_iff {a : Int} : sgn a = 0 ↔ a = 0 := by
  unfold sgn
  split
  · (first | lia | omega)
  · split <;> (first | lia | omega)
theorem Rw.setq {H : Hp} {D p : Addr} {qs : List Rat} {q : Rat} {xs : List V} (k : Nat) (e : H D = some (.lst xs)) (h : Rw H D qs) (kp : Pq H p q) : Rw (upd H D (.lst (xs.set k (.ref p)))) D (qs.set k q) := by
  obtain ⟨ps, e1, k1⟩ := h
  rw [e] at e1
  cases e1
  exact ⟨ps.set k p, by rw [upd_same, List.map_set], (k1.set k kp).updL e⟩
theorem sc_poly : FnScope ["figures", "most"] ["figures"] (defScope s_poly) := ⟨rfl, rfl, rfl, by decide +kernel, rfl, by decide +kernel, by decide +kernel⟩
theorem ok_poly (F : Fun K "poly" "poly" s_poly f fd) (T : Txt mg) (C_side : Cal P w K mg base "side" 1 ["one"] sp_side) : FnOk P w K mg base CX0 2 f fd ["figures"] sp_stripQ := by
  refine F.ok sc_poly (fun vs H Q E h => ?_) (fun cdv A outer s H vs Q E hr h => ?_)
  · obtain ⟨a, qs, rfl, _⟩ := h
    rfl
  obtain ⟨a, qs, rfl, ⟨ps, h1, h2⟩, hz, q⟩ := h
  have hl := h2.length
  refine ⟨_, (pss_cons (ps_set (i := 1) sc_poly.nd rfl (Or.inl rfl) (pe_callB call_len_seq rfl T.z_len PySem.boot_len (pa_cons (pv 0) pa_nil)))
      (pss_cons (ps_while PassesOwn.never (PW.pt (pw_and (pt_cmpR op_gt (pv 1) pe_int (nomark _)) (pw_and1 (pt_cmpR op_eq (pe_cl C_side hr (pa_cons (pe_ix ix_list (pv 0) (pe_op op_sub (pv 1) pe_int) (fun _ _ => rfl)) pa_nil)) pe_int (nomark _)))))
        (pss_one (ps_aug (i := 1) sc_poly.nd rfl (Or.inl rfl) pe_int ip_sub)))
      (pss_one (ps_ret (pe_slice sl_list (pv 0) po_none (po_some (pv 1))))))), ?_⟩
  refine ⟨_, rfl, a, _, rfl, .inl (SqL.of h1), ?_⟩
  refine ⟨fun m σ H' => ∃ n : Nat, σ = [some (.ref a), some (.int n)] ∧ H = H' ∧ n ≤ qs.length ∧ Po.strip (qs.take n) = Po.strip qs ∧ m = n, ⟨_, qs.length, ?_, rfl, Nat.le_refl _, by rw [List.take_length], rfl⟩, ?_⟩
  · rw [List.length_map, hl]; rfl
  rintro m σ _ ⟨n, rfl, rfl, hn, e, rfl⟩
  have fin : Po.strip qs = qs.take m → ∀ p, H p = none → Q (.ref p) (upd H p (.lst (cutV (ps.map V.ref) none (some (m : Int))))) := fun e2 p hp => by
    refine q p _ (same_upd hp _) hp ⟨ps.take m, ?_, ?_⟩
    · rw [upd_same]
      unfold cutV
      rw [HT.sIx_none, HT.sIx_nat, List.length_map, Nat.min_eq_left (by (first | lia | omega)), List.drop_zero, List.map_take]
      rfl
    · rw [e2]
      exact (h2.take m).keep (same_upd hp _)
  refine ⟨_, rfl, _, _, rfl, rfl, _, rfl, ?_⟩
  refine ite2 (fun c => ?_) (fun c => ?_)
  · have c' : (0 : Int) < m := of_decide_eq_true c
    obtain ⟨n, rfl⟩ : ∃ n, m = n + 1 := ⟨m - 1, by (first | lia | omega)⟩
    have hlt : n < qs.length := by (first | lia | omega)
    have eq := List.getElem?_eq_getElem hlt
    obtain ⟨p, e1, hp⟩ := h2.get eq
    have e0 : ((n + 1 : Nat) : Int) - 1 = (n : Int) := by (first | lia | omega)
    have ei : atI (ps.map V.ref) (((n + 1 : Nat) : Int) - 1) = some (.ref p) := by
      rw [e0]
      exact atI_nat e1
    refine ⟨_, rfl, _, rfl, _, _, rfl, rfl, a, _, _, _, rfl, rfl, SqL.of h1, ei, _, _, _, rfl, hp, rfl, _, rfl, ?_⟩
    refine ite2 (fun c2 => ⟨fun σ' H' => ∃ m', m' < n + 1 ∧ ∃ n : Nat, σ' = [some (.ref a), some (.int n)] ∧ H = H' ∧ n ≤ qs.length ∧ Po.strip (qs.take n) = Po.strip qs ∧ m' = n, fun _ _ h => h, ?_⟩) (fun c2 => ?_)
    · have z : qs[n] = 0 := num_zero.mp (sgn_iff.mp (V.int.inj (of_decide_eq_true c2)))
      refine ⟨_, rfl, _, _, rfl, rfl, n, by (first | lia | omega), n, ?_, rfl, by (first | lia | omega), ?_, rfl⟩
      · show [some (V.ref a), some (V.int (((n + 1 : Nat) : Int) - 1))] = _
        rw [e0]
      · rw [Po.take_snoc eq, z, Po.strip_snoc0] at e
        exact e
    · have z : qs[n] ≠ 0 := fun z => of_decide_eq_false (Bool.eq_false_iff.mpr c2) (congrArg V.int (sgn_iff.mpr (num_zero.mpr z)))
      refine ⟨_, rfl, _, rfl, _, rfl, _, _, rfl, SqL.of h1, fun p hp => fin ?_ p hp⟩
      rw [Po.take_snoc eq, Po.strip_snoc z] at e
      rw [← e, Po.take_snoc eq]
  · have c' : ¬ (0 : Int) < m := of_decide_eq_false (Bool.eq_false_iff.mpr c)
    obtain rfl : m = 0 := by (first | lia | omega)
    refine iteF ?_
    refine ⟨_, rfl, _, rfl, _, rfl, _, _, rfl, SqL.of h1, fun p hp => fin ?_ p hp⟩
    rw [← e]
    rfl
theorem sc_scaled : FnScope ["one", "number"] ["one", "number"] (defScope s_scaled) := ⟨rfl, rfl, rfl, by decide +kernel, rfl, by decide +kernel, by decide +kernel⟩
theorem ok_scaled (F : Fun K "scaled" "scaled" s_scaled f fd) (T : Txt mg) (C_times : Cal P w K mg base "times" 2 ["one", "other"] (sp_bin 8000 (· * ·))) (C_poly : Cal P w K mg base "poly" 2 ["figures"] sp_stripQ) : FnOk P w K mg base CX0 4 f fd ["one", "number"] sp_scaled := by
  refine F.ok sc_scaled (fun vs H Q E h => ?_) (fun cdv A outer s H vs Q E hr h => ?_)
  · obtain ⟨a, p, qs, x, rfl, _⟩ := h
    rfl
  obtain ⟨a, p, qs, x, rfl, ha, hp, lq, bq, bx, q⟩ := h
  obtain ⟨xa, ea, la⟩ := ha.there
  refine ⟨_, (pss_one (ps_ret (pe_cl C_poly hr (pa_cons (pe_comp (N' := ["figure", "number"]) (fsc := defScope s_scaled) (N := ["one", "number"]) [1] ⟨rfl, by decide +kernel, by decide +kernel, by decide +kernel, rfl, by decide +kernel, rfl, by decide +kernel⟩ (pi_list (pv 0)) (fun _ _ _ _ => (pe_cl C_times hr (pa_cons (pv 0) (pa_cons (pv 1) pa_nil))))) pa_nil)))), ?_⟩
  refine ⟨_, rfl, a, rfl, ⟨_, SqL.of ea⟩, comp_listQ (qs := qs) (by (first | lia | omega)) ha (fun y => y * x) ?_ fun H1 D s1 nD rwD => ?_⟩
  · intro _ _ _ _ p1 y H1 R hy k1 s1 fin
    exact ⟨_, rfl, _, rfl, p1, p, _, _, rfl, k1, hp.keep s1, (bq y hy).mono (by decide), bx.mono (by decide), fun p3 H4 s4 k3 => fin p3 H4 s4 k3⟩
  · exact ⟨D, _, rfl, rwD, by simp; (first | lia | omega), fun r H2 s2 n2 rw2 => q r H2 (s1.trans s2) (s1.free n2) rw2⟩

noncomputable def cq (ns : List Int) : List Rat := ns.map fun (z : Int) => (z : Rat)
theorem cq_length (ns : List Int) : (cq ns).length = ns.length := List.length_map _
noncomputable def Iz (H : Hp) (a : Addr) (ns : List Int) : Prop := H a = some (.lst (ns.map V.int))
noncomputable def Lw (b : Int) (A : List Rat) : Prop := ∀ M : Int, (∀ q ∈ A, ∃ T : Int, q * (M : Rat) = (T : Rat)) → b ∣ M
noncomputable def Fz (H : Hp) (p : Addr) (A : List Rat) : Prop := ∃ (fa : Addr) (fs : List Int) (b : Int), H p = some (.tup [.ref fa, .int b]) ∧ Iz H fa fs ∧ b ≠ 0 ∧ cq fs = A.map (· * (b : Rat)) ∧ Lw b A
theorem fz_len {fs : List Int} {A : List Rat} {b : Int} (e : cq fs = A.map (· * (b : Rat))) : fs.length = A.length := by
  have := congrArg List.length e
  rw [cq_length, List.length_map] at this
  exact this
theorem den_dvd {q : Rat} {M T : Int} (h : q * (M : Rat) = (T : Rat)) : (q.den : Int) ∣ M := by
  by_cases hM : M = 0
  · rw [hM]; exact Int.dvd_zero _
  · have hM' : (M : Rat) ≠ 0 := fun z => hM (Rat.intCast_eq_zero_iff.mp z)
    exact (dvd_of hM (show q = (T : Rat) / (M : Rat) by rw [← h]; grind)).2
theorem lcm_dvd {B d M : Int} (hB : 0 < B) (hd : 0 < d) (h1 : B ∣ M) (h2 : d ∣ M) : B * (d / g B d) ∣ M := by
  have hg : 0 < g B d := g_pos (by (first | lia | omega))
  obtain ⟨x, hx⟩ := g_dvd_left B d
  obtain ⟨y, hy⟩ := g_dvd_right B d
  have c : Int.gcd x y = 1 := by
    have h := div_cop (a := B) (b := d) (by (first | lia | omega))
    have e1 : B / g B d = x := Int.ediv_eq_of_eq_mul_right (Int.ne_of_gt hg) hx
    have e2 : d / g B d = y := Int.ediv_eq_of_eq_mul_right (Int.ne_of_gt hg) hy
    rw [e1, e2] at h
    exact h
  have e2 : d / g B d = y := Int.ediv_eq_of_eq_mul_right (Int.ne_of_gt hg) hy
  rw [e2]
  obtain ⟨z, hz⟩ := h1
  obtain ⟨v, hv⟩ := h2
  generalize g B d = gg at *
  have k : x * z = y * v := by
    have : gg * (x * z) = gg * (y * v) := by
      rw [← Int.mul_assoc, ← Int.mul_assoc, ← hx, ← hy, ← hz, ← hv]
    exact Int.eq_of_mul_eq_mul_left (Int.ne_of_gt hg) this
  have dy : y ∣ x * z := ⟨v, k⟩
  have dz : y ∣ z := by
    have d' := Int.natAbs_dvd_natAbs.mpr dy
    rw [Int.natAbs_mul] at d'
    exact Int.natAbs_dvd_natAbs.mp (Nat.Coprime.dvd_of_dvd_mul_left (Nat.Coprime.symm c) d')
  obtain ⟨u, hu⟩ := dz
  exact ⟨u, by rw [hz, hu, Int.mul_assoc]⟩
noncomputable def sp_shb4 : Sp := fun vs H Q _ => ∃ a qs β, vs = [.ref a] ∧ Rw H a qs ∧ qs.length ≤ 13 ∧ (∀ q ∈ qs, Bq β q) ∧ β ≤ 1300 ∧ ∀ B : Int, 0 < B → (∀ q ∈ qs, (q.den : Int) ∣ B) → (∀ M : Int, (∀ q ∈ qs, (q.den : Int) ∣ M) → B ∣ M) → Bt (1300 * 13 + 1) B → Q (.int B) H
theorem sc_shared_bottom : FnScope ["figures", "bottom", "figure"] ["figures"] (defScope s_shared_bottom) := ⟨rfl, rfl, rfl, by decide +kernel, rfl, by decide +kernel, by decide +kernel⟩
theorem ok_shared_bottom (F : Fun K "shared_bottom" "shared_bottom" s_shared_bottom f fd) (T : Txt mg) (C_divisor : Cal P w K mg base "divisor" 1 ["one", "other"] sp_div) : FnOk P w K mg base CX0 2 f fd ["figures"] sp_shb4 := by
  refine F.ok sc_shared_bottom (fun vs H Q E h => ?_) (fun cdv A outer s H vs Q E hr h => ?_)
  · obtain ⟨a, qs, β, rfl, _⟩ := h
    rfl
  obtain ⟨a, qs, β, rfl, ⟨ps, ea, kp⟩, hl, bq, hβ, q⟩ := h
  have lp := kp.length
  refine ⟨_, (pss_cons (ps_set (i := 1) sc_shared_bottom.nd rfl (Or.inl rfl) pe_int)
      (pss_cons (ps_for PassesOwn.never rfl (pi_list (pv 0)) (pg_name (i := 2) sc_shared_bottom.nd rfl (Or.inl rfl))
        (pss_one (ps_set (i := 1) sc_shared_bottom.nd rfl (Or.inl rfl) (pe_op op_mulB (pv 1) (pe_op op_fdP (pe_ix ix_tup (pv 2) pe_int (fun _ _ => rfl)) (pe_cl C_divisor hr (pa_cons (pv 1) (pa_cons (pe_ix ix_tup (pv 2) pe_int (fun _ _ => rfl)) pa_nil))))))))
      (pss_one (ps_ret (pv 1))))), ?_⟩
  refine ⟨_, rfl, a, rfl, ⟨_, SqL.of ea⟩, ?_⟩
  refine for_list (xs := ps.map V.ref) (fun i σ H' => H = H' ∧ ∃ (B : Int) (v : Option V), σ = [some (.ref a), some (.int B), v] ∧ 0 < B ∧ (∀ q ∈ qs.take i, (q.den : Int) ∣ B) ∧ (∀ M : Int, (∀ q ∈ qs.take i, (q.den : Int) ∣ M) → B ∣ M) ∧ Bt (1300 * i + 1) B)
    ⟨rfl, 1, _, rfl, by decide, fun q hq => absurd hq (by simp), fun M _ => ⟨M, (Int.one_mul M).symm⟩, Bt.mono (m := 1) (by show (1 : Nat) < 2 ^ 1; decide) (by (first | lia | omega))⟩ ?_ ?_ ?_
  · rintro i σ _ _ ⟨rfl, _⟩
    exact SqL.of ea
  · rintro i x σ _ hi ⟨rfl, B, v, rfl, hB, hd, hm, bB⟩
    have hlt : i < qs.length := by
      have := (List.getElem?_eq_some_iff.mp hi).1
      rw [List.length_map] at this
      (first | lia | omega)
    have eq := List.getElem?_eq_getElem hlt
    obtain ⟨p1, e1, k1⟩ := kp.get eq
    rw [hi] at e1
    cases e1
    have b1 : Bq 1300 qs[i] := (bq _ (List.getElem_mem hlt)).mono hβ
    have d1 := den_pos qs[i]
    have hg : 0 < g B qs[i].den := g_pos (by (first | lia | omega))
    have bg : Bt 9000 (g B qs[i].den) := (g_bt d1 b1.2).mono (by decide)
    have gd := g_dvd_right B (qs[i].den : Int)
    have gB := g_dvd_left B (qs[i].den : Int)
    have bdv : Bt 1300 ((qs[i].den : Int) / g B qs[i].den) := b1.2.ediv
    have et : qs.take (i + 1) = qs.take i ++ [qs[i]] := List.take_succ_eq_append_getElem hlt
    refine ⟨_, rfl, _, rfl, _, _, _, _, rfl, rfl, k1.sq, rfl, _, rfl, _, rfl, _, _, _, _, rfl, rfl, k1.sq, rfl, _, _, rfl, _, _, rfl, rfl, ⟨hg, bg⟩, _, _, rfl, rfl, mul_of bB bdv (by (first | lia | omega)), rfl, _, _, rfl, ?_, fun q hq => ?_, fun M hM => ?_, ?_⟩
    · obtain ⟨c, hc⟩ := gd
      have : (qs[i].den : Int) / g B qs[i].den = c := Int.ediv_eq_of_eq_mul_right (Int.ne_of_gt hg) hc
      rw [this]
      refine Int.mul_pos hB ?_
      by_cases h0 : 0 < c
      · exact h0
      · exfalso
        have : g B qs[i].den * c ≤ 0 := Int.mul_nonpos_of_nonneg_of_nonpos (by (first | lia | omega)) (by (first | lia | omega))
        (first | lia | omega)
    · rw [et] at hq
      rcases List.mem_append.mp hq with z | z
      · exact Int.dvd_trans (hd q z) (Int.dvd_mul_right _ _)
      · have : q = qs[i] := by simpa using z
        rw [this]
        obtain ⟨c, hc⟩ := gd
        obtain ⟨e, he⟩ := gB
        have e1 : (qs[i].den : Int) / g B qs[i].den = c := Int.ediv_eq_of_eq_mul_right (Int.ne_of_gt hg) hc
        rw [e1]
        refine ⟨e, ?_⟩
        generalize g B (qs[i].den : Int) = gg at *
        rw [hc, he, Int.mul_assoc, Int.mul_assoc, Int.mul_comm e c]
    · rw [et] at hM
      exact lcm_dvd hB d1 (hm M fun q hq => hM q (List.mem_append_left _ hq)) (hM _ (List.mem_append_right _ (by simp)))
    · rw [Nat.mul_succ]
      exact (bB.mul bdv).mono (by (first | lia | omega))
  · rintro σ _ ⟨rfl, B, v, rfl, hB, hd, hm, bB⟩
    rw [List.length_map, lp] at hd hm bB
    rw [List.take_length] at hd hm
    exact ⟨_, rfl, q B hB hd hm (bB.mono (by (first | lia | omega)))⟩
noncomputable def sp_whf4 : Sp := fun vs H Q _ => ∃ a qs B, vs = [.ref a, .int B] ∧ Rw H a qs ∧ qs.length ≤ 100 ∧ 0 < B ∧ (∀ q ∈ qs, (q.den : Int) ∣ B) ∧ (∀ q ∈ qs, Bq 1300 q) ∧ Bt 20000 B ∧
  ∀ r ns H', Same H H' → H r = none → Iz H' r ns → cq ns = qs.map (· * (B : Rat)) → Q (.ref r) H'
theorem sc_whole_figures : FnScope ["one", "bottom"] ["one", "bottom"] (defScope s_whole_figures) := ⟨rfl, rfl, rfl, by decide +kernel, rfl, by decide +kernel, by decide +kernel⟩
theorem ok_whole_figures (F : Fun K "whole_figures" "whole_figures" s_whole_figures f fd) (T : Txt mg) : FnOk P w K mg base CX0 1 f fd ["one", "bottom"] sp_whf4 := by
  refine F.ok sc_whole_figures (fun vs H Q E h => ?_) (fun cdv A outer s H vs Q E hr h => ?_)
  · obtain ⟨a, qs, B, rfl, _⟩ := h
    rfl
  obtain ⟨a, qs, B, rfl, ra, hl, hB, hd, bq, bB, q⟩ := h
  obtain ⟨xa, ea, la⟩ := ra.there
  refine ⟨_, (pss_one (ps_ret (pe_comp (N' := ["figure", "bottom"]) (fsc := defScope s_whole_figures) (N := ["one", "bottom"]) [1] ⟨rfl, by decide +kernel, by decide +kernel, by decide +kernel, rfl, by decide +kernel, rfl, by decide +kernel⟩ (pi_list (pv 0)) (fun _ _ _ _ => (pe_op op_mulB (pe_ix ix_tup (pv 0) pe_int (fun _ _ => rfl)) (pe_op op_fdP (pv 1) (pe_ix ix_tup (pv 0) pe_int (fun _ _ => rfl)))))))), ?_⟩
  refine ⟨_, rfl, a, rfl, ⟨_, SqL.of ea⟩, comp_listZ (by (first | lia | omega)) ra (fun q => q.num * (B / q.den)) ?_ fun H1 D s1 nD eD => q D _ H1 s1 nD eD ?_⟩
  · intro _ _ _ _ p x H1 R hx kp s1 fin
    have b1 := bq x hx
    exact ⟨_, rfl, _, _, _, _, rfl, rfl, kp.sq, rfl, _, rfl, _, rfl, _, _, _, _, rfl, rfl, kp.sq, rfl, _, _, rfl, rfl, ⟨den_pos x, b1.2.mono (by decide)⟩, _, _, rfl, rfl, mul_of b1.1 (bB.ediv) (by decide), fin⟩
  · unfold cq
    rw [List.map_map]
    refine List.map_congr_left fun x hx => ?_
    show ((x.num * (B / (x.den : Int)) : Int) : Rat) = x * (B : Rat)
    obtain ⟨c, hc⟩ := hd x hx
    have d := den_pos x
    have e1 : B / (x.den : Int) = c := by
      rw [hc]
      exact Int.mul_ediv_cancel_left _ (by (first | lia | omega))
    rw [e1, hc, Rat.intCast_mul, Rat.intCast_mul]
    have e := q_eq x
    have n := den_ne x
    have e3 : x = (x.num : Rat) / ((x.den : Int) : Rat) := e.symm
    generalize (x.num : Rat) = u at *
    generalize ((x.den : Int) : Rat) = v at *
    rw [e3]
    grind
noncomputable def sp_oob : Sp := fun vs H Q _ => ∃ a A, vs = [.ref a] ∧ Rw H a A ∧ A.length ≤ 13 ∧ (∀ q ∈ A, Bq 1300 q) ∧ ∀ r H', Same H H' → Fz H' r A → Q (.ref r) H'

noncomputable def sp_fracN : Sp := fun vs H Q _ => ∃ t b, vs = [.int t, .int b] ∧ b ≠ 0 ∧ Bt 8000 b ∧ ∀ r H', Same H H' → Pq H' r ((t : Rat) / (b : Rat)) → Q (.ref r) H'
theorem sc_fraction : FnScope ["top", "bottom", "shared"] ["top", "bottom"] (defScope s_fraction) := ⟨rfl, rfl, rfl, by decide +kernel, rfl, by decide +kernel, by decide +kernel⟩
theorem ok_fraction {dV : Value} (F : FunD K "fraction" "fraction" s_fraction dV f fd) (T : Txt mg) (C_is_whole : Cal P w K mg base "is_whole" 1 ["thing"] sp_whole) (C_divisor : Cal P w K mg base "divisor" 1 ["one", "other"] sp_div) : FnOk P w K mg base CX0 2 f fd ["top", "bottom"] sp_fracN := by
  refine okD F sc_fraction (fun vs H Q E h => ?_) (fun cdv A outer s H vs Q E hr h => ?_)
  · obtain ⟨t, b, rfl, _⟩ := h
    rfl
  obtain ⟨t, b, rfl, hb, bb, q⟩ := h
  have fin : ∀ x, x = sh t b → (x ≠ 0 ∧ Bt 9000 x) ∧ ∀ r, H r = none → Q (.ref r) (upd H r (.tup [.int (t.fdiv x), .int (b.fdiv x)])) := fun x e => by
    subst e
    obtain ⟨f1, e1⟩ := fr_ok (t := t) hb
    exact ⟨⟨sh_ne hb, (sh_bt hb bb).mono (by decide)⟩, fun r hr => q r _ (same_upd hr _) (Pq.of Pr.new (of_low f1 hb e1 rfl))⟩
  refine ⟨_, (pss_cons (ps_if (PW.pt (pw_or (pt_not (pt_val (pe_cl C_is_whole hr (pa_cons (pv 0) pa_nil)))) (pw_or1 (pt_not (pt_val (pe_cl C_is_whole hr (pa_cons (pv 1) pa_nil)))))))
        (pss_one ps_never)
        pss_nil)
      (pss_cons (ps_if (pt_cmpR op_eq (pv 1) pe_int (nomark _))
        (pss_one ps_never)
        pss_nil)
      (pss_cons (ps_set (i := 2) sc_fraction.nd rfl (Or.inl rfl) (pe_cl C_divisor hr (pa_cons (pv 0) (pa_cons (pv 1) pa_nil))))
      (pss_cons (ps_if (pt_cmpR op_lt (pv 1) pe_int (nomark _))
        (pss_one (ps_set (i := 2) sc_fraction.nd rfl (Or.inl rfl) (pe_un un_neg (pv 2))))
        pss_nil)
      (pss_one (ps_ret (pe_tup (pa_cons (pe_op op_fdA (pv 0) (pv 2)) (pa_cons (pe_op op_fdA (pv 1) (pv 2)) pa_nil))))))))), ?_⟩
  refine ⟨_, rfl, _, rfl, _, rfl, iteF ?_⟩
  refine ⟨_, rfl, _, rfl, _, rfl, iteF ?_⟩
  refine ⟨_, rfl, rfl, _, rfl, iteND (fun z => hb (V.int.inj z)) ?_⟩
  refine ⟨_, rfl, _, rfl, _, _, rfl, ?_⟩
  refine ⟨_, rfl, _, _, rfl, rfl, _, rfl, ?_⟩
  refine ite2 (fun c2 => ?_) (fun c2 => ?_)
  · have d2 : b < 0 := of_decide_eq_true c2
    obtain ⟨c3, q3⟩ := fin (-(g t b)) (by unfold sh; rw [if_pos d2])
    refine ⟨_, rfl, _, rfl, ?_⟩
    exact ⟨_, rfl, _, rfl, _, _, rfl, rfl, c3, _, rfl, _, rfl, _, _, rfl, rfl, c3, (by show 2 ≤ sizeLine; decide), q3⟩
  · have d2 : ¬ b < 0 := of_decide_eq_false (Bool.eq_false_iff.mpr c2)
    obtain ⟨c3, q3⟩ := fin (g t b) (by unfold sh; rw [if_neg d2])
    exact ⟨_, rfl, _, rfl, _, _, rfl, rfl, c3, _, rfl, _, rfl, _, _, rfl, rfl, c3, (by show 2 ≤ sizeLine; decide), q3⟩
theorem atI_lastZ {fs : List Int} (h : 0 < fs.length) : atI (fs.map V.int) (-1) = some (.int (fs.getD (fs.length - 1) 0)) := by
  rcases List.eq_nil_or_concat fs with z | ⟨L, x, z⟩
  · rw [z] at h; simp at h
  · rw [List.concat_eq_append] at z
    have e : fs.getD (fs.length - 1) 0 = x := by
      rw [z, List.length_append, List.length_singleton, Nat.add_sub_cancel, List.getD_eq_getElem?_getD, List.getElem?_append_right (Nat.le_refl _), Nat.sub_self]
      rfl
    rw [e, z, List.map_append]
    exact atI_last _ _
noncomputable def OvM (A : List Rat) : Prop := ∃ M : Int, M ≠ 0 ∧ Bt 1300 M ∧ ∀ q ∈ A, Po.Ov 1300 M q
noncomputable def sp_quot : Sp := fun vs H Q _ => ∃ (k : Nat) (p p' : Addr) (A B : List Rat), vs = [.int k, .ref p, .ref p'] ∧ Fz H p A ∧ Fz H p' B ∧ 0 < A.length ∧ 0 < B.length ∧ Po.lst B ≠ 0 ∧ OvM A ∧ OvM B ∧ ∀ r H', Same H H' → Pq H' r (if k % 2 = 0 then Po.lst A / Po.lst B else -(Po.lst A / Po.lst B)) → Q (.ref r) H'

noncomputable def sp_overN : Sp := fun vs H Q _ => ∃ p q x y, vs = [.ref p, .ref q] ∧ Pq H p x ∧ Pq H q y ∧ y ≠ 0 ∧ Bq 7000 x ∧ Bq 7000 y ∧ ∀ r H', Same H H' → Pq H' r (x / y) → Q (.ref r) H'
theorem sc_over : FnScope ["one", "other"] ["one", "other"] (defScope s_over) := ⟨rfl, rfl, rfl, by decide +kernel, rfl, by decide +kernel, by decide +kernel⟩
theorem ok_over (F : Fun K "over" "over" s_over f fd) (T : Txt mg) (C_times : Cal P w K mg base "times" 2 ["one", "other"] (sp_bin 8000 (· * ·))) (C_fraction_d0 : CalD P w K mg base "fraction" 2 ["top", "bottom"] [] [] sp_fracN) : FnOk P w K mg base CX0 3 f fd ["one", "other"] sp_overN := by
  refine F.ok sc_over (fun vs H Q E h => ?_) (fun cdv A outer s H vs Q E hr h => ?_)
  · obtain ⟨p, p', x, y, rfl, _⟩ := h
    rfl
  obtain ⟨p, p', x, y, rfl, kp, kq, hy, bx, by', q⟩ := h
  have hn : y.num ≠ 0 := fun z => hy (Rat.num_eq_zero.mp z)
  have e := q_eq y
  have n1 := den_ne y
  have n2 : (y.num : Rat) ≠ 0 := fun z => hn (Rat.intCast_eq_zero_iff.mp z)
  have ed : x * ((((y.den : Int)) : Rat) / (y.num : Rat)) = x / y := by
    have e' : y = (y.num : Rat) / ((y.den : Int) : Rat) := e.symm
    generalize (y.num : Rat) = u at *
    generalize ((y.den : Int) : Rat) = v at *
    rw [e']
    grind
  refine ⟨_, (pss_cons (ps_if (pt_cmpR op_eq (pe_ix ix_tup (pv 1) pe_int (fun _ _ => rfl)) pe_int (nomark _))
        (pss_one ps_never)
        pss_nil)
      (pss_one (ps_ret (pe_cl C_times hr (pa_cons (pv 0) (pa_cons (pe_clD C_fraction_d0 hr (pa_cons (pe_ix ix_tup (pv 1) pe_int (fun _ _ => rfl)) (pa_cons (pe_ix ix_tup (pv 1) pe_int (fun _ _ => rfl)) pa_nil))) pa_nil)))))), ?_⟩
  refine ⟨_, rfl, _, _, _, _, rfl, rfl, kq.sq, rfl, rfl, _, rfl, iteND (fun z => hn (V.int.inj z)) ?_⟩
  refine ⟨_, rfl, _, rfl, _, _, _, _, rfl, rfl, kq.sq, rfl, _, rfl, _, _, _, _, rfl, rfl, kq.sq, rfl, y.den, y.num, rfl, hn, by'.1.mono (by decide), fun r1 H1 s1 k1 => ?_⟩
  refine ⟨p, r1, _, _, rfl, kp.keep s1, k1, bx.mono (by decide), bq_of (T := y.den) (M := y.num) hn rfl (by'.2.mono (by decide)) (by'.1.mono (by decide)), fun r H2 s2 k2 => q r H2 (s1.trans s2) ?_⟩
  rw [← ed]
  exact k2

theorem pqs_rev {H : Hp} {ps : List Addr} {qs : List Rat} (h : Pqs H ps qs) : Pqs H ps.reverse qs.reverse := by
  induction h with
  | nil => exact .nil
  | cons x _ ih => rw [List.reverse_cons, List.reverse_cons]; exact ih.append (.cons x .nil)
noncomputable def sp_rest_less : Sp := fun vs H Q _ => ∃ a p b rs f qs, vs = [.ref a, .ref p, .ref b] ∧ Rw H a rs ∧ Pq H p f ∧ Rw H b qs ∧ qs.length ≤ rs.length ∧ 0 < qs.length ∧ rs.length ≤ 1000 ∧ (∀ q ∈ rs, Bq 3000 q) ∧ (∀ q ∈ qs, Bq 3000 q) ∧ Bq 3000 f ∧
  ∀ r H', Same H H' → H r = none → Rw H' r (Po.rless rs qs f) → Q (.ref r) H'
structure Dvb (ps qs : List Rat) : Prop where
  lp : ps.length ≤ 13
  lq : qs.length ≤ 13
  l0 : 0 < qs.length
  last : Po.lst qs ≠ 0
  top : ∃ M : Int, M ≠ 0 ∧ Bt 300 M ∧ ∀ q ∈ ps, Po.Ov 300 M q
  bot : ∃ D : Int, D ≠ 0 ∧ Bt 90 D ∧ ∀ q ∈ qs, Po.Ov 90 D q
noncomputable def sp_dividedN : Sp := fun vs H Q _ => ∃ a b ps qs, vs = [.ref a, .ref b] ∧ Rw H a ps ∧ Rw H b qs ∧ Dvb ps qs ∧ ∀ t q r H', Same H H' → H q = none → H r = none → q ≠ r → H' t = some (.tup [.ref q, .ref r]) → Rw H' q (Po.strip (Po.dv qs ps.length ps).1) → Rw H' r (Po.strip (Po.dv qs ps.length ps).2) → Q (.ref t) H'
theorem sc_rest_less : FnScope ["rest", "factor", "other", "start", "lower"] ["rest", "factor", "other"] (defScope s_rest_less) := ⟨rfl, rfl, rfl, by decide +kernel, rfl, by decide +kernel, by decide +kernel⟩
theorem ok_rest_less (F : Fun K "rest_less" "rest_less" s_rest_less f fd) (T : Txt mg) (C_times : Cal P w K mg base "times" 2 ["one", "other"] (sp_bin 8000 (· * ·))) (C_minus : Cal P w K mg base "minus" 3 ["one", "other"] (sp_bin 8000 (· - ·))) : FnOk P w K mg base CX0 4 f fd ["rest", "factor", "other"] sp_rest_less := by
  refine F.ok sc_rest_less (fun vs H Q E h => ?_) (fun cdv A outer s H vs Q E hr h => ?_)
  · obtain ⟨a, p, b, rs, f0, qs, rfl, _⟩ := h
    rfl
  obtain ⟨a, p, b, rs, f0, qs, rfl, ⟨pa, ea, ka⟩, kp, ⟨pb, eb, kb⟩, hle, h0, hmax, brs, bqs, bf, q⟩ := h
  have la := ka.length
  have lb := kb.length
  have hz : (10000 : Nat) < sizeLine := by decide
  refine ⟨_, (pss_cons (ps_set (i := 3) sc_rest_less.nd rfl (Or.inr rfl) (pe_op op_sub (pe_callB call_len_seq rfl T.z_len PySem.boot_len (pa_cons (pv 0) pa_nil)) (pe_callB call_len_seq rfl T.z_len PySem.boot_len (pa_cons (pv 2) pa_nil))))
      (pss_cons (ps_setComp (i := 4) sc_rest_less.nd rfl (Or.inl rfl) (N' := ["place", "rest", "factor", "start", "other"]) (fsc := defScope s_rest_less) (N := ["rest", "factor", "other", "start", "lower"]) [0, 1, 3, 2] ⟨rfl, by decide +kernel, by decide +kernel, by decide +kernel, rfl, by decide +kernel, rfl, by decide +kernel⟩ (pi_range1 rfl T.z_range (pa_cons (pe_op op_sub (pe_callB call_len_seq rfl T.z_len PySem.boot_len (pa_cons (pv 2) pa_nil)) pe_int) pa_nil)) (fun _ _ _ _ => (pe_cl C_minus hr (pa_cons (pe_ix ix_list (pv 1) (pe_op op_add (pv 3) (pv 0)) (fun _ _ => rfl)) (pa_cons (pe_cl C_times hr (pa_cons (pv 2) (pa_cons (pe_ix ix_list (pv 4) (pv 0) (fun _ _ => rfl)) pa_nil))) pa_nil)))))
      (pss_one (ps_ret (pe_op op_cat (pe_slice sl_list (pv 0) po_none (po_some (pv 3))) (pv 4)))))), ?_⟩
  refine ⟨_, rfl, _, _, rfl, .inl (SqL.of ea), _, rfl, _, _, rfl, .inl (SqL.of eb), _, _, rfl, rfl, ?_⟩
  obtain ⟨st, hst⟩ : ∃ st, st = rs.length - qs.length := ⟨_, rfl⟩
  have es : ((pa.map V.ref).length : Int) - ((pb.map V.ref).length : Int) = (st : Int) := by
    rw [List.length_map, List.length_map]; (first | lia | omega)
  refine ⟨_, rfl, _, _, rfl, .inl (SqL.of eb), _, _, rfl, rfl, _, rfl, ?_, ?_, comp_rangeQ ?_ (fun k => rs.getD (st + k) 0 - f0 * qs.getD k 0) ?_ fun H1 D s1 nD rwD => ?_⟩
  · rw [List.length_map]; (first | lia | omega)
  · rw [List.length_map]; (first | lia | omega)
  · rw [List.length_map]; (first | lia | omega)
  · intro _ _ _ _ i H1 R hi s1 fin
    rw [List.length_map, lb] at hi
    have hi2 : i < qs.length - 1 := by (first | lia | omega)
    have h1 : st + i < rs.length := by (first | lia | omega)
    have h2 : i < qs.length := by (first | lia | omega)
    obtain ⟨p1, e1, k1⟩ := ka.get (List.getElem?_eq_getElem h1)
    obtain ⟨p2, e2, k2⟩ := kb.get (List.getElem?_eq_getElem h2)
    have g1 : rs.getD (st + i) 0 = rs[st + i] := by rw [List.getD_eq_getElem?_getD, List.getElem?_eq_getElem h1]; rfl
    have g2 : qs.getD i 0 = qs[i] := by rw [List.getD_eq_getElem?_getD, List.getElem?_eq_getElem h2]; rfl
    have ei : atI (pa.map V.ref) (((pa.map V.ref).length : Int) - ((pb.map V.ref).length : Int) + (0 + (i : Int))) = some (.ref p1) := by
      rw [es, show (st : Int) + (0 + (i : Int)) = ((st + i : Nat) : Int) by (first | lia | omega)]
      exact atI_nat e1
    refine ⟨_, rfl, _, rfl, _, rfl, _, _, rfl, rfl, a, _, _, _, rfl, rfl, SqL.of (s1 _ _ ea), ei, ?_⟩
    refine ⟨_, rfl, _, rfl, _, rfl, b, _, _, _, rfl, rfl, SqL.of (s1 _ _ eb), atI_0 e2, p, p2, _, _, rfl, kp.keep s1, k2.keep s1, bf.mono (by decide), (bqs _ (List.getElem_mem h2)).mono (by decide), fun p3 H3 s3 k3 => ?_⟩
    refine ⟨p1, p3, _, _, rfl, (k1.keep s1).keep s3, k3, (brs _ (List.getElem_mem h1)).mono (by decide), (bf.mul (bqs _ (List.getElem_mem h2))).mono (by decide), fun p4 H4 s4 k4 => fin p4 H4 (s3.trans s4) ?_⟩
    rw [g1, g2]
    exact k4
  · have en : ((((pb.map V.ref).length : Nat) : Int) - 1).toNat = qs.length - 1 := by rw [List.length_map]; (first | lia | omega)
    rw [en] at rwD
    obtain ⟨pD, eD, kD⟩ := id rwD
    have lD := kD.length
    rw [List.length_map, List.length_range] at lD
    refine ⟨_, rfl, _, rfl, _, rfl, a, _, rfl, SqL.of (s1 _ _ ea), fun c hc => ?_⟩
    have s2 := same_upd hc (.lst (cutV (pa.map V.ref) none (some (((pa.map V.ref).length : Int) - ((pb.map V.ref).length : Int)))))
    have ec : cutV (pa.map V.ref) none (some (((pa.map V.ref).length : Int) - ((pb.map V.ref).length : Int))) = (pa.take st).map V.ref := by
      rw [es]
      exact cut_to V.ref pa st
    refine ⟨_, rfl, c, D, _, _, rfl, rfl, upd_same, s2 _ _ eD, ?_, fun r hr' => ?_⟩
    · rw [ec, List.length_map, List.length_map, List.length_take]; (first | lia | omega)
    have s3 := same_upd hr' (.lst (cutV (pa.map V.ref) none (some (((pa.map V.ref).length : Int) - ((pb.map V.ref).length : Int))) ++ pD.map V.ref))
    refine q r _ (s1.trans (s2.trans s3)) (s1.free (s2.free hr')) ⟨pa.take st ++ pD, by rw [upd_same, ec, List.map_append], ?_⟩
    unfold Po.rless
    rw [← hst]
    exact (((ka.take st).keep (s1.trans s2)).append (kD.keep s2)).keep s3
theorem sc_divided : FnScope ["one", "other", "rest", "quotient", "factor"] ["one", "other"] (defScope s_divided) := ⟨rfl, rfl, rfl, by decide +kernel, rfl, by decide +kernel, by decide +kernel⟩
theorem ok_divided (F : Fun K "divided" "divided" s_divided f fd) (T : Txt mg) (C_over : Cal P w K mg base "over" 3 ["one", "other"] sp_overN) (C_rest_less : Cal P w K mg base "rest_less" 4 ["rest", "factor", "other"] sp_rest_less) (C_poly : Cal P w K mg base "poly" 2 ["figures"] sp_stripQ) : FnOk P w K mg base CX0 5 f fd ["one", "other"] sp_dividedN := by
  refine F.ok sc_divided (fun vs H Q E h => ?_) (fun cdv A outer s H vs Q E hr h => ?_)
  · obtain ⟨a, b, ps, qs, rfl, _⟩ := h
    rfl
  obtain ⟨a, b, ps, qs, rfl, ⟨pa, ea, ka⟩, ⟨pb, eb, kb⟩, B, q⟩ := h
  have la := ka.length
  have lb := kb.length
  have hz : (10000 : Nat) < sizeLine := by decide
  refine ⟨_, (pss_cons (ps_if (pt_cmpR op_eq (pe_callB call_len_seq rfl T.z_len PySem.boot_len (pa_cons (pv 1) pa_nil)) pe_int (nomark _))
        (pss_one ps_never)
        pss_nil)
      (pss_cons (ps_set (i := 2) sc_divided.nd rfl (Or.inl rfl) (pe_callTy call_list_of rfl T.z_list boot_list (pa_cons (pv 0) pa_nil)))
      (pss_cons (ps_set (i := 3) sc_divided.nd rfl (Or.inl rfl) (pe_lst pa_nil))
      (pss_cons (ps_while PassesOwn.never (pt_cmpR op_ge (pe_callB call_len_seq rfl T.z_len PySem.boot_len (pa_cons (pv 2) pa_nil)) (pe_callB call_len_seq rfl T.z_len PySem.boot_len (pa_cons (pv 1) pa_nil)) (nomark _))
        (pss_cons (ps_set (i := 4) sc_divided.nd rfl (Or.inl rfl) (pe_cl C_over hr (pa_cons (pe_ix ix_list (pv 2) (pe_un un_neg pe_int) (fun _ _ => rfl)) (pa_cons (pe_ix ix_list (pv 1) (pe_un un_neg pe_int) (fun _ _ => rfl)) pa_nil))))
        (pss_cons (ps_expr (pe_bm PySem.F.plainAttrs_list PySem.F.slot_list_append PySem.F.type_list_append mt_append (pv 3) (pa_cons (pv 4) pa_nil)))
        (pss_one (ps_set (i := 2) sc_divided.nd rfl (Or.inl rfl) (pe_cl C_rest_less hr (pa_cons (pv 2) (pa_cons (pv 4) (pa_cons (pv 1) pa_nil)))))))))
      (pss_cons (ps_expr (pe_bm0 PySem.F.plainAttrs_list PySem.F.slot_list_reverse PySem.F.type_list_reverse mt_reverse (pv 3)))
      (pss_one (ps_ret (pe_tup (pa_cons (pe_cl C_poly hr (pa_cons (pv 3) pa_nil)) (pa_cons (pe_cl C_poly hr (pa_cons (pv 2) pa_nil)) pa_nil)))))))))), ?_⟩
  refine ⟨_, rfl, b, _, rfl, .inl (SqL.of eb), rfl, _, rfl, ?_⟩
  have hq0 : 0 < qs.length := B.l0
  refine iteND (fun z => by have := V.int.inj z; rw [List.length_map] at this; (first | lia | omega)) ?_
  obtain ⟨lp, lq, l0, hlast, ⟨M, hM, bM, ovM⟩, ⟨D0, hD0, bD0, ovD⟩⟩ := B
  obtain ⟨N, bN, eN⟩ := Po.getD_ov ovD (qs.length - 1)
  have eN' : Po.lst qs * (D0 : Rat) = (N : Rat) := eN
  have hN : N ≠ 0 := fun z => by
    rw [z] at eN'
    have n3 : (D0 : Rat) ≠ 0 := fun z => hD0 (Rat.intCast_eq_zero_iff.mp z)
    rcases Rat.mul_eq_zero.mp eN' with h | h
    · exact hlast h
    · exact n3 h
  have bqs : ∀ q ∈ qs, Bq 90 q := fun q hq => (ovD q hq).bq hD0 bD0
  refine ⟨_, rfl, a, _, rfl, .inl (SqL.of ea), fun r0 hr0 => ?_⟩
  have s1 := same_upd hr0 (.lst (pa.map V.ref))
  have rw0 : Rw (upd H r0 (.lst (pa.map V.ref))) r0 ps := ⟨pa, upd_same, ka.keep s1⟩
  refine ⟨(by show 0 ≤ sizeLine; decide), fun D hD => ?_⟩
  have s2 := same_upd hD (.lst [])
  have s12 := s1.trans s2
  have hDH : H D = none := s1.free hD
  refine ⟨fun m σ H' => ∃ rp rs as v, σ = [some (.ref a), some (.ref b), some (.ref rp), some (.ref D), v] ∧ Same H H' ∧ Rw H' D as ∧ Rw H' rp rs ∧ rp ≠ D ∧ H rp = none ∧ m = rs.length ∧ rs.length + as.length = ps.length ∧
      (Po.dv qs ps.length ps).1 = (Po.dv qs rs.length rs).1 ++ as.reverse ∧ (Po.dv qs ps.length ps).2 = (Po.dv qs rs.length rs).2 ∧ ∃ MM : Int, MM ≠ 0 ∧ Bt (300 + 91 * as.length) MM ∧ ∀ q ∈ rs, Po.Ov (300 + 91 * as.length) MM q,
    ⟨_, r0, ps, [], _, rfl, s12, ⟨[], upd_same, .nil⟩, rw0.keep s2, rw0.ne hD, hr0, rfl, by simp, by simp, rfl, M, hM, by simpa using bM, fun q hq => by simpa using ovM q hq⟩, ?_⟩
  rintro m σ H1 ⟨rp, rs, as, v, rfl, sm, rwD, rwr, nrD, hrp, rfl, hl, e1, e2, MM, hMM, bMM, ovr⟩
  obtain ⟨pr, er, kr⟩ := id rwr
  have lr := kr.length
  refine ⟨_, rfl, rp, _, rfl, .inl (SqL.of er), _, rfl, b, _, rfl, .inl (SqL.of (sm _ _ eb)), _, _, rfl, rfl, _, rfl, ?_⟩
  refine ite2 (fun c => ⟨fun σ' H' => ∃ m', m' < rs.length ∧ ∃ rp rs as v, σ' = [some (.ref a), some (.ref b), some (.ref rp), some (.ref D), v] ∧ Same H H' ∧ Rw H' D as ∧ Rw H' rp rs ∧ rp ≠ D ∧ H rp = none ∧ m' = rs.length ∧ rs.length + as.length = ps.length ∧
      (Po.dv qs ps.length ps).1 = (Po.dv qs rs.length rs).1 ++ as.reverse ∧ (Po.dv qs ps.length ps).2 = (Po.dv qs rs.length rs).2 ∧ ∃ MM : Int, MM ≠ 0 ∧ Bt (300 + 91 * as.length) MM ∧ ∀ q ∈ rs, Po.Ov (300 + 91 * as.length) MM q, fun _ _ h => h, ?_⟩) (fun c => ?_)
  · have c' : (((pb.map V.ref).length : Nat) : Int) ≤ (((pr.map V.ref).length : Nat) : Int) := of_decide_eq_true c
    rw [List.length_map, List.length_map] at c'
    have hle : qs.length ≤ rs.length := by (first | lia | omega)
    have hr1 : rs.length - 1 < rs.length := by (first | lia | omega)
    have hq1 : qs.length - 1 < qs.length := by (first | lia | omega)
    obtain ⟨p1, f1, k1⟩ := kr.get (List.getElem?_eq_getElem hr1)
    obtain ⟨p2, f2, k2⟩ := (kb.keep sm).get (List.getElem?_eq_getElem hq1)
    have g1 : rs[rs.length - 1] = Po.lst rs := by unfold Po.lst; rw [List.getD_eq_getElem?_getD, List.getElem?_eq_getElem hr1]; rfl
    have g2 : qs[qs.length - 1] = Po.lst qs := by unfold Po.lst; rw [List.getD_eq_getElem?_getD, List.getElem?_eq_getElem hq1]; rfl
    rw [g1] at k1
    rw [g2] at k2
    have neg : ∀ {ys : List Addr} {n : Nat} {x : V}, ys.length = n → 0 < n → (ys.map V.ref)[n - 1]? = some x → atI (ys.map V.ref) (-1) = some x := fun {ys n x} h1 h2 h3 => by
      unfold atI ixN
      rw [List.length_map, if_neg (by (first | lia | omega)), if_pos (by (first | lia | omega))]
      show (ys.map V.ref)[(-1 + (ys.length : Int)).toNat]? = some x
      rw [show (-1 + (ys.length : Int)).toNat = n - 1 by (first | lia | omega)]
      exact h3
    have brs : Bq (300 + 91 * as.length) (Po.lst rs) := (Po.getD_ov ovr _).bq hMM bMM
    have blq : Bq 90 (Po.lst qs) := by rw [← g2]; exact bqs _ (List.getElem_mem hq1)
    have zl : (Po.lst qs).num ≠ 0 := fun z => hlast (num_zero.mp z)
    refine ⟨_, rfl, _, rfl, rp, _, _, _, rfl, rfl, SqL.of er, neg lr (by (first | lia | omega)) f1, _, rfl, _, rfl, b, _, _, _, rfl, rfl, SqL.of (sm _ _ eb), neg lb (by (first | lia | omega)) f2, ?_⟩
    refine ⟨p1, p2, _, _, rfl, k1, k2, hlast, brs.mono (by (first | lia | omega)), blq.mono (by (first | lia | omega)), fun p3 H2 t3 kf => ?_⟩
    have ovf := Po.fac_ov (Po.getD_ov ovr (rs.length - 1)) hlast bD0 eN'
    have bmn := bMM.mul bN
    have hmn : MM * N ≠ 0 := Int.mul_ne_zero hMM hN
    have bf : Bq 3000 (Po.lst rs / Po.lst qs) := (Po.Ov.bq ovf hmn bmn).mono (by (first | lia | omega))
    obtain ⟨xs1, hx1, hxl⟩ := rwD.there
    obtain ⟨xs, hxs, hxl2, rwD2⟩ := rwD.app t3 kf
    refine ⟨_, rfl, .inl ⟨rfl, _, SqL.of (t3 _ _ hx1)⟩, _, rfl, D, xs, _, rfl, rfl, hxs, by (first | lia | omega), ?_⟩
    have rwr2 : Rw (upd H2 D (.lst (xs ++ [.ref p3]))) rp rs := (rwr.keep t3).updO hxs nrD
    have sm2 : Same H (upd H2 D (.lst (xs ++ [.ref p3]))) := same_updF (sm.trans t3) hDH _
    have kf2 : Pq (upd H2 D (.lst (xs ++ [.ref p3]))) p3 (Po.lst rs / Po.lst qs) := kf.updL hxs
    refine ⟨_, rfl, _, rfl, _, rfl, rp, p3, b, rs, _, qs, rfl, rwr2, kf2, ⟨pb, sm2 _ _ eb, kb.keep sm2⟩, hle, hq0, by (first | lia | omega), fun q hq => ((ovr q hq).bq hMM bMM).mono (by (first | lia | omega)), fun q hq => (bqs q hq).mono (by decide), bf, fun rp2 H3 t4 n4 rw4 => ?_⟩
    have lles := Po.rless_length (rs := rs) (Po.lst rs / Po.lst qs) hle hq0
    have ed : Po.dv qs rs.length rs = ((Po.dv qs (rs.length - 1) (Po.rless rs qs (Po.lst rs / Po.lst qs))).1 ++ [Po.lst rs / Po.lst qs], (Po.dv qs (rs.length - 1) (Po.rless rs qs (Po.lst rs / Po.lst qs))).2) := by
      obtain ⟨n, hn⟩ : ∃ n, rs.length = n + 1 := ⟨rs.length - 1, by (first | lia | omega)⟩
      rw [hn, Po.dv, if_neg (by (first | lia | omega))]
      rfl
    refine ⟨rs.length - 1, by (first | lia | omega), rp2, _, as ++ [Po.lst rs / Po.lst qs], _, rfl, sm2.trans t4, rwD2.keep t4, rw4, (fun z => by rw [z, upd_same] at n4; cases n4), sm2.free n4, lles.symm, by rw [lles, List.length_append, List.length_singleton]; (first | lia | omega), ?_, ?_, MM * N, hmn, ?_, ?_⟩
    · rw [e1, ed, lles, List.reverse_append]
      simp
    · rw [e2, ed, lles]
    · rw [List.length_append, List.length_singleton]
      exact bmn.mono (by (first | lia | omega))
    · rw [List.length_append, List.length_singleton]
      intro q hq
      exact (Po.rless_ov ovr ovD hlast bN eN' q hq).mono (by (first | lia | omega))
  · have c' : ¬ (((pb.map V.ref).length : Nat) : Int) ≤ (((pr.map V.ref).length : Nat) : Int) := of_decide_eq_false (Bool.eq_false_iff.mpr c)
    rw [List.length_map, List.length_map] at c'
    have hlt : rs.length < qs.length := by (first | lia | omega)
    rw [Po.dv_end _ hlt] at e1 e2
    obtain ⟨pD, eD, kD⟩ := id rwD
    refine ⟨_, rfl, .inl ⟨rfl, _, SqL.of eD⟩, D, _, rfl, rfl, eD, ?_⟩
    have rwD2 : Rw (upd H1 D (.lst (pD.map V.ref).reverse)) D as.reverse := ⟨pD.reverse, by rw [upd_same, List.map_reverse], (pqs_rev kD).updL eD⟩
    have rwr2 : Rw (upd H1 D (.lst (pD.map V.ref).reverse)) rp rs := rwr.updO eD nrD
    have sm2 : Same H (upd H1 D (.lst (pD.map V.ref).reverse)) := same_updF sm hDH _
    refine ⟨_, rfl, D, _, rfl, rwD2, by rw [List.length_reverse]; (first | lia | omega), fun q1 H3 t3 n3 rw3 => ⟨_, rfl, rp, _, rfl, rwr2.keep t3, by (first | lia | omega), fun r1 H4 t4 n4 rw4 => ⟨(by show 2 ≤ sizeLine; decide), fun t ht => ?_⟩⟩⟩
    have t5 := same_upd ht (.tup [.ref q1, .ref r1])
    have rw3' := rw3.keep (t4.trans t5)
    have rw4' := rw4.keep t5
    have e1' : (Po.dv qs ps.length ps).1 = as.reverse := e1
    have e2' : (Po.dv qs ps.length ps).2 = rs := e2
    rw [← e1'] at rw3'
    rw [← e2'] at rw4'
    exact q t q1 r1 _ (sm2.trans (t3.trans (t4.trans t5))) (sm2.free n3) (sm2.free (t3.free n4)) (rw3.ne n4) upd_same rw3' rw4'

noncomputable def sp_smm : Sp := fun vs H Q _ => ∃ x m most : Int, vs = [.int x, .int m, .int most] ∧ 1 < m ∧ 0 < most ∧ most < m ∧ Bt 4200 m ∧ ∀ r t rr H', Same H H' → Pr H' rr r t → Po.Sm (x % m) m most r t → Q (.ref rr) H'
noncomputable def sp_inv : Sp := fun vs H Q _ => ∃ x m : Int, vs = [.int x, .int m] ∧ 1 < m ∧ Bt 4200 m ∧ (Int.gcd x m ≠ 1 → ∀ H', Same H H' → Q .non H') ∧ (Int.gcd x m = 1 → ∀ i H', Same H H' → Bt 4200 i → m ∣ i * x - 1 → Q (.int i) H')
noncomputable def sp_fof : Sp := fun vs H Q _ => ∃ (x m most : Int) (q : Rat), vs = [.int x, .int m, .int most] ∧ 1 < m ∧ 0 < most ∧ most < m ∧ Bt 4200 m ∧ Po.Rp m x q ∧ (most + 1) * most * q.den + m * q.num.natAbs < m * (most + 1) ∧ (q.den : Int) ≤ most ∧ ∀ r H', Same H H' → Pq H' r q → Q (.ref r) H'
theorem SmI_bt {x m b bf r t : Int} (h : Po.SmI x m b bf r t) (k : Bt 4200 m) : Bt 4200 b ∧ Bt 4200 r ∧ Bt 4200 t := by
  obtain ⟨lo, hi, le, _, s, s', e, F, B, _, _, he, e3, _, hF, hB, e5, _⟩ := h
  have h1 : 0 ≤ B * r := Int.mul_nonneg hB lo
  have h2 : F * 1 ≤ F * b := Int.mul_le_mul_of_nonneg_left (by (first | lia | omega)) (by (first | lia | omega))
  refine ⟨k.of_le (by (first | lia | omega)), k.of_le (by (first | lia | omega)), k.of_le ?_⟩
  have ha : t.natAbs = F.natAbs := by rw [e3]; rcases he with rfl | rfl <;> simp
  (first | lia | omega)
theorem sc_small_multiple : FnScope ["number", "modulus", "most", "before", "before_factor", "rest", "factor", "fits", "next_rest", "next_factor"] ["number", "modulus", "most"] (defScope s_small_multiple) := ⟨rfl, rfl, rfl, by decide +kernel, rfl, by decide +kernel, by decide +kernel⟩
theorem ok_small_multiple (F : Fun K "small_multiple" "small_multiple" s_small_multiple f fd) (T : Txt mg) : FnOk P w K mg base CX0 1 f fd ["number", "modulus", "most"] sp_smm := by
  refine F.ok sc_small_multiple (fun vs H Q E h => ?_) (fun cdv A outer s H vs Q E hr h => ?_)
  · obtain ⟨x, m, most, rfl, _⟩ := h
    rfl
  obtain ⟨x, m, most, rfl, hm, h0, hmm, bm, q⟩ := h
  refine ⟨_, (pss_cons (ps_set (i := 3) sc_small_multiple.nd rfl (Or.inl rfl) (pv 1))
      (pss_cons (ps_set (i := 4) sc_small_multiple.nd rfl (Or.inl rfl) pe_int)
      (pss_cons (ps_set (i := 5) sc_small_multiple.nd rfl (Or.inl rfl) (pe_op op_mod (pv 0) (pv 1)))
      (pss_cons (ps_set (i := 6) sc_small_multiple.nd rfl (Or.inl rfl) pe_int)
      (pss_cons (ps_while PassesOwn.never (pt_cmpR op_gt (pv 5) (pv 2) (nomark _))
        (pss_cons (ps_set (i := 7) sc_small_multiple.nd rfl (Or.inl rfl) (pe_op op_fdP (pv 3) (pv 5)))
        (pss_cons (ps_set (i := 8) sc_small_multiple.nd rfl (Or.inl rfl) (pe_op op_sub (pv 3) (pe_op op_mulB (pv 7) (pv 5))))
        (pss_cons (ps_set (i := 9) sc_small_multiple.nd rfl (Or.inl rfl) (pe_op op_sub (pv 4) (pe_op op_mulB (pv 7) (pv 6))))
        (pss_cons (ps_set (i := 3) sc_small_multiple.nd rfl (Or.inl rfl) (pv 5))
        (pss_cons (ps_set (i := 4) sc_small_multiple.nd rfl (Or.inl rfl) (pv 6))
        (pss_cons (ps_set (i := 5) sc_small_multiple.nd rfl (Or.inl rfl) (pv 8))
        (pss_one (ps_set (i := 6) sc_small_multiple.nd rfl (Or.inl rfl) (pv 9))))))))))
      (pss_one (ps_ret (pe_tup (pa_cons (pv 5) (pa_cons (pv 6) pa_nil)))))))))), ?_⟩
  have hmp : 0 < m := by (first | lia | omega)
  refine ⟨_, rfl, _, rfl, _, rfl, _, _, rfl, rfl, hmp, ?_⟩
  refine ⟨fun n σ H' => H = H' ∧ ∃ (b bf r t : Int) (v7 v8 v9 : Option V), σ = [some (.int x), some (.int m), some (.int most), some (.int b), some (.int bf), some (.int r), some (.int t), v7, v8, v9] ∧ Po.SmI (x % m) m b bf r t ∧ most < b ∧ n = r.toNat,
    ⟨_, rfl, m, 0, x % m, 1, _, _, _, rfl, Po.SmI.start (Int.emod_nonneg _ (by (first | lia | omega))) (Int.emod_lt_of_pos _ hmp), hmm, rfl⟩, ?_⟩
  rintro n σ _ ⟨rfl, b, bf, r, t, v7, v8, v9, rfl, I, hb, rfl⟩
  obtain ⟨bb, br, bt⟩ := SmI_bt I bm
  refine ⟨_, rfl, _, rfl, _, _, rfl, rfl, _, rfl, ?_⟩
  refine ite2 (fun c => ⟨fun σ' H' => ∃ m', m' < r.toNat ∧ H = H' ∧ ∃ (b bf r t : Int) (v7 v8 v9 : Option V), σ' = [some (.int x), some (.int m), some (.int most), some (.int b), some (.int bf), some (.int r), some (.int t), v7, v8, v9] ∧ Po.SmI (x % m) m b bf r t ∧ most < b ∧ m' = r.toNat, fun _ _ h => h, ?_⟩) (fun c => ?_)
  · have c' : most < r := of_decide_eq_true c
    have hr0 : 0 < r := by (first | lia | omega)
    have I2 := I.step hr0
    refine ⟨_, rfl, _, rfl, _, _, rfl, rfl, ⟨hr0, br.mono (by decide)⟩, ?_⟩
    refine ⟨_, rfl, _, rfl, _, rfl, _, _, rfl, rfl, mul_of (bb.ediv) br (by decide), _, _, rfl, rfl, ?_⟩
    refine ⟨_, rfl, _, rfl, _, rfl, _, _, rfl, rfl, mul_of (bb.ediv) bt (by decide), _, _, rfl, rfl, ?_⟩
    refine ⟨_, rfl, _, rfl, _, rfl, _, rfl, _, ?_, rfl, _, _, _, _, _, _, _, rfl, I2, c', rfl⟩
    have := I2.lo
    have := I2.hi
    (first | lia | omega)
  · have c' : ¬ most < r := of_decide_eq_false (Bool.eq_false_iff.mpr c)
    exact ⟨_, rfl, _, rfl, (by show 2 ≤ sizeLine; decide), fun rr hrr => q r t rr _ (same_upd hrr _) Pr.new (I.fin (by (first | lia | omega)) hb)⟩
theorem sc_inverse : FnScope ["number", "modulus", "ended"] ["number", "modulus"] (defScope s_inverse) := ⟨rfl, rfl, rfl, by decide +kernel, rfl, by decide +kernel, by decide +kernel⟩
theorem ok_inverse (F : Fun K "inverse" "inverse" s_inverse f fd) (T : Txt mg) (C_small_multiple : Cal P w K mg base "small_multiple" 1 ["number", "modulus", "most"] sp_smm) : FnOk P w K mg base CX0 2 f fd ["number", "modulus"] sp_inv := by
  refine F.ok sc_inverse (fun vs H Q E h => ?_) (fun cdv A outer s H vs Q E hr h => ?_)
  · obtain ⟨x, m, rfl, _⟩ := h
    rfl
  obtain ⟨x, m, rfl, hm, bm, k0, k1⟩ := h
  refine ⟨_, (pss_cons (ps_set (i := 2) sc_inverse.nd rfl (Or.inl rfl) (pe_cl C_small_multiple hr (pa_cons (pv 0) (pa_cons (pv 1) (pa_cons pe_int pa_nil)))))
      (pss_cons (ps_if (pt_cmpR op_ne (pe_ix ix_tup (pv 2) pe_int (fun _ _ => rfl)) pe_int (nomark _))
        (pss_one (ps_ret pe_non))
        pss_nil)
      (pss_one (ps_ret (pe_ix ix_tup (pv 2) pe_int (fun _ _ => rfl)))))), ?_⟩
  refine ⟨_, rfl, _, rfl, x, m, 1, rfl, hm, by decide, hm, bm, fun r t rr H1 s1 e1 sm => ?_⟩
  have hc : Int.gcd (x % m) m = Int.gcd x m := by
    rw [Int.gcd_comm, Int.gcd_comm x m]
    have e : x % m = x + (-(x / m)) * m := by have := Int.mul_ediv_add_emod x m; rw [Int.neg_mul, Int.mul_comm (x / m)]; (first | lia | omega)
    rw [e, Int.gcd_comm, Int.gcd_add_mul_right_left, Int.gcd_comm]
  obtain ⟨i1, i2⟩ := sm.inverse hm
  refine ⟨_, rfl, _, _, _, _, rfl, rfl, e1.sq, rfl, rfl, _, rfl, ?_⟩
  by_cases hr1 : r = 1
  · refine iteNB (decide_eq_true (congrArg V.int hr1)) ?_
    refine ⟨_, rfl, _, _, _, _, rfl, rfl, e1.sq, rfl, k1 (by rw [← hc]; exact i1.mp hr1) t H1 s1 ?_ ?_⟩
    · have tb := sm.tb
      refine bm.of_le (Nat.le_trans (Nat.le_mul_of_pos_right _ (Nat.succ_pos _)) tb)
    · obtain ⟨k, hk⟩ := i2 hr1
      have e := Int.mul_ediv_add_emod x m
      exact ⟨k + t * (x / m), by grind⟩
  · refine iteSS (fun z => hr1 (V.int.inj z)) ?_
    exact k0 (by rw [← hc]; exact fun z => hr1 (i1.mpr z)) H1 s1
theorem sc_fraction_of : FnScope ["residue", "modulus", "most", "ended"] ["residue", "modulus", "most"] (defScope s_fraction_of) := ⟨rfl, rfl, rfl, by decide +kernel, rfl, by decide +kernel, by decide +kernel⟩
theorem ok_fraction_of (F : Fun K "fraction_of" "fraction_of" s_fraction_of f fd) (T : Txt mg) (C_small_multiple : Cal P w K mg base "small_multiple" 1 ["number", "modulus", "most"] sp_smm) (C_fraction_d0 : CalD P w K mg base "fraction" 2 ["top", "bottom"] [] [] sp_fracN) : FnOk P w K mg base CX0 3 f fd ["residue", "modulus", "most"] sp_fof := by
  refine F.ok sc_fraction_of (fun vs H Q E h => ?_) (fun cdv A outer s H vs Q E hr h => ?_)
  · obtain ⟨x, m, most, y, rfl, _⟩ := h
    rfl
  obtain ⟨x, m, most, y, rfl, hm, h0, hmm, bm, rp, hb, hd, q⟩ := h
  refine ⟨_, (pss_cons (ps_set (i := 3) sc_fraction_of.nd rfl (Or.inl rfl) (pe_cl C_small_multiple hr (pa_cons (pv 0) (pa_cons (pv 1) (pa_cons (pv 2) pa_nil)))))
      (pss_cons (ps_if (pt_cmpR op_gt (pe_callB call_abs rfl T.z_abs boot_abs (pa_cons (pe_ix ix_tup (pv 3) pe_int (fun _ _ => rfl)) pa_nil)) (pv 2) (nomark _))
        (pss_one (ps_ret pe_non))
        pss_nil)
      (pss_one (ps_ret (pe_clD C_fraction_d0 hr (pa_cons (pe_ix ix_tup (pv 3) pe_int (fun _ _ => rfl)) (pa_cons (pe_ix ix_tup (pv 3) pe_int (fun _ _ => rfl)) pa_nil))))))), ?_⟩
  refine ⟨_, rfl, _, rfl, _, rfl, x, m, most, rfl, hm, h0, hmm, bm, fun r t rr H1 s1 e1 sm => ?_⟩
  have ex : x % m = x := Int.emod_eq_of_lt rp.lo rp.hi
  rw [ex] at sm
  obtain ⟨t0, ta, eq⟩ := sm.found rp (by (first | lia | omega)) h0 hb
  have ht : ¬ most < (if t < 0 then -t else t) := by split <;> (first | lia | omega)
  have bt : Bt 8000 t := by
    refine (bm.of_le ?_).mono (by decide)
    (first | lia | omega)
  refine ⟨_, rfl, _, _, _, _, rfl, rfl, e1.sq, rfl, _, rfl, _, rfl, _, _, rfl, rfl, _, rfl, iteND ht ?_⟩
  refine ⟨_, rfl, _, _, _, _, rfl, rfl, e1.sq, rfl, _, rfl, _, _, _, _, rfl, rfl, e1.sq, rfl, r, t, rfl, t0, bt, fun r2 H2 s2 k2 => q r2 H2 (s1.trans s2) ?_⟩
  rw [eq]
  exact k2
noncomputable def sp_mrow : Sp := fun vs H Q _ => ∃ (a : Addr) (fs : List Int) (p : List Rat) (m : Int), vs = [.ref a, .int m] ∧ Iz H a fs ∧ Po.Rl (Po.Rc m) fs p ∧ fs.length ≤ 100 ∧ (∀ f ∈ fs, Bt 4200 f) ∧ 1 < m ∧ Bt 4200 m ∧ (p ≠ [] → Po.lst p ≠ 0) ∧
  (p ≠ [] → Int.gcd (Po.lst p).num m ≠ 1 → ∀ H', Same H H' → Q .non H') ∧ ((p ≠ [] → Int.gcd (Po.lst p).num m = 1) → ∀ r gs H', Same H H' → H r = none → Iz H' r gs → Po.Rl (Po.Rp m) gs (Po.mon p) → Q (.ref r) H')
theorem sc_monic_row : FnScope ["row", "modulus", "factor"] ["row", "modulus"] (defScope s_monic_row) := ⟨rfl, rfl, rfl, by decide +kernel, rfl, by decide +kernel, by decide +kernel⟩
theorem ok_monic_row (F : Fun K "monic_row" "monic_row" s_monic_row f fd) (T : Txt mg) (C_inverse : Cal P w K mg base "inverse" 2 ["number", "modulus"] sp_inv) : FnOk P w K mg base CX0 3 f fd ["row", "modulus"] sp_mrow := by
  refine F.ok sc_monic_row (fun vs H Q E h => ?_) (fun cdv A outer s H vs Q E hr h => ?_)
  · obtain ⟨a, fs, p, m, rfl, _⟩ := h
    rfl
  obtain ⟨a, fs, p, m, rfl, ea, rl, hl, bf, hm, bm, hne, k0, k1⟩ := h
  have hz : (1000 : Nat) < sizeLine := by decide
  have lm : (fs.map V.int).length = fs.length := List.length_map _
  refine ⟨_, (pss_cons (ps_if (pt_cmpR op_eq (pe_callB call_len_seq rfl T.z_len PySem.boot_len (pa_cons (pv 0) pa_nil)) pe_int (nomark _))
        (pss_one (ps_ret (pe_lst pa_nil)))
        pss_nil)
      (pss_cons (ps_set (i := 2) sc_monic_row.nd rfl (Or.inr rfl) (pe_cl C_inverse hr (pa_cons (pe_ix ix_list (pv 0) (pe_un un_neg pe_int) (fun _ _ => rfl)) (pa_cons (pv 1) pa_nil))))
      (pss_cons (ps_if (pt_cmpR op_isN (pv 2) pe_non (nomark _))
        (pss_one (ps_ret pe_non))
        pss_nil)
      (pss_one (ps_ret (pe_comp (N' := ["figure", "modulus", "factor"]) (fsc := defScope s_monic_row) (N := ["row", "modulus", "factor"]) [1, 2] ⟨rfl, by decide +kernel, by decide +kernel, by decide +kernel, rfl, by decide +kernel, rfl, by decide +kernel⟩ (pi_list (pv 0)) (fun _ _ _ _ => (pe_op op_mod (pe_op op_mulB (pv 0) (pv 2)) (pv 1))))))))), ?_⟩
  refine ⟨_, rfl, a, _, rfl, .inl (SqL.of ea), rfl, _, rfl, ?_⟩
  refine ite2 (fun c => ?_) (fun c => ?_)
  · have z : (((fs.map V.int).length : Nat) : Int) = 0 := V.int.inj (of_decide_eq_true c)
    rw [lm] at z
    have hp : p = [] := List.eq_nil_of_length_eq_zero (by have := rl.len; (first | lia | omega))
    refine ⟨(by show 0 ≤ sizeLine; decide), fun r hr' => k1 (fun z => absurd hp z) r [] _ (same_upd hr' _) hr' upd_same ?_⟩
    rw [hp]
    exact ⟨rfl, fun i hi => absurd hi (Nat.not_lt_zero _)⟩
  have z : ¬ (((fs.map V.int).length : Nat) : Int) = 0 := fun z => of_decide_eq_false (Bool.eq_false_iff.mpr c) (congrArg V.int z)
  rw [lm] at z
  have hp : p ≠ [] := fun y => by
    have := rl.len
    rw [y] at this
    have : ([] : List Rat).length = 0 := rfl
    (first | lia | omega)
  have h0 : 0 < fs.length := by (first | lia | omega)
  have rlast := rl.last hp
  have hlast : Po.lst p ≠ 0 := hne hp
  have hcop := Po.rc_cop rlast
  have fin : ∀ (i : Int) (H1 : Hp), Same H H1 → Int.gcd (Po.lst p).num m = 1 → Bt 4200 i → m ∣ i * fs.getD (fs.length - 1) 0 - 1 → ∀ r H2, Same H1 H2 → H1 r = none → H2 r = some (.lst ((fs.map fun x => x * i % m).map V.int)) → Q (.ref r) H2 := fun i H1 s1 hg bi hi r H2 s2 n2 e2 =>
    k1 (fun _ => hg) r _ H2 (s1.trans s2) (s1.free n2) e2 (rl.map fun x q rx => Po.rp_mod (by (first | lia | omega)) (Po.rc_quot rx rlast hlast hi hg))
  refine ⟨_, rfl, _, rfl, a, _, _, _, rfl, rfl, SqL.of ea, atI_lastZ h0, _, rfl, _, m, rfl, hm, bm, fun hg H1 s1 => ?_, fun hg i H1 s1 bi hi => ?_⟩
  · exact ⟨_, rfl, rfl, _, rfl, iteD rfl (k0 hp (fun z => hg (hcop.mpr z)) H1 s1)⟩
  · refine ⟨_, rfl, rfl, _, rfl, iteND (fun z => by cases z) ?_⟩
    refine ⟨_, rfl, a, rfl, ⟨_, SqL.of (s1 _ _ ea)⟩, comp_intsI (ns := fs) (by (first | lia | omega)) (s1 _ _ ea) (fun x => x * i % m) ?_ fun H2 D s2 nD eD => fin i H1 s1 (hcop.mp hg) bi hi D H2 s2 nD eD⟩
    intro _ _ _ _ x H2 R hx fn
    exact ⟨_, rfl, _, rfl, _, _, rfl, rfl, mul_of (bf x hx) bi (by decide), _, rfl, _, _, rfl, rfl, (by show (0 : Int) < m; (first | lia | omega)), fn⟩
noncomputable def sp_rby : Sp := fun vs H Q _ => ∃ (a b : Addr) (fs gs : List Int) (u v : List Rat) (m : Int), vs = [.ref a, .ref b, .int m] ∧ Iz H a fs ∧ Iz H b gs ∧ Po.Rl (Po.Rp m) fs u ∧ Po.Rl (Po.Rp m) gs v ∧ Po.lst v = 1 ∧ fs.length ≤ 100 ∧ gs.length ≤ 100 ∧ 1 < m ∧ Bt 4200 m ∧ (Po.rm u v = [] ∨ ((Po.lst (Po.rm u v)).num.natAbs : Int) < m) ∧
  ∀ r hs H', Same H H' → H r = none → Iz H' r hs → hs.length ≤ 100 → Po.Rl (Po.Rp m) hs (Po.rm u v) → Q (.ref r) H'
theorem atI_natZ {fs : List Int} {i : Nat} (h : i < fs.length) : atI (fs.map V.int) (i : Int) = some (.int (fs.getD i 0)) := by
  refine atI_nat ?_
  rw [List.getElem?_map, List.getElem?_eq_getElem h, List.getD_eq_getElem?_getD, List.getElem?_eq_getElem h]
  rfl
theorem ixN_nat {n i : Nat} (h : i < n) : ixN n (i : Int) = some i := by
  unfold ixN
  rw [if_pos (by (first | lia | omega))]
  first | rfl | (rw [if_pos (by (first | lia | omega))]; rfl)
theorem rp_bt {m r : Int} {q : Rat} (h : Po.Rp m r q) (b : Bt 4200 m) : Bt 4200 r := b.of_le (by have := h.lo; have := h.hi; (first | lia | omega))
theorem sc_rest_by : FnScope ["row", "monic", "modulus", "rest", "factor", "start", "place"] ["row", "monic", "modulus"] (defScope s_rest_by) := ⟨rfl, rfl, rfl, by decide +kernel, rfl, by decide +kernel, by decide +kernel⟩
set_option maxHeartbeats 1000000 in
theorem ok_rest_by (F : Fun K "rest_by" "rest_by" s_rest_by f fd) (T : Txt mg) : FnOk P w K mg base CX0 1 f fd ["row", "monic", "modulus"] sp_rby := by
  refine F.ok sc_rest_by (fun vs H Q E h => ?_) (fun cdv A outer s H vs Q E hr h => ?_)
  · obtain ⟨a, b, fs, gs, u, v, m, rfl, _⟩ := h
    rfl
  obtain ⟨a, b, fs, gs, u, v, m, rfl, ea, eb, ru, rv, hv, l1, l2, hm, bm, hsm, q⟩ := h
  have hz : (1000 : Nat) < sizeLine := by decide
  have hv0 : Po.lst v ≠ 0 := by rw [hv]; exact Po.one_nz
  have hvl := Po.len_of_lst hv0
  have lgv := rv.len
  have lfu := ru.len
  refine ⟨_, (pss_cons (ps_set (i := 3) sc_rest_by.nd rfl (Or.inl rfl) (pe_callTy call_list_of rfl T.z_list boot_list (pa_cons (pv 0) pa_nil)))
      (pss_cons (ps_while PassesOwn.never (pt_cmpR op_ge (pe_callB call_len_seq rfl T.z_len PySem.boot_len (pa_cons (pv 3) pa_nil)) (pe_callB call_len_seq rfl T.z_len PySem.boot_len (pa_cons (pv 1) pa_nil)) (nomark _))
        (pss_cons (ps_set (i := 4) sc_rest_by.nd rfl (Or.inl rfl) (pe_bm0 PySem.F.plainAttrs_list PySem.F.slot_list_pop PySem.F.type_list_pop mt_pop (pv 3)))
        (pss_cons (ps_set (i := 5) sc_rest_by.nd rfl (Or.inl rfl) (pe_op op_sub (pe_op op_add (pe_callB call_len_seq rfl T.z_len PySem.boot_len (pa_cons (pv 3) pa_nil)) pe_int) (pe_callB call_len_seq rfl T.z_len PySem.boot_len (pa_cons (pv 1) pa_nil))))
        (pss_one (ps_for PassesOwn.never rfl (pi_range1 rfl T.z_range (pa_cons (pe_op op_sub (pe_callB call_len_seq rfl T.z_len PySem.boot_len (pa_cons (pv 1) pa_nil)) pe_int) pa_nil)) (pg_name (i := 6) sc_rest_by.nd rfl (Or.inl rfl))
          (pss_one (ps_asg (pe_op op_mod (pe_op op_sub (pe_ix ix_list (pv 3) (pe_op op_add (pv 5) (pv 6)) (fun _ _ => rfl)) (pe_op op_mulB (pv 4) (pe_ix ix_list (pv 1) (pv 6) (fun _ _ => rfl)))) (pv 2)) (pg_sub (pv 3) (pe_op op_add (pv 5) (pv 6)) set_list))))))))
      (pss_cons (ps_while PassesOwn.never (PW.pt (pw_and (pt_cmpR op_gt (pe_callB call_len_seq rfl T.z_len PySem.boot_len (pa_cons (pv 3) pa_nil)) pe_int (nomark _)) (pw_and1 (pt_cmpR op_eq (pe_ix ix_list (pv 3) (pe_un un_neg pe_int) (fun _ _ => rfl)) pe_int (nomark _)))))
        (pss_one (ps_expr (pe_bm0 PySem.F.plainAttrs_list PySem.F.slot_list_pop PySem.F.type_list_pop mt_pop (pv 3)))))
      (pss_one (ps_ret (pv 3)))))), ?_⟩
  refine ⟨_, rfl, a, _, rfl, .inl (SqL.of ea), fun D hD => ?_⟩
  have u0 := same_upd hD (.lst (fs.map V.int))
  refine ⟨fun n σ H' => ∃ (v4 v5 v6 : Option V) (hs : List Int) (rs : List Rat), σ = [some (.ref a), some (.ref b), some (.int m), some (.ref D), v4, v5, v6] ∧ Same H H' ∧ Iz H' D hs ∧ Po.Rl (Po.Rp m) hs rs ∧ hs.length ≤ 100 ∧ n = rs.length ∧ (Po.dv v u.length u).2 = (Po.dv v rs.length rs).2,
    ⟨_, _, _, _, fs, u, rfl, u0, upd_same, ru, l1, rfl, rfl⟩, ?_⟩
  rintro n σ H1 ⟨v4, v5, v6, hs, rs, rfl, s1, e1, r1, l3, rfl, ed⟩
  have lh := r1.len
  have lmh : (hs.map V.int).length = hs.length := List.length_map _
  have lmg : (gs.map V.int).length = gs.length := List.length_map _
  refine ⟨_, rfl, D, _, rfl, .inl (SqL.of e1), _, rfl, b, _, rfl, .inl (SqL.of (s1 _ _ eb)), _, _, rfl, rfl, _, rfl, ?_⟩
  refine ite2 (fun c => ⟨fun σ' H' => ∃ n', n' < rs.length ∧ ∃ (v4 v5 v6 : Option V) (hs : List Int) (rs : List Rat), σ' = [some (.ref a), some (.ref b), some (.int m), some (.ref D), v4, v5, v6] ∧ Same H H' ∧ Iz H' D hs ∧ Po.Rl (Po.Rp m) hs rs ∧ hs.length ≤ 100 ∧ n' = rs.length ∧ (Po.dv v u.length u).2 = (Po.dv v rs.length rs).2, fun _ _ h => h, ?_⟩) (fun c => ?_)
  · have c' : (((gs.map V.int).length : Nat) : Int) ≤ (((hs.map V.int).length : Nat) : Int) := of_decide_eq_true c
    rw [lmh, lmg] at c'
    have hle : v.length ≤ rs.length := by (first | lia | omega)
    have hne : rs ≠ [] := fun z => by rw [z] at hle; have : ([] : List Rat).length = 0 := rfl; (first | lia | omega)
    have rl := r1.last hne
    have hlast : (hs.map V.int)[(hs.map V.int).length - 1]? = some (.int (hs.getD (hs.length - 1) 0)) := by
      rw [lmh, List.getElem?_map, List.getD_eq_getElem?_getD, List.getElem?_eq_getElem (by (first | lia | omega))]
      rfl
    generalize hfac : hs.getD (hs.length - 1) 0 = fac at *
    have bfac : Bt 4200 fac := rp_bt rl bm
    refine ⟨_, rfl, .inl ⟨rfl, _, SqL.of e1⟩, D, _, _, rfl, rfl, e1, hlast, ?_⟩
    have e2 : upd H1 D (.lst (hs.map V.int).dropLast) D = some (.lst (hs.dropLast.map V.int)) := by rw [upd_same, List.map_dropLast]
    have s2 : Same H (upd H1 D (.lst (hs.map V.int).dropLast)) := same_updF s1 hD _
    generalize upd H1 D (.lst (hs.map V.int).dropLast) = H2 at *
    have ldl : (hs.dropLast.map V.int).length = rs.length - 1 := by rw [List.length_map, List.length_dropLast]; (first | lia | omega)
    refine ⟨_, rfl, D, _, rfl, .inl (SqL.of e2), _, _, rfl, rfl, _, rfl, b, _, rfl, .inl (SqL.of (s2 _ _ eb)), _, _, rfl, rfl, ?_⟩
    obtain ⟨st, hst⟩ : ∃ st, st = rs.length - v.length := ⟨_, rfl⟩
    have est : ((((hs.dropLast.map V.int).length : Nat) : Int) + 1 - (((gs.map V.int).length : Nat) : Int)) = (st : Int) := by rw [ldl, lmg]; (first | lia | omega)
    refine ⟨_, rfl, b, _, rfl, .inl (SqL.of (s2 _ _ eb)), _, _, rfl, rfl, _, rfl, by (first | lia | omega), by (first | lia | omega), ?_⟩
    have en : ((((gs.map V.int).length : Nat) : Int) - 1).toNat = v.length - 1 := by rw [lmg]; (first | lia | omega)
    rw [en]
    refine for_range (n := v.length - 1) (fun i σ H' => (∃ (z : Int) (v6 : Option V), z = (st : Int) ∧ σ = [some (.ref a), some (.ref b), some (.int m), some (.ref D), some (.int fac), some (.int z), v6]) ∧ Same H H' ∧ ∃ ks, Iz H' D ks ∧ Po.Rl (Po.Rp m) ks (Po.Lw rs v st i)) ⟨⟨_, _, est, rfl⟩, s2, _, e2, r1.drop⟩ ?_ ?_
    · rintro i σ H3 hi ⟨⟨_, v6, rfl, rfl⟩, s3, ks, e3, r3⟩
      have lk := r3.len
      rw [Po.Lw_len] at lk
      have hat : st + i < ks.length := by (first | lia | omega)
      have hig : i < gs.length := by (first | lia | omega)
      have rk := r3.at' (st + i) (by rw [Po.Lw_len]; (first | lia | omega))
      rw [Po.Lw_at _ _ _ _ (by (first | lia | omega)) _ (by (first | lia | omega)), if_neg (by (first | lia | omega))] at rk
      have rg := rv.at' i (by (first | lia | omega))
      have ei : ((st : Int) + (0 + (i : Int))) = ((st + i : Nat) : Int) := by (first | lia | omega)
      refine ⟨_, rfl, _, rfl, _, rfl, _, _, rfl, rfl, D, _, _, _, rfl, rfl, SqL.of e3, by rw [ei]; exact atI_natZ hat, ?_⟩
      refine ⟨_, rfl, _, rfl, _, rfl, b, _, _, _, rfl, rfl, SqL.of (s3 _ _ eb), by rw [Int.zero_add]; exact atI_natZ hig, _, _, rfl, rfl, mul_of bfac (rp_bt rg bm) (by decide), _, _, rfl, rfl, ?_⟩
      refine ⟨_, rfl, _, _, rfl, rfl, (by show (0 : Int) < m; (first | lia | omega)), ?_⟩
      refine ⟨_, rfl, _, rfl, _, rfl, _, _, rfl, rfl, D, _, _, st + i, rfl, rfl, e3, by rw [ei, List.length_map]; exact ixN_nat hat, ⟨_, _, rfl, rfl⟩, same_updF s3 hD _, _, by unfold Iz; rw [upd_same, ← List.map_set], ?_⟩
      exact r3.set (by rw [Po.Lw_len]; (first | lia | omega)) (Po.rp_mod (by (first | lia | omega)) (Po.rc_less rk.c rl.c rg.c))
    · rintro σ H3 ⟨⟨z', v6, hz', rfl⟩, s3, ks, e3, r3⟩
      rw [hst, Po.Lw_end hle hvl] at r3
      have lk := r3.len
      rw [Po.rless_length _ hle hvl] at lk
      exact ⟨rs.length - 1, by (first | lia | omega), _, _, _, ks, _, rfl, s3, e3, r3, by (first | lia | omega), (Po.rless_length _ hle hvl).symm, by rw [ed]; exact Po.dv_next hle hvl hv⟩
  · have c' : ¬ (((gs.map V.int).length : Nat) : Int) ≤ (((hs.map V.int).length : Nat) : Int) := of_decide_eq_false (Bool.eq_false_iff.mpr c)
    rw [lmh, lmg] at c'
    have hlt : rs.length < v.length := by (first | lia | omega)
    rw [Po.dv_end _ hlt] at ed
    have er : Po.rm u v = Po.strip rs := by unfold Po.rm; rw [ed]
    refine ⟨fun n σ' H' => σ' = [some (.ref a), some (.ref b), some (.int m), some (.ref D), v4, v5, v6] ∧ Same H H' ∧ ∃ ks zs, Iz H' D ks ∧ Po.Rl (Po.Rp m) ks zs ∧ ks.length ≤ 100 ∧ zs.length = n ∧ Po.strip zs = Po.strip rs, ⟨_, rfl, s1, hs, rs, e1, r1, l3, rfl, rfl⟩, ?_⟩
    rintro n σ H2 ⟨rfl, s2, ks, zs, e2, r2, l4, rfl, es⟩
    have lk := r2.len
    have lmk : (ks.map V.int).length = ks.length := List.length_map _
    have fin : Po.strip zs = zs → Q (.ref D) H2 := fun e => q D ks H2 s2 hD e2 l4 (by rw [er, ← es, e]; exact r2)
    refine ⟨_, rfl, _, _, rfl, .inl (SqL.of e2), _, _, rfl, rfl, _, rfl, ite2 (fun c => ?_) (fun c => ?_)⟩
    · have c' : (0 : Int) < (((ks.map V.int).length : Nat) : Int) := of_decide_eq_true c
      rw [lmk] at c'
      have hne : zs ≠ [] := fun z => by rw [z] at lk; have : ([] : List Rat).length = 0 := rfl; (first | lia | omega)
      have rl := r2.last hne
      refine ⟨_, rfl, _, rfl, D, _, _, _, rfl, rfl, SqL.of e2, atI_lastZ (by (first | lia | omega)), rfl, _, rfl, ?_⟩
      refine ite2 (fun c2 => ⟨fun σ' H' => ∃ n', n' < zs.length ∧ σ' = [some (.ref a), some (.ref b), some (.int m), some (.ref D), v4, v5, v6] ∧ Same H H' ∧ ∃ ks zs, Iz H' D ks ∧ Po.Rl (Po.Rp m) ks zs ∧ ks.length ≤ 100 ∧ zs.length = n' ∧ Po.strip zs = Po.strip rs, fun _ _ h => h, ?_⟩) (fun c2 => ?_)
      · have z : ks.getD (ks.length - 1) 0 = 0 := V.int.inj (of_decide_eq_true c2)
        have hl0 : Po.lst zs = 0 := by
          refine Classical.byContradiction fun hn => ?_
          have e3 : Po.rm u v = zs := by rw [er, ← es]; exact Po.strip_of_lst hn
          rw [e3] at hsm
          exact Po.rp_nz rl hn (hsm.resolve_left hne) z
        have hlast : (ks.map V.int)[(ks.map V.int).length - 1]? = some (.int (ks.getD (ks.length - 1) 0)) := by
          rw [lmk, List.getElem?_map, List.getD_eq_getElem?_getD, List.getElem?_eq_getElem (by (first | lia | omega))]
          rfl
        exact ⟨_, rfl, .inl ⟨rfl, _, SqL.of e2⟩, D, _, _, rfl, rfl, e2, hlast, zs.length - 1, by (first | lia | omega), rfl, same_updF s2 hD _, ks.dropLast, zs.dropLast, by unfold Iz; rw [upd_same, List.map_dropLast], r2.drop, by rw [List.length_dropLast]; (first | lia | omega), List.length_dropLast, by rw [Po.strip_drop hne hl0]; exact es⟩
      · have z : ks.getD (ks.length - 1) 0 ≠ 0 := fun z => of_decide_eq_false (Bool.eq_false_iff.mpr c2) (congrArg V.int z)
        refine ⟨_, rfl, fin (Po.strip_of_lst fun y => z ?_)⟩
        rw [y] at rl
        exact Po.rp_zero rl
    · have c' : ¬ (0 : Int) < (((ks.map V.int).length : Nat) : Int) := of_decide_eq_false (Bool.eq_false_iff.mpr c)
      rw [lmk] at c'
      refine iteF ⟨_, rfl, fin ?_⟩
      rw [List.eq_nil_of_length_eq_zero (show zs.length = 0 by (first | lia | omega))]
      rfl
noncomputable def Rx (m : Int) (H : Hp) (v : V) (p : List Rat) : Prop := ∃ a fs, v = .ref a ∧ Iz H a fs ∧ Po.Rl (Po.Rp m) fs p ∧ fs.length ≤ 100
theorem Rx.keep {m : Int} {H H' : Hp} {v : V} {p : List Rat} (h : Rx m H v p) (s : Same H H') : Rx m H' v p := by
  obtain ⟨a, fs, e, i, r⟩ := h
  exact ⟨a, fs, e, s _ _ i, r⟩
noncomputable def sp_crow : Sp := fun vs H Q _ => ∃ (x y : V) (m : Int), vs = [x, y, .int m] ∧ 2 ^ 60 < m ∧ Bt 4200 m ∧ (((x = .non ∨ y = .non) ∧ ∀ H', Same H H' → Q .non H') ∨
  ∃ (u v h : List Rat) (N : Nat), Rx m H x u ∧ Rx m H y v ∧ Po.Eg u v h N ∧ (Int.gcd N m ≠ 1 → ∀ H', Same H H' → Q .non H') ∧ (Int.gcd N m = 1 → ∀ r H', Same H H' → Rx m H' (.ref r) h → Q (.ref r) H'))
theorem gcd_mul1 {a b : Nat} {m : Int} : Int.gcd ((a * b : Nat) : Int) m = 1 ↔ Int.gcd (a : Int) m = 1 ∧ Int.gcd (b : Int) m = 1 := by
  have e : ∀ n : Nat, Int.gcd (n : Int) m = Nat.gcd n m.natAbs := fun n => rfl
  rw [e, e, e]
  exact Nat.coprime_mul_iff_left
theorem gcd_abs (x m : Int) : Int.gcd ((x.natAbs : Nat) : Int) m = Int.gcd x m := rfl
theorem gcd_one1 (m : Int) : Int.gcd ((1 : Nat) : Int) m = 1 := Int.one_gcd
theorem sc_common_row : FnScope ["first", "second", "modulus", "rest"] ["first", "second", "modulus"] (defScope s_common_row) := ⟨rfl, rfl, rfl, by decide +kernel, rfl, by decide +kernel, by decide +kernel⟩
theorem ok_common_row (F : Fun K "common_row" "common_row" s_common_row f fd) (T : Txt mg) (C_monic_row : Cal P w K mg base "monic_row" 3 ["row", "modulus"] sp_mrow) (C_rest_by : Cal P w K mg base "rest_by" 1 ["row", "monic", "modulus"] sp_rby) : FnOk P w K mg base CX0 4 f fd ["first", "second", "modulus"] sp_crow := by
  refine F.ok sc_common_row (fun vs H Q E h => ?_) (fun cdv A outer s H vs Q E hr h => ?_)
  · obtain ⟨x, y, m, rfl, _⟩ := h
    rfl
  obtain ⟨x, y, m, rfl, hm, bm, h⟩ := h
  have hm1 : 1 < m := by (first | lia | omega)
  refine ⟨_, (pss_cons (ps_while PassesOwn.never (PW.pt (pw_and (pt_cmpR op_notN (pv 0) pe_non (nomark _)) (pw_and (pt_cmpR op_notN (pv 1) pe_non (nomark _)) (pw_and1 (pt_cmpR op_gt (pe_callB call_len_seq rfl T.z_len PySem.boot_len (pa_cons (pv 1) pa_nil)) pe_int (nomark _))))))
        (pss_cons (ps_set (i := 3) sc_common_row.nd rfl (Or.inl rfl) (pe_cl C_monic_row hr (pa_cons (pe_cl C_rest_by hr (pa_cons (pv 0) (pa_cons (pv 1) (pa_cons (pv 2) pa_nil)))) (pa_cons (pv 2) pa_nil))))
        (pss_cons (ps_set (i := 0) sc_common_row.nd rfl (Or.inl rfl) (pv 1))
        (pss_one (ps_set (i := 1) sc_common_row.nd rfl (Or.inl rfl) (pv 3))))))
      (pss_cons (ps_if (pt_cmpR op_isN (pv 1) pe_non (nomark _))
        (pss_one (ps_ret pe_non))
        pss_nil)
      (pss_one (ps_ret (pv 0))))), ?_⟩
  rcases h with ⟨hn, q⟩ | ⟨u, v, h, N, rx, ry, eg, q0, q1⟩
  · refine ⟨fun n σ H' => σ = [some x, some y, some (.int m), none] ∧ H = H', ⟨0, rfl, rfl⟩, ?_⟩
    rintro n σ _ ⟨rfl, rfl⟩
    refine ⟨_, rfl, rfl, _, rfl, ?_⟩
    by_cases hx : x = .non
    · refine iteNB (decide_eq_true hx) (iteF ?_)
      refine ⟨_, rfl, rfl, _, rfl, ?_⟩
      by_cases hy : y = .non
      · exact iteD hy (q H (Same.refl _))
      · refine iteND hy ⟨_, rfl, ?_⟩
        rw [hx]
        exact q H (Same.refl _)
    · have hy : y = .non := hn.resolve_left hx
      refine iteSS hx ⟨_, rfl, rfl, _, rfl, iteNB (decide_eq_true hy) (iteF ?_)⟩
      exact ⟨_, rfl, rfl, _, rfl, iteD hy (q H (Same.refl _))⟩
  · refine ⟨fun n σ H' => ∃ (x y : V) (v3 : Option V), σ = [some x, some y, some (.int m), v3] ∧ Same H H' ∧ ((y = .non ∧ Int.gcd N m ≠ 1 ∧ n = 0 ∧ ∃ b, x = .ref b) ∨
      ∃ (u v : List Rat) (N' : Nat), Rx m H' x u ∧ Rx m H' y v ∧ Po.Eg u v h N' ∧ (Int.gcd N' m = 1 ↔ Int.gcd N m = 1) ∧ n = v.length + 1), ⟨_, x, y, _, rfl, Same.refl _, .inr ⟨u, v, N, rx, ry, eg, Iff.rfl, rfl⟩⟩, ?_⟩
    clear rx ry eg
    rintro n σ H1 ⟨x, y, v3, rfl, s1, c | ⟨u, v, N', rx, ry, eg, eN, rfl⟩⟩
    · obtain ⟨rfl, hg, _, b, rfl⟩ := c
      refine ⟨_, rfl, rfl, _, rfl, iteSS (fun z => by cases z) ⟨_, rfl, rfl, _, rfl, iteNB (decide_eq_true rfl) (iteF ?_)⟩⟩
      exact ⟨_, rfl, rfl, _, rfl, iteD rfl (q0 hg H1 s1)⟩
    · obtain ⟨a, fs, rfl, ea, ra, la⟩ := id rx
      obtain ⟨b, gs, rfl, eb, rb, lb⟩ := id ry
      have lmg : (gs.map V.int).length = gs.length := List.length_map _
      have lgv := rb.len
      refine ⟨_, rfl, rfl, _, rfl, iteSS (fun z => by cases z) ⟨_, rfl, rfl, _, rfl, iteSS (fun z => by cases z) ?_⟩⟩
      refine ⟨_, rfl, b, _, rfl, .inl (SqL.of eb), _, _, rfl, rfl, _, rfl, ?_⟩
      cases eg with
      | done _ =>
        have hl : gs.length = 0 := lgv
        refine iteND (by rw [lmg]; (first | lia | omega)) ?_
        refine ⟨_, rfl, rfl, _, rfl, iteND (fun z => by cases z) ⟨_, rfl, ?_⟩⟩
        exact q1 (eN.mp (gcd_one1 m)) a H1 s1 rx
      | @more _ _ _ N2 hv hb eg2 =>
        have hv0 : Po.lst v ≠ 0 := by rw [hv]; exact Po.one_nz
        have hvl := Po.len_of_lst hv0
        refine iteD (by rw [lmg]; (first | lia | omega)) ?_
        have hsm : Po.rm u v = [] ∨ ((Po.lst (Po.rm u v)).num.natAbs : Int) < m := hb.imp id fun z => by (first | lia | omega)
        have hrl := Po.rm_len (f := u) hvl hv0
        refine ⟨fun σ' H' => ∃ n', n' < v.length + 1 ∧ ∃ (x y : V) (v3 : Option V), σ' = [some x, some y, some (.int m), v3] ∧ Same H H' ∧ ((y = .non ∧ Int.gcd N m ≠ 1 ∧ n' = 0 ∧ ∃ b, x = .ref b) ∨
          ∃ (u v : List Rat) (N' : Nat), Rx m H' x u ∧ Rx m H' y v ∧ Po.Eg u v h N' ∧ (Int.gcd N' m = 1 ↔ Int.gcd N m = 1) ∧ n' = v.length + 1), fun _ _ h => h, ?_⟩
        refine ⟨_, rfl, _, rfl, _, rfl, a, b, fs, gs, u, v, m, rfl, ea, eb, ra, rb, hv, la, lb, hm1, bm, hsm, fun r hs H2 s2 n2 e2 l2 r2 => ?_⟩
        refine ⟨_, rfl, r, hs, Po.rm u v, m, rfl, e2, r2.imp fun _ _ z => z.c, l2, fun f hf => ?_, hm1, bm, Po.lst_ne (Po.rm_strip u v), fun hn hg H3 s3 => ?_, fun hg r3 ks H3 s3 n3 e3 k3 => ?_⟩
        · obtain ⟨i, hi, rfl⟩ := List.mem_iff_getElem.mp hf
          have := r2.at' i (by rw [← r2.len]; exact hi)
          rw [List.getD_eq_getElem?_getD, List.getElem?_eq_getElem hi] at this
          exact rp_bt this bm
        · refine ⟨_, rfl, _, rfl, 0, by (first | lia | omega), .ref b, .non, _, rfl, s1.trans (s2.trans s3), .inl ⟨rfl, fun z => ?_, rfl, b, rfl⟩⟩
          rw [← eN, if_neg hn, gcd_mul1, gcd_abs] at z
          exact hg z.1
        · refine ⟨_, rfl, _, rfl, (Po.mon (Po.rm u v)).length + 1, by rw [Po.mon_len]; (first | lia | omega), .ref b, .ref r3, _, rfl, s1.trans (s2.trans s3), .inr ⟨v, Po.mon (Po.rm u v), N2, ry.keep (s2.trans s3), ⟨r3, ks, rfl, e3, k3, ?_⟩, eg2, ?_, rfl⟩⟩
          · have := k3.len
            rw [Po.mon_len] at this
            (first | lia | omega)
          · rw [← eN, gcd_mul1]
            by_cases hn : Po.rm u v = []
            · rw [if_pos hn]
              exact ⟨fun z => ⟨gcd_one1 m, z⟩, fun z => z.2⟩
            · rw [if_neg hn, gcd_abs]
              exact ⟨fun z => ⟨hg hn, z⟩, fun z => z.2⟩
noncomputable def lastI (fs : List Int) : Int := fs.getD (fs.length - 1) 0
theorem lst_cq (fs : List Int) : Po.lst (cq fs) = ((lastI fs : Int) : Rat) := by
  unfold Po.lst lastI cq
  rw [List.length_map, List.getD_eq_getElem?_getD, List.getElem?_map, List.getD_eq_getElem?_getD]
  cases fs[fs.length - 1]? with
  | none => rfl
  | some x => rfl
theorem rl_cq (m : Int) (fs : List Int) : Po.Rl (Po.Rc m) fs (cq fs) := by
  refine ⟨(cq_length fs).symm, fun i hi => ?_⟩
  rw [cq_length] at hi
  unfold cq
  rw [List.getD_eq_getElem?_getD, List.getElem?_eq_getElem hi, List.getD_eq_getElem?_getD, List.getElem?_map, List.getElem?_eq_getElem hi]
  exact Po.rc_int m _
structure Ng (fs gs : List Int) (h : List Rat) (N : Nat) : Prop where
  eg : Po.Eg (Po.mon (cq fs)) (Po.mon (cq gs)) h N
  n1 : lastI fs ≠ 0
  n2 : lastI gs ≠ 0
  l1 : fs.length ≤ 100
  l2 : gs.length ≤ 100
  b1 : ∀ f ∈ fs, Bt 100 f
  b2 : ∀ f ∈ gs, Bt 100 f
  hs : ∀ q ∈ h, q.num.natAbs ≤ 2700 ∧ q.den ≤ 900
  hl : h.length ≤ 100
noncomputable def Nt (fs gs : List Int) (N : Nat) : Nat := (lastI fs).natAbs * ((lastI gs).natAbs * N)
noncomputable def sp_cguess : Sp := fun vs H Q _ => ∃ (a b : Addr) (fs gs : List Int) (h : List Rat) (N j : Nat), vs = [.ref a, .ref b, .int (Po.rt j)] ∧ j < 7 ∧ Iz H a fs ∧ Iz H b gs ∧ Ng fs gs h N ∧
  (Nat.gcd (Nt fs gs N) (Po.md j) ≠ 1 → ∀ H', Same H H' → Q .non H') ∧ (Nat.gcd (Nt fs gs N) (Po.md j) = 1 → ∀ r H', Same H H' → H r = none → Rw H' r h → Q (.ref r) H')
theorem bt_nat {n k : Nat} (h : k < 2 ^ n) : Bt n (k : Int) := h
theorem rt_bt {j : Nat} (h : j < 7) : Bt 2049 (Po.rt j : Int) := bt_nat (Nat.lt_of_le_of_lt (Po.rt_le h) (Nat.pow_lt_pow_right (by decide) (by decide)))
theorem md_bt {j : Nat} (h : j < 7) : Bt 4200 (Po.md j : Int) := by
  have h1 := Po.rt_le h
  unfold Po.md
  refine bt_nat ?_
  have h2 : Po.rt j * Po.rt j ≤ 2 ^ 2048 * 2 ^ 2048 := Nat.mul_le_mul h1 h1
  rw [← Nat.pow_add] at h2
  have h3 : 2 ^ (2048 + 2048) < 2 ^ 4097 := Nat.pow_lt_pow_right (by decide) (by decide)
  have h4 : 2 ^ 4097 < 2 ^ 4200 := Nat.pow_lt_pow_right (by decide) (by decide)
  generalize (2 : Nat) ^ (2048 + 2048) = x1 at *
  generalize (2 : Nat) ^ 4097 = x2 at *
  generalize (2 : Nat) ^ 4200 = x3 at *
  (first | lia | omega)
theorem cop3 {a b N m : Nat} : Nat.gcd (a * (b * N)) m = 1 ↔ Nat.gcd a m = 1 ∧ Nat.gcd b m = 1 ∧ Nat.gcd N m = 1 := by
  have h1 : Nat.Coprime (a * (b * N)) m ↔ Nat.Coprime a m ∧ Nat.Coprime (b * N) m := Nat.coprime_mul_iff_left
  have h2 : Nat.Coprime (b * N) m ↔ Nat.Coprime b m ∧ Nat.Coprime N m := Nat.coprime_mul_iff_left
  exact h1.trans (and_congr Iff.rfl h2)
theorem getD_memR {p : List Rat} {i : Nat} (h : i < p.length) : p.getD i 0 ∈ p := by
  rw [List.getD_eq_getElem?_getD, List.getElem?_eq_getElem h]
  exact List.getElem_mem h
theorem Pqs.tups {H : Hp} {ps : List Addr} {qs : List Rat} (h : Pqs H ps qs) : ∀ r ∈ ps, ∃ xs, H r = some (.tup xs) := by
  induction h with
  | nil => exact fun r hr => by cases hr
  | cons x _ ih =>
    intro r hr
    rcases List.mem_cons.mp hr with rfl | hr
    · exact ⟨_, x⟩
    · exact ih r hr
theorem sc_common_guess : FnScope ["one", "other", "root", "modulus", "row", "figures"] ["one", "other", "root"] (defScope s_common_guess) := ⟨rfl, rfl, rfl, by decide +kernel, rfl, by decide +kernel, by decide +kernel⟩
set_option maxHeartbeats 1000000 in
theorem ok_common_guess (F : Fun K "common_guess" "common_guess" s_common_guess f fd) (T : Txt mg) (C_monic_row : Cal P w K mg base "monic_row" 3 ["row", "modulus"] sp_mrow) (C_common_row : Cal P w K mg base "common_row" 4 ["first", "second", "modulus"] sp_crow) (C_fraction_of : Cal P w K mg base "fraction_of" 3 ["residue", "modulus", "most"] sp_fof) : FnOk P w K mg base CX0 5 f fd ["one", "other", "root"] sp_cguess := by
  refine F.ok sc_common_guess (fun vs H Q E h => ?_) (fun cdv A outer s H vs Q E hr h => ?_)
  · obtain ⟨a, b, fs, gs, h, N, j, rfl, _⟩ := h
    rfl
  obtain ⟨a, b, fs, gs, h, N, j, rfl, hj, ea, eb, ng, q0, q1⟩ := h
  refine ⟨_, (pss_cons (ps_set (i := 3) sc_common_guess.nd rfl (Or.inr rfl) (pe_op op_add (pe_op op_mulB (pv 2) (pv 2)) pe_int))
      (pss_cons (ps_set (i := 4) sc_common_guess.nd rfl (Or.inl rfl) (pe_cl C_common_row hr (pa_cons (pe_cl C_monic_row hr (pa_cons (pv 0) (pa_cons (pv 3) pa_nil))) (pa_cons (pe_cl C_monic_row hr (pa_cons (pv 1) (pa_cons (pv 3) pa_nil))) (pa_cons (pv 3) pa_nil)))))
      (pss_cons (ps_if (pt_cmpR op_isN (pv 4) pe_non (nomark _))
        (pss_one (ps_ret pe_non))
        pss_nil)
      (pss_cons (ps_setComp (i := 5) sc_common_guess.nd rfl (Or.inl rfl) (N' := ["residue", "modulus", "root"]) (fsc := defScope s_common_guess) (N := ["one", "other", "root", "modulus", "row", "figures"]) [3, 2] ⟨rfl, by decide +kernel, by decide +kernel, by decide +kernel, rfl, by decide +kernel, rfl, by decide +kernel⟩ (pi_list (pv 4)) (fun _ _ _ _ => (pe_cl C_fraction_of hr (pa_cons (pv 0) (pa_cons (pv 1) (pa_cons (pe_op op_fdP (pv 2) (pe_op op_pow pe_int pe_int)) pa_nil))))))
      (pss_cons (ps_if (pt_cmpR (op_inN hr.units) pe_non (pv 5) (by with_unfolding_all rfl))
        (pss_one (ps_ret pe_non))
        pss_nil)
      (pss_one (ps_ret (pv 5)))))))), ?_⟩
  refine ⟨_, rfl, _, rfl, _, _, rfl, rfl, mul_of (rt_bt hj) (rt_bt hj) (by decide), _, _, rfl, rfl, ?_⟩
  have em : ((Po.rt j : Int) * (Po.rt j : Int) + 1) = (Po.md j : Int) := by unfold Po.md; push_cast; rfl
  obtain ⟨m, hm⟩ : ∃ m : Int, m = (Po.rt j : Int) * (Po.rt j : Int) + 1 := ⟨_, rfl⟩
  have hmm := hm.trans em
  have bm : Bt 4200 m := by rw [hmm]; exact md_bt hj
  obtain ⟨k, ek, hk⟩ := Po.rt_ge j
  have hbig : 2 ^ 60 < m := by
    rw [hmm]
    have : Po.md j = 1048576 * (k * k) + 1 := by
      unfold Po.md
      rw [ek]
      have : 1024 * k * (1024 * k) = 1048576 * (k * k) := by grind
      (first | lia | omega)
    have h2 : 4194304 * 4194304 ≤ k * k := Nat.mul_le_mul hk hk
    (first | lia | omega)
  have hm1 : 1 < m := by (first | lia | omega)
  have gm : ∀ x : Int, Int.gcd x m = Nat.gcd x.natAbs (Po.md j) := fun x => by rw [hmm]; rfl
  have c1 : (cq fs ≠ [] → Po.lst (cq fs) ≠ 0) := fun _ => by rw [lst_cq]; exact Po.int_nz ng.n1
  have c2 : (cq gs ≠ [] → Po.lst (cq gs) ≠ 0) := fun _ => by rw [lst_cq]; exact Po.int_nz ng.n2
  have e1 : (Po.lst (cq fs)).num = lastI fs := by rw [lst_cq]; rfl
  have e2 : (Po.lst (cq gs)).num = lastI gs := by rw [lst_cq]; rfl
  -- the answer of common_row, whatever it is
  have tailN : ∀ H3, Same H H3 → Nat.gcd (Nt fs gs N) (Po.md j) ≠ 1 → Q .non H3 := fun H3 s3 hg => q0 hg H3 s3
  have nonN : ∀ {x : Int}, (x = lastI fs ∨ x = lastI gs) → Int.gcd x m ≠ 1 → Nat.gcd (Nt fs gs N) (Po.md j) ≠ 1 := fun {x} hx hg z => by
    unfold Nt at z
    rw [cop3] at z
    rw [gm] at hg
    rcases hx with rfl | rfl
    · exact hg z.1
    · exact hg z.2.1
  refine ⟨_, rfl, _, rfl, a, fs, cq fs, m, by rw [hm]; rfl, ea, rl_cq m fs, ng.l1, fun f hf => (ng.b1 f hf).mono (by decide), hm1, bm, c1, fun _ hg H1 s1 => ?_, fun hg r1 us H1 s1 n1 i1 k1 => ?_⟩
  · rw [e1] at hg
    have hN := nonN (.inl rfl) hg
    refine ⟨_, rfl, _, rfl, b, gs, cq gs, m, by rw [hm]; rfl, s1 _ _ eb, rl_cq m gs, ng.l2, fun f hf => (ng.b2 f hf).mono (by decide), hm1, bm, c2, fun _ _ H2 s2 => ?_, fun _ r2 us2 H2 s2 n2 i2 k2 => ?_⟩
    · refine ⟨_, rfl, _, _, m, by rw [hm]; rfl, hbig, bm, .inl ⟨.inl rfl, fun H3 s3 => ?_⟩⟩
      exact ⟨_, rfl, rfl, _, rfl, iteD rfl (tailN H3 (s1.trans (s2.trans s3)) hN)⟩
    · refine ⟨_, rfl, _, _, m, by rw [hm]; rfl, hbig, bm, .inl ⟨.inl rfl, fun H3 s3 => ?_⟩⟩
      exact ⟨_, rfl, rfl, _, rfl, iteD rfl (tailN H3 (s1.trans (s2.trans s3)) hN)⟩
  refine ⟨_, rfl, _, rfl, b, gs, cq gs, m, by rw [hm]; rfl, s1 _ _ eb, rl_cq m gs, ng.l2, fun f hf => (ng.b2 f hf).mono (by decide), hm1, bm, c2, fun _ hg2 H2 s2 => ?_, fun hg2 r2 us2 H2 s2 n2 i2 k2 => ?_⟩
  · rw [e2] at hg2
    have hN := nonN (.inr rfl) hg2
    refine ⟨_, rfl, _, _, m, by rw [hm]; rfl, hbig, bm, .inl ⟨.inr rfl, fun H3 s3 => ?_⟩⟩
    exact ⟨_, rfl, rfl, _, rfl, iteD rfl (tailN H3 (s1.trans (s2.trans s3)) hN)⟩
  have ne1 : cq fs ≠ [] := fun z => ng.n1 (by have := congrArg List.length z; rw [cq_length] at this; rw [List.eq_nil_of_length_eq_zero this]; rfl)
  have ne2 : cq gs ≠ [] := fun z => ng.n2 (by have := congrArg List.length z; rw [cq_length] at this; rw [List.eq_nil_of_length_eq_zero this]; rfl)
  have g1 := hg ne1
  have g2 := hg2 ne2
  rw [e1, gm] at g1
  rw [e2, gm] at g2
  have lus : us.length ≤ 100 := by rw [k1.len, Po.mon_len, cq_length]; exact ng.l1
  have lus2 : us2.length ≤ 100 := by rw [k2.len, Po.mon_len, cq_length]; exact ng.l2
  refine ⟨_, rfl, _, _, m, by rw [hm]; rfl, hbig, bm, .inr ⟨_, _, h, N, ⟨r1, us, rfl, s2 _ _ i1, k1, lus⟩, ⟨r2, us2, rfl, i2, k2, lus2⟩, ng.eg, fun hN H3 s3 => ?_, fun hN r H3 s3 rx => ?_⟩⟩
  · refine ⟨_, rfl, rfl, _, rfl, iteD rfl (tailN H3 (s1.trans (s2.trans s3)) ?_)⟩
    rw [gm] at hN
    exact fun z => hN (cop3.mp z).2.2
  · rw [gm] at hN
    have hT : Nat.gcd (Nt fs gs N) (Po.md j) = 1 := by
      unfold Nt
      rw [cop3]
      exact ⟨g1, g2, hN⟩
    obtain ⟨_, ts, e, it, rt, lt⟩ := rx
    cases e
    refine ⟨_, rfl, rfl, _, rfl, iteND (fun z => by cases z) ?_⟩
    have s123 := s1.trans (s2.trans s3)
    have lth := rt.len
    have ek2 : ((Po.rt j : Int) / (2 ^ Int.toNat 10)) = (k : Int) := by
      rw [ek]
      show ((1024 * k : Nat) : Int) / (2 ^ 10) = k
      push_cast
      exact Int.mul_ediv_cancel_left _ (by decide)
    refine ⟨_, rfl, r, rfl, ⟨_, SqL.of it⟩, comp_intsL (ns := ts) (qs := h) (by (first | lia | omega)) lth it ?_ fun H4 D s4 nD rD => ?_⟩
    · intro _ _ _ _ i H4 R hi s4 fin
      have hh := ng.hs _ (getD_memR hi)
      have room := Po.md_room (den := (h.getD i 0).den) (num := (h.getD i 0).num.natAbs) ek hk hh.2 hh.1
      refine ⟨_, rfl, _, rfl, _, rfl, _, _, rfl, rfl, (⟨by decide, by decide, by decide⟩ : CPow _ _), _, _, rfl, rfl, ⟨by decide, bt2 (by decide +kernel)⟩, ?_⟩
      refine ⟨ts.getD i 0, m, (k : Int), h.getD i 0, by rw [hm, ← ek2]; rfl, hm1, by (first | lia | omega), ?_, bm, rt.at' i hi, ?_, by (first | lia | omega), fun r5 H5 s5 k5 => fin r5 H5 s5 k5⟩
      · rw [hmm]
        unfold Po.md
        rw [ek]
        have : 1024 * k * (1024 * k) = 1048576 * (k * k) := by grind
        have h2 : 4194304 * k ≤ k * k := Nat.mul_le_mul_right _ hk
        (first | lia | omega)
      · rw [hmm]
        have : (((k + 1) * k * (h.getD i 0).den + Po.md j * (h.getD i 0).num.natAbs : Nat) : Int) < ((Po.md j * (k + 1) : Nat) : Int) := by (first | lia | omega)
        push_cast at this
        exact this
    · obtain ⟨ps, eD, kD⟩ := id rD
      refine ⟨_, rfl, D, ps, rfl, rfl, eD, Pqs.tups kD, _, rfl, iteF ⟨_, rfl, q1 hT D H4 (s123.trans s4) (s123.free nD) rD⟩⟩

noncomputable def sp_divs : Sp := fun vs H Q _ => ∃ a b ps qs, vs = [.ref b, .ref a] ∧ Rw H a ps ∧ Rw H b qs ∧ Dvb ps qs ∧ Po.rm ps qs = [] ∧ ∀ H', Same H H' → Q (.bl true) H'
theorem sc_divides : FnScope ["part", "one"] ["part", "one"] (defScope s_divides) := ⟨rfl, rfl, rfl, by decide +kernel, rfl, by decide +kernel, by decide +kernel⟩
theorem ok_divides (F : Fun K "divides" "divides" s_divides f fd) (T : Txt mg) (C_divided : Cal P w K mg base "divided" 5 ["one", "other"] sp_dividedN) : FnOk P w K mg base CX0 6 f fd ["part", "one"] sp_divs := by
  refine F.ok sc_divides (fun vs H Q E h => ?_) (fun cdv A outer s H vs Q E hr h => ?_)
  · obtain ⟨a, b, ps, qs, rfl, _⟩ := h
    rfl
  obtain ⟨a, b, ps, qs, rfl, ra, rb, dv, hn, q⟩ := h
  refine ⟨_, (pss_one (ps_ret (pe_cmpR op_eq (pe_callB call_len_seq rfl T.z_len PySem.boot_len (pa_cons (pe_ix ix_tup (pe_cl C_divided hr (pa_cons (pv 1) (pa_cons (pv 0) pa_nil))) pe_int (fun _ _ => rfl)) pa_nil)) pe_int (nomark _)))), ?_⟩
  refine ⟨_, rfl, _, rfl, a, b, ps, qs, rfl, ra, rb, dv, fun t q1 r1 H1 s1 _ _ _ et _ rr => ?_⟩
  have rr' : Rw H1 r1 [] := by
    unfold Po.rm at hn
    rw [hn] at rr
    exact rr
  obtain ⟨ps1, e1, k1⟩ := rr'
  cases k1
  exact ⟨t, _, _, _, rfl, rfl, SqT.of et, rfl, r1, _, rfl, .inl (SqL.of e1), rfl, q H1 s1⟩
noncomputable def sp_wlo : Sp := fun vs H Q _ => ∃ a qs, vs = [.ref a] ∧ Rw H a qs ∧ qs.length ≤ 30 ∧ Po.strip qs = qs ∧ (∀ q ∈ qs, Bq 700 q) ∧ ∀ r H', Same H H' → H r = none → Rw H' r (Po.mon qs) → Q (.ref r) H'
theorem sc_with_last_one : FnScope ["one"] ["one"] (defScope s_with_last_one) := ⟨rfl, rfl, rfl, by decide +kernel, rfl, by decide +kernel, by decide +kernel⟩
theorem ok_with_last_one (F : Fun K "with_last_one" "with_last_one" s_with_last_one f fd) (T : Txt mg) (C_scaled : Cal P w K mg base "scaled" 4 ["one", "number"] sp_scaled) (C_over : Cal P w K mg base "over" 3 ["one", "other"] sp_overN) : FnOk P w K mg base CX0 5 f fd ["one"] sp_wlo := by
  refine F.ok sc_with_last_one (fun vs H Q E h => ?_) (fun cdv A outer s H vs Q E hr h => ?_)
  · obtain ⟨a, qs, rfl, _⟩ := h
    rfl
  obtain ⟨a, qs, rfl, ra, hl, hs, bq, q⟩ := h
  obtain ⟨pa, ea, ka⟩ := id ra
  have la := ka.length
  refine ⟨_, (pss_cons (ps_if (pt_cmpR op_eq (pe_callB call_len_seq rfl T.z_len PySem.boot_len (pa_cons (pv 0) pa_nil)) pe_int (nomark _))
        (pss_one (ps_ret (pe_lst pa_nil)))
        pss_nil)
      (pss_one (ps_ret (pe_cl C_scaled hr (pa_cons (pv 0) (pa_cons (pe_cl C_over hr (pa_cons (pe_tup (pa_cons pe_int (pa_cons pe_int pa_nil))) (pa_cons (pe_ix ix_list (pv 0) (pe_un un_neg pe_int) (fun _ _ => rfl)) pa_nil))) pa_nil)))))), ?_⟩
  refine ⟨_, rfl, a, _, rfl, .inl (SqL.of ea), rfl, _, rfl, ?_⟩
  refine ite2 (fun c => ?_) (fun c => ?_)
  · have z : (((pa.map V.ref).length : Nat) : Int) = 0 := V.int.inj (of_decide_eq_true c)
    rw [List.length_map] at z
    have hp : qs = [] := List.eq_nil_of_length_eq_zero (by (first | lia | omega))
    refine ⟨(by show 0 ≤ sizeLine; decide), fun r hr' => q r _ (same_upd hr' _) hr' ⟨[], upd_same, ?_⟩⟩
    rw [hp]
    exact .nil
  have z : ¬ (((pa.map V.ref).length : Nat) : Int) = 0 := fun z => of_decide_eq_false (Bool.eq_false_iff.mpr c) (congrArg V.int z)
  rw [List.length_map] at z
  have h0 : qs ≠ [] := fun y => by rw [y] at la; have : ([] : List Rat).length = 0 := rfl; (first | lia | omega)
  have hlast := Po.lst_ne hs h0
  have hlt : qs.length - 1 < qs.length := by have := List.length_pos_iff.mpr h0; (first | lia | omega)
  obtain ⟨p1, f1, k1⟩ := ka.get (List.getElem?_eq_getElem hlt)
  have g1 : qs[qs.length - 1] = Po.lst qs := by unfold Po.lst; rw [List.getD_eq_getElem?_getD, List.getElem?_eq_getElem hlt]; rfl
  rw [g1] at k1
  have ix : atI (pa.map V.ref) (-1) = some (.ref p1) := by
    unfold atI ixN
    rw [List.length_map, if_neg (by (first | lia | omega)), if_pos (by (first | lia | omega))]
    show (pa.map V.ref)[(-1 + (pa.length : Int)).toNat]? = some (.ref p1)
    rw [show (-1 + (pa.length : Int)).toNat = qs.length - 1 by (first | lia | omega)]
    exact f1
  refine ⟨_, rfl, (by show 2 ≤ sizeLine; decide), fun t ht => ?_⟩
  have u := same_upd ht (.tup [.int 1, .int 1])
  have kt : Pq (upd H t (.tup [.int 1, .int 1])) t 1 := Pq.of Pr.new ⟨rfl, rfl⟩
  have bl := bq _ (Po.lst_mem h0)
  refine ⟨_, rfl, _, rfl, a, _, _, _, rfl, rfl, SqL.of (u _ _ ea), ix, t, p1, _, _, rfl, kt, k1.keep u, hlast, Bq.one (by decide), bl.mono (by decide), fun r1 H1 s1 k2 => ?_⟩
  have e : Po.lst qs * (1 / Po.lst qs) = 1 := by grind
  have bi : Bq 1500 (1 / Po.lst qs) := by
    have hn : (Po.lst qs).num ≠ 0 := fun z => hlast (num_zero.mp z)
    refine (bq_of (T := (Po.lst qs).den) (M := (Po.lst qs).num) hn ?_ bl.2 bl.1).mono (by decide)
    have e1 := q_eq (Po.lst qs)
    have n1 := den_ne (Po.lst qs)
    have n2 := Po.int_nz hn
    generalize Po.lst qs = x at *
    generalize (x.num : Rat) = u at *
    generalize ((x.den : Int) : Rat) = v at *
    rw [← e1]
    grind
  refine ⟨a, r1, qs, _, rfl, (ra.keep u).keep s1, k2, hl, fun q hq => (bq q hq).mono (by decide), bi, fun r H2 s2 n2 r2 => q r H2 (u.trans (s1.trans s2)) (u.free (s1.free n2)) ?_⟩
  have e2 : Po.pscale qs (1 / Po.lst qs) = Po.mon qs := by
    have ei : 1 / Po.lst qs = (Po.lst qs)⁻¹ := by rw [Rat.div_def, Rat.one_mul]
    unfold Po.pscale
    rw [ei]
    exact Po.mon_strip hs
  rw [e2] at r2
  exact r2
structure Cm (f g : List Rat) : Prop where
  sf : Po.strip f = f
  sg : Po.strip g = g
  lf : f.length ≤ 5
  lg : g.length ≤ 5
  cf : ∀ q ∈ f, Po.Cb 2700 36 q
  cg : ∀ q ∈ g, Po.Cb 2700 36 q
  zf : f ≠ [] → Po.Cb 900 36 (Po.lst f)
  zg : g ≠ [] → Po.Cb 900 36 (Po.lst g)
  com : f ≠ [] → g ≠ [] → ∃ h N, Po.Com f g h N
theorem bt_le {n : Nat} {x : Int} {k : Nat} (h : x.natAbs ≤ k) (l : k < 2 ^ n) : Bt n x := Nat.lt_of_le_of_lt h l
theorem cb_bq {q : Rat} (h : Po.Cb 2700 36 q) : Bq 12 q := by
  obtain ⟨h1, h2⟩ := Po.cb_q (by decide) h
  refine ⟨bt_le h1 (by decide), ?_⟩
  have e : (36 : Int).natAbs = 36 := rfl
  rw [e] at h2
  exact bt_le (k := 36) (by rw [Int.natAbs_natCast]; exact h2) (by decide)
theorem cb_ov {n k : Nat} {A : Int} {q : Rat} (h : Po.Cb k A q) (l : k < 2 ^ n) : Po.Ov n A q := by
  obtain ⟨T, b, e⟩ := h
  exact ⟨T, bt_le b l, e⟩
theorem whole_le {q : Rat} {B w : Int} {n : Nat} (h : Po.Cb n 36 q) (hB : 0 < B) (hd : B ∣ 36) (e : (w : Rat) = q * (B : Rat)) : w.natAbs ≤ n := by
  obtain ⟨T, b, eT⟩ := h
  obtain ⟨c, hc⟩ := hd
  have e1 : w * c = T := by
    refine Rat.intCast_inj.mp ?_
    rw [Rat.intCast_mul, e, ← eT, hc, Rat.intCast_mul]
    grind
  have hc0 : c ≠ 0 := fun z => by rw [z, Int.mul_zero] at hc; exact absurd hc (by decide)
  rw [← e1, Int.natAbs_mul] at b
  exact Nat.le_trans (Nat.le_mul_of_pos_right _ (Int.natAbs_pos.mpr hc0)) b
noncomputable def sp_common : Sp := fun vs H Q _ => ∃ a b f g, vs = [.ref a, .ref b] ∧ Rw H a f ∧ Rw H b g ∧ Cm f g ∧ ∀ r H', Same H H' → H r = none → Rw H' r (Po.mon (Po.eu 6 f g)) → Q (.ref r) H'
theorem sc_common : FnScope ["one", "other", "whole_one", "whole_other", "root", "guess"] ["one", "other"] (defScope s_common) := ⟨rfl, rfl, rfl, by decide +kernel, rfl, by decide +kernel, by decide +kernel⟩
theorem ok_common (F : Fun K "common" "common" s_common f fd) (T : Txt mg) (C_with_last_one : Cal P w K mg base "with_last_one" 5 ["one"] sp_wlo) (C_whole_figures : Cal P w K mg base "whole_figures" 1 ["one", "bottom"] sp_whf4) (C_shared_bottom : Cal P w K mg base "shared_bottom" 2 ["figures"] sp_shb4)
    (C_common_guess : Cal P w K mg base "common_guess" 5 ["one", "other", "root"] sp_cguess) (C_divides : Cal P w K mg base "divides" 6 ["part", "one"] sp_divs) : FnOk P w K mg base CX0 7 f fd ["one", "other"] sp_common := by
  refine F.ok sc_common (fun vs H Q E h => ?_) (fun cdv A outer s H vs Q E hr h => ?_)
  · obtain ⟨a, b, f, g, rfl, _⟩ := h
    rfl
  obtain ⟨a, b, f, g, rfl, ra, rb, cm, q⟩ := h
  obtain ⟨xa, ea, la⟩ := ra.there
  obtain ⟨xb, eb, lb⟩ := rb.there
  have bf : ∀ q ∈ f, Bq 12 q := fun q hq => cb_bq (cm.cf q hq)
  have bg : ∀ q ∈ g, Bq 12 q := fun q hq => cb_bq (cm.cg q hq)
  have l1 := cm.lf
  have l2 := cm.lg
  refine ⟨_, (pss_cons (ps_if (pt_cmpR op_eq (pe_callB call_len_seq rfl T.z_len PySem.boot_len (pa_cons (pv 0) pa_nil)) pe_int (nomark _))
        (pss_one (ps_ret (pe_cl C_with_last_one hr (pa_cons (pv 1) pa_nil))))
        pss_nil)
      (pss_cons (ps_if (pt_cmpR op_eq (pe_callB call_len_seq rfl T.z_len PySem.boot_len (pa_cons (pv 1) pa_nil)) pe_int (nomark _))
        (pss_one (ps_ret (pe_cl C_with_last_one hr (pa_cons (pv 0) pa_nil))))
        pss_nil)
      (pss_cons (ps_set (i := 2) sc_common.nd rfl (Or.inl rfl) (pe_cl C_whole_figures hr (pa_cons (pv 0) (pa_cons (pe_cl C_shared_bottom hr (pa_cons (pv 0) pa_nil)) pa_nil))))
      (pss_cons (ps_set (i := 3) sc_common.nd rfl (Or.inl rfl) (pe_cl C_whole_figures hr (pa_cons (pv 1) (pa_cons (pe_cl C_shared_bottom hr (pa_cons (pv 1) pa_nil)) pa_nil))))
      (pss_cons (ps_set (i := 4) sc_common.nd rfl (Or.inl rfl) (pe_op op_pow pe_int pe_int))
      (pss_one (ps_while PassesOwn.never (pt_val pe_bl)
        (pss_cons (ps_set (i := 5) sc_common.nd rfl (Or.inl rfl) (pe_cl C_common_guess hr (pa_cons (pv 2) (pa_cons (pv 3) (pa_cons (pv 4) pa_nil)))))
        (pss_cons (ps_if (PW.pt (pw_and (pt_cmpR op_notN (pv 5) pe_non (nomark _)) (pw_and (pt_val (pe_cl C_divides hr (pa_cons (pv 5) (pa_cons (pv 0) pa_nil)))) (pw_and1 (pt_val (pe_cl C_divides hr (pa_cons (pv 5) (pa_cons (pv 1) pa_nil))))))))
          (pss_one (ps_ret (pv 5)))
          pss_nil)
        (pss_one (ps_set (i := 4) sc_common.nd rfl (Or.inl rfl) (pe_op op_mulB (pv 4) (pv 4))))))))))))), ?_⟩
  refine ⟨_, rfl, a, _, rfl, .inl (SqL.of ea), rfl, _, rfl, ?_⟩
  refine ite2 (fun c => ?_) (fun c => ?_)
  · have z : ((xa.length : Nat) : Int) = 0 := V.int.inj (of_decide_eq_true c)
    have hf : f = [] := List.eq_nil_of_length_eq_zero (by (first | lia | omega))
    refine ⟨_, rfl, b, g, rfl, rb, by (first | lia | omega), cm.sg, fun q hq => (bg q hq).mono (by decide), fun r H1 s1 n1 r1 => q r H1 s1 n1 ?_⟩
    have e : Po.eu 6 f g = g := by
      rw [hf]
      by_cases hg : g = []
      · rw [hg]; rfl
      · have hgl := Po.lst_ne cm.sg hg
        rw [Po.eu, if_neg hg, Po.rm_less (u := []) hgl rfl (Po.len_of_lst hgl), Po.eu_nil]
    rw [e]
    exact r1
  have hf : f ≠ [] := fun y => by
    have z : ¬ ((xa.length : Nat) : Int) = 0 := fun z => of_decide_eq_false (Bool.eq_false_iff.mpr c) (congrArg V.int z)
    rw [y] at la
    have : ([] : List Rat).length = 0 := rfl
    (first | lia | omega)
  refine ⟨_, rfl, b, _, rfl, .inl (SqL.of eb), rfl, _, rfl, ?_⟩
  refine ite2 (fun c => ?_) (fun c => ?_)
  · have z : ((xb.length : Nat) : Int) = 0 := V.int.inj (of_decide_eq_true c)
    have hg : g = [] := List.eq_nil_of_length_eq_zero (by (first | lia | omega))
    refine ⟨_, rfl, a, f, rfl, ra, by (first | lia | omega), cm.sf, fun q hq => (bf q hq).mono (by decide), fun r H1 s1 n1 r1 => q r H1 s1 n1 ?_⟩
    rw [hg, Po.eu_nil]
    exact r1
  have hg : g ≠ [] := fun y => by
    have z : ¬ ((xb.length : Nat) : Int) = 0 := fun z => of_decide_eq_false (Bool.eq_false_iff.mpr c) (congrArg V.int z)
    rw [y] at lb
    have : ([] : List Rat).length = 0 := rfl
    (first | lia | omega)
  clear c
  have hfl := Po.lst_ne cm.sf hf
  have hgl := Po.lst_ne cm.sg hg
  obtain ⟨h, N, co⟩ := cm.com hf hg
  obtain ⟨Dh, hDh, bDh, cDh⟩ := co.ov
  have eh : h = Po.mon (Po.eu 6 f g) := co.eg.eu rfl rfl hfl cm.sg (by (first | lia | omega))
  have lh0 : Po.lst h ≠ 0 := by rw [co.one]; exact Po.one_nz
  have lhp := Po.len_of_lst lh0
  have lh := co.len
  obtain ⟨rf, rg⟩ := co.rests hfl hgl
  have dv : ∀ {p : List Rat}, p.length ≤ 5 → (∀ q ∈ p, Po.Cb 2700 36 q) → Dvb p h := fun {p} lp cp => ⟨by (first | lia | omega), by (first | lia | omega), lhp, lh0, ⟨36, by decide, bt_le (k := 36) (by decide) (Nat.lt_of_lt_of_le (show 36 < 2 ^ 6 by decide) (Nat.pow_le_pow_right (by decide) (by decide))), fun q hq => (cb_ov (n := 12) (cp q hq) (by decide)).mono (by decide)⟩,
    ⟨Dh, hDh, (bt_le (n := 10) bDh (by decide)).mono (by decide), fun q hq => (cb_ov (n := 12) (cDh q hq) (by decide)).mono (by decide)⟩⟩
  have d36 : ∀ {p : List Rat}, (∀ q ∈ p, Po.Cb 2700 36 q) → ∀ q ∈ p, (q.den : Int) ∣ 36 := fun {p} cp q hq => by
    obtain ⟨T, _, e⟩ := cp q hq
    exact den_dvd e
  refine ⟨_, rfl, _, rfl, a, f, 12, rfl, ra, by (first | lia | omega), bf, by decide, fun B1 hB1 dB1 mB1 bB1 => ?_⟩
  refine ⟨a, f, B1, rfl, ra, by (first | lia | omega), hB1, dB1, fun q hq => (bf q hq).mono (by decide), bB1.mono (by decide), fun wa fs H1 s1 n1 i1 e1 => ?_⟩
  have rb1 := rb.keep s1
  have ra1 := ra.keep s1
  refine ⟨_, rfl, _, rfl, b, g, 12, rfl, rb1, by (first | lia | omega), bg, by decide, fun B2 hB2 dB2 mB2 bB2 => ?_⟩
  refine ⟨b, g, B2, rfl, rb1, by (first | lia | omega), hB2, dB2, fun q hq => (bg q hq).mono (by decide), bB2.mono (by decide), fun wb gs H2 s2 n2 i2 e2 => ?_⟩
  have s12 := s1.trans s2
  -- the whole rows
  have whole : ∀ {p : List Rat} {B : Int} {ns : List Int}, p ≠ [] → Po.strip p = p → p.length ≤ 5 → (∀ q ∈ p, Po.Cb 2700 36 q) → Po.Cb 900 36 (Po.lst p) → 0 < B → B ∣ 36 → cq ns = p.map (· * (B : Rat)) →
      Po.mon (cq ns) = Po.mon p ∧ lastI ns ≠ 0 ∧ (lastI ns).natAbs ≤ 900 ∧ ns.length ≤ 100 ∧ ∀ x ∈ ns, Bt 100 x := fun {p B ns} hp sp lp cp zp hB dB e => by
    have nB : (B : Rat) ≠ 0 := Po.int_nz (by (first | lia | omega))
    have el : ((lastI ns : Int) : Rat) = Po.lst p * (B : Rat) := by
      rw [← lst_cq, e]
      exact Po.lst_sc p _
    refine ⟨by rw [e]; exact Po.mon_sc nB, fun z => ?_, whole_le zp hB dB el, by rw [fz_len e]; (first | lia | omega), fun x hx => ?_⟩
    · rw [z] at el
      exact Po.mul_nz (Po.lst_ne sp hp) nB el.symm
    · have hx' : ((x : Int) : Rat) ∈ cq ns := List.mem_map.mpr ⟨x, hx, rfl⟩
      rw [e] at hx'
      obtain ⟨y, hy, ey⟩ := List.mem_map.mp hx'
      exact bt_le (whole_le (cp y hy) hB dB ey.symm) (Nat.lt_of_lt_of_le (show 2700 < 2 ^ 12 by decide) (Nat.pow_le_pow_right (by decide) (by decide)))
  obtain ⟨w1, w2, w3, w4, w5⟩ := whole hf cm.sf l1 cm.cf (cm.zf hf) hB1 (mB1 36 (d36 cm.cf)) e1
  obtain ⟨v1, v2, v3, v4, v5⟩ := whole hg cm.sg l2 cm.cg (cm.zg hg) hB2 (mB2 36 (d36 cm.cg)) e2
  have ng : Ng fs gs h N := ⟨by rw [w1, v1]; exact co.eg, w2, v2, w4, v4, w5, v5, fun q hq => by
    have := Po.cb_q hDh (cDh q hq)
    (first | lia | omega), by (first | lia | omega)⟩
  have hN0 : 0 < Nt fs gs N := Nat.mul_pos (Int.natAbs_pos.mpr w2) (Nat.mul_pos (Int.natAbs_pos.mpr v2) co.eg.pos)
  have hNt : Nt fs gs N < 2 ^ 63 := by
    have hm := co.most
    have h1 : Nt fs gs N ≤ 900 * (900 * 2 ^ 40) := Nat.mul_le_mul w3 (Nat.mul_le_mul v3 (by (first | lia | omega)))
    exact Nat.lt_of_le_of_lt h1 (by decide)
  obtain ⟨jg, hjg, hgood⟩ := Po.some_good hN0 hNt
  refine ⟨_, _, rfl, rfl, (⟨by decide, by decide, by decide⟩ : CPow _ _), ?_⟩
  have er0 : ((2 : Int) ^ Int.toNat 32) = (Po.rt 0 : Int) := by decide +kernel
  refine ⟨fun n σ H' => ∃ (z : Int) (j : Nat) (v : Option V), z = (Po.rt j : Int) ∧ σ = [some (.ref a), some (.ref b), some (.ref wa), some (.ref wb), some (.int z), v] ∧ Same H2 H' ∧ j < 7 ∧ n = 7 - j ∧ ∀ i, i < j → Nat.gcd (Nt fs gs N) (Po.md i) ≠ 1,
    ⟨_, _, 0, _, er0, rfl, Same.refl _, by decide, rfl, fun i hi => absurd hi (Nat.not_lt_zero _)⟩, ?_⟩
  rintro n σ H3 ⟨_, j, v, rfl, rfl, s3, hj, rfl, bad⟩
  refine ⟨_, rfl, iteT ⟨fun σ' H' => ∃ n', n' < 7 - j ∧ ∃ (z : Int) (j : Nat) (v : Option V), z = (Po.rt j : Int) ∧ σ' = [some (.ref a), some (.ref b), some (.ref wa), some (.ref wb), some (.int z), v] ∧ Same H2 H' ∧ j < 7 ∧ n' = 7 - j ∧ ∀ i, i < j → Nat.gcd (Nt fs gs N) (Po.md i) ≠ 1, fun _ _ h => h, ?_⟩⟩
  refine ⟨_, rfl, _, rfl, _, rfl, wa, wb, fs, gs, h, N, j, rfl, hj, s3 _ _ (s2 _ _ i1), s3 _ _ i2, ng, fun hb H4 s4 => ?_, fun hb r H4 s4 n4 r4 => ?_⟩
  · refine ⟨_, rfl, rfl, _, rfl, iteNB (decide_eq_true rfl) (iteF ?_)⟩
    have bad' : ∀ i, i < j + 1 → Nat.gcd (Nt fs gs N) (Po.md i) ≠ 1 := fun i hi => by
      by_cases c : i = j
      · rw [c]; exact hb
      · exact bad i (by (first | lia | omega))
    have hj1 : j + 1 < 7 := by
      refine Nat.lt_of_not_le fun z => ?_
      exact bad' jg (by (first | lia | omega)) hgood
    refine ⟨_, rfl, _, rfl, _, _, rfl, rfl, mul_of (rt_bt hj) (rt_bt hj) (by decide), 7 - (j + 1), by (first | lia | omega), _, j + 1, _, ?_, rfl, s3.trans s4, hj1, rfl, bad'⟩
    rw [Po.rt_succ]
    push_cast
    rfl
  · have s24 := s12.trans (s3.trans s4)
    refine ⟨_, rfl, rfl, _, rfl, iteSS (fun z => by cases z) ?_⟩
    refine ⟨_, rfl, _, rfl, a, r, f, h, rfl, ra.keep s24, r4, dv l1 cm.cf, rf, fun H5 s5 => ⟨_, rfl, iteT ?_⟩⟩
    refine ⟨_, rfl, _, rfl, b, r, g, h, rfl, rb.keep (s24.trans s5), r4.keep s5, dv l2 cm.cg, rg, fun H6 s6 => ⟨_, rfl, iteT ?_⟩⟩
    refine ⟨_, rfl, q r H6 (s24.trans (s5.trans s6)) ((s12.trans s3).free n4) ?_⟩
    rw [← eh]
    exact r4.keep (s5.trans s6)

noncomputable def sp_row16 : Sp := fun vs H Q _ => ∃ c k, vs = [.int c, .int k] ∧ (0 ≤ k ∧ k ≤ 900) ∧ ∀ r qs H', Same H H' → H r = none → Rw H' r qs → Po.Dn qs → Q (.ref r) H'
theorem six_of {t b : Int} (ht : t.natAbs ≤ 5) (hb : b = 1 ∨ b = 2 ∨ b = 3) : ∃ Y : Int, Y.natAbs ≤ 30 ∧ ((t : Rat) / (b : Rat)) * ((6 : Int) : Rat) = (Y : Rat) := by
  have n2 : ((2 : Int) : Rat) ≠ 0 := Po.int_nz (by decide)
  have n3 : ((3 : Int) : Rat) ≠ 0 := Po.int_nz (by decide)
  rcases hb with rfl | rfl | rfl
  · refine ⟨t * 6, by (first | lia | omega), ?_⟩
    rw [← over_one, Rat.intCast_mul]
  · refine ⟨t * 3, by (first | lia | omega), ?_⟩
    rw [Rat.intCast_mul, show ((6 : Int) : Rat) = ((2 : Int) : Rat) * ((3 : Int) : Rat) by rw [← Rat.intCast_mul]; rfl]
    grind
  · refine ⟨t * 2, by (first | lia | omega), ?_⟩
    rw [Rat.intCast_mul, show ((6 : Int) : Rat) = ((3 : Int) : Rat) * ((2 : Int) : Rat) by rw [← Rat.intCast_mul]; rfl]
    grind
theorem signed_5 {n : Int} (h0 : 0 ≤ n) (h : n < 11) : (signed n).natAbs ≤ 5 := by
  unfold signed
  split <;> (first | lia | omega)
theorem sc_law_row_by : FnScope ["_law_cell", "_law_k", "_law_rest_here", "_law_row", "_law_low_here", "_law_many", "_law_turn"] ["_law_cell", "_law_k"] (defScope s_law_row_by) := ⟨rfl, rfl, rfl, by decide +kernel, rfl, by decide +kernel, by decide +kernel⟩
theorem ok_law_row_by (F : Fun K "_law_row_by" "_law_row_by" s_law_row_by f fd) (T : Txt mg) (C_law_mixed : Cal P w K mg base "_law_mixed" 1 ["_law_cell", "_law_k"] sp_mixed) (C_law_signed : Cal P w K mg base "_law_signed" 1 ["_law_number"] sp_signed)
    (C_law_low : Cal P w K mg base "_law_low" 2 ["_law_top", "_law_bottom"] sp_lowQ) (C_law_strip : Cal P w K mg base "_law_strip" 1 ["_law_row"] sp_stripQ) : FnOk P w K mg base CX0 3 f fd ["_law_cell", "_law_k"] sp_row16 := by
  refine F.ok sc_law_row_by (fun vs H Q E h => ?_) (fun cdv A outer s H vs Q E hr h => ?_)
  · obtain ⟨c, k, rfl, _⟩ := h
    rfl
  obtain ⟨c, k, rfl, ⟨hk0, hk1⟩, q⟩ := h
  have m0 : 0 ≤ mixed c k := mixed_nonneg hk0
  have hz : (1000 : Nat) < sizeLine := by decide
  refine ⟨_, (pss_cons (ps_set (i := 2) sc_law_row_by.nd rfl (Or.inl rfl) (pe_cl C_law_mixed hr (pa_cons (pv 0) (pa_cons (pv 1) pa_nil))))
      (pss_cons (ps_set (i := 3) sc_law_row_by.nd rfl (Or.inl rfl) (pe_lst pa_nil))
      (pss_cons (ps_set (i := 4) sc_law_row_by.nd rfl (Or.inl rfl) (pe_op op_mod (pe_op op_fdP (pv 2) pe_int) pe_int))
      (pss_cons (ps_set (i := 5) sc_law_row_by.nd rfl (Or.inl rfl) (pe_op op_mod (pv 2) pe_int))
      (pss_cons (ps_set (i := 2) sc_law_row_by.nd rfl (Or.inl rfl) (pe_op op_fdP (pv 2) pe_int))
      (pss_cons (ps_for PassesOwn.never rfl (pi_range1 rfl T.z_range (pa_cons (pv 5) pa_nil)) (pg_name (i := 6) sc_law_row_by.nd rfl (Or.inl rfl))
        (pss_cons (ps_expr (pe_bm PySem.F.plainAttrs_list PySem.F.slot_list_append PySem.F.type_list_append mt_append (pv 3) (pa_cons (pe_cl C_law_low hr (pa_cons (pe_cl C_law_signed hr (pa_cons (pe_op op_mod (pv 2) (pe_ix ix_list (pe_lst (pa_cons pe_int (pa_cons pe_int pa_nil))) (pv 4) (fun _ _ => rfl))) pa_nil)) (pa_cons (pe_op op_add pe_int (pe_op op_mulB (pe_op op_mod (pe_op op_fdP (pv 2) pe_int) pe_int) (pv 4))) pa_nil))) pa_nil)))
        (pss_one (ps_set (i := 2) sc_law_row_by.nd rfl (Or.inl rfl) (pe_op op_fdP (pv 2) pe_int)))))
      (pss_one (ps_ret (pe_cl C_law_strip hr (pa_cons (pv 3) pa_nil)))))))))), ?_⟩
  refine ⟨_, rfl, _, rfl, _, _, rfl, ⟨hk0, by (first | lia | omega)⟩, ?_⟩
  generalize mixed c k = M at *
  refine ⟨(by show 0 ≤ sizeLine; decide), fun D hD => ?_⟩
  have b4 : Bt 9000 (4 : Int) := Bt.mono (m := 3) (Bt.between (by decide) (by decide)) (by decide)
  have b8 : Bt 9000 (8 : Int) := Bt.mono (m := 4) (Bt.between (by decide) (by decide)) (by decide)
  have b11 : Bt 9000 (11 : Int) := Bt.mono (m := 4) (Bt.between (by decide) (by decide)) (by decide)
  have b33 : Bt 9000 (33 : Int) := Bt.mono (m := 6) (Bt.between (by decide) (by decide)) (by decide)
  refine ⟨_, rfl, _, _, rfl, rfl, ⟨by decide, b4⟩, _, _, rfl, rfl, (by show (0 : Int) < 2; decide), ?_⟩
  have l0 := Int.emod_nonneg (M / 4) (show (2 : Int) ≠ 0 by decide)
  have l1 := Int.emod_lt_of_pos (M / 4) (show (0 : Int) < 2 by decide)
  refine ⟨_, rfl, _, _, rfl, rfl, (by show (0 : Int) < 4; decide), ?_⟩
  have n0 := Int.emod_nonneg M (show (4 : Int) ≠ 0 by decide)
  have n1 := Int.emod_lt_of_pos M (show (0 : Int) < 4 by decide)
  refine ⟨_, rfl, _, _, rfl, rfl, ⟨by decide, b8⟩, ?_⟩
  have r0 : 0 ≤ M / 8 := Int.ediv_nonneg m0 (by decide)
  refine ⟨_, rfl, _, rfl, by (first | lia | omega), by (first | lia | omega), ?_⟩
  refine for_range (n := (M % 4).toNat) (fun i σ H' => ∃ (r : Int) (v : Option V) (qs : List Rat), 0 ≤ r ∧ σ = [some (.int c), some (.int k), some (.int r), some (.ref D), some (.int (M / 4 % 2)), some (.int (M % 4)), v] ∧ Same H H' ∧ Rw H' D qs ∧ qs.length = i ∧ ∀ q ∈ qs, ∃ Y : Int, Y.natAbs ≤ 30 ∧ q * ((6 : Int) : Rat) = (Y : Rat))
    ⟨_, _, [], r0, rfl, same_upd hD _, ⟨[], upd_same, .nil⟩, rfl, fun q hq => absurd hq (by simp)⟩ ?_ ?_
  · rintro i σ H1 hi ⟨r, v, qs, hr0, rfl, sm, rw1, hl, six⟩
    obtain ⟨ps0, hps0, _⟩ := id rw1
    generalize M / 4 % 2 = L at *
    refine ⟨_, rfl, .inl ⟨rfl, _, SqL.of hps0⟩, _, rfl, (by show 2 ≤ sizeLine; decide), fun p hp => ?_⟩
    have u := same_upd hp (.lst [.int 11, .int 8])
    obtain ⟨d, hd, ed⟩ : ∃ d : Int, (d = 11 ∨ d = 8) ∧ atI [V.int 11, V.int 8] L = some (.int d) := by
      have : L = 0 ∨ L = 1 := by (first | lia | omega)
      rcases this with rfl | rfl
      · exact ⟨11, .inl rfl, rfl⟩
      · exact ⟨8, .inr rfl, rfl⟩
    have hd0 : 0 < d := by (first | lia | omega)
    have t0 := Int.emod_nonneg r (show d ≠ 0 by (first | lia | omega))
    have t1 := Int.emod_lt_of_pos r hd0
    have y0 := Int.emod_nonneg (r / 11) (show (3 : Int) ≠ 0 by decide)
    have y1 := Int.emod_lt_of_pos (r / 11) (show (0 : Int) < 3 by decide)
    have hb : (1 + r / 11 % 3 * L = 1 ∨ 1 + r / 11 % 3 * L = 2 ∨ 1 + r / 11 % 3 * L = 3) := by
      have : L = 0 ∨ L = 1 := by (first | lia | omega)
      rcases this with rfl | rfl <;> (first | lia | omega)
    refine ⟨_, rfl, p, _, _, _, rfl, rfl, SqL.of upd_same, ed, _, _, rfl, rfl, hd0, _, rfl, fun H2 s2 => ?_⟩
    refine ⟨_, rfl, _, _, rfl, rfl, ⟨by decide, b11⟩, _, _, rfl, rfl, (by show (0 : Int) < 3; decide), _, rfl, _, _, rfl, rfl, mul_of (Bt.between (n := 3) (by (first | lia | omega)) (by (first | lia | omega))) (Bt.between (n := 3) (by (first | lia | omega)) (by (first | lia | omega))) (by decide), _, _, rfl, rfl, ?_⟩
    refine ⟨signed (r % d), 1 + r / 11 % 3 * L, rfl, by (first | lia | omega), Bt.mono (m := 3) (Bt.between (by (first | lia | omega)) (by (first | lia | omega))) (by decide), fun p2 H3 s3 kp => ?_⟩
    obtain ⟨xs, hxs, hxl, rw3⟩ := rw1.app (u.trans (s2.trans s3)) kp
    refine ⟨D, xs, _, rfl, rfl, hxs, by (first | lia | omega), _, rfl, _, _, rfl, rfl, ⟨by decide, b33⟩, _, _, _, Int.ediv_nonneg hr0 (by decide), rfl, same_updF (sm.trans (u.trans (s2.trans s3))) hD _, rw3, by simp [hl], fun q hq => ?_⟩
    rcases List.mem_append.mp hq with z | z
    · exact six q z
    · rw [List.mem_singleton.mp z]
      exact six_of (signed_5 t0 (by (first | lia | omega))) hb
  · rintro σ H1 ⟨r, v, qs, hr0, rfl, sm, rw1, hl, six⟩
    refine ⟨_, rfl, D, qs, rfl, rw1, by (first | lia | omega), fun r2 H2 s2 n2 rw2 => q r2 _ H2 (sm.trans s2) (sm.free n2) rw2 ⟨Po.strip_strip _, ?_, fun q hq => six q (Po.strip_mem hq)⟩⟩
    have := Po.strip_length qs
    (first | lia | omega)
noncomputable def sp_lquot : Sp := fun vs H Q _ => ∃ p q x y, vs = [.ref p, .ref q] ∧ Pq H p x ∧ Pq H q y ∧ y ≠ 0 ∧ Bq 4000 x ∧ Bq 3900 y ∧ ∀ r H', Same H H' → Pq H' r (x * y⁻¹) → Q (.ref r) H'
theorem inv_nd {y : Rat} (h : y ≠ 0) : (y⁻¹).num = (y.den : Int) * (y.num / (if y.num < 0 then -y.num else y.num)) ∧ ((y⁻¹).den : Int) = (if y.num < 0 then -y.num else y.num) := by
  have hn : y.num ≠ 0 := fun z => h (num_zero.mp z)
  have e1 := q_eq y
  have n1 := den_ne y
  have n2 := Po.int_nz hn
  have e2 := Rat.mul_inv_cancel _ h
  have f := fq y
  by_cases c : y.num < 0
  · rw [if_pos c]
    have ed : y.num / -y.num = -1 := by
      rw [Int.ediv_neg, Int.ediv_self hn]
    rw [ed]
    refine eq_of_low ⟨by (first | lia | omega), ?_⟩ ?_
    · rw [Int.mul_neg, Int.mul_one, Int.neg_gcd, Int.gcd_neg, Int.gcd_comm]
      exact f.one
    · simp only [Rat.intCast_mul, Rat.intCast_neg]
      generalize (y.num : Rat) = u at *
      generalize ((y.den : Int) : Rat) = v at *
      have : ((1 : Int) : Rat) = 1 := rfl
      rw [this]
      grind
  · rw [if_neg c, Int.ediv_self hn, Int.mul_one]
    refine eq_of_low ⟨by (first | lia | omega), by rw [Int.gcd_comm]; exact f.one⟩ ?_
    generalize (y.num : Rat) = u at *
    generalize ((y.den : Int) : Rat) = v at *
    grind
theorem sc_law_quotient : FnScope ["_law_one", "_law_other"] ["_law_one", "_law_other"] (defScope s_law_quotient) := ⟨rfl, rfl, rfl, by decide +kernel, rfl, by decide +kernel, by decide +kernel⟩
theorem ok_law_quotient (F : Fun K "_law_quotient" "_law_quotient" s_law_quotient f fd) (T : Txt mg) (C_law_mul : Cal P w K mg base "_law_mul" 3 ["_law_one", "_law_other"] (sp_bin 4000 (· * ·))) : FnOk P w K mg base CX0 4 f fd ["_law_one", "_law_other"] sp_lquot := by
  refine F.ok sc_law_quotient (fun vs H Q E h => ?_) (fun cdv A outer s H vs Q E hr h => ?_)
  · obtain ⟨p, p', x, y, rfl, _⟩ := h
    rfl
  obtain ⟨p, p', x, y, rfl, kx, ky, hy, bx, by', q⟩ := h
  have hn : y.num ≠ 0 := fun z => hy (num_zero.mp z)
  obtain ⟨i1, i2⟩ := inv_nd hy
  have ha : 0 < (if y.num < 0 then -y.num else y.num) := by split <;> (first | lia | omega)
  have ba : Bt 3900 (if y.num < 0 then -y.num else y.num) := by
    split
    · exact by'.1.neg
    · exact by'.1
  refine ⟨_, (pss_one (ps_ret (pe_cl C_law_mul hr (pa_cons (pv 0) (pa_cons (pe_tup (pa_cons (pe_op op_mulB (pe_ix ix_tup (pv 1) pe_int (fun _ _ => rfl)) (pe_op op_fdP (pe_ix ix_tup (pv 1) pe_int (fun _ _ => rfl)) (pe_callB call_abs rfl T.z_abs boot_abs (pa_cons (pe_ix ix_tup (pv 1) pe_int (fun _ _ => rfl)) pa_nil)))) (pa_cons (pe_callB call_abs rfl T.z_abs boot_abs (pa_cons (pe_ix ix_tup (pv 1) pe_int (fun _ _ => rfl)) pa_nil)) pa_nil))) pa_nil))))), ?_⟩
  refine ⟨_, rfl, _, rfl, _, _, _, _, rfl, rfl, ky.sq, rfl, _, rfl, _, _, _, _, rfl, rfl, ky.sq, rfl, _, rfl, _, _, _, _, rfl, rfl, ky.sq, rfl, _, rfl, _, _, rfl, rfl, ⟨ha, ba.mono (by decide)⟩, _, _, rfl, rfl, mul_of by'.2 (by'.1.ediv) (by decide), _, rfl, _, _, _, _, rfl, rfl, ky.sq, rfl, _, rfl, (by show 2 ≤ sizeLine; decide), fun t ht => ?_⟩
  have u := same_upd ht (.tup [.int ((y.den : Int) * (y.num / (if y.num < 0 then -y.num else y.num))), .int (if y.num < 0 then -y.num else y.num)])
  have kt : Pq (upd H t (.tup [.int ((y.den : Int) * (y.num / (if y.num < 0 then -y.num else y.num))), .int (if y.num < 0 then -y.num else y.num)])) t y⁻¹ := Pq.of Pr.new ⟨i1, i2⟩
  have bi : Bq 4000 y⁻¹ := by
    refine ⟨?_, ?_⟩
    · rw [i1]
      refine Bt.mono (m := 3900) (by'.2.of_le ?_) (by decide)
      rw [Int.natAbs_mul]
      have : (y.num / (if y.num < 0 then -y.num else y.num)).natAbs = 1 := by
        split
        · rw [Int.ediv_neg, Int.ediv_self hn]; rfl
        · rw [Int.ediv_self hn]; rfl
      rw [this, Nat.mul_one]
      exact Nat.le_refl _
    · rw [i2]
      exact ba.mono (by decide)
  exact ⟨p, t, _, _, rfl, kx.keep u, kt, bx, bi, fun r H1 s1 k1 => q r H1 (u.trans s1) k1⟩

noncomputable def sp_lless : Sp := fun vs H Q _ => ∃ (a b p : Addr) (ps qs : List Rat) (x : Rat) (k : Nat), vs = [.ref a, .ref b, .ref p, .int k] ∧ Rw H a ps ∧ Rw H b qs ∧ Pq H p x ∧ k + qs.length = ps.length ∧ ps.length ≤ 100 ∧ (∀ q ∈ ps, Bq 3900 q) ∧ (∀ q ∈ qs, Bq 1000 q) ∧ Bq 2900 x ∧
  ∀ r H', Same H H' → H r = none → Rw H' r (Po.strip (Po.Lm ps qs x k qs.length)) → Q (.ref r) H'
theorem sc_law_less : FnScope ["_law_one", "_law_other", "_law_number", "_law_power", "_law_made", "_law_k", "_law_figure"] ["_law_one", "_law_other", "_law_number", "_law_power"] (defScope s_law_less) := ⟨rfl, rfl, rfl, by decide +kernel, rfl, by decide +kernel, by decide +kernel⟩
theorem ok_law_less (F : Fun K "_law_less" "_law_less" s_law_less f fd) (T : Txt mg) (C_law_mul : Cal P w K mg base "_law_mul" 3 ["_law_one", "_law_other"] (sp_bin 4000 (· * ·))) (C_law_add : Cal P w K mg base "_law_add" 3 ["_law_one", "_law_other"] (sp_bin 4000 (· + ·))) (C_law_strip : Cal P w K mg base "_law_strip" 1 ["_law_row"] sp_stripQ) : FnOk P w K mg base CX0 4 f fd ["_law_one", "_law_other", "_law_number", "_law_power"] sp_lless := by
  refine F.ok sc_law_less (fun vs H Q E h => ?_) (fun cdv A outer s H vs Q E hr h => ?_)
  · obtain ⟨a, b, p, ps, qs, x, k, rfl, _⟩ := h
    rfl
  obtain ⟨a, b, p, ps, qs, x, k, rfl, ra, rb, kp, hk, lp, bp, bq, bx, q⟩ := h
  obtain ⟨xa, ea, la⟩ := ra.there
  obtain ⟨pb, eb, kb⟩ := id rb
  have lb := kb.length
  have hz : (1000 : Nat) < sizeLine := by decide
  have lmb : (pb.map V.ref).length = qs.length := by rw [List.length_map, lb]
  refine ⟨_, (pss_cons (ps_set (i := 4) sc_law_less.nd rfl (Or.inl rfl) (pe_callTy call_list_of rfl T.z_list boot_list (pa_cons (pv 0) pa_nil)))
      (pss_cons (ps_for PassesOwn.never rfl (pi_range1 rfl T.z_range (pa_cons (pe_callB call_len_seq rfl T.z_len PySem.boot_len (pa_cons (pv 1) pa_nil)) pa_nil)) (pg_name (i := 5) sc_law_less.nd rfl (Or.inl rfl))
        (pss_cons (ps_set (i := 6) sc_law_less.nd rfl (Or.inl rfl) (pe_cl C_law_mul hr (pa_cons (pe_ix ix_list (pv 1) (pv 5) (fun _ _ => rfl)) (pa_cons (pv 2) pa_nil))))
        (pss_one (ps_asg (pe_cl C_law_add hr (pa_cons (pe_ix ix_list (pv 4) (pe_op op_add (pv 5) (pv 3)) (fun _ _ => rfl)) (pa_cons (pe_tup (pa_cons (pe_op op_sub pe_int (pe_ix ix_tup (pv 6) pe_int (fun _ _ => rfl))) (pa_cons (pe_ix ix_tup (pv 6) pe_int (fun _ _ => rfl)) pa_nil))) pa_nil))) (pg_sub (pv 4) (pe_op op_add (pv 5) (pv 3)) set_list)))))
      (pss_one (ps_ret (pe_cl C_law_strip hr (pa_cons (pv 4) pa_nil)))))), ?_⟩
  refine ⟨_, rfl, a, _, rfl, .inl (SqL.of ea), fun D hD => ?_⟩
  have u0 := same_upd hD (.lst xa)
  refine ⟨_, rfl, b, _, rfl, .inl (SqL.of (u0 _ _ eb)), _, rfl, by (first | lia | omega), by (first | lia | omega), ?_⟩
  rw [Int.toNat_natCast, lmb]
  refine for_range (n := qs.length) (fun i σ H' => (∃ (v w : Option V), σ = [some (.ref a), some (.ref b), some (.ref p), some (.int k), some (.ref D), v, w]) ∧ Same H H' ∧ Rw H' D (Po.Lm ps qs x k i) ∧ ∀ q ∈ (Po.Lm ps qs x k i), Bq 4000 q ∨ True) ⟨⟨_, _, rfl⟩, u0, ra.copy ea hD, fun _ _ => .inr trivial⟩ ?_ ?_
  · rintro i σ H1 hi ⟨⟨v, w, rfl⟩, sm, rD, _⟩
    obtain ⟨p2, e2, k2⟩ := kb.get (List.getElem?_eq_getElem hi)
    have g2 : qs.getD i 0 = qs[i] := by rw [List.getD_eq_getElem?_getD, List.getElem?_eq_getElem hi]; rfl
    have bqi := bq _ (List.getElem_mem hi)
    refine ⟨_, rfl, _, rfl, b, _, _, _, rfl, rfl, SqL.of (sm _ _ eb), atI_0 e2, _, rfl, p2, p, _, _, rfl, k2.keep sm, kp.keep sm, bqi.mono (by decide), bx.mono (by decide), fun p3 H2 s2 k3 => ?_⟩
    obtain ⟨pD, eD, kD⟩ := rD.keep s2
    have lD := kD.length
    rw [Po.Lm_len] at lD
    have hik : i + k < (Po.Lm ps qs x k i).length := by rw [Po.Lm_len]; (first | lia | omega)
    obtain ⟨p4, e4, k4⟩ := kD.get (List.getElem?_eq_getElem hik)
    have g4 : (Po.Lm ps qs x k i)[i + k] = ps.getD (i + k) 0 := by
      have := Po.Lm_at ps qs x k i (by (first | lia | omega)) (i + k)
      rw [if_neg (by (first | lia | omega)), List.getD_eq_getElem?_getD, List.getElem?_eq_getElem hik] at this
      exact this
    rw [g4] at k4
    have ei : (0 + (i : Int) + (k : Int)) = ((i + k : Nat) : Int) := by (first | lia | omega)
    have ix : atI (pD.map V.ref) (0 + (i : Int) + (k : Int)) = some (.ref p4) := by rw [ei]; exact atI_nat e4
    refine ⟨_, rfl, _, rfl, _, rfl, _, _, rfl, rfl, D, _, _, _, rfl, rfl, SqL.of eD, ix, ?_⟩
    refine ⟨_, rfl, _, _, _, _, rfl, rfl, k3.sq, rfl, _, _, rfl, rfl, _, rfl, _, _, _, _, rfl, rfl, k3.sq, rfl, (by show 2 ≤ sizeLine; decide), fun p5 hp5 => ?_⟩
    have u5 := same_upd hp5 (.tup [.int (0 - (qs[i] * x).num), .int (qs[i] * x).den])
    have k5 : Pq (upd H2 p5 (.tup [.int (0 - (qs[i] * x).num), .int (qs[i] * x).den])) p5 (-(qs[i] * x)) := Pq.of Pr.new ⟨by rw [Rat.neg_num, Int.zero_sub], by rw [Rat.neg_den]⟩
    have bps : Bq 3900 (ps.getD (i + k) 0) := Po.getD_bq (by decide) bp _
    refine ⟨p4, p5, _, _, rfl, k4.keep u5, k5, bps.mono (by decide), ((bqi.mul bx).neg).mono (by decide), fun p6 H3 s3 k6 => ?_⟩
    have t3 := u5.trans s3
    have lmD : (pD.map V.ref).length = ps.length := by rw [List.length_map, lD]
    refine ⟨_, rfl, _, rfl, _, rfl, _, _, rfl, rfl, D, _, _, i + k, rfl, rfl, t3 _ _ eD, by rw [ei, lmD]; exact ixN_nat (by (first | lia | omega)), ⟨_, _, rfl⟩, same_updF (sm.trans (s2.trans t3)) hD _, ?_, fun _ _ => .inr trivial⟩
    have := Rw.setq (i + k) (t3 _ _ eD) ⟨pD, t3 _ _ eD, kD.keep t3⟩ k6
    rw [Po.Lm, g2, Rat.sub_eq_add_neg]
    exact this
  · rintro σ H1 ⟨⟨v, w, rfl⟩, sm, rD, _⟩
    exact ⟨_, rfl, D, _, rfl, rD, by rw [Po.Lm_len]; (first | lia | omega), fun r H2 s2 n2 r2 => q r H2 (sm.trans s2) (sm.free n2) r2⟩
noncomputable def sp_lrest : Sp := fun vs H Q _ => ∃ (a b : Addr) (f g : List Rat) (n c : Nat), vs = [.ref a, .ref b] ∧ Rw H a f ∧ Rw H b g ∧ Po.strip f = f ∧ Po.lst g ≠ 0 ∧ f.length ≤ 5 ∧ g.length ≤ 5 ∧ Po.On n f ∧ Po.On c g ∧ n + (f.length + 1 - g.length) * (c + 1) ≤ 1000 ∧ c ≤ 450 ∧
  ∀ r H', Same H H' → Rw H' r (Po.rm f g) → Po.On (n + (f.length + 1 - g.length) * (c + 1)) (Po.rm f g) → Q (.ref r) H'
theorem atI_lastQ {pa : List Addr} {n : Nat} {x : V} (h1 : pa.length = n) (h2 : 0 < n) (h3 : (pa.map V.ref)[n - 1]? = some x) : atI (pa.map V.ref) (-1) = some x := by
  unfold atI ixN
  rw [List.length_map, if_neg (by (first | lia | omega)), if_pos (by (first | lia | omega))]
  show (pa.map V.ref)[(-1 + (pa.length : Int)).toNat]? = some x
  rw [show (-1 + (pa.length : Int)).toNat = n - 1 by (first | lia | omega)]
  exact h3
theorem Rw.last {H : Hp} {a : Addr} {qs : List Rat} (h : Rw H a qs) (h0 : 0 < qs.length) : ∃ (pa : List Addr) (p : Addr), H a = some (.lst (pa.map V.ref)) ∧ pa.length = qs.length ∧ atI (pa.map V.ref) (-1) = some (.ref p) ∧ Pq H p (Po.lst qs) := by
  obtain ⟨pa, ea, ka⟩ := h
  have la := ka.length
  obtain ⟨p1, f1, k1⟩ := ka.get (List.getElem?_eq_getElem (show qs.length - 1 < qs.length by (first | lia | omega)))
  have g1 : qs[qs.length - 1] = Po.lst qs := by unfold Po.lst; rw [List.getD_eq_getElem?_getD, List.getElem?_eq_getElem (by (first | lia | omega))]; rfl
  rw [g1] at k1
  exact ⟨pa, p1, ea, la, atI_lastQ la h0 f1, k1⟩
theorem sc_law_rest : FnScope ["_law_left", "_law_right"] ["_law_left", "_law_right"] (defScope s_law_rest) := ⟨rfl, rfl, rfl, by decide +kernel, rfl, by decide +kernel, by decide +kernel⟩
theorem ok_law_rest (F : Fun K "_law_rest" "_law_rest" s_law_rest f fd) (T : Txt mg) (C_law_less : Cal P w K mg base "_law_less" 4 ["_law_one", "_law_other", "_law_number", "_law_power"] sp_lless) (C_law_quotient : Cal P w K mg base "_law_quotient" 4 ["_law_one", "_law_other"] sp_lquot) : FnOk P w K mg base CX0 5 f fd ["_law_left", "_law_right"] sp_lrest := by
  refine F.ok sc_law_rest (fun vs H Q E h => ?_) (fun cdv A outer s H vs Q E hr h => ?_)
  · obtain ⟨a, b, f, g, n, c, rfl, _⟩ := h
    rfl
  obtain ⟨a, b, f, g, n, c, rfl, ra, rb, sf, lg, l1, l2, of', og, hsz, hc, q⟩ := h
  have hg0 := Po.len_of_lst lg
  obtain ⟨pb, p2, eb, lb, ixb, kl⟩ := Rw.last rb hg0
  refine ⟨_, (pss_cons (ps_while PassesOwn.never (pt_cmpR op_ge (pe_callB call_len_seq rfl T.z_len PySem.boot_len (pa_cons (pv 0) pa_nil)) (pe_callB call_len_seq rfl T.z_len PySem.boot_len (pa_cons (pv 1) pa_nil)) (nomark _))
        (pss_one (ps_set (i := 0) sc_law_rest.nd rfl (Or.inl rfl) (pe_cl C_law_less hr (pa_cons (pv 0) (pa_cons (pv 1) (pa_cons (pe_cl C_law_quotient hr (pa_cons (pe_ix ix_list (pv 0) (pe_un un_neg pe_int) (fun _ _ => rfl)) (pa_cons (pe_ix ix_list (pv 1) (pe_un un_neg pe_int) (fun _ _ => rfl)) pa_nil))) (pa_cons (pe_op op_sub (pe_callB call_len_seq rfl T.z_len PySem.boot_len (pa_cons (pv 0) pa_nil)) (pe_callB call_len_seq rfl T.z_len PySem.boot_len (pa_cons (pv 1) pa_nil))) pa_nil))))))))
      (pss_one (ps_ret (pv 0)))), ?_⟩
  refine ⟨fun m σ H' => ∃ (d : Addr) (u : List Rat) (e : Nat), σ = [some (.ref d), some (.ref b)] ∧ Same H H' ∧ Rw H' d u ∧ Po.strip u = u ∧ u.length ≤ f.length ∧ m = u.length ∧ Po.rm u g = Po.rm f g ∧ Po.On (n + e * (c + 1)) u ∧ e + u.length ≤ f.length ∧ (e = 0 ∨ e + g.length ≤ f.length + 1), ⟨_, a, f, 0, rfl, Same.refl _, ra, sf, Nat.le_refl _, rfl, rfl, by simpa using of', by (first | lia | omega), .inl rfl⟩, ?_⟩
  rintro m σ H1 ⟨d, u, e, rfl, s1, rd, su, lu, rfl, eu, ou, he, he2⟩
  obtain ⟨xd, ed, ld⟩ := rd.there
  refine ⟨_, rfl, d, _, rfl, .inl (SqL.of ed), _, rfl, b, _, rfl, .inl (SqL.of (s1 _ _ eb)), _, _, rfl, rfl, _, rfl, ?_⟩
  have lmb : (pb.map V.ref).length = g.length := by rw [List.length_map, lb]
  refine ite2 (fun c1 => ⟨fun σ' H' => ∃ m', m' < u.length ∧ ∃ (d : Addr) (u : List Rat) (e : Nat), σ' = [some (.ref d), some (.ref b)] ∧ Same H H' ∧ Rw H' d u ∧ Po.strip u = u ∧ u.length ≤ f.length ∧ m' = u.length ∧ Po.rm u g = Po.rm f g ∧ Po.On (n + e * (c + 1)) u ∧ e + u.length ≤ f.length ∧ (e = 0 ∨ e + g.length ≤ f.length + 1), fun _ _ h => h, ?_⟩) (fun c1 => ?_)
  · have c1' : (((pb.map V.ref).length : Nat) : Int) ≤ ((xd.length : Nat) : Int) := of_decide_eq_true c1
    have hle : g.length ≤ u.length := by (first | lia | omega)
    obtain ⟨pd, p1, ed2, ld2, ixd, k1⟩ := Rw.last rd (by (first | lia | omega))
    have hen : e + g.length ≤ f.length := by (first | lia | omega)
    have hmul : (e + 1) * (c + 1) ≤ (f.length + 1 - g.length) * (c + 1) := Nat.mul_le_mul_right _ (by (first | lia | omega))
    have hm2 : (e + 1) * (c + 1) = e * (c + 1) + (c + 1) := Nat.succ_mul _ _
    obtain ⟨ol, bx⟩ := Po.On.less ou og lg
    have blu : Bq (n + e * (c + 1)) (Po.lst u) := ou.bq _ (Po.lst_mem (fun z => by rw [z] at hle; have : ([] : List Rat).length = 0 := rfl; (first | lia | omega)))
    have blg : Bq c (Po.lst g) := og.bq _ (Po.lst_mem (fun z => lg (by rw [z]; rfl)))
    refine ⟨_, rfl, _, rfl, _, rfl, _, rfl, d, _, _, _, rfl, rfl, SqL.of ed2, ixd, _, rfl, _, rfl, b, _, _, _, rfl, rfl, SqL.of (s1 _ _ eb), ixb, p1, p2, _, _, rfl, k1, kl.keep s1, lg, blu.mono (by (first | lia | omega)), blg.mono (by (first | lia | omega)), fun p3 H2 s2 k3 => ?_⟩
    have s12 := s1.trans s2
    refine ⟨_, rfl, d, _, rfl, .inl (SqL.of (s2 _ _ ed2)), _, rfl, b, _, rfl, .inl (SqL.of (s12 _ _ eb)), _, _, rfl, rfl, ?_⟩
    have lmd : (pd.map V.ref).length = u.length := by rw [List.length_map, ld2]
    have ek : ((((pd.map V.ref).length : Nat) : Int) - (((pb.map V.ref).length : Nat) : Int)) = ((u.length - g.length : Nat) : Int) := by rw [lmd, lmb]; (first | lia | omega)
    refine ⟨d, b, p3, u, g, _, u.length - g.length, by rw [← ek]; rfl, rd.keep s2, rb.keep s12, k3, by (first | lia | omega), by (first | lia | omega), fun q hq => (ou.bq q hq).mono (by (first | lia | omega)), fun q hq => (og.bq q hq).mono (by (first | lia | omega)), bx.mono (by (first | lia | omega)), fun r H3 s3 n3 r3 => ?_⟩
    rw [Po.Lm_end (by (first | lia | omega)) hg0 lg] at r3
    have lr : (Po.strip (Po.rless u g (Po.lst u / Po.lst g))).length ≤ u.length - 1 := by
      have := Po.strip_length (Po.rless u g (Po.lst u / Po.lst g))
      rw [Po.rless_length _ hle hg0] at this
      exact this
    refine ⟨_, ?_, r, _, e + 1, rfl, s12.trans s3, r3, Po.strip_strip _, by (first | lia | omega), rfl, by rw [Po.rm_next hle hg0 lg]; exact eu, ?_, by (first | lia | omega), .inr (by (first | lia | omega))⟩
    · (first | lia | omega)
    · exact (Po.On.strip ol).mono (by (first | lia | omega))
  · have c1' : ¬ (((pb.map V.ref).length : Nat) : Int) ≤ ((xd.length : Nat) : Int) := of_decide_eq_false (Bool.eq_false_iff.mpr c1)
    have hlt : u.length < g.length := by (first | lia | omega)
    have er : Po.rm f g = u := by rw [← eu]; exact Po.rm_less lg su hlt
    have hmul : e * (c + 1) ≤ (f.length + 1 - g.length) * (c + 1) := by
      rcases he2 with rfl | he2
      · rw [Nat.zero_mul]; exact Nat.zero_le _
      · exact Nat.mul_le_mul_right _ (by (first | lia | omega))
    refine ⟨_, rfl, q d H1 s1 (by rw [er]; exact rd) ?_⟩
    rw [er]
    exact ou.mono (by (first | lia | omega))

noncomputable def sp_lwalked : Sp := fun vs H Q _ => ∃ (a b : Addr) (f g : List Rat), vs = [.ref a, .ref b] ∧ Rw H a f ∧ Rw H b g ∧ Po.strip f = f ∧ Po.strip g = g ∧ f.length ≤ 5 ∧ g.length ≤ 5 ∧ Po.On 13 f ∧ Po.On 13 g ∧ ∀ r H', Same H H' → H r = none → Rw H' r (Po.mon (Po.eu 6 f g)) → Q (.ref r) H'
noncomputable def Wz (u v : List Rat) : Prop := (u.length ≤ v.length ∧ Po.On 13 u ∧ Po.On 13 v) ∨ (v.length < u.length ∧ Po.On (Po.bA u.length) u ∧ Po.On (Po.bB u.length) v)
theorem sc_law_walked : FnScope ["_law_one", "_law_other"] ["_law_one", "_law_other"] (defScope s_law_walked) := ⟨rfl, rfl, rfl, by decide +kernel, rfl, by decide +kernel, by decide +kernel⟩
theorem ok_law_walked (F : Fun K "_law_walked" "_law_walked" s_law_walked f fd) (T : Txt mg) (C_law_rest : Cal P w K mg base "_law_rest" 5 ["_law_left", "_law_right"] sp_lrest) (C_law_quotient : Cal P w K mg base "_law_quotient" 4 ["_law_one", "_law_other"] sp_lquot) : FnOk P w K mg base CX0 6 f fd ["_law_one", "_law_other"] sp_lwalked := by
  refine F.ok sc_law_walked (fun vs H Q E h => ?_) (fun cdv A outer s H vs Q E hr h => ?_)
  · obtain ⟨a, b, f, g, rfl, _⟩ := h
    rfl
  obtain ⟨a, b, f, g, rfl, ra, rb, sf, sg, l1, l2, of', og, q⟩ := h
  have st : Wz f g := by
    by_cases c : g.length < f.length
    · exact .inr ⟨c, of'.mono Po.bA_ge.1, og.mono (Nat.le_trans (by decide) Po.bA_ge.2)⟩
    · exact .inl ⟨by (first | lia | omega), of', og⟩
  refine ⟨_, (pss_cons (ps_while PassesOwn.never (pt_cmpR op_gt (pe_callB call_len_seq rfl T.z_len PySem.boot_len (pa_cons (pv 1) pa_nil)) pe_int (nomark _))
        (pss_one (ps_asg (pe_tup (pa_cons (pv 1) (pa_cons (pe_cl C_law_rest hr (pa_cons (pv 0) (pa_cons (pv 1) pa_nil))) pa_nil))) (pg_tup rfl (pgs_cons (pg_name (i := 0) sc_law_walked.nd rfl (Or.inr rfl)) (pgs_cons (pg_name (i := 1) sc_law_walked.nd rfl (Or.inl rfl)) pgs_nil))))))
      (pss_one (ps_ret (pe_comp (N' := ["_law_figure", "_law_one"]) (fsc := defScope s_law_walked) (N := ["_law_one", "_law_other"]) [0] ⟨rfl, by decide +kernel, by decide +kernel, by decide +kernel, rfl, by decide +kernel, rfl, by decide +kernel⟩ (pi_list (pv 0)) (fun _ _ _ _ => (pe_cl C_law_quotient hr (pa_cons (pv 0) (pa_cons (pe_ix ix_list (pv 1) (pe_un un_neg pe_int) (fun _ _ => rfl)) pa_nil)))))))), ?_⟩
  refine ⟨fun m σ H' => ∃ (d1 d2 : Addr) (u v : List Rat) (k : Nat), σ = [some (.ref d1), some (.ref d2)] ∧ Same H H' ∧ Rw H' d1 u ∧ Rw H' d2 v ∧ Po.strip u = u ∧ Po.strip v = v ∧ u.length ≤ 5 ∧ v.length ≤ 5 ∧ Wz u v ∧ v.length ≤ k ∧ Po.eu k u v = Po.eu 6 f g ∧ m = v.length,
    ⟨_, a, b, f, g, 6, rfl, Same.refl _, ra, rb, sf, sg, l1, l2, st, by (first | lia | omega), rfl, rfl⟩, ?_⟩
  rintro m σ H1 ⟨d1, d2, u, v, k, rfl, s1, r1, r2, su, sv, lu, lv, wz, hk, ek, rfl⟩
  obtain ⟨x2, e2, lx2⟩ := r2.there
  refine ⟨_, rfl, d2, _, rfl, .inl (SqL.of e2), _, _, rfl, rfl, _, rfl, ?_⟩
  refine ite2 (fun c => ⟨fun σ' H' => ∃ m', m' < v.length ∧ ∃ (d1 d2 : Addr) (u v : List Rat) (k : Nat), σ' = [some (.ref d1), some (.ref d2)] ∧ Same H H' ∧ Rw H' d1 u ∧ Rw H' d2 v ∧ Po.strip u = u ∧ Po.strip v = v ∧ u.length ≤ 5 ∧ v.length ≤ 5 ∧ Wz u v ∧ v.length ≤ k ∧ Po.eu k u v = Po.eu 6 f g ∧ m' = v.length, fun _ _ h => h, ?_⟩) (fun c => ?_)
  · have c' : (0 : Int) < ((x2.length : Nat) : Int) := of_decide_eq_true c
    have hv : v ≠ [] := fun z => by rw [z] at lx2; have : ([] : List Rat).length = 0 := rfl; (first | lia | omega)
    have hvl := Po.lst_ne sv hv
    have hv0 := Po.len_of_lst hvl
    have hrl := Po.rm_len (f := u) hv0 hvl
    obtain ⟨k, rfl⟩ : ∃ k', k = k' + 1 := ⟨k - 1, by (first | lia | omega)⟩
    rw [Po.eu, if_neg hv] at ek
    obtain ⟨n, cc, on, oc, hs, hc, on2, oc2⟩ : ∃ n cc, Po.On n u ∧ Po.On cc v ∧ n + (u.length + 1 - v.length) * (cc + 1) ≤ 1000 ∧ cc ≤ 450 ∧ cc ≤ Po.bA v.length ∧ n + (u.length + 1 - v.length) * (cc + 1) ≤ Po.bB v.length := by
      rcases wz with ⟨h1, h2, h3⟩ | ⟨h1, h2, h3⟩
      · have : (u.length + 1 - v.length) * (13 + 1) ≤ 1 * (13 + 1) := Nat.mul_le_mul_right _ (by (first | lia | omega))
        exact ⟨13, 13, h2, h3, by (first | lia | omega), by (first | lia | omega), Po.bA_ge.1, Nat.le_trans (by (first | lia | omega)) Po.bA_ge.2⟩
      · obtain ⟨p1, p2, p3, p4⟩ := Po.bAB lu h1 hv0
        exact ⟨_, _, h2, h3, p4, p3, p1, p2⟩
    refine ⟨_, rfl, _, rfl, _, rfl, d1, d2, u, v, n, cc, rfl, r1, r2, su, hvl, lu, lv, on, oc, hs, hc, fun r H2 s2 r3 o3 => ⟨(by show 2 ≤ sizeLine; decide), fun t ht => ?_⟩⟩
    have ut := same_upd ht (.tup [.ref d2, .ref r])
    exact ⟨t, _, rfl, SqT.of upd_same, rfl, _, _, rfl, _, _, rfl, rfl, _, hrl, d2, r, v, _, k, rfl, s1.trans (s2.trans ut), r2.keep (s2.trans ut), r3.keep ut, sv, Po.rm_strip u v, lv, by (first | lia | omega), .inr ⟨hrl, oc.mono on2, o3.mono oc2⟩, by (first | lia | omega), ek, rfl⟩
  · have c' : ¬ (0 : Int) < ((x2.length : Nat) : Int) := of_decide_eq_false (Bool.eq_false_iff.mpr c)
    have hv : v = [] := List.eq_nil_of_length_eq_zero (by (first | lia | omega))
    rw [hv, Po.eu_nil] at ek
    have bu : ∀ q ∈ u, Bq 979 q := by
      rcases wz with ⟨h1, h2, h3⟩ | ⟨h1, h2, h3⟩
      · exact fun q hq => (h2.bq q hq).mono (by decide)
      · have : Po.bA u.length ≤ 979 := by
          match u.length with
          | 0 => decide
          | 1 => decide
          | 2 => decide
          | 3 => decide
          | 4 => decide
          | 5 => decide
          | n + 6 => exact Nat.le_refl _
        exact fun q hq => (h2.bq q hq).mono this
    obtain ⟨x1, e1, lx1⟩ := r1.there
    refine ⟨_, rfl, d1, rfl, ⟨_, SqL.of e1⟩, comp_listQ (qs := u) (by (first | lia | omega)) r1 (fun y => y * (Po.lst u)⁻¹) ?_ fun H2 D s2 nD rD => q D H2 (s1.trans s2) (s1.free nD) (by rw [← ek]; exact rD)⟩
    intro _ _ _ _ p1 y H2 R hy k1 s2 fin
    have hu0 : 0 < u.length := List.length_pos_iff.mpr (List.ne_nil_of_mem hy)
    have hun := List.length_pos_iff.mp hu0
    obtain ⟨pd, p2, ed, ld, ix, kl⟩ := Rw.last r1 hu0
    exact ⟨_, rfl, _, rfl, _, rfl, d1, _, _, _, rfl, rfl, SqL.of (s2 _ _ ed), ix, p1, p2, _, _, rfl, k1, kl.keep s2, Po.lst_ne su hun, (bu y hy).mono (by decide), (bu _ (Po.lst_mem hun)).mono (by decide), fun r H3 s3 k3 => fin r H3 s3 k3⟩
theorem pmul_nilr (a : List Rat) : Po.pmul a [] = [] := by rw [Po.pmul_comm]; exact Po.pmul_nil a
theorem dn_bq {a : List Rat} (h : Po.Dn a) : ∀ q ∈ a, Bq 101 q := fun q hq => by
  obtain ⟨Y, bY, e⟩ := h.six q hq
  have n : ((6 : Int) : Rat) ≠ 0 := Po.int_nz (by decide)
  exact (bq_of (T := Y) (M := 6) (n := 5) (by decide) (by rw [← e]; grind) (bt_le bY (by decide)) (bt_le (k := 6) (by decide) (by decide))).mono (by decide)
theorem cm_of {a b c : List Rat} (da : Po.Dn a) (db : Po.Dn b) (dc : Po.Dn c) : Cm (Po.pmul a c) (Po.pmul b c) := by
  have len : ∀ {p : List Rat}, Po.Dn p → (Po.pmul p c).length ≤ 5 := fun {p} dp => by
    by_cases h1 : p = []
    · rw [h1, Po.pmul_nil]; decide
    by_cases h2 : c = []
    · rw [h2, pmul_nilr]; decide
    rw [Po.pmul_len (Po.lst_ne dp.st h1) (Po.lst_ne dc.st h2)]
    have := dp.len
    have := dc.len
    (first | lia | omega)
  have ne : ∀ {p : List Rat}, Po.pmul p c ≠ [] → p ≠ [] ∧ c ≠ [] := fun {p} h => ⟨fun z => h (by rw [z]; exact Po.pmul_nil c), fun z => h (by rw [z]; exact pmul_nilr p)⟩
  obtain ⟨fa, za⟩ := Po.pmul_dn da dc
  obtain ⟨fb, zb⟩ := Po.pmul_dn db dc
  exact ⟨Po.pmul_strip _ _, Po.pmul_strip _ _, len da, len db, fa, fb, fun h => za (ne h).1 (ne h).2, fun h => zb (ne h).1 (ne h).2, fun h k => Po.com_all da db dc (ne h).1 (ne k).1 (ne h).2⟩
theorem cm_on {f : List Rat} (h : ∀ q ∈ f, Po.Cb 2700 36 q) : Po.On 13 f := ⟨36, by decide, bt_le (k := 36) (by decide) (by decide), fun q hq => cb_ov (h q hq) (by decide)⟩
theorem sc_law : FnScope ["_law_script", "_law_one", "_law_other", "_law_more", "_law_handed", "_law_told"] ["_law_script"] (defScope s_law) := ⟨rfl, rfl, rfl, by decide +kernel, rfl, by decide +kernel, by decide +kernel⟩
set_option maxHeartbeats 4000000 in
theorem ok_law (F : Fun K "law" "law" s_law f fd) (T : Txt mg) (C_law_cell_at : Cal P w K mg base "_law_cell_at" 1 ["_law_script", "_law_k"] (sp_cell K)) (C_law_row_by : Cal P w K mg base "_law_row_by" 3 ["_law_cell", "_law_k"] sp_row16)
    (C_law_product : Cal P w K mg base "_law_product" 4 ["_law_one", "_law_other"] sp_product) (C_law_same : Cal P w K mg base "_law_same" 1 ["_law_told", "_law_due"] sp_sameQ) (C_law_walked : Cal P w K mg base "_law_walked" 6 ["_law_one", "_law_other"] sp_lwalked) (C_law_apart : Cal P w K mg base "_law_apart" 1 ["_law_told", "_law_handed", "_law_kept"] sp_apart)
    (C_common : Cal P w K mg base "common" 7 ["one", "other"] sp_common) : FnOk P w K mg base CX0 8 f fd ["_law_script"] (sp_law K) := by
  refine F.ok sc_law (fun vs H Q E h => ?_) (fun cdv A outer s H vs Q E hr h => ?_)
  · obtain ⟨a, ns, rfl, _⟩ := h
    rfl
  obtain ⟨a, ns, rfl, hS, h63, q⟩ := h
  refine ⟨_, (pss_cons (ps_set (i := 1) sc_law.nd rfl (Or.inl rfl) (pe_cl C_law_row_by hr (pa_cons (pe_cl C_law_cell_at hr (pa_cons (pv 0) (pa_cons pe_int pa_nil))) (pa_cons pe_int pa_nil))))
      (pss_cons (ps_set (i := 2) sc_law.nd rfl (Or.inl rfl) (pe_cl C_law_row_by hr (pa_cons (pe_cl C_law_cell_at hr (pa_cons (pv 0) (pa_cons pe_int pa_nil))) (pa_cons pe_int pa_nil))))
      (pss_cons (ps_set (i := 3) sc_law.nd rfl (Or.inl rfl) (pe_cl C_law_row_by hr (pa_cons (pe_cl C_law_cell_at hr (pa_cons (pv 0) (pa_cons pe_int pa_nil))) (pa_cons pe_int pa_nil))))
      (pss_cons (ps_cut (ps_if (pt_cmpR op_gt (pe_op op_mod (pe_cl C_law_cell_at hr (pa_cons (pv 0) (pa_cons pe_int pa_nil))) pe_int) pe_int (nomark _))
        (pss_cons (ps_set (i := 1) sc_law.nd rfl (Or.inl rfl) (pe_cl C_law_product hr (pa_cons (pv 1) (pa_cons (pv 3) pa_nil))))
        (pss_one (ps_set (i := 2) sc_law.nd rfl (Or.inl rfl) (pe_cl C_law_product hr (pa_cons (pv 2) (pa_cons (pv 3) pa_nil))))))
        pss_nil))
      (pss_cons (ps_cut (ps_if (pt_cmpR op_eq (pe_op op_mod (pe_op op_fdP (pe_cl C_law_cell_at hr (pa_cons (pv 0) (pa_cons pe_int pa_nil))) pe_int) pe_int) pe_int (nomark _))
        (pss_one (ps_set (i := 2) sc_law.nd rfl (Or.inl rfl) (pe_callTy call_list_of rfl T.z_list boot_list (pa_cons (pv 1) pa_nil))))
        pss_nil))
      (pss_cons (ps_set (i := 4) sc_law.nd rfl (Or.inl rfl) (pe_lst (pa_cons (pe_callTy call_list_of rfl T.z_list boot_list (pa_cons (pv 1) pa_nil)) (pa_cons (pe_callTy call_list_of rfl T.z_list boot_list (pa_cons (pv 2) pa_nil)) pa_nil))))
      (pss_cons (ps_set (i := 5) sc_law.nd rfl (Or.inl rfl) (pe_cl C_common hr (pa_cons (pe_ix ix_list (pv 4) pe_int (fun _ _ => rfl)) (pa_cons (pe_ix ix_list (pv 4) pe_int (fun _ _ => rfl)) pa_nil))))
      (pss_cons (ps_if (PW.pt (pw_or (pt_not (pt_val (pe_cl C_law_same hr (pa_cons (pv 5) (pa_cons (pe_cl C_law_walked hr (pa_cons (pv 1) (pa_cons (pv 2) pa_nil))) pa_nil))))) (pw_or1 (pt_cmpR (op_neD hr.units) (pv 4) (pe_lst (pa_cons (pv 1) (pa_cons (pv 2) pa_nil))) (nomark _)))))
        (pss_one (ps_ret pe_bl))
        pss_nil)
      (pss_one (ps_ret (pe_cl C_law_apart hr (pa_cons (pv 5) (pa_cons (pv 4) (pa_cons (pe_lst (pa_cons (pv 1) (pa_cons (pv 2) pa_nil))) pa_nil)))))))))))))), ?_⟩
  refine ⟨_, rfl, a, ns, 0, rfl, hS, _, _, rfl, ⟨by decide, by decide⟩, fun r0 p0 H1 s1 n1 rw0 d0 => ?_⟩
  refine ⟨_, rfl, a, ns, 1, rfl, s1.seq hS, _, _, rfl, ⟨by decide, by decide⟩, fun r1 p1 H2 s2 n2 rw1 d1 => ?_⟩
  refine ⟨_, rfl, a, ns, 2, rfl, (s1.trans s2).seq hS, _, _, rfl, ⟨by decide, by decide⟩, fun r2 p2 H3 s3 n3 rw2 d2 => ?_⟩
  have s13 := s1.trans (s2.trans s3)
  have rw0' := rw0.keep (s2.trans s3)
  have rw1' := rw1.keep s3
  refine ⟨fun σ' H' => ∃ (o1 o2 : Addr) (f g : List Rat), σ' = [some (.ref a), some (.ref o1), some (.ref o2), some (.ref r2), none, none] ∧ Same H3 H' ∧ Rw H' o1 f ∧ Rw H' o2 g ∧ Cm f g ∧ Cm f f, ?tl, ?hd⟩
  case hd =>
    refine ⟨_, rfl, a, ns, 3, rfl, s13.seq hS, _, _, rfl, rfl, (by show (0 : Int) < 3; decide), _, _, rfl, rfl, _, rfl, ?_⟩
    refine ite2 (fun _ => ?_) (fun _ => ?_)
    · have la := d0.len
      have lb := d1.len
      have lc := d2.len
      refine ⟨_, rfl, _, rfl, r0, r2, p0, p2, rfl, rw0', rw2, by (first | lia | omega), by (first | lia | omega), dn_bq d0, dn_bq d2, fun r4 H4 s4 n4 rw4 => ?_⟩
      refine ⟨_, rfl, _, rfl, r1, r2, p1, p2, rfl, rw1'.keep s4, rw2.keep s4, by (first | lia | omega), by (first | lia | omega), dn_bq d1, dn_bq d2, fun r5 H5 s5 n5 rw5 => ?_⟩
      exact ⟨r4, r5, _, _, rfl, s4.trans s5, rw4.keep s5, rw5, cm_of d0 d1 d2, cm_of d0 d0 d2⟩
    · have e0 := Po.pmul_one d0.st
      have e1 := Po.pmul_one d1.st
      have c1 := cm_of d0 d1 Po.dn_one
      have c2 := cm_of d0 d0 Po.dn_one
      rw [e0, e1] at c1
      rw [e0] at c2
      exact ⟨r0, r1, p0, p1, rfl, Same.refl _, rw0', rw1', c1, c2⟩
  rintro _ H4 ⟨o1, o2, f, g, rfl, s4, rf, rg, cm, cf⟩
  have s14 := s13.trans s4
  refine ⟨fun σ' H' => ∃ (o2 : Addr) (g : List Rat), σ' = [some (.ref a), some (.ref o1), some (.ref o2), some (.ref r2), none, none] ∧ Same H4 H' ∧ Rw H' o1 f ∧ Rw H' o2 g ∧ Cm f g, ?tl2, ?hd2⟩
  case hd2 =>
    refine ⟨_, rfl, a, ns, 3, rfl, s14.seq hS, _, _, rfl, rfl, ⟨by decide, Bt.mono (m := 2) (Bt.between (by decide) (by decide)) (by decide)⟩, _, _, rfl, rfl, (by show (0 : Int) < 7; decide), rfl, _, rfl, ?_⟩
    refine ite2 (fun _ => ?_) (fun _ => ?_)
    · obtain ⟨x1, e1, lx1⟩ := rf.there
      refine ⟨_, rfl, o1, _, rfl, .inl (SqL.of e1), fun x hx => ?_⟩
      have u := same_upd hx (.lst x1)
      exact ⟨x, f, rfl, u, rf.keep u, rf.copy e1 hx, cf⟩
    · exact ⟨o2, g, rfl, Same.refl _, rf, rg, cm⟩
  clear rg cm
  rintro _ H5 ⟨o2, g, rfl, s5, rf, rg, cm⟩
  obtain ⟨x1, e1, lx1⟩ := rf.there
  obtain ⟨x2, e2, lx2⟩ := rg.there
  refine ⟨_, rfl, o1, _, rfl, .inl (SqL.of e1), fun x hx => ?_⟩
  have t1 := same_upd hx (.lst x1)
  refine ⟨_, rfl, o2, _, rfl, .inl (SqL.of (t1 _ _ e2)), fun y hy => ⟨(by show 2 ≤ sizeLine; decide), fun hd hhd => ?_⟩⟩
  have t2 := same_upd hy (.lst x2)
  have t3 := same_upd hhd (.lst [.ref x, .ref y])
  have t13 := t1.trans (t2.trans t3)
  have rwx : Rw (upd (upd (upd H5 x (.lst x1)) y (.lst x2)) hd (.lst [.ref x, .ref y])) x f := (rf.copy e1 hx).keep (t2.trans t3)
  have rwy : Rw (upd (upd (upd H5 x (.lst x1)) y (.lst x2)) hd (.lst [.ref x, .ref y])) y g := ((rg.keep t1).copy (t1 _ _ e2) hy).keep t3
  have ehd : (upd (upd (upd H5 x (.lst x1)) y (.lst x2)) hd (.lst [.ref x, .ref y])) hd = some (.lst [.ref x, .ref y]) := upd_same
  have nhx : hd ≠ x := fun z => ((rf.copy e1 hx).keep t2).ne hhd z.symm
  have nhy : hd ≠ y := fun z => ((rg.keep t1).copy (t1 _ _ e2) hy).ne hhd z.symm
  generalize upd (upd (upd H5 x (.lst x1)) y (.lst x2)) hd (.lst [.ref x, .ref y]) = H8 at *
  have ro := rf.keep t13
  have rt := rg.keep t13
  have lf := cm.lf
  have lg := cm.lg
  refine ⟨_, rfl, hd, _, _, _, rfl, rfl, SqL.of ehd, rfl, _, rfl, hd, _, _, _, rfl, rfl, SqL.of ehd, rfl, x, y, f, g, rfl, rwx, rwy, cm, fun told H9 s9 n9 rw9 => ?_⟩
  have lm : (Po.mon (Po.eu 6 f g)).length ≤ 1000 := by
    have := Po.eu_len 6 f g cm.sg
    rw [Po.mon_len]
    (first | lia | omega)
  refine ⟨_, rfl, _, rfl, _, rfl, o1, o2, f, g, rfl, ro.keep s9, rt.keep s9, cm.sf, cm.sg, lf, lg, cm_on cm.cf, cm_on cm.cg, fun due H10 s10 n10 rw10 => ?_⟩
  refine ⟨told, due, _, rfl, rw9.keep s10, rw10, lm, _, rfl, iteF ?_⟩
  have s910 := s9.trans s10
  refine ⟨_, rfl, _, rfl, _, rfl, (by show 2 ≤ sizeLine; decide), fun m hm => ?_⟩
  have u1 := same_upd hm (.lst [.ref o1, .ref o2])
  have su := s910.trans u1
  have dv1 : Dv (upd H10 m (.lst [.ref o1, .ref o2])) (.ref hd) (drr [f, g]) := .lst (su _ _ ehd) (.cons (rwx.keep su).dv (.cons (rwy.keep su).dv .nil))
  have dv2 : Dv (upd H10 m (.lst [.ref o1, .ref o2])) (.ref m) (drr [f, g]) := .lst upd_same (.cons (ro.keep su).dv (.cons (rt.keep su).dv .nil))
  refine ⟨_, _, dv1, dv2, Nat.le_trans (depth_drr _) (by decide), _, rfl, iteNB (eqv_drr_self _) ?_⟩
  refine ⟨_, rfl, _, rfl, _, rfl, _, rfl, (by show 2 ≤ sizeLine; decide), fun m2 hm2 => ?_⟩
  have u2 := same_upd hm2 (.lst [.ref o1, .ref o2])
  have sa := s10.trans (u1.trans u2)
  refine ⟨told, hd, m2, rfl, Po.mon (Po.eu 6 f g), [x, y], [o1, o2], [f, g], rw9.keep sa, lm, (s9.trans sa) _ _ ehd, .cons (rwx.keep (s9.trans sa)) (.cons (rwy.keep (s9.trans sa)) .nil), upd_same, .cons (ro.keep (s9.trans sa)) (.cons (rt.keep (s9.trans sa)) .nil), ?_, ?_, fun z => ne_of_none ehd n9 z.symm, (rw9.keep (s10.trans u1)).ne hm2, by simp [nhx, nhy], by simp, ?_, fun H' _ => q H'⟩
  · simp [show told ≠ x from fun z => rwx.ne n9 z.symm, show told ≠ y from fun z => rwy.ne n9 z.symm]
  · simp [show told ≠ o1 from fun z => ro.ne n9 z.symm, show told ≠ o2 from fun z => rt.ne n9 z.symm]
  · intro rs hrs
    rcases List.mem_cons.mp hrs with e | e
    · rw [e]; (first | lia | omega)
    · have e : rs = g := by simpa using e
      rw [e]; (first | lia | omega)

end
set_option maxHeartbeats 4000000 in
theorem all_mk {l : PySem.W.OpenLaw} {w : World} {K : PySem.W.Frag} {h : Heap} {mg : Str → Option Value} {fa f1 f2 f3 f4 f5 f6 f7 f8 f9 f10 f11 f12 f13 f14 f15 f16 f17 f18 f19 f20 f21 f22 f23 f24 f25 f26 f27 f28 f29 f30 f31 f32 f33 f34 f35 f36 f37 f38 f39 f40 f41 f42 : Addr} (X : K.In h) (G : h.Ns mainGlobals mg) (hfa : mg "law" = some (.ref fa))
    {od1 an1 od2 an2 od3 an3 od4 an4 od5 an5 od6 an6 od7 an7 od8 an8 od9 an9 od10 an10 od11 an11 od12 an12 od13 an13 od14 an14 od15 an15 od16 an16 od17 an17 od18 an18 od19 an19 od20 an20 od21 an21 od22 an22 od23 an23 od24 an24 od25 an25 od26 an26 od27 an27 od28 an28 od29 an29 od30 an30 od31 an31 od32 an32 od33 an33 od34 an34 od35 an35 od36 an36 od37 an37 od38 an38 od39 an39 od40 an40 od41 an41 od42 an42 : Option Addr} {sl1 sl2 sl3 sl4 sl5 sl6 sl7 sl8 sl9 sl10 sl11 sl12 sl13 sl14 sl15 sl16 sl17 sl18 sl19 sl20 sl21 sl22 sl23 sl24 sl25 sl26 sl27 sl28 sl29 sl30 sl31 sl32 sl33 sl34 sl35 sl36 sl37 sl38 sl39 sl40 sl41 sl42 : Array (Option Value)} {oc1 kV1 dc1 pm1 cd1 ct1 oc2 kV2 dc2 pm2 cd2 ct2 oc3 kV3 dc3 pm3 cd3 ct3 oc4 kV4 dc4 pm4 cd4 ct4 oc5 kV5 dc5 pm5 cd5 ct5 oc6 kV6 dc6 pm6 cd6 ct6 oc7 kV7 dc7 pm7 cd7 ct7 oc8 kV8 dc8 pm8 cd8 ct8 oc9 kV9 dc9 pm9 cd9 ct9 oc10 kV10 dc10 pm10 cd10 ct10 oc11 kV11 dc11 pm11 cd11 ct11 oc12 kV12 dc12 pm12 cd12 ct12 oc13 kV13 dc13 pm13 cd13 ct13 oc14 kV14 dc14 pm14 cd14 ct14 oc15 kV15 dc15 pm15 cd15 ct15 oc16 kV16 dc16 pm16 cd16 ct16 oc17 kV17 dc17 pm17 cd17 ct17 oc18 kV18 dc18 pm18 cd18 ct18 oc19 kV19 dc19 pm19 cd19 ct19 oc20 kV20 dc20 pm20 cd20 ct20 oc21 kV21 dc21 pm21 cd21 ct21 oc22 kV22 dc22 pm22 cd22 ct22 oc23 kV23 dc23 pm23 cd23 ct23 oc24 kV24 dc24 pm24 cd24 ct24 oc25 kV25 dc25 pm25 cd25 ct25 oc26 kV26 dc26 pm26 cd26 ct26 oc27 kV27 dc27 pm27 cd27 ct27 oc28 kV28 dc28 pm28 cd28 ct28 oc29 kV29 dc29 pm29 cd29 ct29 oc30 kV30 dc30 pm30 cd30 ct30 oc31 kV31 dc31 pm31 cd31 ct31 oc32 kV32 dc32 pm32 cd32 ct32 oc33 kV33 dc33 pm33 cd33 ct33 oc34 kV34 dc34 pm34 cd34 ct34 oc35 kV35 dc35 pm35 cd35 ct35 oc36 kV36 dc36 pm36 cd36 ct36 oc37 kV37 dc37 pm37 cd37 ct37 oc38 kV38 dc38 pm38 cd38 ct38 oc39 kV39 dc39 pm39 cd39 ct39 oc40 kV40 dc40 pm40 cd40 ct40 oc41 kV41 dc41 pm41 cd41 ct41 oc42 kV42 dc42 pm42 cd42 ct42 : Value}
    {dt3 : Addr} {dto3 : Value} {dtd3 : Option Addr} {dtn3 : Nat} {dts3 : Array (Option Value)} {dtk3_0 : Tok}
    (a1 : PySem.W.nsIn K mainGlobals "divisor" = some (some (.ref f1))) (l1 : K.lookup f1 = some ⟨oc1, od1, .func (PySem.W.fnOf "divisor" "divisor" (defArgs s_divisor) (defBody s_divisor) (defScope s_divisor) .none kV1 dc1 pm1 an1 cd1 ct1), sl1⟩) (c1 : PySem.W.codeIn K cd1 "divisor" = true) (k1 : PySem.W.keepIn K (.ref f1) = true)
    (a2 : PySem.W.nsIn K mainGlobals "is_whole" = some (some (.ref f2))) (l2 : K.lookup f2 = some ⟨oc2, od2, .func (PySem.W.fnOf "is_whole" "is_whole" (defArgs s_is_whole) (defBody s_is_whole) (defScope s_is_whole) .none kV2 dc2 pm2 an2 cd2 ct2), sl2⟩) (c2 : PySem.W.codeIn K cd2 "is_whole" = true) (k2 : PySem.W.keepIn K (.ref f2) = true)
    (a3 : PySem.W.nsIn K mainGlobals "fraction" = some (some (.ref f3))) (l3 : K.lookup f3 = some ⟨oc3, od3, .func (PySem.W.fnOf "fraction" "fraction" (defArgs s_fraction) (defBody s_fraction) (defScope s_fraction) (.ref dt3) kV3 dc3 pm3 an3 cd3 ct3), sl3⟩) (c3 : PySem.W.codeIn K cd3 "fraction" = true) (k3 : PySem.W.keepIn K (.ref f3) = true)
    (d3 : K.lookup dt3 = some ⟨dto3, dtd3, .seq #[.int 1 dtk3_0] dtn3, dts3⟩)
    (a4 : PySem.W.nsIn K mainGlobals "plus" = some (some (.ref f4))) (l4 : K.lookup f4 = some ⟨oc4, od4, .func (PySem.W.fnOf "plus" "plus" (defArgs s_plus) (defBody s_plus) (defScope s_plus) .none kV4 dc4 pm4 an4 cd4 ct4), sl4⟩) (c4 : PySem.W.codeIn K cd4 "plus" = true) (k4 : PySem.W.keepIn K (.ref f4) = true)
    (a5 : PySem.W.nsIn K mainGlobals "minus" = some (some (.ref f5))) (l5 : K.lookup f5 = some ⟨oc5, od5, .func (PySem.W.fnOf "minus" "minus" (defArgs s_minus) (defBody s_minus) (defScope s_minus) .none kV5 dc5 pm5 an5 cd5 ct5), sl5⟩) (c5 : PySem.W.codeIn K cd5 "minus" = true) (k5 : PySem.W.keepIn K (.ref f5) = true)
    (a6 : PySem.W.nsIn K mainGlobals "times" = some (some (.ref f6))) (l6 : K.lookup f6 = some ⟨oc6, od6, .func (PySem.W.fnOf "times" "times" (defArgs s_times) (defBody s_times) (defScope s_times) .none kV6 dc6 pm6 an6 cd6 ct6), sl6⟩) (c6 : PySem.W.codeIn K cd6 "times" = true) (k6 : PySem.W.keepIn K (.ref f6) = true)
    (a7 : PySem.W.nsIn K mainGlobals "over" = some (some (.ref f7))) (l7 : K.lookup f7 = some ⟨oc7, od7, .func (PySem.W.fnOf "over" "over" (defArgs s_over) (defBody s_over) (defScope s_over) .none kV7 dc7 pm7 an7 cd7 ct7), sl7⟩) (c7 : PySem.W.codeIn K cd7 "over" = true) (k7 : PySem.W.keepIn K (.ref f7) = true)
    (a8 : PySem.W.nsIn K mainGlobals "side" = some (some (.ref f8))) (l8 : K.lookup f8 = some ⟨oc8, od8, .func (PySem.W.fnOf "side" "side" (defArgs s_side) (defBody s_side) (defScope s_side) .none kV8 dc8 pm8 an8 cd8 ct8), sl8⟩) (c8 : PySem.W.codeIn K cd8 "side" = true) (k8 : PySem.W.keepIn K (.ref f8) = true)
    (a9 : PySem.W.nsIn K mainGlobals "poly" = some (some (.ref f9))) (l9 : K.lookup f9 = some ⟨oc9, od9, .func (PySem.W.fnOf "poly" "poly" (defArgs s_poly) (defBody s_poly) (defScope s_poly) .none kV9 dc9 pm9 an9 cd9 ct9), sl9⟩) (c9 : PySem.W.codeIn K cd9 "poly" = true) (k9 : PySem.W.keepIn K (.ref f9) = true)
    (a10 : PySem.W.nsIn K mainGlobals "scaled" = some (some (.ref f10))) (l10 : K.lookup f10 = some ⟨oc10, od10, .func (PySem.W.fnOf "scaled" "scaled" (defArgs s_scaled) (defBody s_scaled) (defScope s_scaled) .none kV10 dc10 pm10 an10 cd10 ct10), sl10⟩) (c10 : PySem.W.codeIn K cd10 "scaled" = true) (k10 : PySem.W.keepIn K (.ref f10) = true)
    (a11 : PySem.W.nsIn K mainGlobals "shared_bottom" = some (some (.ref f11))) (l11 : K.lookup f11 = some ⟨oc11, od11, .func (PySem.W.fnOf "shared_bottom" "shared_bottom" (defArgs s_shared_bottom) (defBody s_shared_bottom) (defScope s_shared_bottom) .none kV11 dc11 pm11 an11 cd11 ct11), sl11⟩) (c11 : PySem.W.codeIn K cd11 "shared_bottom" = true) (k11 : PySem.W.keepIn K (.ref f11) = true)
    (a12 : PySem.W.nsIn K mainGlobals "whole_figures" = some (some (.ref f12))) (l12 : K.lookup f12 = some ⟨oc12, od12, .func (PySem.W.fnOf "whole_figures" "whole_figures" (defArgs s_whole_figures) (defBody s_whole_figures) (defScope s_whole_figures) .none kV12 dc12 pm12 an12 cd12 ct12), sl12⟩) (c12 : PySem.W.codeIn K cd12 "whole_figures" = true) (k12 : PySem.W.keepIn K (.ref f12) = true)
    (a13 : PySem.W.nsIn K mainGlobals "rest_less" = some (some (.ref f13))) (l13 : K.lookup f13 = some ⟨oc13, od13, .func (PySem.W.fnOf "rest_less" "rest_less" (defArgs s_rest_less) (defBody s_rest_less) (defScope s_rest_less) .none kV13 dc13 pm13 an13 cd13 ct13), sl13⟩) (c13 : PySem.W.codeIn K cd13 "rest_less" = true) (k13 : PySem.W.keepIn K (.ref f13) = true)
    (a14 : PySem.W.nsIn K mainGlobals "divided" = some (some (.ref f14))) (l14 : K.lookup f14 = some ⟨oc14, od14, .func (PySem.W.fnOf "divided" "divided" (defArgs s_divided) (defBody s_divided) (defScope s_divided) .none kV14 dc14 pm14 an14 cd14 ct14), sl14⟩) (c14 : PySem.W.codeIn K cd14 "divided" = true) (k14 : PySem.W.keepIn K (.ref f14) = true)
    (a15 : PySem.W.nsIn K mainGlobals "small_multiple" = some (some (.ref f15))) (l15 : K.lookup f15 = some ⟨oc15, od15, .func (PySem.W.fnOf "small_multiple" "small_multiple" (defArgs s_small_multiple) (defBody s_small_multiple) (defScope s_small_multiple) .none kV15 dc15 pm15 an15 cd15 ct15), sl15⟩) (c15 : PySem.W.codeIn K cd15 "small_multiple" = true) (k15 : PySem.W.keepIn K (.ref f15) = true)
    (a16 : PySem.W.nsIn K mainGlobals "inverse" = some (some (.ref f16))) (l16 : K.lookup f16 = some ⟨oc16, od16, .func (PySem.W.fnOf "inverse" "inverse" (defArgs s_inverse) (defBody s_inverse) (defScope s_inverse) .none kV16 dc16 pm16 an16 cd16 ct16), sl16⟩) (c16 : PySem.W.codeIn K cd16 "inverse" = true) (k16 : PySem.W.keepIn K (.ref f16) = true)
    (a17 : PySem.W.nsIn K mainGlobals "fraction_of" = some (some (.ref f17))) (l17 : K.lookup f17 = some ⟨oc17, od17, .func (PySem.W.fnOf "fraction_of" "fraction_of" (defArgs s_fraction_of) (defBody s_fraction_of) (defScope s_fraction_of) .none kV17 dc17 pm17 an17 cd17 ct17), sl17⟩) (c17 : PySem.W.codeIn K cd17 "fraction_of" = true) (k17 : PySem.W.keepIn K (.ref f17) = true)
    (a18 : PySem.W.nsIn K mainGlobals "monic_row" = some (some (.ref f18))) (l18 : K.lookup f18 = some ⟨oc18, od18, .func (PySem.W.fnOf "monic_row" "monic_row" (defArgs s_monic_row) (defBody s_monic_row) (defScope s_monic_row) .none kV18 dc18 pm18 an18 cd18 ct18), sl18⟩) (c18 : PySem.W.codeIn K cd18 "monic_row" = true) (k18 : PySem.W.keepIn K (.ref f18) = true)
    (a19 : PySem.W.nsIn K mainGlobals "rest_by" = some (some (.ref f19))) (l19 : K.lookup f19 = some ⟨oc19, od19, .func (PySem.W.fnOf "rest_by" "rest_by" (defArgs s_rest_by) (defBody s_rest_by) (defScope s_rest_by) .none kV19 dc19 pm19 an19 cd19 ct19), sl19⟩) (c19 : PySem.W.codeIn K cd19 "rest_by" = true) (k19 : PySem.W.keepIn K (.ref f19) = true)
    (a20 : PySem.W.nsIn K mainGlobals "common_row" = some (some (.ref f20))) (l20 : K.lookup f20 = some ⟨oc20, od20, .func (PySem.W.fnOf "common_row" "common_row" (defArgs s_common_row) (defBody s_common_row) (defScope s_common_row) .none kV20 dc20 pm20 an20 cd20 ct20), sl20⟩) (c20 : PySem.W.codeIn K cd20 "common_row" = true) (k20 : PySem.W.keepIn K (.ref f20) = true)
    (a21 : PySem.W.nsIn K mainGlobals "common_guess" = some (some (.ref f21))) (l21 : K.lookup f21 = some ⟨oc21, od21, .func (PySem.W.fnOf "common_guess" "common_guess" (defArgs s_common_guess) (defBody s_common_guess) (defScope s_common_guess) .none kV21 dc21 pm21 an21 cd21 ct21), sl21⟩) (c21 : PySem.W.codeIn K cd21 "common_guess" = true) (k21 : PySem.W.keepIn K (.ref f21) = true)
    (a22 : PySem.W.nsIn K mainGlobals "divides" = some (some (.ref f22))) (l22 : K.lookup f22 = some ⟨oc22, od22, .func (PySem.W.fnOf "divides" "divides" (defArgs s_divides) (defBody s_divides) (defScope s_divides) .none kV22 dc22 pm22 an22 cd22 ct22), sl22⟩) (c22 : PySem.W.codeIn K cd22 "divides" = true) (k22 : PySem.W.keepIn K (.ref f22) = true)
    (a23 : PySem.W.nsIn K mainGlobals "with_last_one" = some (some (.ref f23))) (l23 : K.lookup f23 = some ⟨oc23, od23, .func (PySem.W.fnOf "with_last_one" "with_last_one" (defArgs s_with_last_one) (defBody s_with_last_one) (defScope s_with_last_one) .none kV23 dc23 pm23 an23 cd23 ct23), sl23⟩) (c23 : PySem.W.codeIn K cd23 "with_last_one" = true) (k23 : PySem.W.keepIn K (.ref f23) = true)
    (a24 : PySem.W.nsIn K mainGlobals "common" = some (some (.ref f24))) (l24 : K.lookup f24 = some ⟨oc24, od24, .func (PySem.W.fnOf "common" "common" (defArgs s_common) (defBody s_common) (defScope s_common) .none kV24 dc24 pm24 an24 cd24 ct24), sl24⟩) (c24 : PySem.W.codeIn K cd24 "common" = true) (k24 : PySem.W.keepIn K (.ref f24) = true)
    (a25 : PySem.W.nsIn K mainGlobals "_law_cell_at" = some (some (.ref f25))) (l25 : K.lookup f25 = some ⟨oc25, od25, .func (PySem.W.fnOf "_law_cell_at" "_law_cell_at" (defArgs s_law_cell_at) (defBody s_law_cell_at) (defScope s_law_cell_at) .none kV25 dc25 pm25 an25 cd25 ct25), sl25⟩) (c25 : PySem.W.codeIn K cd25 "_law_cell_at" = true) (k25 : PySem.W.keepIn K (.ref f25) = true)
    (a26 : PySem.W.nsIn K mainGlobals "_law_mixed" = some (some (.ref f26))) (l26 : K.lookup f26 = some ⟨oc26, od26, .func (PySem.W.fnOf "_law_mixed" "_law_mixed" (defArgs s_law_mixed) (defBody s_law_mixed) (defScope s_law_mixed) .none kV26 dc26 pm26 an26 cd26 ct26), sl26⟩) (c26 : PySem.W.codeIn K cd26 "_law_mixed" = true) (k26 : PySem.W.keepIn K (.ref f26) = true)
    (a27 : PySem.W.nsIn K mainGlobals "_law_signed" = some (some (.ref f27))) (l27 : K.lookup f27 = some ⟨oc27, od27, .func (PySem.W.fnOf "_law_signed" "_law_signed" (defArgs s_law_signed) (defBody s_law_signed) (defScope s_law_signed) .none kV27 dc27 pm27 an27 cd27 ct27), sl27⟩) (c27 : PySem.W.codeIn K cd27 "_law_signed" = true) (k27 : PySem.W.keepIn K (.ref f27) = true)
    (a28 : PySem.W.nsIn K mainGlobals "_law_part" = some (some (.ref f28))) (l28 : K.lookup f28 = some ⟨oc28, od28, .func (PySem.W.fnOf "_law_part" "_law_part" (defArgs s_law_part) (defBody s_law_part) (defScope s_law_part) .none kV28 dc28 pm28 an28 cd28 ct28), sl28⟩) (c28 : PySem.W.codeIn K cd28 "_law_part" = true) (k28 : PySem.W.keepIn K (.ref f28) = true)
    (a29 : PySem.W.nsIn K mainGlobals "_law_low" = some (some (.ref f29))) (l29 : K.lookup f29 = some ⟨oc29, od29, .func (PySem.W.fnOf "_law_low" "_law_low" (defArgs s_law_low) (defBody s_law_low) (defScope s_law_low) .none kV29 dc29 pm29 an29 cd29 ct29), sl29⟩) (c29 : PySem.W.codeIn K cd29 "_law_low" = true) (k29 : PySem.W.keepIn K (.ref f29) = true)
    (a30 : PySem.W.nsIn K mainGlobals "_law_strip" = some (some (.ref f30))) (l30 : K.lookup f30 = some ⟨oc30, od30, .func (PySem.W.fnOf "_law_strip" "_law_strip" (defArgs s_law_strip) (defBody s_law_strip) (defScope s_law_strip) .none kV30 dc30 pm30 an30 cd30 ct30), sl30⟩) (c30 : PySem.W.codeIn K cd30 "_law_strip" = true) (k30 : PySem.W.keepIn K (.ref f30) = true)
    (a31 : PySem.W.nsIn K mainGlobals "_law_row_by" = some (some (.ref f31))) (l31 : K.lookup f31 = some ⟨oc31, od31, .func (PySem.W.fnOf "_law_row_by" "_law_row_by" (defArgs s_law_row_by) (defBody s_law_row_by) (defScope s_law_row_by) .none kV31 dc31 pm31 an31 cd31 ct31), sl31⟩) (c31 : PySem.W.codeIn K cd31 "_law_row_by" = true) (k31 : PySem.W.keepIn K (.ref f31) = true)
    (a32 : PySem.W.nsIn K mainGlobals "_law_add" = some (some (.ref f32))) (l32 : K.lookup f32 = some ⟨oc32, od32, .func (PySem.W.fnOf "_law_add" "_law_add" (defArgs s_law_add) (defBody s_law_add) (defScope s_law_add) .none kV32 dc32 pm32 an32 cd32 ct32), sl32⟩) (c32 : PySem.W.codeIn K cd32 "_law_add" = true) (k32 : PySem.W.keepIn K (.ref f32) = true)
    (a33 : PySem.W.nsIn K mainGlobals "_law_mul" = some (some (.ref f33))) (l33 : K.lookup f33 = some ⟨oc33, od33, .func (PySem.W.fnOf "_law_mul" "_law_mul" (defArgs s_law_mul) (defBody s_law_mul) (defScope s_law_mul) .none kV33 dc33 pm33 an33 cd33 ct33), sl33⟩) (c33 : PySem.W.codeIn K cd33 "_law_mul" = true) (k33 : PySem.W.keepIn K (.ref f33) = true)
    (a34 : PySem.W.nsIn K mainGlobals "_law_at" = some (some (.ref f34))) (l34 : K.lookup f34 = some ⟨oc34, od34, .func (PySem.W.fnOf "_law_at" "_law_at" (defArgs s_law_at) (defBody s_law_at) (defScope s_law_at) .none kV34 dc34 pm34 an34 cd34 ct34), sl34⟩) (c34 : PySem.W.codeIn K cd34 "_law_at" = true) (k34 : PySem.W.keepIn K (.ref f34) = true)
    (a35 : PySem.W.nsIn K mainGlobals "_law_same" = some (some (.ref f35))) (l35 : K.lookup f35 = some ⟨oc35, od35, .func (PySem.W.fnOf "_law_same" "_law_same" (defArgs s_law_same) (defBody s_law_same) (defScope s_law_same) .none kV35 dc35 pm35 an35 cd35 ct35), sl35⟩) (c35 : PySem.W.codeIn K cd35 "_law_same" = true) (k35 : PySem.W.keepIn K (.ref f35) = true)
    (a36 : PySem.W.nsIn K mainGlobals "_law_product" = some (some (.ref f36))) (l36 : K.lookup f36 = some ⟨oc36, od36, .func (PySem.W.fnOf "_law_product" "_law_product" (defArgs s_law_product) (defBody s_law_product) (defScope s_law_product) .none kV36 dc36 pm36 an36 cd36 ct36), sl36⟩) (c36 : PySem.W.codeIn K cd36 "_law_product" = true) (k36 : PySem.W.keepIn K (.ref f36) = true)
    (a37 : PySem.W.nsIn K mainGlobals "_law_quotient" = some (some (.ref f37))) (l37 : K.lookup f37 = some ⟨oc37, od37, .func (PySem.W.fnOf "_law_quotient" "_law_quotient" (defArgs s_law_quotient) (defBody s_law_quotient) (defScope s_law_quotient) .none kV37 dc37 pm37 an37 cd37 ct37), sl37⟩) (c37 : PySem.W.codeIn K cd37 "_law_quotient" = true) (k37 : PySem.W.keepIn K (.ref f37) = true)
    (a38 : PySem.W.nsIn K mainGlobals "_law_less" = some (some (.ref f38))) (l38 : K.lookup f38 = some ⟨oc38, od38, .func (PySem.W.fnOf "_law_less" "_law_less" (defArgs s_law_less) (defBody s_law_less) (defScope s_law_less) .none kV38 dc38 pm38 an38 cd38 ct38), sl38⟩) (c38 : PySem.W.codeIn K cd38 "_law_less" = true) (k38 : PySem.W.keepIn K (.ref f38) = true)
    (a39 : PySem.W.nsIn K mainGlobals "_law_rest" = some (some (.ref f39))) (l39 : K.lookup f39 = some ⟨oc39, od39, .func (PySem.W.fnOf "_law_rest" "_law_rest" (defArgs s_law_rest) (defBody s_law_rest) (defScope s_law_rest) .none kV39 dc39 pm39 an39 cd39 ct39), sl39⟩) (c39 : PySem.W.codeIn K cd39 "_law_rest" = true) (k39 : PySem.W.keepIn K (.ref f39) = true)
    (a40 : PySem.W.nsIn K mainGlobals "_law_walked" = some (some (.ref f40))) (l40 : K.lookup f40 = some ⟨oc40, od40, .func (PySem.W.fnOf "_law_walked" "_law_walked" (defArgs s_law_walked) (defBody s_law_walked) (defScope s_law_walked) .none kV40 dc40 pm40 an40 cd40 ct40), sl40⟩) (c40 : PySem.W.codeIn K cd40 "_law_walked" = true) (k40 : PySem.W.keepIn K (.ref f40) = true)
    (a41 : PySem.W.nsIn K mainGlobals "_law_apart" = some (some (.ref f41))) (l41 : K.lookup f41 = some ⟨oc41, od41, .func (PySem.W.fnOf "_law_apart" "_law_apart" (defArgs s_law_apart) (defBody s_law_apart) (defScope s_law_apart) .none kV41 dc41 pm41 an41 cd41 ct41), sl41⟩) (c41 : PySem.W.codeIn K cd41 "_law_apart" = true) (k41 : PySem.W.keepIn K (.ref f41) = true)
    (a42 : PySem.W.nsIn K mainGlobals "law" = some (some (.ref f42))) (l42 : K.lookup f42 = some ⟨oc42, od42, .func (PySem.W.fnOf "law" "law" (defArgs s_law) (defBody s_law) (defScope s_law) .none kV42 dc42 pm42 an42 cd42 ct42), sl42⟩) (c42 : PySem.W.codeIn K cd42 "law" = true) (k42 : PySem.W.keepIn K (.ref f42) = true)
    (z_abs : PySem.W.nsIn K mainGlobals "abs" = some none) (z_len : PySem.W.nsIn K mainGlobals "len" = some none) (z_isinstance : PySem.W.nsIn K mainGlobals "isinstance" = some none) (z_int : PySem.W.nsIn K mainGlobals "int" = some none) (z_bool : PySem.W.nsIn K mainGlobals "bool" = some none) (z_tuple : PySem.W.nsIn K mainGlobals "tuple" = some none) (z_range : PySem.W.nsIn K mainGlobals "range" = some none) (z_list : PySem.W.nsIn K mainGlobals "list" = some none) :
    ∃ fd : FuncData, (∀ (s : Shared) (v : Value), BindsTo s fd ⟨[v], []⟩ [("_law_script", v)]) ∧ ∀ base : Heap, K.In base → base.Ns mainGlobals mg → FnOk l.prog w K mg base CX0 8 fa fd ["_law_script"] (sp_law K) := by
  have e := hfa.symm.trans (PySem.W.mg_of X G a42)
  cases e
  have T : Txt mg := ⟨PySem.W.mg_none_of X G z_abs, PySem.W.mg_none_of X G z_len, PySem.W.mg_none_of X G z_isinstance, PySem.W.mg_none_of X G z_int, PySem.W.mg_none_of X G z_bool, PySem.W.mg_none_of X G z_tuple, PySem.W.mg_none_of X G z_range, PySem.W.mg_none_of X G z_list⟩
  have F1 := fun_mk (st := s_divisor) l1 c1 k1
  have b1 := F1.binds (ps := ["one", "other"]) fun _ _ _ _ _ _ us hl => by
    obtain ⟨u0, u1, rfl⟩ := la2 hl
    rfl
  have F2 := fun_mk (st := s_is_whole) l2 c2 k2
  have b2 := F2.binds (ps := ["thing"]) fun _ _ _ _ _ _ us hl => by
    obtain ⟨u0, rfl⟩ := la1 hl
    rfl
  have F4 := fun_mk (st := s_plus) l4 c4 k4
  have b4 := F4.binds (ps := ["one", "other"]) fun _ _ _ _ _ _ us hl => by
    obtain ⟨u0, u1, rfl⟩ := la2 hl
    rfl
  have F5 := fun_mk (st := s_minus) l5 c5 k5
  have b5 := F5.binds (ps := ["one", "other"]) fun _ _ _ _ _ _ us hl => by
    obtain ⟨u0, u1, rfl⟩ := la2 hl
    rfl
  have F6 := fun_mk (st := s_times) l6 c6 k6
  have b6 := F6.binds (ps := ["one", "other"]) fun _ _ _ _ _ _ us hl => by
    obtain ⟨u0, u1, rfl⟩ := la2 hl
    rfl
  have F7 := fun_mk (st := s_over) l7 c7 k7
  have b7 := F7.binds (ps := ["one", "other"]) fun _ _ _ _ _ _ us hl => by
    obtain ⟨u0, u1, rfl⟩ := la2 hl
    rfl
  have F8 := fun_mk (st := s_side) l8 c8 k8
  have b8 := F8.binds (ps := ["one"]) fun _ _ _ _ _ _ us hl => by
    obtain ⟨u0, rfl⟩ := la1 hl
    rfl
  have F9 := fun_mk (st := s_poly) l9 c9 k9
  have b9 := F9.binds (ps := ["figures"]) fun _ _ _ _ _ _ us hl => by
    obtain ⟨u0, rfl⟩ := la1 hl
    rfl
  have F10 := fun_mk (st := s_scaled) l10 c10 k10
  have b10 := F10.binds (ps := ["one", "number"]) fun _ _ _ _ _ _ us hl => by
    obtain ⟨u0, u1, rfl⟩ := la2 hl
    rfl
  have F11 := fun_mk (st := s_shared_bottom) l11 c11 k11
  have b11 := F11.binds (ps := ["figures"]) fun _ _ _ _ _ _ us hl => by
    obtain ⟨u0, rfl⟩ := la1 hl
    rfl
  have F12 := fun_mk (st := s_whole_figures) l12 c12 k12
  have b12 := F12.binds (ps := ["one", "bottom"]) fun _ _ _ _ _ _ us hl => by
    obtain ⟨u0, u1, rfl⟩ := la2 hl
    rfl
  have F13 := fun_mk (st := s_rest_less) l13 c13 k13
  have b13 := F13.binds (ps := ["rest", "factor", "other"]) fun _ _ _ _ _ _ us hl => by
    obtain ⟨u0, u1, u2, rfl⟩ := la3 hl
    rfl
  have F14 := fun_mk (st := s_divided) l14 c14 k14
  have b14 := F14.binds (ps := ["one", "other"]) fun _ _ _ _ _ _ us hl => by
    obtain ⟨u0, u1, rfl⟩ := la2 hl
    rfl
  have F15 := fun_mk (st := s_small_multiple) l15 c15 k15
  have b15 := F15.binds (ps := ["number", "modulus", "most"]) fun _ _ _ _ _ _ us hl => by
    obtain ⟨u0, u1, u2, rfl⟩ := la3 hl
    rfl
  have F16 := fun_mk (st := s_inverse) l16 c16 k16
  have b16 := F16.binds (ps := ["number", "modulus"]) fun _ _ _ _ _ _ us hl => by
    obtain ⟨u0, u1, rfl⟩ := la2 hl
    rfl
  have F17 := fun_mk (st := s_fraction_of) l17 c17 k17
  have b17 := F17.binds (ps := ["residue", "modulus", "most"]) fun _ _ _ _ _ _ us hl => by
    obtain ⟨u0, u1, u2, rfl⟩ := la3 hl
    rfl
  have F18 := fun_mk (st := s_monic_row) l18 c18 k18
  have b18 := F18.binds (ps := ["row", "modulus"]) fun _ _ _ _ _ _ us hl => by
    obtain ⟨u0, u1, rfl⟩ := la2 hl
    rfl
  have F19 := fun_mk (st := s_rest_by) l19 c19 k19
  have b19 := F19.binds (ps := ["row", "monic", "modulus"]) fun _ _ _ _ _ _ us hl => by
    obtain ⟨u0, u1, u2, rfl⟩ := la3 hl
    rfl
  have F20 := fun_mk (st := s_common_row) l20 c20 k20
  have b20 := F20.binds (ps := ["first", "second", "modulus"]) fun _ _ _ _ _ _ us hl => by
    obtain ⟨u0, u1, u2, rfl⟩ := la3 hl
    rfl
  have F21 := fun_mk (st := s_common_guess) l21 c21 k21
  have b21 := F21.binds (ps := ["one", "other", "root"]) fun _ _ _ _ _ _ us hl => by
    obtain ⟨u0, u1, u2, rfl⟩ := la3 hl
    rfl
  have F22 := fun_mk (st := s_divides) l22 c22 k22
  have b22 := F22.binds (ps := ["part", "one"]) fun _ _ _ _ _ _ us hl => by
    obtain ⟨u0, u1, rfl⟩ := la2 hl
    rfl
  have F23 := fun_mk (st := s_with_last_one) l23 c23 k23
  have b23 := F23.binds (ps := ["one"]) fun _ _ _ _ _ _ us hl => by
    obtain ⟨u0, rfl⟩ := la1 hl
    rfl
  have F24 := fun_mk (st := s_common) l24 c24 k24
  have b24 := F24.binds (ps := ["one", "other"]) fun _ _ _ _ _ _ us hl => by
    obtain ⟨u0, u1, rfl⟩ := la2 hl
    rfl
  have F25 := fun_mk (st := s_law_cell_at) l25 c25 k25
  have b25 := F25.binds (ps := ["_law_script", "_law_k"]) fun _ _ _ _ _ _ us hl => by
    obtain ⟨u0, u1, rfl⟩ := la2 hl
    rfl
  have F26 := fun_mk (st := s_law_mixed) l26 c26 k26
  have b26 := F26.binds (ps := ["_law_cell", "_law_k"]) fun _ _ _ _ _ _ us hl => by
    obtain ⟨u0, u1, rfl⟩ := la2 hl
    rfl
  have F27 := fun_mk (st := s_law_signed) l27 c27 k27
  have b27 := F27.binds (ps := ["_law_number"]) fun _ _ _ _ _ _ us hl => by
    obtain ⟨u0, rfl⟩ := la1 hl
    rfl
  have F28 := fun_mk (st := s_law_part) l28 c28 k28
  have b28 := F28.binds (ps := ["_law_one", "_law_other"]) fun _ _ _ _ _ _ us hl => by
    obtain ⟨u0, u1, rfl⟩ := la2 hl
    rfl
  have F29 := fun_mk (st := s_law_low) l29 c29 k29
  have b29 := F29.binds (ps := ["_law_top", "_law_bottom"]) fun _ _ _ _ _ _ us hl => by
    obtain ⟨u0, u1, rfl⟩ := la2 hl
    rfl
  have F30 := fun_mk (st := s_law_strip) l30 c30 k30
  have b30 := F30.binds (ps := ["_law_row"]) fun _ _ _ _ _ _ us hl => by
    obtain ⟨u0, rfl⟩ := la1 hl
    rfl
  have F31 := fun_mk (st := s_law_row_by) l31 c31 k31
  have b31 := F31.binds (ps := ["_law_cell", "_law_k"]) fun _ _ _ _ _ _ us hl => by
    obtain ⟨u0, u1, rfl⟩ := la2 hl
    rfl
  have F32 := fun_mk (st := s_law_add) l32 c32 k32
  have b32 := F32.binds (ps := ["_law_one", "_law_other"]) fun _ _ _ _ _ _ us hl => by
    obtain ⟨u0, u1, rfl⟩ := la2 hl
    rfl
  have F33 := fun_mk (st := s_law_mul) l33 c33 k33
  have b33 := F33.binds (ps := ["_law_one", "_law_other"]) fun _ _ _ _ _ _ us hl => by
    obtain ⟨u0, u1, rfl⟩ := la2 hl
    rfl
  have F34 := fun_mk (st := s_law_at) l34 c34 k34
  have b34 := F34.binds (ps := ["_law_row", "_law_k"]) fun _ _ _ _ _ _ us hl => by
    obtain ⟨u0, u1, rfl⟩ := la2 hl
    rfl
  have F35 := fun_mk (st := s_law_same) l35 c35 k35
  have b35 := F35.binds (ps := ["_law_told", "_law_due"]) fun _ _ _ _ _ _ us hl => by
    obtain ⟨u0, u1, rfl⟩ := la2 hl
    rfl
  have F36 := fun_mk (st := s_law_product) l36 c36 k36
  have b36 := F36.binds (ps := ["_law_one", "_law_other"]) fun _ _ _ _ _ _ us hl => by
    obtain ⟨u0, u1, rfl⟩ := la2 hl
    rfl
  have F37 := fun_mk (st := s_law_quotient) l37 c37 k37
  have b37 := F37.binds (ps := ["_law_one", "_law_other"]) fun _ _ _ _ _ _ us hl => by
    obtain ⟨u0, u1, rfl⟩ := la2 hl
    rfl
  have F38 := fun_mk (st := s_law_less) l38 c38 k38
  have b38 := F38.binds (ps := ["_law_one", "_law_other", "_law_number", "_law_power"]) fun _ _ _ _ _ _ us hl => by
    obtain ⟨u0, u1, u2, u3, rfl⟩ := la4 hl
    rfl
  have F39 := fun_mk (st := s_law_rest) l39 c39 k39
  have b39 := F39.binds (ps := ["_law_left", "_law_right"]) fun _ _ _ _ _ _ us hl => by
    obtain ⟨u0, u1, rfl⟩ := la2 hl
    rfl
  have F40 := fun_mk (st := s_law_walked) l40 c40 k40
  have b40 := F40.binds (ps := ["_law_one", "_law_other"]) fun _ _ _ _ _ _ us hl => by
    obtain ⟨u0, u1, rfl⟩ := la2 hl
    rfl
  have F41 := fun_mk (st := s_law_apart) l41 c41 k41
  have b41 := F41.binds (ps := ["_law_told", "_law_handed", "_law_kept"]) fun _ _ _ _ _ _ us hl => by
    obtain ⟨u0, u1, u2, rfl⟩ := la3 hl
    rfl
  have F42 := fun_mk (st := s_law) l42 c42 k42
  refine ⟨PySem.W.fnOf "law" "law" (defArgs s_law) (defBody s_law) (defScope s_law) .none kV42 dc42 pm42 an42 cd42 ct42, fun s v => .of_eq rfl, fun base _ _ => ?_⟩
  have C_divisor : Cal l.prog w K mg base "divisor" 1 ["one", "other"] (sp_div) := ⟨_, _, ok_divisor F1 T, b1, k1, PySem.W.mg_of X G a1⟩
  have C_is_whole : Cal l.prog w K mg base "is_whole" 1 ["thing"] (sp_whole) := ⟨_, _, ok_is_whole F2 T, b2, k2, PySem.W.mg_of X G a2⟩
  have O_fraction := ok_fraction (P := l.prog) (w := w) (base := base) (dV := .ref dt3) ⟨_, _, _, _, _, _, _, _, _, rfl, l3, c3⟩ T C_is_whole C_divisor
  have bd3_0 : Binds K (PySem.W.fnOf "fraction" "fraction" (defArgs s_fraction) (defBody s_fraction) (defScope s_fraction) (.ref dt3) kV3 dc3 pm3 an3 cd3 ct3) ["top", "bottom"] [] := fun s us KI hl => by
    simp only [List.length_append, List.length_cons, List.length_nil] at hl
    rcases us with _ | ⟨u0, _ | ⟨u1, _ | ⟨ux, us⟩⟩⟩
    · simp only [List.length_cons, List.length_nil] at hl; (first | lia | omega)
    · simp only [List.length_cons, List.length_nil] at hl; (first | lia | omega)
    · exact PySem.W.binds_K KI rfl d3 rfl rfl rfl
    · simp only [List.length_cons] at hl; (first | lia | omega)
  have C_fraction_d0 : CalD l.prog w K mg base "fraction" 2 ["top", "bottom"] [] [] (sp_fracN) := ⟨⟨_, _, O_fraction, bd3_0, k3, PySem.W.mg_of X G a3⟩, .nil⟩
  have bd3_1 : Binds K (PySem.W.fnOf "fraction" "fraction" (defArgs s_fraction) (defBody s_fraction) (defScope s_fraction) (.ref dt3) kV3 dc3 pm3 an3 cd3 ct3) ["top", "bottom"] [.int 1 dtk3_0] := fun s us KI hl => by
    simp only [List.length_append, List.length_cons, List.length_nil] at hl
    rcases us with _ | ⟨u0, _ | ⟨ux, us⟩⟩
    · simp only [List.length_cons, List.length_nil] at hl; (first | lia | omega)
    · exact PySem.W.binds_K KI rfl d3 rfl rfl rfl
    · simp only [List.length_cons] at hl; (first | lia | omega)
  have C_fraction_d1 : CalD l.prog w K mg base "fraction" 2 ["top", "bottom"] [.int 1 dtk3_0] [(.int 1 : V)] (sp_fracN) := ⟨⟨_, _, O_fraction, bd3_1, k3, PySem.W.mg_of X G a3⟩, (.cons ⟨_, rfl⟩ .nil)⟩
  have C_plus : Cal l.prog w K mg base "plus" 2 ["one", "other"] (sp_plus) := ⟨_, _, ok_plus F4 T C_divisor, b4, k4, PySem.W.mg_of X G a4⟩
  have C_minus : Cal l.prog w K mg base "minus" 3 ["one", "other"] (sp_bin 8000 (· - ·)) := ⟨_, _, ok_minusQ F5 T C_plus, b5, k5, PySem.W.mg_of X G a5⟩
  have C_times : Cal l.prog w K mg base "times" 2 ["one", "other"] (sp_bin 8000 (· * ·)) := ⟨_, _, ok_timesQ F6 T C_divisor, b6, k6, PySem.W.mg_of X G a6⟩
  have C_over : Cal l.prog w K mg base "over" 3 ["one", "other"] (sp_overN) := ⟨_, _, ok_over F7 T C_times C_fraction_d0, b7, k7, PySem.W.mg_of X G a7⟩
  have C_side : Cal l.prog w K mg base "side" 1 ["one"] (sp_side) := ⟨_, _, ok_side F8 T, b8, k8, PySem.W.mg_of X G a8⟩
  have C_poly : Cal l.prog w K mg base "poly" 2 ["figures"] (sp_stripQ) := ⟨_, _, ok_poly F9 T C_side, b9, k9, PySem.W.mg_of X G a9⟩
  have C_scaled : Cal l.prog w K mg base "scaled" 4 ["one", "number"] (sp_scaled) := ⟨_, _, ok_scaled F10 T C_times C_poly, b10, k10, PySem.W.mg_of X G a10⟩
  have C_shared_bottom : Cal l.prog w K mg base "shared_bottom" 2 ["figures"] (sp_shb4) := ⟨_, _, ok_shared_bottom F11 T C_divisor, b11, k11, PySem.W.mg_of X G a11⟩
  have C_whole_figures : Cal l.prog w K mg base "whole_figures" 1 ["one", "bottom"] (sp_whf4) := ⟨_, _, ok_whole_figures F12 T, b12, k12, PySem.W.mg_of X G a12⟩
  have C_rest_less : Cal l.prog w K mg base "rest_less" 4 ["rest", "factor", "other"] (sp_rest_less) := ⟨_, _, ok_rest_less F13 T C_times C_minus, b13, k13, PySem.W.mg_of X G a13⟩
  have C_divided : Cal l.prog w K mg base "divided" 5 ["one", "other"] (sp_dividedN) := ⟨_, _, ok_divided F14 T C_over C_rest_less C_poly, b14, k14, PySem.W.mg_of X G a14⟩
  have C_small_multiple : Cal l.prog w K mg base "small_multiple" 1 ["number", "modulus", "most"] (sp_smm) := ⟨_, _, ok_small_multiple F15 T, b15, k15, PySem.W.mg_of X G a15⟩
  have C_inverse : Cal l.prog w K mg base "inverse" 2 ["number", "modulus"] (sp_inv) := ⟨_, _, ok_inverse F16 T C_small_multiple, b16, k16, PySem.W.mg_of X G a16⟩
  have C_fraction_of : Cal l.prog w K mg base "fraction_of" 3 ["residue", "modulus", "most"] (sp_fof) := ⟨_, _, ok_fraction_of F17 T C_small_multiple C_fraction_d0, b17, k17, PySem.W.mg_of X G a17⟩
  have C_monic_row : Cal l.prog w K mg base "monic_row" 3 ["row", "modulus"] (sp_mrow) := ⟨_, _, ok_monic_row F18 T C_inverse, b18, k18, PySem.W.mg_of X G a18⟩
  have C_rest_by : Cal l.prog w K mg base "rest_by" 1 ["row", "monic", "modulus"] (sp_rby) := ⟨_, _, ok_rest_by F19 T, b19, k19, PySem.W.mg_of X G a19⟩
  have C_common_row : Cal l.prog w K mg base "common_row" 4 ["first", "second", "modulus"] (sp_crow) := ⟨_, _, ok_common_row F20 T C_monic_row C_rest_by, b20, k20, PySem.W.mg_of X G a20⟩
  have C_common_guess : Cal l.prog w K mg base "common_guess" 5 ["one", "other", "root"] (sp_cguess) := ⟨_, _, ok_common_guess F21 T C_monic_row C_common_row C_fraction_of, b21, k21, PySem.W.mg_of X G a21⟩
  have C_divides : Cal l.prog w K mg base "divides" 6 ["part", "one"] (sp_divs) := ⟨_, _, ok_divides F22 T C_divided, b22, k22, PySem.W.mg_of X G a22⟩
  have C_with_last_one : Cal l.prog w K mg base "with_last_one" 5 ["one"] (sp_wlo) := ⟨_, _, ok_with_last_one F23 T C_scaled C_over, b23, k23, PySem.W.mg_of X G a23⟩
  have C_common : Cal l.prog w K mg base "common" 7 ["one", "other"] (sp_common) := ⟨_, _, ok_common F24 T C_with_last_one C_whole_figures C_shared_bottom C_common_guess C_divides, b24, k24, PySem.W.mg_of X G a24⟩
  have C_law_cell_at : Cal l.prog w K mg base "_law_cell_at" 1 ["_law_script", "_law_k"] (sp_cell K) := ⟨_, _, ok_law_cell_at F25 T, b25, k25, PySem.W.mg_of X G a25⟩
  have C_law_mixed : Cal l.prog w K mg base "_law_mixed" 1 ["_law_cell", "_law_k"] (sp_mixed) := ⟨_, _, ok_law_mixed F26 T, b26, k26, PySem.W.mg_of X G a26⟩
  have C_law_signed : Cal l.prog w K mg base "_law_signed" 1 ["_law_number"] (sp_signed) := ⟨_, _, ok_law_signed F27 T, b27, k27, PySem.W.mg_of X G a27⟩
  have C_law_part : Cal l.prog w K mg base "_law_part" 1 ["_law_one", "_law_other"] (sp_div) := ⟨_, _, ok_law_part F28 T, b28, k28, PySem.W.mg_of X G a28⟩
  have C_law_low : Cal l.prog w K mg base "_law_low" 2 ["_law_top", "_law_bottom"] (sp_low) := ⟨_, _, ok_law_low F29 T C_law_part, b29, k29, PySem.W.mg_of X G a29⟩
  have C_law_strip : Cal l.prog w K mg base "_law_strip" 1 ["_law_row"] (sp_stripQ) := ⟨_, _, ok_law_strip F30 T, b30, k30, PySem.W.mg_of X G a30⟩
  have C_law_row_by : Cal l.prog w K mg base "_law_row_by" 3 ["_law_cell", "_law_k"] (sp_row16) := ⟨_, _, ok_law_row_by F31 T C_law_mixed C_law_signed (C_law_low.imp lowQ) C_law_strip, b31, k31, PySem.W.mg_of X G a31⟩
  have C_law_add : Cal l.prog w K mg base "_law_add" 3 ["_law_one", "_law_other"] (sp_bin 4000 (· + ·)) := ⟨_, _, ok_law_add F32 T C_law_low, b32, k32, PySem.W.mg_of X G a32⟩
  have C_law_mul : Cal l.prog w K mg base "_law_mul" 3 ["_law_one", "_law_other"] (sp_bin 4000 (· * ·)) := ⟨_, _, ok_law_mul F33 T C_law_low, b33, k33, PySem.W.mg_of X G a33⟩
  have C_law_at : Cal l.prog w K mg base "_law_at" 1 ["_law_row", "_law_k"] (sp_atQ) := ⟨_, _, ok_law_at F34 T, b34, k34, PySem.W.mg_of X G a34⟩
  have C_law_same : Cal l.prog w K mg base "_law_same" 1 ["_law_told", "_law_due"] (sp_sameQ) := ⟨_, _, ok_law_same F35 T, b35, k35, PySem.W.mg_of X G a35⟩
  have C_law_product : Cal l.prog w K mg base "_law_product" 4 ["_law_one", "_law_other"] (sp_product) := ⟨_, _, ok_law_product F36 T C_law_at C_law_add C_law_mul C_law_strip, b36, k36, PySem.W.mg_of X G a36⟩
  have C_law_quotient : Cal l.prog w K mg base "_law_quotient" 4 ["_law_one", "_law_other"] (sp_lquot) := ⟨_, _, ok_law_quotient F37 T C_law_mul, b37, k37, PySem.W.mg_of X G a37⟩
  have C_law_less : Cal l.prog w K mg base "_law_less" 4 ["_law_one", "_law_other", "_law_number", "_law_power"] (sp_lless) := ⟨_, _, ok_law_less F38 T C_law_mul C_law_add C_law_strip, b38, k38, PySem.W.mg_of X G a38⟩
  have C_law_rest : Cal l.prog w K mg base "_law_rest" 5 ["_law_left", "_law_right"] (sp_lrest) := ⟨_, _, ok_law_rest F39 T C_law_less C_law_quotient, b39, k39, PySem.W.mg_of X G a39⟩
  have C_law_walked : Cal l.prog w K mg base "_law_walked" 6 ["_law_one", "_law_other"] (sp_lwalked) := ⟨_, _, ok_law_walked F40 T C_law_rest C_law_quotient, b40, k40, PySem.W.mg_of X G a40⟩
  have C_law_apart : Cal l.prog w K mg base "_law_apart" 1 ["_law_told", "_law_handed", "_law_kept"] (sp_apart) := ⟨_, _, ok_law_apart F41 T, b41, k41, PySem.W.mg_of X G a41⟩
  exact ok_law F42 T C_law_cell_at C_law_row_by C_law_product C_law_same C_law_walked C_law_apart C_common
theorem walk {l : PySem.W.OpenLaw} {q : Program} {loose : List Str} {XP : (Str → Option Value) → Heap → Prop} {YP : World → Heap → Prop} {d : DefRec} {K : Params → PySem.W.Frag} (hn : l.most = some 63) (hdf : d.params.defaults = [])
    (hY : ∀ (w : World) (h : Heap), YP w h → (K w.params).In h)
    (F : ∀ (w : World) (mg : Str → Option Value) (fa : Addr) (h : Heap), (K w.params).In h → h.Ns mainGlobals mg → mg d.name = some (.ref fa) →
      ∃ fd : FuncData, (∀ (s : Shared) (u : Value), BindsTo s fd ⟨[u], []⟩ [("_law_script", u)]) ∧ ∀ base : Heap, (K w.params).In base → base.Ns mainGlobals mg → FnOk l.prog w (K w.params) mg base CX0 8 fa fd ["_law_script"] (sp_law (K w.params))) :
    PySem.W.WalkO q loose XP YP l.row.toRowW d [] (fun f vs => PySem.call f vs) :=
  L2.walk_of (n := 63) (k := 8) (x := "_law_script") (CX := fun _ => CX0) (sp := fun w => sp_law (K w.params)) hn (by decide) hdf ⟨rfl, by decide, by decide⟩ hY F (fun _ _ a ns hl _ hS => ⟨a, ns, rfl, hS, hl, fun _ => rfl⟩) fun _ _ _ _ _ z => z
end My
namespace My
open PySem PySem.W L2
noncomputable abbrev tp : Program := PySem.Challenge.pw_tautcord_k16_common_parts
noncomputable abbrev ke (P : Params) (x : Str) (n : Nat) (v : Value) : DictEntry := { hash := PyData.keyHash P x, key := .str x n, val := v }
noncomputable abbrev mS0 : Value := .str "tautcord.wholes" 223
noncomputable abbrev mS1 : Value := .str "tautcord.ratios" 243
noncomputable abbrev mS2 : Value := .str "tautcord.polys" 299
noncomputable abbrev mS3 : Value := .str "tautcord.factors" 330
noncomputable abbrev mS4 : Value := .str "law_tautcord_k16_common_parts" 446
noncomputable abbrev fo (x y : Str) (s : Stmt) (m : Value) (c : Nat) : Obj := { cls := .type "function", data := .func { name := x, qualname := y, params := defArgs s, body := .stmts (defBody s), scope := defScope s, globals := 3, closure := [], defaults := .none, kwdefaults := .none, pyModule := m, code := .ref c } }
noncomputable abbrev f1 (x : Str) (s : Stmt) (m : Value) (c : Nat) : Obj := fo x x s m c
noncomputable def alt : Bool → List Obj → List Obj
  | _, [] => []
  | true, x :: r => x :: alt false r
  | false, _ :: r => alt true r
noncomputable def bld : Nat → List Obj → BT
  | 0, _ => .nil
  | _ + 1, [] => .nil
  | n + 1, x :: r => .node x (bld n (alt true r)) (bld n (alt false r))
noncomputable abbrev tE : Obj := { cls := .type "tuple", data := .seq #[] }
noncomputable abbrev fE : Obj := { cls := .none, data := .fields #[] }
noncomputable def tL : Nat → List Str → List Value
  | _, [] => []
  | n, x :: xs => .str x n :: tL (n + 1) xs
noncomputable abbrev tS (n : Nat) (xs : List Str) : Obj := { cls := .type "tuple", data := .seq (Array.mk (tL n xs)) }
noncomputable abbrev pF (x y : Str) (s : Stmt) : Obj := { cls := .none, dict := none, data := .func { name := x, qualname := y, params := defArgs s, body := .stmts (defBody s), scope := defScope s, globals := 0, closure := [], defaults := .none, kwdefaults := .none, doc := .none, pyModule := .none, annotations := none, code := .none, closureTuple := .none, builtins := 0 }, slots := #[] }
noncomputable abbrev cO (x y : Str) (k l a b r m z : Nat) : Obj := { cls := .type "code", data := .fields #[.str x k, .str y (k + 1), .str "/claim/cut.py" (k + 2), .int l 0, .int a 0, .int 0 0, .int 0 0, .int b 0, .ref r, .bool Bool.true, .int 181 0, .ref (r + 1), .none, .ref (r + 2), .ref (r + 3), .ref (r + 4), .int m 0, .int l 0, .str "/claim/cut.py" z] }
noncomputable abbrev c1 (x : Str) (k l a b r m z : Nat) : Obj := cO x x k l a b r m z
noncomputable abbrev cG (x y : Str) (k l a b r : Nat) (f : Bool) (p q s : Value) (m z : Nat) : Obj := { cls := .type "code", data := .fields #[.str x k, .str y (k + 1), .str "/claim/cut.py" (k + 2), .int l 0, .int a 0, .int 0 0, .int 0 0, .int b 0, .ref r, .bool f, .int 181 0, .ref (r + 1), .none, p, q, s, .int m 0, .int l 0, .str "/claim/cut.py" z] }
noncomputable def q : Program := view tp [1, 2, 4, 5, 8, 9, 10, 11, 12, 14, 15, 16, 17, 19, 20, 21, 22, 23, 24, 25, 26, 27, 28, 29, 30, 32, 33, 34, 35, 36, 37, 38, 39, 40, 41, 42, 43, 44, 45, 46, 47, 48, 49]
noncomputable def bE : List Stmt := behindTheImports tp
noncomputable def eE : Env := { scope := tp.main.scope, locals := mainNs, globals := mainNs, cells := [], code := .ref 13, frame := some 14 }
noncomputable abbrev cE : Code := .body bE eE
noncomputable def L_i (P : Params) : List Obj := [boot_o_0 P, boot_o_1 P, boot_o_2 P, boot_o_3 P, boot_o_4 P, boot_o_5 P, boot_o_6 P, boot_o_7 P, boot_o_8 P, boot_o_9 P, boot_o_10 P]
noncomputable def u13 : Obj := cG "<module>" "<module>" 182 1 0 0 11 false .none .none .none 185 186
noncomputable def u14 : Obj := { cls := .type "frame", slots := #[some (.ref 13), some (.ref 3), some (.ref 3), none, some (.str "__main__" 164), none, some (.ref 0)] }
noncomputable def L_a (P : Params) : List Obj := (L_i P).append [tE, fE, u13, u14]
noncomputable def L_b (P : Params) : List Obj := L_a P
noncomputable def g3_1 (P : Params) : List DictEntry := [ke P "__name__" 165 (.str "tautcord.ratios" 243), ke P "__doc__" 166 .none, ke P "__package__" 167 .none, ke P "__loader__" 168 (.builtin "__main__.__loader__#opaque"), ke P "__spec__" 169 .none, ke P "__annotations__" 170 (.ref 6), ke P "__builtins__" 171 (.ref 4), ke P "__file__" 173 (.str "/claim/cut.py" 172), ke P "__cached__" 174 .none, ke P "CordError" 206 (.ref 24), ke P "NoFraction" 222 (.ref 37), ke P "is_whole" 231 (.ref 46), ke P "divisor" 242 (.ref 53)]
noncomputable def g12_1 (P : Params) : List Value := [.int 2 0, .int 0 0, .ref 20, .int 4 0, .int 0 0, .ref 33, .int 7 0, .int 0 0, .ref 45, .int 9 0, .int 0 0, .ref 52]
noncomputable def u15 : Obj := { cls := .type "tuple", data := .seq #[.type "ValueError"] }
noncomputable def u16 : Obj := { cls := .type "builtin_function_or_method", data := .fields #[.builtin "type.__prepare__", .type "type"] }
noncomputable def u17 (P : Params) : Obj := { cls := .type "dict", data := .dict #[ke P "__module__" 196 (.str "tautcord.errors" 187), ke P "__qualname__" 198 (.str "CordError" 197), ke P "__firstlineno__" 200 (.int 2 199), ke P "__static_attributes__" 201 (.ref 22)] 4 }
noncomputable def u20 : Obj := cG "CordError" "CordError" 191 2 0 0 18 false .none .none .none 194 195
noncomputable def u21 : Obj := { cls := .type "frame", slots := #[some (.ref 20), some (.ref 3), some (.ref 17), none, some (.str "tautcord.errors" 187), none, some (.ref 0)] }
noncomputable def u22 : Obj := tE
noncomputable def u23 (P : Params) : Obj := { cls := .type "dict", data := .dict #[ke P "__module__" 196 (.str "tautcord.errors" 187), ke P "__firstlineno__" 200 (.int 2 199), ke P "__static_attributes__" 201 (.ref 22), ke P "__weakref__" 203 (.ref 25), ke P "__doc__" 204 .none] 3 }
noncomputable def u24 : Obj := { cls := .type "type", data := .cls { name := "CordError", bases := [.type "ValueError"], mro := [.ref 24, .type "ValueError", .type "Exception", .type "BaseException", .type "object"], ns := 23, qualname := "CordError", subclasses := [.ref 37] }, slots := #[some (.ref 15), none, some (.str "CordError" 189), some (.str "CordError" 197), some (.builtin "ValueError.__new__"), some (.bool Bool.true)] }
noncomputable def u25 : Obj := { cls := .type "getset_descriptor", data := .fields #[.str "__weakref__" 202, .ref 24, .builtin "ExceptionGroup.__weakref__", .none] }
noncomputable def u26 : Obj := { cls := .type "super", data := .fields #[.ref 24, .ref 24, .ref 24] }
noncomputable def u27 : Obj := { cls := .type "builtin_function_or_method", data := .fields #[.builtin "object.__init_subclass__", .ref 24] }
noncomputable def u28 : Obj := { cls := .type "tuple", data := .seq #[.ref 24] }
noncomputable def u29 : Obj := { cls := .type "builtin_function_or_method", data := .fields #[.builtin "type.__prepare__", .type "type"] }
noncomputable def u30 (P : Params) : Obj := { cls := .type "dict", data := .dict #[ke P "__module__" 214 (.str "tautcord.errors" 187), ke P "__qualname__" 216 (.str "NoFraction" 215), ke P "__firstlineno__" 218 (.int 4 217), ke P "__static_attributes__" 219 (.ref 35)] 4 }
noncomputable def u33 : Obj := cG "NoFraction" "NoFraction" 209 4 0 0 31 false .none .none .none 212 213
noncomputable def u34 : Obj := { cls := .type "frame", slots := #[some (.ref 33), some (.ref 3), some (.ref 30), none, some (.str "tautcord.errors" 187), none, some (.ref 0)] }
noncomputable def u35 : Obj := tE
noncomputable def u36 (P : Params) : Obj := { cls := .type "dict", data := .dict #[ke P "__module__" 214 (.str "tautcord.errors" 187), ke P "__firstlineno__" 218 (.int 4 217), ke P "__static_attributes__" 219 (.ref 35), ke P "__doc__" 220 .none] 2 }
noncomputable def u37 : Obj := { cls := .type "type", data := .cls { name := "NoFraction", bases := [.ref 24], mro := [.ref 37, .ref 24, .type "ValueError", .type "Exception", .type "BaseException", .type "object"], ns := 36, qualname := "NoFraction" }, slots := #[some (.ref 28), none, some (.str "NoFraction" 207), some (.str "NoFraction" 215), some (.builtin "ValueError.__new__"), some (.bool Bool.true)] }
noncomputable def u38 : Obj := { cls := .type "super", data := .fields #[.ref 37, .ref 37, .ref 37] }
noncomputable def u39 : Obj := { cls := .type "builtin_function_or_method", data := .fields #[.builtin "object.__init_subclass__", .ref 37] }
noncomputable def u42 : Obj := tS 228 ["thing"]
noncomputable def u44 : Obj := pF "is_whole" "is_whole" (top 4)
noncomputable def u45 : Obj := c1 "is_whole" 225 7 1 3 40 229 230
noncomputable def u46 : Obj := f1 "is_whole" (top 4) mS0 45
noncomputable def u49 : Obj := tS 235 ["one", "other", "first", "second", "rest"]
noncomputable def u51 : Obj := pF "divisor" "divisor" (top 5)
noncomputable def u52 : Obj := c1 "divisor" 232 9 2 3 47 240 241
noncomputable def u53 : Obj := f1 "divisor" (top 5) mS0 52
noncomputable def L_1 (P : Params) : List Obj := (((L_b P).set 3 ({ cls := .type "dict", data := .dict (Array.mk (g3_1 P)) 13 })).set 12 ({ cls := .none, data := .fields (Array.mk (g12_1 P)) })).append [u15, u16, u17 P, tE, fE, u20, u21, u22, u23 P, u24, u25, u26, u27, u28, u29, u30 P, tE, fE, u33, u34, u35, u36 P, u37, u38, u39, tE, fE, u42, tE, u44, u45, u46, tE, fE, u49, tE, u51, u52, u53]
noncomputable def g3_2 (P : Params) : List DictEntry := ((g3_1 P).set 0 (ke P "__name__" 165 (.str "tautcord.factors" 330))).append [ke P "fraction" 254 (.ref 61), ke P "plus" 265 (.ref 68), ke P "minus" 273 (.ref 75), ke P "times" 283 (.ref 82), ke P "over" 291 (.ref 89), ke P "side" 298 (.ref 96), ke P "poly" 308 (.ref 103), ke P "scaled" 314 (.ref 108), ke P "shared_bottom" 323 (.ref 115), ke P "whole_figures" 329 (.ref 120), ke P "divided" 342 (.ref 127), ke P "rest_less" 348 (.ref 132), ke P "common" 360 (.ref 139), ke P "with_last_one" 367 (.ref 146), ke P "divides" 375 (.ref 153), ke P "common_guess" 381 (.ref 158)]
noncomputable def g12_2 (P : Params) : List Value := (g12_1 P).append [.int 18 0, .int 0 0, .ref 60, .int 27 0, .int 0 0, .ref 67, .int 32 0, .int 0 0, .ref 74, .int 34 0, .int 0 0, .ref 81, .int 38 0, .int 0 0, .ref 88, .int 42 0, .int 0 0, .ref 95, .int 49 0, .int 0 0, .ref 102, .int 54 0, .int 0 0, .ref 107, .int 56 0, .int 0 0, .ref 114, .int 61 0, .int 0 0, .ref 119, .int 64 0, .int 0 0, .ref 126, .int 75 0, .int 0 0, .ref 131, .int 79 0, .int 0 0, .ref 138, .int 92 0, .int 0 0, .ref 145, .int 96 0, .int 0 0, .ref 152, .int 98 0, .int 0 0, .ref 157]
noncomputable def u54 : Obj := { cls := .type "tuple", data := .seq #[.int 1 245] }
noncomputable def u57 : Obj := tS 249 ["top", "bottom", "shared"]
noncomputable def u59 : Obj := pF "fraction" "fraction" (top 7)
noncomputable def u60 : Obj := c1 "fraction" 246 18 2 3 55 252 253
noncomputable def u61 : Obj := { cls := .type "function", dict := none, data := .func { name := "fraction", qualname := "fraction", params := defArgs (top 7), body := .stmts (defBody (top 7)), scope := defScope (top 7), globals := 3, closure := [], defaults := .ref 54, kwdefaults := .none, doc := .none, pyModule := .str "tautcord.ratios" 243, annotations := none, code := .ref 60, closureTuple := .none, builtins := 0 }, slots := #[] }
noncomputable def u64 : Obj := tS 258 ["one", "other", "shared", "top", "left"]
noncomputable def u66 : Obj := pF "plus" "plus" (top 8)
noncomputable def u67 : Obj := c1 "plus" 255 27 2 3 62 263 264
noncomputable def u68 : Obj := f1 "plus" (top 8) mS1 67
noncomputable def u71 : Obj := tS 269 ["one", "other"]
noncomputable def u73 : Obj := pF "minus" "minus" (top 9)
noncomputable def u74 : Obj := c1 "minus" 266 32 2 3 69 271 272
noncomputable def u75 : Obj := f1 "minus" (top 9) mS1 74
noncomputable def u78 : Obj := tS 277 ["one", "other", "first", "second"]
noncomputable def u80 : Obj := pF "times" "times" (top 10)
noncomputable def u81 : Obj := c1 "times" 274 34 2 3 76 281 282
noncomputable def u82 : Obj := f1 "times" (top 10) mS1 81
noncomputable def u85 : Obj := tS 287 ["one", "other"]
noncomputable def u87 : Obj := pF "over" "over" (top 11)
noncomputable def u88 : Obj := c1 "over" 284 38 2 3 83 289 290
noncomputable def u89 : Obj := f1 "over" (top 11) mS1 88
noncomputable def u92 : Obj := tS 295 ["one"]
noncomputable def u94 : Obj := pF "side" "side" (top 12)
noncomputable def u95 : Obj := c1 "side" 292 42 1 3 90 296 297
noncomputable def u96 : Obj := f1 "side" (top 12) mS1 95
noncomputable def u99 : Obj := tS 304 ["figures", "most"]
noncomputable def u101 : Obj := pF "poly" "poly" (top 14)
noncomputable def u102 : Obj := c1 "poly" 301 49 1 3 97 306 307
noncomputable def u103 : Obj := f1 "poly" (top 14) mS2 102
noncomputable def u106 : Obj := pF "scaled" "scaled" (top 15)
noncomputable def u107 : Obj := cG "scaled" "scaled" 309 54 2 3 104 true .none .none (.ref 106) 312 313
noncomputable def u108 : Obj := f1 "scaled" (top 15) mS2 107
noncomputable def u111 : Obj := tS 318 ["figures", "bottom", "figure"]
noncomputable def u113 : Obj := pF "shared_bottom" "shared_bottom" (top 16)
noncomputable def u114 : Obj := c1 "shared_bottom" 315 56 1 3 109 321 322
noncomputable def u115 : Obj := f1 "shared_bottom" (top 16) mS2 114
noncomputable def u118 : Obj := pF "whole_figures" "whole_figures" (top 17)
noncomputable def u119 : Obj := cG "whole_figures" "whole_figures" 324 61 2 3 116 true .none .none (.ref 118) 327 328
noncomputable def u120 : Obj := f1 "whole_figures" (top 17) mS2 119
noncomputable def u123 : Obj := tS 335 ["one", "other", "rest", "quotient", "factor"]
noncomputable def u125 : Obj := pF "divided" "divided" (top 19)
noncomputable def u126 : Obj := c1 "divided" 332 64 2 3 121 340 341
noncomputable def u127 : Obj := f1 "divided" (top 19) mS3 126
noncomputable def u130 : Obj := pF "rest_less" "rest_less" (top 20)
noncomputable def u131 : Obj := cG "rest_less" "rest_less" 343 75 3 3 128 true .none .none (.ref 130) 346 347
noncomputable def u132 : Obj := f1 "rest_less" (top 20) mS3 131
noncomputable def u135 : Obj := tS 352 ["one", "other", "whole_one", "whole_other", "root", "guess"]
noncomputable def u137 : Obj := pF "common" "common" (top 21)
noncomputable def u138 : Obj := c1 "common" 349 79 2 3 133 358 359
noncomputable def u139 : Obj := f1 "common" (top 21) mS3 138
noncomputable def u142 : Obj := tS 364 ["one"]
noncomputable def u144 : Obj := pF "with_last_one" "with_last_one" (top 22)
noncomputable def u145 : Obj := c1 "with_last_one" 361 92 1 3 140 365 366
noncomputable def u146 : Obj := f1 "with_last_one" (top 22) mS3 145
noncomputable def u149 : Obj := tS 371 ["part", "one"]
noncomputable def u151 : Obj := pF "divides" "divides" (top 23)
noncomputable def u152 : Obj := c1 "divides" 368 96 2 3 147 373 374
noncomputable def u153 : Obj := f1 "divides" (top 23) mS3 152
noncomputable def u156 : Obj := pF "common_guess" "common_guess" (top 24)
noncomputable def u157 : Obj := cG "common_guess" "common_guess" 376 98 3 3 154 true .none .none (.ref 156) 379 380
noncomputable def u158 : Obj := f1 "common_guess" (top 24) mS3 157
noncomputable def L_2 (P : Params) : List Obj := (((L_1 P).set 3 ({ cls := .type "dict", data := .dict (Array.mk (g3_2 P)) 29 })).set 12 ({ cls := .none, data := .fields (Array.mk (g12_2 P)) })).append [u54, tE, fE, u57, tE, u59, u60, u61, tE, fE, u64, tE, u66, u67, u68, tE, fE, u71, tE, u73, u74, u75, tE, fE, u78, tE, u80, u81, u82, tE, fE, u85, tE, u87, u88, u89, tE, fE, u92, tE, u94, u95, u96, tE, fE, u99, tE, u101, u102, u103, tE, fE, u106, u107, u108, tE, fE, u111, tE, u113, u114, u115, tE, fE, u118, u119, u120, tE, fE, u123, tE, u125, u126, u127, tE, fE, u130, u131, u132, tE, fE, u135, tE, u137, u138, u139, tE, fE, u142, tE, u144, u145, u146, tE, fE, u149, tE, u151, u152, u153, tE, fE, u156, u157, u158]
noncomputable def g3_3 (P : Params) : List DictEntry := ((g3_2 P).set 0 (ke P "__name__" 165 (.str "law_tautcord_k16_common_parts" 446))).append [ke P "common_row" 391 (.ref 165), ke P "monic_row" 397 (.ref 170), ke P "rest_by" 410 (.ref 177), ke P "inverse" 419 (.ref 184), ke P "fraction_of" 429 (.ref 191), ke P "small_multiple" 445 (.ref 198), ke P "_law_cell_at" 455 (.ref 205), ke P "_law_mixed" 463 (.ref 212), ke P "_law_signed" 470 (.ref 219), ke P "_law_part" 478 (.ref 226), ke P "_law_low" 487 (.ref 233), ke P "_law_add" 495 (.ref 240), ke P "_law_mul" 503 (.ref 247), ke P "_law_at" 511 (.ref 254), ke P "_law_same" 521 (.ref 261)]
noncomputable def g12_3 (P : Params) : List Value := (g12_2 P).append [.int 107 0, .int 0 0, .ref 164, .int 115 0, .int 0 0, .ref 169, .int 122 0, .int 0 0, .ref 176, .int 132 0, .int 0 0, .ref 183, .int 137 0, .int 0 0, .ref 190, .int 142 0, .int 0 0, .ref 197, .int 157 0, .int 0 0, .ref 204, .int 161 0, .int 0 0, .ref 211, .int 165 0, .int 0 0, .ref 218, .int 167 0, .int 0 0, .ref 225, .int 173 0, .int 0 0, .ref 232, .int 176 0, .int 0 0, .ref 239, .int 178 0, .int 0 0, .ref 246, .int 180 0, .int 0 0, .ref 253, .int 184 0, .int 0 0, .ref 260]
noncomputable def u161 : Obj := tS 385 ["first", "second", "modulus", "rest"]
noncomputable def u163 : Obj := pF "common_row" "common_row" (top 25)
noncomputable def u164 : Obj := c1 "common_row" 382 107 3 3 159 389 390
noncomputable def u165 : Obj := f1 "common_row" (top 25) mS3 164
noncomputable def u168 : Obj := pF "monic_row" "monic_row" (top 26)
noncomputable def u169 : Obj := cG "monic_row" "monic_row" 392 115 2 3 166 true .none .none (.ref 168) 395 396
noncomputable def u170 : Obj := f1 "monic_row" (top 26) mS3 169
noncomputable def u173 : Obj := tS 401 ["row", "monic", "modulus", "rest", "factor", "start", "place"]
noncomputable def u175 : Obj := pF "rest_by" "rest_by" (top 27)
noncomputable def u176 : Obj := c1 "rest_by" 398 122 3 3 171 408 409
noncomputable def u177 : Obj := f1 "rest_by" (top 27) mS3 176
noncomputable def u180 : Obj := tS 414 ["number", "modulus", "ended"]
noncomputable def u182 : Obj := pF "inverse" "inverse" (top 28)
noncomputable def u183 : Obj := c1 "inverse" 411 132 2 3 178 417 418
noncomputable def u184 : Obj := f1 "inverse" (top 28) mS3 183
noncomputable def u187 : Obj := tS 423 ["residue", "modulus", "most", "ended"]
noncomputable def u189 : Obj := pF "fraction_of" "fraction_of" (top 29)
noncomputable def u190 : Obj := c1 "fraction_of" 420 137 3 3 185 427 428
noncomputable def u191 : Obj := f1 "fraction_of" (top 29) mS3 190
noncomputable def u194 : Obj := tS 433 ["number", "modulus", "most", "before", "before_factor", "rest", "factor", "fits", "next_rest", "next_factor"]
noncomputable def u196 : Obj := pF "small_multiple" "small_multiple" (top 30)
noncomputable def u197 : Obj := c1 "small_multiple" 430 142 3 3 192 443 444
noncomputable def u198 : Obj := f1 "small_multiple" (top 30) mS3 197
noncomputable def u201 : Obj := tS 451 ["_law_script", "_law_k"]
noncomputable def u203 : Obj := pF "_law_cell_at" "_law_cell_at" (top 32)
noncomputable def u204 : Obj := c1 "_law_cell_at" 448 157 2 3 199 453 454
noncomputable def u205 : Obj := f1 "_law_cell_at" (top 32) mS4 204
noncomputable def u208 : Obj := tS 459 ["_law_cell", "_law_k"]
noncomputable def u210 : Obj := pF "_law_mixed" "_law_mixed" (top 33)
noncomputable def u211 : Obj := c1 "_law_mixed" 456 161 2 3 206 461 462
noncomputable def u212 : Obj := f1 "_law_mixed" (top 33) mS4 211
noncomputable def u215 : Obj := tS 467 ["_law_number"]
noncomputable def u217 : Obj := pF "_law_signed" "_law_signed" (top 34)
noncomputable def u218 : Obj := c1 "_law_signed" 464 165 1 3 213 468 469
noncomputable def u219 : Obj := f1 "_law_signed" (top 34) mS4 218
noncomputable def u222 : Obj := tS 474 ["_law_one", "_law_other"]
noncomputable def u224 : Obj := pF "_law_part" "_law_part" (top 35)
noncomputable def u225 : Obj := c1 "_law_part" 471 167 2 3 220 476 477
noncomputable def u226 : Obj := f1 "_law_part" (top 35) mS4 225
noncomputable def u229 : Obj := tS 482 ["_law_top", "_law_bottom", "_law_part_here"]
noncomputable def u231 : Obj := pF "_law_low" "_law_low" (top 36)
noncomputable def u232 : Obj := c1 "_law_low" 479 173 2 3 227 485 486
noncomputable def u233 : Obj := f1 "_law_low" (top 36) mS4 232
noncomputable def u236 : Obj := tS 491 ["_law_one", "_law_other"]
noncomputable def u238 : Obj := pF "_law_add" "_law_add" (top 37)
noncomputable def u239 : Obj := c1 "_law_add" 488 176 2 3 234 493 494
noncomputable def u240 : Obj := f1 "_law_add" (top 37) mS4 239
noncomputable def u243 : Obj := tS 499 ["_law_one", "_law_other"]
noncomputable def u245 : Obj := pF "_law_mul" "_law_mul" (top 38)
noncomputable def u246 : Obj := c1 "_law_mul" 496 178 2 3 241 501 502
noncomputable def u247 : Obj := f1 "_law_mul" (top 38) mS4 246
noncomputable def u250 : Obj := tS 507 ["_law_row", "_law_k"]
noncomputable def u252 : Obj := pF "_law_at" "_law_at" (top 39)
noncomputable def u253 : Obj := c1 "_law_at" 504 180 2 3 248 509 510
noncomputable def u254 : Obj := f1 "_law_at" (top 39) mS4 253
noncomputable def u257 : Obj := tS 515 ["_law_told", "_law_due", "_law_k", "_law_number"]
noncomputable def u259 : Obj := pF "_law_same" "_law_same" (top 40)
noncomputable def u260 : Obj := c1 "_law_same" 512 184 2 3 255 519 520
noncomputable def u261 : Obj := f1 "_law_same" (top 40) mS4 260
noncomputable def L_3 (P : Params) : List Obj := (((L_2 P).set 3 ({ cls := .type "dict", data := .dict (Array.mk (g3_3 P)) 44 })).set 12 ({ cls := .none, data := .fields (Array.mk (g12_3 P)) })).append [tE, fE, u161, tE, u163, u164, u165, tE, fE, u168, u169, u170, tE, fE, u173, tE, u175, u176, u177, tE, fE, u180, tE, u182, u183, u184, tE, fE, u187, tE, u189, u190, u191, tE, fE, u194, tE, u196, u197, u198, tE, fE, u201, tE, u203, u204, u205, tE, fE, u208, tE, u210, u211, u212, tE, fE, u215, tE, u217, u218, u219, tE, fE, u222, tE, u224, u225, u226, tE, fE, u229, tE, u231, u232, u233, tE, fE, u236, tE, u238, u239, u240, tE, fE, u243, tE, u245, u246, u247, tE, fE, u250, tE, u252, u253, u254, tE, fE, u257, tE, u259, u260, u261]
noncomputable def u3 (P : Params) : Obj := { cls := .type "dict", data := .dict #[ke P "__name__" 165 (.str "law_tautcord_k16_common_parts" 446), ke P "__doc__" 166 .none, ke P "__package__" 167 .none, ke P "__loader__" 168 (.builtin "__main__.__loader__#opaque"), ke P "__spec__" 169 .none, ke P "__annotations__" 170 (.ref 6), ke P "__builtins__" 171 (.ref 4), ke P "__file__" 173 (.str "/claim/cut.py" 172), ke P "__cached__" 174 .none, ke P "CordError" 206 (.ref 24), ke P "NoFraction" 222 (.ref 37), ke P "is_whole" 231 (.ref 46), ke P "divisor" 242 (.ref 53), ke P "fraction" 254 (.ref 61), ke P "plus" 265 (.ref 68), ke P "minus" 273 (.ref 75), ke P "times" 283 (.ref 82), ke P "over" 291 (.ref 89), ke P "side" 298 (.ref 96), ke P "poly" 308 (.ref 103), ke P "scaled" 314 (.ref 108), ke P "shared_bottom" 323 (.ref 115), ke P "whole_figures" 329 (.ref 120), ke P "divided" 342 (.ref 127), ke P "rest_less" 348 (.ref 132), ke P "common" 360 (.ref 139), ke P "with_last_one" 367 (.ref 146), ke P "divides" 375 (.ref 153), ke P "common_guess" 381 (.ref 158), ke P "common_row" 391 (.ref 165), ke P "monic_row" 397 (.ref 170), ke P "rest_by" 410 (.ref 177), ke P "inverse" 419 (.ref 184), ke P "fraction_of" 429 (.ref 191), ke P "small_multiple" 445 (.ref 198), ke P "_law_cell_at" 455 (.ref 205), ke P "_law_mixed" 463 (.ref 212), ke P "_law_signed" 470 (.ref 219), ke P "_law_part" 478 (.ref 226), ke P "_law_low" 487 (.ref 233), ke P "_law_add" 495 (.ref 240), ke P "_law_mul" 503 (.ref 247), ke P "_law_at" 511 (.ref 254), ke P "_law_same" 521 (.ref 261), ke P "_law_strip" 529 (.ref 268), ke P "_law_row_by" 542 (.ref 275), ke P "_law_product" 554 (.ref 282), ke P "_law_less" 567 (.ref 289), ke P "_law_quotient" 575 (.ref 296), ke P "_law_rest" 583 (.ref 303), ke P "_law_walked" 589 (.ref 308), ke P "_law_apart" 600 (.ref 315), ke P "law" 612 (.ref 322)] 53 }
noncomputable def g12_4 (P : Params) : List Value := (g12_3 P).append [.int 194 0, .int 0 0, .ref 267, .int 199 0, .int 0 0, .ref 274, .int 209 0, .int 0 0, .ref 281, .int 217 0, .int 0 0, .ref 288, .int 223 0, .int 0 0, .ref 295, .int 225 0, .int 0 0, .ref 302, .int 229 0, .int 0 0, .ref 307, .int 233 0, .int 0 0, .ref 314, .int 241 0, .int 0 0, .ref 321]
noncomputable def u12 (P : Params) : Obj := { cls := .none, data := .fields (Array.mk (g12_4 P)) }
noncomputable def u264 : Obj := tS 525 ["_law_row", "_law_many"]
noncomputable def u266 : Obj := pF "_law_strip" "_law_strip" (top 41)
noncomputable def u267 : Obj := c1 "_law_strip" 522 194 1 3 262 527 528
noncomputable def u268 : Obj := f1 "_law_strip" (top 41) mS4 267
noncomputable def u271 : Obj := tS 533 ["_law_cell", "_law_k", "_law_rest_here", "_law_row", "_law_low_here", "_law_many", "_law_turn"]
noncomputable def u273 : Obj := pF "_law_row_by" "_law_row_by" (top 42)
noncomputable def u274 : Obj := c1 "_law_row_by" 530 199 2 3 269 540 541
noncomputable def u275 : Obj := f1 "_law_row_by" (top 42) mS4 274
noncomputable def u278 : Obj := tS 546 ["_law_one", "_law_other", "_law_made", "_law_power", "_law_figure", "_law_k"]
noncomputable def u280 : Obj := pF "_law_product" "_law_product" (top 43)
noncomputable def u281 : Obj := c1 "_law_product" 543 209 2 3 276 552 553
noncomputable def u282 : Obj := f1 "_law_product" (top 43) mS4 281
noncomputable def u285 : Obj := tS 558 ["_law_one", "_law_other", "_law_number", "_law_power", "_law_made", "_law_k", "_law_figure"]
noncomputable def u287 : Obj := pF "_law_less" "_law_less" (top 44)
noncomputable def u288 : Obj := c1 "_law_less" 555 217 4 3 283 565 566
noncomputable def u289 : Obj := f1 "_law_less" (top 44) mS4 288
noncomputable def u292 : Obj := tS 571 ["_law_one", "_law_other"]
noncomputable def u294 : Obj := pF "_law_quotient" "_law_quotient" (top 45)
noncomputable def u295 : Obj := c1 "_law_quotient" 568 223 2 3 290 573 574
noncomputable def u296 : Obj := f1 "_law_quotient" (top 45) mS4 295
noncomputable def u299 : Obj := tS 579 ["_law_left", "_law_right"]
noncomputable def u301 : Obj := pF "_law_rest" "_law_rest" (top 46)
noncomputable def u302 : Obj := c1 "_law_rest" 576 225 2 3 297 581 582
noncomputable def u303 : Obj := f1 "_law_rest" (top 46) mS4 302
noncomputable def u306 : Obj := pF "_law_walked" "_law_walked" (top 47)
noncomputable def u307 : Obj := cG "_law_walked" "_law_walked" 584 229 2 3 304 true .none .none (.ref 306) 587 588
noncomputable def u308 : Obj := f1 "_law_walked" (top 47) mS4 307
noncomputable def u311 : Obj := tS 593 ["_law_told", "_law_handed", "_law_kept", "_law_copy", "_law_row"]
noncomputable def u313 : Obj := pF "_law_apart" "_law_apart" (top 48)
noncomputable def u314 : Obj := c1 "_law_apart" 590 233 3 3 309 598 599
noncomputable def u315 : Obj := f1 "_law_apart" (top 48) mS4 314
noncomputable def u318 : Obj := tS 604 ["_law_script", "_law_one", "_law_other", "_law_more", "_law_handed", "_law_told"]
noncomputable def u320 : Obj := pF "law" "law" (top 49)
noncomputable def u321 : Obj := c1 "law" 601 241 1 3 316 610 611
noncomputable def u322 : Obj := f1 "law" (top 49) mS4 321
noncomputable def L_4 (P : Params) : List Obj := (((L_3 P).set 3 (u3 P)).set 12 (u12 P)).append [tE, fE, u264, tE, u266, u267, u268, tE, fE, u271, tE, u273, u274, u275, tE, fE, u278, tE, u280, u281, u282, tE, fE, u285, tE, u287, u288, u289, tE, fE, u292, tE, u294, u295, u296, tE, fE, u299, tE, u301, u302, u303, tE, fE, u306, u307, u308, tE, fE, u311, tE, u313, u314, u315, tE, fE, u318, tE, u320, u321, u322]
noncomputable def L_f (P : Params) : List Obj := L_4 P
noncomputable def tr_0 (P : Params) : BT := bld 12 (L_b P)
noncomputable def tr_1 (P : Params) : BT := bld 12 (L_1 P)
noncomputable def tr_2 (P : Params) : BT := bld 12 (L_2 P)
noncomputable def tr_3 (P : Params) : BT := bld 12 (L_3 P)
noncomputable def tr_4 (P : Params) : BT := bld 12 (L_4 P)
noncomputable def ha (P : Params) : Heap := ⟨Array.mk (L_a P), {}⟩
noncomputable abbrev st_0 (w : World) (os : OsState) : SharedT := ⟨tr_0 w.params, 15, {}, Array.mk [], {}, 187, os⟩
noncomputable abbrev st_1 (w : World) (os : OsState) : SharedT := ⟨tr_1 w.params, 54, {}, Array.mk [], {}, 245, os⟩
noncomputable def l_1 : List Stmt := (bE.drop 0).take 7
noncomputable abbrev st_2 (w : World) (os : OsState) : SharedT := ⟨tr_2 w.params, 159, {}, Array.mk [], {}, 382, os⟩
noncomputable def l_2 : List Stmt := (bE.drop 7).take 18
noncomputable abbrev st_3 (w : World) (os : OsState) : SharedT := ⟨tr_3 w.params, 262, {}, Array.mk [], {}, 522, os⟩
noncomputable def l_3 : List Stmt := (bE.drop 25).take 16
noncomputable abbrev st_4 (w : World) (os : OsState) : SharedT := ⟨tr_4 w.params, 323, {}, Array.mk [], {}, 613, os⟩
noncomputable def l_4 : List Stmt := (bE.drop 41).take 9
noncomputable def hf (P : Params) : Heap := ⟨Array.mk [boot_o_0 P, boot_o_1 P, boot_o_2 P, u3 P, boot_o_4 P, boot_o_5 P, boot_o_6 P, boot_o_7 P, boot_o_8 P, boot_o_9 P, boot_o_10 P, tE, u12 P, u13, u14, u15, u16, u17 P, tE, fE, u20, u21, u22, u23 P, u24, u25, u26, u27, u28, u29, u30 P, tE, fE, u33, u34, u35, u36 P, u37, u38, u39, tE, fE, u42, tE, u44, u45, u46, tE, fE, u49, tE, u51, u52, u53, u54, tE, fE, u57, tE, u59, u60, u61, tE, fE, u64, tE, u66, u67, u68, tE, fE, u71, tE, u73, u74, u75, tE, fE, u78, tE, u80, u81, u82, tE, fE, u85, tE, u87, u88, u89, tE, fE, u92, tE, u94, u95, u96, tE, fE, u99, tE, u101, u102, u103, tE, fE, u106, u107, u108, tE, fE, u111, tE, u113, u114, u115, tE, fE, u118, u119, u120, tE, fE, u123, tE, u125, u126, u127, tE, fE, u130, u131, u132, tE, fE, u135, tE, u137, u138, u139, tE, fE, u142, tE, u144, u145, u146, tE, fE, u149, tE, u151, u152, u153, tE, fE, u156, u157, u158, tE, fE, u161, tE, u163, u164, u165, tE, fE, u168, u169, u170, tE, fE, u173, tE, u175, u176, u177, tE, fE, u180, tE, u182, u183, u184, tE, fE, u187, tE, u189, u190, u191, tE, fE, u194, tE, u196, u197, u198, tE, fE, u201, tE, u203, u204, u205, tE, fE, u208, tE, u210, u211, u212, tE, fE, u215, tE, u217, u218, u219, tE, fE, u222, tE, u224, u225, u226, tE, fE, u229, tE, u231, u232, u233, tE, fE, u236, tE, u238, u239, u240, tE, fE, u243, tE, u245, u246, u247, tE, fE, u250, tE, u252, u253, u254, tE, fE, u257, tE, u259, u260, u261, tE, fE, u264, tE, u266, u267, u268, tE, fE, u271, tE, u273, u274, u275, tE, fE, u278, tE, u280, u281, u282, tE, fE, u285, tE, u287, u288, u289, tE, fE, u292, tE, u294, u295, u296, tE, fE, u299, tE, u301, u302, u303, tE, fE, u306, u307, u308, tE, fE, u311, tE, u313, u314, u315, tE, fE, u318, tE, u320, u321, u322], {}⟩
theorem t_pre (w : World) (os : OsState) : topGo treeTable tp w 11 (some (.ref 6)) 12 ⟨boot_heap w.params, Array.mk [], boot_drawn, boot_toks, os⟩ (topStub tp) = some (⟨ha w.params, Array.mk [], {}, 187, os⟩, Thread.mk (denote treeTable cE) cE ⟨0, 0, 0, 0⟩ [topFrame ⟨0, 0, 0, 0⟩]) := by kernel_rfl
theorem t_blk (w : World) (os : OsState) : segRun treeTable tp w 11 (some (.ref 6)) 1 1 ⟨ha w.params, Array.mk [], {}, 187, os⟩ (blockOf bE eE cE ⟨0, 0, 0, 0⟩ [topFrame ⟨0, 0, 0, 0⟩]) = some (.next, (st_0 w os).abs, cE, ⟨0, 0, 0, 0⟩) := by kernel_rfl
theorem t_1 (w : World) (os : OsState) : segRunT treeTable tp w 11 (some (.ref 6)) 1 489 (st_0 w os) (piecesOf l_1 eE cE ⟨0, 0, 0, 0⟩ [topFrame ⟨0, 0, 0, 0⟩]) = some (.next, st_1 w os, cE, ⟨17, 0, 17, 8⟩) := by kernel_rfl
theorem t_2 (w : World) (os : OsState) : segRunT treeTable tp w 11 (some (.ref 6)) 1 497 (st_1 w os) (piecesOf l_2 eE cE ⟨17, 0, 17, 8⟩ [topFrame ⟨0, 0, 0, 0⟩]) = some (.next, st_2 w os, cE, ⟨98, 0, 106, 18⟩) := by kernel_rfl
theorem t_3 (w : World) (os : OsState) : segRunT treeTable tp w 11 (some (.ref 6)) 1 476 (st_2 w os) (piecesOf l_3 eE cE ⟨98, 0, 106, 18⟩ [topFrame ⟨0, 0, 0, 0⟩]) = some (.next, st_3 w os, cE, ⟨184, 0, 193, 15⟩) := by kernel_rfl
theorem t_4 (w : World) (os : OsState) : segRunT treeTable tp w 11 (some (.ref 6)) 1 288 (st_3 w os) (piecesOf l_4 eE cE ⟨184, 0, 193, 15⟩ [topFrame ⟨0, 0, 0, 0⟩]) = some (.next, st_4 w os, cE, ⟨241, 0, 254, 69⟩) := by kernel_rfl
theorem t_fin (w : World) (os : OsState) : topRun treeTable tp w 11 (some (.ref 6)) 2 (st_4 w os).abs ⟨doneF .next, cE, ⟨241, 0, 254, 69⟩, [topFrame ⟨0, 0, 0, 0⟩]⟩ = some ⟨hf w.params, Array.mk [], {}, 613, os⟩ := by kernel_rfl
theorem l_all : l_1 ++ (l_2 ++ (l_3 ++ (l_4 ++ ([])))) = bE := by kernel_rfl
theorem run0 (w : World) (os : OsState) : topRun treeTable tp w 11 (some (.ref 6)) (489 + (497 + (476 + (288 + (2))))) (st_0 w os).abs (restOf (l_1 ++ (l_2 ++ (l_3 ++ (l_4 ++ ([]))))) eE cE ⟨0, 0, 0, 0⟩ [topFrame ⟨0, 0, 0, 0⟩]) = some ⟨hf w.params, Array.mk [], {}, 613, os⟩ := piece_app (segRun_of (t_1 w os)) (piece_app (segRun_of (t_2 w os)) (piece_app (segRun_of (t_3 w os)) (piece_app (segRun_of (t_4 w os)) (piece_nil (t_fin w os)))))
theorem run (w : World) (os : OsState) : topRun treeTable tp w 11 (some (.ref 6)) (12 + (1 + (489 + (497 + (476 + (288 + (2))))))) ⟨boot_heap w.params, Array.mk [], boot_drawn, boot_toks, os⟩ (topStub tp) = some ⟨hf w.params, Array.mk [], {}, 613, os⟩ := by
  have k := run0 w os
  rw [l_all] at k
  exact go_top (t_pre w os) (piece_block (t_blk w os) k)
noncomputable def KK (P : Params) : Frag :=
  (nat_lit 2, boot_o_2 P) :: (nat_lit 3, u3 P) :: (nat_lit 22, u22) :: (nat_lit 23, u23 P) :: (nat_lit 24, u24) :: (nat_lit 25, u25) :: (nat_lit 35, u35) :: (nat_lit 36, u36 P) :: (nat_lit 37, u37) :: (nat_lit 45, u45) :: (nat_lit 46, u46) :: (nat_lit 52, u52) :: (nat_lit 53, u53) :: (nat_lit 54, u54) :: (nat_lit 60, u60) :: (nat_lit 61, u61) :: (nat_lit 67, u67) :: (nat_lit 68, u68) :: (nat_lit 74, u74) :: (nat_lit 75, u75) :: (nat_lit 81, u81) :: (nat_lit 82, u82) :: (nat_lit 88, u88) :: (nat_lit 89, u89) :: (nat_lit 95, u95) :: (nat_lit 96, u96) :: (nat_lit 102, u102) :: (nat_lit 103, u103) :: (nat_lit 107, u107) :: (nat_lit 108, u108) :: (nat_lit 114, u114) :: (nat_lit 115, u115) :: (nat_lit 119, u119) :: (nat_lit 120, u120) :: (nat_lit 126, u126) :: (nat_lit 127, u127) :: (nat_lit 131, u131) :: (nat_lit 132, u132) :: (nat_lit 138, u138) :: (nat_lit 139, u139) :: (nat_lit 145, u145) :: (nat_lit 146, u146) :: (nat_lit 152, u152) :: (nat_lit 153, u153) :: (nat_lit 157, u157) :: (nat_lit 158, u158) :: (nat_lit 164, u164) :: (nat_lit 165, u165) :: (nat_lit 169, u169) :: (nat_lit 170, u170) :: (nat_lit 176, u176) :: (nat_lit 177, u177) :: (nat_lit 183, u183) :: (nat_lit 184, u184) :: (nat_lit 190, u190) :: (nat_lit 191, u191) :: (nat_lit 197, u197) :: (nat_lit 198, u198) :: (nat_lit 204, u204) :: (nat_lit 205, u205) :: (nat_lit 211, u211) :: (nat_lit 212, u212) :: (nat_lit 218, u218) :: (nat_lit 219, u219) :: (nat_lit 225, u225) :: (nat_lit 226, u226) :: (nat_lit 232, u232) :: (nat_lit 233, u233) :: (nat_lit 239, u239) :: (nat_lit 240, u240) :: (nat_lit 246, u246) :: (nat_lit 247, u247) :: (nat_lit 253, u253) :: (nat_lit 254, u254) :: (nat_lit 260, u260) :: (nat_lit 261, u261) :: (nat_lit 267, u267) :: (nat_lit 268, u268) :: (nat_lit 274, u274) :: (nat_lit 275, u275) :: (nat_lit 281, u281) :: (nat_lit 282, u282) :: (nat_lit 288, u288) :: (nat_lit 289, u289) :: (nat_lit 295, u295) :: (nat_lit 296, u296) :: (nat_lit 302, u302) :: (nat_lit 303, u303) :: (nat_lit 307, u307) :: (nat_lit 308, u308) :: (nat_lit 314, u314) :: (nat_lit 315, u315) :: (nat_lit 321, u321) :: (nat_lit 322, u322) :: []
theorem KK_as (P : Params) : [2, 3, 22, 23, 24, 25, 35, 36, 37, 45, 46, 52, 53, 54, 60, 61, 67, 68, 74, 75, 81, 82, 88, 89, 95, 96, 102, 103, 107, 108, 114, 115, 119, 120, 126, 127, 131, 132, 138, 139, 145, 146, 152, 153, 157, 158, 164, 165, 169, 170, 176, 177, 183, 184, 190, 191, 197, 198, 204, 205, 211, 212, 218, 219, 225, 226, 232, 233, 239, 240, 246, 247, 253, 254, 260, 261, 267, 268, 274, 275, 281, 282, 288, 289, 295, 296, 302, 303, 307, 308, 314, 315, 321, 322] = (KK P).map (·.1) := by kernel_rfl
noncomputable abbrev hook : Hook := kHook KK [2, 3, 22, 23, 24, 25, 35, 36, 37, 45, 46, 52, 53, 54, 60, 61, 67, 68, 74, 75, 81, 82, 88, 89, 95, 96, 102, 103, 107, 108, 114, 115, 119, 120, 126, 127, 131, 132, 138, 139, 145, 146, 152, 153, 157, 158, 164, 165, 169, 170, 176, 177, 183, 184, 190, 191, 197, 198, 204, 205, 211, 212, 218, 219, 225, 226, 232, 233, 239, 240, 246, 247, 253, 254, 260, 261, 267, 268, 274, 275, 281, 282, 288, 289, 295, 296, 302, 303, 307, 308, 314, 315, 321, 322] KK_as
theorem la (w : World) (os : OsState) : (staticsOk (importedModules tp.main.body) (boot_heap w.params) (hf w.params) && namesBound tp (hf w.params) && gensDone ⟨hf w.params, Array.mk [], {}, 613, os⟩ && laidKept (boot_heap w.params) (hf w.params)) = true := by kernel_rfl
noncomputable abbrev LO : List Str := [("fraction" : Str)]
open PyProof.Rows PySem.Calls
theorem lb0 (w : World) (os : OsState) : seen ((recsOf q).map (·.name)) (ownsOf q) [] { (⟨hf w.params, Array.mk [], {}, 613, os⟩ : Shared) with gens := #[] } = expectedOf q := by kernel_rfl
theorem lb1 (w : World) (os : OsState) : (hf w.params).bltView = bltViewBooted := by kernel_rfl
theorem lb2 (w : World) (os : OsState) : ((hf w.params).keysOk (looseW q LO) ((recsOf q).map (·.name)) ((litsOf q).map (·.1)) ((clssOf q (looseW q LO)).map (·.name)) && (hf w.params).accountedOkI (importedModules tp.main.body) && (hf w.params).isNs mainGlobals && (hf w.params).isNs builtinsNs && tablesOk q (hf w.params) && (fun s => xlAt q [] s && recOk [] s) (⟨hf w.params, Array.mk [], {}, 613, os⟩ : Shared) && (if true then ((⟨hf w.params, Array.mk [], {}, 613, os⟩ : Shared)).gens.size == 0 else !leftWithCleanup ((⟨hf w.params, Array.mk [], {}, 613, os⟩ : Shared)).gens)) = true := by kernel_rfl
theorem lb3 (w : World) (os : OsState) : tabsOk q (⟨hf w.params, Array.mk [], {}, 613, os⟩ : Shared) = true := by kernel_rfl
theorem lb4 (w : World) (os : OsState) : pinSeenD q (drecsOf q) (⟨hf w.params, Array.mk [], {}, 613, os⟩ : Shared) = pinGoodD (drecsOf q) := by kernel_rfl
theorem lb5 (w : World) (os : OsState) : plainSeenE q (looseW q LO) (⟨hf w.params, Array.mk [], {}, 613, os⟩ : Shared) = plainGoodE q (looseW q LO) := by kernel_rfl
theorem lb6 (w : World) (os : OsState) : plainSeenD q LO (⟨hf w.params, Array.mk [], {}, 613, os⟩ : Shared) = plainGoodD q LO := by kernel_rfl
theorem lb7 (w : World) (os : OsState) : wideSeen q (⟨hf w.params, Array.mk [], {}, 613, os⟩ : Shared) = wideGood q := by kernel_rfl
theorem lb8 (w : World) (os : OsState) : clsSeenW q LO (⟨hf w.params, Array.mk [], {}, 613, os⟩ : Shared) = clsGoodW q LO := by kernel_rfl
theorem lb (w : World) (os : OsState) : openSeen q LO (importedModules tp.main.body) (fun s => xlAt q [] s && recOk [] s) true (⟨hf w.params, Array.mk [], {}, 613, os⟩ : Shared) = openGood q LO := congr (congrArg Prod.mk (lb0 w os)) (congr (congrArg Prod.mk (lb1 w os)) (congr (congrArg Prod.mk (lb2 w os)) (congr (congrArg Prod.mk (lb3 w os)) (congr (congrArg Prod.mk (lb4 w os)) (congr (congrArg Prod.mk (lb5 w os)) (congr (congrArg Prod.mk (lb6 w os)) (congr (congrArg Prod.mk (lb7 w os)) (lb8 w os))))))))
theorem lc (w : World) (os : OsState) : hook.obs ⟨hf w.params, Array.mk [], {}, 613, os⟩ = hook.val w := by kernel_rfl
theorem ld (w : World) : ((boot_heap w.params).isNs mainGlobals && (Array.mk ([] : List GenState)).size == 0, (boot_heap w.params).objs.size, (boot_heap w.params).nsMap mainGlobals "__annotations__") = (true, 11, some (.ref 6)) := by kernel_rfl
theorem left : LeftO tp q [("fraction" : Str)] (fun s => xlAt q [] s && recOk [] s) hook.obs hook.val 4500 :=
  LeftO.of_pieces (boot_open (by kernel_rfl) (by decide) (fun s => by kernel_rfl)) ld run (by decide) (fun w => funext fun os => congr (congrArg Prod.mk (la w os)) (congr (congrArg Prod.mk (lb w os)) (lc w os)))
end My
open PySem PySem.W PyProof.Rows
set_option maxRecDepth 100000 in
set_option maxHeartbeats 0 in
theorem PySem.Challenge.cw_tautcord_k16_common_parts_holds : PySem.Challenge.rw_tautcord_k16_common_parts.Holds := by
  refine holds_law My.said fun said => ?_
  refine holds_open (q := My.q) (loose := [("fraction" : Str)]) (Xt := fun s => xlAt My.q [] s && recOk [] s) (XP := XL My.q []) (Yf := Hook.obs My.hook) (Ya := Hook.val My.hook) (YP := Hook.says My.hook) (N := 4500) My.left (Hook.of My.hook) (Hook.keeps My.hook) (fun s e => xl_of s (Bool.and_eq_true_iff.mp e).1) XL.keeps (by rfl) (by rfl) (by rfl) (fun s e => recFacts_of (Bool.and_eq_true_iff.mp e).2) (by rfl) said (by decide +kernel) ⟨rfl, rfl, rfl, rfl, rfl, by decide +kernel⟩ ?hw ?hc
  case hw => w_witness2
  delta My.hook
  k_fill
  refine My.walk (l := PySem.Challenge.rw_tautcord_k16_common_parts) rfl rfl (fun w h Y => PySem.W.kIn_of Y) ?F
  case F =>
    intro w mg fa h KX G hmg
    refine' My.all_mk KX G hmg ?a1 ?l1 ?c1 ?k1 ?a2 ?l2 ?c2 ?k2 ?a3 ?l3 ?c3 ?k3 ?d3 ?a4 ?l4 ?c4 ?k4 ?a5 ?l5 ?c5 ?k5 ?a6 ?l6 ?c6 ?k6 ?a7 ?l7 ?c7 ?k7 ?a8 ?l8 ?c8 ?k8 ?a9 ?l9 ?c9 ?k9 ?a10 ?l10 ?c10 ?k10 ?a11 ?l11 ?c11 ?k11 ?a12 ?l12 ?c12 ?k12 ?a13 ?l13 ?c13 ?k13 ?a14 ?l14 ?c14 ?k14 ?a15 ?l15 ?c15 ?k15 ?a16 ?l16 ?c16 ?k16 ?a17 ?l17 ?c17 ?k17 ?a18 ?l18 ?c18 ?k18 ?a19 ?l19 ?c19 ?k19 ?a20 ?l20 ?c20 ?k20 ?a21 ?l21 ?c21 ?k21 ?a22 ?l22 ?c22 ?k22 ?a23 ?l23 ?c23 ?k23 ?a24 ?l24 ?c24 ?k24 ?a25 ?l25 ?c25 ?k25 ?a26 ?l26 ?c26 ?k26 ?a27 ?l27 ?c27 ?k27 ?a28 ?l28 ?c28 ?k28 ?a29 ?l29 ?c29 ?k29 ?a30 ?l30 ?c30 ?k30 ?a31 ?l31 ?c31 ?k31 ?a32 ?l32 ?c32 ?k32 ?a33 ?l33 ?c33 ?k33 ?a34 ?l34 ?c34 ?k34 ?a35 ?l35 ?c35 ?k35 ?a36 ?l36 ?c36 ?k36 ?a37 ?l37 ?c37 ?k37 ?a38 ?l38 ?c38 ?k38 ?a39 ?l39 ?c39 ?k39 ?a40 ?l40 ?c40 ?k40 ?a41 ?l41 ?c41 ?k41 ?a42 ?l42 ?c42 ?k42 ?z_abs ?z_len ?z_isinstance ?z_int ?z_bool ?z_tuple ?z_range ?z_list
    (case a1 => k_is); (case l1 => k_is); (case c1 => k_is); (case k1 => k_is)
    (case a2 => k_is); (case l2 => k_is); (case c2 => k_is); (case k2 => k_is)
    (case a3 => k_is); (case l3 => k_is); (case c3 => k_is); (case k3 => k_is)
    (case d3 => k_is); (case a4 => k_is); (case l4 => k_is); (case c4 => k_is)
    (case k4 => k_is); (case a5 => k_is); (case l5 => k_is); (case c5 => k_is)
    (case k5 => k_is); (case a6 => k_is); (case l6 => k_is); (case c6 => k_is)
    (case k6 => k_is); (case a7 => k_is); (case l7 => k_is); (case c7 => k_is)
    (case k7 => k_is); (case a8 => k_is); (case l8 => k_is); (case c8 => k_is)
    (case k8 => k_is); (case a9 => k_is); (case l9 => k_is); (case c9 => k_is)
    (case k9 => k_is); (case a10 => k_is); (case l10 => k_is); (case c10 => k_is)
    (case k10 => k_is); (case a11 => k_is); (case l11 => k_is); (case c11 => k_is)
    (case k11 => k_is); (case a12 => k_is); (case l12 => k_is); (case c12 => k_is)
    (case k12 => k_is); (case a13 => k_is); (case l13 => k_is); (case c13 => k_is)
    (case k13 => k_is); (case a14 => k_is); (case l14 => k_is); (case c14 => k_is)
    (case k14 => k_is); (case a15 => k_is); (case l15 => k_is); (case c15 => k_is)
    (case k15 => k_is); (case a16 => k_is); (case l16 => k_is); (case c16 => k_is)
    (case k16 => k_is); (case a17 => k_is); (case l17 => k_is); (case c17 => k_is)
    (case k17 => k_is); (case a18 => k_is); (case l18 => k_is); (case c18 => k_is)
    (case k18 => k_is); (case a19 => k_is); (case l19 => k_is); (case c19 => k_is)
    (case k19 => k_is); (case a20 => k_is); (case l20 => k_is); (case c20 => k_is)
    (case k20 => k_is); (case a21 => k_is); (case l21 => k_is); (case c21 => k_is)
    (case k21 => k_is); (case a22 => k_is); (case l22 => k_is); (case c22 => k_is)
    (case k22 => k_is); (case a23 => k_is); (case l23 => k_is); (case c23 => k_is)
    (case k23 => k_is); (case a24 => k_is); (case l24 => k_is); (case c24 => k_is)
    (case k24 => k_is); (case a25 => k_is); (case l25 => k_is); (case c25 => k_is)
    (case k25 => k_is); (case a26 => k_is); (case l26 => k_is); (case c26 => k_is)
    (case k26 => k_is); (case a27 => k_is); (case l27 => k_is); (case c27 => k_is)
    (case k27 => k_is); (case a28 => k_is); (case l28 => k_is); (case c28 => k_is)
    (case k28 => k_is); (case a29 => k_is); (case l29 => k_is); (case c29 => k_is)
    (case k29 => k_is); (case a30 => k_is); (case l30 => k_is); (case c30 => k_is)
    (case k30 => k_is); (case a31 => k_is); (case l31 => k_is); (case c31 => k_is)
    (case k31 => k_is); (case a32 => k_is); (case l32 => k_is); (case c32 => k_is)
    (case k32 => k_is); (case a33 => k_is); (case l33 => k_is); (case c33 => k_is)
    (case k33 => k_is); (case a34 => k_is); (case l34 => k_is); (case c34 => k_is)
    (case k34 => k_is); (case a35 => k_is); (case l35 => k_is); (case c35 => k_is)
    (case k35 => k_is); (case a36 => k_is); (case l36 => k_is); (case c36 => k_is)
    (case k36 => k_is); (case a37 => k_is); (case l37 => k_is); (case c37 => k_is)
    (case k37 => k_is); (case a38 => k_is); (case l38 => k_is); (case c38 => k_is)
    (case k38 => k_is); (case a39 => k_is); (case l39 => k_is); (case c39 => k_is)
    (case k39 => k_is); (case a40 => k_is); (case l40 => k_is); (case c40 => k_is)
    (case k40 => k_is); (case a41 => k_is); (case l41 => k_is); (case c41 => k_is)
    (case k41 => k_is); (case a42 => k_is); (case l42 => k_is); (case c42 => k_is)
    (case k42 => k_is); (case z_abs => k_is); (case z_len => k_is); (case z_isinstance => k_is)
    (case z_int => k_is); (case z_bool => k_is); (case z_tuple => k_is); (case z_range => k_is)
    (case z_list => k_is)
