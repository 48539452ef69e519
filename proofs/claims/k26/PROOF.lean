import PyProof.Rows.All
import Wide.All
import OpenK.AllK
import Wide.FinOn
import Lean
import PyProof.EqAt
import PyProof.EqKinds
import PyProof.TupleCall
import PySem.Challenge.RW_tautcord_k26_squares
set_option Elab.async false
set_option linter.all false
set_option maxRecDepth 100000
namespace L2
open PySem PySem.Spec PyProof.Rows

noncomputable abbrev Key := Sum Int Str
noncomputable def keyIs : Key → Value → Bool
  | .inl k, v => Value.isInt k v
  | .inr x, v => Value.isStrOf x v
noncomputable def keyH (w : World) : Key → Int
  | .inl k => hashInt k
  | .inr x => hashStr w x
theorem keyIs_shape : ∀ {k : Key} {v : Value}, keyIs k v = true → (∃ i t, k = Sum.inl i ∧ v = Value.int i t) ∨ (∃ x t, k = Sum.inr x ∧ v = Value.str x t)
  | .inl i, v, h => by
    obtain ⟨t, e⟩ := Value.isInt_shape (k := i) (v := v) h
    exact .inl ⟨i, t, rfl, e⟩
  | .inr x, v, h => by
    obtain ⟨t, e⟩ := Value.isStrOf_shape (x := x) (v := v) h
    exact .inr ⟨x, t, rfl, e⟩
theorem key_ll (a b : Int) : decide ((Sum.inl a : Key) = Sum.inl b) = (a == b) := by
  by_cases e : a = b
  · subst e; simp
  · have h : ¬ (Sum.inl a : Key) = Sum.inl b := fun q => e (Sum.inl.inj q)
    rw [decide_eq_false h]
    exact (beq_eq_false_iff_ne.mpr e).symm
theorem key_rr (a b : Str) : decide ((Sum.inr a : Key) = Sum.inr b) = decide (a = b) := by
  by_cases e : a = b
  · subst e; simp
  · have h : ¬ (Sum.inr a : Key) = Sum.inr b := fun q => e (Sum.inr.inj q)
    rw [decide_eq_false h, decide_eq_false e]
theorem key_lr (a : Int) (b : Str) : decide ((Sum.inl a : Key) = Sum.inr b) = false := decide_eq_false (fun q => nomatch q)
theorem key_rl (a : Str) (b : Int) : decide ((Sum.inr a : Key) = Sum.inl b) = false := decide_eq_false (fun q => nomatch q)

noncomputable def mixKind (prog : Program) (w : World) : PySem.KeyKind prog w Key where
  is := keyIs
  hash := keyH w
  inj := fun v a b ha hb => by
    rcases keyIs_shape ha with ⟨i, t, rfl, rfl⟩ | ⟨x, t, rfl, rfl⟩
    · rcases keyIs_shape hb with ⟨j, u, rfl, e⟩ | ⟨y, u, rfl, e⟩
      · injection e with e1 _; rw [e1]
      · exact nomatch e
    · rcases keyIs_shape hb with ⟨j, u, rfl, e⟩ | ⟨y, u, rfl, e⟩
      · exact nomatch e
      · injection e with e1 _; rw [e1]
  byValue := fun k v h => by
    rcases keyIs_shape h with ⟨i, t, rfl, rfl⟩ | ⟨x, t, rfl, rfl⟩ <;> rfl
  pyHash := fun hv h => by
    rcases keyIs_shape hv with ⟨i, t, rfl, rfl⟩ | ⟨x, t, rfl, rfl⟩
    · exact wpAny_pyHash_int h
    · exact wpAny_pyHash_str h
  eqBool := fun hu hv h => by
    rcases keyIs_shape hu with ⟨i, t, rfl, rfl⟩ | ⟨x, t, rfl, rfl⟩
    · rcases keyIs_shape hv with ⟨j, u, rfl, rfl⟩ | ⟨y, u, rfl, rfl⟩
      · rw [key_ll] at h; exact wpAny_eqBool_int h
      · rw [key_lr] at h; exact SeqAt.EqAt.int_str i t y u _ _ _ _ h
    · rcases keyIs_shape hv with ⟨j, u, rfl, rfl⟩ | ⟨y, u, rfl, rfl⟩
      · rw [key_rl] at h; exact SeqAt.EqAt.str_int x t j u _ _ _ _ h
      · rw [key_rr] at h; exact wpAny_eqBool_str h
  «strs» := fun k x t v h => by
    rcases keyIs_shape h with ⟨i, u, rfl, e⟩ | ⟨y, u, rfl, e⟩
    · exact nomatch e
    · injection e with e1 _
      subst e1
      cases v <;> rfl

end L2

namespace L2
open PySem PySem.Spec PyProof.Rows

inductive V where
  | non | bl (b : Bool) | int (i : Int) | str (x : Str) | byt (b : Array UInt8) | flt (b : UInt64) | ref (a : Addr) | ty (n : String)
  deriving DecidableEq

noncomputable def RelV : V → Value → Prop
  | .non, u => u = Value.none
  | .bl b, u => u = Value.bool b
  | .int i, u => ∃ t, u = Value.int i t
  | .str x, u => ∃ t, u = Value.str x t
  | .byt b, u => ∃ t, u = Value.bytes b t
  | .flt b, u => ∃ t, u = Value.float b t
  | .ref a, u => u = Value.ref a
  | .ty n, u => u = Value.type n

noncomputable abbrev Vals : List V → List Value → Prop := Paired RelV
theorem Vals.length {xs : List V} {us : List Value} (r : Vals xs us) : xs.length = us.length := Paired.length r
theorem Vals.get : ∀ {xs : List V} {us : List Value} {i : Nat} {x : V}, Vals xs us → xs[i]? = some x → ∃ u, us[i]? = some u ∧ RelV x u
  | _, _, _, _, .nil, e => by simp at e
  | _, _, 0, _, .cons r _, e => by simp at e; subst e; exact ⟨_, rfl, r⟩
  | _, _, i + 1, x, .cons _ t, e => by
    obtain ⟨u, h1, h2⟩ := Vals.get (i := i) (x := x) t (by simpa using e)
    exact ⟨u, by simpa using h1, h2⟩
theorem Vals.set {x : V} {u : Value} (r : RelV x u) : ∀ {xs : List V} {us : List Value} (i : Nat), Vals xs us → Vals (xs.set i x) (us.set i u)
  | _, _, _, .nil => .nil
  | _, _, 0, .cons _ t => .cons r t
  | _, _, i + 1, .cons q t => .cons q (Vals.set r i t)
theorem Vals.append : ∀ {xs ys : List V} {us ws : List Value}, Vals xs us → Vals ys ws → Vals (xs ++ ys) (us ++ ws)
  | _, _, _, _, .nil, s => s
  | _, _, _, _, .cons r t, s => .cons r (Vals.append t s)
theorem Vals.take : ∀ {xs : List V} {us : List Value} (n : Nat), Vals xs us → Vals (xs.take n) (us.take n)
  | _, _, 0, _ => .nil
  | _, _, _ + 1, .nil => .nil
  | _, _, n + 1, .cons r t => .cons r (Vals.take n t)
theorem Vals.drop : ∀ {xs : List V} {us : List Value} (n : Nat), Vals xs us → Vals (xs.drop n) (us.drop n)
  | _, _, 0, r => r
  | _, _, _ + 1, .nil => .nil
  | _, _, n + 1, .cons _ t => Vals.drop n t

noncomputable def RelO : Option V → Option Value → Prop
  | some v, some u => RelV v u
  | none, none => True
  | _, _ => False
noncomputable def KV {κ : Type} : List (κ × V) → List (κ × Value) → Prop := Paired fun (p : κ × V) (q : κ × Value) => p.1 = q.1 ∧ RelV p.2 q.2

noncomputable def kV : Key → V
  | .inl i => .int i
  | .inr x => .str x

inductive HO where
  | lst (xs : List V)
  | tup (xs : List V)
  | dK (kvs : List (Key × V)) | dT (kvs : List (List Key × V))
  | set (S : Int → Bool) (n : Nat)
  | ins (C dx : Addr) (fs : List (Str × V))
  | own (x : Addr)
  | xd (fs : List (Str × V))
  | met (f x : Addr)
  | rng (lo hi : Int)
  | frz (o : Obj) (u : HO)
  | tbl (ps : Array Value)
  | ext (φ : Heap → Prop)

noncomputable abbrev Hp := Addr → Option HO
noncomputable def upd (H : Hp) (a : Addr) (o : HO) : Hp := fun b => if b = a then some o else H b
theorem upd_same {H : Hp} {a : Addr} {o : HO} : upd H a o a = some o := by unfold upd; rw [if_pos rfl]
theorem upd_ne {H : Hp} {a b : Addr} {o : HO} (h : b ≠ a) : upd H a o b = H b := by unfold upd; rw [if_neg h]
theorem ne_of {H : Hp} {a b : Addr} {o u : HO} (h : H a = some o) (h' : H b = some u) (d : o ≠ u) : a ≠ b := by
  intro e; subst e; rw [h] at h'; exact d (Option.some.inj h')
theorem ne_of_none {H : Hp} {a b : Addr} {o : HO} (h : H a = some o) (h' : H b = none) : a ≠ b := by
  intro e; subst e; rw [h] at h'; cases h'

section
variable (P : Program) (w : World)
noncomputable def ObjOk (H : Hp) (h : Heap) (a : Addr) : HO → Prop
  | .lst xs => xs.length ≤ sizeLine ∧ ∃ (its : List Value) (n : Nat), Vals xs its ∧ h.get? a = some { cls := .type "list", data := .seq its.toArray n }
  | .tup xs => xs.length ≤ sizeLine ∧ ∃ its : List Value, Vals xs its ∧ IsTup h a its.toArray
  | .dK kvs => kvs.length ≤ sizeLine ∧ (a == sysModules) = false ∧ ∃ vs, KV kvs vs ∧ h.DictOf (mixKind P w) a vs
  | .dT kvs => kvs.length ≤ sizeLine ∧ (a == sysModules) = false ∧ ∃ xs : List (List Key × Addr × Value),
      Paired (fun (p : List Key × V) (q : List Key × Addr × Value) => p.1 = q.1 ∧ H q.2.1 = some (.tup (p.1.map kV)) ∧ RelV p.2 q.2.2) kvs xs ∧
      ∃ o es ep, h.get? a = some o ∧ o.ExactDict ∧ o.data = .dict es ep ∧ es.toList = xs.map (entryOfKey (tupleKind (mixKind P w))) ∧ (xs.map (·.1)).Nodup
  | .set S n => h.SetOf (intKind P w) a S n
  | .ins C dx fs => H dx = some (.own a) ∧ fs.length ≤ 1000 ∧ dx ≠ a ∧ h.get? a = some (PySem.W.instObj C dx) ∧
      ∃ mA, h.Ns1 dx mA ∧ (∀ f, RelO (fs.lookup f) (mA f)) ∧ PySem.Within mA (fs.map (·.1))
  | .own _ => ∃ o, h.get? a = some o
  | .xd fs => ∃ mA, h.Ns1 a mA ∧ ∀ f, RelO (fs.lookup f) (mA f)
  | .rng lo hi => ∃ t u v, h.get? a = some { cls := .type "range", data := .fields #[.int lo t, .int hi u, .int 1 v] }
  | .frz o u => h.get? a = some o ∧ ObjOk H h a u
  | .tbl ps => h.get? a = some { cls := .none, data := .fields ps }
  | .met f x => h.get? a = some (PySem.W.methodObj (.ref f) (.ref x))
  | .ext φ => φ h ∧ (∃ o, h.get? a = some o) ∧ ∀ h1 h2 : Heap, φ h1 → (∀ o, h1.get? a = some o → h2.get? a = some o) → φ h2
noncomputable def HOk (H : Hp) (h : Heap) : Prop := ∀ a o, H a = some o → ObjOk P w H h a o
end

section
variable {P : Program} {w : World} {H H' : Hp} {h h' : Heap} {a : Addr} {o : HO}
theorem ObjOk.lt (x : ObjOk P w H h a o) : a < h.objs.size := by
  cases o with
  | lst xs => obtain ⟨_, _, _, _, e⟩ := x; exact Heap.lt_size e
  | tup xs => obtain ⟨_, _, _, p⟩ := x; exact p.lt
  | dK kvs => obtain ⟨_, _, _, _, o, _, _, e, _⟩ := x; exact Heap.lt_size e
  | dT kvs => obtain ⟨_, _, _, _, o, _, _, e, _⟩ := x; exact Heap.lt_size e
  | set S n => obtain ⟨o, _, _, _, e, _⟩ := x; exact Heap.lt_size e
  | ins C dx fs => obtain ⟨_, _, _, e, _⟩ := x; exact Heap.lt_size e
  | own y => obtain ⟨_, e⟩ := x; exact Heap.lt_size e
  | xd fs => obtain ⟨_, ⟨_, _, _, e, _⟩, _⟩ := x; exact Heap.lt_size e
  | rng lo hi => obtain ⟨_, _, _, e⟩ := x; exact Heap.lt_size e
  | frz ob u => obtain ⟨e, _⟩ := x; exact Heap.lt_size e
  | tbl ps => exact Heap.lt_size (show h.get? a = some _ from x)
  | met f y => exact Heap.lt_size (show h.get? a = some _ from x)
  | ext φ => obtain ⟨_, ⟨_, e⟩, _⟩ := x; exact Heap.lt_size e
theorem Paired.mapP {α β : Type} {F G : α → β → Prop} : ∀ {l₁ : List α} {l₂ : List β}, Paired F l₁ l₂ → (∀ a b, F a b → G a b) → Paired G l₁ l₂
  | _, _, .nil, _ => .nil
  | _, _, .cons r t, f => .cons (f _ _ r) (Paired.mapP t f)
theorem Paired.imp' {α β : Type} {F G : α → β → Prop} (f : ∀ a b, F a b → G a b) {l₁ : List α} {l₂ : List β} (r : Paired F l₁ l₂) : Paired G l₁ l₂ := Paired.mapP r f
theorem ObjOk.stay (x : ObjOk P w H h a o) (k : ∀ b u, (b = a ∨ H b = some (.own a)) → h.get? b = some u → h'.get? b = some u)
    (ho : ∀ b, H b = some (.own a) → H' b = some (.own a)) (ht : ∀ b xs, H b = some (.tup xs) → H' b = some (.tup xs)) : ObjOk P w H' h' a o := by
  induction o with
  | lst xs => obtain ⟨z, its, n, r, e⟩ := x; exact ⟨z, its, n, r, k _ _ (.inl rfl) e⟩
  | tup xs => obtain ⟨z, its, r, ob, e, c⟩ := x; exact ⟨z, its, r, ob, k _ _ (.inl rfl) e, c⟩
  | dK kvs => obtain ⟨z, y, vs, r, ob, es, ep, e, c⟩ := x; exact ⟨z, y, vs, r, ob, es, ep, k _ _ (.inl rfl) e, c⟩
  | dT kvs =>
    obtain ⟨z, y, xs, r, ob, es, ep, e, c⟩ := x
    exact ⟨z, y, xs, Paired.mapP r fun p q z => ⟨z.1, ht _ _ z.2.1, z.2.2⟩, ob, es, ep, k _ _ (.inl rfl) e, c⟩
  | set S n => obtain ⟨ob, es, ep, t, e, c⟩ := x; exact ⟨ob, es, ep, t, k _ _ (.inl rfl) e, c⟩
  | ins C dx fs =>
    obtain ⟨d, z, ne, e, mA, ⟨od, es, ep, e2, c⟩, r⟩ := x
    exact ⟨ho _ d, z, ne, k _ _ (.inl rfl) e, mA, ⟨od, es, ep, k _ _ (.inr d) e2, c⟩, r⟩
  | own y => obtain ⟨ob, e⟩ := x; exact ⟨ob, k _ _ (.inl rfl) e⟩
  | xd fs => obtain ⟨mA, ⟨od, es, ep, e, c⟩, r⟩ := x; exact ⟨mA, ⟨od, es, ep, k _ _ (.inl rfl) e, c⟩, r⟩
  | rng lo hi => obtain ⟨t, u, v, e⟩ := x; exact ⟨t, u, v, k _ _ (.inl rfl) e⟩
  | frz ob u ih => obtain ⟨e, q⟩ := x; exact ⟨k _ _ (.inl rfl) e, ih q⟩
  | tbl ps =>
    have e : h.get? a = some { cls := .none, data := .fields ps } := x
    show h'.get? a = some { cls := .none, data := .fields ps }
    exact k a _ (.inl rfl) e
  | met f y =>
    have e : h.get? a = some (PySem.W.methodObj (.ref f) (.ref y)) := x
    show h'.get? a = some (PySem.W.methodObj (.ref f) (.ref y))
    exact k a _ (.inl rfl) e
  | ext φ => obtain ⟨p, ⟨o, e⟩, st⟩ := x; exact ⟨st _ _ p fun o q => k _ _ (.inl rfl) q, ⟨o, k _ _ (.inl rfl) e⟩, st⟩
theorem HOk.lt (x : HOk P w H h) (e : H a = some o) : a < h.objs.size := (x a o e).lt
theorem HOk.fresh (x : HOk P w H h) (e : h.objs.size ≤ a) : H a = none := by
  cases q : H a with
  | none => rfl
  | some u => exact absurd (Nat.lt_of_lt_of_le (x.lt q) e) (Nat.lt_irrefl _)
theorem HOk.kept (x : HOk P w H h) (k : ∀ b u, h.get? b = some u → h'.get? b = some u) : HOk P w H h' := fun a o e =>
  (x a o e).stay (fun b u _ q => k b u q) (fun _ q => q) fun _ _ q => q
theorem HOk.laid (x : HOk P w H h) (k : ∀ b u, h.get? b = some u → h'.get? b = some u) (hp : h.objs.size ≤ a) (new : ObjOk P w (upd H a o) h' a o) : HOk P w (upd H a o) h' := fun b u e => by
  have hn := x.fresh hp
  by_cases hb : b = a
  · subst hb; rw [upd_same] at e; cases e; exact new
  · rw [upd_ne hb] at e
    exact (x b u e).stay (fun c v _ q => k c v q) (fun c q => by rw [upd_ne (ne_of_none q hn)]; exact q) fun c xs q => by rw [upd_ne (ne_of_none q hn)]; exact q
end

noncomputable def Rd (H : Hp) (a : Addr) (u : HO) : Prop := H a = some u ∨ ∃ o, H a = some (.frz o u)
theorem Rd.ok {P : Program} {w : World} {H : Hp} {h : Heap} {a : Addr} {u : HO} (r : Rd H a u) (x : HOk P w H h) : ObjOk P w H h a u := by
  rcases r with r | ⟨o, r⟩
  · exact x a u r
  · obtain ⟨_, q⟩ := x a _ r
    exact q
noncomputable def Mut : Option HO → Prop
  | some (.lst _) => True
  | some (.dK _) => True
  | some (.dT _) => True
  | some (.set _ _) => True
  | some (.ins _ _ _) => True
  | some (.ext _) => True
  | _ => False
section
variable {P : Program} {w : World} {H : Hp} {h h' : Heap} {x e : Addr} {o' : HO}
theorem HOk.write (ok : HOk P w H h) (mu : Mut (H x)) (he : e = x ∨ H e = some (.own x)) (k : ∀ b u, b ≠ e → h.get? b = some u → h'.get? b = some u) (heo : ∃ u, h'.get? e = some u)
    (new : ObjOk P w (upd H x o') h' x o') : HOk P w (upd H x o') h' := fun b u q => by
  have nown : ∀ c y, H c = some (.own y) → c ≠ x := fun c y r z => by subst z; rw [r] at mu; exact mu
  have ntup : ∀ c xs, H c = some (.tup xs) → c ≠ x := fun c xs r z => by subst z; rw [r] at mu; exact mu
  by_cases hb : b = x
  · subst hb; rw [upd_same] at q; cases q; exact new
  · rw [upd_ne hb] at q
    by_cases hbe : b = e
    · have q' : H b = some (.own x) := by
        rcases he with z | z
        · exact absurd (hbe.trans z) hb
        · rw [hbe]; exact z
      rw [q] at q'; cases q'
      obtain ⟨v, hv⟩ := heo
      exact ⟨v, by rw [hbe]; exact hv⟩
    · refine (ok b u q).stay (fun c v hc r => k c v ?_ r) (fun c r => by rw [upd_ne (nown c b r)]; exact r) fun c xs r => by rw [upd_ne (ntup c xs r)]; exact r
      rcases hc with rfl | hc
      · exact hbe
      · rintro rfl
        rcases he with z | z
        · exact nown c b hc z
        · rw [hc] at z; cases z; exact hb rfl
end

structure Un (fs ex : List Addr) (H H' : Hp) (h h' : Heap) : Prop where
  keep : ∀ b o, h.get? b = some o → H b = none → b ∉ fs → b ∉ ex → h'.get? b = some o
  slot : ∀ b o, h.get? b = some o → H b = none → b ∈ fs → b ∉ ex → ∃ sl, h'.get? b = some { o with slots := sl }
  free : ∀ b o, h.get? b = some o → H b = none → b ∉ ex → H' b = none
  there : ∀ b o, h.get? b = some o → b ∉ ex → ∃ o', h'.get? b = some o'
  tups : ∀ b xs, H b = some (.tup xs) → H' b = some (.tup xs)
  frzs : ∀ b o u, H b = some (.frz o u) → H' b = some (.frz o u)
  tbls : ∀ b ps, H b = some (.tbl ps) → ∃ more, H' b = some (.tbl (ps ++ more))
section
variable {fs fs' ex ex' : List Addr} {H H1 H2 : Hp} {h h1 h2 h' : Heap} {a x e : Addr} {o : HO}
theorem Un.any (u : Un fs ex H H1 h h1) {b : Addr} {ob : Obj} (q : h.get? b = some ob) (n : H b = none) (hx : b ∉ ex) : ∃ sl, h1.get? b = some { ob with slots := sl } := by
  by_cases hb : b ∈ fs
  · exact u.slot b ob q n hb hx
  · exact ⟨ob.slots, u.keep b ob q n hb hx⟩
theorem Un.kept (k : ∀ b u, h.get? b = some u → h'.get? b = some u) : Un fs ex H H h h' :=
  ⟨fun b ob q _ _ _ => k b ob q, fun b ob q _ _ _ => ⟨ob.slots, k b ob q⟩, fun _ _ _ n _ => n, fun b ob q _ => ⟨ob, k b ob q⟩, fun _ _ q => q, fun _ _ _ q => q, fun _ ps q => ⟨#[], by rw [q]; simp⟩⟩
theorem Un.refl : Un fs ex H H h h := Un.kept fun _ _ q => q
theorem Un.laid (k : ∀ b u, h.get? b = some u → h'.get? b = some u) (hp : h.objs.size ≤ a) (hn : H a = none) : Un fs ex H (upd H a o) h h' where
  keep := fun b u q _ _ _ => k b u q
  slot := fun b u q _ _ _ => ⟨u.slots, k b u q⟩
  free := fun b u q n _ => by rw [upd_ne (Nat.ne_of_lt (Nat.lt_of_lt_of_le (Heap.lt_size q) hp))]; exact n
  there := fun b u q _ => ⟨u, k b u q⟩
  tups := fun b xs q => by rw [upd_ne (ne_of_none q hn)]; exact q
  frzs := fun b u xs q => by rw [upd_ne (ne_of_none q hn)]; exact q
  tbls := fun b ps q => ⟨#[], by rw [upd_ne (ne_of_none q hn), q]; simp⟩
theorem Un.write (mu : Mut (H x)) (he : e = x ∨ H e = some (.own x)) (k : ∀ b u, b ≠ e → h.get? b = some u → h'.get? b = some u) (heo : ∃ u, h'.get? e = some u) : Un fs ex H (upd H x o) h h' := by
  have hx : ∀ b, H b = none → b ≠ x := fun b n z => by subst z; rw [n] at mu; exact mu
  have hb : ∀ b, H b = none → b ≠ e := fun b n z => by
    subst z
    rcases he with r | r
    · exact hx b n r
    · rw [n] at r; cases r
  have hm : ∀ b u, H b = some u → ¬ Mut (some u) → b ≠ x := fun b u q nm z => by subst z; rw [q] at mu; exact nm mu
  refine ⟨fun b u q n _ _ => k b u (hb b n) q, fun b u q n _ _ => ⟨u.slots, k b u (hb b n) q⟩, fun b u q n _ => by rw [upd_ne (hx b n)]; exact n, fun b u q _ => ?_,
    fun b xs q => by rw [upd_ne (hm b _ q fun z => z)]; exact q, fun b u xs q => by rw [upd_ne (hm b _ q fun z => z)]; exact q, fun b ps q => ⟨#[], by rw [upd_ne (hm b _ q fun z => z), q]; simp⟩⟩
  by_cases hbe : b = e
  · subst hbe; exact heo
  · exact ⟨u, k b u hbe q⟩
end

noncomputable def trk (h : Heap) (H : Hp) : List Addr := (List.range h.objs.size).filter fun a => (H a).isSome
noncomputable def hidT (h : Heap) (H : Hp) : Heap := PySem.W.hideAll h (trk h H)
theorem hidT_size (h : Heap) (H : Hp) : (hidT h H).objs.size = h.objs.size := PySem.W.hideAll_size _ _
theorem hidT_get {h : Heap} {H : Hp} {b : Addr} {o : Obj} (e : h.get? b = some o) (n : H b = none) : (hidT h H).get? b = some o :=
  PySem.W.hideAll_get _ e fun hm => by
    have q : (H b).isSome = true := (List.mem_filter.mp hm).2
    rw [n] at q; simp at q
theorem of_hidT {h : Heap} {H : Hp} {b : Addr} {o : Obj} (e : (hidT h H).get? b = some o) : h.get? b = some o ∧ H b = none := by
  have e' : h.get? b = some o := PySem.W.of_hideAll (trk h H) e
  refine ⟨e', ?_⟩
  cases q : H b with
  | none => rfl
  | some x =>
    have hm : b ∈ trk h H := List.mem_filter.mpr ⟨List.mem_range.mpr (Heap.lt_size e'), by simp [q]⟩
    have z : (hidT h H).get? b = none := PySem.W.hideAll_none (trk h H) hm
    rw [z] at e; cases e

end L2

namespace L2
open PySem PySem.Spec PyProof.Rows

structure Mod (K : PySem.W.Frag) (mg : Str → Option Value) (base : Heap) : Prop where
  kin : K.In base
  glob : base.Ns mainGlobals mg
  blt : ∃ mb, base.Ns builtinsNs mb ∧ ∀ x : Str, x ≠ "__name__" → mb x = bootBuiltins x
  nolimit : base.NoLimit

structure Cx where
  prog : Program
  w : World
  K : PySem.W.Frag
  mg : Str → Option Value
  base : Heap
  A : Around
  N : List Str
  s₀ : Shared
  H₀ : Hp
  env : Env
  outer : List Env
  stack : List Env
  ex : List Addr
  fn : Str → Bool
  calm : Bool
  pn : List (Addr × Obj)
  xe : Value → Shared → Prop
noncomputable def frs (l : List Env) : List Addr := l.filterMap (·.frame)
noncomputable abbrev Cx.fs (X : Cx) : List Addr := frs X.outer

noncomputable def Vis (sc : Scope) (x : Str) : Prop := sc.names.lookup x = some .local ∨ sc.names.lookup x = some .cell ∨ sc.names.lookup x = some .free
noncomputable def Loc (sc : Scope) (x : Str) : Prop := sc.names.lookup x = some .local ∨ sc.names.lookup x = some .cell
noncomputable def Look (env : Env) (h : Heap) (m : Str → Option Value) (x : Str) (u : Value) : Prop :=
  (env.kindOf x = some .local ∧ m x = some u) ∨ ((env.kindOf x = some .cell ∨ env.kindOf x = some .free) ∧ ∃ c, env.cells.lookup x = some c ∧ h.IsCell c (some u))

structure Cx.Ok (X : Cx) : Prop where
  mod : Mod X.K X.mg X.base
  kind : X.env.scope.kind = .function
  glob : X.env.globals = mainGlobals
  blt : X.env.builtins = builtinsNs
  above : X.s₀.heap.objs.size ≤ X.env.locals
  inj : ∀ x y c, X.env.cells.lookup x = some c → X.env.cells.lookup y = some c → x = y
  has : ∀ x, (X.env.kindOf x = some .cell ∨ X.env.kindOf x = some .free) → ∃ c, X.env.cells.lookup x = some c
  cab : ∀ x c, X.fn x = true → X.env.cells.lookup x = some c → X.s₀.heap.objs.size ≤ c
  hd : X.calm = true → X.A.handled = none
  frames : X.A.frames = some X.stack
  stk : X.stack = X.outer ∨ (X.stack = X.env :: X.outer ∧ X.env.frame = some X.env.locals)
  exf : ∀ b ∈ X.ex, b ≠ X.env.locals ∧ ∀ x c, X.env.cells.lookup x = some c → c ≠ b
  bs : ∀ b o, X.base.get? b = some o → X.s₀.heap.get? b = some o ∧ X.H₀ b = none
  bsz : X.base.objs.size ≤ X.s₀.heap.objs.size
  noex : ∀ b o, X.base.get? b = some o → b ∉ X.ex
  exfs : ∀ b ∈ X.ex, b ∉ X.fs
  funs : X.s₀.heap.FunFrames X.base X.outer
  frf : ∀ b ∈ X.fs, X.H₀ b = none

structure Inv (X : Cx) (pins : List (Addr × Obj)) (σ : List (Option V)) (H : Hp) (s : Shared) : Prop where
  ok : X.Ok
  os : s.os = X.s₀.os
  bare : AllBare s.gens
  base : Un X.fs X.ex X.H₀ H X.s₀.heap s.heap
  loc : ∃ m, s.heap.Ns X.env.locals m ∧ ∀ (i : Nat) (x : Str) (v : V), X.N[i]? = some x → σ[i]? = some (some v) → Vis X.env.scope x → ∃ u, RelV v u ∧ Look X.env s.heap m x u
  cell : ∀ x c, X.env.cells.lookup x = some c → ∃ v, s.heap.IsCell c v
  free : H X.env.locals = none
  freeC : ∀ x c, X.env.cells.lookup x = some c → H c = none
  pin : ∀ p ∈ X.pn ++ pins, s.heap.get? p.1 = some p.2 ∧ H p.1 = none ∧ p.1 ≠ X.env.locals ∧ p.1 ∉ X.fs ∧ ∀ v, p.2.data ≠ .cell v
  hok : HOk X.prog X.w H s.heap
  len : σ.length = X.N.length

section
variable {X : Cx} {pins : List (Addr × Obj)} {σ : List (Option V)} {H H' : Hp} {s : Shared} {h' : Heap}

theorem Cx.Ok.nofr (ok : X.Ok) {b : Addr} {o : Obj} (e : X.base.get? b = some o) : b ∉ X.fs := fun hb => by
  have := (ok.funs.mem hb).1
  rw [e] at this; cases this
theorem Inv.bs (I : Inv X pins σ H s) : ∀ b o, X.base.get? b = some o → s.heap.get? b = some o ∧ H b = none := fun b o e =>
  ⟨I.base.keep b o (I.ok.bs b o e).1 (I.ok.bs b o e).2 (I.ok.nofr e) (I.ok.noex b o e), I.base.free b o (I.ok.bs b o e).1 (I.ok.bs b o e).2 (I.ok.noex b o e)⟩
theorem Inv.bk (I : Inv X pins σ H s) : ∀ b o, X.base.get? b = some o → s.heap.get? b = some o := fun b o e => (I.bs b o e).1
theorem Inv.mod (I : Inv X pins σ H s) : Mod X.K X.mg X.base := I.ok.mod
theorem Inv.kIn (I : Inv X pins σ H s) : X.K.In s.heap := I.ok.mod.kin.keeps I.bk
theorem Inv.lt (I : Inv X pins σ H s) : X.env.locals < s.heap.objs.size := let ⟨_, hn, _⟩ := I.loc; hn.lt
theorem Inv.sz (I : Inv X pins σ H s) : X.s₀.heap.objs.size ≤ s.heap.objs.size := Nat.le_trans I.ok.above (Nat.le_of_lt I.lt)
theorem Inv.nofs (I : Inv X pins σ H s) {a : Addr} (h : s.heap.objs.size ≤ a) : a ∉ X.fs := fun hb => by
  obtain ⟨_, o, ho, _⟩ := I.ok.funs.mem hb
  exact absurd (Nat.lt_of_lt_of_le (Heap.lt_size ho) (Nat.le_trans I.sz h)) (Nat.lt_irrefl _)
theorem Inv.cne (I : Inv X pins σ H s) : ∀ x c, X.env.cells.lookup x = some c → c ≠ X.env.locals := fun x c e z => by
  obtain ⟨v, o, ho, hd⟩ := I.cell x c e
  obtain ⟨m, ⟨o', es, ep, ho', hd', _⟩, _⟩ := I.loc
  rw [z, ho'] at ho; cases ho; rw [hd'] at hd; cases hd
theorem Inv.funs (I : Inv X pins σ H s) : s.heap.FunFrames X.base X.outer := by
  have all : ∀ (l : List Env), (∀ b ∈ frs l, b ∈ X.fs) → X.s₀.heap.FunFrames X.base l → s.heap.FunFrames X.base l := by
    intro l
    induction l with
    | nil => intro _ _; trivial
    | cons env r ih =>
      intro hs hl
      obtain ⟨hk, ⟨L, o, hf, hn, ho, hd⟩, hr⟩ := hl
      have hL : L ∈ X.fs := hs L (by unfold frs; rw [List.filterMap_cons, hf]; exact List.mem_cons_self)
      obtain ⟨sl, e⟩ := I.base.slot L o ho (I.ok.frf L hL) hL fun z => I.ok.exfs L z hL
      exact ⟨hk, ⟨L, _, hf, hn, e, hd⟩, ih (fun b hb => hs b (by unfold frs; rw [List.filterMap_cons, hf]; exact List.mem_cons_of_mem _ hb)) hr⟩
  exact all X.outer (fun _ hb => hb) I.ok.funs

theorem Inv.stack (I : Inv X pins σ H s) : s.heap.FunFrames X.base X.stack := by
  rcases I.ok.stk with e | ⟨e, hf⟩
  · rw [e]; exact I.funs
  · rw [e]
    obtain ⟨m, hn, _⟩ := I.loc
    refine .cons (by rw [I.ok.kind]; decide) hf hn ?_ I.funs
    exact Heap.get?_none_of_le (Nat.le_trans I.ok.bsz I.ok.above)
theorem Inv.stkSub (I : Inv X pins σ H s) : ∀ b ∈ frs X.stack, b ∈ X.env.locals :: X.fs := fun b hb => by
  rcases I.ok.stk with e | ⟨e, hf⟩
  · rw [e] at hb; exact List.mem_cons_of_mem _ hb
  · rw [e] at hb
    unfold frs at hb
    rw [List.filterMap_cons, hf] at hb
    exact hb
theorem Inv.stkFree (I : Inv X pins σ H s) : ∀ b ∈ frs X.stack, H b = none := fun b hb => by
  rcases List.mem_cons.mp (I.stkSub b hb) with e | hb
  · rw [e]; exact I.free
  · obtain ⟨_, o, ho, _⟩ := I.ok.funs.mem hb
    exact I.base.free b o ho (I.ok.frf b hb) fun z => I.ok.exfs b z hb

theorem Inv.step {g' : Array GenState} {t' : Nat} {d' : Drawn} {ch : List Addr} (I : Inv X pins σ H s)
    (hch : ∀ b ∈ ch, (b ∈ X.ex ∨ X.s₀.heap.objs.size ≤ b) ∧ b ≠ X.env.locals ∧ (∀ x c, X.env.cells.lookup x = some c → c ≠ b) ∧ ∀ p ∈ X.pn ++ pins, p.1 ≠ b)
    (keep : ∀ b o, b ≠ X.env.locals → b ∉ X.fs → b ∉ ch → s.heap.get? b = some o → H b = none → h'.get? b = some o)
    (slot : ∀ b o, b ≠ X.env.locals → b ∈ X.fs → b ∉ ch → s.heap.get? b = some o → H b = none → ∃ sl, h'.get? b = some { o with slots := sl }) (free : ∀ b o, b ∉ ch → s.heap.get? b = some o → H b = none → H' b = none)
    (there : ∀ b o, b ∉ ch → s.heap.get? b = some o → ∃ o', h'.get? b = some o')
    (tups : ∀ b xs, H b = some (.tup xs) → H' b = some (.tup xs)) (frzs : ∀ b o u, H b = some (.frz o u) → H' b = some (.frz o u)) (tbls : ∀ b ps, H b = some (.tbl ps) → ∃ more, H' b = some (.tbl (ps ++ more)))
    (ns : ∀ m, s.heap.Ns X.env.locals m → h'.Ns X.env.locals m) (hok : HOk X.prog X.w H' h') (hg : AllBare g') :
    Inv X pins σ H' { s with heap := h', gens := g', drawn := d', toks := t' } := by
  have neL : ∀ b o, X.s₀.heap.get? b = some o → b ≠ X.env.locals := fun b o e => Nat.ne_of_lt (Nat.lt_of_lt_of_le (Heap.lt_size e) I.ok.above)
  have neC : ∀ b o, X.s₀.heap.get? b = some o → b ∉ X.ex → b ∉ ch := fun b o e hx hb => by
    rcases (hch b hb).1 with z | z
    · exact hx z
    · exact absurd (Nat.lt_of_lt_of_le (Heap.lt_size e) z) (Nat.lt_irrefl _)
  have cellK : ∀ x c, X.env.cells.lookup x = some c → ∀ v, s.heap.IsCell c v → h'.IsCell c v := fun x c e v ⟨o, ho, hd⟩ => by
    have nch : c ∉ ch := fun z => (hch c z).2.2.1 x c e rfl
    by_cases hc : c ∈ X.fs
    · obtain ⟨sl, q⟩ := slot c o (I.cne x c e) hc nch ho (I.freeC x c e)
      exact ⟨_, q, hd⟩
    · exact ⟨o, keep c o (I.cne x c e) hc nch ho (I.freeC x c e), hd⟩
  refine ⟨I.ok, I.os, hg, ⟨fun b o e n hb hx => ?_, fun b o e n hb hx => ?_, fun b o e n hx => ?_, fun b o e hx => ?_, fun b xs e => tups b xs (I.base.tups b xs e), fun b o xs e => frzs b o xs (I.base.frzs b o xs e), fun b ps e => ?_⟩, ?_, fun x c e => ?_, ?_, fun x c e => ?_, fun p hp => ?_, hok, I.len⟩
  · exact keep b o (neL b o e) hb (neC b o e hx) (I.base.keep b o e n hb hx) (I.base.free b o e n hx)
  · obtain ⟨sl, e1⟩ := I.base.slot b o e n hb hx
    obtain ⟨sl', e2⟩ := slot b _ (neL b o e) hb (neC b o e hx) e1 (I.base.free b o e n hx)
    exact ⟨sl', e2⟩
  · obtain ⟨o', e1⟩ := I.base.there b o e hx
    exact free b o' (neC b o e hx) e1 (I.base.free b o e n hx)
  · obtain ⟨o', e1⟩ := I.base.there b o e hx
    exact there b o' (neC b o e hx) e1
  · obtain ⟨m1, e1⟩ := I.base.tbls b ps e
    obtain ⟨m2, e2⟩ := tbls b _ e1
    exact ⟨m1 ++ m2, by rw [e2, Array.append_assoc]⟩
  · obtain ⟨m, hn, hl⟩ := I.loc
    refine ⟨m, ns m hn, fun i x v e1 e2 e3 => ?_⟩
    obtain ⟨u, r, l⟩ := hl i x v e1 e2 e3
    refine ⟨u, r, ?_⟩
    rcases l with l | ⟨k, c, e, z⟩
    · exact .inl l
    · exact .inr ⟨k, c, e, cellK x c e _ z⟩
  · obtain ⟨v, z⟩ := I.cell x c e
    exact ⟨v, cellK x c e v z⟩
  · obtain ⟨m, ⟨o, _, _, ho, _⟩, _⟩ := I.loc
    exact free _ o (fun z => (hch _ z).2.1 rfl) ho I.free
  · obtain ⟨v, o, ho, hd⟩ := I.cell x c e
    exact free c o (fun z => (hch c z).2.2.1 x c e rfl) ho (I.freeC x c e)
  · obtain ⟨e, n, ne, nf, d⟩ := I.pin p hp
    have nch : p.1 ∉ ch := fun z => (hch p.1 z).2.2.2 p hp rfl
    exact ⟨keep p.1 p.2 ne nf nch e n, free p.1 p.2 nch e n, ne, nf, d⟩
theorem Inv.un {t' : Nat} (I : Inv X pins σ H s) (u : Un X.fs [] H H' s.heap h') (hok : HOk X.prog X.w H' h') : Inv X pins σ H' { s with heap := h', toks := t' } := by
  obtain ⟨m, ⟨o, es, ep, ho, r⟩, _⟩ := id I.loc
  obtain ⟨sl, hL⟩ := u.any ho I.free (by simp)
  exact I.step (g' := s.gens) (d' := s.drawn) (ch := []) (fun _ z => nomatch z) (fun b o _ hb _ e n => u.keep b o e n hb (by simp)) (fun b o _ hb _ e n => u.slot b o e n hb (by simp)) (fun b o _ e n => u.free b o e n (by simp)) (fun b o _ e => u.there b o e (by simp)) u.tups u.frzs u.tbls (fun m' hm => by
    obtain ⟨o', es', ep', ho', r'⟩ := hm
    rw [ho] at ho'; cases ho'
    exact ⟨_, es', ep', hL, r'⟩) hok I.bare
theorem Inv.call {g' : Array GenState} {t' : Nat} {d' : Drawn} {ch : List Addr} (I : Inv X pins σ H s) (u : Un (frs X.stack) ch H H' s.heap h') (hok : HOk X.prog X.w H' h') (hg : AllBare g')
    (hch : ∀ b ∈ ch, (b ∈ X.ex ∨ X.s₀.heap.objs.size ≤ b) ∧ b ≠ X.env.locals ∧ (∀ x c, X.env.cells.lookup x = some c → c ≠ b) ∧ ∀ p ∈ X.pn ++ pins, p.1 ≠ b) :
    Inv X pins σ H' { s with heap := h', gens := g', drawn := d', toks := t' } := by
  obtain ⟨m, ⟨o, es, ep, ho, r⟩, _⟩ := id I.loc
  obtain ⟨sl, hL⟩ := u.any ho I.free fun z => (hch _ z).2.1 rfl
  exact I.step (ch := ch) hch (fun b o hL hb hc e n => u.keep b o e n (fun z => (List.mem_cons.mp (I.stkSub b z)).elim hL hb) hc) (fun b o _ _ hc e n => u.any e n hc) (fun b o hc e n => u.free b o e n hc) (fun b o hc e => u.there b o e hc) u.tups u.frzs u.tbls (fun m' hm => by
    obtain ⟨o', es', ep', ho', r'⟩ := hm
    rw [ho] at ho'; cases ho'
    exact ⟨_, es', ep', hL, r'⟩) hok hg
theorem Inv.turned {t' : Nat} {it : Addr} (I : Inv X pins σ H s) (k : ∀ b o, b ≠ it → s.heap.get? b = some o → h'.get? b = some o) (hn : H it = none) (hL : it ≠ X.env.locals)
    (h1 : it ∈ X.ex ∨ X.s₀.heap.objs.size ≤ it) (h2 : ∀ x c, X.env.cells.lookup x = some c → c ≠ it) (h3 : ∀ p ∈ X.pn ++ pins, p.1 ≠ it) : Inv X pins σ H { s with heap := h', toks := t' } := by
  have nit : ∀ b u, H b = some u → b ≠ it := fun b u e z => by rw [z, hn] at e; cases e
  refine I.step (g' := s.gens) (d' := s.drawn) (ch := [it]) (fun b hb => ?_) (fun b o _ _ hc e _ => k b o (fun z => hc (by simp [z])) e) (fun b o _ _ hc e _ => ⟨o.slots, k b o (fun z => hc (by simp [z])) e⟩) (fun _ _ _ _ n => n)
    (fun b o hc e => ⟨o, k b o (fun z => hc (by simp [z])) e⟩) (fun _ _ e => e) (fun _ _ _ e => e) (fun b ps e => ⟨#[], by rw [e]; simp⟩) (fun m hm => ?_) (fun b u e => ?_) I.bare
  · have e : b = it := by simpa using hb
    subst e
    exact ⟨h1, hL, h2, h3⟩
  · obtain ⟨o, es, ep, ho, r⟩ := hm
    exact ⟨o, es, ep, k _ o (Ne.symm hL) ho, r⟩
  · refine (I.hok b u e).stay (fun c v hc q => k c v ?_ q) (fun _ q => q) fun _ _ q => q
    rcases hc with z | z
    · rw [z]; exact nit b u e
    · exact nit c _ z
theorem Inv.tok (I : Inv X pins σ H s) (t : Nat) : Inv X pins σ H { s with toks := t } := I.un (h' := s.heap) (t' := t) Un.refl I.hok
theorem Inv.kept {t' : Nat} (I : Inv X pins σ H s) (k : ∀ b u, s.heap.get? b = some u → h'.get? b = some u) : Inv X pins σ H { s with heap := h', toks := t' } := I.un (Un.kept k) (I.hok.kept k)
theorem Inv.laid {a : Addr} {o : HO} {t' : Nat} (I : Inv X pins σ H s) (k : ∀ b u, s.heap.get? b = some u → h'.get? b = some u) (hp : s.heap.objs.size ≤ a) (new : ObjOk X.prog X.w (upd H a o) h' a o) :
    Inv X pins σ (upd H a o) { s with heap := h', toks := t' } := I.un (Un.laid k hp (I.hok.fresh hp)) (I.hok.laid k hp new)
theorem Inv.write {x e : Addr} {o : HO} {t' : Nat} (I : Inv X pins σ H s) (mu : Mut (H x)) (he : e = x ∨ H e = some (.own x)) (k : ∀ b u, b ≠ e → s.heap.get? b = some u → h'.get? b = some u) (heo : ∃ u, h'.get? e = some u)
    (new : ObjOk X.prog X.w (upd H x o) h' x o) : Inv X pins σ (upd H x o) { s with heap := h', toks := t' } := I.un (Un.write mu he k heo) (I.hok.write mu he k heo new)
theorem Inv.weak {σ' : List (Option V)} (I : Inv X pins σ H s) (hl : σ'.length = σ.length) (w : ∀ (i : Nat) v, σ'[i]? = some (some v) → σ[i]? = some (some v)) : Inv X pins σ' H s :=
  ⟨I.ok, I.os, I.bare, I.base, let ⟨m, hn, hl'⟩ := I.loc; ⟨m, hn, fun i x v e1 e2 e3 => hl' i x v e1 (w i v e2) e3⟩, I.cell, I.free, I.freeC, I.pin, I.hok, hl.trans I.len⟩
theorem Inv.pins_of {pins' : List (Addr × Obj)} (I : Inv X pins σ H s) (h : ∀ p ∈ pins', s.heap.get? p.1 = some p.2 ∧ H p.1 = none ∧ p.1 ≠ X.env.locals ∧ p.1 ∉ X.fs ∧ ∀ v, p.2.data ≠ .cell v) : Inv X pins' σ H s :=
  ⟨I.ok, I.os, I.bare, I.base, I.loc, I.cell, I.free, I.freeC, fun p hp => (List.mem_append.mp hp).elim (fun z => I.pin p (List.mem_append_left _ z)) (h p), I.hok, I.len⟩

theorem nodup_ix {N : List Str} (hN : N.Nodup) {i j : Nat} {x : Str} (a : N[i]? = some x) (b : N[j]? = some x) : i = j := by
  obtain ⟨h1, e1⟩ := List.getElem?_eq_some_iff.mp a
  obtain ⟨h2, e2⟩ := List.getElem?_eq_some_iff.mp b
  exact (List.getElem_inj hN).mp (e1.trans e2.symm)

theorem store_ok2 {M : Model} {A : Around} {E : Value → Shared → Prop} {i : Nat} {x : Str} {v : V} {u : Value} {Q : Unit → Shared → Prop} (I : Inv X pins σ H s) (hN : X.N.Nodup) (hi : X.N[i]? = some x) (hx : Loc X.env.scope x) (r : RelV v u)
    (h : ∀ s', Inv X pins (σ.set i (some v)) H s' → (∃ a, Heap.SameBut a s.heap s'.heap ∧ (a = X.env.locals ∨ X.env.cells.lookup x = some a)) → Q () s') (hf : X.fn x = true ∨ X.env.scope.names.lookup x = some .local := by first | exact .inl rfl | exact .inr rfl | assumption) : wpAny M A (storeName X.env x u) Q E s := by
  obtain ⟨m, hn, hl⟩ := id I.loc
  have hcls : (X.env.scope.kind == .class || (X.env.scope.kind == .module && X.env.locals != X.env.globals)) = false := by rw [I.ok.kind]; rfl
  have hiσ : i < σ.length := by rw [I.len]; exact (List.getElem?_eq_some_iff.mp hi).1
  have cne := I.cne
  have tracked : ∀ {a : Addr} {h' : Heap}, (∃ o, s.heap.get? a = some o ∧ H a = none) → Heap.SameBut a s.heap h' → HOk X.prog X.w H h' := fun {a h'} ha hs b ob e => by
    obtain ⟨_, _, hfree⟩ := ha
    refine (I.hok b ob e).stay (fun c w' hc q => (hs.2 c ?_).trans q) (fun _ q => q) fun _ _ q => q
    rintro rfl
    rcases hc with rfl | hc
    · rw [hfree] at e; cases e
    · rw [hfree] at hc; cases hc
  rcases hx with hk | hk
  · refine wpAny_storeName_local hk hn (fun h' hn' hs => ?_) hcls
    obtain ⟨oL, _, _, hoL, _⟩ := id hn
    refine h _ ⟨I.ok, I.os, I.bare, ⟨fun b o e n hb hx => ?_, fun b o e n hb hx => ?_, I.base.free, fun b o e hx => ?_, I.base.tups, I.base.frzs, I.base.tbls⟩, ⟨_, hn', fun j y v' e1 e2 e3 => ?_⟩, fun y c e => ?_, I.free, I.freeC, fun p hp => ?_, tracked ⟨oL, hoL, I.free⟩ hs, by simpa using I.len⟩ ⟨_, hs, .inl rfl⟩
    · exact (hs.2 b (Nat.ne_of_lt (Nat.lt_of_lt_of_le (Heap.lt_size e) I.ok.above))).trans (I.base.keep b o e n hb hx)
    · obtain ⟨sl, e1⟩ := I.base.slot b o e n hb hx
      exact ⟨sl, (hs.2 b (Nat.ne_of_lt (Nat.lt_of_lt_of_le (Heap.lt_size e) I.ok.above))).trans e1⟩
    · obtain ⟨o', e1⟩ := I.base.there b o e hx
      exact ⟨o', (hs.2 b (Nat.ne_of_lt (Nat.lt_of_lt_of_le (Heap.lt_size e) I.ok.above))).trans e1⟩
    · by_cases hj : j = i
      · subst hj
        rw [hi] at e1; cases e1
        rw [List.getElem?_set_self hiσ] at e2
        cases e2
        exact ⟨u, r, .inl ⟨hk, by simp⟩⟩
      · rw [List.getElem?_set_ne (Ne.symm hj)] at e2
        obtain ⟨u', r', q⟩ := hl j y v' e1 e2 e3
        refine ⟨u', r', ?_⟩
        rcases q with ⟨k, e⟩ | ⟨k, c, e, z⟩
        · refine .inl ⟨k, ?_⟩
          have : y ≠ x := fun e => hj (nodup_ix hN e1 (e ▸ hi))
          simp [this, e]
        · exact .inr ⟨k, c, e, z.sameBut hs (cne y c e)⟩
    · obtain ⟨w', z⟩ := I.cell y c e
      exact ⟨w', z.sameBut hs (cne y c e)⟩
    · obtain ⟨e, n, ne, nf, d⟩ := I.pin p hp
      exact ⟨(hs.2 p.1 ne).trans e, n, ne, nf, d⟩
  · have hfn : X.fn x = true := by
      rcases hf with z | z
      · exact z
      · rw [z] at hk; cases hk
    obtain ⟨c, hc⟩ := I.ok.has x (.inl hk)
    obtain ⟨w', z⟩ := I.cell x c hc
    refine wpAny_storeName_cell I.ok.kind hk hc z (fun h' hc' hs => ?_)
    obtain ⟨oc, hoc, hocd⟩ := id z
    refine h { s with heap := h' } ⟨I.ok, I.os, I.bare, ⟨fun b o e n hb hx => ?_, fun b o e n hb hx => ?_, I.base.free, fun b o e hx => ?_, I.base.tups, I.base.frzs, I.base.tbls⟩, ⟨m, hn.sameBut hs (Ne.symm (cne x c hc)), fun j y v' e1 e2 e3 => ?_⟩, fun y c' e => ?_, I.free, I.freeC, fun p hp => ?_, tracked ⟨oc, hoc, I.freeC x c hc⟩ hs, by simpa using I.len⟩ ⟨c, hs, .inr hc⟩
    · exact (hs.2 b (Nat.ne_of_lt (Nat.lt_of_lt_of_le (Heap.lt_size e) (I.ok.cab x c hfn hc)))).trans (I.base.keep b o e n hb hx)
    · obtain ⟨sl, e1⟩ := I.base.slot b o e n hb hx
      exact ⟨sl, (hs.2 b (Nat.ne_of_lt (Nat.lt_of_lt_of_le (Heap.lt_size e) (I.ok.cab x c hfn hc)))).trans e1⟩
    · obtain ⟨o', e1⟩ := I.base.there b o e hx
      exact ⟨o', (hs.2 b (Nat.ne_of_lt (Nat.lt_of_lt_of_le (Heap.lt_size e) (I.ok.cab x c hfn hc)))).trans e1⟩
    · by_cases hj : j = i
      · subst hj
        rw [hi] at e1; cases e1
        rw [List.getElem?_set_self hiσ] at e2
        cases e2
        exact ⟨u, r, .inr ⟨.inl hk, c, hc, hc'⟩⟩
      · rw [List.getElem?_set_ne (Ne.symm hj)] at e2
        obtain ⟨u', r', q⟩ := hl j y v' e1 e2 e3
        refine ⟨u', r', ?_⟩
        rcases q with q | ⟨k, c', e, z'⟩
        · exact .inl q
        · refine .inr ⟨k, c', e, z'.sameBut hs ?_⟩
          rintro rfl
          exact hj (nodup_ix hN e1 (I.ok.inj _ _ _ e hc ▸ hi))
    · by_cases hcc : c' = c
      · subst hcc; exact ⟨_, hc'⟩
      · obtain ⟨w2, z2⟩ := I.cell y c' e
        exact ⟨w2, z2.sameBut hs hcc⟩
    · obtain ⟨e, n, ne, nf, d⟩ := I.pin p hp
      refine ⟨(hs.2 p.1 ?_).trans e, n, ne, nf, d⟩
      intro q
      rw [q, hoc] at e
      have q' : oc = p.2 := Option.some.inj e
      exact d w' (by rw [← q']; exact hocd)
theorem store_ok {M : Model} {A : Around} {E : Value → Shared → Prop} {i : Nat} {x : Str} {v : V} {u : Value} {Q : Unit → Shared → Prop} (I : Inv X pins σ H s) (hN : X.N.Nodup) (hi : X.N[i]? = some x) (hx : Loc X.env.scope x) (r : RelV v u)
    (h : ∀ s', Inv X pins (σ.set i (some v)) H s' → Q () s') (hf : X.fn x = true ∨ X.env.scope.names.lookup x = some .local := by first | exact .inl rfl | exact .inr rfl | assumption) : wpAny M A (storeName X.env x u) Q E s :=
  store_ok2 I hN hi hx r (fun s' I' _ => h s' I') hf
theorem Inv.call' {s' : Shared} {ch : List Addr} (I : Inv X pins σ H s) (ho : s'.os = s.os) (u : Un (frs X.stack) ch H H' s.heap s'.heap) (hok : HOk X.prog X.w H' s'.heap) (hg : AllBare s'.gens)
    (hch : ∀ b ∈ ch, (b ∈ X.ex ∨ X.s₀.heap.objs.size ≤ b) ∧ b ≠ X.env.locals ∧ (∀ x c, X.env.cells.lookup x = some c → c ≠ b) ∧ ∀ p ∈ X.pn ++ pins, p.1 ≠ b) : Inv X pins σ H' s' := by
  obtain ⟨h', g', d', t', o'⟩ := s'
  have e : o' = s.os := ho
  subst e
  exact I.call (g' := g') (t' := t') (d' := d') u hok hg hch
end

noncomputable abbrev XK := Value → Option Addr → Hp → Prop
noncomputable abbrev St := List (Option V)
noncomputable abbrev VK := V → Hp → Prop
noncomputable abbrev TE := St → Hp → VK → Prop
noncomputable abbrev TT := St → Hp → (Bool → Hp → Prop) → Prop
noncomputable abbrev TA := St → Hp → (List V → Hp → Prop) → Prop
structure Ends where
  nx : St → Hp → Prop
  rt : VK
  bk : St → Hp → Prop := fun _ _ => False
  ct : St → Hp → Prop := fun _ _ => False
noncomputable abbrev TS := Ends → St → Hp → Prop

noncomputable def EP (X : Cx) (pins : List (Addr × Obj)) (σ : St) (Q : VK) (u : Value) (s' : Shared) : Prop := ∃ v H', Inv X pins σ H' s' ∧ RelV v u ∧ Q v H'
noncomputable def TP (X : Cx) (pins : List (Addr × Obj)) (σ : St) (Q : Bool → Hp → Prop) (b : Bool) (s' : Shared) : Prop := ∃ H', Inv X pins σ H' s' ∧ Q b H'
noncomputable def AP (X : Cx) (pins : List (Addr × Obj)) (σ : St) (Q : List V → Hp → Prop) (us : List Value) (s' : Shared) : Prop := ∃ vs H', Inv X pins σ H' s' ∧ Vals vs us ∧ Q vs H'
noncomputable def SP (X : Cx) (pins : List (Addr × Obj)) (D : Ends) (f : Flow) (s' : Shared) : Prop :=
  match f with
  | .next => ∃ σ' H', Inv X pins σ' H' s' ∧ D.nx σ' H'
  | .brk => ∃ σ' H', Inv X pins σ' H' s' ∧ D.bk σ' H'
  | .cont => ∃ σ' H', Inv X pins σ' H' s' ∧ D.ct σ' H'
  | .ret u => ∃ v σ' H', Inv X pins σ' H' s' ∧ RelV v u ∧ D.rt v H'

noncomputable def PE (X : Cx) (e : Expr) (t : TE) : Prop :=
  ∀ (pins : List (Addr × Obj)) (s : Shared) (σ : St) (H : Hp) (Q : VK), Inv X pins σ H s → t σ H Q → wpAny (model X.prog X.w) X.A (eval e X.env) (EP X pins σ Q) X.xe s
noncomputable def PT (X : Cx) (e : Expr) (t : TT) : Prop :=
  ∀ (pins : List (Addr × Obj)) (s : Shared) (σ : St) (H : Hp) (Q : Bool → Hp → Prop), Inv X pins σ H s → t σ H Q → wpAny (model X.prog X.w) X.A (isTrue e X.env (eval e X.env)) (TP X pins σ Q) X.xe s
noncomputable def PW (X : Cx) (e : Expr) (t : TT) : Prop :=
  ∀ (whole : Sem Value) (pins : List (Addr × Obj)) (s : Shared) (σ : St) (H : Hp) (Q : Bool → Hp → Prop), Inv X pins σ H s → t σ H Q → wpAny (model X.prog X.w) X.A (isTrue e X.env whole) (TP X pins σ Q) X.xe s
theorem PW.pt {X : Cx} {e : Expr} {t : TT} (h : PW X e t) : PT X e t := h _
noncomputable def PA (X : Cx) (es : List Expr) (t : TA) : Prop :=
  ∀ (pos : Pos) (pins : List (Addr × Obj)) (s : Shared) (σ : St) (H : Hp) (Q : List V → Hp → Prop), Inv X pins σ H s → t σ H Q → wpAny (model X.prog X.w) X.A (spliced (backTo pos (starEach es X.env))) (AP X pins σ Q) X.xe s
noncomputable def PS (X : Cx) (st : Stmt) (t : TS) : Prop :=
  ∀ (pins : List (Addr × Obj)) (s : Shared) (σ : St) (H : Hp) (D : Ends), Inv X pins σ H s → t D σ H → wpAny (model X.prog X.w) X.A (exec st X.env) (SP X pins D) X.xe s
noncomputable def PSs (X : Cx) (st : List Stmt) (t : TS) : Prop :=
  ∀ (pins : List (Addr × Obj)) (s : Shared) (σ : St) (H : Hp) (D : Ends), Inv X pins σ H s → t D σ H → wpAny (model X.prog X.w) X.A (execs st X.env) (SP X pins D) X.xe s
theorem thn {α : Type} {t : Sem α} {Q Q' : α → Shared → Prop} {M : Model} {A : Around} {E : Value → Shared → Prop} {s : Shared} (h : wpAny M A t Q E s) (hQ : ∀ a s, Q a s → Q' a s) : wpAny M A t Q' E s := wpAny_mono h hQ fun _ _ x => x
end L2

namespace L2
open PySem PySem.Spec PyProof.Rows
section
variable {X : Cx}


noncomputable def tVar (i : Nat) : TE := fun σ H Q => ∃ v, σ[i]? = some (some v) ∧ Q v H
noncomputable def tC (v : V) : TE := fun _ H Q => Q v H
theorem pe_var {i : Nat} {x : Str} {pos : Pos} (hN : X.N[i]? = some x) (hv : Vis X.env.scope x) (hd : (x == ("__debug__" : Str)) = false := by decide) (hcd : (x == ("__classdict__" : Str)) = false := by decide) : PE X (.Name x pos) (tVar i) := by
  intro pins s σ H Q I h
  obtain ⟨v, e, h⟩ := h
  obtain ⟨m, hn, hl⟩ := I.loc
  obtain ⟨u, r, l⟩ := hl i x v hN e hv
  have fin : EP X pins σ Q u s := ⟨v, H, I, r, h⟩
  rcases l with ⟨hk, hm⟩ | ⟨hk, c, hc, hcell⟩
  · exact wpAny_Name (wpAny_loadName_local I.ok.kind hk hn hm fin) hd
  · rcases hk with hk | hk
    · exact wpAny_Name (wpAny_loadName_cell I.ok.kind hk hc hcell fin) hd
    · exact wpAny_Name (wpAny_loadName_free I.ok.kind hk hc hcell fin hcd) hd
theorem pe_int {i j pos} : PE X (.Constant (.int i) j pos) (tC (.int i)) := fun _ _ _ H _ I h => wpAny_Constant_int ⟨.int i, H, I.tok _, ⟨_, rfl⟩, h⟩
theorem pe_bl {b j pos} : PE X (.Constant (.bool b) j pos) (tC (.bl b)) := fun _ _ _ H _ I h => Constant_bool ⟨.bl b, H, I, rfl, h⟩

noncomputable def Gl (X : Cx) (x : Str) : Prop := X.env.kindOf x = some .globalImplicit
theorem ld_glob {E : Value → Shared → Prop} {pins : List (Addr × Obj)} {s : Shared} {σ : St} {H : Hp} {x : Str} {u : Value} {pos : Pos} {Q : Value → Shared → Prop} (I : Inv X pins σ H s) (hg : Gl X x) (hm : X.mg x = some u) (h : Q u s)
    (hd : (x == ("__debug__" : Str)) = false := by decide) : wpAny (model X.prog X.w) X.A (eval (.Name x pos) X.env) Q E s :=
  Calls.Name_function_global I.ok.kind hg (Calls.loadGlobal_global (by rw [I.ok.glob]; exact I.mod.glob.keeps I.bk) hm h) hd
theorem ld_blt {E : Value → Shared → Prop} {pins : List (Addr × Obj)} {s : Shared} {σ : St} {H : Hp} {x : Str} {u : Value} {pos : Pos} {Q : Value → Shared → Prop} (I : Inv X pins σ H s) (hg : Gl X x) (hm : X.mg x = none) (hv : bootBuiltins x = some u) (h : Q u s)
    (hn : x ≠ "__name__" := by decide) (hd : (x == ("__debug__" : Str)) = false := by decide) : wpAny (model X.prog X.w) X.A (eval (.Name x pos) X.env) Q E s := by
  obtain ⟨mb, h1, h2⟩ := I.mod.blt
  exact Calls.Name_function_global I.ok.kind hg (Calls.loadGlobal_builtin (by rw [I.ok.glob]; exact I.mod.glob.keeps I.bk) hm (by rw [I.ok.blt]; exact h1.keeps I.bk) ((h2 x hn).trans hv) h) hd
theorem pe_glob {x : Str} {v : V} {u : Value} {pos : Pos} (hg : Gl X x) (hm : X.mg x = some u) (r : RelV v u) (hd : (x == ("__debug__" : Str)) = false := by decide) : PE X (.Name x pos) (tC v) :=
  fun _ _ _ H _ I h => ld_glob I hg hm ⟨v, H, I, r, h⟩ hd
theorem pe_bltn {x : Str} {v : V} {u : Value} {pos : Pos} (hg : Gl X x) (hm : X.mg x = none) (hv : bootBuiltins x = some u) (r : RelV v u) (hn : x ≠ "__name__" := by decide) (hd : (x == ("__debug__" : Str)) = false := by decide) : PE X (.Name x pos) (tC v) :=
  fun _ _ _ H _ I h => ld_blt I hg hm hv ⟨v, H, I, r, h⟩ hn hd

variable {a b : Expr} {ta tb : TE} {pos : Pos}

noncomputable def tB (t : TE) : TT := fun σ H Q => t σ H fun x H1 => ∃ c, x = .bl c ∧ Q c H1
theorem pt_val {e : Expr} {t : TE} (h : PE X e t) (he : ∀ whole, isTrue e X.env whole = (do let v ← whole; standAt e.pos; holding [v] (truthy v)) := by intro _; rfl) : PT X e (tB t) := by
  intro pins s σ H Q I hw
  refine isTrue_plain (thn (h pins s σ H _ I hw) fun v s1 ⟨x, H1, I1, r1, q1⟩ => ?_) (he _)
  obtain ⟨d, rfl, q⟩ := q1
  cases r1
  exact wpAny_truthy_bool ⟨H1, I1, q⟩

variable {tA tB' : TT} {rest : List Expr}
noncomputable def tAnd (t u : TT) : TT := fun σ H Q => t σ H fun c H1 => if c = true then u σ H1 Q else Q false H1
noncomputable def tOr (t u : TT) : TT := fun σ H Q => t σ H fun c H1 => if c = true then Q true H1 else u σ H1 Q
noncomputable def tNot (t : TT) : TT := fun σ H Q => t σ H fun c H1 => Q (!c) H1
theorem pw_and1 (ha : PT X a tA) : PW X (.BoolOp .And [a] pos) tA := by
  intro wh pins s σ H Q I h
  refine isTrue_and (thn (ha pins s σ H Q I h) fun c s1 e => ?_)
  cases c with
  | true => exact isTrue_and_nil e
  | false => exact e
theorem pw_or1 (ha : PT X a tA) : PW X (.BoolOp .Or [a] pos) tA := by
  intro wh pins s σ H Q I h
  refine isTrue_or (thn (ha pins s σ H Q I h) fun c s1 e => ?_)
  cases c with
  | false => exact isTrue_or_nil e
  | true => exact e
theorem pw_and (ha : PT X a tA) (hb : PW X (.BoolOp .And (b :: rest) pos) tB') : PW X (.BoolOp .And (a :: b :: rest) pos) (tAnd tA tB') := by
  intro wh pins s σ H Q I h
  refine isTrue_and (thn (ha pins s σ H _ I h) fun c s1 ⟨H1, I1, q1⟩ => ?_)
  cases c with
  | true => exact hb wh pins s1 σ H1 Q I1 q1
  | false => exact ⟨H1, I1, q1⟩
theorem pw_or (ha : PT X a tA) (hb : PW X (.BoolOp .Or (b :: rest) pos) tB') : PW X (.BoolOp .Or (a :: b :: rest) pos) (tOr tA tB') := by
  intro wh pins s σ H Q I h
  refine isTrue_or (thn (ha pins s σ H _ I h) fun c s1 ⟨H1, I1, q1⟩ => ?_)
  cases c with
  | true => exact ⟨H1, I1, q1⟩
  | false => exact hb wh pins s1 σ H1 Q I1 q1
theorem pt_not (ha : PT X a tA) : PT X (.UnaryOp .Not a pos) (tNot tA) := by
  intro pins s σ H Q I h
  exact isTrue_not (ha pins s σ H (fun c H1 => Q (!c) H1) I h)
noncomputable def tAndV (ta tb : TE) : TE := fun σ H Q => ta σ H fun x H1 => ∃ c, x = .bl c ∧ if c = true then tb σ H1 Q else Q (.bl false) H1
noncomputable def tOrV (ta tb : TE) : TE := fun σ H Q => ta σ H fun x H1 => ∃ c, x = .bl c ∧ if c = true then Q (.bl true) H1 else tb σ H1 Q
noncomputable def tNotV (ta : TE) : TE := fun σ H Q => ta σ H fun x H1 => ∃ c, x = .bl c ∧ Q (.bl (!c)) H1
theorem pe_one {op} {t : TE} (h : PE X a t) : PE X (.BoolOp op [a] pos) t := fun pins s σ H Q I hw => BoolOp_one (h pins s σ H Q I hw)
theorem pe_and (ha : PE X a ta) (hb : PE X (.BoolOp .And (b :: rest) pos) tb) : PE X (.BoolOp .And (a :: b :: rest) pos) (tAndV ta tb) := by
  intro pins s σ H Q I h
  refine BoolOp_and (thn (ha pins s σ H _ I h) fun v s1 ⟨x, H1, I1, r1, q1⟩ => ?_)
  obtain ⟨c, rfl, q1⟩ := q1
  cases r1
  refine wpAny_truthy_bool ?_
  cases c with
  | true => exact hb pins s1 σ H1 Q I1 q1
  | false => exact ⟨.bl false, H1, I1, rfl, q1⟩
theorem pe_or (ha : PE X a ta) (hb : PE X (.BoolOp .Or (b :: rest) pos) tb) : PE X (.BoolOp .Or (a :: b :: rest) pos) (tOrV ta tb) := by
  intro pins s σ H Q I h
  refine BoolOp_or (thn (ha pins s σ H _ I h) fun v s1 ⟨x, H1, I1, r1, q1⟩ => ?_)
  obtain ⟨c, rfl, q1⟩ := q1
  cases r1
  refine wpAny_truthy_bool ?_
  cases c with
  | false => exact hb pins s1 σ H1 Q I1 q1
  | true => exact ⟨.bl true, H1, I1, rfl, q1⟩
theorem pe_not (ha : PE X a ta) : PE X (.UnaryOp .Not a pos) (tNotV ta) := by
  intro pins s σ H Q I h
  refine UnaryOp_ (thn (ha pins s σ H _ I h) fun v s1 ⟨x, H1, I1, r1, q1⟩ => ?_)
  obtain ⟨c, rfl, q1⟩ := q1
  cases r1
  exact not_of (wpAny_truthy_bool ⟨.bl (!c), H1, I1, rfl, q1⟩)
end
end L2

namespace L2
open PySem PySem.Spec PyProof.Rows

noncomputable def SqL (K : PySem.W.Frag) (H : Hp) (a : Addr) (xs : List V) : Prop :=
  Rd H a (.lst xs) ∨
    ∃ (o : Obj) (its : Array Value) (n : Nat), K.lookup a = some o ∧ o.cls = .type "list" ∧ o.dict = none ∧ o.data = .seq its n ∧ its.size ≤ sizeLine ∧ Vals xs its.toList
noncomputable def SqT (K : PySem.W.Frag) (H : Hp) (a : Addr) (xs : List V) : Prop :=
  Rd H a (.tup xs) ∨
    ∃ (o : Obj) (its : Array Value) (n : Nat), K.lookup a = some o ∧ o.cls = .type "tuple" ∧ o.data = .seq its n ∧ its.size ≤ sizeLine ∧ Vals xs its.toList
noncomputable def absV : Value → Option V
  | .none => some .non
  | .bool b => some (.bl b)
  | .int i _ => some (.int i)
  | .str x _ => some (.str x)
  | .bytes b _ => some (.byt b)
  | .float b _ => some (.flt b)
  | .ref a => some (.ref a)
  | .type n => some (.ty n)
  | _ => none
theorem RelV.abs {x : V} {u : Value} (r : RelV x u) : absV u = some x := by
  cases x with
  | non => cases r; rfl
  | bl _ => cases r; rfl
  | int _ => obtain ⟨t, rfl⟩ := r; rfl
  | str _ => obtain ⟨t, rfl⟩ := r; rfl
  | byt _ => obtain ⟨t, rfl⟩ := r; rfl
  | flt _ => obtain ⟨t, rfl⟩ := r; rfl
  | ref _ => cases r; rfl
  | ty _ => cases r; rfl
theorem RelV.inj {x y : V} {u : Value} (r : RelV x u) (q : RelV y u) : x = y := Option.some.inj (r.abs.symm.trans q.abs)
theorem Vals.inj : ∀ {xs ys : List V} {us : List Value}, Vals xs us → Vals ys us → xs = ys
  | _, _, _, .nil, .nil => rfl
  | _, _, _, .cons r t, .cons r' t' => by rw [r.inj r', Vals.inj t t']
section
variable {X : Cx} {pins : List (Addr × Obj)} {σ : St} {H : Hp} {s : Shared} {a : Addr} {xs ys : List V}
theorem SqL.of {K : PySem.W.Frag} (h : H a = some (.lst xs)) : SqL K H a xs := .inl (.inl h)
theorem SqT.of {K : PySem.W.Frag} (h : H a = some (.tup xs)) : SqT K H a xs := .inl (.inl h)
theorem Inv.list (I : Inv X pins σ H s) (h : SqL X.K H a xs) : ∃ its : List Value, Vals xs its ∧ PlainL s.heap a its.toArray ∧ xs.length ≤ sizeLine := by
  rcases h with h | ⟨o, its, n, hk, hc, hd, hs, hz, r⟩
  · obtain ⟨z, its, n, r, e⟩ := h.ok I.hok
    exact ⟨its, r, ⟨_, n, e, rfl, rfl, rfl⟩, z⟩
  · refine ⟨its.toList, r, ⟨o, n, I.kIn a o hk, hc, hd, by simpa using hs⟩, ?_⟩
    have e := r.length
    simp only [Array.length_toList] at e
    (first | lia | omega)
theorem Inv.tuple (I : Inv X pins σ H s) (h : SqT X.K H a xs) : ∃ its : List Value, Vals xs its ∧ IsTup s.heap a its.toArray ∧ xs.length ≤ sizeLine := by
  rcases h with h | ⟨o, its, n, hk, hc, hs, hz, r⟩
  · obtain ⟨z, its, r, p⟩ := h.ok I.hok
    exact ⟨its, r, p, z⟩
  · refine ⟨its.toList, r, ⟨o, I.kIn a o hk, hc, n, by simpa using hs⟩, ?_⟩
    have e := r.length
    simp only [Array.length_toList] at e
    (first | lia | omega)
theorem Inv.list_inj (I : Inv X pins σ H s) (h : SqL X.K H a xs) (h' : SqL X.K H a ys) : xs = ys := by
  obtain ⟨its, r, ⟨o, n, e, _, _, d⟩, _⟩ := I.list h
  obtain ⟨its', r', ⟨o', n', e', _, _, d'⟩, _⟩ := I.list h'
  rw [e] at e'; cases e'
  rw [d] at d'
  injection d' with d1 _
  have : its = its' := by simpa using congrArg Array.toList d1
  subst this
  exact r.inj r'
end

noncomputable abbrev Cx.wish (X : Cx) (E : Value → Shared → Prop) : Cx := { X with xe := E }
noncomputable abbrev Cx.nox (X : Cx) : Cx := X.wish fun _ _ => False
theorem Cx.Ok.wish {X : Cx} (ok : X.Ok) (E : Value → Shared → Prop) : (X.wish E).Ok :=
  ⟨ok.mod, ok.kind, ok.glob, ok.blt, ok.above, ok.inj, ok.has, ok.cab, ok.hd, ok.frames, ok.stk, ok.exf, ok.bs, ok.bsz, ok.noex, ok.exfs, ok.funs, ok.frf⟩
theorem Cx.Ok.unwish {X : Cx} {E : Value → Shared → Prop} (ok : (X.wish E).Ok) : X.Ok :=
  ⟨ok.mod, ok.kind, ok.glob, ok.blt, ok.above, ok.inj, ok.has, ok.cab, ok.hd, ok.frames, ok.stk, ok.exf, ok.bs, ok.bsz, ok.noex, ok.exfs, ok.funs, ok.frf⟩
section
variable {X : Cx} {pins : List (Addr × Obj)} {σ : St} {H : Hp} {s : Shared} {E : Value → Shared → Prop}
theorem Inv.wish (I : Inv X pins σ H s) (E : Value → Shared → Prop) : Inv (X.wish E) pins σ H s := ⟨I.ok.wish E, I.os, I.bare, I.base, I.loc, I.cell, I.free, I.freeC, I.pin, I.hok, I.len⟩
theorem Inv.unwish (I : Inv (X.wish E) pins σ H s) : Inv X pins σ H s := ⟨I.ok.unwish, I.os, I.bare, I.base, I.loc, I.cell, I.free, I.freeC, I.pin, I.hok, I.len⟩
theorem SP.unwish {D : Ends} {f : Flow} {s' : Shared} (h : SP (X.wish E) pins D f s') : SP X pins D f s' := by
  cases f with
  | next => obtain ⟨σ', H', I, q⟩ := h; exact ⟨σ', H', I.unwish, q⟩
  | brk => obtain ⟨σ', H', I, q⟩ := h; exact ⟨σ', H', I.unwish, q⟩
  | cont => obtain ⟨σ', H', I, q⟩ := h; exact ⟨σ', H', I.unwish, q⟩
  | ret u => obtain ⟨v, σ', H', I, r, q⟩ := h; exact ⟨v, σ', H', I.unwish, r, q⟩
theorem PSs.nox {st : List Stmt} {t : TS} (h : PSs X.nox st t) : PSs X st t := fun pins s σ H D I hw =>
  wpAny_mono (h pins s σ H D (I.wish _) hw) (fun _ _ q => q.unwish) fun _ _ z => False.elim z
end

section
variable {X : Cx} {st : Stmt} {rest : List Stmt} {t u : TS} {e : Expr} {te : TE} {pos : Pos}
noncomputable def tNext : TS := fun D σ H => D.nx σ H
noncomputable def tSeq (t u : TS) : TS := fun D σ H => t { D with nx := u D } σ H
theorem pss_nil : PSs X [] tNext := fun _ _ σ H _ I h => wpAny_execs_nil ⟨σ, H, I, h⟩
theorem pss_cons (h1 : PS X st t) (h2 : PSs X rest u) : PSs X (st :: rest) (tSeq t u) := by
  intro pins s σ H D I h
  refine wpAny_execs_cons (thn (h1 pins s σ H { D with nx := u D } I h) fun f s1 q => ?_)
  cases f with
  | next =>
    obtain ⟨σ', H', I', q⟩ := q
    exact h2 pins s1 σ' H' D I' q
  | ret v => exact q
  | brk => exact q
  | cont => exact q
theorem pss_one (h1 : PS X st t) : PSs X [st] t := by
  intro pins s σ H D I h
  refine wpAny_execs_cons (thn (h1 pins s σ H D I h) fun f s1 q => ?_)
  cases f with
  | next => exact wpAny_execs_nil q
  | ret v => exact q
  | brk => exact q
  | cont => exact q
theorem Inv.quiet {pins : List (Addr × Obj)} {σ : St} {H : Hp} {s : Shared} (I : Inv X pins σ H s) : interactive X.env = false := by simp [interactive, I.ok.kind]
noncomputable def tDrop (te : TE) : TS := fun D σ H => te σ H fun _ H1 => D.nx σ H1
theorem ps_expr (he : PE X e te) (hs : swapsWith e none pos.line X.env = pure false := by rfl) : PS X (.Expr e pos) (tDrop te) := by
  intro pins s σ H D I h
  exact wpAny_Expr_any (thn (he pins s σ H _ I h) fun v s1 ⟨x, H1, I1, r1, q1⟩ => ⟨σ, H1, I1, q1⟩) I.quiet hs
noncomputable def tRet (te : TE) : TS := fun D σ H => te σ H D.rt
theorem ps_ret (he : PE X e te) : PS X (.Return (some e) pos) (tRet te) := by
  intro pins s σ H D I h
  exact wpAny_Return_some (thn (he pins s σ H _ I h) fun v s1 ⟨x, H1, I1, r1, q1⟩ => ⟨x, σ, H1, I1, r1, q1⟩)
noncomputable def tIfS (c : TT) (t u : TS) : TS := fun D σ H => c σ H fun b H1 => if b = true then t D σ H1 else u D σ H1
theorem ps_if {c : Expr} {a b : List Stmt} {tc : TT} (hc : PT X c tc) (ha : PSs X a t) (hb : PSs X b u) : PS X (.If c a b pos) (tIfS tc t u) := by
  intro pins s σ H D I h
  refine wpAny_If (thn (hc pins s σ H _ I h) fun d s1 ⟨H1, I1, q1⟩ => ?_)
  cases d with
  | true => exact ha pins s1 σ H1 D I1 q1
  | false => exact hb pins s1 σ H1 D I1 q1
noncomputable def tNever : TS := fun _ _ _ => False
theorem ps_never : PS X st tNever := fun _ _ _ _ _ _ h => h.elim
end

noncomputable abbrev TG := V → St → Hp → (St → Hp → Prop) → Prop
noncomputable abbrev TGs := List V → St → Hp → (St → Hp → Prop) → Prop
noncomputable def PG (X : Cx) (target : Expr) (t : TG) : Prop :=
  ∀ (pins : List (Addr × Obj)) (s : Shared) (σ : St) (H : Hp) (v : V) (u : Value) (Q : St → Hp → Prop), Inv X pins σ H s → RelV v u → t v σ H Q →
    wpAny (model X.prog X.w) X.A (assign target X.env u) (fun _ s' => ∃ σ' H', Inv X pins σ' H' s' ∧ Q σ' H') X.xe s
noncomputable def PGs (X : Cx) (ts : List Expr) (t : TGs) : Prop :=
  ∀ (pins : List (Addr × Obj)) (s : Shared) (σ : St) (H : Hp) (vs : List V) (us : List Value) (Q : St → Hp → Prop), Inv X pins σ H s → Vals vs us → t vs σ H Q →
    wpAny (model X.prog X.w) X.A (assignInOrder ((assignEach ts X.env).map (·.2)) us) (fun _ s' => ∃ σ' H', Inv X pins σ' H' s' ∧ Q σ' H') X.xe s
noncomputable abbrev TSet := V → V → V → Hp → (Hp → Prop) → Prop
noncomputable def PSet (X : Cx) (t : TSet) : Prop :=
  ∀ (pins : List (Addr × Obj)) (s : Shared) (σ : St) (H : Hp) (o i v : V) (ov iv u : Value) (Q : Hp → Prop), Inv X pins σ H s → RelV o ov → RelV i iv → RelV v u → t o i v H Q →
    wpAny (model X.prog X.w) X.A (setItem ov iv u) (fun _ s' => ∃ H', Inv X pins σ H' s' ∧ Q H') X.xe s
noncomputable abbrev TIp := V → V → Hp → VK → Prop
noncomputable def PIp (X : Cx) (op : Operator) (t : TIp) : Prop :=
  ∀ (pins : List (Addr × Obj)) (s : Shared) (σ : St) (H : Hp) (x y : V) (v u : Value) (Q : VK), Inv X pins σ H s → RelV x v → RelV y u → t x y H Q →
    wpAny (model X.prog X.w) X.A (inplaceOp op v u) (EP X pins σ Q) X.xe s
section
variable {X : Cx} {pos : Pos}
noncomputable def gName (i : Nat) : TG := fun v σ H Q => Q (σ.set i (some v)) H
theorem pg_name {i : Nat} {x : Str} (hN : X.N.Nodup) (hi : X.N[i]? = some x) (hx : Loc X.env.scope x) (hf : X.fn x = true ∨ X.env.scope.names.lookup x = some .local := by first | exact .inl rfl | exact .inr rfl | assumption) : PG X (.Name x pos) (gName i) := by
  intro pins s σ H v u Q I r h
  exact wpAny_assign_Name (store_ok I hN hi hx r (fun s' I' => ⟨_, H, I', h⟩) hf)
noncomputable def gNil : TGs := fun vs σ H Q => vs = [] ∧ Q σ H
noncomputable def gCons (t : TG) (u : TGs) : TGs := fun vs σ H Q => ∃ v r, vs = v :: r ∧ t v σ H fun σ' H' => u r σ' H' Q
theorem pgs_nil : PGs X [] gNil := by
  intro pins s σ H vs us Q I r h
  obtain ⟨e, h⟩ := h
  subst e
  cases r
  exact assignInOrder_nil ⟨σ, H, I, h⟩
theorem pgs_cons {e : Expr} {es : List Expr} {t : TG} {u : TGs} (h1 : PG X e t) (h2 : PGs X es u)
    (hs : (assignEach (e :: es) X.env).map (·.2) = assign e X.env :: (assignEach es X.env).map (·.2) := by rfl) : PGs X (e :: es) (gCons t u) := by
  intro pins s σ H vs us Q I r h
  obtain ⟨v, vr, e1, h⟩ := h
  subst e1
  cases r with
  | cons r rr =>
    rw [hs]
    refine assignInOrder_cons (thn (h1 pins s σ H _ _ _ I r h) fun _ s1 ⟨σ1, H1, I1, q1⟩ => ?_)
    exact h2 pins s1 σ1 H1 _ _ Q I1 rr q1
noncomputable def gTup (K : PySem.W.Frag) (n : Nat) (t : TGs) : TG := fun v σ H Q => ∃ a xs, v = .ref a ∧ SqT K H a xs ∧ xs.length = n ∧ t xs σ H Q
theorem pg_tup {es : List Expr} {k : Nat} {t : TGs} {n : Nat} (hc : X.calm = true) (h : PGs X es t)
    (hn : (assignEach es X.env).length = n := by rfl) (hst : (assignEach es X.env).findIdx? (·.1) = none := by rfl) : PG X (.Tuple es k pos) (gTup X.K n t) := by
  intro pins s σ H v u Q I r hw
  obtain ⟨a, xs, e1, hq, hl, hw⟩ := hw
  subst e1
  cases r
  obtain ⟨its, rv, ht, hz⟩ := I.tuple hq
  refine assign_Tuple_tuple (I.ok.hd hc) ht (by simp [hn, ← hl, rv.length]) hst fun h' hx => ?_
  have I1 : Inv X pins σ H { s with heap := h' } := I.kept (t' := s.toks) fun b o e => hx b o (Nat.ne_of_lt (Heap.lt_size e)) e
  exact h pins _ σ H xs _ Q I1 (by simpa using rv) hw
noncomputable def gSub (to ti : TE) (t : TSet) : TG := fun v σ H Q => to σ H fun o H1 => ti σ H1 fun i H2 => t o i v H2 fun H3 => Q σ H3
theorem pg_sub {o i : Expr} {to ti : TE} {t : TSet} (ho : PE X o to) (hi : PE X i ti) (hs : PSet X t)
    (ha : ∀ v, assign (.Subscript o i pos) X.env v = (do
      let ov ← holding [v] (eval o X.env)
      let iv ← holding [v, ov] (eval i X.env)
      standAt pos
      holding [v, ov, iv] (setItem ov iv v)
      release [v, ov, iv] []) := by intro _; rfl) : PG X (.Subscript o i pos) (gSub to ti t) := by
  intro pins s σ H v u Q I r h
  rw [ha]
  refine wpAny_bind (wpAny_holding (thn (ho pins s σ H _ I h) fun ov s1 ⟨x, H1, I1, r1, q1⟩ => ?_))
  refine wpAny_bind (wpAny_holding (thn (hi pins s1 σ H1 _ I1 q1) fun iv s2 ⟨y, H2, I2, r2, q2⟩ => ?_))
  refine wpAny_bind (wpAny_standAt (wpAny_bind (wpAny_holding (thn (hs pins s2 σ H2 x y v ov iv u _ I2 r1 r2 r q2) fun _ s3 ⟨H3, I3, q3⟩ => ?_))))
  exact wpAny_release ⟨σ, H3, I3, q3⟩
noncomputable def tAsg (te : TE) (g : TG) : TS := fun D σ H => te σ H fun x H1 => g x σ H1 D.nx
theorem ps_asg {tg e : Expr} {te : TE} {g : TG} (he : PE X e te) (hg : PG X tg g) (hs : swapsWithSole [tg] e pos.line X.env = pure false := by rfl) (hw : swappedStores [tg] e X.env = pure none := by rfl)
    (h1 : (assignEach [tg] X.env).map (·.2) = [assign tg X.env] := by rfl) : PS X (.Assign [tg] e pos) (tAsg te g) := by
  intro pins s σ H D I h
  refine wpAny_Assign_stores (thn (he pins s σ H _ I h) fun v s1 ⟨x, H1, I1, r1, q1⟩ => ?_) hs hw
  rw [h1]
  exact thn (hg pins s1 σ H1 x v _ I1 r1 q1) fun _ s2 q => q
theorem ps_set {i : Nat} {x : Str} {e : Expr} {te : TE} {pos' : Pos} (hN : X.N.Nodup) (hi : X.N[i]? = some x) (hx : Loc X.env.scope x) (he : PE X e te) (hs : swapsWith e (some (.Name x pos')) pos.line X.env = pure false := by rfl) (hf : X.fn x = true ∨ X.env.scope.names.lookup x = some .local := by first | exact .inl rfl | exact .inr rfl | assumption) :
    PS X (.Assign [.Name x pos'] e pos) (tAsg te (gName i)) := by
  intro pins s σ H D I h
  refine wpAny_Assign_Name (thn (he pins s σ H _ I h) fun v s1 ⟨y, H1, I1, r1, q1⟩ => ?_) hs
  exact store_ok I1 hN hi hx r1 (fun s2 I2 => ⟨_, H1, I2, q1⟩) hf
noncomputable def tPar (i j : Nat) (ta : TA) : TS := fun D σ H => ta σ H fun vs H1 => ∃ v w, vs = [v, w] ∧ D.nx ((σ.set i (some v)).set j (some w)) H1
theorem ps_par {i j : Nat} {x y : Str} {a b : Expr} {ta : TA} {px py pt : Pos} {kt k2 pt2} (hc : X.calm = true) (hN : X.N.Nodup) (hi : X.N[i]? = some x) (hj : X.N[j]? = some y) (hij : i ≠ j)
    (hx : X.env.scope.names.lookup x = some .local) (hy : X.env.scope.names.lookup y = some .local) (ha : PA X [a, b] ta)
    (hw : swappedStores [.Tuple [.Name x px, .Name y py] kt pt] (.Tuple [a, b] k2 pt2) X.env = pure (some [x, y]))
    (hs : swapsWithSole [.Tuple [.Name x px, .Name y py] kt pt] (.Tuple [a, b] k2 pt2) pos.line X.env = pure false := by rfl) :
    PS X (.Assign [.Tuple [.Name x px, .Name y py] kt pt] (.Tuple [a, b] k2 pt2) pos) (tPar i j ta) := by
  intro pins s σ H D I h
  rw [exec_Assign_arm]
  refine wpAny_bind (wpAny_standAt ?_)
  rw [hs]
  refine wpAny_bind (wpAny_pure ?_)
  rw [if_neg (by decide)]
  refine wpAny_bind (Tuple_ (thn (ha _ pins s σ H _ I h) fun us s1 ⟨vs, H1, I1, r1, q1⟩ => ?_))
  obtain ⟨v, w, e1, q1⟩ := q1
  subst e1
  obtain ⟨u1, u2, rfl, rv, rw'⟩ : ∃ u1 u2, us = [u1, u2] ∧ RelV v u1 ∧ RelV w u2 := by
    cases r1 with
    | cons p q =>
      cases q with
      | cons p' q' =>
        cases q'
        exact ⟨_, _, rfl, p, p'⟩
  refine wpAny_newObj_type ?_ (by show 2 ≤ sizeLine; decide)
  have I2 : Inv X pins σ H1 { s1 with heap := s1.heap.push { cls := .type "tuple", data := .seq [u1, u2].toArray } } := I1.kept (t' := s1.toks) fun b o e => Heap.get?_push_of_some _ e
  rw [hw]
  refine wpAny_bind (wpAny_pure ?_)
  show wpAny (model X.prog X.w) X.A (do rule "assign.swapped-stores"; let items ← unpackItems (.ref s1.heap.objs.size) 2 none; assignInOrder [fun v => bindName X.env y v, fun v => bindName X.env x v] items.reverse; pure Flow.next) _ _ _
  refine wpAny_bind (wpAny_rule (wpAny_bind (unpackItems_tuple (items := #[u1, u2]) (I.ok.hd hc) (IsTup.new s1.heap _) fun h' hx' => ?_)))
  have I3 := I2.kept (h' := h') (t' := s1.toks) fun b o e => hx' b o (Nat.ne_of_lt (Heap.lt_size e)) e
  show wpAny _ _ (assignInOrder [fun v => bindName X.env y v, fun v => bindName X.env x v] [u2, u1] >>= fun _ => pure Flow.next) _ _ _
  refine wpAny_bind (assignInOrder_cons (wpAny_bindName (store_ok I3 hN hj (.inl hy) rw' (fun s2 I4 => ?_) (.inr hy))))
  refine assignInOrder_cons (wpAny_bindName (store_ok I4 hN hi (.inl hx) rv (fun s3 I5 => assignInOrder_nil (wpAny_pure ?_)) (.inr hx)))
  rw [List.set_comm _ _ (Ne.symm hij)] at I5
  exact ⟨_, H1, I5, q1⟩
noncomputable def tAug (i : Nat) (te : TE) (ti : TIp) : TS := fun D σ H => ∃ x, σ[i]? = some (some x) ∧ te σ H fun y H1 => ti x y H1 fun z H2 => D.nx (σ.set i (some z)) H2
theorem ps_aug {i : Nat} {x : Str} {e : Expr} {te : TE} {op : Operator} {ti : TIp} {pos' : Pos} (hN : X.N.Nodup) (hi : X.N[i]? = some x) (hx : Loc X.env.scope x) (he : PE X e te) (ho : PIp X op ti) (hf : X.fn x = true ∨ X.env.scope.names.lookup x = some .local := by first | exact .inl rfl | exact .inr rfl | assumption) :
    PS X (.AugAssign (.Name x pos') op e pos) (tAug i te ti) := by
  intro pins s σ H D I h
  obtain ⟨v, e1, h⟩ := h
  obtain ⟨m, hn, hl⟩ := I.loc
  have vis : Vis X.env.scope x := by rcases hx with k | k; exact .inl k; exact .inr (.inl k)
  obtain ⟨u, r, l⟩ := hl i x v hi e1 vis
  refine wpAny_AugAssign_Name ?_
  have go : wpAny (model X.prog X.w) X.A (eval e X.env) (fun w s₂ => wpAny (model X.prog X.w) X.A (inplaceOp op u w) (fun r s₃ => wpAny (model X.prog X.w) X.A (storeName X.env x r) (fun _ => SP X pins D .next) X.xe s₃) X.xe s₂) X.xe s := by
    refine thn (he pins s σ H _ I h) fun w s1 ⟨y, H1, I1, r1, q1⟩ => ?_
    refine thn (ho pins s1 σ H1 v y u w _ I1 r r1 q1) fun z s2 ⟨zv, H2, I2, r2, q2⟩ => ?_
    exact store_ok I2 hN hi hx r2 (fun s3 I3 => ⟨_, H2, I3, q2⟩) hf
  rcases l with ⟨hk, hm⟩ | ⟨hk, c, hc, hcell⟩
  · exact wpAny_loadName_local I.ok.kind hk hn hm go
  · rcases hk with hk | hk
    · exact wpAny_loadName_cell I.ok.kind hk hc hcell go
    · rcases hx with k | k
      · have : X.env.scope.names.lookup x = some .free := hk
        rw [k] at this; cases this
      · have : X.env.scope.names.lookup x = some .free := hk
        rw [k] at this; cases this
noncomputable def ipI (f : Int → Int → Int) : TIp := fun x y H Q => ∃ i j, x = .int i ∧ y = .int j ∧ Q (.int (f i j)) H
theorem ip_sub : PIp X .Sub (ipI fun i j => i - j) := by
  intro pins s σ H x y v u Q I r1 r2 h
  obtain ⟨i, j, e1, e2, q⟩ := h
  subst e1; subst e2
  obtain ⟨t, rfl⟩ := r1
  obtain ⟨t', rfl⟩ := r2
  exact isub_int ⟨.int _, H, I.tok _, ⟨_, rfl⟩, q⟩
end

section
variable {X : Cx} {pos : Pos}
noncomputable def tWhile (c : TT) (tb : TS) : TS := fun D σ H => ∃ W : Nat → St → Hp → Prop, (∃ m, W m σ H) ∧ ∀ m σ H, W m σ H →
  c σ H fun b H1 => if b = true then ∃ N : St → Hp → Prop, (∀ σ' H', N σ' H' → ∃ m', m' < m ∧ W m' σ' H') ∧ tb { D with nx := N, ct := N, bk := D.nx } σ H1 else D.nx σ H1
theorem ps_while {c : Expr} {body : List Stmt} {tc : TT} {tb : TS} (hp : PassesOwn (model X.prog X.w) X.A X.env X.xe) (hc : PT X c tc) (hb : PSs X body tb) : PS X (.While c body [] pos) (tWhile tc tb) := by
  intro pins s σ H D I h
  obtain ⟨W, ⟨m0, w0⟩, turn⟩ := h
  refine wpAny_While (codeAny_whileLoop (fun n s' => ∃ σ' H', Inv X pins σ' H' s' ∧ W n σ' H') ?_ m0 ⟨σ, H, I, w0⟩)
  rintro n s1 ⟨σ1, H1, I1, w1⟩
  refine wpAny_passesOwn hp (thn (hc pins s1 σ1 H1 _ I1 (turn n σ1 H1 w1)) fun b s2 ⟨H2, I2, q2⟩ => ?_)
  cases b with
  | true =>
    obtain ⟨N, hN, q2⟩ := q2
    rw [if_pos rfl]
    refine wpAny_passesOwn hp (thn (hb pins s2 σ1 H2 _ I2 q2) fun f s3 q3 => ?_)
    cases f with
    | next =>
      obtain ⟨σ3, H3, I3, n3⟩ := q3
      obtain ⟨m', hm, w3⟩ := hN σ3 H3 n3
      exact ⟨m', hm, σ3, H3, I3, w3⟩
    | cont =>
      obtain ⟨σ3, H3, I3, n3⟩ := q3
      obtain ⟨m', hm, w3⟩ := hN σ3 H3 n3
      exact ⟨m', hm, σ3, H3, I3, w3⟩
    | brk => exact q3
    | ret v => exact q3
  | false =>
    rw [if_neg Bool.false_ne_true]
    exact wpAny_execs_nil ⟨σ1, H2, I2, q2⟩
end

structure It where
  go : Nat → Hp → Prop
  yld : Nat → Hp → V → Hp → Prop
  stop : Nat → Hp → Prop
noncomputable def FpOk (X : Cx) (pins : List (Addr × Obj)) (H : Hp) (b : Addr) : Prop :=
  H b = none ∧ b ≠ X.env.locals ∧ b ∉ X.fs ∧ (b ∈ X.ex ∨ X.s₀.heap.objs.size ≤ b) ∧ (∀ x c, X.env.cells.lookup x = some c → c ≠ b) ∧ ∀ p ∈ X.pn ++ pins, p.1 ≠ b
theorem Inv.fpOk {X : Cx} {pins : List (Addr × Obj)} {σ : St} {H H' : Hp} {s : Shared} {b : Addr} (I : Inv X pins σ H s) (hb : s.heap.objs.size ≤ b) (hn : H' b = none) : FpOk X pins H' b := by
  refine ⟨hn, Nat.ne_of_gt (Nat.lt_of_lt_of_le I.lt hb), I.nofs hb, .inr (Nat.le_trans I.sz hb), fun x c e z => ?_, fun p hp z => ?_⟩
  · obtain ⟨v, q⟩ := I.cell x c e
    exact absurd (Nat.lt_of_lt_of_le q.lt (by rw [z]; exact hb)) (Nat.lt_irrefl _)
  · exact absurd (Nat.lt_of_lt_of_le (Heap.lt_size (I.pin p hp).1) (by rw [z]; exact hb)) (Nat.lt_irrefl _)
structure Turn (P : Program) (w : World) (K : PySem.W.Frag) (tg : Expr) (J : It) (fp : List Addr) (it : Addr) (tn : Nat → Heap → Prop) : Prop where
  mem : it ∈ fp
  obj : ∀ i h, tn i h → ∀ b ∈ fp, ∃ o, h.get? b = some o ∧ ∀ v, o.data ≠ .cell v
  keep : ∀ i h h', tn i h → (∀ b ∈ fp, ∀ o, h.get? b = some o → h'.get? b = some o) → tn i h'
  item : ∀ (X : Cx), X.prog = P → X.w = w → X.K = K → X.calm = true → ∀ (i : Nat) (pins : List (Addr × Obj)) (s : Shared) (σ : St) (H : Hp) (E : Value → Shared → Prop), Inv X pins σ H s → (∀ b ∈ fp, FpOk X pins H b) → tn i s.heap → J.go i H →
    wpAny (model P w) X.A (pyNext (.ref it)) (fun r s1 => ∃ u, r = some u ∧
      wpAny (model P w) X.A (letOwnedTupleGo tg (.ref it) u) (fun _ s2 => ∃ x H', Inv X pins σ H' s2 ∧ RelV x u ∧ J.yld i H x H' ∧ tn (i + 1) s2.heap ∧ ∀ b ∈ fp, H' b = none) E s1) E s
  done : ∀ (X : Cx), X.prog = P → X.w = w → X.K = K → X.calm = true → ∀ (i : Nat) (pins : List (Addr × Obj)) (s : Shared) (σ : St) (H : Hp) (E : Value → Shared → Prop), Inv X pins σ H s → (∀ b ∈ fp, FpOk X pins H b) → tn i s.heap → J.stop i H →
    wpAny (model P w) X.A (pyNext (.ref it)) (fun r s1 => r = none ∧ Inv X pins σ H s1) E s
  self : ∀ (A : Around) (i : Nat) (s : Shared) (Q : Value → Shared → Prop) (E : Value → Shared → Prop), tn i s.heap → Q (.ref it) s → wpAny (model P w) A (pyIter (.ref it)) Q E s
noncomputable abbrev TI := St → Hp → (It → Hp → Prop) → Prop
noncomputable def PIE (X : Cx) (pins : List (Addr × Obj)) (σ : St) (tg : Expr) (R : It → Hp → Prop) (itv : Value) (s2 : Shared) : Prop :=
  ∃ (it : Addr) (fp : List Addr) (tn : Nat → Heap → Prop) (J : It) (H' : Hp), itv = .ref it ∧ Inv X pins σ H' s2 ∧ Turn X.prog X.w X.K tg J fp it tn ∧ tn 0 s2.heap ∧ (∀ b ∈ fp, FpOk X pins H' b) ∧ R J H'
noncomputable def PI (X : Cx) (tg iter : Expr) (wi : TI) : Prop :=
  ∀ (pins : List (Addr × Obj)) (s : Shared) (σ : St) (H : Hp) (R : It → Hp → Prop), Inv X pins σ H s → wi σ H R →
    wpAny (model X.prog X.w) X.A (eval iter X.env) (fun v s1 => wpAny (model X.prog X.w) X.A (pyIter v) (PIE X pins σ tg R) X.xe s1) X.xe s

theorem go_of {M : Model} {A : Around} {E : Value → Shared → Prop} {s : Shared} {tg : Expr} {it : Addr} {u : Value} {o : Obj} {n : String} {vs : Array Value} {Q : Unit → Shared → Prop} (ho : s.heap.get? it = some o) (hc : o.cls = .type n) (hd : o.data = .fields vs)
    (hn : ["enumerate", "zip", "dict_itemiterator", "dict_reverseitemiterator", "odict_iterator", "itertools.zip_longest", "itertools.pairwise"].contains n = false) (hQ : Q () s) : wpAny M A (letOwnedTupleGo tg (.ref it) u) Q E s := by
  unfold letOwnedTupleGo
  cases tg <;> first
    | exact wpAny_pure hQ
    | (cases u <;> first
        | exact wpAny_pure hQ
        | (refine wpAny_bind (wpAny_load ho ?_)
           rw [hc, hd]
           show wpAny M A (if (["enumerate", "zip", "dict_itemiterator", "dict_reverseitemiterator", "odict_iterator", "itertools.zip_longest", "itertools.pairwise"].contains n && vs[0]? == some (rawInt _)) = true then _ else _) Q E s
           rw [if_neg (by intro h; rw [hn, Bool.false_and] at h; cases h)]
           exact wpAny_pure hQ))

noncomputable def Itl (K : PySem.W.Frag) (a : Addr) : It :=
  ⟨fun i H => ∃ xs x, SqL K H a xs ∧ xs[i]? = some x, fun i H x H' => H' = H ∧ ∀ xs, SqL K H a xs → xs[i]? = some x, fun i H => ∃ xs, SqL K H a xs ∧ xs.length ≤ i⟩
noncomputable def Itr (lo : Int) (n : Nat) : It := ⟨fun i _ => i < n, fun i H x H' => H' = H ∧ x = .int (lo + i), fun i _ => n ≤ i⟩
theorem turn_list {P : Program} {w : World} {K : PySem.W.Frag} {tg : Expr} (a it : Addr) : Turn P w K tg (Itl K a) [it] it (fun i h => h.IsListIter it a i) where
  mem := by simp
  obj := fun i h st b hb => by
    have e : b = it := by simpa using hb
    subst e
    obtain ⟨o, e, c, d⟩ := st
    exact ⟨o, e, fun v z => by rw [d] at z; cases z⟩
  keep := fun i h h' st k => st.at fun o e => k it (by simp) o e
  item := by
    intro X hP hw hK hc i pins s σ H E I hf st hg
    subst hP hw hK
    obtain ⟨xs, x, hq, hx⟩ := hg
    obtain ⟨its, rv, p, hz⟩ := I.list hq
    obtain ⟨u, hu, ru⟩ := rv.get hx
    obtain ⟨f0, f1, f2, f3, f4, f5⟩ := hf it (by simp)
    refine wpAny_pyNext_list_item st p.isList (x := u) (by simpa using hu) fun h' st' sb => ?_
    have I1 : Inv X pins σ H { s with heap := h' } := I.turned (t' := s.toks) (fun b o hb e => (sb.2 b hb).trans e) f0 f1 f3 f4 f5
    obtain ⟨o, e, c, d⟩ := id st'
    exact ⟨u, rfl, go_of (s := { s with heap := h' }) e c d (by decide) ⟨x, H, I1, ru, ⟨rfl, fun ys hy => by rw [I.list_inj hy hq]; exact hx⟩, st', fun b hb => (hf b hb).1⟩⟩
  done := by
    intro X hP hw hK hc i pins s σ H E I hf st hg
    subst hP hw hK
    obtain ⟨xs, hq, hx⟩ := hg
    obtain ⟨its, rv, p, hz⟩ := I.list hq
    obtain ⟨f0, f1, f2, f3, f4, f5⟩ := hf it (by simp)
    have hl := rv.length
    exact wpAny_pyNext_list_end (I.ok.hd hc) st p.isList (by simp; (first | lia | omega)) fun h' eb => ⟨rfl, I.turned (t' := s.toks) (fun b o hb e => eb b o hb e) f0 f1 f3 f4 f5⟩
  self := fun _ _ _ _ _ st h => wpAny_pyIter_listiter st h
theorem turn_range {P : Program} {w : World} {K : PySem.W.Frag} {tg : Expr} (it : Addr) (lo : Int) (n : Nat) : Turn P w K tg (Itr lo n) [it] it (fun i h => IsRangeIter h it (lo + (i : Nat) * 1) ((n : Int) - (i : Nat)) 1) where
  mem := by simp
  obj := fun i h st b hb => by
    have e : b = it := by simpa using hb
    subst e
    exact ⟨_, st, fun v z => by
      have z' : Data.fields _ = Data.cell v := z
      cases z'⟩
  keep := fun i h h' st k => k it (by simp) _ st
  item := by
    intro X hP hw hK hc i pins s σ H E I hf st hg
    subst hP hw hK
    obtain ⟨f0, f1, f2, f3, f4, f5⟩ := hf it (by simp)
    have W := Walks.range (prog := X.prog) (w := X.w) (I.ok.hd hc) it lo 1 n
    refine W.item i s _ _ hg st fun v h' tk hv st' kk => ?_
    obtain ⟨t, rfl⟩ := hv
    have I1 : Inv X pins σ H { s with heap := h', toks := tk } := I.turned (fun b o hb e => kk b o (by simpa using hb) e) f0 f1 f3 f4 f5
    refine ⟨_, rfl, go_of (s := { s with heap := h', toks := tk }) (n := "range_iterator") st' rfl rfl (by decide) ⟨.int (lo + i), H, I1, ⟨t, ?_⟩, ⟨rfl, rfl⟩, st', fun b hb => (hf b hb).1⟩⟩
    rw [Int.mul_one]
  done := by
    intro X hP hw hK hc i pins s σ H E I hf st hg
    subst hP hw hK
    obtain ⟨f0, f1, f2, f3, f4, f5⟩ := hf it (by simp)
    exact wpAny_pyNext_range_end (I.ok.hd hc) st (by have : n ≤ i := hg; (first | lia | omega)) fun h' eb => ⟨rfl, I.turned (t' := s.toks) (fun b o hb e => eb b o hb e) f0 f1 f3 f4 f5⟩
  self := fun _ _ _ _ _ st h => wpAny_pyIter_rangeiter st h
end L2

namespace L2
open PySem PySem.Spec PyProof.Rows
section
variable {X : Cx} {tg : Expr}
noncomputable def iList (K : PySem.W.Frag) (tl : TE) : TI := fun σ H R => tl σ H fun x H1 => ∃ a, x = .ref a ∧ (∃ xs, SqL K H1 a xs) ∧ R (Itl K a) H1
theorem pi_list {l : Expr} {tl : TE} (hl : PE X l tl) : PI X tg l (iList X.K tl) := by
  intro pins s σ H R I h
  refine thn (hl pins s σ H _ I h) fun v s1 ⟨x, H1, I1, r1, q1⟩ => ?_
  obtain ⟨a, e, ⟨xs, hq⟩, q⟩ := q1
  subst e
  cases r1
  obtain ⟨its, rv, p, hz⟩ := I1.list hq
  refine wpAny_pyIter_list p.isList ?_
  refine ⟨s1.heap.objs.size, [s1.heap.objs.size], _, _, H1, rfl, I1.kept (t' := s1.toks) fun b o e => Heap.get?_push_of_some _ e, turn_list a _, ⟨_, Heap.get?_push_size _ rfl, rfl, rfl⟩, fun b hb => ?_, q⟩
  have e : b = s1.heap.objs.size := by simpa using hb
  subst e
  exact I1.fpOk (Nat.le_refl _) (I1.hok.fresh (Nat.le_refl _))
theorem range_it {pins : List (Addr × Obj)} {σ : St} {H : Hp} {s : Shared} {R : It → Hp → Prop} {E : Value → Shared → Prop} {lo hi : Int} {t u v : Tok} {tk : Nat} (I : Inv X pins σ H s) (h1 : -(2 ^ 62) ≤ lo) (h2 : lo < 2 ^ 62) (h3 : -(2 ^ 62) ≤ hi) (h4 : hi < 2 ^ 62)
    (q : R (Itr lo (hi - lo).toNat) H) : wpAny (model X.prog X.w) X.A (pyIter (.ref s.heap.objs.size)) (PIE X pins σ tg R) E { s with heap := s.heap.push { cls := .type "range", data := .fields #[.int lo t, .int hi u, .int 1 v] }, toks := tk } := by
  refine wpAny_pyIter_range (IsRange.new ..) (small_one h1 h2 h3 h4) ?_
  have I1 : Inv X pins σ H { s with heap := s.heap.push { cls := .type "range", data := .fields #[.int lo t, .int hi u, .int 1 v] }, toks := tk } := I.kept fun b o e => Heap.get?_push_of_some _ e
  refine ⟨(s.heap.push { cls := .type "range", data := .fields #[.int lo t, .int hi u, .int 1 v] }).objs.size, [(s.heap.push { cls := .type "range", data := .fields #[.int lo t, .int hi u, .int 1 v] }).objs.size], _, _, H, rfl,
    I1.kept (t' := tk) fun b o e => Heap.get?_push_of_some _ e, turn_range _ lo (hi - lo).toNat, ?_, fun b hb => ?_, q⟩
  · have e1 : lo + ((0 : Nat) : Int) * 1 = lo := by simp
    have e2 : (((hi - lo).toNat : Nat) : Int) - ((0 : Nat) : Int) = Builtin.Range.rangeSize lo hi 1 := by rw [rangeSize_one]; split <;> (first | lia | omega)
    show IsRangeIter _ _ (lo + ((0 : Nat) : Int) * 1) ((((hi - lo).toNat : Nat) : Int) - ((0 : Nat) : Int)) 1
    rw [e1, e2]
    exact Heap.get?_push_size _ rfl
  · have e : b = (s.heap.push { cls := .type "range", data := .fields #[.int lo t, .int hi u, .int 1 v] }).objs.size := by simpa using hb
    subst e
    exact I1.fpOk (Nat.le_refl _) (I1.hok.fresh (Nat.le_refl _))
noncomputable def iRng1 (ta : TA) : TI := fun σ H R => ta σ H fun vs H1 => ∃ j : Int, vs = [.int j] ∧ -(2 ^ 62) ≤ j ∧ j < 2 ^ 62 ∧ R (Itr 0 j.toNat) H1
noncomputable def iRng2 (ta : TA) : TI := fun σ H R => ta σ H fun vs H1 => ∃ i j : Int, vs = [.int i, .int j] ∧ (-(2 ^ 62) ≤ i ∧ i < 2 ^ 62 ∧ -(2 ^ 62) ≤ j ∧ j < 2 ^ 62) ∧ R (Itr i (j - i).toNat) H1
theorem pi_range1 {a : Expr} {ta : TA} {p pos : Pos} (hg : Gl X "range") (hm : X.mg "range" = none) (ha : PA X [a] ta) (hs : starEach [a] X.env = [(false, eval a X.env)] := by rfl) : PI X tg (.Call (.Name "range" p) [a] [] pos) (iRng1 ta) := by
  intro pins s σ H R I h
  refine Call_ (ld_blt I hg hm boot_range (PyProof.Rows.callWith_type1 (thn (ha pos pins s σ H _ I h) fun us s1 ⟨vs, H1, I1, r1, q1⟩ => ?_) hs rfl))
  obtain ⟨j, e, q1, q2, q⟩ := q1
  subst e
  cases r1 with
  | cons r rr =>
    cases rr
    obtain ⟨t, rfl⟩ := r
    exact call_range_1 (range_it I1 (by (first | lia | omega)) (by (first | lia | omega)) q1 q2 (by simpa using q))
theorem pi_range2 {a b : Expr} {ta : TA} {p pos : Pos} (hg : Gl X "range") (hm : X.mg "range" = none) (ha : PA X [a, b] ta) (hs : starEach [a, b] X.env = [(false, eval a X.env), (false, eval b X.env)] := by rfl) (hs2 : starEach [b] X.env = [(false, eval b X.env)] := by rfl) :
    PI X tg (.Call (.Name "range" p) [a, b] [] pos) (iRng2 ta) := by
  intro pins s σ H R I h
  refine Call_ (ld_blt I hg hm boot_range (PyProof.Rows.callWith_type1 (thn (ha pos pins s σ H _ I h) fun us s1 ⟨vs, H1, I1, r1, q1⟩ => ?_) (by rw [hs, hs2]) (by rw [hs2]; rfl)))
  obtain ⟨i, j, e, ⟨q1, q2, q3, q4⟩, q⟩ := q1
  subst e
  cases r1 with
  | cons r rr =>
    cases rr with
    | cons r' rr =>
      cases rr
      obtain ⟨t, rfl⟩ := r
      obtain ⟨t', rfl⟩ := r'
      exact call_range_2 (range_it I1 q1 q2 q3 q4 q)

noncomputable def tFor (wi : TI) (g : TG) (tb : TS) : TS := fun D σ H => wi σ H fun J H1 => ∃ W : Nat → Nat → St → Hp → Prop, (∃ m, W 0 m σ H1) ∧ ∀ i m σ H, W i m σ H →
  (J.stop i H ∧ D.nx σ H) ∨ (J.go i H ∧ ∃ N : St → Hp → Prop, (∀ σ' H', N σ' H' → ∃ m', m' < m ∧ W (i + 1) m' σ' H') ∧ ∀ x H', J.yld i H x H' → g x σ H' fun σ2 H2 => tb { D with nx := N, ct := N, bk := D.nx } σ2 H2)
noncomputable def pinsAt (fp : List Addr) (h : Heap) : List (Addr × Obj) := fp.filterMap fun b => (h.get? b).map fun o => (b, o)
theorem mem_pinsAt {fp : List Addr} {h : Heap} {b : Addr} {o : Obj} (hb : b ∈ fp) (e : h.get? b = some o) : (b, o) ∈ pinsAt fp h := List.mem_filterMap.mpr ⟨b, hb, by rw [e]; rfl⟩
theorem of_pinsAt {fp : List Addr} {h : Heap} {p : Addr × Obj} (hp : p ∈ pinsAt fp h) : p.1 ∈ fp ∧ h.get? p.1 = some p.2 := by
  obtain ⟨b, hb, e⟩ := List.mem_filterMap.mp hp
  cases q : h.get? b with
  | none => rw [q] at e; cases e
  | some o =>
    rw [q] at e
    have e' : (b, o) = p := Option.some.inj e
    subst e'
    exact ⟨hb, q⟩
theorem Inv.pinned {pins : List (Addr × Obj)} {σ : St} {H : Hp} {s : Shared} {fp : List Addr} (I : Inv X pins σ H s) (hf : ∀ b ∈ fp, FpOk X pins H b) (ho : ∀ b ∈ fp, ∃ o, s.heap.get? b = some o ∧ ∀ v, o.data ≠ .cell v) : Inv X (pins ++ pinsAt fp s.heap) σ H s :=
  I.pins_of fun p hp => (List.mem_append.mp hp).elim (fun z => I.pin p (List.mem_append_right _ z)) fun z => by
    obtain ⟨hb, e⟩ := of_pinsAt z
    obtain ⟨f0, f1, f2, _⟩ := hf p.1 hb
    obtain ⟨o, e', d⟩ := ho p.1 hb
    rw [e] at e'; cases e'
    exact ⟨e, f0, f1, f2, d⟩
theorem Inv.unpinned {pins pl : List (Addr × Obj)} {σ : St} {H : Hp} {s : Shared} (I : Inv X (pins ++ pl) σ H s) : Inv X pins σ H s := I.pins_of fun p hp => I.pin p (List.mem_append_right _ (List.mem_append_left _ hp))
theorem ps_for {iter : Expr} {body : List Stmt} {wi : TI} {g : TG} {tb : TS} {pos : Pos} (hp : PassesOwn (model X.prog X.w) X.A X.env X.xe) (hc : X.calm = true) (hi : PI X tg iter wi) (hg : PG X tg g) (hb : PSs X body tb)
    (hs : ∀ x, foldedSetIterable iter X.env x = pure x := by intro _; rfl) : PS X (.For tg iter body [] pos) (tFor wi g tb) := by
  intro pins s σ H D I h
  refine wpAny_For (thn (hi pins s σ H _ I h) fun v s1 h1 => thn h1 fun itv s2 h2 => ?_) hs
  obtain ⟨it, fp, tn, J, H2, e, I2, T, st2, f2, W, ⟨m0, w0⟩, turn⟩ := h2
  subst e
  -- what stays true of the iterator's objects through the loop
  have stat : ∀ {H' : Hp}, (∀ b ∈ fp, H' b = none) → ∀ b ∈ fp, FpOk X pins H' b := fun hn b hb => ⟨hn b hb, (f2 b hb).2⟩
  refine codeAny_forLoop_any (fun n s' => ∃ i σ' H', Inv X pins σ' H' s' ∧ tn i s'.heap ∧ (∀ b ∈ fp, H' b = none) ∧ W i n σ' H') ?_ m0 ⟨0, σ, H2, I2, st2, fun b hb => (f2 b hb).1, w0⟩
  rintro n s3 ⟨i, σ3, H3, I3, st3, fr3, w3⟩
  rcases turn i n σ3 H3 w3 with ⟨stop, qn⟩ | ⟨go, N, hN, step⟩
  · refine wpAny_passesOwn hp (thn (T.done X rfl rfl rfl hc i pins s3 σ3 H3 X.xe I3 (stat fr3) st3 stop) fun r s4 ⟨hr, I4⟩ => ?_)
    subst hr
    exact wpAny_execs_nil ⟨σ3, H3, I4, qn⟩
  · refine wpAny_passesOwn hp (thn (T.item X rfl rfl rfl hc i pins s3 σ3 H3 X.xe I3 (stat fr3) st3 go) fun r s4 ⟨u, hr, h4⟩ => ?_)
    subst hr
    refine wpAny_passesOwn hp (thn h4 fun _ s5 ⟨x, H5, I5, r5, y5, st5, fr5⟩ => ?_)
    have I5' := I5.pinned (stat fr5) (T.obj _ _ st5)
    refine wpAny_passesOwn hp (thn (hg _ s5 σ3 H5 x u _ I5' r5 (step x H5 y5)) fun _ s6 ⟨σ6, H6, I6, q6⟩ => ?_)
    refine wpAny_passesOwn hp (thn (hb _ s6 σ6 H6 _ I6 q6) fun f s7 q7 => ?_)
    have again : ∀ {σ7 : St} {H7 : Hp}, Inv X (pins ++ pinsAt fp s5.heap) σ7 H7 s7 → N σ7 H7 → ∃ m, m < n ∧ ∃ i σ' H', Inv X pins σ' H' s7 ∧ tn i s7.heap ∧ (∀ b ∈ fp, H' b = none) ∧ W i m σ' H' := fun {σ7 H7} I7 n7 => by
      obtain ⟨m', hm, w7⟩ := hN σ7 H7 n7
      refine ⟨m', hm, i + 1, σ7, H7, I7.unpinned, T.keep _ _ _ st5 fun b hb o e => (I7.pin (b, o) (List.mem_append_right _ (List.mem_append_right _ (mem_pinsAt hb e)))).1, fun b hb => ?_, w7⟩
      obtain ⟨o, e, d⟩ := T.obj _ _ st5 b hb
      exact (I7.pin (b, o) (List.mem_append_right _ (List.mem_append_right _ (mem_pinsAt hb e)))).2.1
    cases f with
    | next => obtain ⟨σ7, H7, I7, n7⟩ := q7; exact again I7 n7
    | cont => obtain ⟨σ7, H7, I7, n7⟩ := q7; exact again I7 n7
    | brk => obtain ⟨σ7, H7, I7, q7⟩ := q7; exact ⟨σ7, H7, I7.unpinned, q7⟩
    | ret v => obtain ⟨x7, σ7, H7, I7, r7, q7⟩ := q7; exact ⟨x7, σ7, H7, I7.unpinned, r7, q7⟩
end

theorem for_list {K : PySem.W.Frag} {a : Addr} {xs : List V} {g : TG} {tb : TS} {D : Ends} {σ : St} {H : Hp} (Pv : Nat → St → Hp → Prop) (h0 : Pv 0 σ H) (hl : ∀ i σ H, i ≤ xs.length → Pv i σ H → SqL K H a xs)
    (hs : ∀ i x σ H, xs[i]? = some x → Pv i σ H → g x σ H fun σ2 H2 => tb { D with nx := Pv (i + 1), ct := Pv (i + 1), bk := D.nx } σ2 H2) (hd : ∀ σ H, Pv xs.length σ H → D.nx σ H) :
    ∃ W : Nat → Nat → St → Hp → Prop, (∃ m, W 0 m σ H) ∧ ∀ i m σ H, W i m σ H →
      ((Itl K a).stop i H ∧ D.nx σ H) ∨ ((Itl K a).go i H ∧ ∃ N : St → Hp → Prop, (∀ σ' H', N σ' H' → ∃ m', m' < m ∧ W (i + 1) m' σ' H') ∧ ∀ x H', (Itl K a).yld i H x H' → g x σ H' fun σ2 H2 => tb { D with nx := N, ct := N, bk := D.nx } σ2 H2) := by
  refine ⟨fun i m σ H => m = xs.length - i ∧ i ≤ xs.length ∧ Pv i σ H, ⟨xs.length, by simp, Nat.zero_le _, h0⟩, ?_⟩
  rintro i m σ H ⟨rfl, hi, p⟩
  have q := hl i σ H hi p
  by_cases hlt : i < xs.length
  · refine .inr ⟨⟨xs, xs[i], q, by simp [hlt]⟩, Pv (i + 1), fun σ' H' p' => ⟨xs.length - (i + 1), by (first | lia | omega), rfl, hlt, p'⟩, fun x H' y => ?_⟩
    obtain ⟨e, y⟩ := y
    subst e
    exact hs i x σ _ (y xs q) p
  · have e : i = xs.length := by (first | lia | omega)
    subst e
    exact .inl ⟨⟨xs, q, Nat.le_refl _⟩, hd σ H p⟩
theorem for_range {lo : Int} {n : Nat} {g : TG} {tb : TS} {D : Ends} {σ : St} {H : Hp} (Pv : Nat → St → Hp → Prop) (h0 : Pv 0 σ H)
    (hs : ∀ i σ H, i < n → Pv i σ H → g (.int (lo + i)) σ H fun σ2 H2 => tb { D with nx := Pv (i + 1), ct := Pv (i + 1), bk := D.nx } σ2 H2) (hd : ∀ σ H, Pv n σ H → D.nx σ H) :
    ∃ W : Nat → Nat → St → Hp → Prop, (∃ m, W 0 m σ H) ∧ ∀ i m σ H, W i m σ H →
      ((Itr lo n).stop i H ∧ D.nx σ H) ∨ ((Itr lo n).go i H ∧ ∃ N : St → Hp → Prop, (∀ σ' H', N σ' H' → ∃ m', m' < m ∧ W (i + 1) m' σ' H') ∧ ∀ x H', (Itr lo n).yld i H x H' → g x σ H' fun σ2 H2 => tb { D with nx := N, ct := N, bk := D.nx } σ2 H2) := by
  refine ⟨fun i m σ H => m = n - i ∧ i ≤ n ∧ Pv i σ H, ⟨n, by simp, Nat.zero_le _, h0⟩, ?_⟩
  rintro i m σ H ⟨rfl, hi, p⟩
  by_cases hlt : i < n
  · refine .inr ⟨hlt, Pv (i + 1), fun σ' H' p' => ⟨n - (i + 1), by (first | lia | omega), rfl, hlt, p'⟩, fun x H' y => ?_⟩
    obtain ⟨e, y⟩ := y
    subst e y
    exact hs i σ _ hlt p
  · have e : i = n := by (first | lia | omega)
    subst e
    exact .inl ⟨Nat.le_refl _, hd σ H p⟩
end L2

namespace L2
open PySem PySem.Spec PyProof.Rows

noncomputable abbrev R2 := V → V → Hp → VK → Prop
noncomputable def OpR (X : Cx) (f : Value → Value → Sem Value) (r : R2) : Prop :=
  ∀ (pins : List (Addr × Obj)) (s : Shared) (σ : St) (H : Hp) (x y : V) (v u : Value) (Q : VK), Inv X pins σ H s → RelV x v → RelV y u → r x y H Q →
    wpAny (model X.prog X.w) X.A (f v u) (EP X pins σ Q) X.xe s
noncomputable def UnR (X : Cx) (f : Value → Sem Value) (r : V → Hp → VK → Prop) : Prop :=
  ∀ (pins : List (Addr × Obj)) (s : Shared) (σ : St) (H : Hp) (x : V) (v : Value) (Q : VK), Inv X pins σ H s → RelV x v → r x H Q →
    wpAny (model X.prog X.w) X.A (f v) (EP X pins σ Q) X.xe s
noncomputable def CallR (X : Cx) (f : Value) (r : List V → Hp → VK → Prop) : Prop :=
  ∀ (pins : List (Addr × Obj)) (s : Shared) (σ : St) (H : Hp) (xs : List V) (us : List Value) (Q : VK), Inv X pins σ H s → Vals xs us → r xs H Q →
    wpAny (model X.prog X.w) X.A (call f us) (EP X pins σ Q) X.xe s

noncomputable def tOp (r : R2) (ta tb : TE) : TE := fun σ H Q => ta σ H fun x H1 => tb σ H1 fun y H2 => r x y H2 Q
noncomputable def tUn (r : V → Hp → VK → Prop) (ta : TE) : TE := fun σ H Q => ta σ H fun x H1 => r x H1 Q
noncomputable def rI (C : Int → Int → Prop) (g : Int → Int → V) : R2 := fun x y H Q => ∃ i j, x = .int i ∧ y = .int j ∧ C i j ∧ Q (g i j) H
noncomputable def rI0 (g : Int → Int → V) : R2 := fun x y H Q => ∃ i j, x = .int i ∧ y = .int j ∧ Q (g i j) H
noncomputable def rU (g : Int → V) : V → Hp → VK → Prop := fun x H Q => ∃ i, x = .int i ∧ Q (g i) H

section
variable {X : Cx} {a b c : Expr} {ta tb tc : TE} {pos : Pos}

theorem binT (ha : PE X a ta) (hb : PE X b tb) {pins : List (Addr × Obj)} {s : Shared} {σ : St} {H : Hp} {R : V → V → Hp → Prop} (I : Inv X pins σ H s)
    (h : ta σ H fun x H1 => tb σ H1 fun y H2 => R x y H2) {Q : Value → Shared → Prop} {f : Value → Value → Sem Value}
    (hf : ∀ v u s2 x y H2, Inv X pins σ H2 s2 → RelV x v → RelV y u → R x y H2 → wpAny (model X.prog X.w) X.A (f v u) Q X.xe s2) :
    wpAny (model X.prog X.w) X.A (eval a X.env) (fun v s₁ => wpAny (model X.prog X.w) X.A (eval b X.env) (fun u s₂ => wpAny (model X.prog X.w) X.A (f v u) Q X.xe s₂) X.xe s₁) X.xe s := by
  refine thn (ha pins s σ H _ I h) fun v s1 ⟨x, H1, I1, r1, q1⟩ => ?_
  refine thn (hb pins s1 σ H1 _ I1 q1) fun u s2 ⟨y, H2, I2, r2, q2⟩ => ?_
  exact hf v u s2 x y H2 I2 r1 r2 q2

theorem pe_op {op : Operator} {r : R2} (ho : OpR X (binaryOp op) r) (ha : PE X a ta) (hb : PE X b tb) : PE X (.BinOp a op b pos) (tOp r ta tb) := by
  intro pins s σ H Q I h
  exact wpAny_BinOp (binT ha hb I h fun v u s2 x y H2 I2 rx ry q => ho pins s2 σ H2 x y v u Q I2 rx ry q)
theorem pe_un {op : UnaryOp} {r : V → Hp → VK → Prop} (ho : UnR X (unaryOp op) r) (ha : PE X a ta) : PE X (.UnaryOp op a pos) (tUn r ta) := by
  intro pins s σ H Q I h
  exact UnaryOp_ (thn (ha pins s σ H _ I h) fun v s1 ⟨x, H1, I1, r1, q1⟩ => ho pins s1 σ H1 x v Q I1 r1 q1)

theorem opI {f : Value → Value → Sem Value} {C : Int → Int → Prop} {g : Int → Int → Int}
    (rule : ∀ (i j : Int) (t u : Tok) (s : Shared) (Q : Value → Shared → Prop) (E : Value → Shared → Prop), C i j → Q (.int (g i j) s.toks) { s with toks := s.toks + 1 } → wpAny (model X.prog X.w) X.A (f (.int i t) (.int j u)) Q E s) :
    OpR X f (rI C fun i j => .int (g i j)) := by
  intro pins s σ H x y v u Q I rx ry h
  obtain ⟨i, j, rfl, rfl, hc, q⟩ := h
  obtain ⟨t, rfl⟩ := rx
  obtain ⟨t', rfl⟩ := ry
  exact rule i j t t' s _ _ hc ⟨.int (g i j), H, I.tok _, ⟨_, rfl⟩, q⟩
theorem opI0 {f : Value → Value → Sem Value} {g : Int → Int → Int}
    (rule : ∀ (i j : Int) (t u : Tok) (s : Shared) (Q : Value → Shared → Prop) (E : Value → Shared → Prop), Q (.int (g i j) s.toks) { s with toks := s.toks + 1 } → wpAny (model X.prog X.w) X.A (f (.int i t) (.int j u)) Q E s) :
    OpR X f (rI0 fun i j => .int (g i j)) := by
  intro pins s σ H x y v u Q I rx ry h
  obtain ⟨i, j, rfl, rfl, q⟩ := h
  obtain ⟨t, rfl⟩ := rx
  obtain ⟨t', rfl⟩ := ry
  exact rule i j t t' s _ _ ⟨.int (g i j), H, I.tok _, ⟨_, rfl⟩, q⟩
theorem opB0 {f : Value → Value → Sem Value} {g : Int → Int → Bool}
    (rule : ∀ (i j : Int) (t u : Tok) (s : Shared) (Q : Value → Shared → Prop) (E : Value → Shared → Prop), Q (.bool (g i j)) s → wpAny (model X.prog X.w) X.A (f (.int i t) (.int j u)) Q E s) :
    OpR X f (rI0 fun i j => .bl (g i j)) := by
  intro pins s σ H x y v u Q I rx ry h
  obtain ⟨i, j, rfl, rfl, q⟩ := h
  obtain ⟨t, rfl⟩ := rx
  obtain ⟨t', rfl⟩ := ry
  exact rule i j t t' s _ _ ⟨.bl (g i j), H, I, rfl, q⟩

noncomputable def CPow (i j : Int) : Prop := 0 ≤ j ∧ j ≤ 1000000 ∧ i.natAbs < 2 ^ 64
noncomputable def CMul (i j : Int) : Prop := (-(2 ^ 64) < i ∧ i < 2 ^ 64) ∨ (-(2 ^ 64) < j ∧ j < 2 ^ 64)
theorem CMul.ok {i j : Int} (h : CMul i j) : IntMulOk i j := by
  rcases h with ⟨h1, h2⟩ | ⟨h1, h2⟩
  · exact .of_left (intBits_le_64 h1 h2)
  · exact .of_right (intBits_le_64 h1 h2)

theorem op_add : OpR X (binaryOp .Add) (rI0 fun i j => .int (i + j)) := opI0 fun _ _ _ _ _ _ _ q => add_int q
theorem op_sub : OpR X (binaryOp .Sub) (rI0 fun i j => .int (i - j)) := opI0 fun _ _ _ _ _ _ _ q => sub_int q
theorem op_mod : OpR X (binaryOp .Mod) (rI (fun _ j => 0 < j) fun i j => .int (i % j)) := opI fun i j _ _ _ _ _ hc q => by
  have h1 : (0 : Int) < j := hc
  exact mod_int' (by (first | lia | omega)) (by rw [Int.fmod_eq_emod_of_nonneg i (by (first | lia | omega))]; exact q)
theorem op_pow : OpR X (binaryOp .Pow) (rI CPow fun i j => .int (i ^ j.toNat)) := opI fun _ _ _ _ _ _ _ hc q => pow_int_small hc.1 hc.2.1 hc.2.2 q


theorem unI {f : Value → Sem Value} {g : Int → Int}
    (rule : ∀ (i : Int) (t : Tok) (s : Shared) (Q : Value → Shared → Prop) (E : Value → Shared → Prop), Q (.int (g i) s.toks) { s with toks := s.toks + 1 } → wpAny (model X.prog X.w) X.A (f (.int i t)) Q E s) :
    UnR X f (rU fun i => .int (g i)) := by
  intro pins s σ H x v Q I rx h
  obtain ⟨i, rfl, q⟩ := h
  obtain ⟨t, rfl⟩ := rx
  exact rule i t s _ _ ⟨.int (g i), H, I.tok _, ⟨_, rfl⟩, q⟩
theorem un_neg : UnR X (unaryOp .USub) (rU fun i => .int (-i)) := unI fun _ _ _ _ _ q => neg_int q

end

noncomputable def scal : V → V → Bool
  | .non, .non => true | .non, .int _ => true | .int _, .non => true | .non, .bl _ => true | .bl _, .non => true | .non, .str _ => true | .str _, .non => true
  | .int _, .int _ => true | .bl _, .bl _ => true | .str _, .str _ => true | .byt _, .byt _ => true
  | .int _, .str _ => true | .str _, .int _ => true | .bl _, .str _ => true | .str _, .bl _ => true
  | _, _ => false
noncomputable def rEq : R2 := fun x y H Q => scal x y = true ∧ Q (.bl (decide (x = y))) H
noncomputable def rNe : R2 := fun x y H Q => scal x y = true ∧ Q (.bl (!decide (x = y))) H

theorem dec_int {i j : Int} : decide (V.int i = V.int j) = (i == j) := by
  rw [Bool.eq_iff_iff]
  simp
theorem dec_bl {i j : Bool} : decide (V.bl i = V.bl j) = (i == j) := by
  rw [Bool.eq_iff_iff]
  simp
theorem dec_str {i j : Str} : decide (V.str i = V.str j) = (i == j) := by
  rw [Bool.eq_iff_iff]
  simp
theorem dec_byt {i j : Array UInt8} : decide (V.byt i = V.byt j) = (i.toList == j.toList) := by
  rw [Bool.eq_iff_iff]
  cases i
  cases j
  simp

section
variable {X : Cx} {a b c : Expr} {ta tb tc : TE} {pos : Pos}
theorem fin_bl {pins : List (Addr × Obj)} {σ : St} {H : Hp} {s : Shared} {Q : VK} {k k' : Bool} (I : Inv X pins σ H s) (q : Q (.bl k) H) (e : k = k') : EP X pins σ Q (.bool k') s := by
  subst e
  exact ⟨.bl k, H, I, rfl, q⟩
theorem op_eq : OpR X (compareOp .Eq) rEq := by
  intro pins s σ H x y v u Q I rx ry h
  obtain ⟨hs, q⟩ := h
  cases x with
  | non =>
    cases rx
    cases y with
    | non => cases ry; exact PySem.EqNone.eq_none_none (fin_bl I q (by simp))
    | bl j => cases ry; exact PySem.EqNone.eq_none_bool (fin_bl I q (by simp))
    | int j => obtain ⟨t', rfl⟩ := ry; exact PySem.EqNone.eq_none_int (fin_bl I q (by simp))
    | str j => obtain ⟨t', rfl⟩ := ry; exact PySem.EqNone.eq_none_str (fin_bl I q (by simp))
    | _ => exact absurd (show false = true from hs) Bool.false_ne_true
  | bl i =>
    cases rx
    cases y with
    | non => cases ry; exact PySem.EqNone.eq_bool_none (fin_bl I q (by simp))
    | bl j => cases ry; exact eq_bool (fin_bl I q dec_bl)
    | str j => obtain ⟨t', rfl⟩ := ry; exact PySem.EqMixed.eq_bool_str (fin_bl I q (by simp))
    | _ => exact absurd (show false = true from hs) Bool.false_ne_true
  | int i =>
    obtain ⟨t, rfl⟩ := rx
    cases y with
    | non => cases ry; exact PySem.EqNone.eq_int_none (fin_bl I q (by simp))
    | int j => obtain ⟨t', rfl⟩ := ry; exact eq_int (fin_bl I q dec_int)
    | str j => obtain ⟨t', rfl⟩ := ry; exact PySem.EqMixed.eq_int_str (fin_bl I q (by simp))
    | _ => exact absurd (show false = true from hs) Bool.false_ne_true
  | str i =>
    obtain ⟨t, rfl⟩ := rx
    cases y with
    | non => cases ry; exact PySem.EqNone.eq_str_none (fin_bl I q (by simp))
    | bl j => cases ry; exact PySem.EqMixed.eq_str_bool (fin_bl I q (by simp))
    | int j => obtain ⟨t', rfl⟩ := ry; exact PySem.EqMixed.eq_str_int (fin_bl I q (by simp))
    | str j => obtain ⟨t', rfl⟩ := ry; exact eq_str (fin_bl I q dec_str)
    | _ => exact absurd (show false = true from hs) Bool.false_ne_true
  | byt i =>
    obtain ⟨t, rfl⟩ := rx
    cases y with
    | byt j => obtain ⟨t', rfl⟩ := ry; exact PySem.W.eq_bytes (fin_bl I q dec_byt)
    | _ => exact absurd (show false = true from hs) Bool.false_ne_true
  | _ => cases y <;> exact absurd (show false = true from hs) Bool.false_ne_true
theorem op_ne : OpR X (compareOp .NotEq) rNe := by
  intro pins s σ H x y v u Q I rx ry h
  obtain ⟨hs, q⟩ := h
  cases x with
  | non =>
    cases rx
    cases y with
    | non => cases ry; exact PySem.EqNone.ne_none_none (fin_bl I q (by simp))
    | bl j => cases ry; exact PySem.EqNone.ne_none_bool (fin_bl I q (by simp))
    | int j => obtain ⟨t', rfl⟩ := ry; exact PySem.EqNone.ne_none_int (fin_bl I q (by simp))
    | str j => obtain ⟨t', rfl⟩ := ry; exact PySem.EqNone.ne_none_str (fin_bl I q (by simp))
    | _ => exact absurd (show false = true from hs) Bool.false_ne_true
  | bl i =>
    cases rx
    cases y with
    | non => cases ry; exact PySem.EqNone.ne_bool_none (fin_bl I q (by simp))
    | bl j => cases ry; exact ne_bool (fin_bl I q (congrArg not dec_bl))
    | str j => obtain ⟨t', rfl⟩ := ry; exact PySem.EqMixed.ne_bool_str (fin_bl I q (by simp))
    | _ => exact absurd (show false = true from hs) Bool.false_ne_true
  | int i =>
    obtain ⟨t, rfl⟩ := rx
    cases y with
    | non => cases ry; exact PySem.EqNone.ne_int_none (fin_bl I q (by simp))
    | int j => obtain ⟨t', rfl⟩ := ry; exact ne_int (fin_bl I q (congrArg not dec_int))
    | str j => obtain ⟨t', rfl⟩ := ry; exact PySem.EqMixed.ne_int_str (fin_bl I q (by simp))
    | _ => exact absurd (show false = true from hs) Bool.false_ne_true
  | str i =>
    obtain ⟨t, rfl⟩ := rx
    cases y with
    | non => cases ry; exact PySem.EqNone.ne_str_none (fin_bl I q (by simp))
    | bl j => cases ry; exact PySem.EqMixed.ne_str_bool (fin_bl I q (by simp))
    | int j => obtain ⟨t', rfl⟩ := ry; exact PySem.EqMixed.ne_str_int (fin_bl I q (by simp))
    | str j => obtain ⟨t', rfl⟩ := ry; exact ne_str (fin_bl I q (congrArg not dec_str))
    | _ => exact absurd (show false = true from hs) Bool.false_ne_true
  | byt i =>
    obtain ⟨t, rfl⟩ := rx
    cases y with
    | byt j => obtain ⟨t', rfl⟩ := ry; exact PySem.W.ne_bytes (fin_bl I q (congrArg not dec_byt))
    | _ => exact absurd (show false = true from hs) Bool.false_ne_true
  | _ => cases y <;> exact absurd (show false = true from hs) Bool.false_ne_true

theorem op_lt : OpR X (compareOp .Lt) (rI0 fun i j => .bl (decide (i < j))) := opB0 fun _ _ _ _ _ _ _ q => lt_int q
theorem op_le : OpR X (compareOp .LtE) (rI0 fun i j => .bl (decide (i ≤ j))) := opB0 fun _ _ _ _ _ _ _ q => le_int q
theorem op_gt : OpR X (compareOp .Gt) (rI0 fun i j => .bl (decide (j < i))) := opB0 fun _ _ _ _ _ _ _ q => gt_int q
theorem op_ge : OpR X (compareOp .GtE) (rI0 fun i j => .bl (decide (j ≤ i))) := opB0 fun _ _ _ _ _ _ _ q => ge_int q




theorem nomark (b : Expr) {op : CmpOp} (h : op ≠ .In := by decide) (h2 : op ≠ .NotIn := by decide) : behindInMarks op b = false := by
  have e1 : (op == CmpOp.In) = false := by cases op <;> first | rfl | exact absurd rfl h
  have e2 : (op == CmpOp.NotIn) = false := by cases op <;> first | rfl | exact absurd rfl h2
  cases b <;> simp [behindInMarks, e1, e2]
theorem pe_cmpR {op : CmpOp} {r : R2} (ho : OpR X (compareOp op) r) (ha : PE X a ta) (hb : PE X b tb) (hm : behindInMarks op b = false) : PE X (.Compare a [op] [b] pos) (tOp r ta tb) := by
  intro pins s σ H Q I h
  exact wpAny_Compare1 (binT ha hb I h fun v u s2 x y H2 I2 rx ry q => ho pins s2 σ H2 x y v u Q I2 rx ry q) hm
noncomputable def tTest (t : TE) : TT := fun σ H Q => t σ H fun x H' => ∃ k, x = .bl k ∧ Q k H'
theorem pt_cmpR {op : CmpOp} {r : R2} (ho : OpR X (compareOp op) r) (ha : PE X a ta) (hb : PE X b tb) (hm : behindInMarks op b = false) : PT X (.Compare a [op] [b] pos) (tTest (tOp r ta tb)) := by
  intro pins s σ H Q I h
  refine wpAny_isTrue_Compare1 (thn (ha pins s σ H _ I h) fun v s1 ⟨x, H1, I1, r1, q1⟩ => thn (hb pins s1 σ H1 _ I1 q1) fun u s2 ⟨y, H2, I2, r2, q2⟩ =>
    thn (ho pins s2 σ H2 x y v u _ I2 r1 r2 q2) fun c s3 ⟨z, H3, I3, r3, k, e, q3⟩ => ?_) hm
  subst e
  cases r3
  exact wpAny_truthy_bool ⟨H3, I3, q3⟩

theorem line63 : (sizeLine : Nat) < 2 ^ 63 := by rw [sizeLine_eq]; decide



theorem vals1 {x : V} {us : List Value} (r : Vals [x] us) : ∃ u, us = [u] ∧ RelV x u := by
  cases r with
  | cons r1 r2 => cases r2; exact ⟨_, rfl, r1⟩
theorem vals2 {x y : V} {us : List Value} (r : Vals [x, y] us) : ∃ u w', us = [u, w'] ∧ RelV x u ∧ RelV y w' := by
  cases r with
  | cons r1 r2 =>
    cases r2 with
    | cons r3 r4 => cases r4; exact ⟨_, _, rfl, r1, r3⟩
theorem call_abs : CallR X (.builtin "abs") (fun xs H Q => ∃ i, xs = [.int i] ∧ Q (.int (if i < 0 then -i else i)) H) := by
  intro pins s σ H xs us Q I r h
  obtain ⟨i, rfl, q⟩ := h
  obtain ⟨u, rfl, t, rfl⟩ := vals1 r
  exact call_abs_int fun u tk => ⟨.int (if i < 0 then -i else i), H, I.tok _, ⟨_, rfl⟩, q⟩
theorem call_max2 (hc : X.calm = true) : CallR X (.builtin "max") (fun xs H Q => ∃ i j, xs = [.int i, .int j] ∧ Q (.int (if j > i then j else i)) H) := by
  intro pins s σ H xs us Q I r h
  obtain ⟨i, j, rfl, q⟩ := h
  obtain ⟨u, w', rfl, ⟨t, rfl⟩, ⟨t', rfl⟩⟩ := vals2 r
  refine max_two_ints (I.ok.hd hc) fun h' tk k => ⟨_, H, I.kept k, ?_, q⟩
  by_cases hj : j > i
  · rw [if_pos hj, if_pos hj]; exact ⟨_, rfl⟩
  · rw [if_neg hj, if_neg hj]; exact ⟨_, rfl⟩
theorem call_min2 (hc : X.calm = true) : CallR X (.builtin "min") (fun xs H Q => ∃ i j, xs = [.int i, .int j] ∧ Q (.int (if j < i then j else i)) H) := by
  intro pins s σ H xs us Q I r h
  obtain ⟨i, j, rfl, q⟩ := h
  obtain ⟨u, w', rfl, ⟨t, rfl⟩, ⟨t', rfl⟩⟩ := vals2 r
  refine min_two_ints (I.ok.hd hc) fun h' tk k => ⟨_, H, I.kept k, ?_, q⟩
  by_cases hj : j < i
  · rw [if_pos hj, if_pos hj]; exact ⟨_, rfl⟩
  · rw [if_neg hj, if_neg hj]; exact ⟨_, rfl⟩
end
end L2

namespace L2
open PySem PySem.Spec PyProof.Rows

structure ObjM (h : Heap) (x dx C : Addr) (mA : Str → Option Value) : Prop where
  obj : h.get? x = some (PySem.W.instObj C dx)
  ns : h.Ns1 dx mA
  ne : dx ≠ x

theorem lookIn_ns {h : Heap} {dx : Addr} {mA : Str → Option Value} (n : h.Ns1 dx mA) : ∃ od, h.get? dx = some od ∧ ∀ name, PySem.W.lookIn name od = some (mA name) := by
  obtain ⟨o, es, ep, ho, hd, hk, _, hm⟩ := n
  refine ⟨o, ho, fun name => ?_⟩
  have e := hm name
  unfold nsFind findBy at e
  rw [← Array.find?_toList] at e
  unfold PySem.W.lookIn
  rw [hd]
  dsimp only
  split
  · rename_i y q
    rw [q] at e
    exact congrArg some e
  · rename_i q
    rw [q] at e
    have a : es.toList.any (·.refKey) = false := by
      rw [List.any_eq_false]
      intro y hy
      obtain ⟨z, t, hkey⟩ := hk y (Array.mem_toList_iff.mp hy)
      simp [DictEntry.refKey, hkey]
    have a' : ¬ es.toList.any (·.refKey) = true := by rw [a]; exact Bool.false_ne_true
    rw [if_neg a']
    exact congrArg some e

theorem ObjM.look {h : Heap} {x dx C : Addr} {mA : Str → Option Value} (I : ObjM h x dx C mA) : ∃ od, PySem.W.InstAt h x (PySem.W.instObj C dx) C (some od) ∧ ∀ name, PySem.W.lookIn name od = some (mA name) :=
  let ⟨od, ho, hl⟩ := lookIn_ns I.ns
  ⟨od, ⟨I.obj, rfl, rfl, ho⟩, hl⟩

section
variable {prog : Program} {w : World} {A : Around} {E : Value → Shared → Prop} {s : Shared} {K : PySem.W.Frag} {x dx C f : Addr} {mA : Str → Option Value} {name : Str} {v : Value}

theorem get_map {expr : Bool} {Q : Value → Shared → Prop} (X : K.In s.heap) (I : ObjM s.heap x dx C mA) (hg : PySem.W.plainGet K C name = true) (hh : PySem.W.hasDictIn K C = true)
    (ha : PySem.W.findIn K (.ref C) name = some none) (hv : mA name = some v) (hv' : PySem.W.handedIn v = true) (h : Q v { s with toks := s.toks + 1 }) :
    wpAny (model prog w) A (getAttr (.ref x) name expr) Q E s := by
  obtain ⟨od, J, hl⟩ := I.look
  exact PySem.W.get_value X J (PySem.W.plainGet_of hg).1 (PySem.W.findObj_own hh ha rfl (by rw [hl, hv])) hv' h


theorem get_meth {pl : Sem Bool} {Q : Value × List Value → Shared → Prop} (X : K.In s.heap) (I : ObjM s.heap x dx C mA) (hg : PySem.W.plainGet K C name = true)
    (hf : PySem.W.findIn K (.ref C) name = some (some (.ref f))) (ht : PySem.W.isFn K (.ref f) = true) (hv : mA name = none) (h : Q (.ref f, [.ref x]) s) :
    wpAny (model prog w) A (getMethod (.ref x) name pl) Q E s := by
  obtain ⟨od, J, hl⟩ := I.look
  exact PySem.W.method_fn X J (PySem.W.plainGet_of hg).1 (PySem.W.plainGet_of hg).2 hf (beq_iff_eq.mp ht) (by show (PySem.W.lookIn name od).map (·.isSome) = some false; rw [hl, hv]; rfl) h

theorem set_map {ns : List Str} {Q : Unit → Shared → Prop} (X : K.In s.heap) (I : ObjM s.heap x dx C mA)
    (hs : PySem.W.findIn K (.ref C) "__setattr__" = some (some (.builtin "object.__setattr__"))) (hp : PySem.W.plainOver K C = true) (ht : PySem.W.takerIn K C name = some none) (hh : PySem.W.hasDictIn K C = true)
    (hw : PySem.Within mA ns) (hsz : ns.length ≤ sizeLine)
    (h : ∀ h', ObjM h' x dx C (fun y => if y = name then some v else mA y) → Heap.SameBut dx s.heap h' → Q () { s with heap := h', toks := s.toks + 2 }) :
    wpAny (model prog w) A (setAttr (.ref x) name v) Q E s := by
  obtain ⟨od, J, hl⟩ := I.look
  refine PySem.W.set_plain X J hs (PySem.W.osa_open (s := { s with toks := s.toks + 1 }) (r := none) X J hp ht fun b => ?_)
  obtain ⟨cd, hc, hd'⟩ := PySem.W.any_some hh
  have hx : s.heap.get? x = some ⟨.ref C, some dx, .plain, #[]⟩ := I.obj
  refine wpAny_bind (wpAny_pure (wpAny_bind (wpAny_bind (wpAny_loadPart hx (wpAny_bind (PySem.W.Looks.here (s := { s with toks := s.toks + 1 }) (PySem.W.looks_clsIn X hc) ?_))))))
  rw [hd']
  refine wpAny_pure (a := some dx) (wpAny_bind (wpAny_pure (wpAny_bind ?_)))
  refine wpAny_nsSet1 (s := { s with toks := s.toks + 1 }) I.ns fun h' hn2 hs2 => ?_
  obtain ⟨oD, esD, epD, hoD, hdD, hcD⟩ := hn2.count (PySem.Within.cons name v hw)
  refine wpAny_bind (wpAny_lookBehind hoD (by rw [hdD]; exact pastItsLine_dict (Nat.le_trans hcD (by rw [List.length_cons]; (first | lia | omega)))) ?_)
  exact wpAny_pure (h _ ⟨(hs2.2 _ (Ne.symm I.ne)).trans I.obj, hn2, I.ne⟩ hs2)

theorem make_map {R : Result → Shared → Prop} {vs : List Value} {kw : List (Str × Value)} (X : K.In s.heap) (hm : PySem.W.makesIn K C = true)
    (hi : PySem.W.findIn K (.ref C) "__init__" = some (some (.ref f))) (hf : PySem.W.typeIn K (.ref f) = some (.type "function"))
    (h : codeAny (model prog w) (A.under (.builtin "type.__call__" ⟨.ref C :: vs, kw⟩)) (.call (.ref f) ⟨.ref (s.heap.objs.size + 1) :: vs, kw⟩) (PySem.W.InitBack (s.heap.objs.size + 1) R)
      { s with heap := (s.heap.push PySem.W.emptyDict).push (PySem.W.instObj C s.heap.objs.size) }) :
    codeAny (model prog w) A (.call (.ref C) ⟨vs, kw⟩) R s := by
  obtain ⟨hh, g, d, t, os⟩ := s
  exact PySem.W.make_core (PySem.W.makes_of X hm) (PySem.W.looks_findIn X hi) (fun self => PySem.W.bind_fn X self hf) (.inl rfl) h
end

noncomputable def putF (f : Str) (v : V) : List (Str × V) → List (Str × V)
  | [] => [(f, v)]
  | (g, x) :: r => if g = f then (g, v) :: r else (g, x) :: putF f v r
theorem lookup_putF (f g : Str) (v : V) : ∀ fs : List (Str × V), (putF f v fs).lookup g = if g = f then some v else fs.lookup g
  | [] => by
    show List.lookup g [(f, v)] = _
    by_cases h : g = f
    · have hb : (g == f) = true := beq_iff_eq.mpr h
      simp only [List.lookup, hb, if_pos h]
    · have hb : (g == f) = false := beq_eq_false_iff_ne.mpr h
      simp only [List.lookup, hb, if_neg h]
  | (k, x) :: r => by
    have ih := lookup_putF f g v r
    rw [show putF f v ((k, x) :: r) = (if k = f then (k, v) :: r else (k, x) :: putF f v r) from rfl]
    by_cases hk : k = f
    · rw [if_pos hk]
      by_cases h : g = k
      · have hb : (g == k) = true := beq_iff_eq.mpr h
        simp only [List.lookup, hb, if_pos (h.trans hk)]
      · have hb : (g == k) = false := beq_eq_false_iff_ne.mpr h
        simp only [List.lookup, hb, if_neg (fun e : g = f => h (e.trans hk.symm))]
    · rw [if_neg hk]
      by_cases h : g = k
      · have hb : (g == k) = true := beq_iff_eq.mpr h
        simp only [List.lookup, hb, if_neg (fun e : g = f => hk (h.symm.trans e))]
      · have hb : (g == k) = false := beq_eq_false_iff_ne.mpr h
        simp only [List.lookup, hb]
        exact ih
theorem keys_putF (f : Str) (v : V) : ∀ fs : List (Str × V), f ∈ (putF f v fs).map (·.1) ∧ ∀ g, g ∈ fs.map (·.1) → g ∈ (putF f v fs).map (·.1)
  | [] => ⟨by simp [putF], fun g h => by simp at h⟩
  | (k, x) :: r => by
    obtain ⟨i1, i2⟩ := keys_putF f v r
    rw [show putF f v ((k, x) :: r) = (if k = f then (k, v) :: r else (k, x) :: putF f v r) from rfl]
    by_cases hk : k = f
    · rw [if_pos hk]
      subst hk
      exact ⟨by simp, fun g h => by simpa using h⟩
    · rw [if_neg hk]
      refine ⟨?_, fun g h => ?_⟩
      · rw [List.map_cons]
        exact List.mem_cons_of_mem _ i1
      · rw [List.map_cons] at h ⊢
        rcases List.mem_cons.mp h with e | e
        · exact List.mem_cons.mpr (.inl e)
        · exact List.mem_cons_of_mem _ (i2 g e)
theorem length_putF (f : Str) (v : V) : ∀ fs : List (Str × V), (putF f v fs).length ≤ fs.length + 1
  | [] => by simp [putF]
  | (k, x) :: r => by
    have ih := length_putF f v r
    rw [show putF f v ((k, x) :: r) = (if k = f then (k, v) :: r else (k, x) :: putF f v r) from rfl]
    by_cases hk : k = f
    · rw [if_pos hk, List.length_cons, List.length_cons]; (first | lia | omega)
    · rw [if_neg hk, List.length_cons, List.length_cons]; (first | lia | omega)

theorem RelO.some_of {v : V} {o : Option Value} (r : RelO (some v) o) : ∃ u, o = some u ∧ RelV v u := by
  cases o with
  | none => exact (show False from r).elim
  | some u => exact ⟨u, rfl, r⟩
theorem RelO.none_of {o : Option Value} (r : RelO none o) : o = none := by
  cases o with
  | none => rfl
  | some u => exact (show False from r).elim
theorem handed_of {v : V} {u : Value} (r : RelV v u) : PySem.W.handedIn u = true := by
  cases v with
  | non => cases (show u = Value.none from r); rfl
  | bl b => cases (show u = Value.bool b from r); rfl
  | int i => obtain ⟨t, e⟩ := (show ∃ t, u = Value.int i t from r); cases e; rfl
  | str x => obtain ⟨t, e⟩ := (show ∃ t, u = Value.str x t from r); cases e; rfl
  | byt b => obtain ⟨t, e⟩ := (show ∃ t, u = Value.bytes b t from r); cases e; rfl
  | flt b => obtain ⟨t, e⟩ := (show ∃ t, u = Value.float b t from r); cases e; rfl
  | ref a => cases (show u = Value.ref a from r); rfl
  | ty n => cases (show u = Value.type n from r); rfl

section
variable {P : Program} {w : World} {H H' : Hp} {h h' : Heap} {a C dx : Addr} {fs fs' : List (Str × V)}
theorem ins_get (hok : HOk P w H h) (e : H a = some (.ins C dx fs)) : ∃ mA, ObjM h a dx C mA ∧ (∀ f, RelO (fs.lookup f) (mA f)) ∧ PySem.Within mA (fs.map (·.1)) ∧ fs.length ≤ 1000 ∧ H dx = some (.own a) := by
  obtain ⟨d, z, ne, ob, mA, n, r, q⟩ := (show ObjOk P w H h a (.ins C dx fs) from hok a _ e)
  exact ⟨mA, ⟨ob, n, ne⟩, r, q, z, d⟩
end

structure Cls (K : PySem.W.Frag) (C : Addr) : Prop where
  pg : PySem.W.plainGet K C Str.empty = true
  hd : PySem.W.hasDictIn K C = true
  po : PySem.W.plainOver K C = true
  sa : PySem.W.findIn K (.ref C) "__setattr__" = some (some (.builtin "object.__setattr__"))
theorem Cls.get {K : PySem.W.Frag} {C : Addr} (c : Cls K C) (f : Str) : PySem.W.plainGet K C f = true := c.pg
noncomputable def NoAttr (K : PySem.W.Frag) (C : Addr) (f : Str) : Prop := PySem.W.findIn K (.ref C) f = some none
theorem NoAttr.taker {K : PySem.W.Frag} {C : Addr} {f : Str} (n : NoAttr K C f) : PySem.W.takerIn K C f = some none := by
  unfold PySem.W.takerIn
  rw [show PySem.W.findIn K (.ref C) f = some none from n]
  rfl
structure Meth (K : PySem.W.Frag) (C : Addr) (m : Str) (f : Addr) : Prop where
  at_ : PySem.W.findIn K (.ref C) m = some (some (.ref f))
  fn : PySem.W.isFn K (.ref f) = true
  kp : PySem.W.keepIn K (.ref f) = true

section
variable {X : Cx} {pins : List (Addr × Obj)} {σ : St} {H : Hp} {s : Shared} {a C dx : Addr} {fs : List (Str × V)} {f : Str} {v : V} {A : Around} {E : Value → Shared → Prop}

theorem getattr_ok {b : Bool} {Q : Value → Shared → Prop} (I : Inv X pins σ H s) (e : H a = some (.ins C dx fs)) (c : Cls X.K C) (n : NoAttr X.K C f) (l : fs.lookup f = some v)
    (h : ∀ u s', Inv X pins σ H s' → RelV v u → Q u s') : wpAny (model X.prog X.w) A (getAttr (.ref a) f b) Q E s := by
  obtain ⟨mA, O, r, _, _, _⟩ := ins_get I.hok e
  obtain ⟨u, hu, ru⟩ := RelO.some_of (v := v) (o := mA f) (by rw [← l]; exact r f)
  exact get_map I.kIn O (c.get f) c.hd n hu (handed_of ru) (h u _ (I.tok _) ru)


theorem getmeth_ok {m : Str} {g : Addr} {pl : Sem Bool} {Q : Value × List Value → Shared → Prop} (I : Inv X pins σ H s) (e : H a = some (.ins C dx fs)) (c : Cls X.K C) (k : Meth X.K C m g) (l : fs.lookup m = none)
    (h : Q (.ref g, [.ref a]) s) : wpAny (model X.prog X.w) A (getMethod (.ref a) m pl) Q E s := by
  obtain ⟨mA, O, r, _, _, _⟩ := ins_get I.hok e
  have hn : mA m = none := RelO.none_of (by rw [← l]; exact r m)
  exact get_meth I.kIn O (c.get m) k.at_ k.fn hn h

theorem setattr_ok {y : V} {u : Value} {Q : Unit → Shared → Prop} (I : Inv X pins σ H s) (e : H a = some (.ins C dx fs)) (c : Cls X.K C) (n : NoAttr X.K C f) (hl : fs.length < 1000) (ry : RelV y u)
    (h : ∀ s', Inv X pins σ (upd H a (.ins C dx (putF f y fs))) s' → Q () s') : wpAny (model X.prog X.w) A (setAttr (.ref a) f u) Q E s := by
  obtain ⟨mA, O, r, wi, _, ho⟩ := ins_get I.hok e
  have hz : (fs.map (·.1)).length ≤ sizeLine := by rw [List.length_map, sizeLine_eq]; (first | lia | omega)
  refine set_map I.kIn O c.sa c.po n.taker c.hd wi hz fun h' O' sb => h _ ?_
  have hd : ∃ o, h'.get? dx = some o := let ⟨o, _, _, e', _⟩ := O'.ns; ⟨o, e'⟩
  refine I.write (x := a) (e := dx) (by rw [e]; exact True.intro) (.inr ho) (fun b q hb z => (sb.2 b hb).trans z) hd ?_
  refine ⟨by rw [upd_ne O.ne]; exact ho, ?_, O.ne, O'.obj, _, O'.ns, fun g => ?_, fun g hg => ?_⟩
  · have := length_putF f y fs; (first | lia | omega)
  · show RelO ((putF f y fs).lookup g) (if g = f then some u else mA g)
    rw [lookup_putF]
    by_cases q : g = f
    · rw [if_pos q, if_pos q]; exact ry
    · rw [if_neg q, if_neg q]; exact r g
  · by_cases q : g = f
    · rw [q]; exact (keys_putF f y fs).1
    · refine (keys_putF f y fs).2 g (wi g fun z => hg ?_)
      show (if g = f then some u else mA g) = none
      rw [if_neg q]; exact z

theorem Inv.made (I : Inv X pins σ H s) : Inv X pins σ (upd (upd H s.heap.objs.size (.own (s.heap.objs.size + 1))) (s.heap.objs.size + 1) (.ins C s.heap.objs.size []))
    { s with heap := (s.heap.push PySem.W.emptyDict).push (PySem.W.instObj C s.heap.objs.size) } := by
  have e1 : (s.heap.push PySem.W.emptyDict).get? s.heap.objs.size = some PySem.W.emptyDict := Heap.get?_push_size s.heap rfl
  have e2 : ((s.heap.push PySem.W.emptyDict).push (PySem.W.instObj C s.heap.objs.size)).get? (s.heap.objs.size + 1) = some (PySem.W.instObj C s.heap.objs.size) := by
    have := Heap.get?_push_size (s.heap.push PySem.W.emptyDict) (o := PySem.W.instObj C s.heap.objs.size) rfl
    rwa [Heap.size_push] at this
  have e3 : (s.heap.push PySem.W.emptyDict).Ns s.heap.objs.size (fun _ => none) := ⟨PySem.W.emptyDict, #[], _, e1, rfl, (fun e he => absurd he (by simp)), fun _ => rfl⟩
  have I1 := I.laid (a := s.heap.objs.size) (o := .own (s.heap.objs.size + 1)) (h' := s.heap.push PySem.W.emptyDict) (t' := s.toks) (fun b u q => Heap.get?_push_of_some _ q) (Nat.le_refl _) ⟨_, e1⟩
  refine I1.laid (a := s.heap.objs.size + 1) (o := .ins C s.heap.objs.size []) (t' := s.toks) (fun b u q => Heap.get?_push_of_some _ q) (Nat.le_of_eq (Heap.size_push _ _)) ?_
  have ne : s.heap.objs.size ≠ s.heap.objs.size + 1 := Nat.ne_of_lt (Nat.lt_succ_self _)
  refine ⟨by rw [upd_ne ne, upd_same], Nat.zero_le _, ne, e2, fun _ => none, (Heap.Ns1.of_empty e3).at fun o q => Heap.get?_push_of_some _ q, fun _ => True.intro, fun y hy => absurd rfl hy⟩

theorem attr_of {prog : Program} {w : World} {env : Env} {e : Expr} {f : Str} {pos : Pos} {s : Shared} {Q : Value → Shared → Prop} (hb : attributeBase e f env (eval e env) = eval e env)
    (h : wpAny (model prog w) A (eval e env) (fun o s₁ => wpAny (model prog w) A (getAttr o f true) Q E s₁) E s) : wpAny (model prog w) A (eval (.Attribute e f pos) env) Q E s :=
  Attribute_any_ h (by rw [arm_eval_Attribute, hb])
end

noncomputable def tFld (K : PySem.W.Frag) (ta : TE) (f : Str) : TE := fun σ H Q => ta σ H fun x H1 => ∃ a C dx fs v, x = .ref a ∧ H1 a = some (.ins C dx fs) ∧ Cls K C ∧ NoAttr K C f ∧ fs.lookup f = some v ∧ Q v H1
noncomputable def sFld (K : PySem.W.Frag) (ta tv : TE) (f : Str) : TS := fun D σ H => tv σ H fun y H1 => ta σ H1 fun x H2 => ∃ a C dx fs, x = .ref a ∧ H2 a = some (.ins C dx fs) ∧ Cls K C ∧ NoAttr K C f ∧ fs.length < 1000 ∧
  D.nx σ (upd H2 a (.ins C dx (putF f y fs)))

section
variable {X : Cx} {o e value : Expr} {f : Str} {pos pos' tpos : Pos} {ta tv : TE}
theorem pe_fld (he : PE X e ta) (hb : attributeBase e f X.env (eval e X.env) = eval e X.env) : PE X (.Attribute e f pos) (tFld X.K ta f) := by
  intro pins s σ H Q I h
  refine attr_of hb (thn (he pins s σ H _ I h) fun u s1 ⟨x, H1, I1, rx, a, C, dx, fs, v, ex, ea, c, n, l, q⟩ => ?_)
  subst ex
  obtain rfl : u = Value.ref a := rx
  exact getattr_ok I1 ea c n l fun u' s2 I2 ru => ⟨v, H1, I2, ru, q⟩
theorem ps_fld (ha : PE X o ta) (hv : PE X value tv) (hs : swapsWith value (some (.Attribute o f pos')) pos.line X.env = pure false) : PS X (.Assign [.Attribute o f pos'] value pos) (sFld X.K ta tv f) := by
  intro pins s σ H D I h
  refine plainObj_wpAny_Assign_Attribute (thn (hv pins s σ H _ I h) fun u s1 ⟨y, H1, I1, ry, q⟩ => thn (ha pins s1 σ H1 _ I1 q) fun ov s2 ⟨x, H2, I2, rx, a, C, dx, fs, ex, ea, c, n, l, q2⟩ => ?_) hs
  subst ex
  obtain rfl : ov = Value.ref a := rx
  exact setattr_ok I2 ea c n l ry fun s3 I3 => ⟨σ, _, I3, q2⟩

end

section
variable {X : Cx} {pins : List (Addr × Obj)} {σ : St} {H : Hp} {s : Shared} {A : Around} {E : Value → Shared → Prop} {Q : Value → Shared → Prop} {c : Value} {b : Bool}
inductive TyOf (K : PySem.W.Frag) (H : Hp) : V → Value → Prop where
  | non : TyOf K H .non (.type "NoneType")
  | bl (x : Bool) : TyOf K H (.bl x) (.type "bool")
  | int (i : Int) : TyOf K H (.int i) (.type "int")
  | str (x : Str) : TyOf K H (.str x) (.type "str")
  | flt (x : UInt64) : TyOf K H (.flt x) (.type "float")
  | lst {a : Addr} {xs : List V} (e : H a = some (.lst xs)) : TyOf K H (.ref a) (.type "list")
  | frz {a : Addr} {o : Obj} {xs : List V} (e : H a = some (.frz o (.lst xs))) : TyOf K H (.ref a) (.type "list")
  | tup {a : Addr} {xs : List V} (e : H a = some (.tup xs)) : TyOf K H (.ref a) (.type "tuple")
  | dK {a : Addr} {kvs : List (Key × V)} (e : H a = some (.dK kvs)) : TyOf K H (.ref a) (.type "dict")
  | dT {a : Addr} {kvs : List (List Key × V)} (e : H a = some (.dT kvs)) : TyOf K H (.ref a) (.type "dict")
  | ins {a C dx : Addr} {fs : List (Str × V)} (e : H a = some (.ins C dx fs)) (cl : Cls K C) (ha : PySem.W.findIn K (.ref C) "__class__" = some (some (.builtin "object.__class__")))
      (hn : PySem.W.specialIn K (.builtin "object.__class__") "__get__" = some (some (.builtin "getset_descriptor.__get__"))) (htk : PySem.W.takesIn K (.builtin "object.__class__") = some true)
      (hm : PySem.W.mroIn K C (.type "object") = some true) : TyOf K H (.ref a) (.ref C)
theorem isinst_ok {x : V} {u t : Value} (I : Inv X pins σ H s) (rx : RelV x u) (ty : TyOf X.K H x t) (e : PySem.W.kitOne X.K t c = some b) (h : ∀ tk, Q (.bool b) { s with toks := tk }) :
    wpAny (model X.prog X.w) A (call (.builtin "isinstance") [u, c]) Q E s := by
  cases ty with
  | non => cases (show u = Value.none from rx); exact PySem.W.kia_one PySem.W.kitx_none I.kIn True.intro e (fun z => nomatch z) h
  | bl y => cases (show u = Value.bool y from rx); exact PySem.W.kia_one PySem.W.kitx_bool I.kIn True.intro e (fun z => nomatch z) h
  | int i => obtain ⟨t, q⟩ := (show ∃ t, u = Value.int i t from rx); cases q; exact PySem.W.kia_one PySem.W.kitx_int I.kIn True.intro e (fun z => nomatch z) h
  | str y => obtain ⟨t, q⟩ := (show ∃ t, u = Value.str y t from rx); cases q; exact PySem.W.kia_one PySem.W.kitx_str I.kIn True.intro e (fun z => nomatch z) h
  | flt y => obtain ⟨t, q⟩ := (show ∃ t, u = Value.float y t from rx); cases q; exact PySem.W.kia_one PySem.W.kitx_float I.kIn True.intro e (fun z => nomatch z) h
  | @lst a xs ea =>
    cases (show u = Value.ref a from rx)
    obtain ⟨_, _, n, _, h1⟩ := (show ObjOk X.prog X.w H s.heap a (.lst xs) from I.hok a _ ea)
    exact PySem.W.kia_one PySem.W.kitx_list I.kIn ⟨_, h1, rfl⟩ e (fun z => nomatch z) h
  | @frz a ob xs ea =>
    cases (show u = Value.ref a from rx)
    obtain ⟨_, _, _, n, _, h1⟩ := (show ObjOk X.prog X.w H s.heap a (.frz ob (.lst xs)) from I.hok a _ ea)
    exact PySem.W.kia_one PySem.W.kitx_list I.kIn ⟨_, h1, rfl⟩ e (fun z => nomatch z) h
  | @tup a xs ea =>
    cases (show u = Value.ref a from rx)
    obtain ⟨_, _, _, p⟩ := (show ObjOk X.prog X.w H s.heap a (.tup xs) from I.hok a _ ea)
    obtain ⟨o, h1, h2, _⟩ := p
    exact PySem.W.kia_one PySem.W.kitx_tuple I.kIn ⟨o, h1, h2⟩ e (fun z => nomatch z) h
  | @dK a kvs ea =>
    cases (show u = Value.ref a from rx)
    obtain ⟨_, _, vs, _, p⟩ := (show ObjOk X.prog X.w H s.heap a (.dK kvs) from I.hok a _ ea)
    obtain ⟨o, es, ep, h1, h2, _⟩ := p
    exact PySem.W.kia_one PySem.W.kitx_dict I.kIn ⟨o, h1, h2.1⟩ e (fun z => nomatch z) h
  | @dT a kvs ea =>
    cases (show u = Value.ref a from rx)
    obtain ⟨_, _, xs, _, o, es, ep, h1, h2, _⟩ := (show ObjOk X.prog X.w H s.heap a (.dT kvs) from I.hok a _ ea)
    exact PySem.W.kia_one PySem.W.kitx_dict I.kIn ⟨o, h1, h2.1⟩ e (fun z => nomatch z) h
  | @ins a C dx fs ea cl ha hn htk hm =>
    cases (show u = Value.ref a from rx)
    obtain ⟨mA, O, _⟩ := ins_get I.hok ea
    obtain ⟨od, J, _⟩ := O.look
    exact PySem.W.kia_one (PySem.W.kitx_own (cl.get _) cl.hd ha hn htk hm) I.kIn J e (fun z => nomatch z) h
end
end L2

namespace L2
open PySem PySem.Spec PyProof.Rows

structure Room (k : Nat) (A : Around) : Prop where
  hd : A.handled = none
  dp : A.depth + 3 * k + 5 < recursionLimit
  un : A.units + 16 * k + 200 < cLine
theorem Room.mono {j k : Nat} {A : Around} (r : Room k A) (h : j ≤ k) : Room j A := ⟨r.hd, by have := r.dp; (first | lia | omega), by have := r.un; (first | lia | omega)⟩
theorem Room.deeper {k : Nat} {A : Around} (r : Room (k + 1) A) (env : Env) : Room k (A.deeper env) :=
  ⟨r.hd, by have := r.dp; show A.depth + 1 + 3 * k + 5 < _; (first | lia | omega), by have := r.un; show A.units + 3 + 16 * k + 200 < _; (first | lia | omega)⟩
theorem make_depth {A : Around} {C : Addr} {us : List Value} {kw : List (Str × Value)} : (A.under (.builtin "type.__call__" ⟨.ref C :: us, kw⟩)).depth = A.depth + 1 := by
  first | rfl | simp [Around.under, Code.weight, Code.isCreation, Code.isGuard, Code.isCaller, Code.frames, Code.isFrame, guardIds]
theorem make_units {A : Around} {C : Addr} {us : List Value} {kw : List (Str × Value)} : (A.under (.builtin "type.__call__" ⟨.ref C :: us, kw⟩)).units = A.units + 1 := by
  first | rfl | simp [Around.under, Code.cUnits, Code.frames, Code.isFrame]
theorem Room.make {k : Nat} {A : Around} (r : Room (k + 1) A) (C : Addr) (us : List Value) (kw : List (Str × Value)) : Room k (A.under (.builtin "type.__call__" ⟨.ref C :: us, kw⟩)) :=
  ⟨r.hd, by have := r.dp; rw [make_depth]; (first | lia | omega), by have := r.un; rw [make_units]; (first | lia | omega)⟩
theorem Room.depth {k : Nat} {A : Around} (r : Room k A) : A.depth < recursionLimit := by have := r.dp; (first | lia | omega)
theorem Room.units {k : Nat} {A : Around} (r : Room k A) : A.units + 64 < cLine := by have := r.un; (first | lia | omega)

noncomputable def tNil : TA := fun _ H Q => Q [] H
noncomputable def tCons (ta : TE) (tr : TA) : TA := fun σ H Q => ta σ H fun x H1 => tr σ H1 fun xs H2 => Q (x :: xs) H2
section
variable {X : Cx} {e : Expr} {es : List Expr} {te : TE} {t : TA} {pos : Pos}
theorem pa_nil : PA X [] tNil := fun _ _ _ _ H Q I h => Calls.spliced_nil ⟨[], H, I, .nil, h⟩
theorem pa_cons (ha : PE X e te) (hr : PA X es t) (hs : starEach (e :: es) X.env = (false, eval e X.env) :: starEach es X.env := by rfl) : PA X (e :: es) (tCons te t) := by
  intro pos pins s σ H Q I h
  rw [hs]
  show wpAny _ _ (spliced ((false, eval e X.env) :: backTo pos (starEach es X.env))) _ _ s
  refine Calls.spliced_cons (thn (ha pins s σ H _ I h) fun u s1 ⟨x, H1, I1, r1, q1⟩ => ?_)
  exact thn (hr pos pins s1 σ H1 _ I1 q1) fun us s2 ⟨xs, H2, I2, r2, q2⟩ => ⟨x :: xs, H2, I2, .cons r1 r2, q2⟩

noncomputable def tTup (t : TA) : TE := fun σ H Q => t σ H fun xs H1 => xs.length ≤ sizeLine ∧ ∀ p, H1 p = none → Q (.ref p) (upd H1 p (.tup xs))
noncomputable def tLst (t : TA) : TE := fun σ H Q => t σ H fun xs H1 => xs.length ≤ sizeLine ∧ ∀ p, H1 p = none → Q (.ref p) (upd H1 p (.lst xs))
theorem pe_tup {x1} (h : PA X es t) : PE X (.Tuple es x1 pos) (tTup t) := by
  intro pins s σ H Q I hq
  refine wpAny_Tuple_spliced (thn (h pos pins s σ H _ I hq) fun us s1 ⟨xs, H1, I1, r, z, q⟩ => ⟨by rw [← r.length]; exact z, ?_⟩)
  have hf : H1 s1.heap.objs.size = none := I1.hok.fresh (Nat.le_refl _)
  refine ⟨.ref s1.heap.objs.size, upd H1 s1.heap.objs.size (.tup xs), I1.laid (t' := s1.toks) (fun b u e => Heap.get?_push_of_some _ e) (Nat.le_refl _) ?_, rfl, q _ hf⟩
  exact ⟨z, us, r, ⟨_, Heap.get?_push_size _ rfl, rfl, _, rfl⟩⟩
theorem pe_lst (h : PA X es t) : PE X (.List es pos) (tLst t) := by
  intro pins s σ H Q I hq
  refine wpAny_List_spliced (thn (h pos pins s σ H _ I hq) fun us s1 ⟨xs, H1, I1, r, z, q⟩ => ⟨by rw [← r.length]; exact z, ?_⟩)
  have hf : H1 s1.heap.objs.size = none := I1.hok.fresh (Nat.le_refl _)
  refine ⟨.ref s1.heap.objs.size, upd H1 s1.heap.objs.size (.lst xs), I1.laid (t' := s1.toks) (fun b u e => Heap.get?_push_of_some _ e) (Nat.le_refl _) ?_, rfl, q _ hf⟩
  exact ⟨z, us, 0, r, Heap.get?_push_size _ rfl⟩
end

noncomputable abbrev Sp := List V → Hp → VK → XK → Prop
noncomputable abbrev CXT := List Env → Hp → Shared → XK → Value → Shared → Prop

structure Env0 (P : Program) (w : World) (K : PySem.W.Frag) (mg : Str → Option Value) (base : Heap) (A : Around) (outer : List Env) (s : Shared) (H : Hp) : Prop where
  frames : A.frames = some outer
  mod : Mod K mg base
  bs : ∀ b o, base.get? b = some o → s.heap.get? b = some o ∧ H b = none
  bsz : base.objs.size ≤ s.heap.objs.size
  funs : s.heap.FunFrames base outer
  frf : ∀ b ∈ frs outer, H b = none
  hok : HOk P w H s.heap
  bare : AllBare s.gens
noncomputable def CE (outer : List Env) (P : Program) (w : World) (H : Hp) (s : Shared) (Q : VK) (u : Value) (s' : Shared) : Prop :=
  ∃ v H', s'.os = s.os ∧ AllBare s'.gens ∧ Un (frs outer) [] H H' s.heap s'.heap ∧ HOk P w H' s'.heap ∧ RelV v u ∧ Q v H'
noncomputable def CR (CX : CXT) (outer : List Env) (P : Program) (w : World) (H : Hp) (s : Shared) (Q : VK) (E : XK) (r : Result) (s' : Shared) : Prop :=
  match r with
  | .ok (.ret u) => CE outer P w H s Q u s'
  | .ok _ => False
  | .error e => CX outer H s E e s'
structure FnOk (P : Program) (w : World) (K : PySem.W.Frag) (mg : Str → Option Value) (base : Heap) (CX : CXT) (k : Nat) (f : Addr) (fd : FuncData) (ps : List Str) (sp : Sp) : Prop where
  len : ∀ vs H Q E, sp vs H Q E → vs.length = ps.length
  run : ∀ (A : Around) (outer : List Env) (s : Shared) (H : Hp) (args : Args) (us : List Value) (vs : List V) (Q : VK) (E : XK), Room k A → Env0 P w K mg base A outer s H → BindsTo s fd args (ps.zip us) → Vals vs us → sp vs H Q E →
    codeAny (model P w) A (.call (.ref f) args) (CR CX outer P w H s Q E) s
theorem FnOk.imp {P : Program} {w : World} {K : PySem.W.Frag} {mg : Str → Option Value} {base : Heap} {CX : CXT} {k : Nat} {f : Addr} {fd : FuncData} {ps : List Str} {sp sp' : Sp} (F : FnOk P w K mg base CX k f fd ps sp)
    (h : ∀ vs H Q E, sp' vs H Q E → sp vs H Q E) : FnOk P w K mg base CX k f fd ps sp' :=
  ⟨fun vs H Q E q => F.len vs H Q E (h _ _ _ _ q), fun A outer s H args us vs Q E hr he hb hv hs => F.run A outer s H args us vs Q E hr he hb hv (h _ _ _ _ hs)⟩

theorem Env0.make {P : Program} {w : World} {K : PySem.W.Frag} {mg : Str → Option Value} {base : Heap} {A : Around} {outer : List Env} {s : Shared} {H : Hp} (e : Env0 P w K mg base A outer s H) (C : Addr) (us : List Value) (kw : List (Str × Value)) :
    Env0 P w K mg base (A.under (.builtin "type.__call__" ⟨.ref C :: us, kw⟩)) outer s H := ⟨by first | exact e.frames | (simpa [Around.under, Code.envs, Code.isFrame, pushEnvs] using e.frames), e.mod, e.bs, e.bsz, e.funs, e.frf, e.hok, e.bare⟩

section
variable {X : Cx} {pins : List (Addr × Obj)} {σ : St} {H : Hp} {s s' : Shared}
theorem Inv.env0 (I : Inv X pins σ H s) : Env0 X.prog X.w X.K X.mg X.base X.A X.stack s H :=
  ⟨I.ok.frames, I.ok.mod, I.bs, Nat.le_trans I.ok.bsz I.sz, I.stack, I.stkFree, I.hok, I.bare⟩
theorem Inv.after {Q : VK} {u : Value} (I : Inv X pins σ H s) (h : CE X.stack X.prog X.w H s Q u s') : EP X pins σ Q u s' := by
  obtain ⟨v, H', os, bare, un, hok, r, q⟩ := h
  obtain ⟨hh, g, d, t, os'⟩ := s'
  obtain rfl : os' = s.os := os
  exact ⟨v, H', I.call (h' := hh) (g' := g) (d' := d) (t' := t) (ch := []) un hok bare (fun b z => absurd z (by simp)), r, q⟩
end

noncomputable def tCall (sp : Sp) (dvs : List V) (E : XK) (t : TA) : TE := fun σ H Q => t σ H fun vs H1 => sp (vs ++ dvs) H1 Q E
noncomputable def tMeth (C : Addr) (m : Str) (sp : Sp) (dvs : List V) (E : XK) (ta : TE) (t : TA) : TE := fun σ H Q => ta σ H fun x H1 => ∃ a dx fs, x = .ref a ∧ H1 a = some (.ins C dx fs) ∧ fs.lookup m = none ∧
  t σ H1 fun vs H2 => sp (x :: (vs ++ dvs)) H2 Q E
noncomputable def tMake (C : Addr) (sp : Sp) (dvs : List V) (E : XK) (t : TA) : TE := fun σ H Q => t σ H fun vs H1 => ∀ x dx, H1 x = none → H1 dx = none → dx ≠ x →
  sp (.ref x :: (vs ++ dvs)) (upd (upd H1 dx (.own x)) x (.ins C dx [])) (fun v H2 => v = .non ∧ Q (.ref x) H2) E

noncomputable def Binds (K : PySem.W.Frag) (fd : FuncData) (ps : List Str) (ds : List Value) : Prop :=
  ∀ (s : Shared) (us : List Value), K.In s.heap → (us ++ ds).length = ps.length → BindsTo s fd ⟨us, []⟩ (ps.zip (us ++ ds))
theorem Binds.all {K : PySem.W.Frag} {fd : FuncData} {ps : List Str} (h : ∀ us : List Value, us.length = ps.length → bindArgs fd ⟨us, []⟩ = pure (ps.zip us)) : Binds K fd ps [] := fun s us _ hl => by
  rw [List.append_nil] at hl ⊢
  exact .of_eq (h us hl)

noncomputable def Passes (CX : CXT) (X : Cx) (E : XK) : Prop := ∀ (pins : List (Addr × Obj)) (σ : St) (H : Hp) (s : Shared) (e : Value) (s' : Shared), Inv X pins σ H s → CX X.stack H s E e s' → X.xe e s'

section
variable {X : Cx} {CX : CXT} {k : Nat} {f C : Addr} {fd : FuncData} {ps : List Str} {sp : Sp} {dvs : List V} {ds : List Value} {E : XK} {x m : Str} {p pos apos : Pos} {e o : Expr} {es : List Expr} {ta : TE} {t : TA}

theorem run_fn {pins : List (Addr × Obj)} {σ : St} {H : Hp} {s : Shared} {Q : VK} {us : List Value} {vs : List V} (F : FnOk X.prog X.w X.K X.mg X.base CX k f fd ps sp) (hr : Room k X.A) (hb : Binds X.K fd ps ds) (hd : Vals dvs ds) (hx : Passes CX X E)
    (I : Inv X pins σ H s) (r : Vals vs us) (h : sp (vs ++ dvs) H Q E) : wpAny (model X.prog X.w) X.A (call (.ref f) us) (EP X pins σ Q) X.xe s := by
  have r2 : Vals (vs ++ dvs) (us ++ ds) := r.append hd
  have hl : (us ++ ds).length = ps.length := by rw [← r2.length]; exact F.len _ _ _ _ h
  refine wpAny_call (codeAny_mono (F.run X.A X.stack s H ⟨us, []⟩ (us ++ ds) (vs ++ dvs) Q E hr I.env0 (hb s us I.kIn hl) r2 h) fun r s' hq => ?_)
  cases r with
  | error e => exact hx pins σ H s e s' I hq
  | ok fl =>
    cases fl with
    | ret u => exact I.after hq
    | next => exact False.elim hq
    | brk => exact False.elim hq
    | cont => exact False.elim hq

theorem pe_call (F : FnOk X.prog X.w X.K X.mg X.base CX k f fd ps sp) (hr : Room k X.A) (hg : Gl X x) (hm : X.mg x = some (.ref f)) (hk : PySem.W.keepIn X.K (.ref f) = true) (hb : Binds X.K fd ps ds) (hd : Vals dvs ds) (hx : Passes CX X E)
    (ha : PA X (e :: es) t) (hdb : (x == ("__debug__" : Str)) = false := by decide) (he : starEach (e :: es) X.env = (false, eval e X.env) :: starEach es X.env := by rfl) (hpl : (backTo pos (starEach es X.env)).any (·.1) = false := by rfl) :
    PE X (.Call (.Name x p) (e :: es) [] pos) (tCall sp dvs E t) := by
  intro pins s σ H Q I h
  refine wpAny_Call_Name_kw (ld_glob I hg hm ?_ hdb)
  refine PySem.W.callWith_K (h₀ := X.base) I.ok.mod.kin hk (thn (ha pos pins s σ H _ I h) fun us s1 ⟨vs, H1, I1, r, q⟩ => ⟨I1.kIn, ?_⟩) he hpl
  exact run_fn F hr hb hd hx I1 r q

theorem pe_meth0 {pl : Sem Bool} (he : PE X o ta) (c : Cls X.K C) (hm : Meth X.K C m f) (F : FnOk X.prog X.w X.K X.mg X.base CX k f fd ps sp) (hr : Room k X.A) (hb : Binds X.K fd ps ds) (hd : Vals dvs ds) (hx : Passes CX X E)
    (ht : eval (.Call (.Attribute o m apos) [] [] pos) X.env = (do
      let ov ← eval o X.env
      standAt apos.atName
      let (f, first) ← holding [ov] (getMethod ov m pl)
      callWith pos f first (backTo pos (starEach [] X.env)) (backToKw pos (keywordEach [] X.env))) := by rfl) :
    PE X (.Call (.Attribute o m apos) [] [] pos) (tMeth C m sp dvs E ta tNil) := by
  intro pins s σ H Q I h
  refine PySem.W.methodCall_KW (pl := pl) (thn (he pins s σ H _ I h) fun u s1 ⟨x, H1, I1, rx, a, dx, fs, ex, ea, l, q⟩ => ?_) ht
  subst ex
  obtain rfl : u = Value.ref a := rx
  refine getmeth_ok I1 ea c hm l ?_
  exact PySem.W.callWith_K0 (first := [.ref a]) I1.kIn hm.kp (run_fn (us := [.ref a]) (vs := [.ref a]) F hr hb hd hx I1 (.cons rfl .nil) q)

structure Mk (K : PySem.W.Frag) (C f : Addr) : Prop where
  makes : PySem.W.makesIn K C = true
  init : PySem.W.findIn K (.ref C) "__init__" = some (some (.ref f))
  fn : PySem.W.isFn K (.ref f) = true
  kp : PySem.W.keepIn K (.ref C) = true

theorem run_make {pins : List (Addr × Obj)} {σ : St} {H : Hp} {s : Shared} {Q : VK} {us : List Value} {vs : List V} (M : Mk X.K C f) (F : FnOk X.prog X.w X.K X.mg X.base CX k f fd ps sp) (hr : Room (k + 1) X.A) (hb : Binds X.K fd ps ds) (hd : Vals dvs ds)
    (hx : Passes CX X E) (I : Inv X pins σ H s) (r : Vals vs us)
    (h : ∀ x dx, H x = none → H dx = none → dx ≠ x → sp (.ref x :: (vs ++ dvs)) (upd (upd H dx (.own x)) x (.ins C dx [])) (fun v H2 => v = .non ∧ Q (.ref x) H2) E) :
    wpAny (model X.prog X.w) X.A (call (.ref C) us) (EP X pins σ Q) X.xe s := by
  have hq := h (s.heap.objs.size + 1) s.heap.objs.size (I.hok.fresh (Nat.le_succ _)) (I.hok.fresh (Nat.le_refl _)) (Nat.ne_of_lt (Nat.lt_succ_self _))
  have I2 := Inv.made (C := C) I
  have r2 : Vals (V.ref (s.heap.objs.size + 1) :: (vs ++ dvs)) (Value.ref (s.heap.objs.size + 1) :: (us ++ ds)) := .cons rfl (r.append hd)
  have hl : (Value.ref (s.heap.objs.size + 1) :: us ++ ds).length = ps.length := by
    have e := r2.length
    rw [F.len _ _ _ _ hq] at e
    exact e.symm
  refine wpAny_call (make_map (f := f) I.kIn M.makes M.init (beq_iff_eq.mp M.fn) (codeAny_mono (F.run _ X.stack _ _ ⟨Value.ref (s.heap.objs.size + 1) :: us, []⟩ (Value.ref (s.heap.objs.size + 1) :: (us ++ ds)) _ _ E (hr.make C us [])
    (I2.env0.make C us []) (hb _ (Value.ref (s.heap.objs.size + 1) :: us) I2.kIn hl) r2 hq) fun r s' hq' => ?_))
  cases r with
  | error e => exact hx pins σ _ _ e s' I2 hq'
  | ok fl =>
    cases fl with
    | ret u =>
      obtain ⟨v, H', I3, rv, ev, q3⟩ := I2.after hq'
      subst ev
      exact ⟨rv, ⟨V.ref (s.heap.objs.size + 1), H', I3, rfl, q3⟩⟩
    | next => exact False.elim hq'
    | brk => exact False.elim hq'
    | cont => exact False.elim hq'
theorem pe_make (M : Mk X.K C f) (F : FnOk X.prog X.w X.K X.mg X.base CX k f fd ps sp) (hr : Room (k + 1) X.A) (hg : Gl X x) (hm : X.mg x = some (.ref C)) (hb : Binds X.K fd ps ds) (hd : Vals dvs ds) (hx : Passes CX X E)
    (ha : PA X (e :: es) t) (hdb : (x == ("__debug__" : Str)) = false := by decide) (he : starEach (e :: es) X.env = (false, eval e X.env) :: starEach es X.env := by rfl) (hpl : (backTo pos (starEach es X.env)).any (·.1) = false := by rfl) :
    PE X (.Call (.Name x p) (e :: es) [] pos) (tMake C sp dvs E t) := by
  intro pins s σ H Q I h
  refine wpAny_Call_Name_kw (ld_glob I hg hm ?_ hdb)
  refine PySem.W.callWith_K (h₀ := X.base) I.ok.mod.kin M.kp (thn (ha pos pins s σ H _ I h) fun us s1 ⟨vs, H1, I1, r, q⟩ => ⟨I1.kIn, ?_⟩) he hpl
  exact run_make M F hr hb hd hx I1 r q
end

noncomputable def PK (X : Cx) (kws : List Keyword) (t : TA) : Prop :=
  ∀ (pos : Pos) (pins : List (Addr × Obj)) (s : Shared) (σ : St) (H : Hp) (Q : List V → Hp → Prop), Inv X pins σ H s → t σ H Q → wpAny (model X.prog X.w) X.A (evalAll ((backToKw pos (keywordEach kws X.env)).map (·.2))) (AP X pins σ Q) X.xe s
section
variable {X : Cx} {CX : CXT} {k : Nat} {f C : Addr} {fd : FuncData} {ps ks : List Str} {sp : Sp} {E : XK} {x m : Str} {p pos apos kpos : Pos} {e o : Expr} {es : List Expr} {kws : List Keyword} {te ta : TE} {t tk : TA} {nm : Option Str}
theorem pk_nil : PK X [] tNil := fun _ _ _ _ H Q I h => wpAny_evalAll_nil ⟨[], H, I, .nil, h⟩
theorem pk_cons (ha : PE X e te) (hr : PK X kws t) : PK X (⟨nm, e, kpos⟩ :: kws) (tCons te t) := by
  intro pos pins s σ H Q I h
  show wpAny _ _ (evalAll ((do let v ← eval e X.env; standAt pos; pure v) :: (backToKw pos (keywordEach kws X.env)).map (·.2))) _ _ s
  refine wpAny_evalAll_cons (wpAny_bind (thn (ha pins s σ H _ I h) fun u s1 ⟨x, H1, I1, r1, q1⟩ => wpAny_bind (wpAny_standAt (wpAny_pure ?_))))
  exact thn (hr pos pins s1 σ H1 _ I1 q1) fun us s2 ⟨xs, H2, I2, r2, q2⟩ => ⟨x :: xs, H2, I2, .cons r1 r2, q2⟩

variable {g : List Value → List Value → List Value} {gV : List V → List V → List V}
end

structure FnScope (N P : List Str) (sc : Scope) : Prop where
  kind : sc.kind = .function
  co : sc.isCoroutine = false
  gen : sc.isGenerator = false
  nd : N.Nodup
  pre : N.take P.length = P
  par : ∀ x ∈ P, sc.names.lookup x = some .local ∨ sc.names.lookup x = some .cell
  nofree : ∀ y ∈ sc.names, y.2 ≠ .free

theorem bindL_out {kindOf : Str → Option NameKind} {x : Str} : ∀ {binds : List (Str × Value)} {m : Str → Option Value}, (∀ v, (x, v) ∉ binds) → bindL kindOf binds m x = m x
  | [], _, _ => rfl
  | (n, v) :: r, m, h => by
    unfold bindL
    rw [bindL_out fun w hw => h w (List.mem_cons_of_mem _ hw)]
    split
    · have : x ≠ n := by rintro rfl; exact h v List.mem_cons_self
      simp [this]
    · rfl
theorem bindC_out {kindOf : Str → Option NameKind} {x : Str} : ∀ {binds : List (Str × Value)} {m : Str → Option Value}, (∀ v, (x, v) ∉ binds) → bindC kindOf binds m x = m x
  | [], _, _ => rfl
  | (n, v) :: r, m, h => by
    unfold bindC
    rw [bindC_out fun w hw => h w (List.mem_cons_of_mem _ hw)]
    split
    · rfl
    · have : x ≠ n := by rintro rfl; exact h v List.mem_cons_self
      simp [this]
theorem bindL_get {kindOf : Str → Option NameKind} {x : Str} {v : Value} : ∀ {P : List Str} {vs : List Value} {i : Nat} {m : Str → Option Value}, P.Nodup → P[i]? = some x → vs[i]? = some v → kindOf x = some .local →
    bindL kindOf (P.zip vs) m x = some v
  | [], _, _, _, _, h, _, _ => by simp at h
  | _ :: _, [], _, _, _, _, h, _ => by simp at h
  | p :: P, w :: vs, 0, m, nd, h1, h2, hk => by
    simp at h1 h2; subst h1; subst h2
    show bindL kindOf ((p, w) :: P.zip vs) m p = _
    unfold bindL
    rw [bindL_out fun v hv => (List.nodup_cons.mp nd).1 (List.of_mem_zip hv).1, if_pos hk]
    simp
  | p :: P, w :: vs, i + 1, m, nd, h1, h2, hk => by
    show bindL kindOf ((p, w) :: P.zip vs) m x = _
    unfold bindL
    exact bindL_get (i := i) (List.nodup_cons.mp nd).2 (by simpa using h1) (by simpa using h2) hk
theorem bindC_get {kindOf : Str → Option NameKind} {x : Str} {v : Value} : ∀ {P : List Str} {vs : List Value} {i : Nat} {m : Str → Option Value}, P.Nodup → P[i]? = some x → vs[i]? = some v → kindOf x ≠ some .local →
    bindC kindOf (P.zip vs) m x = some v
  | [], _, _, _, _, h, _, _ => by simp at h
  | _ :: _, [], _, _, _, _, h, _ => by simp at h
  | p :: P, w :: vs, 0, m, nd, h1, h2, hk => by
    simp at h1 h2; subst h1; subst h2
    show bindC kindOf ((p, w) :: P.zip vs) m p = _
    unfold bindC
    rw [bindC_out fun v hv => (List.nodup_cons.mp nd).1 (List.of_mem_zip hv).1, if_neg hk]
    simp
  | p :: P, w :: vs, i + 1, m, nd, h1, h2, hk => by
    show bindC kindOf ((p, w) :: P.zip vs) m x = _
    unfold bindC
    exact bindC_get (i := i) (List.nodup_cons.mp nd).2 (by simpa using h1) (by simpa using h2) hk

noncomputable def start (N : List Str) (vs : List V) : St := vs.map some ++ List.replicate (N.length - vs.length) none

noncomputable def cxOf (CX : CXT) (P : Program) (w : World) (K : PySem.W.Frag) (mg : Str → Option Value) (base : Heap) (N : List Str) (qual : Str) (scope : Scope) (f : Addr) (cd : Value) (A : Around) (outer : List Env) (s : Shared) (H : Hp) (E : XK) : Cx where
  prog := P
  w := w
  K := K
  mg := mg
  base := base
  A := A.deeper (envOfC qual scope s.heap.objs.size f cd)
  N := N
  s₀ := s
  H₀ := H
  env := envOfC qual scope s.heap.objs.size f cd
  outer := outer
  stack := envOfC qual scope s.heap.objs.size f cd :: outer
  ex := []
  calm := true
  fn := fun _ => true
  pn := []
  xe := fun e s' => wpAny (model P w) (A.deeper (envOfC qual scope s.heap.objs.size f cd)) (leaving (envOfC qual scope s.heap.objs.size f cd) e) (fun _ s'' => CX outer H s E e s'') (fun e' s'' => CX outer H s E e' s'') s'

theorem cell_has {sc : Scope} {n : Nat} {x : Str} (h : sc.names.lookup x = some .cell) : ∃ c, (cellsFrom n sc.names []).lookup x = some c := by
  have q := PySem.W.cellsFrom_some sc.names n [] (.inl h)
  exact Option.isSome_iff_exists.mp q

theorem inv_start {CX : CXT} {P : Program} {w : World} {K : PySem.W.Frag} {mg : Str → Option Value} {base : Heap} {N ps : List Str} {qual : Str} {scope : Scope} {f : Addr} {cd : Value} {A : Around} {outer : List Env} {s s1 : Shared} {H : Hp} {E : XK} {us : List Value} {vs : List V}
    (S : FnScope N ps scope) (hd : A.handled = none) (e0 : Env0 P w K mg base A outer s H) (hl : vs.length = ps.length) (r : Vals vs us)
    (x : InCallC s s.heap.objs.size (bindL (envOfC qual scope s.heap.objs.size f cd).kindOf (ps.zip us) fun _ => none) (cellsFrom (s.heap.objs.size + 1) scope.names []) (bindC (envOfC qual scope s.heap.objs.size f cd).kindOf (ps.zip us) fun _ => none) s1) :
    Inv (cxOf CX P w K mg base N qual scope f cd A outer s H E) [] (start N vs) H s1 := by
  have hpl : ps.length ≤ N.length := by have := congrArg List.length S.pre; rw [List.length_take] at this; (first | lia | omega)
  obtain ⟨h1, tk, rfl, hk⟩ := x.done
  have noA : ∀ b : Addr, b ∉ (cxOf CX P w K mg base N qual scope f cd A outer s H E).ex := fun b z => absurd (show b ∈ ([] : List Addr) from z) (by simp)
  refine ⟨⟨e0.mod, S.kind, rfl, rfl, Nat.le_refl _, fun y z c h1 h2 => ?_, fun y hy => ?_, fun y c _ h => ?_, fun _ => hd, Around.frames_deeper e0.frames, .inr ⟨rfl, rfl⟩, fun b z => absurd z (noA b), e0.bs, e0.bsz, fun b _ _ => noA b, fun b z => absurd z (noA b), e0.funs, e0.frf⟩,
    rfl, e0.bare, Un.kept hk, ⟨_, x.toInCall.ns, fun i y v h1 h2 h3 => ?_⟩, fun y c h => ⟨_, x.cell y c h⟩, e0.hok.fresh (Nat.le_refl _), fun y c h => ?_, fun p hp => absurd (show p ∈ ([] : List (Addr × Obj)) from hp) (by simp), e0.hok.kept hk, ?_⟩
  · exact name_of_addr x.apart (PySem.mem_of_lookup h1) (PySem.mem_of_lookup h2)
  · have hy : scope.names.lookup y = some .cell ∨ scope.names.lookup y = some .free := hy
    rcases hy with hy | hy
    · exact cell_has hy
    · exact absurd rfl (S.nofree _ (PySem.mem_of_lookup hy))
  · exact Nat.le_of_lt (x.above y c (PySem.mem_of_lookup h))
  · have hi : i < vs.length := by
      unfold start at h2
      by_cases hi : i < vs.length
      · exact hi
      · rw [List.getElem?_append_right (by simpa using hi)] at h2
        rw [List.getElem?_replicate] at h2
        split at h2 <;> cases h2
    have ha : vs[i]? = some v := by
      unfold start at h2
      rw [List.getElem?_append_left (by simpa using hi), List.getElem?_map] at h2
      cases e : vs[i]? with
      | none => rw [e] at h2; cases h2
      | some a => rw [e] at h2; cases h2; rfl
    obtain ⟨u, hu, rv⟩ := r.get ha
    have hp : ps[i]? = some y := by
      rw [← S.pre, List.getElem?_take_of_lt (by (first | lia | omega))]; exact h1
    have ndP : ps.Nodup := by rw [← S.pre]; exact S.nd.sublist (List.take_sublist _ _)
    refine ⟨u, rv, ?_⟩
    rcases S.par y (List.mem_of_getElem? hp) with k | k
    · exact .inl ⟨k, bindL_get ndP hp hu k⟩
    · obtain ⟨c, e⟩ := cell_has (n := s.heap.objs.size + 1) k
      refine .inr ⟨.inl k, c, e, ?_⟩
      have q := x.cell y c e
      rw [bindC_get ndP hp hu (by show scope.names.lookup y ≠ _; rw [k]; decide)] at q
      exact q
  · exact e0.hok.fresh (Nat.le_of_lt (x.above y c (PySem.mem_of_lookup h)))
  · unfold start
    show _ = N.length
    rw [List.length_append, List.length_map, List.length_replicate]
    (first | lia | omega)

theorem fn_of {CX : CXT} {P : Program} {w : World} {K : PySem.W.Frag} {mg : Str → Option Value} {base : Heap} {k : Nat} {f : Addr} {name qual : Str} {params : Arguments} {body : List Stmt} {scope : Scope} {dV kV doc pm cdv ct oc : Value} {an od : Option Addr}
    {osl : Array (Option Value)} {N ps : List Str} {sp : Sp} (lk : K.lookup f = some ⟨oc, od, .func (PySem.W.fnOf name qual params body scope dV kV doc pm an cdv ct), osl⟩) (hcd : PySem.W.codeIn K cdv qual = true) (S : FnScope N ps scope)
    (len : ∀ vs H Q E, sp vs H Q E → vs.length = ps.length)
    (hbody : ∀ (A : Around) (outer : List Env) (s : Shared) (H : Hp) (vs : List V) (Q : VK) (E : XK), Room k (A.deeper (envOfC qual scope s.heap.objs.size f cdv)) → sp vs H Q E →
      ∃ t, PSs (cxOf CX P w K mg base N qual scope f cdv A outer s H E) body t ∧ t { nx := fun _ H' => Q .non H', rt := Q } (start N vs) H) :
    FnOk P w K mg base CX (k + 1) f (PySem.W.fnOf name qual params body scope dV kV doc pm an cdv ct) ps sp := by
  refine ⟨len, fun A outer s H args us vs Q E hr e0 hb r hsp => ?_⟩
  have hl := len _ _ _ _ hsp
  have KX : K.In s.heap := e0.mod.kin.keeps fun b o e => (e0.bs b o e).1
  have lim : s.heap.NoLimit := e0.mod.nolimit.keeps fun b o e => (e0.bs b o e).1
  have hkind : ∀ y ∈ ps.zip us, scope.names.lookup y.1 = some .local ∨ (scope.names.lookup y.1 = some .cell ∧ ((cellsFrom (s.heap.objs.size + 1) scope.names []).lookup y.1).isSome = true) := fun ⟨n, v⟩ hy => by
    rcases S.par n (List.of_mem_zip hy).1 with q | q
    · exact .inl q
    · exact .inr ⟨q, PySem.W.cellsFrom_some _ _ _ (.inl q)⟩
  refine codeAny_call_function hr.depth (KX _ _ lk) rfl S.co S.gen rfl (PySem.W.codeRec_of KX hcd) (hb _ _ _ _ ?_)
  refine wpAny_newFunctionEnv_cells S.kind hkind fun env he s1 x => ?_
  subst he
  refine ⟨lim.keeps x.toInCall.keep, codeAny_func ?_⟩
  obtain ⟨t, ht, hq⟩ := hbody A outer s H vs Q E (hr.deeper _) hsp
  have I : Inv (cxOf CX P w K mg base N qual scope f cdv A outer s H E) [] (start N vs) H s1 := inv_start S hr.hd e0 hl r x
  refine wpAny_mono (ht [] s1 (start N vs) H _ I hq) (fun fl s' hs => ?_) fun e s' hs => hs
  have fin : ∀ {σ' : St} {H' : Hp} {v : V} {u : Value}, Inv (cxOf CX P w K mg base N qual scope f cdv A outer s H E) [] σ' H' s' → RelV v u → Q v H' → CE outer P w H s Q u s' :=
    fun {σ' H' v u} J rv q => ⟨v, H', J.os, J.bare, J.base, J.hok, rv, q⟩
  cases fl with
  | ret u =>
    obtain ⟨v, σ', H', J, rv, q⟩ := hs
    exact fin J rv q
  | next =>
    obtain ⟨σ', H', J, q⟩ := hs
    exact fin (v := V.non) (u := Value.none) J rfl q
  | brk =>
    obtain ⟨_, _, _, q⟩ := hs
    exact False.elim q
  | cont =>
    obtain ⟨_, _, _, q⟩ := hs
    exact False.elim q
end L2

namespace L2
open PySem PySem.Spec PyProof.Rows
section
variable {X : Cx} {x : Str} {p pos : Pos} {e : Expr} {es : List Expr} {t : TA} {id T : String} {r : List V → Hp → VK → Prop}

noncomputable def tCB (r : List V → Hp → VK → Prop) (t : TA) : TE := fun σ H Q => t σ H fun vs H1 => r vs H1 Q
theorem pe_callB (hc : CallR X (.builtin id) r) (hg : Gl X x) (hm : X.mg x = none) (hv : bootBuiltins x = some (.builtin id)) (ha : PA X (e :: es) t) (hn : x ≠ "__name__" := by decide) (hdb : (x == ("__debug__" : Str)) = false := by decide)
    (he : starEach (e :: es) X.env = (false, eval e X.env) :: starEach es X.env := by rfl) (hpl : (backTo pos (starEach es X.env)).any (·.1) = false := by rfl) : PE X (.Call (.Name x p) (e :: es) [] pos) (tCB r t) := by
  intro pins s σ H Q I h
  refine wpAny_Call_Name_kw (ld_blt I hg hm hv ?_ hn hdb)
  exact PyProof.Rows.callWith_builtin1 (thn (ha pos pins s σ H _ I h) fun us s1 ⟨vs, H1, I1, r1, q1⟩ => hc pins s1 σ H1 vs us Q I1 r1 q1) he hpl
theorem pe_callTy (hc : CallR X (.type T) r) (hg : Gl X x) (hm : X.mg x = none) (hv : bootBuiltins x = some (.type T)) (ha : PA X (e :: es) t) (hn : x ≠ "__name__" := by decide) (hdb : (x == ("__debug__" : Str)) = false := by decide)
    (he : starEach (e :: es) X.env = (false, eval e X.env) :: starEach es X.env := by rfl) (hpl : (backTo pos (starEach es X.env)).any (·.1) = false := by rfl) : PE X (.Call (.Name x p) (e :: es) [] pos) (tCB r t) := by
  intro pins s σ H Q I h
  refine wpAny_Call_Name_kw (ld_blt I hg hm hv ?_ hn hdb)
  exact PyProof.Rows.callWith_type1 (thn (ha pos pins s σ H _ I h) fun us s1 ⟨vs, H1, I1, r1, q1⟩ => hc pins s1 σ H1 vs us Q I1 r1 q1) he hpl
end
end L2

namespace HT
open PySem PyProof.Rows



section
open PySem.SeqAt
open PySem.AutoSeq1 (wpAny_loadPart')
open PySem.MeetsSeq PySem.MeetsSeq2 PySem.MeetsSeq3

end

section
variable {prog : Program} {w : World} {A : Around} {E : Value → Shared → Prop} {s : Shared}



noncomputable def sIx (n d : Nat) : Option Int → Nat
  | none => d
  | some v => if v < 0 then (v + (n : Int)).toNat else min v.toNat n
theorem sIx_none (n d : Nat) : sIx n d none = d := rfl
theorem sIx_nat (n d k : Nat) : sIx n d (some (k : Int)) = min k n := by
  show (if (k : Int) < 0 then ((k : Int) + (n : Int)).toNat else min (k : Int).toNat n) = min k n
  rw [if_neg (by (first | lia | omega)), Int.toNat_natCast]

end
end HT

namespace L2
open PySem PySem.Spec PyProof.Rows

noncomputable abbrev TO := St → Hp → (Option Int → Hp → Prop) → Prop
noncomputable def PO (X : Cx) (e : Option Expr) (t : TO) : Prop :=
  ∀ (pins : List (Addr × Obj)) (s : Shared) (σ : St) (H : Hp) (Q : Option Int → Hp → Prop), Inv X pins σ H s → t σ H Q →
    wpAny (model X.prog X.w) X.A (evalPart e X.env) (fun u s' => ∃ o H', Inv X pins σ H' s' ∧ IsPart u o ∧ Q o H') X.xe s
noncomputable def tNoPart : TO := fun _ H Q => Q none H
noncomputable def tPart (t : TE) : TO := fun σ H Q => t σ H fun x H1 => ∃ i, x = .int i ∧ Q (some i) H1


section
variable {X : Cx} {e : Expr} {te : TE} {lo hi : Option Expr} {tl th : TO} {pos p2 : Pos}

theorem po_none : PO X none tNoPart := by
  intro pins s σ H Q I h
  rw [evalPart_none]
  exact wpAny_pure ⟨none, H, I, .none, h⟩
theorem po_some (h : PE X e te) : PO X (some e) (tPart te) := by
  intro pins s σ H Q I hw
  rw [evalPart_some]
  refine thn (h pins s σ H _ I hw) fun u s1 ⟨x, H1, I1, r1, q1⟩ => ?_
  obtain ⟨i, rfl, q⟩ := q1
  obtain ⟨t, rfl⟩ := r1
  exact ⟨some i, H1, I1, .int i t, q⟩

noncomputable def SlR (X : Cx) (r : V → Option Int → Option Int → Hp → VK → Prop) : Prop :=
  ∀ (pins : List (Addr × Obj)) (s : Shared) (σ : St) (H : Hp) (x : V) (v vl vu : Value) (lo hi : Option Int) (sl : Addr) (Q : VK), Inv X pins σ H s → RelV x v → s.heap.IsSliceOf sl vl vu .none → IsPart vl lo → IsPart vu hi → r x lo hi H Q →
    ∃ T id, typeLookup (.type T) "__getitem__" = pure (some (.builtin id)) ∧ s.TypeIs v T ∧ wpAny (model X.prog X.w) X.A (getItem v (.ref sl)) (EP X pins σ Q) X.xe s
noncomputable def tSl (r : V → Option Int → Option Int → Hp → VK → Prop) (te : TE) (tl th : TO) : TE := fun σ H Q => te σ H fun x H1 => tl σ H1 fun l H2 => th σ H2 fun u H3 => r x l u H3 Q
theorem pe_slice {r : V → Option Int → Option Int → Hp → VK → Prop} (hr : SlR X r) (he : PE X e te) (hl : PO X lo tl) (hu : PO X hi th) : PE X (.Subscript e (.Slice lo hi none p2) pos) (tSl r te tl th) := by
  intro pins s σ H Q I h
  refine Subscript_ (thn (he pins s σ H _ I h) fun v s1 ⟨x, H1, I1, r1, q1⟩ => ?_)
  refine wpAny_Slice (thn (hl pins s1 σ H1 _ I1 q1) fun vl s2 ⟨l, H2, I2, pl, q2⟩ => thn (hu pins s2 σ H2 _ I2 q2) fun vu s3 ⟨u, H3, I3, pu, q3⟩ => ?_)
  rw [evalPart_none]
  refine wpAny_pure ?_
  have I4 : Inv X pins σ H3 { s3 with heap := s3.heap.push { cls := .type "slice", data := .fields #[vl, vu, .none] } } := I3.kept (t' := s3.toks) fun b ob q => Heap.get?_push_of_some _ q
  obtain ⟨T, id, hT, ht, hg⟩ := hr pins { s3 with heap := s3.heap.push { cls := .type "slice", data := .fields #[vl, vu, .none] } } σ H3 x v vl vu l u s3.heap.objs.size Q I4 r1 (Heap.IsSliceOf.new ..) pl pu q3
  show wpAny (model X.prog X.w) X.A (subscriptTail e (.Slice lo hi none p2) v (.ref s3.heap.objs.size)) (EP X pins σ Q) X.xe { s3 with heap := s3.heap.push { cls := .type "slice", data := .fields #[vl, vu, .none] } }
  exact tail_any (ops := [.ref s3.heap.objs.size, v]) ht hT hg (by with_unfolding_all rfl)

noncomputable def cutV (xs : List V) (lo hi : Option Int) : List V := (xs.drop (HT.sIx xs.length 0 lo)).take (HT.sIx xs.length xs.length hi - HT.sIx xs.length 0 lo)
theorem cutV_length (xs : List V) (lo hi : Option Int) : (cutV xs lo hi).length ≤ xs.length := by
  unfold cutV
  rw [List.length_take, List.length_drop]
  (first | lia | omega)

end
end L2

namespace L2
open PySem PySem.Spec PyProof.Rows

noncomputable def ixN (n : Nat) (i : Int) : Option Nat := if 0 ≤ i then (if i < n then some i.toNat else none) else if -(n : Int) ≤ i then some (i + n).toNat else none
noncomputable def atI {α : Type} (xs : List α) (i : Int) : Option α := (ixN xs.length i).bind fun j => xs[j]?
theorem ixN_seq {n : Nat} {i : Int} {j : Nat} (h : ixN n i = some j) : seqIndex? i n = some j ∧ j < n ∧ -(n : Int) ≤ i ∧ i < n := by
  unfold ixN at h
  by_cases h0 : 0 ≤ i
  · rw [if_pos h0] at h
    by_cases h1 : i < n
    · rw [if_pos h1] at h
      have e : i.toNat = j := Option.some.inj h
      exact ⟨by rw [seqIndex_of h0 h1, e], by (first | lia | omega), by (first | lia | omega), h1⟩
    · rw [if_neg h1] at h; cases h
  · rw [if_neg h0] at h
    by_cases h1 : -(n : Int) ≤ i
    · rw [if_pos h1] at h
      have e : (i + n).toNat = j := Option.some.inj h
      exact ⟨by rw [seqIndex_neg (by (first | lia | omega)) h1, e], by (first | lia | omega), h1, by (first | lia | omega)⟩
    · rw [if_neg h1] at h; cases h
theorem atI_get {α : Type} {xs : List α} {i : Int} {v : α} (h : atI xs i = some v) : ∃ j, seqIndex? i xs.length = some j ∧ xs[j]? = some v ∧ j < xs.length ∧ -(xs.length : Int) ≤ i ∧ i < xs.length := by
  unfold atI at h
  cases e : ixN xs.length i with
  | none => rw [e] at h; cases h
  | some j =>
    rw [e] at h
    obtain ⟨h1, h2, h3, h4⟩ := ixN_seq e
    exact ⟨j, h1, h, h2, h3, h4⟩
theorem atI_nat {α : Type} {xs : List α} {j : Nat} {v : α} (h : xs[j]? = some v) : atI xs (j : Int) = some v := by
  have hj : j < xs.length := (List.getElem?_eq_some_iff.mp h).1
  have e : ixN xs.length (j : Int) = some j := by
    unfold ixN
    rw [if_pos (by (first | lia | omega)), if_pos (by (first | lia | omega))]; simp
  unfold atI; rw [e]; exact h
theorem atI_last {α : Type} (xs : List α) (v : α) : atI (xs ++ [v]) (-1) = some v := by
  have hl : (xs ++ [v]).length = xs.length + 1 := by simp
  have e : ixN (xs ++ [v]).length (-1) = some xs.length := by
    unfold ixN
    rw [hl, if_neg (by decide), if_pos (by (first | lia | omega))]
    congr 1
    (first | lia | omega)
  unfold atI
  rw [e]
  show (xs ++ [v])[xs.length]? = some v
  simp

noncomputable def PlainIx (b : Expr) : Prop := ∀ o i, subscripted b false o i = operate [o, i] (getItem o i)
noncomputable def IxR (X : Cx) (r : R2) : Prop :=
  ∀ (value slice : Expr) (pins : List (Addr × Obj)) (s : Shared) (σ : St) (H : Hp) (x y : V) (v u : Value) (Q : VK), Inv X pins σ H s → RelV x v → RelV y u → r x y H Q →
    subscripted slice false v u = operate [v, u] (getItem v u) → wpAny (model X.prog X.w) X.A (subscriptTail value slice v u) (EP X pins σ Q) X.xe s
noncomputable def MtR (X : Cx) (id : String) (r : V → List V → Hp → VK → Prop) : Prop :=
  ∀ (pins : List (Addr × Obj)) (s : Shared) (σ : St) (H : Hp) (x : V) (xs : List V) (v : Value) (us : List Value) (Q : VK), Inv X pins σ H s → RelV x v → Vals xs us → r x xs H Q →
    wpAny (model X.prog X.w) X.A (call (.builtin id) (v :: us)) (EP X pins σ Q) X.xe s
section
variable {X : Cx} {a b : Expr} {ta tb : TE} {pos : Pos}
theorem pe_ix {r : R2} (hr : IxR X r) (ha : PE X a ta) (hb : PE X b tb) (hs : PlainIx b) : PE X (.Subscript a b pos) (tOp r ta tb) := by
  intro pins s σ H Q I h
  exact Subscript_ (binT ha hb I h fun v u s2 x y H2 I2 rx ry q => hr a b pins s2 σ H2 x y v u Q I2 rx ry q (hs _ _))

noncomputable def rIxL (K : PySem.W.Frag) : R2 := fun x y H Q => ∃ p xs i v, x = .ref p ∧ y = .int i ∧ SqL K H p xs ∧ atI xs i = some v ∧ Q v H
noncomputable def rIxT (K : PySem.W.Frag) : R2 := fun x y H Q => ∃ p xs i v, x = .ref p ∧ y = .int i ∧ SqT K H p xs ∧ atI xs i = some v ∧ Q v H
theorem ix_list : IxR X (rIxL X.K) := by
  intro value slice pins s σ H x y v u Q I rx ry h hs
  obtain ⟨p, xs, i, z, rfl, rfl, hq, he, q⟩ := h
  cases rx
  obtain ⟨t, rfl⟩ := ry
  obtain ⟨its, r, pl, hz⟩ := I.list hq
  obtain ⟨j, h1, h2, h3, h4, h5⟩ := atI_get he
  obtain ⟨w, ew, rw'⟩ := r.get h2
  have hl := r.length
  have hn := line63
  have fin : EP X pins σ Q w s := ⟨z, H, I, rw', q⟩
  by_cases h0 : 0 ≤ i
  · have hj : i.toNat = j := by
      rw [seqIndex_of h0 h5] at h1
      exact Option.some.inj h1
    exact item_listR pl.isList h0 (by (first | lia | omega)) (by rw [hj]; simpa using ew) fin hs
  · have hj : (i + (its.toArray.size : Int)).toNat = j := by
      rw [seqIndex_neg (by (first | lia | omega)) h4] at h1
      rw [List.size_toArray, ← hl]
      exact Option.some.inj h1
    exact subscriptTail_builtinR (x := w) pl.isList.typeIs slot_list_getitem.lookup
      (wpAny_getItem_list_neg (Q := fun r s' => r = w ∧ EP X pins σ Q r s') pl.isList (by (first | lia | omega)) (by rw [List.size_toArray] <;> (first | lia | omega)) (by (first | lia | omega)) (by rw [hj]; simpa using ew) ⟨rfl, fin⟩) hs
theorem ix_tup : IxR X (rIxT X.K) := by
  intro value slice pins s σ H x y v u Q I rx ry h hs
  obtain ⟨p, xs, i, z, rfl, rfl, hq, he, q⟩ := h
  cases rx
  obtain ⟨t, rfl⟩ := ry
  obtain ⟨its, r, pl, hz⟩ := I.tuple hq
  obtain ⟨j, h1, h2, h3, h4, h5⟩ := atI_get he
  obtain ⟨w, ew, rw'⟩ := r.get h2
  have hl := r.length
  have hn := line63
  have fin : EP X pins σ Q w s := ⟨z, H, I, rw', q⟩
  exact subscriptTail_builtinR (x := w) pl.typeIs slot_tuple_getitem.lookup
    (getItem_tuple (j := j) (Q := fun r s' => r = w ∧ EP X pins σ Q r s') pl (by (first | lia | omega)) (by (first | lia | omega)) (by rw [List.size_toArray, ← hl]; exact h1) (by simpa using ew) ⟨rfl, fin⟩) hs

theorem mapSeq_set (its : List Value) (n j : Nat) (u : Value) : Obj.mapSeq (·.setIfInBounds j u) { cls := .type "list", data := .seq its.toArray n } = { cls := .type "list", data := .seq (its.set j u).toArray n } := by
  simp [Obj.mapSeq]
theorem Inv.lst {pins : List (Addr × Obj)} {σ : St} {H : Hp} {s : Shared} {p : Addr} {xs : List V} (I : Inv X pins σ H s) (h : H p = some (.lst xs)) :
    ∃ (its : List Value) (n : Nat), Vals xs its ∧ s.heap.get? p = some { cls := .type "list", data := .seq its.toArray n } ∧ xs.length ≤ sizeLine := by
  obtain ⟨z, its, n, r, e⟩ := I.hok p _ h
  exact ⟨its, n, r, e, z⟩
theorem Inv.lstUpd {pins : List (Addr × Obj)} {σ : St} {H : Hp} {s : Shared} {p : Addr} {xs ys : List V} {its its' : List Value} {n n' : Nat} {f : Obj → Obj} (I : Inv X pins σ H s) (h : H p = some (.lst xs))
    (ho : s.heap.get? p = some { cls := .type "list", data := .seq its.toArray n }) (hf : f { cls := .type "list", data := .seq its.toArray n } = { cls := .type "list", data := .seq its'.toArray n' }) (r : Vals ys its') (hz : ys.length ≤ sizeLine) (t : Nat) :
    Inv X pins σ (upd H p (.lst ys)) { s with heap := s.heap.update p f, toks := t } := by
  have e : (s.heap.update p f).get? p = some { cls := .type "list", data := .seq its'.toArray n' } := by
    rw [Heap.get?_update_self f ho (by rw [hf] <;> rfl), hf]
  refine I.write (x := p) (e := p) (by rw [h]; trivial) (.inl rfl) (fun b u hb q => (Heap.get?_update_other _ _ (Ne.symm hb)).trans q) ⟨_, e⟩ ?_
  exact ⟨hz, its', n', r, e⟩
noncomputable def rSetL : V → V → V → Hp → (Hp → Prop) → Prop := fun o i v H Q => ∃ p xs k j, o = .ref p ∧ i = .int k ∧ H p = some (.lst xs) ∧ ixN xs.length k = some j ∧ Q (upd H p (.lst (xs.set j v)))
theorem set_list : PSet X rSetL := by
  intro pins s σ H o i v ov iv u Q I ro ri rv h
  obtain ⟨p, xs, k, j, rfl, rfl, hp, hj, q⟩ := h
  cases ro
  obtain ⟨t, rfl⟩ := ri
  obtain ⟨its, n, r, ho, hz⟩ := I.lst hp
  obtain ⟨h1, h2, h3, h4⟩ := ixN_seq hj
  have hl := r.length
  have hn := line63
  have I' : Inv X pins σ (upd H p (.lst (xs.set j v))) { s with heap := s.heap.update p (Obj.mapSeq (·.setIfInBounds j u)) } :=
    I.lstUpd hp ho (mapSeq_set its n j u) (r.set rv j) (by rw [List.length_set]; exact hz) s.toks
  by_cases h0 : 0 ≤ k
  · have hk : k.toNat = j := by
      rw [seqIndex_of h0 h4] at h1
      exact Option.some.inj h1
    exact PySem.W.ki_setAt ho h0 (by (first | lia | omega)) (by rw [List.size_toArray, ← hl]; exact h4) (by rw [hk]; exact ⟨_, I', q⟩)
  · have hk : (k + (its.toArray.size : Int)).toNat = j := by
      rw [seqIndex_neg (by (first | lia | omega)) h3] at h1
      rw [List.size_toArray, ← hl]
      exact Option.some.inj h1
    exact PySem.W.ki_setBack ho (by (first | lia | omega)) (by rw [List.size_toArray, ← hl]; exact h3) (by (first | lia | omega)) (by rw [hk]; exact ⟨_, I', q⟩)

theorem slice_bounds (lo hi : Option Int) (n : Nat) : (sliceBounds lo hi none n).1 = ((HT.sIx n 0 lo : Nat) : Int) ∧ (sliceBounds lo hi none n).2.1 = ((HT.sIx n n hi : Nat) : Int) ∧ (sliceBounds lo hi none n).2.2 = 1 := by
  refine ⟨?_, ?_, rfl⟩
  · cases lo with
    | none => simp [sliceBounds, HT.sIx]
    | some i =>
      simp only [sliceBounds, HT.sIx, Option.getD_none, show (1 : Int) > 0 by decide, if_true]
      by_cases h : i < 0
      · simp only [h, if_true] <;> (first | lia | omega)
      · simp only [h, if_false] <;> (first | lia | omega)
  · cases hi with
    | none => simp [sliceBounds, HT.sIx]
    | some i =>
      simp only [sliceBounds, HT.sIx, Option.getD_none, show (1 : Int) > 0 by decide, if_true]
      by_cases h : i < 0
      · simp only [h, if_true] <;> (first | lia | omega)
      · simp only [h, if_false] <;> (first | lia | omega)
theorem slicePick_cut (its : List Value) (lo hi : Option Int) : slicePick its.toArray lo hi none = ((its.drop (HT.sIx its.length 0 lo)).take (HT.sIx its.length its.length hi - HT.sIx its.length 0 lo)).toArray := by
  obtain ⟨h1, h2, h3⟩ := slice_bounds lo hi its.toArray.size
  unfold slicePick
  rw [h1, h2, h3]
  simp only [sliceRange_one, pick_run, List.size_toArray] <;> rfl
noncomputable def rSlL (K : PySem.W.Frag) : V → Option Int → Option Int → Hp → VK → Prop := fun x lo hi H Q => ∃ a xs, x = .ref a ∧ SqL K H a xs ∧ ∀ p, H p = none → Q (.ref p) (upd H p (.lst (cutV xs lo hi)))
theorem sl_list : SlR X (rSlL X.K) := by
  intro pins s σ H x v vl vu lo hi sl Q I rx hs pl pu h
  obtain ⟨a, xs, rfl, hx, q⟩ := h
  cases rx
  obtain ⟨its, r, ht, hz⟩ := I.list hx
  have hlen := r.length
  refine ⟨"list", _, slot_list_getitem.lookup, ht.isList.typeIs, ?_⟩
  refine wpAny_getItem_list_slice ht.isList hs pl pu .none (by simp) ?_ (by rw [List.size_toArray] <;> (first | lia | omega))
  rw [slicePick_cut, ← hlen]
  refine ⟨.ref s.heap.objs.size, _, I.laid (t' := s.toks) (o := .lst (cutV xs lo hi)) (fun b ob q => Heap.get?_push_of_some _ q) (Nat.le_refl _) ?_, rfl, q _ (I.hok.fresh (Nat.le_refl _))⟩
  exact ⟨Nat.le_trans (cutV_length xs lo hi) hz, _, 0, (r.drop (HT.sIx xs.length 0 lo)).take (HT.sIx xs.length xs.length hi - HT.sIx xs.length 0 lo), Heap.get?_push_size _ rfl⟩


theorem call_len_seq : CallR X (.builtin "len") (fun xs H Q => ∃ p ys, xs = [.ref p] ∧ (SqL X.K H p ys ∨ SqT X.K H p ys) ∧ Q (.int ys.length) H) := by
  intro pins s σ H xs us Q I r h
  obtain ⟨p, ys, rfl, hq, q⟩ := h
  obtain ⟨u, rfl, rx⟩ := vals1 r
  cases rx
  have hn := line63
  rcases hq with hq | hq
  · obtain ⟨its, r', pl, hz⟩ := I.list hq
    have hlen := r'.length
    exact Calls.call_len_list pl.isList (by simp only [List.size_toArray] <;> (first | lia | omega)) ⟨.int ys.length, H, I.tok _, ⟨s.toks + 1, by rw [List.size_toArray, hlen]⟩, q⟩
  · obtain ⟨its, r', pl, hz⟩ := I.tuple hq
    have hlen := r'.length
    exact len_tuple pl (by simp only [List.size_toArray] <;> (first | lia | omega)) ⟨.int ys.length, H, I.tok _, ⟨s.toks + 1, by rw [List.size_toArray, hlen]⟩, q⟩
theorem call_list_of : CallR X (.type "list") (fun xs H Q => ∃ p ys, xs = [.ref p] ∧ (SqL X.K H p ys ∨ SqT X.K H p ys) ∧ ∀ l, H l = none → Q (.ref l) (upd H l (.lst ys))) := by
  intro pins s σ H xs us Q I r h
  obtain ⟨p, ys, rfl, hq, q⟩ := h
  obtain ⟨u, rfl, rx⟩ := vals1 r
  cases rx
  have fin : ∀ (its : List Value), Vals ys its → ys.length ≤ sizeLine → ∀ (h' : Heap) (c' : Nat), (∀ b o', s.heap.get? b = some o' → h'.get? b = some o') →
      h'.get? s.heap.objs.size = some { cls := .type "list", dict := none, data := .seq its.toArray c', slots := #[] } → EP X pins σ Q (.ref s.heap.objs.size) { s with heap := h' } := fun its r' hz h' c' kp e =>
    ⟨.ref s.heap.objs.size, _, I.laid (t' := s.toks) kp (Nat.le_refl _) (show ObjOk X.prog X.w _ h' _ (.lst ys) from ⟨hz, its, c', r', e⟩), rfl, q _ (I.hok.fresh (Nat.le_refl _))⟩
  rcases hq with hq | hq
  · obtain ⟨its, r', pl, hz⟩ := I.list hq
    have hlen := r'.length
    obtain ⟨o, ho, hc, n, hd⟩ := pl.isList
    exact call_list_seq p (.inl rfl) ho hc hd (fun h' c' kp e => fin its r' hz h' c' kp e) (by simp only [List.size_toArray] <;> (first | lia | omega))
  · obtain ⟨its, r', pl, hz⟩ := I.tuple hq
    have hlen := r'.length
    obtain ⟨o, ho, hc, n, hd⟩ := pl
    exact call_list_seq p (.inr rfl) ho hc hd (fun h' c' kp e => fin its r' hz h' c' kp e) (by simp only [List.size_toArray] <;> (first | lia | omega))

noncomputable def tyV (K : PySem.W.Frag) (T : String) (x : V) (H : Hp) : Prop := match x with
  | .str _ => T = "str"
  | .int _ => T = "int"
  | .ref p => (T = "list" ∧ ∃ xs, SqL K H p xs) ∨ (T = "tuple" ∧ ∃ o, K.lookup p = some o ∧ o.cls = .type "tuple" ∧ o.dict = none) ∨
      (T = "dict" ∧ ((∃ kvs, H p = some (.dK kvs)) ∨ ∃ kvs, H p = some (.dT kvs))) ∨ (T = "set" ∧ ∃ S n, H p = some (.set S n))
  | _ => False
theorem tyV_is {pins : List (Addr × Obj)} {σ : St} {H : Hp} {s : Shared} {T : String} {x : V} {v : Value} (I : Inv X pins σ H s) (r : RelV x v) (ty : tyV X.K T x H) :
    s.TypeIs v T ∧ ∀ a, v = .ref a → ∃ ob, s.heap.get? a = some ob ∧ ob.dict = none := by
  cases x with
  | str z =>
    obtain ⟨t, rfl⟩ := r
    cases (show T = "str" from ty)
    exact ⟨typeIs_str s z t, fun _ e => nomatch e⟩
  | int i =>
    obtain ⟨t, rfl⟩ := r
    cases (show T = "int" from ty)
    exact ⟨typeIs_int s i t, fun _ e => nomatch e⟩
  | ref p =>
    cases r
    rcases ty with ⟨rfl, xs, hq⟩ | ⟨rfl, o, hk, hc, hd⟩ | ⟨rfl, hk⟩ | ⟨rfl, S, n, hk⟩
    · obtain ⟨its, _, pl, _⟩ := I.list hq
      refine ⟨pl.isList.typeIs, fun a e => ?_⟩
      cases e
      obtain ⟨o, n, e, c, hd, _⟩ := pl
      exact ⟨o, e, hd⟩
    · refine ⟨⟨o, I.kIn p o hk, hc⟩, fun a e => ?_⟩
      cases e
      exact ⟨o, I.kIn _ o hk, hd⟩
    · have z : ∃ o, s.heap.get? p = some o ∧ o.ExactDict := by
        rcases hk with ⟨kvs, hk⟩ | ⟨kvs, hk⟩
        · obtain ⟨_, _, _, _, o, _, _, e, ex, _⟩ := I.hok p _ hk
          exact ⟨o, e, ex⟩
        · obtain ⟨_, _, _, _, o, _, _, e, ex, _⟩ := I.hok p _ hk
          exact ⟨o, e, ex⟩
      obtain ⟨o, e, ex⟩ := z
      refine ⟨⟨o, e, ex.1⟩, fun a e2 => ?_⟩
      cases e2
      exact ⟨o, e, ex.2.1⟩
    · obtain ⟨o, _, _, _, e, ex, _⟩ := I.hok p _ hk
      refine ⟨⟨o, e, ex.1⟩, fun a e2 => ?_⟩
      cases e2
      exact ⟨o, e, ex.2.1⟩
  | _ => exact False.elim ty
noncomputable def tBM (K : PySem.W.Frag) (T : String) (r : V → List V → Hp → VK → Prop) (to : TE) (t : TA) : TE := fun σ H Q => to σ H fun x H1 => tyV K T x H1 ∧ t σ H1 fun xs H2 => r x xs H2 Q
variable {o e : Expr} {es : List Expr} {to : TE} {t : TA} {name : Str} {apos cpos : Pos} {T id : String} {r : V → List V → Hp → VK → Prop}
theorem pe_bm (pa : PlainAttrs T) (slot : Slot T name id) (hty : typeOf (.builtin id) = pure (.type "method_descriptor")) (hm : MtR X id r) (ho : PE X o to) (ha : PA X (e :: es) t)
    (hbase : attributeBase o name X.env (eval o X.env) = eval o X.env := by rfl)
    (hfew : ((backTo cpos (starEach (e :: es) X.env)).all (fun x => !x.1) && (backToKw cpos (keywordEach [] X.env)).all (fun x => x.1.isSome)
      && decide ((e :: es).length + ([] : List Keyword).length + (if ([] : List Keyword).isEmpty then 0 else 1) < 30)) = true := by rfl)
    (hline : (apos.endLine == cpos.line) = true := by rfl) (hs : starEach (e :: es) X.env = (false, eval e X.env) :: starEach es X.env := by rfl) (hplain : (backTo cpos (starEach es X.env)).any (·.1) = false := by rfl) :
    PE X (.Call (.Attribute o name apos) (e :: es) [] cpos) (tBM X.K T r to t) := by
  intro pins s σ H Q I h
  refine wpAny_Call_method_late hbase hfew hline rfl (thn (ho pins s σ H _ I h) fun v s1 ⟨x, H1, I1, r1, ty, q1⟩ => ?_)
  obtain ⟨h1, h2⟩ := tyV_is I1 r1 ty
  refine ⟨T, id, pa, slot, hty, h1, h2, ?_⟩
  have hA := ha cpos pins s1 σ H1 _ I1 q1
  rw [hs] at hA ⊢
  refine Calls.callWith_builtin (by show (false || (backTo cpos (starEach es X.env)).any (·.1)) = false; rw [hplain] <;> rfl) (Calls.evalArgs_plain ?_)
  exact thn hA fun us s2 ⟨vs, H2, I2, r2, q2⟩ => hm pins s2 σ H2 x vs v us Q I2 r1 r2 q2
/- xs.append(e), list.index on a module's tuple .. are MtR facts of 06m -/
end
end L2

namespace L2
open PySem PySem.Spec PyProof.Rows

noncomputable def MtM (X : Cx) (id : String) (r : V → List V → Hp → VK → Prop) : Prop :=
  ∀ (pins : List (Addr × Obj)) (s : Shared) (σ : St) (H : Hp) (x : V) (xs : List V) (v : Value) (us : List Value) (Q : VK), Inv X pins σ H s → RelV x v → Vals xs us → r x xs H Q →
    wpAny (model X.prog X.w) X.A (call (.builtin id) (v :: us)) (EP X pins σ Q) X.xe s

theorem Vals.one : ∀ {x : V} {us : List Value}, Vals [x] us → ∃ u, us = [u] ∧ RelV x u
  | _, _, .cons r .nil => ⟨_, rfl, r⟩
theorem Vals.rep {xs : List V} {us : List Value} (h : Vals xs us) : ∀ k : Nat, Vals (List.replicate k xs).flatten (List.replicate k us).flatten
  | 0 => .nil
  | k + 1 => by
    rw [List.replicate_succ, List.replicate_succ, List.flatten_cons, List.flatten_cons]
    exact Vals.append h (Vals.rep h k)
theorem foldl_rep (its : List Value) : ∀ (k : Nat) (acc : List Value),
    List.foldl (fun x1 x2 => x1 ++ x2) acc.toArray (List.replicate k its.toArray) = (acc ++ (List.replicate k its).flatten).toArray
  | 0, acc => by simp
  | k + 1, acc => by
    have e : acc.toArray ++ its.toArray = (acc ++ its).toArray := by simp
    have e2 : (acc ++ its) ++ (List.replicate k its).flatten = acc ++ (List.replicate (k + 1) its).flatten := by
      rw [List.replicate_succ, List.flatten_cons, List.append_assoc]
    rw [← e2, ← foldl_rep its k (acc ++ its), ← e, List.replicate_succ, List.foldl_cons]

section
variable {X : Cx} {pins : List (Addr × Obj)} {σ : St} {H : Hp} {s : Shared} {l b : Addr} {xs ys zs : List V}

theorem Inv.lset {its its' : List Value} {n : Nat} {f : Array Value → Array Value} {t' : Nat} (I : Inv X pins σ H s) (hH : H l = some (.lst xs))
    (e : s.heap.get? l = some { cls := .type "list", data := .seq its.toArray n }) (hf : f its.toArray = its'.toArray) (hv : Vals ys its') (hz : ys.length ≤ sizeLine) :
    Inv X pins σ (upd H l (.lst ys)) { s with heap := s.heap.update l (Obj.mapSeq f), toks := t' } := by
  have q := PySem.IsL.update e f
  rw [hf] at q
  refine I.write (x := l) (e := l) (by rw [hH]; exact trivial) (.inl rfl) (fun b' u hb hu => (Heap.get?_update_other s.heap (Obj.mapSeq f) (Ne.symm hb)).trans hu) ⟨_, q⟩ ?_
  exact ⟨hz, its', _, hv, q⟩
theorem Inv.lnew {its : List Value} {t' : Nat} (I : Inv X pins σ H s) (hv : Vals ys its) (hz : ys.length ≤ sizeLine) :
    Inv X pins σ (upd H s.heap.objs.size (.lst ys)) { s with heap := s.heap.push { cls := .type "list", data := .seq its.toArray }, toks := t' } :=
  I.laid (fun _ _ q => Heap.get?_push_of_some _ q) (Nat.le_refl _) ⟨hz, its, 0, hv, Heap.get?_push_size _ rfl⟩
theorem Inv.fresh (I : Inv X pins σ H s) : H s.heap.objs.size = none := I.hok.fresh (Nat.le_refl _)
theorem Inv.lstM (I : Inv X pins σ H s) (hH : H l = some (.lst xs)) : xs.length ≤ sizeLine ∧ ∃ (its : List Value) (n : Nat), Vals xs its ∧ xs.length = its.length ∧ s.heap.get? l = some { cls := .type "list", data := .seq its.toArray n } := by
  obtain ⟨z, its, n, r, e⟩ := I.hok l _ hH
  exact ⟨z, its, n, r, r.length, e⟩

theorem notLongL {n : Nat} (h : n ≤ sizeLine) : Builtin.List.listTooLong n = false := by
  unfold Builtin.List.listTooLong
  exact decide_eq_false (by (first | lia | omega))
end

section
variable {X : Cx}

noncomputable def rAppend : V → List V → Hp → VK → Prop := fun x vs H Q => ∃ l xs y, x = .ref l ∧ vs = [y] ∧ H l = some (.lst xs) ∧ xs.length < sizeLine ∧ Q .non (upd H l (.lst (xs ++ [y])))
theorem mt_append : MtM X "list.append" rAppend := by
  intro pins s σ H x vs v us Q I rx rv h
  obtain ⟨l, xs, y, rfl, rfl, hH, hz, q⟩ := h
  cases rx
  obtain ⟨u, rfl, ru⟩ := rv.one
  obtain ⟨z, its, n, r, hl, e⟩ := I.lstM hH
  refine call_meets F.slot_list_append ⟨_, e, rfl⟩ F.entry_list_append (F.args_list_append_2 _ _) (PySem.list_append l its.toArray n u (by rw [List.size_toArray]; (first | lia | omega))) ⟨e, ?_⟩
  refine ⟨.non, _, I.lset (its' := its ++ [u]) hH e (by simp) (r.append (.cons ru .nil)) ?_, rfl, q⟩
  rw [List.length_append, List.length_singleton]
  (first | lia | omega)






noncomputable def rCat : R2 := fun x y H Q => ∃ l b xs zs, x = .ref l ∧ y = .ref b ∧ H l = some (.lst xs) ∧ H b = some (.lst zs) ∧ xs.length + zs.length ≤ sizeLine ∧ ∀ p, H p = none → Q (.ref p) (upd H p (.lst (xs ++ zs)))
theorem op_cat : OpR X (binaryOp .Add) rCat := by
  intro pins s σ H x y v u Q I rx ry h
  obtain ⟨l, b, xs, zs, rfl, rfl, hH, hB, hz, q⟩ := h
  cases rx
  cases ry
  obtain ⟨z, its, n, r, hl, e⟩ := I.lstM hH
  obtain ⟨z2, its2, n2, r2, hl2, e2⟩ := I.lstM hB
  refine PySem.P.add_list e e2 ?_ (by rw [List.size_toArray, List.size_toArray]; (first | lia | omega))
  have ea : its.toArray ++ its2.toArray = (its ++ its2).toArray := by simp
  rw [ea]
  exact ⟨.ref _, _, I.lnew (t' := s.toks) (r.append r2) (by rw [List.length_append]; (first | lia | omega)), rfl, q _ I.fresh⟩
noncomputable def rRep : R2 := fun x y H Q => ∃ l k xs, x = .ref l ∧ y = .int k ∧ H l = some (.lst xs) ∧ -(2 ^ 63) ≤ k ∧ k < 2 ^ 63 ∧ xs.length * k.toNat ≤ sizeLine ∧
  ∀ p, H p = none → Q (.ref p) (upd H p (.lst (List.replicate k.toNat xs).flatten))
theorem len_rep {α : Type} (xs : List α) (k : Nat) : (List.replicate k xs).flatten.length = k * xs.length := by
  induction k with
  | zero => simp
  | succ k ih => rw [List.replicate_succ, List.flatten_cons, List.length_append, ih, Nat.succ_mul, Nat.add_comm]
theorem op_rep : OpR X (binaryOp .Mult) rRep := by
  intro pins s σ H x y v u Q I rx ry h
  obtain ⟨l, k, xs, rfl, rfl, hH, h1, h2, hz, q⟩ := h
  cases rx
  obtain ⟨t, rfl⟩ := ry
  obtain ⟨z, its, n, r, hl, e⟩ := I.lstM hH
  have hlen : its.toArray.size * k.toNat ≤ sizeLine := by rw [List.size_toArray, ← hl]; exact hz
  have hcap : ¬ its.toArray.size * k.toNat > (2 ^ 63 - 1) / 8 := by
    have : (sizeLine : Nat) ≤ (2 ^ 63 - 1) / 8 := by decide
    (first | lia | omega)
  have hfit : ¬ (!Builtin.List.listFitsIndex k) = true := by
    rw [fitsIndex_both h1 h2]
    exact Bool.false_ne_true
  have hlong : ¬ Builtin.List.listTooLong (its.toArray.size * k.toNat) = true := by
    rw [notLongL hlen]
    exact Bool.false_ne_true
  have hnew : List.foldl (fun x1 x2 => x1 ++ x2) #[] (List.replicate (if its.toArray.isEmpty = true then 0 else k.toNat) its.toArray) = (List.replicate k.toNat its).flatten.toArray := by
    have f0 : ∀ m : Nat, List.foldl (fun x1 x2 => x1 ++ x2) #[] (List.replicate m its.toArray) = (List.replicate m its).flatten.toArray := fun m => by
      have := foldl_rep its m []
      rw [List.nil_append] at this
      exact this
    rw [f0]
    cases its with
    | nil => simp
    | cons a r' => rw [if_neg (by simp)]
  refine wpAny_binaryOp_repeat_ref (T := "list") (U := "int") (by decide) ⟨_, e, rfl⟩ (fun s' => typeIs_int s' k t) noFill_list_mul F.fills_int_mul F.slot_int_rmul repeat_list F.slot_int_index.lookup
    (call_meets F.slot_int_rmul (typeIs_int s k t) F.entry_int_rmul (F.args_int_rmul_2 _ _) (int___rmul___int_list k t l its.toArray n)
      ⟨e, rfl, ⟨_, e, rfl⟩, call_meets F.slot_list_mul ⟨_, e, rfl⟩ F.entry_list_mul (F.args_list_mul_2 _ _) (AutoListH.list___mul___list_int_3 l its.toArray n k t hfit hcap hlong) ⟨e, ?_⟩⟩)
  rw [hnew]
  exact ⟨.ref _, _, I.lnew (t' := s.toks) (r.rep k.toNat) (by rw [len_rep, Nat.mul_comm]; exact hz), rfl, q _ I.fresh⟩

end

section
variable {prog : Program} {w : World} {A : Around} {E : Value → Shared → Prop} {s : Shared}
set_option maxRecDepth 100000 in
end

section
variable {X : Cx}
end
end L2

namespace Att
open PySem PySem.W PySem.Calls PyProof.Rows

theorem ints_of_wellAll {P : Params} {h : Heap} : ∀ (ns : List Int) (vs : List Value), WellAll P h vs (ns.map WData.int) → IntsAre vs ns := by
  intro ns
  induction ns with
  | nil =>
    intro vs w
    rw [List.map_nil] at w
    cases w
    exact .nil
  | cons n ns ih =>
    intro vs w
    rw [List.map_cons] at w
    cases w with
    | cons a b =>
      cases a
      exact .cons _ _ (ih _ b)

theorem script_of {l : OpenLaw} {n : Nat} (hn : l.most = some n) {P : Params} {h : Heap} {args : List WData} {vals : List Value}
    (hpre : l.row.toRowW.claim.pre args = true) (hwl : WellAll P h vals args) :
    ∃ a vs ns, vals = [Value.ref a] ∧ args = [WData.list (ns.map WData.int)] ∧ h.get? a = some { cls := .type "list", data := .seq vs.toArray } ∧ IntsAre vs ns ∧ ns.length ≤ n := by
  have hsh : WShape.hasAll [] args [.list .int] = true := (pre_splitW hpre).1
  have hc : l.pre.holds [] { args := args } = true := (pre_splitW hpre).2
  obtain ⟨d, r, rfl, h1, h2⟩ := hasAllW_cons hsh
  obtain rfl := hasAllW_nil h2
  obtain ⟨xs, rfl, h3⟩ := hasW_list h1
  obtain ⟨ns, rfl⟩ := items_int h3
  have hlen : ns.length ≤ n := by
    unfold OpenLaw.pre at hc
    have h4 : (WTm.not (.lt (.lit (.int (n : Int))) (.len (.arg 0)))).holds [] { args := [.list (ns.map .int)] } = true := by
      have h4 := (holds_andW hc).1
      rw [hn] at h4
      exact h4
    have h5 := condW_of h4 (w_not (w_lt w_lit (w_len_list (w_arg rfl))))
    rw [List.length_map] at h5
    refine Nat.le_of_not_lt fun q => ?_
    have q' : (n : Int) < ((ns.length : Nat) : Int) := by (first | lia | omega)
    first
      | (rw [decide_eq_true q'] at h5; exact absurd h5 (by decide))
      | (simp at h5; (first | lia | omega))
  cases hwl with
  | cons w1 w2 =>
    cases w2
    cases w1 with
    | list ho hall => exact ⟨_, _, ns, rfl, rfl, ho, ints_of_wellAll ns _ hall, hlen⟩

theorem post_true (l : OpenLaw) (args : List WData) : l.row.toRowW.claim.post args (.bool true) args = true :=
  postW_of (r := l.row.toRowW) (X := (true == true))
    (show WShape.has [] (.bool true) .bool = true by first | rfl | decide | simp [WShape.has, WShape.arms, WShape.armsAll])
    (show (WTm.eq .res (.lit (.bool true))).value [] { args := args, res := some (.bool true), after := args } = some (.bool (true == true)) from w_eq_bool (w_res rfl) w_lit) rfl




section
variable {prog : Program} {w : World} {A : Around} {E : Value → Shared → Prop} {s : Shared} {K : Frag}






end
end Att

namespace L2
open PySem PySem.Spec PyProof.Rows

theorem vals_ints : ∀ {vs : List Value} {ns : List Int}, IntsAre vs ns → Vals (ns.map V.int) vs
  | _, _, .nil => .nil
  | _, _, .cons n t h => .cons ⟨t, rfl⟩ (vals_ints h)

noncomputable def Only (H : Hp) : Prop := ∀ b, H b = none ∨ ∃ o xs, H b = some (.frz o (.lst xs))

theorem law_call {P : Program} {w : World} {K : PySem.W.Frag} {mg mb : Str → Option Value} {CX : CXT} {k : Nat} {fa a : Addr} {fd : FuncData} {x : Str} {sp : Sp} {s₁ : Shared} {vs : List Value} {ns : List Int}
    (KX : K.In s₁.heap) (hns : s₁.heap.Ns mainGlobals mg) (hb : s₁.heap.Ns builtinsNs mb) (hbb : ∀ x : Str, x ≠ "__name__" → mb x = bootBuiltins x) (hlim : s₁.heap.NoLimit) (hg : s₁.gens = #[])
    (ha : s₁.heap.get? a = some { cls := .type "list", data := .seq vs.toArray }) (hi : IntsAre vs ns) (hl : ns.length ≤ sizeLine) (hr : Room k callerA)
    (F : ∀ base : Heap, K.In base → base.Ns mainGlobals mg → FnOk P w K mg base CX k fa fd [x] sp) (hbind : ∀ (s : Shared) (u : Value), BindsTo s fd ⟨[u], []⟩ [(x, u)])
    (hsp : ∀ H : Hp, Only H → SqL K H a (ns.map V.int) → sp [.ref a] H (fun v _ => v = .bl true) fun _ _ _ => False)
    (hCX : ∀ H e s', CX [] H s₁ (fun _ _ _ => False) e s' → False) :
    codeAny (model P w) callerA (.call (.ref fa) ⟨[.ref a], []⟩) (fun r s' => r = .ok (.ret (.bool true)) ∧ OldK s₁.heap s'.heap ∧ s'.os = s₁.os ∧ AllBare s'.gens) s₁ := by
  have rv := vals_ints hi
  have lenV := hi.length
  -- from an abstract heap in which nothing but the script may be tracked
  have core : ∀ H : Hp, Only H → SqL K H a (ns.map V.int) → HOk P w H s₁.heap → (∀ b, H b ≠ none → b = a) → (H a ≠ none → K.lookup a = none) →
      codeAny (model P w) callerA (.call (.ref fa) ⟨[.ref a], []⟩) (fun r s' => r = .ok (.ret (.bool true)) ∧ OldK s₁.heap s'.heap ∧ s'.os = s₁.os ∧ AllBare s'.gens) s₁ := by
    intro H hO hS hok hA hK
    have base_of : ∀ {b : Addr} {o : Obj}, s₁.heap.get? b = some o → H b = none → (hidT s₁.heap H).get? b = some o := fun e n => hidT_get e n
    have noA : ∀ {b : Addr} {o : Obj} {es : Array DictEntry} {ep : Nat}, s₁.heap.get? b = some o → o.data = .dict es ep → H b = none := fun {b o es ep} e d => by
      cases q : H b with
      | none => rfl
      | some u =>
        have e' : b = a := hA b (by rw [q]; simp)
        subst e'
        rw [ha] at e; cases e
        have d' : Data.seq vs.toArray _ = Data.dict es ep := d
        cases d'
    have nsK : ∀ {b : Addr} {m : Str → Option Value}, s₁.heap.Ns b m → (hidT s₁.heap H).Ns b m := fun {b m} ⟨o, es, ep, e, d, r⟩ => ⟨o, es, ep, base_of e (noA e d), d, r⟩
    have hKb : K.In (hidT s₁.heap H) := fun b o e => base_of (KX b o e) (by
      cases q : H b with
      | none => rfl
      | some u =>
        have e' : b = a := hA b (by rw [q]; simp)
        subst e'
        rw [hK (by rw [q]; simp)] at e; cases e)
    have hM : Mod K mg (hidT s₁.heap H) := ⟨hKb, nsK hns, ⟨mb, nsK hb, hbb⟩, let ⟨mc, h1, h2⟩ := hlim; ⟨mc, nsK h1, h2⟩⟩
    have e0 : Env0 P w K mg (hidT s₁.heap H) callerA [] s₁ H := ⟨rfl, hM, fun b o e => of_hidT e, Nat.le_of_eq (hidT_size _ _), trivial, fun b hb => absurd (show b ∈ ([] : List Addr) from hb) (by simp), hok, .of_eq hg⟩
    refine codeAny_mono ((F _ hKb (nsK hns)).run callerA [] s₁ H ⟨[.ref a], []⟩ [.ref a] [.ref a] _ _ hr e0 (hbind s₁ (.ref a)) (.cons rfl .nil) (hsp H hO hS)) fun r s' h => ?_
    cases r with
    | error e => exact (hCX H e s' h).elim
    | ok fl =>
      cases fl with
      | next => exact False.elim h
      | brk => exact False.elim h
      | cont => exact False.elim h
      | ret u =>
        obtain ⟨v, H', os, bare, un, hok', r', q⟩ := h
        have q' : v = .bl true := q
        subst q'
        obtain rfl : u = Value.bool true := r'
        refine ⟨rfl, OldK.of_keep fun b o e => ?_, os, bare⟩
        cases q : H b with
        | none => exact un.keep b o e q (by intro z; exact absurd (show b ∈ ([] : List Addr) from z) (by simp)) (by simp)
        | some u =>
          rcases hO b with z | ⟨ob, xs, z⟩
          · rw [q] at z; cases z
          · have z2 := un.frzs b ob _ z
            obtain ⟨e1, _⟩ := hok b _ z
            obtain ⟨e2, _⟩ := hok' b _ z2
            rw [e] at e1; cases e1
            exact e2
  cases hk : K.lookup a with
  | some o =>
    -- the script is one of the module's own objects
    have e := KX a o hk
    rw [ha] at e
    cases e
    refine core (fun _ => none) (fun _ => .inl rfl) (.inr ⟨_, vs.toArray, _, hk, rfl, rfl, rfl, by rw [List.size_toArray, lenV]; exact hl, by simpa using rv⟩) (fun b u z => by have z' : (none : Option HO) = some u := z; cases z') (fun b z => absurd rfl z) fun z => absurd rfl z
  | none =>
    refine core (fun b => if b = a then some (.frz { cls := .type "list", data := .seq vs.toArray } (.lst (ns.map V.int))) else none) (fun b => ?_) (.inl (.inr ⟨{ cls := .type "list", data := .seq vs.toArray }, if_pos rfl⟩)) (fun b u z => ?_) (fun b z => ?_) fun _ => hk
    · by_cases hb : b = a
      · exact .inr ⟨_, _, if_pos hb⟩
      · exact .inl (if_neg hb)
    · by_cases hb : b = a
      · have z' := (if_pos hb).symm.trans z
        cases z'
        subst hb
        exact ⟨ha, by rw [List.length_map]; exact hl, vs, _, rv, ha⟩
      · have z' := (if_neg hb).symm.trans z
        cases z'
    · by_cases hb : b = a
      · exact hb
      · exact absurd (if_neg hb) z
end L2

namespace L2
open PySem PySem.Spec PyProof.Rows


end L2

/- THE LAST THEOREM (shape; LID, My.* are yours):
   My.Adr: a structure of the addresses that your layer names (classes, functions); My.Txt K t: a structure (Prop) of the equations over K;
   My.txt_mk : {K} {implicit addresses ..} (e1 : nsIn K mainGlobals "law" = some (some (.ref f))) (e2 : K.lookup f = some ⟨oc, od, .func (fnOf "law" "law" params body scope dV kV doc pm an cdv ct), sl⟩) (e3 : codeIn K cdv "law" = true) .. : ∃ t, My.Txt K t

set_option maxRecDepth 100000 in
set_option maxHeartbeats 0 in
theorem PySem.Challenge.cw_LID_holds : PySem.Challenge.rw_LID.Holds := by
  w_on; o_law; k_head; (case hw => w_witness2)
  k_fill
  refine L2.walk_of (l := PySem.Challenge.rw_LID) (n := 63) (k := 40) (x := "script") (CX := fun w => ..) (sp := fun _ => My.sp_law) rfl (by decide) rfl ⟨rfl, by decide, by decide⟩ (fun w h Y => PySem.W.kIn_of Y) ?F ?S ?C
  case F =>
    intro w mg fa h KX G hmg
    have T : ∃ t, My.Txt (L2.KOf KX) t := by
      dsimp only [L2.KOf]                          -- K must stand as «<heap const> w.params» for k_is
      refine' My.txt_mk ?e1 ?e2 ?e3 ..
      (case e1 => PySem.W.k_is)                    -- in the order: a name -> its address -> its object -> its parts
      (case e2 => PySem.W.k_is)
      ..
    obtain ⟨t, T⟩ := T
    have e0 := hmg.symm.trans (PySem.W.mg_of KX G T.law)
    cases e0                                       -- fa is the law's own address
    exact ⟨_, fun s u => .of_eq rfl, fun base kb nb => My.law_fn T kb nb⟩     -- if «.of_eq rfl» comes too early: refine' ⟨_, ?b, fun base kb nb => My.law_fn T kb nb⟩; exact fun s u => .of_eq rfl
  case S => exact fun w H a ns hl hO hS => ..
  case C => exact ..
(the tactic k_is has no namespace: write k_is) -/

namespace L2
open PySem PySem.Spec PyProof.Rows

noncomputable def inClass (s : Stmt) (j : Nat) : Stmt := match s with
  | .ClassDef _ _ _ body _ _ _ _ _ _ _ => body.getD j (.Pass ⟨0, 0, 0, 0⟩)
  | _ => .Pass ⟨0, 0, 0, 0⟩
noncomputable def defArgs (s : Stmt) : Arguments := match s with
  | .FunctionDef _ a _ _ _ _ _ _ _ _ => a
  | _ => { posonlyargs := [], args := [], vararg := none, kwonlyargs := [], kw_defaults := [], kwarg := none, defaults := [] }
noncomputable def defBody (s : Stmt) : List Stmt := match s with
  | .FunctionDef _ _ b _ _ _ _ _ _ _ => b
  | _ => []
noncomputable def defScope (s : Stmt) : Scope := match s with
  | .FunctionDef _ _ _ _ _ _ sc _ _ _ => sc
  | _ => { kind := .function, names := [], isGenerator := false, isCoroutine := false }

noncomputable abbrev CX0 : CXT := fun _ _ _ _ _ _ => False
noncomputable abbrev E0 : XK := fun _ _ _ => False
theorem pass0 {X : Cx} : Passes CX0 X E0 := fun _ _ _ _ _ _ _ h => h.elim

structure Fun (K : PySem.W.Frag) (x qual : Str) (st : Stmt) (f : Addr) (fd : FuncData) : Prop where
  ex : ∃ (oc : Value) (od : Option Addr) (kV doc pm : Value) (an : Option Addr) (cdv ct : Value) (osl : Array (Option Value)),
    fd = PySem.W.fnOf x qual (defArgs st) (defBody st) (defScope st) .none kV doc pm an cdv ct ∧ K.lookup f = some ⟨oc, od, .func fd, osl⟩ ∧ PySem.W.codeIn K cdv qual = true
  kp : PySem.W.keepIn K (.ref f) = true
section
variable {P : Program} {w : World} {K : PySem.W.Frag} {mg : Str → Option Value} {base : Heap}
theorem Fun.ok {x qual : Str} {st : Stmt} {f : Addr} {fd : FuncData} {N ps : List Str} {k : Nat} {sp : Sp} (F : Fun K x qual st f fd) (S : FnScope N ps (defScope st)) (len : ∀ vs H Q E, sp vs H Q E → vs.length = ps.length)
    (hbody : ∀ (cdv : Value) (A : Around) (outer : List Env) (s : Shared) (H : Hp) (vs : List V) (Q : VK) (E : XK), Room k (A.deeper (envOfC qual (defScope st) s.heap.objs.size f cdv)) → sp vs H Q E →
      ∃ t, PSs (cxOf CX0 P w K mg base N qual (defScope st) f cdv A outer s H E).nox (defBody st) t ∧ t { nx := fun _ H' => Q .non H', rt := Q } (start N vs) H) : FnOk P w K mg base CX0 (k + 1) f fd ps sp := by
  obtain ⟨oc, od, kV, doc, pm, an, cdv, ct, osl, rfl, lk, hcd⟩ := F.ex
  refine fn_of lk hcd S len fun A outer s H vs Q E hr hsp => ?_
  obtain ⟨t, h, q⟩ := hbody cdv A outer s H vs Q E hr hsp
  exact ⟨t, h.nox, q⟩
theorem Fun.binds {x qual : Str} {st : Stmt} {f : Addr} {fd : FuncData} {ps : List Str} (F : Fun K x qual st f fd)
    (h : ∀ (kV doc pm : Value) (an : Option Addr) (cdv ct : Value) (us : List Value), us.length = ps.length → bindArgs (PySem.W.fnOf x qual (defArgs st) (defBody st) (defScope st) .none kV doc pm an cdv ct) ⟨us, []⟩ = pure (ps.zip us)) : Binds K fd ps [] := by
  obtain ⟨oc, od, kV, doc, pm, an, cdv, ct, osl, rfl, lk, hcd⟩ := F.ex
  exact .all (h kV doc pm an cdv ct)
theorem fun_mk {x qual : Str} {st : Stmt} {f : Addr} {oc : Value} {od an : Option Addr} {osl : Array (Option Value)} {kV doc pm cdv ct : Value} (l : K.lookup f = some ⟨oc, od, .func (PySem.W.fnOf x qual (defArgs st) (defBody st) (defScope st) .none kV doc pm an cdv ct), osl⟩)
    (c : PySem.W.codeIn K cdv qual = true) (k : PySem.W.keepIn K (.ref f) = true) : Fun K x qual st f (PySem.W.fnOf x qual (defArgs st) (defBody st) (defScope st) .none kV doc pm an cdv ct) := ⟨⟨oc, od, kV, doc, pm, an, cdv, ct, osl, rfl, l, c⟩, k⟩
end

section
variable {X : Cx}
theorem pv (i : Nat) {x : Str} {pos : Pos} (hN : X.N[i]? = some x := by rfl) (hv : Vis X.env.scope x := by first | exact Or.inl rfl | exact Or.inr (Or.inl rfl) | exact Or.inr (Or.inr rfl)) (hd : (x == ("__debug__" : Str)) = false := by decide)
    (hcd : (x == ("__classdict__" : Str)) = false := by decide) : PE X (.Name x pos) (tVar i) := pe_var hN hv hd hcd
end

theorem iteF {A B : Prop} (h : B) : if false = true then A else B := by
  rw [if_neg Bool.false_ne_true]
  exact h
theorem iteT {A B : Prop} (h : A) : if true = true then A else B := by
  rw [if_pos rfl]
  exact h
theorem ite2 {c A B : Prop} [Decidable c] (h1 : c → A) (h2 : ¬ c → B) : if c then A else B := by
  by_cases h : c
  · rw [if_pos h]
    exact h1 h
  · rw [if_neg h]
    exact h2 h
theorem iteNS {c A B : Prop} [Decidable c] (hc : c) (h : B) : if (!decide c) = true then A else B := by
  rw [decide_eq_true hc]
  exact iteF h

noncomputable def Same (H H' : Hp) : Prop := ∀ b o, H b = some o → H' b = some o
theorem Same.refl (H : Hp) : Same H H := fun _ _ h => h
theorem Same.trans {H H1 H2 : Hp} (a : Same H H1) (b : Same H1 H2) : Same H H2 := fun c o h => b c o (a c o h)
theorem Same.free {H H' : Hp} (e : Same H H') {l : Addr} (h : H' l = Option.none) : H l = Option.none := by
  cases q : H l with
  | none => rfl
  | some o =>
    rw [e l o q] at h
    cases h
theorem Same.seq {K : PySem.W.Frag} {H H' : Hp} {a : Addr} {xs : List V} (e : Same H H') (h : SqL K H a xs) : SqL K H' a xs := by
  rcases h with (h | ⟨o, h⟩) | h
  · exact .inl (.inl (e _ _ h))
  · exact .inl (.inr ⟨o, e _ _ h⟩)
  · exact .inr h

end L2

namespace Ra
noncomputable def Bt (n : Nat) (x : Int) : Prop := x.natAbs < 2 ^ n
theorem Bt.mono {m n : Nat} {x : Int} (h : Bt m x) (l : m ≤ n) : Bt n x := Nat.lt_of_lt_of_le h (Nat.pow_le_pow_right (by decide) l)
theorem Bt.neg {n : Nat} {x : Int} (h : Bt n x) : Bt n (-x) := by unfold Bt at *; rw [Int.natAbs_neg]; exact h
theorem Bt.mul {m n : Nat} {x y : Int} (h : Bt m x) (k : Bt n y) : Bt (m + n) (x * y) := by
  unfold Bt at *
  rw [Int.natAbs_mul, Nat.pow_add]
  exact Nat.mul_lt_mul'' h k
theorem Bt.of_le {n : Nat} {x y : Int} (h : Bt n x) (k : y.natAbs ≤ x.natAbs) : Bt n y := Nat.lt_of_le_of_lt k h
theorem Bt.ediv {n : Nat} {x y : Int} (h : Bt n x) : Bt n (x / y) := h.of_le (Int.natAbs_ediv_le_natAbs x y)
theorem Bt.zero {n : Nat} : Bt n 0 := Nat.pow_pos (by decide)
theorem Bt.between {n : Nat} {x : Int} (h : -(2 ^ n : Int) < x) (k : x < (2 ^ n : Int)) : Bt n x := by
  unfold Bt
  have e : ((2 ^ n : Nat) : Int) = (2 : Int) ^ n := by push_cast; rfl
  (first | lia | omega)

noncomputable def g (a b : Int) : Int := (Int.gcd a b : Nat)
theorem g_nonneg (a b : Int) : 0 ≤ g a b := Int.natCast_nonneg _
theorem g_dvd_left (a b : Int) : g a b ∣ a := Int.gcd_dvd_left a b
theorem g_dvd_right (a b : Int) : g a b ∣ b := Int.gcd_dvd_right a b
theorem g_pos {a b : Int} (h : b ≠ 0) : 0 < g a b := by
  have h1 : 0 < Int.gcd a b := Int.gcd_pos_of_ne_zero_right a h
  unfold g
  (first | lia | omega)
structure Fq (a b : Int) : Prop where
  pos : 0 < b
  one : Int.gcd a b = 1
theorem cop_mul {a b c : Int} (h : Int.gcd a b = 1) (k : Int.gcd a c = 1) : Int.gcd a (b * c) = 1 := by
  show Nat.gcd a.natAbs (b * c).natAbs = 1
  rw [Int.natAbs_mul]
  exact Nat.Coprime.mul_right h k
theorem cop_mull {a b c : Int} (h : Int.gcd a c = 1) (k : Int.gcd b c = 1) : Int.gcd (a * b) c = 1 := by
  rw [Int.gcd_comm]
  exact cop_mul (by rw [Int.gcd_comm]; exact h) (by rw [Int.gcd_comm]; exact k)
theorem cop_dvd {a b c : Int} (h : Int.gcd a b = 1) (d : c ∣ a) : Int.gcd c b = 1 := by
  have hd : c.natAbs ∣ a.natAbs := Int.natAbs_dvd_natAbs.mpr d
  exact Nat.Coprime.coprime_dvd_left hd h
theorem cop_dvdr {a b c : Int} (h : Int.gcd a b = 1) (d : c ∣ b) : Int.gcd a c = 1 := by
  rw [Int.gcd_comm]
  exact cop_dvd (by rw [Int.gcd_comm]; exact h) d
theorem div_cop {a b : Int} (h : b ≠ 0) : Int.gcd (a / g a b) (b / g a b) = 1 := by
  have hp : 0 < Int.gcd a b := Int.gcd_pos_of_ne_zero_right a h
  exact Int.gcd_ediv_gcd_ediv_gcd hp
theorem cop_add {a b k : Int} (h : Int.gcd a b = 1) : Int.gcd (a + k * b) b = 1 := by
  rw [Int.gcd_add_mul_right_left]
  exact h

theorem mul_g {a b : Int} : g a b * (a / g a b) = a := Int.mul_ediv_cancel' (g_dvd_left a b)
theorem mul_gr {a b : Int} : g a b * (b / g a b) = b := Int.mul_ediv_cancel' (g_dvd_right a b)
theorem low_ok {t b : Int} (hb : 0 < b) : Fq (t / g t b) (b / g t b) ∧ (t / g t b) * b = t * (b / g t b) := by
  have hg : 0 < g t b := g_pos (by (first | lia | omega))
  refine ⟨⟨?_, div_cop (by (first | lia | omega))⟩, ?_⟩
  · exact Int.ediv_pos_of_pos_of_dvd hb (Int.le_of_lt hg) (g_dvd_right t b)
  · have e1 := @mul_g t b
    have e2 := @mul_gr t b
    generalize t / g t b = x at *
    generalize b / g t b = y at *
    calc x * b = x * (g t b * y) := by rw [e2]
      _ = (g t b * x) * y := by rw [← Int.mul_assoc, Int.mul_comm x]
      _ = t * y := by rw [e1]
noncomputable def plsT (a b c d : Int) : Int := a * (d / g b d) + c * (b / g b d)
noncomputable def plsN (a b c d : Int) : Int := plsT a b c d / g (plsT a b c d) (g b d)
noncomputable def plsD (a b c d : Int) : Int := (b / g b d) * (d / g (plsT a b c d) (g b d))
theorem pls_ok {a b c d : Int} (h : Fq a b) (k : Fq c d) : Fq (plsN a b c d) (plsD a b c d) ∧ plsN a b c d * (b * d) = (a * d + c * b) * plsD a b c d := by
  have hs : 0 < g b d := g_pos (by have := k.pos; (first | lia | omega))
  obtain ⟨s, hs'⟩ : ∃ s, s = g b d := ⟨_, rfl⟩
  obtain ⟨x, hx⟩ : ∃ x, x = b / g b d := ⟨_, rfl⟩
  obtain ⟨y, hy⟩ : ∃ y, y = d / g b d := ⟨_, rfl⟩
  obtain ⟨t, ht⟩ : ∃ t, t = a * y + c * x := ⟨_, rfl⟩
  have et : plsT a b c d = t := by rw [ht, hx, hy]; rfl
  have eb : s * x = b := by rw [hs', hx]; exact mul_g
  have ed : s * y = d := by rw [hs', hy]; exact mul_gr
  have cxy : Int.gcd x y = 1 := by rw [hx, hy]; exact div_cop (by have := k.pos; (first | lia | omega))
  have hx0 : 0 < x := by rw [hx]; exact Int.ediv_pos_of_pos_of_dvd h.pos (g_nonneg _ _) (g_dvd_left _ _)
  have hy0 : 0 < y := by rw [hy]; exact Int.ediv_pos_of_pos_of_dvd k.pos (g_nonneg _ _) (g_dvd_right _ _)
  rw [← hs'] at hs
  obtain ⟨l, hl⟩ : ∃ l, l = g t s := ⟨_, rfl⟩
  have hl0 : 0 < l := by rw [hl]; exact g_pos (by (first | lia | omega))
  obtain ⟨T, hT⟩ : ∃ T, T = t / g t s := ⟨_, rfl⟩
  obtain ⟨S, hS⟩ : ∃ S, S = s / g t s := ⟨_, rfl⟩
  have eT : l * T = t := by rw [hl, hT]; exact mul_g
  have eS : l * S = s := by rw [hl, hS]; exact mul_gr
  have cTS : Int.gcd T S = 1 := by rw [hT, hS]; exact div_cop (by (first | lia | omega))
  have hS0 : 0 < S := by rw [hS]; exact Int.ediv_pos_of_pos_of_dvd hs (g_nonneg _ _) (g_dvd_right _ _)
  have eN : plsN a b c d = T := by unfold plsN; rw [et, ← hs', hT]
  have eD : plsD a b c d = x * (S * y) := by
    unfold plsD
    have hdl : d / g t s = S * y := by rw [← hl, ← ed, ← eS, Int.mul_assoc, Int.mul_ediv_cancel_left _ (by (first | lia | omega))]
    rw [et, ← hx, ← hs', hdl]
  have cax : Int.gcd a x = 1 := cop_dvdr h.one ⟨s, by rw [← eb, Int.mul_comm]⟩
  have ccy : Int.gcd c y = 1 := cop_dvdr k.one ⟨s, by rw [← ed, Int.mul_comm]⟩
  have ctx : Int.gcd t x = 1 := by
    rw [ht]
    exact cop_add (cop_mull cax (by rw [Int.gcd_comm]; exact cxy))
  have cty : Int.gcd t y = 1 := by
    rw [ht, Int.add_comm]
    exact cop_add (cop_mull ccy cxy)
  have dT : T ∣ t := ⟨l, by rw [← eT, Int.mul_comm]⟩
  rw [eN, eD]
  refine ⟨⟨Int.mul_pos hx0 (Int.mul_pos hS0 hy0), cop_mul (cop_dvd ctx dT) (cop_mul cTS (cop_dvd cty dT))⟩, ?_⟩
  have e1 : a * d + c * b = s * t := by
    rw [← ed, ← eb, ht, Int.mul_add]
    simp [Int.mul_comm, Int.mul_left_comm, Int.mul_assoc]
  rw [e1, ← eT, ← ed, ← eb, ← eS]
  simp [Int.mul_comm, Int.mul_left_comm, Int.mul_assoc]
noncomputable def tmsN (a b c d : Int) : Int := (a / g a d) * (c / g c b)
noncomputable def tmsD (a b c d : Int) : Int := (b / g c b) * (d / g a d)
theorem tms_ok {a b c d : Int} (h : Fq a b) (k : Fq c d) : Fq (tmsN a b c d) (tmsD a b c d) ∧ tmsN a b c d * (b * d) = (a * c) * tmsD a b c d := by
  have hb := h.pos
  have hd := k.pos
  have p1 : 0 < g a d := g_pos (by (first | lia | omega))
  have p2 : 0 < g c b := g_pos (by (first | lia | omega))
  obtain ⟨f, hf⟩ : ∃ f, f = g a d := ⟨_, rfl⟩
  obtain ⟨s, hs⟩ : ∃ s, s = g c b := ⟨_, rfl⟩
  obtain ⟨a', ha'⟩ : ∃ x, x = a / g a d := ⟨_, rfl⟩
  obtain ⟨d', hd'⟩ : ∃ x, x = d / g a d := ⟨_, rfl⟩
  obtain ⟨c', hc'⟩ : ∃ x, x = c / g c b := ⟨_, rfl⟩
  obtain ⟨b', hb'⟩ : ∃ x, x = b / g c b := ⟨_, rfl⟩
  have ea : f * a' = a := by rw [hf, ha']; exact mul_g
  have ed : f * d' = d := by rw [hf, hd']; exact mul_gr
  have ec : s * c' = c := by rw [hs, hc']; exact mul_g
  have eb : s * b' = b := by rw [hs, hb']; exact mul_gr
  have c1 : Int.gcd a' d' = 1 := by rw [ha', hd']; exact div_cop (by (first | lia | omega))
  have c2 : Int.gcd c' b' = 1 := by rw [hc', hb']; exact div_cop (by (first | lia | omega))
  have c3 : Int.gcd a' b' = 1 := cop_dvd (cop_dvdr h.one ⟨s, by rw [← eb, Int.mul_comm]⟩) ⟨f, by rw [← ea, Int.mul_comm]⟩
  have c4 : Int.gcd c' d' = 1 := cop_dvd (cop_dvdr k.one ⟨f, by rw [← ed, Int.mul_comm]⟩) ⟨s, by rw [← ec, Int.mul_comm]⟩
  have hb0 : 0 < b' := by rw [hb']; exact Int.ediv_pos_of_pos_of_dvd hb (g_nonneg _ _) (g_dvd_right _ _)
  have hd0 : 0 < d' := by rw [hd']; exact Int.ediv_pos_of_pos_of_dvd hd (g_nonneg _ _) (g_dvd_right _ _)
  have eN : tmsN a b c d = a' * c' := by unfold tmsN; rw [ha', hc']
  have eD : tmsD a b c d = b' * d' := by unfold tmsD; rw [hb', hd']
  rw [eN, eD]
  refine ⟨⟨Int.mul_pos hb0 hd0, cop_mull (cop_mul c3 c1) (cop_mul c2 c4)⟩, ?_⟩
  rw [← ea, ← ed, ← ec, ← eb]
  simp [Int.mul_comm, Int.mul_left_comm, Int.mul_assoc]
theorem g_step {a b : Int} (ha : 0 ≤ a) (hb : 0 < b) : g b (a % b) = g a b := by
  unfold g
  rw [Int.gcd_comm a b]
  exact congrArg _ (by rw [Int.emod_def, Int.sub_eq_add_neg, ← Int.mul_neg, Int.gcd_add_mul_left_right])
theorem g_end {a : Int} (ha : 0 ≤ a) : g a 0 = a := by
  unfold g
  rw [Int.gcd_zero_right]
  (first | lia | omega)
theorem g_abs (a b : Int) : g (if a < 0 then -a else a) (if b < 0 then -b else b) = g a b := by
  unfold g
  split <;> split <;> simp
end Ra

namespace Ra
noncomputable def sgn (a : Int) : Int := if a > 0 then 1 else if a < 0 then -1 else 0
end Ra

namespace Rq
open Ra
theorem den_pos (q : Rat) : (0 : Int) < (q.den : Int) := by have := q.den_pos; (first | lia | omega)
theorem den_ne (q : Rat) : ((q.den : Int) : Rat) ≠ 0 := fun h => by
  have := den_pos q
  have h2 : (q.den : Int) = 0 := Rat.intCast_eq_zero_iff.mp h
  (first | lia | omega)
theorem fq (q : Rat) : Fq q.num q.den := ⟨den_pos q, q.reduced⟩
theorem q_eq (q : Rat) : (q.num : Rat) / ((q.den : Int) : Rat) = q := by
  rw [← Rat.divInt_eq_div]
  exact Rat.num_divInt_den q
theorem of_low {N D T M : Int} (f : Fq N D) (hM : M ≠ 0) (e : N * M = T * D) {q : Rat} (hq : q = (T : Rat) / (M : Rat)) : q.num = N ∧ (q.den : Int) = D := by
  have hD := f.pos
  have hd : D.toNat ≠ 0 := by (first | lia | omega)
  have ed : ((D.toNat : Nat) : Int) = D := by (first | lia | omega)
  have hr : N.natAbs.Coprime D.toNat := by
    have h := f.one
    have e2 : D.natAbs = D.toNat := by (first | lia | omega)
    rw [← e2]
    exact h
  have key : q = (⟨N, D.toNat, hd, hr⟩ : Rat) := by
    rw [hq, ← Rat.divInt_eq_div, Rat.mk_eq_divInt, ed]
    exact (Rat.divInt_eq_divInt_iff hM (by (first | lia | omega))).mpr e.symm
  rw [key]
  exact ⟨rfl, ed⟩
theorem eq_of_low {N D : Int} (f : Fq N D) {q : Rat} (hq : q = (N : Rat) / (D : Rat)) : q.num = N ∧ (q.den : Int) = D := of_low f (by have := f.pos; (first | lia | omega)) rfl hq
theorem over_one (q : Rat) : q = q / ((1 : Int) : Rat) := by
  have : ((1 : Int) : Rat) = 1 := rfl
  rw [this]
  grind
theorem num_zero {q : Rat} : q.num = 0 ↔ q = 0 := Rat.num_eq_zero
theorem pls_q (p q : Rat) : plsN p.num p.den q.num q.den = (p + q).num ∧ plsD p.num p.den q.num q.den = ((p + q).den : Int) := by
  obtain ⟨f, e⟩ := pls_ok (fq p) (fq q)
  have h1 := den_pos p
  have h2 := den_pos q
  obtain ⟨a, b⟩ := of_low (q := p + q) f (Int.ne_of_gt (Int.mul_pos h1 h2)) e (by
    have e1 := q_eq p
    have e2 := q_eq q
    have n1 := den_ne p
    have n2 := den_ne q
    simp only [Rat.intCast_add, Rat.intCast_mul]
    generalize (p.num : Rat) = a at *
    generalize ((p.den : Int) : Rat) = b at *
    generalize (q.num : Rat) = c at *
    generalize ((q.den : Int) : Rat) = d at *
    subst e1 e2
    grind)
  exact ⟨a.symm, b.symm⟩
theorem mns_q (p q : Rat) : plsN p.num p.den (-q.num) q.den = (p - q).num ∧ plsD p.num p.den (-q.num) q.den = ((p - q).den : Int) := by
  have h := pls_q p (-q)
  rw [Rat.neg_num, Rat.neg_den, ← Rat.sub_eq_add_neg] at h
  exact h
theorem tms_q (p q : Rat) : tmsN p.num p.den q.num q.den = (p * q).num ∧ tmsD p.num p.den q.num q.den = ((p * q).den : Int) := by
  obtain ⟨f, e⟩ := tms_ok (fq p) (fq q)
  have h1 := den_pos p
  have h2 := den_pos q
  obtain ⟨a, b⟩ := of_low (q := p * q) f (Int.ne_of_gt (Int.mul_pos h1 h2)) e (by
    have e1 := q_eq p
    have e2 := q_eq q
    have n1 := den_ne p
    have n2 := den_ne q
    simp only [Rat.intCast_mul]
    generalize (p.num : Rat) = a at *
    generalize ((p.den : Int) : Rat) = b at *
    generalize (q.num : Rat) = c at *
    generalize ((q.den : Int) : Rat) = d at *
    subst e1 e2
    grind)
  exact ⟨a.symm, b.symm⟩
theorem low_q {t b : Int} (hb : 0 < b) : t / g t b = ((t : Rat) / (b : Rat)).num ∧ b / g t b = (((t : Rat) / (b : Rat)).den : Int) := by
  obtain ⟨f, e⟩ := low_ok (t := t) hb
  obtain ⟨a, b⟩ := of_low f (by (first | lia | omega)) e rfl
  exact ⟨a.symm, b.symm⟩
noncomputable def Bq (n : Nat) (q : Rat) : Prop := Bt n q.num ∧ Bt n (q.den : Int)
theorem Bq.mono {m n : Nat} {q : Rat} (h : Bq m q) (l : m ≤ n) : Bq n q := ⟨h.1.mono l, h.2.mono l⟩
theorem Bq.zero {n : Nat} (h : 0 < n) : Bq n 0 := ⟨Bt.zero, Bt.mono (m := 1) (by show (1 : Nat) < 2 ^ 1; decide) h⟩
theorem Bq.one {n : Nat} (h : 0 < n) : Bq n 1 := ⟨Bt.mono (m := 1) (by show (1 : Nat) < 2 ^ 1; decide) h, Bt.mono (m := 1) (by show (1 : Nat) < 2 ^ 1; decide) h⟩
theorem dvd_of {T M : Int} {q : Rat} (hM : M ≠ 0) (hq : q = (T : Rat) / (M : Rat)) : q.num ∣ T ∧ (q.den : Int) ∣ M := by
  have e : q.num * M = T * q.den := by
    have e1 : (q.num : Rat) / ((q.den : Int) : Rat) = (T : Rat) / (M : Rat) := (q_eq q).trans hq
    rw [← Rat.divInt_eq_div, ← Rat.divInt_eq_div] at e1
    exact (Rat.divInt_eq_divInt_iff (by have := den_pos q; (first | lia | omega)) hM).mp e1
  have c := (fq q).one
  constructor
  · have d : q.num ∣ T * q.den := ⟨M, e.symm⟩
    have d' := Int.natAbs_dvd_natAbs.mpr d
    rw [Int.natAbs_mul] at d'
    exact Int.natAbs_dvd_natAbs.mp (Nat.Coprime.dvd_of_dvd_mul_right c d')
  · have d : (q.den : Int) ∣ q.num * M := ⟨T, by rw [e, Int.mul_comm]⟩
    have d' := Int.natAbs_dvd_natAbs.mpr d
    rw [Int.natAbs_mul] at d'
    exact Int.natAbs_dvd_natAbs.mp (Nat.Coprime.dvd_of_dvd_mul_left (Nat.Coprime.symm c) d')
theorem bq_of {n : Nat} {T M : Int} {q : Rat} (hM : M ≠ 0) (hq : q = (T : Rat) / (M : Rat)) (bT : Bt n T) (bM : Bt n M) : Bq n q := by
  obtain ⟨d1, d2⟩ := dvd_of hM hq
  refine ⟨?_, bM.of_le (Nat.le_of_dvd (by (first | lia | omega)) (Int.natAbs_dvd_natAbs.mpr d2))⟩
  by_cases h : T = 0
  · subst h
    have : q = 0 := by rw [hq]; simp [Rat.div_def]
    rw [this]
    exact Bt.zero
  · exact bT.of_le (Nat.le_of_dvd (by (first | lia | omega)) (Int.natAbs_dvd_natAbs.mpr d1))
theorem bt_add {n : Nat} {x y : Int} (h : Bt n x) (k : Bt n y) : Bt (n + 1) (x + y) := by
  unfold Bt at *
  have a := Int.natAbs_add_le x y
  rw [Nat.pow_succ]
  (first | lia | omega)
theorem Bq.add {m n : Nat} {p q : Rat} (h : Bq m p) (k : Bq n q) : Bq (m + n + 1) (p + q) := by
  obtain ⟨e1, e2⟩ := pls_q p q
  rw [Bq, ← e1, ← e2]
  refine ⟨(bt_add (h.1.mul k.2.ediv) ((k.1.mul h.2.ediv).mono (by (first | lia | omega)))).ediv, (h.2.ediv.mul k.2.ediv).mono (by (first | lia | omega))⟩
theorem Bq.int {n : Nat} {i : Int} (h : Bt n i) (hn : 0 < n) : Bq n (i : Rat) := ⟨h, Bt.mono (m := 1) (by show (1 : Nat) < 2 ^ 1; decide) hn⟩
theorem Bq.mul {m n : Nat} {p q : Rat} (h : Bq m p) (k : Bq n q) : Bq (m + n) (p * q) := by
  obtain ⟨e1, e2⟩ := tms_q p q
  rw [Bq, ← e1, ← e2]
  exact ⟨h.1.ediv.mul k.1.ediv, h.2.ediv.mul k.2.ediv⟩
end Rq

namespace Po
open Ra Rq
noncomputable def strip : List Rat → List Rat
  | [] => []
  | q :: qs => match strip qs with
    | [] => if q = 0 then [] else [q]
    | r :: rs => q :: r :: rs
theorem strip_snoc0 (xs : List Rat) : strip (xs ++ [0]) = strip xs := by
  induction xs with
  | nil => rfl
  | cons x xs ih =>
    rw [List.cons_append, strip, ih, strip]
theorem strip_snoc {q : Rat} (h : q ≠ 0) (xs : List Rat) : strip (xs ++ [q]) = xs ++ [q] := by
  induction xs with
  | nil => simp [strip, h]
  | cons x xs ih =>
    rw [List.cons_append, strip, ih]
    cases xs <;> rfl
theorem take_snoc {α : Type} {xs : List α} {n : Nat} {x : α} (h : xs[n]? = some x) : xs.take (n + 1) = xs.take n ++ [x] := by
  rw [List.take_succ, h]
  rfl
theorem strip_length (xs : List Rat) : (strip xs).length ≤ xs.length := by
  induction xs with
  | nil => exact Nat.le_refl _
  | cons x xs ih =>
    rw [strip]
    cases h : strip xs with
    | nil =>
      rw [h] at ih
      by_cases hx : x = 0 <;> simp [hx]
    | cons r rs =>
      rw [h] at ih
      simp only [List.length_cons] at *
      (first | lia | omega)
theorem strip_take (xs : List Rat) : strip xs = xs.take (strip xs).length := by
  induction xs with
  | nil => rfl
  | cons x xs ih =>
    rw [strip]
    cases h : strip xs with
    | nil => by_cases hx : x = 0 <;> simp [hx]
    | cons r rs =>
      rw [h] at ih
      simp only [List.length_cons, List.take_succ_cons]
      rw [List.length_cons] at ih
      rw [← ih]
theorem strip_mem {xs : List Rat} {q : Rat} (h : q ∈ strip xs) : q ∈ xs := by
  rw [strip_take] at h
  exact List.mem_of_mem_take h
theorem strip_strip (xs : List Rat) : strip (strip xs) = strip xs := by
  induction xs with
  | nil => rfl
  | cons x xs ih =>
    rw [strip]
    cases h : strip xs with
    | nil => by_cases hx : x = 0 <;> simp [hx, strip]
    | cons r rs =>
      rw [h] at ih
      show strip (x :: r :: rs) = _
      rw [strip, ih]
theorem getD_strip (xs : List Rat) (i : Nat) : (strip xs).getD i 0 = xs.getD i 0 := by
  induction xs generalizing i with
  | nil => rfl
  | cons x xs ih =>
    rw [strip]
    cases h : strip xs with
    | nil =>
      rw [h] at ih
      cases i with
      | zero => by_cases hx : x = 0 <;> simp [hx]
      | succ i =>
        have e := ih i
        by_cases hx : x = 0 <;> simp [hx] at * <;> exact e
    | cons r rs =>
      rw [h] at ih
      cases i with
      | zero => rfl
      | succ i => simpa using ih i
noncomputable def ev : List Rat → Rat → Rat
  | [], _ => 0
  | q :: qs, x => q + x * ev qs x
noncomputable def padd (ps qs : List Rat) : List Rat := strip ((List.range (max ps.length qs.length)).map fun k => ps.getD k 0 + qs.getD k 0)
noncomputable def psub (ps qs : List Rat) : List Rat := strip ((List.range (max ps.length qs.length)).map fun k => ps.getD k 0 - qs.getD k 0)
noncomputable def pscale (qs : List Rat) (x : Rat) : List Rat := strip (qs.map (· * x))
noncomputable def pslope (qs : List Rat) : List Rat := (List.range (qs.length - 1)).map fun k => qs.getD (k + 1) 0 * (((1 : Int) + (k : Int) : Int) : Rat)
noncomputable def sm (f : Nat → Rat) (n : Nat) : Rat := (List.range n).foldl (fun acc i => acc + f i) 0
theorem sm_zero (f : Nat → Rat) : sm f 0 = 0 := rfl
theorem sm_succ (f : Nat → Rat) (n : Nat) : sm f (n + 1) = sm f n + f n := by
  unfold sm
  rw [List.range_succ, List.foldl_append]
  rfl
theorem sm_congr {f h : Nat → Rat} {n : Nat} (e : ∀ i, i < n → f i = h i) : sm f n = sm h n := by
  induction n with
  | zero => rfl
  | succ n ih => rw [sm_succ, sm_succ, ih fun i hi => e i (by (first | lia | omega)), e n (by (first | lia | omega))]
theorem sm_first (f : Nat → Rat) (n : Nat) : sm f (n + 1) = f 0 + sm (fun i => f (i + 1)) n := by
  induction n with
  | zero => rw [sm_succ, sm_zero, sm_zero]; grind
  | succ n ih => rw [sm_succ, ih, sm_succ]; grind
theorem sm_add (f h : Nat → Rat) (n : Nat) : sm (fun i => f i + h i) n = sm f n + sm h n := by
  induction n with
  | zero => rw [sm_zero, sm_zero, sm_zero]; grind
  | succ n ih => rw [sm_succ, sm_succ, sm_succ, ih]; grind
theorem sm_mul (c : Rat) (f : Nat → Rat) (n : Nat) : sm (fun i => c * f i) n = c * sm f n := by
  induction n with
  | zero => rw [sm_zero, sm_zero]; grind
  | succ n ih => rw [sm_succ, sm_succ, ih]; grind
theorem sm_zeros {f : Nat → Rat} {n : Nat} (e : ∀ i, i < n → f i = 0) : sm f n = 0 := by
  induction n with
  | zero => rfl
  | succ n ih => rw [sm_succ, ih fun i hi => e i (by (first | lia | omega)), e n (by (first | lia | omega))]; grind
theorem sm_more {f : Nat → Rat} {m n : Nat} (h : m ≤ n) (e : ∀ i, m ≤ i → i < n → f i = 0) : sm f n = sm f m := by
  induction n with
  | zero =>
    have : m = 0 := by (first | lia | omega)
    rw [this]
  | succ n ih =>
    by_cases hm : m = n + 1
    · rw [hm]
    · rw [sm_succ, ih (by (first | lia | omega)) fun i h1 h2 => e i h1 (by (first | lia | omega)), e n (by (first | lia | omega)) (by (first | lia | omega))]
      grind
noncomputable def conv (ps qs : List Rat) (k : Nat) : Rat := sm (fun i => ps.getD i 0 * qs.getD (k - i) 0) (k + 1)
theorem getD_out {xs : List Rat} {i : Nat} (h : xs.length ≤ i) : xs.getD i 0 = 0 := by
  rw [List.getD_eq_getElem?_getD, List.getElem?_eq_none h]
  rfl
noncomputable def pmul (ps qs : List Rat) : List Rat := strip ((List.range (ps.length + qs.length)).map (conv ps qs))
theorem strip_zeros {xs : List Rat} (h : ∀ i, xs.getD i 0 = 0) : strip xs = [] := by
  induction xs with
  | nil => rfl
  | cons x xs ih =>
    rw [strip, ih fun i => by simpa using h (i + 1)]
    have : x = 0 := by simpa using h 0
    simp [this]
theorem strip_ext {xs ys : List Rat} (h : ∀ i, xs.getD i 0 = ys.getD i 0) : strip xs = strip ys := by
  induction xs generalizing ys with
  | nil => rw [strip_zeros fun i => (h i).symm]; rfl
  | cons x xs ih =>
    cases ys with
    | nil => rw [strip_zeros fun i => h i]; rfl
    | cons y ys =>
      have e0 : x = y := by simpa using h 0
      rw [strip, strip, ih fun i => by simpa using h (i + 1), e0]
theorem getD_range (f : Nat → Rat) (n i : Nat) : ((List.range n).map f).getD i 0 = if i < n then f i else 0 := by
  rw [List.getD_eq_getElem?_getD, List.getElem?_map]
  by_cases h : i < n
  · rw [List.getElem?_range h, if_pos h]
    rfl
  · rw [List.getElem?_eq_none (by rw [List.length_range]; (first | lia | omega)), if_neg h]
    rfl
theorem conv_out {ps qs : List Rat} {k : Nat} (h : ps.length + qs.length ≤ k + 1) : conv ps qs k = 0 := by
  unfold conv
  refine sm_zeros fun i hi => ?_
  by_cases h1 : ps.length ≤ i
  · rw [getD_out h1]; grind
  · rw [getD_out (xs := qs) (by (first | lia | omega))]; grind
theorem getD_pmul (ps qs : List Rat) (k : Nat) : (pmul ps qs).getD k 0 = conv ps qs k := by
  unfold pmul
  rw [getD_strip, getD_range]
  by_cases h : k < ps.length + qs.length
  · rw [if_pos h]
  · rw [if_neg h, conv_out (by (first | lia | omega))]
theorem getD_bq {n : Nat} {qs : List Rat} (hn : 0 < n) (h : ∀ q ∈ qs, Bq n q) (k : Nat) : Bq n (qs.getD k 0) := by
  rw [List.getD_eq_getElem?_getD]
  by_cases hk : k < qs.length
  · rw [List.getElem?_eq_getElem hk]
    exact h _ (List.getElem_mem hk)
  · rw [List.getElem?_eq_none (by (first | lia | omega))]
    exact Bq.zero hn
theorem sm_bq {b : Nat} {f : Nat → Rat} (hf : ∀ i, Bq b (f i)) (m : Nat) (hz : ∀ i, m ≤ i → f i = 0) (n : Nat) : Bq ((b + 1) * min n m + 1) (sm f n) := by
  induction n with
  | zero => exact Bq.zero (by (first | lia | omega))
  | succ n ih =>
    rw [sm_succ]
    by_cases h : n < m
    · have e1 : min n m = n := by (first | lia | omega)
      have e2 : min (n + 1) m = n + 1 := by (first | lia | omega)
      rw [e1] at ih
      rw [e2, Nat.mul_succ]
      exact (ih.add (hf n)).mono (by (first | lia | omega))
    · rw [hz n (by (first | lia | omega)), Rat.add_zero]
      have e1 : min n m = m := by (first | lia | omega)
      have e2 : min (n + 1) m = m := by (first | lia | omega)
      rw [e1] at ih
      rw [e2]
      exact ih
noncomputable def Rep (n : Nat) (v : Rat) (T M : Int) : Prop := M ≠ 0 ∧ v = (T : Rat) / (M : Rat) ∧ Bt n T ∧ Bt n M
theorem Rep.step {n b : Nat} {v x q : Rat} {T M : Int} (h : Rep n v T M) (bx : Bq b x) (bq : Bq b q) : Rep (n + b + b + 1) (q + x * v) (T * x.num * q.den + q.num * M * x.den) (M * x.den * q.den) := by
  obtain ⟨hM, hv, bT, bM⟩ := h
  have d1 := den_pos x
  have d2 := den_pos q
  refine ⟨Int.mul_ne_zero (Int.mul_ne_zero hM (by (first | lia | omega))) (by (first | lia | omega)), ?_, bt_add (((bT.mul bx.1).mul bq.2).mono (by (first | lia | omega))) (((bq.1.mul bM).mul bx.2).mono (by (first | lia | omega))), ((bM.mul bx.2).mul bq.2).mono (by (first | lia | omega))⟩
  have e1 := q_eq x
  have e2 := q_eq q
  have n1 := den_ne x
  have n2 := den_ne q
  have n3 : (M : Rat) ≠ 0 := fun z => hM (Rat.intCast_eq_zero_iff.mp z)
  simp only [Rat.intCast_add, Rat.intCast_mul]
  generalize (x.num : Rat) = a at *
  generalize ((x.den : Int) : Rat) = b at *
  generalize (q.num : Rat) = c at *
  generalize ((q.den : Int) : Rat) = d at *
  generalize (T : Rat) = T' at *
  generalize (M : Rat) = M' at *
  subst e1 e2 hv
  grind
theorem ev_snocs (qs : List Rat) (x : Rat) (i : Nat) (h : i < qs.length) : ev (qs.drop (qs.length - (i + 1))) x = qs.getD (qs.length - 1 - i) 0 + x * ev (qs.drop (qs.length - i)) x := by
  have hlt : qs.length - (i + 1) < qs.length := by (first | lia | omega)
  rw [List.drop_eq_getElem_cons hlt, ev]
  have e1 : qs.length - (i + 1) + 1 = qs.length - i := by (first | lia | omega)
  have e2 : qs.length - 1 - i = qs.length - (i + 1) := by (first | lia | omega)
  rw [e1, e2, List.getD_eq_getElem?_getD, List.getElem?_eq_getElem hlt]
  rfl
theorem Rep.zero {n : Nat} (h : 0 < n) : Rep n 0 0 1 := ⟨by decide, by simp [Rat.div_def], Bt.zero, Bt.mono (m := 1) (by show (1 : Nat) < 2 ^ 1; decide) h⟩
end Po

namespace Po
open Ra Rq
noncomputable def stp (gs ws : List Rat) (t h0 l0 : Rat) : Nat → Rat × Rat
  | 0 => (h0 + gs.getD 0 0 * l0, l0)
  | k + 1 => ((stp gs ws t h0 l0 k).1 + gs.getD (k + 1) 0 * ((stp gs ws t h0 l0 k).2 - t * ws.getD k 0 * (stp gs ws t h0 l0 k).1), (stp gs ws t h0 l0 k).2 - t * ws.getD k 0 * (stp gs ws t h0 l0 k).1)
noncomputable def walkQ (gs ws : List Rat) (t h0 l0 : Rat) : List (Rat × Rat) := (List.range gs.length).map (stp gs ws t h0 l0)
structure R3 (n : Nat) (h l : Rat) (th tl m : Int) : Prop where
  pos : 0 < m
  eh : h = (th : Rat) / (m : Rat)
  el : l = (tl : Rat) / (m : Rat)
  bh : Bt n th
  bl : Bt n tl
  bm : Bt n m
theorem R3.bq {n : Nat} {h l : Rat} {th tl m : Int} (r : R3 n h l th tl m) : Bq n h ∧ Bq n l :=
  ⟨bq_of (by have := r.pos; (first | lia | omega)) r.eh r.bh r.bm, bq_of (by have := r.pos; (first | lia | omega)) r.el r.bl r.bm⟩
theorem R3.bead {n b : Nat} {h l t w : Rat} {th tl m : Int} (r : R3 n h l th tl m) (bt : Bt b t.num ∧ Bt b t.den) {c : Nat} (bw : Bq c w) :
    R3 (n + b + c + 1) h (l - t * w * h) (th * t.den * w.den) (tl * t.den * w.den - t.num * w.num * th) (m * t.den * w.den) := by
  have d1 := den_pos t
  have d2 := den_pos w
  have hm := r.pos
  have e1 := q_eq t
  have e2 := q_eq w
  have n1 := den_ne t
  have n2 := den_ne w
  have n3 : (m : Rat) ≠ 0 := fun z => by have := Rat.intCast_eq_zero_iff.mp z; (first | lia | omega)
  have eh := r.eh
  have el := r.el
  refine ⟨Int.mul_pos (Int.mul_pos hm d1) d2, ?_, ?_, ((r.bh.mul bt.2).mul bw.2).mono (by (first | lia | omega)), ?_, ((r.bm.mul bt.2).mul bw.2).mono (by (first | lia | omega))⟩
  · simp only [Rat.intCast_mul]
    generalize ((t.den : Int) : Rat) = b' at *
    generalize ((w.den : Int) : Rat) = d at *
    generalize (th : Rat) = T' at *
    generalize (m : Rat) = M' at *
    subst eh
    grind
  · simp only [Rat.intCast_mul, Rat.intCast_sub]
    generalize (t.num : Rat) = a at *
    generalize ((t.den : Int) : Rat) = b' at *
    generalize (w.num : Rat) = c' at *
    generalize ((w.den : Int) : Rat) = d at *
    generalize (th : Rat) = T' at *
    generalize (tl : Rat) = L' at *
    generalize (m : Rat) = M' at *
    subst eh el e1 e2
    grind
  · rw [Int.sub_eq_add_neg]
    exact bt_add ((r.bl.mul bt.2).mul bw.2) (((bt.1.mul bw.1).mul r.bh).mono (by (first | lia | omega))).neg
theorem R3.gap {n b : Nat} {h l g : Rat} {th tl m : Int} (r : R3 n h l th tl m) (bg : Bq b g) : R3 (n + b + 1) (h + g * l) l (th * g.den + g.num * tl) (tl * g.den) (m * g.den) := by
  have d1 := den_pos g
  have hm := r.pos
  have e1 := q_eq g
  have n1 := den_ne g
  have n3 : (m : Rat) ≠ 0 := fun z => by have := Rat.intCast_eq_zero_iff.mp z; (first | lia | omega)
  have eh := r.eh
  have el := r.el
  refine ⟨Int.mul_pos hm d1, ?_, ?_, bt_add (r.bh.mul bg.2) ((bg.1.mul r.bl).mono (by (first | lia | omega))), (r.bl.mul bg.2).mono (by (first | lia | omega)), (r.bm.mul bg.2).mono (by (first | lia | omega))⟩
  · simp only [Rat.intCast_mul, Rat.intCast_add]
    generalize (g.num : Rat) = a at *
    generalize ((g.den : Int) : Rat) = b' at *
    generalize (th : Rat) = T' at *
    generalize (tl : Rat) = L' at *
    generalize (m : Rat) = M' at *
    subst eh el e1
    grind
  · simp only [Rat.intCast_mul]
    generalize ((g.den : Int) : Rat) = b' at *
    generalize (tl : Rat) = L' at *
    generalize (m : Rat) = M' at *
    subst el
    grind
theorem R3.mono {n n' : Nat} {h l : Rat} {th tl m : Int} (r : R3 n h l th tl m) (k : n ≤ n') : R3 n' h l th tl m := ⟨r.pos, r.eh, r.el, r.bh.mono k, r.bl.mono k, r.bm.mono k⟩
theorem stp_r3 {gs ws : List Rat} {t h0 l0 : Rat} {n : Nat} {a b m : Int} (r : R3 n h0 l0 a b m) (bg : ∀ q ∈ gs, Bq 101 q) (bw : ∀ q ∈ ws, Bq 101 q) (bt : Bq 334 t) (k : Nat) :
    ∃ th tl m', R3 (n + 538 * (k + 1)) (stp gs ws t h0 l0 k).1 (stp gs ws t h0 l0 k).2 th tl m' := by
  induction k with
  | zero =>
    have := (r.gap (getD_bq (by decide) bg 0)).mono (show n + 101 + 1 ≤ n + 538 * (0 + 1) by (first | lia | omega))
    exact ⟨_, _, _, this⟩
  | succ k ih =>
    obtain ⟨th, tl, m', r'⟩ := ih
    have := ((r'.bead bt (getD_bq (by decide) bw k)).gap (getD_bq (by decide) bg (k + 1))).mono (show n + 538 * (k + 1) + 334 + 101 + 1 + 101 + 1 ≤ n + 538 * (k + 1 + 1) by (first | lia | omega))
    exact ⟨_, _, _, this⟩
theorem R3.start {h l : Rat} {b : Nat} (bh : Bq b h) (bl : Bq b l) : R3 (b + b) h l (h.num * l.den) (l.num * h.den) (h.den * l.den) := by
  have d1 := den_pos h
  have d2 := den_pos l
  have e1 := q_eq h
  have e2 := q_eq l
  have n1 := den_ne h
  have n2 := den_ne l
  refine ⟨Int.mul_pos d1 d2, ?_, ?_, bh.1.mul bl.2, bl.1.mul bh.2, bh.2.mul bl.2⟩
  · simp only [Rat.intCast_mul]
    have e3 : h = (h.num : Rat) / ((h.den : Int) : Rat) := e1.symm
    generalize (h.num : Rat) = a at *
    generalize ((h.den : Int) : Rat) = b' at *
    generalize ((l.den : Int) : Rat) = d at *
    rw [e3]
    grind
  · simp only [Rat.intCast_mul]
    have e3 : l = (l.num : Rat) / ((l.den : Int) : Rat) := e2.symm
    generalize (l.num : Rat) = a at *
    generalize ((h.den : Int) : Rat) = b' at *
    generalize ((l.den : Int) : Rat) = d at *
    rw [e3]
    grind
end Po

namespace Po
open Ra Rq
theorem sm_single (g : Nat → Rat) (n m : Nat) : sm (fun i => if i = n then g i else 0) m = if n < m then g n else 0 := by
  induction m with
  | zero => rfl
  | succ m ih =>
    rw [sm_succ, ih]
    by_cases h : m = n
    · subst h
      rw [if_neg (by (first | lia | omega)), if_pos rfl, if_pos (by (first | lia | omega)), Rat.zero_add]
    · rw [if_neg h, Rat.add_zero]
      by_cases h2 : n < m
      · rw [if_pos h2, if_pos (by (first | lia | omega))]
      · rw [if_neg h2, if_neg (by (first | lia | omega))]
theorem conv_nil (qs : List Rat) (k : Nat) : conv [] qs k = 0 := sm_zeros fun i _ => by rw [getD_out (xs := []) (by simp), Rat.zero_mul]
noncomputable def Ov (n : Nat) (M : Int) (q : Rat) : Prop := ∃ T : Int, Bt n T ∧ q * (M : Rat) = (T : Rat)
theorem Ov.mono {m n : Nat} {M : Int} {q : Rat} (h : Ov m M q) (l : m ≤ n) : Ov n M q := by
  obtain ⟨T, b, e⟩ := h
  exact ⟨T, b.mono l, e⟩
theorem Ov.zero {n : Nat} {M : Int} : Ov n M 0 := ⟨0, Bt.zero, by rw [Rat.zero_mul]; rfl⟩
theorem Ov.add {n : Nat} {M : Int} {p q : Rat} (h : Ov n M p) (k : Ov n M q) : Ov (n + 1) M (p + q) := by
  obtain ⟨T, b, e⟩ := h
  obtain ⟨U, c, f⟩ := k
  exact ⟨T + U, bt_add b c, by rw [Rat.add_mul, e, f, Rat.intCast_add]⟩
theorem Ov.neg {n : Nat} {M : Int} {q : Rat} (h : Ov n M q) : Ov n M (-q) := by
  obtain ⟨T, b, e⟩ := h
  exact ⟨-T, b.neg, by rw [Rat.neg_mul, e, Rat.intCast_neg]⟩
theorem Ov.sub {n : Nat} {M : Int} {p q : Rat} (h : Ov n M p) (k : Ov n M q) : Ov (n + 1) M (p - q) := by
  rw [Rat.sub_eq_add_neg]
  exact h.add k.neg
theorem Ov.mul {m n : Nat} {M W : Int} {p q : Rat} (h : Ov m M p) (k : Ov n W q) : Ov (m + n) (M * W) (p * q) := by
  obtain ⟨T, b, e⟩ := h
  obtain ⟨U, c, f⟩ := k
  refine ⟨T * U, b.mul c, ?_⟩
  rw [Rat.intCast_mul, Rat.intCast_mul, ← e, ← f]
  grind
theorem Ov.scale {m n : Nat} {M Z : Int} {q : Rat} (h : Ov m M q) (k : Bt n Z) : Ov (m + n) (M * Z) q := by
  obtain ⟨T, b, e⟩ := h
  refine ⟨T * Z, b.mul k, ?_⟩
  rw [Rat.intCast_mul, Rat.intCast_mul, ← e]
  grind
theorem Ov.bq {n : Nat} {M : Int} {q : Rat} (h : Ov n M q) (h0 : M ≠ 0) (b : Bt n M) : Bq n q := by
  obtain ⟨T, c, e⟩ := h
  have n3 : (M : Rat) ≠ 0 := fun z => h0 (Rat.intCast_eq_zero_iff.mp z)
  refine bq_of h0 ?_ c b
  rw [← e, Rat.div_def, Rat.mul_assoc, Rat.mul_inv_cancel _ n3, Rat.mul_one]
theorem getD_ov {n : Nat} {M : Int} {qs : List Rat} (h : ∀ q ∈ qs, Ov n M q) (k : Nat) : Ov n M (qs.getD k 0) := by
  rw [List.getD_eq_getElem?_getD]
  by_cases hk : k < qs.length
  · rw [List.getElem?_eq_getElem hk]
    exact h _ (List.getElem_mem hk)
  · rw [List.getElem?_eq_none (by (first | lia | omega))]
    exact Ov.zero
theorem psum_ov {n m r : Nat} {W1 W2 W3 : Int} {ps qs ms : List Rat} (hp : ∀ q ∈ ps, Ov n W1 q) (hq : ∀ q ∈ qs, Ov m W2 q) (hm : ∀ q ∈ ms, Ov r W3 q) (b1 : Bt n W1) (b2 : Bt m W2) (b3 : Bt r W3) (k : Nat) : ∀ j : Nat, Ov (n + m + r + j) (W1 * W2 * W3) (ms.getD k 0 + sm (fun t => ps.getD t 0 * qs.getD (k - t) 0) j)
  | 0 => by
    rw [sm_zero, Rat.add_zero, Int.mul_comm]
    exact ((getD_ov hm k).scale (b1.mul b2)).mono (by (first | lia | omega))
  | j + 1 => by
    rw [sm_succ, ← Rat.add_assoc]
    exact (psum_ov hp hq hm b1 b2 b3 k j).add ((((getD_ov hp j).mul (getD_ov hq (k - j))).scale b3).mono (by (first | lia | omega)))
end Po

namespace Po
open Ra Rq
theorem ev_strip (ps : List Rat) (t : Rat) : ev (strip ps) t = ev ps t := by
  induction ps with
  | nil => rfl
  | cons q qs ih =>
    rw [strip]
    cases h : strip qs with
    | nil =>
      rw [h] at ih
      have e0 : ev qs t = 0 := ih.symm
      by_cases hq : q = 0
      · simp only [hq, if_true, ev, e0]; grind
      · simp only [hq, if_false, ev, e0]
    | cons r rs =>
      rw [h] at ih
      show q + t * ev (r :: rs) t = q + t * ev qs t
      rw [ih]
theorem ev_sm (ps : List Rat) (t : Rat) (n : Nat) (h : ps.length ≤ n) : ev ps t = sm (fun i => ps.getD i 0 * t ^ i) n := by
  induction ps generalizing n with
  | nil => rw [sm_zeros fun i _ => by rw [getD_out (by simp)]; grind]; rfl
  | cons q qs ih =>
    obtain ⟨m, rfl⟩ : ∃ m, n = m + 1 := ⟨n - 1, by simp only [List.length_cons] at h; (first | lia | omega)⟩
    rw [sm_first, ev, ih m (by simp only [List.length_cons] at h; (first | lia | omega)), ← sm_mul]
    have e1 : (q :: qs).getD 0 0 * t ^ 0 = q := by rw [Rat.pow_zero, Rat.mul_one]; rfl
    rw [e1]
    congr 1
    refine sm_congr fun i _ => ?_
    have e2 : (q :: qs).getD (i + 1) 0 = qs.getD i 0 := by simp
    rw [e2, Rat.pow_succ]
    grind
theorem ev_range (f : Nat → Rat) (n : Nat) (t : Rat) : ev ((List.range n).map f) t = sm (fun i => f i * t ^ i) n := by
  rw [ev_sm _ t n (by simp)]
  exact sm_congr fun i hi => by rw [getD_range, if_pos hi]
theorem ev_padd (ps qs : List Rat) (t : Rat) : ev (padd ps qs) t = ev ps t + ev qs t := by
  unfold padd
  rw [ev_strip, ev_range, ev_sm ps t (max ps.length qs.length) (by (first | lia | omega)), ev_sm qs t (max ps.length qs.length) (by (first | lia | omega)), ← sm_add]
  exact sm_congr fun i _ => by grind
theorem ev_neg (qs : List Rat) (t : Rat) (n : Nat) : sm (fun i => -(qs.getD i 0 * t ^ i)) n = -sm (fun i => qs.getD i 0 * t ^ i) n := by
  have h := sm_mul (-1) (fun i => qs.getD i 0 * t ^ i) n
  have e : sm (fun i => -1 * (qs.getD i 0 * t ^ i)) n = sm (fun i => -(qs.getD i 0 * t ^ i)) n := sm_congr fun i _ => by grind
  rw [← e, h]
  grind
theorem ev_psub (ps qs : List Rat) (t : Rat) : ev (psub ps qs) t = ev ps t - ev qs t := by
  unfold psub
  rw [ev_strip, ev_range, ev_sm ps t (max ps.length qs.length) (by (first | lia | omega)), ev_sm qs t (max ps.length qs.length) (by (first | lia | omega)), Rat.sub_eq_add_neg, ← ev_neg, ← sm_add]
  exact sm_congr fun i _ => by grind
theorem ev_map_mul (qs : List Rat) (x t : Rat) : ev (qs.map (· * x)) t = ev qs t * x := by
  induction qs with
  | nil => simp [ev, Rat.zero_mul]
  | cons q qs ih => rw [List.map_cons, ev, ih, ev]; grind
theorem ev_pscale (qs : List Rat) (x t : Rat) : ev (pscale qs x) t = ev qs t * x := by
  unfold pscale
  rw [ev_strip, ev_map_mul]
theorem ev_shift (qs : List Rat) (t : Rat) : ev (strip (0 :: qs)) t = t * ev qs t := by
  rw [ev_strip, ev, Rat.zero_add]
theorem conv_cons (p : Rat) (ps qs : List Rat) (k : Nat) : conv (p :: ps) qs k = p * qs.getD k 0 + if k = 0 then 0 else conv ps qs (k - 1) := by
  unfold conv
  rw [sm_first]
  have e1 : (p :: ps).getD 0 0 * qs.getD (k - 0) 0 = p * qs.getD k 0 := rfl
  rw [e1]
  congr 1
  by_cases h : k = 0
  · subst h; rw [if_pos rfl, sm_zero]
  · rw [if_neg h]
    obtain ⟨m, rfl⟩ : ∃ m, k = m + 1 := ⟨k - 1, by (first | lia | omega)⟩
    rw [Nat.add_sub_cancel]
    refine sm_congr fun i hi => ?_
    have e2 : (p :: ps).getD (i + 1) 0 = ps.getD i 0 := by simp
    rw [e2, show m + 1 - (i + 1) = m - i by (first | lia | omega)]
theorem ev_conv (ps qs : List Rat) (t : Rat) : ∀ n, ps.length + qs.length ≤ n → sm (fun k => conv ps qs k * t ^ k) n = ev ps t * ev qs t := by
  induction ps with
  | nil => intro n _; rw [sm_zeros fun i _ => by rw [conv_nil]; grind]; simp [ev, Rat.zero_mul]
  | cons p ps ih =>
    intro n h
    simp only [List.length_cons] at h
    obtain ⟨m, rfl⟩ : ∃ m, n = m + 1 := ⟨n - 1, by (first | lia | omega)⟩
    have e1 : sm (fun k => conv (p :: ps) qs k * t ^ k) (m + 1) = sm (fun k => p * (qs.getD k 0 * t ^ k)) (m + 1) + sm (fun k => (if k = 0 then 0 else conv ps qs (k - 1)) * t ^ k) (m + 1) := by
      rw [← sm_add]
      exact sm_congr fun i _ => by rw [conv_cons]; grind
    have e2 : sm (fun k => (if k = 0 then 0 else conv ps qs (k - 1)) * t ^ k) (m + 1) = t * (ev ps t * ev qs t) := by
      rw [sm_first, if_pos rfl, Rat.zero_mul, Rat.zero_add, ← ih m (by (first | lia | omega)), ← sm_mul]
      refine sm_congr fun i _ => ?_
      rw [if_neg (by (first | lia | omega)), Nat.add_sub_cancel, Rat.pow_succ]
      grind
    rw [e1, e2, sm_mul, ← ev_sm qs t (m + 1) (by (first | lia | omega)), ev]
    grind
theorem ev_pmul (ps qs : List Rat) (t : Rat) : ev (pmul ps qs) t = ev ps t * ev qs t := by
  unfold pmul
  rw [ev_strip, ev_range, ev_conv ps qs t _ (Nat.le_refl _)]
noncomputable def dif (c : Rat) : List Rat → List Rat
  | [] => []
  | q :: qs => c * q :: dif (2 * c + 1) qs
theorem dif_length (qs : List Rat) : ∀ c, (dif c qs).length = qs.length := by
  induction qs with
  | nil => intro c; rfl
  | cons q qs ih => intro c; rw [dif, List.length_cons, ih, List.length_cons]
theorem ev_dif (qs : List Rat) (t : Rat) : ∀ c, ev (dif c qs) t = (c + 1) * ev qs (2 * t) - ev qs t := by
  induction qs with
  | nil => intro c; simp only [dif, ev]; grind
  | cons q qs ih => intro c; rw [dif, ev, ih, ev, ev]; grind
theorem dif_zero (qs : List Rat) : ∀ c, 0 < c → (∀ i, (dif c qs).getD i 0 = 0) → ∀ i, qs.getD i 0 = 0 := by
  induction qs with
  | nil => intro c _ _ i; rfl
  | cons q qs ih =>
    intro c hc h i
    cases i with
    | zero =>
      have h0 : c * q = 0 := h 0
      have : q = 0 := by
        rcases Rat.mul_eq_zero.mp h0 with z | z
        · grind
        · exact z
      exact this
    | succ i =>
      have := ih (2 * c + 1) (by grind) (fun j => by simpa [dif] using h (j + 1)) i
      simpa using this
theorem outside (S : List Rat) : ∃ t, ∀ s ∈ S, s < t := by
  induction S with
  | nil => exact ⟨0, fun s h => absurd h (by simp)⟩
  | cons x S ih =>
    obtain ⟨t, h⟩ := ih
    by_cases hx : x < t
    · exact ⟨t, fun s hs => by rcases List.mem_cons.mp hs with rfl | hs; exact hx; exact h s hs⟩
    · refine ⟨x + 1, fun s hs => ?_⟩
      rcases List.mem_cons.mp hs with rfl | hs
      · grind
      · have := h s hs; grind
theorem ev_zeros {ps : List Rat} (h : ∀ i, ps.getD i 0 = 0) (t : Rat) : ev ps t = 0 := by
  rw [ev_sm ps t ps.length (Nat.le_refl _)]
  exact sm_zeros fun i _ => by rw [h i]; grind
theorem zero_of_ev : ∀ (n : Nat) (ps S : List Rat), ps.length ≤ n → (∀ t, t ∉ S → ev ps t = 0) → ∀ i, ps.getD i 0 = 0
  | 0, ps, S, hl, _ => fun i => getD_out (by (first | lia | omega))
  | n + 1, [], S, _, _ => fun i => rfl
  | n + 1, q :: qs, S, hl, h => by
    have hq : ∀ i, qs.getD i 0 = 0 := by
      refine dif_zero qs 1 (by decide) (zero_of_ev n (dif 1 qs) (0 :: (S ++ S.map (· / 2))) (by rw [dif_length]; simp only [List.length_cons] at hl; (first | lia | omega)) fun t ht => ?_)
      have h0 : t ≠ 0 := fun z => ht (by simp [z])
      have h1 : t ∉ S := fun z => ht (by simp [z])
      have h2 : 2 * t ∉ S := fun z => ht (by
        refine List.mem_cons_of_mem _ (List.mem_append_right _ (List.mem_map.mpr ⟨2 * t, z, ?_⟩))
        grind)
      have a1 := h t h1
      have a2 := h (2 * t) h2
      rw [ev] at a1 a2
      rw [ev_dif]
      have a3 : t * ((1 + 1) * ev qs (2 * t) - ev qs t) = 0 := by grind
      rcases Rat.mul_eq_zero.mp a3 with z | z
      · exact absurd z h0
      · exact z
    obtain ⟨t, ht⟩ := outside S
    have a := h t fun z => by have := ht t z; grind
    rw [ev, ev_zeros hq] at a
    intro i
    cases i with
    | zero => show q = 0; grind
    | succ i => simpa using hq i
theorem getD_psub (ps qs : List Rat) (i : Nat) : (psub ps qs).getD i 0 = ps.getD i 0 - qs.getD i 0 := by
  unfold psub
  rw [getD_strip, getD_range]
  by_cases h : i < max ps.length qs.length
  · rw [if_pos h]
  · rw [if_neg h, getD_out (xs := ps) (by (first | lia | omega)), getD_out (xs := qs) (by (first | lia | omega))]; grind
theorem getD_padd (ps qs : List Rat) (i : Nat) : (padd ps qs).getD i 0 = ps.getD i 0 + qs.getD i 0 := by
  unfold padd
  rw [getD_strip, getD_range]
  by_cases h : i < max ps.length qs.length
  · rw [if_pos h]
  · rw [if_neg h, getD_out (xs := ps) (by (first | lia | omega)), getD_out (xs := qs) (by (first | lia | omega))]; grind
theorem getD_pscale (qs : List Rat) (x : Rat) (i : Nat) : (pscale qs x).getD i 0 = qs.getD i 0 * x := by
  unfold pscale
  rw [getD_strip, List.getD_eq_getElem?_getD, List.getElem?_map, List.getD_eq_getElem?_getD]
  cases qs[i]? with
  | none => show (0 : Rat) = 0 * x; grind
  | some y => rfl
theorem ev_inj {ps qs : List Rat} (h : ∀ t, ev ps t = ev qs t) (i : Nat) : ps.getD i 0 = qs.getD i 0 := by
  have := zero_of_ev _ (psub ps qs) [] (Nat.le_refl _) (fun t _ => by rw [ev_psub, h t]; grind) i
  rw [getD_psub] at this
  grind
theorem ev_strip_inj {ps qs : List Rat} (h : ∀ t, ev ps t = ev qs t) : strip ps = strip qs := strip_ext (ev_inj h)
noncomputable def plean (l h : List Rat) (w : Rat) : List Rat := psub l (strip (0 :: pscale h w))
noncomputable def pst (gs ws : List Rat) (h0 l0 : List Rat) : Nat → List Rat × List Rat
  | 0 => (padd h0 (pscale l0 (gs.getD 0 0)), l0)
  | k + 1 => (padd (pst gs ws h0 l0 k).1 (pscale (plean (pst gs ws h0 l0 k).2 (pst gs ws h0 l0 k).1 (ws.getD k 0)) (gs.getD (k + 1) 0)), plean (pst gs ws h0 l0 k).2 (pst gs ws h0 l0 k).1 (ws.getD k 0))
theorem ev_plean (l h : List Rat) (w t : Rat) : ev (plean l h w) t = ev l t - t * w * ev h t := by
  unfold plean
  rw [ev_psub, ev_shift, ev_pscale]
  grind
theorem ev_pst (gs ws h0 l0 : List Rat) (t : Rat) (k : Nat) : ev (pst gs ws h0 l0 k).1 t = (stp gs ws t (ev h0 t) (ev l0 t) k).1 ∧ ev (pst gs ws h0 l0 k).2 t = (stp gs ws t (ev h0 t) (ev l0 t) k).2 := by
  induction k with
  | zero =>
    refine ⟨?_, rfl⟩
    show ev (padd h0 (pscale l0 (gs.getD 0 0))) t = ev h0 t + gs.getD 0 0 * ev l0 t
    rw [ev_padd, ev_pscale]
    grind
  | succ k ih =>
    obtain ⟨i1, i2⟩ := ih
    have e2 : ev (pst gs ws h0 l0 (k + 1)).2 t = (stp gs ws t (ev h0 t) (ev l0 t) (k + 1)).2 := by
      show ev (plean _ _ _) t = _ - _
      rw [ev_plean, i1, i2]
    refine ⟨?_, e2⟩
    show ev (padd _ (pscale (plean _ _ _) _)) t = _ + _ * (_ - _)
    rw [ev_padd, ev_pscale, ev_plean, i1, i2]
    grind
theorem padd_length (ps qs : List Rat) : (padd ps qs).length ≤ max ps.length qs.length := Nat.le_trans (strip_length _) (by simp)
theorem psub_length (ps qs : List Rat) : (psub ps qs).length ≤ max ps.length qs.length := Nat.le_trans (strip_length _) (by simp)
theorem pscale_length (qs : List Rat) (x : Rat) : (pscale qs x).length ≤ qs.length := Nat.le_trans (strip_length _) (by simp)
theorem plean_length (l h : List Rat) (w : Rat) : (plean l h w).length ≤ max l.length (h.length + 1) := by
  refine Nat.le_trans (psub_length _ _) ?_
  have h1 := strip_length (0 :: pscale h w)
  have h2 := pscale_length h w
  simp only [List.length_cons] at h1
  (first | lia | omega)
theorem pst_length {gs ws h0 l0 : List Rat} (a : h0.length ≤ 1) (b : l0.length ≤ 1) (k : Nat) : (pst gs ws h0 l0 k).1.length ≤ k + 1 ∧ (pst gs ws h0 l0 k).2.length ≤ k + 1 := by
  induction k with
  | zero =>
    have h1 := padd_length h0 (pscale l0 (gs.getD 0 0))
    have h2 := pscale_length l0 (gs.getD 0 0)
    exact ⟨by show (padd h0 _).length ≤ _; (first | lia | omega), by show l0.length ≤ _; (first | lia | omega)⟩
  | succ k ih =>
    have h1 := plean_length (pst gs ws h0 l0 k).2 (pst gs ws h0 l0 k).1 (ws.getD k 0)
    have h2 := pscale_length (plean (pst gs ws h0 l0 k).2 (pst gs ws h0 l0 k).1 (ws.getD k 0)) (gs.getD (k + 1) 0)
    have h3 := padd_length (pst gs ws h0 l0 k).1 (pscale (plean (pst gs ws h0 l0 k).2 (pst gs ws h0 l0 k).1 (ws.getD k 0)) (gs.getD (k + 1) 0))
    exact ⟨by show (padd _ _).length ≤ _; (first | lia | omega), by show (plean _ _ _).length ≤ _; (first | lia | omega)⟩
theorem ov_padd {n : Nat} {M : Int} {ps qs : List Rat} (hp : ∀ q ∈ ps, Ov n M q) (hq : ∀ q ∈ qs, Ov n M q) : ∀ q ∈ padd ps qs, Ov (n + 1) M q := fun q h => by
  obtain ⟨k, _, rfl⟩ := List.mem_map.mp (strip_mem h)
  exact (getD_ov hp k).add (getD_ov hq k)
theorem ov_psub {n : Nat} {M : Int} {ps qs : List Rat} (hp : ∀ q ∈ ps, Ov n M q) (hq : ∀ q ∈ qs, Ov n M q) : ∀ q ∈ psub ps qs, Ov (n + 1) M q := fun q h => by
  obtain ⟨k, _, rfl⟩ := List.mem_map.mp (strip_mem h)
  exact (getD_ov hp k).sub (getD_ov hq k)
theorem ov_self {b : Nat} {x : Rat} (h : Bq b x) : Ov b (x.den : Int) x := ⟨x.num, h.1, by
  have e := q_eq x
  have n := den_ne x
  generalize (x.num : Rat) = a at *
  generalize ((x.den : Int) : Rat) = c at *
  rw [← e]
  grind⟩
theorem ov_pscale {n b : Nat} {M : Int} {qs : List Rat} {x : Rat} (hq : ∀ q ∈ qs, Ov n M q) (hx : Bq b x) : ∀ q ∈ pscale qs x, Ov (n + b) (M * x.den) q := fun q h => by
  obtain ⟨y, hy, rfl⟩ := List.mem_map.mp (strip_mem h)
  exact (hq y hy).mul (ov_self hx)
theorem ov_scale {n b : Nat} {M Z : Int} {qs : List Rat} (hq : ∀ q ∈ qs, Ov n M q) (hx : Bt b Z) : ∀ q ∈ qs, Ov (n + b) (M * Z) q := fun q h => (hq q h).scale hx
theorem ov_shift {n : Nat} {M : Int} {qs : List Rat} (hq : ∀ q ∈ qs, Ov n M q) : ∀ q ∈ strip (0 :: qs), Ov n M q := fun q h => by
  rcases List.mem_cons.mp (strip_mem h) with rfl | h
  · exact Ov.zero
  · exact hq q h
theorem ov_mono {m n : Nat} {M : Int} {qs : List Rat} (hq : ∀ q ∈ qs, Ov m M q) (l : m ≤ n) : ∀ q ∈ qs, Ov n M q := fun q h => (hq q h).mono l
structure O2 (n : Nat) (h l : List Rat) (M : Int) : Prop where
  ne : M ≠ 0
  bm : Bt n M
  oh : ∀ q ∈ h, Ov n M q
  ol : ∀ q ∈ l, Ov n M q
theorem O2.start {h0 l0 : List Rat} (a : ∀ q ∈ h0, q = 1) (b : ∀ q ∈ l0, q = 1) : O2 1 h0 l0 1 :=
  ⟨by decide, by show (1 : Nat) < 2 ^ 1; decide, fun q h => ⟨1, by show (1 : Nat) < 2 ^ 1; decide, by rw [a q h, Rat.one_mul]⟩, fun q h => ⟨1, by show (1 : Nat) < 2 ^ 1; decide, by rw [b q h, Rat.one_mul]⟩⟩
theorem O2.gap {n b : Nat} {h l : List Rat} {M : Int} {x : Rat} (o : O2 n h l M) (hx : Bq b x) : O2 (n + b + 1) (padd h (pscale l x)) l (M * x.den) := by
  have d := den_pos x
  refine ⟨Int.mul_ne_zero o.ne (by (first | lia | omega)), (o.bm.mul hx.2).mono (by (first | lia | omega)), ov_padd (ov_scale o.oh hx.2) (ov_pscale o.ol hx), ov_mono (ov_scale o.ol hx.2) (by (first | lia | omega))⟩
theorem O2.bead {n b : Nat} {h l : List Rat} {M : Int} {x : Rat} (o : O2 n h l M) (hx : Bq b x) : O2 (n + b + 1) h (plean l h x) (M * x.den) := by
  have d := den_pos x
  exact ⟨Int.mul_ne_zero o.ne (by (first | lia | omega)), (o.bm.mul hx.2).mono (by (first | lia | omega)), ov_mono (ov_scale o.oh hx.2) (by (first | lia | omega)), ov_psub (ov_scale o.ol hx.2) (ov_shift (ov_pscale o.oh hx))⟩
theorem pst_o2 {gs ws h0 l0 : List Rat} {b : Nat} (hb : 0 < b) (bg : ∀ q ∈ gs, Bq b q) (bw : ∀ q ∈ ws, Bq b q) (e1 : ∀ q ∈ h0, q = 1) (e2 : ∀ q ∈ l0, q = 1) (k : Nat) : ∃ M, O2 ((2 * b + 2) * (k + 1)) (pst gs ws h0 l0 k).1 (pst gs ws h0 l0 k).2 M := by
  induction k with
  | zero =>
    obtain ⟨x1, x2, x3, x4⟩ := (O2.start e1 e2).gap (getD_bq hb bg 0)
    exact ⟨_, x1, x2.mono (by (first | lia | omega)), ov_mono x3 (by (first | lia | omega)), ov_mono x4 (by (first | lia | omega))⟩
  | succ k ih =>
    obtain ⟨M, o⟩ := ih
    obtain ⟨x1, x2, x3, x4⟩ := (o.bead (getD_bq hb bw k)).gap (getD_bq hb bg (k + 1))
    have e : (2 * b + 2) * (k + 1 + 1) = (2 * b + 2) * (k + 1) + (2 * b + 2) := Nat.mul_succ _ _
    exact ⟨_, x1, x2.mono (by (first | lia | omega)), ov_mono x3 (by (first | lia | omega)), ov_mono x4 (by (first | lia | omega))⟩
end Po

namespace Po
open Ra Rq
theorem ev_one (t : Rat) : ev [1] t = 1 := by simp only [ev]; grind
theorem ev_nil (t : Rat) : ev [] t = 0 := rfl
theorem Rep.addR {n m : Nat} {v q : Rat} {T M a b : Int} (h : Rep n v T M) (hb : b ≠ 0) (e : q = (a : Rat) / (b : Rat)) (ba : Bt m a) (bb : Bt m b) : Rep (n + m + 1) (v + q) (T * b + a * M) (M * b) := by
  obtain ⟨hM, hv, bT, bM⟩ := h
  refine ⟨Int.mul_ne_zero hM hb, ?_, bt_add (bT.mul bb) ((ba.mul bM).mono (by (first | lia | omega))), (bM.mul bb).mono (by (first | lia | omega))⟩
  have n2 : (b : Rat) ≠ 0 := fun z => hb (Rat.intCast_eq_zero_iff.mp z)
  have n3 : (M : Rat) ≠ 0 := fun z => hM (Rat.intCast_eq_zero_iff.mp z)
  simp only [Rat.intCast_add, Rat.intCast_mul]
  generalize (a : Rat) = a' at *
  generalize (b : Rat) = b' at *
  generalize (T : Rat) = T' at *
  generalize (M : Rat) = M' at *
  subst e hv
  grind
end Po
namespace Po
open Ra Rq
theorem Rep.mono {n m : Nat} {v : Rat} {T M : Int} (h : Rep n v T M) (l : n ≤ m) : Rep m v T M := ⟨h.1, h.2.1, h.2.2.1.mono l, h.2.2.2.mono l⟩
theorem cast_ne {M : Int} (h : M ≠ 0) : (M : Rat) ≠ 0 := fun z => h (Rat.intCast_eq_zero_iff.mp z)
theorem Rep.cross {n m : Nat} {u v : Rat} {T M T' M' d : Int} (h : Rep n u T M) (h' : Rep m v T' M') (e : u - v = (d : Rat)) : T * M' - T' * M = d * M * M' := by
  have n1 := cast_ne h.1
  have n2 := cast_ne h'.1
  have e1 := h.2.1
  have e2 := h'.2.1
  apply Rat.intCast_inj.mp
  simp only [Rat.intCast_sub, Rat.intCast_mul]
  rw [← e]
  generalize (T : Rat) = a at *
  generalize (M : Rat) = b at *
  generalize (T' : Rat) = c at *
  generalize (M' : Rat) = d at *
  subst e1 e2
  grind
theorem Rep.same {n m : Nat} {u v : Rat} {T M T' M' : Int} (h : Rep n u T M) (h' : Rep m v T' M') (e : u = v) : T * M' = T' * M := by
  have := h.cross h' (d := 0) (by rw [e]; exact Rat.sub_self)
  simp only [Int.zero_mul] at this
  (first | lia | omega)
end Po
namespace Po
open Ra Rq
theorem getD_plean (l h : List Rat) (w : Rat) (k : Nat) : (plean l h w).getD (k + 1) 0 = l.getD (k + 1) 0 - h.getD k 0 * w := by
  unfold plean
  rw [getD_psub, getD_strip, List.getD_cons_succ, getD_pscale]
theorem pst_top {gs ws h0 l0 : List Rat} (a : h0.length ≤ 1) (b : l0.length ≤ 1) (k : Nat) :
    (pst gs ws h0 l0 (k + 1)).2.getD (k + 1) 0 = -((pst gs ws h0 l0 k).1.getD k 0 * ws.getD k 0) ∧ (pst gs ws h0 l0 (k + 1)).1.getD (k + 1) 0 = -((pst gs ws h0 l0 k).1.getD k 0 * ws.getD k 0) * gs.getD (k + 1) 0 := by
  obtain ⟨l1, l2⟩ := pst_length (gs := gs) (ws := ws) a b k
  have e : (plean (pst gs ws h0 l0 k).2 (pst gs ws h0 l0 k).1 (ws.getD k 0)).getD (k + 1) 0 = -((pst gs ws h0 l0 k).1.getD k 0 * ws.getD k 0) := by
    rw [getD_plean, getD_out (xs := (pst gs ws h0 l0 k).2) (by (first | lia | omega))]
    grind
  refine ⟨e, ?_⟩
  show (padd _ (pscale (plean _ _ _) _)).getD (k + 1) 0 = _
  rw [getD_padd, getD_pscale, e, getD_out (xs := (pst gs ws h0 l0 k).1) (by (first | lia | omega))]
  grind
theorem getD_pos {qs : List Rat} (h : ∀ q ∈ qs, 0 < q) {k : Nat} (hk : k < qs.length) : 0 < qs.getD k 0 := by
  rw [List.getD_eq_getElem?_getD, List.getElem?_eq_getElem hk]
  exact h _ (List.getElem_mem hk)
theorem ne_of_pos {x : Rat} (h : 0 < x) : x ≠ 0 := fun z => by rw [z] at h; exact absurd h (by decide)
theorem pst_ne {gs ws h0 l0 : List Rat} (a : h0.length ≤ 1) (b : l0.length ≤ 1) (pg : ∀ q ∈ gs, 0 < q) (pw : ∀ q ∈ ws, 0 < q) (hlen : gs.length = ws.length + 1) (h : h0.getD 0 0 + l0.getD 0 0 * gs.getD 0 0 ≠ 0) :
    ∀ k, k ≤ ws.length → (pst gs ws h0 l0 k).1.getD k 0 ≠ 0
  | 0, _ => by
    show (padd h0 (pscale l0 (gs.getD 0 0))).getD 0 0 ≠ 0
    rw [getD_padd, getD_pscale]
    exact h
  | k + 1, hk => by
    have ih := pst_ne a b pg pw hlen h k (by (first | lia | omega))
    rw [(pst_top a b k).2]
    have w0 := ne_of_pos (getD_pos pw (show k < ws.length by (first | lia | omega)))
    have g0 := ne_of_pos (getD_pos pg (show k + 1 < gs.length by (first | lia | omega)))
    intro z
    rcases Rat.mul_eq_zero.mp z with z | z
    · have z' : (pst gs ws h0 l0 k).1.getD k 0 * ws.getD k 0 = 0 := by grind
      rcases Rat.mul_eq_zero.mp z' with z | z
      · exact ih z
      · exact w0 z
    · exact g0 z
theorem pst_ne2 {gs ws h0 l0 : List Rat} (a : h0.length ≤ 1) (b : l0.length ≤ 1) (pg : ∀ q ∈ gs, 0 < q) (pw : ∀ q ∈ ws, 0 < q) (hlen : gs.length = ws.length + 1) (h : h0.getD 0 0 + l0.getD 0 0 * gs.getD 0 0 ≠ 0) (k : Nat) (hk : k + 1 ≤ ws.length) : (pst gs ws h0 l0 (k + 1)).2.getD (k + 1) 0 ≠ 0 := by
  have ih := pst_ne a b pg pw hlen h k (by (first | lia | omega))
  rw [(pst_top a b k).1]
  have w0 := ne_of_pos (getD_pos pw (show k < ws.length by (first | lia | omega)))
  intro z
  have z' : (pst gs ws h0 l0 k).1.getD k 0 * ws.getD k 0 = 0 := by grind
  rcases Rat.mul_eq_zero.mp z' with z | z
  · exact ih z
  · exact w0 z
theorem len_of_ne {qs : List Rat} {k : Nat} (h : qs.getD k 0 ≠ 0) (l : qs.length ≤ k + 1) : qs.length = k + 1 := by
  by_cases hk : qs.length ≤ k
  · exact absurd (getD_out hk) h
  · (first | lia | omega)
theorem tone_len {gs ws : List Rat} (pg : ∀ q ∈ gs, 0 < q) (pw : ∀ q ∈ ws, 0 < q) (hlen : gs.length = ws.length + 1) :
    (pst gs ws [] [1] ws.length).1.length = gs.length ∧ (pst gs ws [] [1] ws.length).2.length = gs.length ∧ (pst gs ws [1] [] ws.length).1.length = gs.length ∧ (pst gs ws [1] [] ws.length).2.length = if gs.length = 1 then 0 else gs.length := by
  have g0 := getD_pos pg (show 0 < gs.length by (first | lia | omega))
  have h1 : ([] : List Rat).getD 0 0 + ([1] : List Rat).getD 0 0 * gs.getD 0 0 ≠ 0 := by
    show (0 : Rat) + 1 * gs.getD 0 0 ≠ 0
    have := ne_of_pos g0
    grind
  have h2 : ([1] : List Rat).getD 0 0 + ([] : List Rat).getD 0 0 * gs.getD 0 0 ≠ 0 := by
    show (1 : Rat) + 0 * gs.getD 0 0 ≠ 0
    grind
  obtain ⟨l1, l2⟩ := pst_length (gs := gs) (ws := ws) (h0 := []) (l0 := [1]) (by simp) (by simp) ws.length
  obtain ⟨l3, l4⟩ := pst_length (gs := gs) (ws := ws) (h0 := [1]) (l0 := []) (by simp) (by simp) ws.length
  refine ⟨?_, ?_, ?_, ?_⟩
  · rw [len_of_ne (pst_ne (by simp) (by simp) pg pw hlen h1 _ (Nat.le_refl _)) l1, hlen]
  · rw [hlen]
    cases hw : ws.length with
    | zero => rfl
    | succ n =>
      rw [hw] at l2
      exact len_of_ne (pst_ne2 (by simp) (by simp) pg pw hlen h1 n (by (first | lia | omega))) l2
  · rw [len_of_ne (pst_ne (by simp) (by simp) pg pw hlen h2 _ (Nat.le_refl _)) l3, hlen]
  · rw [hlen]
    cases hw : ws.length with
    | zero => rfl
    | succ n =>
      rw [hw] at l4
      rw [if_neg (by (first | lia | omega))]
      exact len_of_ne (pst_ne2 (by simp) (by simp) pg pw hlen h2 n (by (first | lia | omega))) l4
theorem strip_last : ∀ {qs : List Rat}, strip qs = qs → ∀ {q : Rat}, qs.getLast? = some q → q ≠ 0
  | [], _, q, h => by simp at h
  | [x], h, q, e => by
    simp at e
    subst e
    intro z
    subst z
    simp [strip] at h
  | x :: y :: qs, h, q, e => by
    have h' : strip (y :: qs) = y :: qs := by
      rw [strip] at h
      cases hs : strip (y :: qs) with
      | nil => rw [hs] at h; by_cases hx : x = 0 <;> simp [hx] at h
      | cons r rs =>
        rw [hs] at h
        simp only [List.cons.injEq] at h
        obtain ⟨_, a, b⟩ := h
        rw [a, b]
    exact strip_last h' (by rw [List.getLast?_cons_cons] at e; exact e)
theorem plus_nat (q : Rat) (n : Int) : (q + (n : Rat)).num = q.num + n * q.den ∧ ((q + (n : Rat)).den : Int) = q.den := by
  have d := den_pos q
  have f : Fq (q.num + n * q.den) q.den := by
    refine ⟨d, ?_⟩
    have h := (fq q).one
    have e : Int.gcd (q.num + n * (q.den : Int)) q.den = Int.gcd q.num q.den := by
      rw [Int.gcd_comm, Int.mul_comm, Int.gcd_add_mul_left_right, Int.gcd_comm]
    exact e.trans h
  refine eq_of_low f ?_
  have e1 := q_eq q
  have n1 := den_ne q
  simp only [Rat.intCast_add, Rat.intCast_mul]
  generalize (q.num : Rat) = a at *
  generalize ((q.den : Int) : Rat) = b at *
  subst e1
  grind
end Po
namespace Po
open Ra Rq
theorem getD_in {qs : List Rat} {k : Nat} (h : k < qs.length) : qs.getD k 0 = qs[k] := by rw [List.getD_eq_getElem?_getD, List.getElem?_eq_getElem h]; rfl
theorem Rep.mulR {n m : Nat} {v q : Rat} {T M a b : Int} (h : Rep n v T M) (hb : b ≠ 0) (e : q = (a : Rat) / (b : Rat)) (ba : Bt m a) (bb : Bt m b) : Rep (n + m) (v * q) (T * a) (M * b) := by
  obtain ⟨hM, hv, bT, bM⟩ := h
  refine ⟨Int.mul_ne_zero hM hb, ?_, bT.mul ba, bM.mul bb⟩
  have n2 := cast_ne hb
  have n3 := cast_ne hM
  simp only [Rat.intCast_mul]
  generalize (a : Rat) = a' at *
  generalize (b : Rat) = b' at *
  generalize (T : Rat) = T' at *
  generalize (M : Rat) = M' at *
  subst e hv
  grind
end Po

namespace Po
open Ra Rq
theorem ev_ext {ps qs : List Rat} (h : ∀ i, ps.getD i 0 = qs.getD i 0) (t : Rat) : ev ps t = ev qs t := by
  rw [← ev_strip ps, ← ev_strip qs, strip_ext h]
theorem getD_pslope (qs : List Rat) (k : Nat) : (pslope qs).getD k 0 = qs.getD (k + 1) 0 * (((1 : Int) + (k : Int) : Int) : Rat) := by
  unfold pslope
  rw [getD_range]
  by_cases h : k < qs.length - 1
  · rw [if_pos h]
  · rw [if_neg h, getD_out (xs := qs) (by (first | lia | omega)), Rat.zero_mul]
noncomputable def ds (qs : List Rat) (t : Rat) : Rat := ev (pslope qs) t
theorem ds_padd (ps qs : List Rat) (t : Rat) : ds (padd ps qs) t = ds ps t + ds qs t := by
  unfold ds
  rw [← ev_padd]
  exact ev_ext (fun i => by rw [getD_pslope, getD_padd, getD_padd, getD_pslope, getD_pslope]; grind) t
theorem ds_psub (ps qs : List Rat) (t : Rat) : ds (psub ps qs) t = ds ps t - ds qs t := by
  unfold ds
  rw [← ev_psub]
  exact ev_ext (fun i => by rw [getD_pslope, getD_psub, getD_psub, getD_pslope, getD_pslope]; grind) t
theorem ds_pscale (qs : List Rat) (x t : Rat) : ds (pscale qs x) t = ds qs t * x := by
  unfold ds
  rw [← ev_pscale]
  exact ev_ext (fun i => by rw [getD_pslope, getD_pscale, getD_pscale, getD_pslope]; grind) t
theorem ds_shift (qs : List Rat) (t : Rat) : ds (strip (0 :: qs)) t = ev qs t + t * ds qs t := by
  unfold ds
  have e : t * ev (pslope qs) t = ev (0 :: pslope qs) t := by rw [ev, Rat.zero_add]
  rw [e, ← ev_padd]
  refine ev_ext (fun i => ?_) t
  rw [getD_pslope, getD_strip, List.getD_cons_succ, getD_padd]
  cases i with
  | zero =>
    show qs.getD 0 0 * (((1 : Int) + (0 : Nat) : Int) : Rat) = qs.getD 0 0 + 0
    have : (((1 : Int) + ((0 : Nat) : Int) : Int) : Rat) = 1 := rfl
    rw [this]
    grind
  | succ i =>
    rw [List.getD_cons_succ, getD_pslope]
    have : (((1 : Int) + ((i + 1 : Nat) : Int) : Int) : Rat) = 1 + (((1 : Int) + (i : Int) : Int) : Rat) := by
      rw [show (1 : Int) + ((i + 1 : Nat) : Int) = 1 + (1 + (i : Int)) by (first | lia | omega), Rat.intCast_add]
      rfl
    rw [this]
    grind
theorem ds_plean (l h : List Rat) (w t : Rat) : ds (plean l h w) t = ds l t - w * ev h t - t * w * ds h t := by
  unfold plean
  rw [ds_psub, ds_shift, ev_pscale, ds_pscale]
  grind
noncomputable def sqs (gs ws : List Rat) (t : Rat) (n : Nat) : Rat := sm (fun k => ws.getD k 0 * ((stp gs ws t 0 1 k).1 * (stp gs ws t 0 1 k).1)) n
theorem sq_step (gs ws : List Rat) (t : Rat) (k : Nat) : ds (pst gs ws [] [1] k).1 t * ev (pst gs ws [] [1] k).2 t - ev (pst gs ws [] [1] k).1 t * ds (pst gs ws [] [1] k).2 t = sqs gs ws t k := by
  induction k with
  | zero =>
    unfold sqs
    rw [sm_zero]
    have e1 : ds (pst gs ws [] [1] 0).2 t = 0 := by
      show ev (pslope [1]) t = 0
      rfl
    have e2 : ds (pst gs ws [] [1] 0).1 t = 0 := by
      show ds (padd [] (pscale [1] (gs.getD 0 0))) t = 0
      rw [ds_padd, ds_pscale]
      show ev (pslope []) t + ev (pslope [1]) t * _ = 0
      show (0 : Rat) + 0 * _ = 0
      grind
    rw [e1, e2]
    grind
  | succ k ih =>
    have eh := (ev_pst gs ws [] [1] t k).1
    rw [ev_one, ev_nil] at eh
    unfold sqs at ih ⊢
    rw [sm_succ, ← ih, ← eh]
    show ds (padd _ (pscale (plean _ _ _) _)) t * ev (plean _ _ _) t - ev (padd _ (pscale (plean _ _ _) _)) t * ds (plean _ _ _) t = _
    rw [ds_padd, ds_pscale, ev_padd, ev_pscale, ds_plean, ev_plean]
    grind
noncomputable def sqQ (gs ws : List Rat) : List Rat := psub (pmul (pslope (pst gs ws [] [1] ws.length).1) (pst gs ws [] [1] ws.length).2) (pmul (pst gs ws [] [1] ws.length).1 (pslope (pst gs ws [] [1] ws.length).2))
theorem ev_sqQ (gs ws : List Rat) (t : Rat) : ev (sqQ gs ws) t = sqs gs ws t ws.length := by
  unfold sqQ
  rw [ev_psub, ev_pmul, ev_pmul]
  exact sq_step gs ws t ws.length
noncomputable def sqP (gs ws : List Rat) : Nat → List Rat
  | 0 => []
  | k + 1 => padd (sqP gs ws k) (pscale (pmul (pst gs ws [] [1] k).1 (pst gs ws [] [1] k).1) (ws.getD k 0))
theorem ev_sqP (gs ws : List Rat) (t : Rat) (n : Nat) : ev (sqP gs ws n) t = sqs gs ws t n := by
  induction n with
  | zero => rfl
  | succ n ih =>
    have eh := (ev_pst gs ws [] [1] t n).1
    rw [ev_one, ev_nil] at eh
    unfold sqs at ih ⊢
    rw [sqP, ev_padd, ev_pscale, ev_pmul, ih, sm_succ, eh]
    grind
theorem sqP_length (gs ws : List Rat) (n : Nat) : (sqP gs ws n).length ≤ 2 * n - 1 := by
  induction n with
  | zero => exact Nat.le_refl _
  | succ n ih =>
    have h1 := padd_length (sqP gs ws n) (pscale (pmul (pst gs ws [] [1] n).1 (pst gs ws [] [1] n).1) (ws.getD n 0))
    have h2 := pscale_length (pmul (pst gs ws [] [1] n).1 (pst gs ws [] [1] n).1) (ws.getD n 0)
    have h3 := (pst_length (gs := gs) (ws := ws) (h0 := []) (l0 := [1]) (by simp) (by simp) n).1
    have h4 : (pmul (pst gs ws [] [1] n).1 (pst gs ws [] [1] n).1).length ≤ 2 * n + 1 := by
      by_cases hlt : (pmul (pst gs ws [] [1] n).1 (pst gs ws [] [1] n).1).length ≤ 2 * n + 1
      · exact hlt
      · exfalso
        obtain ⟨m, hm⟩ : ∃ m, (pmul (pst gs ws [] [1] n).1 (pst gs ws [] [1] n).1).length = m + 1 := ⟨_ - 1, (Nat.sub_add_cancel (by (first | lia | omega))).symm⟩
        have hl : (pmul (pst gs ws [] [1] n).1 (pst gs ws [] [1] n).1).getLast? = some ((pmul (pst gs ws [] [1] n).1 (pst gs ws [] [1] n).1).getD m 0) := by
          rw [List.getLast?_eq_getElem?, hm, Nat.add_sub_cancel, List.getD_eq_getElem?_getD, List.getElem?_eq_getElem (by (first | lia | omega))]
          rfl
        have hne := strip_last (strip_strip _ : strip (pmul (pst gs ws [] [1] n).1 (pst gs ws [] [1] n).1) = _) hl
        rw [getD_pmul, conv_out (by (first | lia | omega))] at hne
        exact hne rfl
    show (padd _ _).length ≤ _
    (first | lia | omega)
theorem conv_top {ps qs : List Rat} {a b : Nat} (ha : ps.length ≤ a + 1) (hb : qs.length ≤ b + 1) : conv ps qs (a + b) = ps.getD a 0 * qs.getD b 0 := by
  unfold conv
  have e : sm (fun i => ps.getD i 0 * qs.getD (a + b - i) 0) (a + b + 1) = sm (fun i => if i = a then ps.getD i 0 * qs.getD (a + b - i) 0 else 0) (a + b + 1) := by
    refine sm_congr fun i hi => ?_
    by_cases h : i = a
    · rw [if_pos h]
    · rw [if_neg h]
      by_cases h2 : i < a
      · rw [getD_out (xs := qs) (by (first | lia | omega)), Rat.mul_zero]
      · rw [getD_out (xs := ps) (by (first | lia | omega)), Rat.zero_mul]
  rw [e, sm_single (fun i => ps.getD i 0 * qs.getD (a + b - i) 0), if_pos (by (first | lia | omega)), Nat.add_sub_cancel_left]
theorem sq_len {gs ws : List Rat} (pg : ∀ q ∈ gs, 0 < q) (pw : ∀ q ∈ ws, 0 < q) (hlen : gs.length = ws.length + 1) : (sqQ gs ws).length = 2 * ws.length - 1 := by
  have e : sqQ gs ws = strip (sqP gs ws ws.length) := by
    have h1 : strip (sqQ gs ws) = sqQ gs ws := strip_strip _
    rw [← h1]
    exact ev_strip_inj fun t => by rw [ev_sqQ, ev_sqP]
  have hP : strip (sqP gs ws ws.length) = sqP gs ws ws.length := by
    cases ws.length with
    | zero => rfl
    | succ n => exact strip_strip _
  rw [e, hP]
  cases hw : ws.length with
  | zero => rfl
  | succ n =>
    have hl := sqP_length gs ws (n + 1)
    have hl0 := sqP_length gs ws n
    have g0 := getD_pos pg (show 0 < gs.length by (first | lia | omega))
    have h1 : ([] : List Rat).getD 0 0 + ([1] : List Rat).getD 0 0 * gs.getD 0 0 ≠ 0 := by
      show (0 : Rat) + 1 * gs.getD 0 0 ≠ 0
      have := ne_of_pos g0
      grind
    have hn := pst_ne (h0 := []) (l0 := [1]) (by simp) (by simp) pg pw hlen h1 n (by (first | lia | omega))
    have h3 := (pst_length (gs := gs) (ws := ws) (h0 := []) (l0 := [1]) (by simp) (by simp) n).1
    have ht : (sqP gs ws (n + 1)).getD (2 * n) 0 ≠ 0 := by
      rw [sqP, getD_padd, getD_pscale, getD_pmul, show 2 * n = n + n by (first | lia | omega), conv_top h3 h3, getD_out (xs := sqP gs ws n) (by
        cases n with
        | zero => exact Nat.le_refl _
        | succ n => (first | lia | omega))]
      have w0 := ne_of_pos (getD_pos pw (show n < ws.length by (first | lia | omega)))
      intro z
      have z' : (pst gs ws [] [1] n).1.getD n 0 * (pst gs ws [] [1] n).1.getD n 0 * ws.getD n 0 = 0 := by grind
      rcases Rat.mul_eq_zero.mp z' with z | z
      · rcases Rat.mul_eq_zero.mp z with z | z
        · exact hn z
        · exact hn z
      · exact w0 z
    rw [len_of_ne ht (by (first | lia | omega))]
    (first | lia | omega)
theorem mul_self_nonneg (x : Rat) : 0 ≤ x * x := by
  rcases (Rat.le_total : 0 ≤ x ∨ x ≤ 0) with h | h
  · exact Rat.mul_nonneg h h
  · have : x * x = (-x) * (-x) := by grind
    rw [this]
    exact Rat.mul_nonneg (by grind) (by grind)
theorem sqs_pos {gs ws : List Rat} (pg : ∀ q ∈ gs, 0 < q) (pw : ∀ q ∈ ws, 0 < q) (hlen : gs.length = ws.length + 1) (t : Rat) : ∀ n, n ≤ ws.length → 0 < n → 0 < sqs gs ws t n
  | 0, _, h => absurd h (by (first | lia | omega))
  | 1, hn, _ => by
    unfold sqs
    rw [sm_succ, sm_zero]
    have g0 := getD_pos pg (show 0 < gs.length by (first | lia | omega))
    have w0 := getD_pos pw (show 0 < ws.length by (first | lia | omega))
    show 0 < 0 + ws.getD 0 0 * ((0 + gs.getD 0 0 * 1) * (0 + gs.getD 0 0 * 1))
    have : 0 + ws.getD 0 0 * ((0 + gs.getD 0 0 * 1) * (0 + gs.getD 0 0 * 1)) = ws.getD 0 0 * (gs.getD 0 0 * gs.getD 0 0) := by grind
    rw [this]
    exact Rat.mul_pos w0 (Rat.mul_pos g0 g0)
  | n + 2, hn, _ => by
    have ih := sqs_pos pg pw hlen t (n + 1) (by (first | lia | omega)) (by (first | lia | omega))
    unfold sqs at ih ⊢
    rw [sm_succ]
    have w0 := getD_pos pw (show n + 1 < ws.length by (first | lia | omega))
    have := Rat.mul_nonneg (Rat.le_of_lt w0) (mul_self_nonneg (stp gs ws t 0 1 (n + 1)).1)
    grind
theorem ov_pslope {n : Nat} {M : Int} {qs : List Rat} (hq : ∀ q ∈ qs, Ov n M q) (hl : qs.length ≤ 1000) : ∀ q ∈ pslope qs, Ov (n + 10) M q := fun q h => by
  obtain ⟨k, hk, rfl⟩ := List.mem_map.mp h
  rw [List.mem_range] at hk
  obtain ⟨T, bT, e⟩ := getD_ov hq (k + 1)
  refine ⟨T * (1 + (k : Int)), bT.mul (Bt.between (by (first | lia | omega)) (by (first | lia | omega))), ?_⟩
  rw [Rat.intCast_mul, ← e]
  grind
theorem ov_pmul {n m : Nat} {M W : Int} {ps qs : List Rat} (hp : ∀ q ∈ ps, Ov n M q) (hq : ∀ q ∈ qs, Ov m W q) (bM : Bt n M) (bW : Bt m W) (hl : ps.length + qs.length ≤ 60) : ∀ q ∈ pmul ps qs, Ov (n + m + 61) (M * W) q := fun q h => by
  obtain ⟨k, hk, rfl⟩ := List.mem_map.mp (strip_mem h)
  rw [List.mem_range] at hk
  have := psum_ov (ms := []) (r := 1) (W3 := 1) hp hq (by simp) bM bW (by show (1 : Nat) < 2 ^ 1; decide) k (k + 1)
  rw [Int.mul_one] at this
  have e : ([] : List Rat).getD k 0 + sm (fun t => ps.getD t 0 * qs.getD (k - t) 0) (k + 1) = conv ps qs k := by
    show (0 : Rat) + _ = _
    rw [Rat.zero_add]
    rfl
  rw [e] at this
  exact this.mono (by (first | lia | omega))
end Po

namespace L3
open PySem PySem.Spec PyProof.Rows L2 Ra

theorem log2_of {j : Int} (h : Bt 9000 j) : j.natAbs.log2 < 9000 := by
  by_cases h0 : j.natAbs = 0
  · rw [h0]; decide
  · exact (Nat.log2_lt h0).mpr h
theorem mul_of {i j : Int} {m n : Nat} (h : Bt m i) (k : Bt n j) (l : m + n ≤ 134217728) : IntMulOk i j :=
  PySem.IntMulOk.of_le (PySem.intBits_le_iff.mpr h) (PySem.intBits_le_iff.mpr k) l
section
variable {X : Cx} {a b c : Expr} {ta tb tc : TE} {pos : Pos}
theorem op_fdP : OpR X (binaryOp .FloorDiv) (rI (fun _ j => 0 < j ∧ Bt 9000 j) fun i j => .int (i / j)) := opI fun i j _ _ _ _ _ hc q => by
  have h1 : (0 : Int) < j := hc.1
  exact floordiv_int (by (first | lia | omega)) (by rw [Int.fdiv_eq_ediv_of_nonneg i (by (first | lia | omega))]; exact q) (.inl (PyProof.noPylong_of_log2 (log2_of hc.2)))
theorem op_mulB : OpR X (binaryOp .Mult) (rI IntMulOk fun i j => .int (i * j)) := opI fun _ _ _ _ _ _ _ hc q => mul_int q hc
theorem call_isi : CallR X (.builtin "isinstance") (fun xs H Q => ∃ x T t b, xs = [x, .ty T] ∧ TyOf X.K H x t ∧ PySem.W.kitOne X.K t (.type T) = some b ∧ Q (.bl b) H) := by
  intro pins s σ H xs us Q I r h
  obtain ⟨x, T, t, b, rfl, ty, e, q⟩ := h
  obtain ⟨u, w', rfl, rx, rt⟩ := vals2 r
  cases rt
  exact isinst_ok I rx ty e fun tk => ⟨.bl b, H, I.tok _, rfl, q⟩
end
theorem kit_int_int (K : PySem.W.Frag) : PySem.W.kitOne K (.type "int") (.type "int") = some true := rfl
theorem kit_int_bool (K : PySem.W.Frag) : PySem.W.kitOne K (.type "int") (.type "bool") = some false := by with_unfolding_all rfl
theorem kit_tup_tup (K : PySem.W.Frag) : PySem.W.kitOne K (.type "tuple") (.type "tuple") = some true := rfl

section
variable {X : Cx} {K : PySem.W.Frag}
end
theorem iteD {c A B : Prop} [Decidable c] (h : c) (k : A) : if decide c = true then A else B := by
  rw [decide_eq_true h]
  exact iteT k
theorem iteND {c A B : Prop} [Decidable c] (h : ¬ c) (k : B) : if decide c = true then A else B := by
  rw [decide_eq_false h]
  exact iteF k
theorem iteSS {c A B : Prop} [Decidable c] (hc : ¬ c) (h : A) : if (!decide c) = true then A else B := by
  rw [decide_eq_false hc]
  exact iteT h
theorem iteNB {b : Bool} {A B : Prop} (h : b = true) (k : B) : if (!b) = true then A else B := by
  rw [h]
  exact iteF k
structure Cal (P : Program) (w : World) (K : PySem.W.Frag) (mg : Str → Option Value) (base : Heap) (x : Str) (k : Nat) (ps : List Str) (sp : Sp) : Prop where
  ex : ∃ f fd, FnOk P w K mg base CX0 k f fd ps sp ∧ Binds K fd ps [] ∧ PySem.W.keepIn K (.ref f) = true ∧ mg x = some (.ref f)
theorem Cal.imp {P : Program} {w : World} {K : PySem.W.Frag} {mg : Str → Option Value} {base : Heap} {x : Str} {k : Nat} {ps : List Str} {sp sp' : Sp} (C : Cal P w K mg base x k ps sp) (h : ∀ {vs : List V} {H : Hp} {Q : VK} {E : XK}, sp' vs H Q E → sp vs H Q E) : Cal P w K mg base x k ps sp' := by
  obtain ⟨f, fd, F, b, kp, m⟩ := C.ex
  exact ⟨f, fd, F.imp fun _ _ _ _ z => h z, b, kp, m⟩
theorem pe_cl {X : Cx} {x : Str} {k j : Nat} {ps : List Str} {sp : Sp} {e : Expr} {es : List Expr} {t : TA} {p pos : Pos} (C : Cal X.prog X.w X.K X.mg X.base x k ps sp) (hr : Room j X.A) (ha : PA X (e :: es) t) (hkj : k ≤ j := by decide) (hg : Gl X x := by rfl)
    (hdb : (x == ("__debug__" : Str)) = false := by decide) (he : starEach (e :: es) X.env = (false, eval e X.env) :: starEach es X.env := by rfl) (hpl : (backTo pos (starEach es X.env)).any (·.1) = false := by rfl) :
    PE X (.Call (.Name x p) (e :: es) [] pos) (tCall sp [] E0 t) := by
  obtain ⟨f, fd, F, b, kp, m⟩ := C.ex
  exact pe_call F (hr.mono hkj) hg m kp b .nil pass0 ha hdb he hpl

theorem same_upd {H : Hp} {p : Addr} (h : H p = none) (o : HO) : Same H (upd H p o) := fun b u q => by rw [upd_ne (ne_of_none q h)]; exact q
noncomputable def Pr (H : Hp) (p : Addr) (x y : Int) : Prop := H p = some (.tup [.int x, .int y])
theorem Pr.keep {H H' : Hp} {p : Addr} {x y : Int} (h : Pr H p x y) (s : Same H H') : Pr H' p x y := s _ _ h
theorem Pr.sq {K : PySem.W.Frag} {H : Hp} {p : Addr} {x y : Int} (h : Pr H p x y) : SqT K H p [.int x, .int y] := SqT.of h
theorem Pr.new {H : Hp} {p : Addr} {x y : Int} : Pr (upd H p (.tup [.int x, .int y])) p x y := upd_same

end L3

namespace L3
open PySem PySem.Spec PyProof.Rows L2 Ra
noncomputable def clo (sc : Scope) (env : Env) : List (Str × Addr) := ((sc.names.filter fun y => y.2 == .free).map fun y => (y.1, (env.cells.lookup y.1).getD 0)).reverse
theorem clo_in {sc : Scope} {env : Env} {y : Str} {c : Addr} (h : (clo sc env).lookup y = some c) : (y, NameKind.free) ∈ sc.names ∧ c = (env.cells.lookup y).getD 0 := by
  have m : (y, c) ∈ clo sc env := PySem.mem_of_lookup h
  unfold clo at m
  rw [List.mem_reverse, List.mem_map] at m
  obtain ⟨⟨n, k⟩, hm, e⟩ := m
  rw [List.mem_filter] at hm
  have hk : k = .free := by simpa using hm.2
  subst hk
  cases e
  exact ⟨hm.1, rfl⟩
theorem lookup_some_of_mem {α : Type} {l : List (Str × α)} {y : Str} {c : α} (h : (y, c) ∈ l) : ∃ c', l.lookup y = some c' := by
  induction l with
  | nil => cases h
  | cons p r ih =>
    obtain ⟨n, v⟩ := p
    by_cases e : y = n
    · subst e
      exact ⟨v, by simp⟩
    · have hb : (y == n) = false := by simpa using e
      rw [List.lookup_cons, hb]
      rcases List.mem_cons.mp h with z | z
      · cases z
        exact absurd rfl e
      · exact ih z
theorem clo_has {sc : Scope} {env : Env} {y : Str} (h : (y, NameKind.free) ∈ sc.names) : ∃ c, (clo sc env).lookup y = some c := by
  refine lookup_some_of_mem (c := (env.cells.lookup y).getD 0) ?_
  unfold clo
  rw [List.mem_reverse, List.mem_map]
  exact ⟨(y, .free), List.mem_filter.mpr ⟨h, by simp⟩, rfl⟩
theorem closure_aux {env : Env} : ∀ (ns : List (Str × NameKind)) (cs : List (Str × Addr)), (∀ y ∈ ns, y.2 = .free → ∃ c, env.cells.lookup y.1 = some c) →
    (forIn ns cs fun x r => (match x with | (name, kind) => if kind == .free then do let c ← cellOf env name; pure (ForInStep.yield ((name, c) :: r)) else pure (ForInStep.yield r) : Sem (ForInStep (List (Str × Addr))))) =
      pure (((ns.filter fun y => y.2 == .free).map fun y => (y.1, (env.cells.lookup y.1).getD 0)).reverse ++ cs)
  | [], cs, _ => rfl
  | (n, k) :: r, cs, h => by
    have hr : ∀ y ∈ r, y.2 = .free → ∃ c, env.cells.lookup y.1 = some c := fun y hy => h y (List.mem_cons_of_mem _ hy)
    rw [List.forIn_cons]
    by_cases hk : k = .free
    · subst hk
      obtain ⟨c, hc⟩ := h (n, .free) List.mem_cons_self rfl
      have e : cellOf env n = pure c := by unfold cellOf; rw [hc]
      have e2 : ((n, NameKind.free) :: r).filter (fun y => y.2 == .free) = (n, .free) :: r.filter fun y => y.2 == .free := by simp
      simp only [beq_self_eq_true, if_true, e, pure_bind]
      rw [closure_aux r _ hr, e2]
      simp [hc]
    · have hb : (k == NameKind.free) = false := by simpa using hk
      have e2 : ((n, k) :: r).filter (fun y => y.2 == .free) = r.filter fun y => y.2 == .free := by simp [hk]
      simp only [hb, Bool.false_eq_true, if_false, pure_bind]
      rw [closure_aux r _ hr, e2]
theorem closure_of {sc : Scope} {env : Env} (h : ∀ y ∈ sc.names, y.2 = .free → ∃ c, env.cells.lookup y.1 = some c) : closureFor sc env = pure (clo sc env) := by
  have q := closure_aux sc.names [] h
  rw [List.append_nil] at q
  unfold closureFor clo
  simp only [pure_bind, bind_pure]
  exact q
theorem relabel_lookup {sc : Scope} {env : Env} {y : Str} {k : NameKind} (h : sc.names.lookup y = some k) :
    (relabel sc env).names.lookup y = some (if (k == .free && env.scope.kind == .function && env.kindOf y == some .cell) then .cell else k) := by
  unfold relabel
  show (sc.names.map _).lookup y = _
  generalize sc.names = ns at h
  induction ns with
  | nil => cases h
  | cons p r ih =>
    obtain ⟨n, v⟩ := p
    rw [List.map_cons]
    show List.lookup y ((if (v == .free && env.scope.kind == .function && env.kindOf n == some .cell) = true then (n, NameKind.cell) else (n, v)) :: r.map _) = _
    by_cases e : y = n
    · subst e
      have ev : v = k := by simpa using h
      subst ev
      by_cases c : (v == .free && env.scope.kind == .function && env.kindOf y == some .cell) = true
      · rw [if_pos c, if_pos c]
        simp
      · rw [if_neg c, if_neg c]
        simp
    · have hb : (y == n) = false := by simpa using e
      have h' : r.lookup y = some k := by
        rw [List.lookup_cons, hb] at h
        exact h
      by_cases c : (v == .free && env.scope.kind == .function && env.kindOf n == some .cell) = true
      · rw [if_pos c]
        simp only [List.lookup_cons, hb]
        exact ih h'
      · rw [if_neg c]
        simp only [List.lookup_cons, hb]
        exact ih h'
theorem relabel_none {sc : Scope} {env : Env} {y : Str} (h : sc.names.lookup y = none) : (relabel sc env).names.lookup y = none := by
  unfold relabel
  show (sc.names.map _).lookup y = _
  generalize sc.names = ns at h
  induction ns with
  | nil => rfl
  | cons p r ih =>
    obtain ⟨n, v⟩ := p
    rw [List.map_cons]
    show List.lookup y ((if (v == .free && env.scope.kind == .function && env.kindOf n == some .cell) = true then (n, NameKind.cell) else (n, v)) :: r.map _) = _
    by_cases e : y = n
    · subst e
      simp at h
    · have hb : (y == n) = false := by simpa using e
      have h' : r.lookup y = none := by
        rw [List.lookup_cons, hb] at h
        exact h
      by_cases c : (v == .free && env.scope.kind == .function && env.kindOf n == some .cell) = true
      · rw [if_pos c]
        simp only [List.lookup_cons, hb]
        exact ih h'
      · rw [if_neg c]
        simp only [List.lookup_cons, hb]
        exact ih h'
structure CompOk (fsc csc : Scope) (x : Str) (js : List Nat) (N N' : List Str) : Prop where
  eqN : N' = x :: js.map fun j => N.getD j x
  nd : N'.Nodup
  fr : ∀ y ∈ csc.names, y.2 = .free → fsc.names.lookup y.1 = some .cell
  cell : ∀ y ∈ csc.names, y.2 ≠ .cell
  kind : csc.kind = .function
  nm : ∀ y ∈ csc.names, y.2 = .local → csc.names.lookup y.1 = some .local
  xl : csc.names.lookup x = some .local
  js : ∀ j ∈ js, j < N.length ∧ csc.names.lookup (N.getD j x) = some .free
noncomputable def blk (X : Cx) (csc : Scope) (N' : List Str) (s₀ : Shared) (H₀ : Hp) (C : Addr) (ex : List Addr) : Cx :=
  { X with N := N', s₀ := s₀, H₀ := H₀, env := compEnvC csc (clo csc X.env) C X.env, outer := X.stack, stack := X.stack, ex := ex, fn := fun _ => false, pn := [], xe := fun _ _ => False }
noncomputable def CompAt (J : It) (te : Shared → Hp → Addr → List Addr → TE) (js : List Nat) (σ : L2.St) (Q : VK) (H1 : Hp) : Prop := ∀ D, H1 D = none → ∃ W : Nat → Nat → List V → Hp → Prop, (∃ m, W 0 m [] (upd H1 D (.lst []))) ∧
  ∀ i m ys H, W i m ys H → H D = some (.lst ys) ∧ ((J.stop i H ∧ Q (.ref D) H) ∨ (J.go i H ∧ ∀ x H', J.yld i H x H' → ∀ s₀ H₀ C ex, te s₀ H₀ C ex (some x :: js.map fun j => (σ[j]?).join) H' fun y H2 =>
    H2 D = some (.lst ys) ∧ ys.length < sizeLine ∧ ∃ m', m' < m ∧ W (i + 1) m' (ys ++ [y]) (upd H2 D (.lst (ys ++ [y])))))
noncomputable def tComp (wi : TI) (te : Shared → Hp → Addr → List Addr → TE) (js : List Nat) : TE := fun σ H Q => wi σ H fun J H1 => CompAt J te js σ Q H1
theorem inv_but {X : Cx} {pins : List (Addr × Obj)} {σ : L2.St} {H : Hp} {s : Shared} {C : Addr} {h7 : Heap} (I : Inv X pins σ H s) (f : FpOk X pins H C) (sb : Heap.SameBut C s.heap h7) : Inv X pins σ H { s with heap := h7 } := by
  obtain ⟨g0, g1, g2, g3, g4, g5⟩ := f
  have hne : ∀ {b : Addr}, b ∉ [C] → b ≠ C := fun h z => h (by rw [z]; exact List.mem_cons_self)
  refine I.call' (ch := [C]) (H' := H) rfl ⟨fun b o e _ _ hx => (sb.2 b (hne hx)).trans e, fun b o e _ _ hx => ⟨o.slots, (sb.2 b (hne hx)).trans e⟩, fun _ _ _ n _ => n, fun b o e hx => ⟨o, (sb.2 b (hne hx)).trans e⟩, fun _ _ q => q, fun _ _ _ q => q, fun _ ps q => ⟨#[], by rw [Array.append_empty]; exact q⟩⟩ ?_ I.bare fun b hb => ?_
  · intro b ob e
    refine (I.hok b ob e).stay (fun c w' hcc q => (sb.2 c ?_).trans q) (fun _ q => q) fun _ _ q => q
    rintro rfl
    rcases hcc with rfl | hcc
    · rw [g0] at e; cases e
    · rw [g0] at hcc; cases hcc
  · have e : b = C := by simpa using hb
    subst e
    exact ⟨g3, g1, g4, g5⟩
theorem compLoop_gen {prog : Program} {w : World} {A : Around} {R : Result → Shared → Prop} {s : Shared} {elt target iter : Expr} {ifs : List Expr} {scope : Scope} {pos : Pos} {it acc : Value} {env : Env} (I : Nat → Shared → Prop)
    (turn : ∀ n s, I n s → wpAny (model prog w) A (pyNext it) (fun r s₁ => match r with
      | none => R (.ok .next) s₁
      | some v => wpAny (model prog w) A (letOwnedTupleGo target it v) (fun _ s₁' => wpAny (model prog w) A (assign target env v) (fun _ s₂ =>
          wpAny (model prog w) A (forIn ifs true fun c r => if r = true then do let ok ← isTrue c env (eval c env); pure (ForInStep.yield ok) else pure (ForInStep.yield r)) (fun ok s₃ =>
            if ok = true then wpAny (model prog w) A (eval elt env) (fun x s₄ =>
              wpAny (model prog w) A (call (.builtin "list.append") [acc, x]) (fun _ s₅ => ∃ m, m < n ∧ I m s₅) (notedBy (model prog w) A env fun e s' => R (.error e) s') s₄) (notedBy (model prog w) A env fun e s' => R (.error e) s') s₃
            else ∃ m, m < n ∧ I m s₃) (notedBy (model prog w) A env fun e s' => R (.error e) s') s₂) (notedBy (model prog w) A env fun e s' => R (.error e) s') s₁') (notedBy (model prog w) A env fun e s' => R (.error e) s') s₁) (notedBy (model prog w) A env fun e s' => R (.error e) s') s)
    (n : Nat) (h : I n s) : codeAny (model prog w) A (.compLoop (.ListComp elt [⟨target, iter, ifs, 0⟩] scope pos) 0 it acc env) R s := by
  refine codeAny_loop rfl I (fun n s hI => ?_) n h
  show wpAny _ A ((compTurn (.ListComp elt [⟨target, iter, ifs, 0⟩] scope pos) 0 it acc env).onRaise (fun x => do noteFrame x env; theTreesLotGoes x)) _ _ s
  refine wpAny_noted ?_
  rw [compTurn_list]
  refine wpAny_bind (wpAny_standAt (wpAny_bind (wpAny_mono (turn n s hI) (fun r s₁ h₁ => ?_) fun _ _ h' => h')))
  cases r with
  | none => exact wpAny_pure h₁
  | some v =>
    refine wpAny_bind (wpAny_mono h₁ (fun _ s₁' h₁' => ?_) fun _ _ h' => h')
    refine wpAny_bind (wpAny_mono h₁' (fun _ s₂ h₂ => wpAny_bind (wpAny_mono h₂ (fun ok s₃ h₃ => ?_) fun _ _ h' => h')) fun _ _ h' => h')
    cases ok with
    | false => exact wpAny_pure ⟨rfl, h₃⟩
    | true =>
      exact wpAny_bind (wpAny_bind (wpAny_mono h₃ (fun x s₄ h₄ => wpAny_bind (wpAny_mono h₄ (fun _ s₅ h₅ => wpAny_pure (wpAny_pure ⟨rfl, h₅⟩)) fun _ _ h' => h')) fun _ _ h' => h'))
noncomputable def PTs (X : Cx) (ifs : List Expr) (t : TT) : Prop :=
  ∀ (pins : List (Addr × Obj)) (s : Shared) (σ : L2.St) (H : Hp) (Q : Bool → Hp → Prop), Inv X pins σ H s → t σ H Q →
    wpAny (model X.prog X.w) X.A (forIn ifs true fun c r => if r = true then do let ok ← isTrue c X.env (eval c X.env); pure (ForInStep.yield ok) else pure (ForInStep.yield r)) (TP X pins σ Q) X.xe s
noncomputable def tNoTest : TT := fun _ H Q => Q true H
theorem pts_nil {X : Cx} : PTs X [] tNoTest := fun _ _ _ H _ I h => wpAny_tests_nil ⟨H, I, h⟩
structure CompOkG (fsc csc : Scope) (xs : List Str) (js : List Nat) (N N' : List Str) : Prop where
  eqN : N' = xs ++ js.map fun j => N.getD j ""
  fr : ∀ y ∈ csc.names, y.2 = .free → fsc.names.lookup y.1 = some .cell
  cell : ∀ y ∈ csc.names, y.2 ≠ .cell
  kind : csc.kind = .function
  nm : ∀ y ∈ csc.names, y.2 = .local → csc.names.lookup y.1 = some .local
  js : ∀ j ∈ js, j < N.length ∧ csc.names.lookup (N.getD j "") = some .free
noncomputable def CompAtG (J : It) (tg : TG) (tt : Shared → Hp → Addr → List Addr → TT) (te : Shared → Hp → Addr → List Addr → TE) (nx : Nat) (js : List Nat) (σ : L2.St) (Q : VK) (H1 : Hp) : Prop := ∀ D, H1 D = none → ∃ W : Nat → Nat → List V → Hp → Prop, (∃ m, W 0 m [] (upd H1 D (.lst []))) ∧
  ∀ i m ys H, W i m ys H → H D = some (.lst ys) ∧ ((J.stop i H ∧ Q (.ref D) H) ∨ (J.go i H ∧ ∀ x H', J.yld i H x H' → ∀ s₀ H₀ C ex (σ0 : L2.St), σ0.length = nx → tg x (σ0 ++ js.map fun j => (σ[j]?).join) H' fun σ1 H2 =>
    (∃ σ0' : L2.St, σ1 = σ0' ++ (js.map fun j => (σ[j]?).join) ∧ σ0'.length = nx) ∧ tt s₀ H₀ C ex σ1 H2 fun b H3 => if b = true then te s₀ H₀ C ex σ1 H3 fun y H4 =>
      H4 D = some (.lst ys) ∧ ys.length < sizeLine ∧ ∃ m', m' < m ∧ W (i + 1) m' (ys ++ [y]) (upd H4 D (.lst (ys ++ [y])))
    else H3 D = some (.lst ys) ∧ ∃ m', m' < m ∧ W (i + 1) m' ys H3))
noncomputable def tCompG (wi : TI) (tg : TG) (tt : Shared → Hp → Addr → List Addr → TT) (te : Shared → Hp → Addr → List Addr → TE) (nx : Nat) (js : List Nat) : TE := fun σ H Q => wi σ H fun J H1 => CompAtG J tg tt te nx js σ Q H1
theorem compG_core {X : Cx} {elt iter target : Expr} {ifs : List Expr} {pos pos' : Pos} {csc : Scope} {wi : TI} {tg : TG} {tt : Shared → Hp → Addr → List Addr → TT} {te : Shared → Hp → Addr → List Addr → TE} (xs : List Str) (js : List Nat) {N' : List Str} {fsc : Scope} {N : List Str} (ok : CompOkG fsc csc xs js N N') (hi : PI X target iter wi) (hg : ∀ s₀ H₀ C ex, PG (blk X csc N' s₀ H₀ C ex) target tg) (ht : ∀ s₀ H₀ C ex, PTs (blk X csc N' s₀ H₀ C ex) ifs (tt s₀ H₀ C ex))
    (he : ∀ s₀ H₀ C ex, PE (blk X csc N' s₀ H₀ C ex) elt (te s₀ H₀ C ex)) (hc : X.calm = true) (hsc : X.env.scope = fsc) (hXN : X.N = N) (hs : ∀ x, foldedSetIterable iter X.env x = pure x)
    (use : Option (Value → Sem Unit)) (R : Value → Shared → Prop) {pins : List (Addr × Obj)} {s : Shared} {σ : L2.St} {H : Hp} {Q : VK} (I : Inv X pins σ H s) (h : tCompG wi tg tt te xs.length js σ H Q)
    (hfin : ∀ (D C : Addr) (s6 : Shared) (H5 : Hp) (m6 : Str → Option Value) (r : Flow), Inv X pins σ H5 s6 → FpOk X pins H5 C → s6.heap.Ns C m6 → Q (.ref D) H5 → compPost (model X.prog X.w) X.A X.xe use R (.ref D) C (.ok r) s6) :
    wpAny (model X.prog X.w) X.A (comprehension (.ListComp elt [⟨target, iter, ifs, 0⟩] csc pos) csc X.env pos' (newList []) false (eval iter X.env) use) R X.xe s := by
  have hkX : X.env.scope.kind = .function := I.ok.kind
  have hfree : ∀ y ∈ csc.names, y.2 = .free → ∃ c, X.env.cells.lookup y.1 = some c := fun y hy hk => I.ok.has y.1 (.inl (by show X.env.scope.names.lookup y.1 = _; rw [hsc]; exact ok.fr y hy hk))
  have hcl : ∀ y c, (clo csc X.env).lookup y = some c → X.env.cells.lookup y = some c := fun y c e => by
    obtain ⟨m, e2⟩ := clo_in e
    obtain ⟨c', e3⟩ := hfree _ m rfl
    rw [e3] at e2
    rw [e3, e2]
    rfl
  refine wpAny_comprehension_free (use := use) rfl hs (closure_of hfree) ok.kind ok.nm ?_
  refine thn (hi pins s σ H _ I h) fun v s1 h1 => thn h1 fun itv s2 h2 => ?_
  obtain ⟨it, fp, tn, J, H2, e, I2, T, st2, f2, hw⟩ := h2
  subst e
  have hD : H2 s2.heap.objs.size = none := I2.hok.fresh (Nat.le_refl _)
  obtain ⟨W, ⟨m0, w0⟩, turn⟩ := hw _ hD
  refine wpAny_newObj_type ?_ (by show 0 ≤ sizeLine; decide)
  have I3 : Inv X pins σ (upd H2 s2.heap.objs.size (.lst [])) { s2 with heap := s2.heap.push { cls := .type "list", data := .seq ([] : List Value).toArray } } := I2.lnew (t' := s2.toks) .nil (by show 0 ≤ sizeLine; decide)
  generalize hs3 : ({ s2 with heap := s2.heap.push { cls := .type "list", data := .seq ([] : List Value).toArray } } : Shared) = s3 at I3 ⊢
  have hsz : s3.heap.objs.size = s2.heap.objs.size + 1 := by rw [← hs3, Heap.size_push]
  generalize hDe : s2.heap.objs.size = D at *
  have tn3 : tn 0 s3.heap := T.keep 0 s2.heap _ st2 fun b hb o e => by rw [← hs3]; exact Heap.get?_push_of_some _ e
  have fpD : ∀ b ∈ fp, b ≠ D := fun b hb z => by
    obtain ⟨o, e, _⟩ := T.obj 0 _ st2 b hb
    rw [z, ← hDe] at e
    exact absurd (Heap.lt_size e) (Nat.lt_irrefl _)
  have f3 : ∀ b ∈ fp, upd H2 D (.lst []) b = none := fun b hb => by rw [upd_ne (fpD b hb)]; exact (f2 b hb).1
  refine wpAny_newFunctionEnv ok.cell (by intro y hy; simp at hy) (fun h4 hns hsb => ?_) ok.kind
  generalize hCe : s3.heap.objs.size = C at *
  have ltC : ∀ b o, s3.heap.get? b = some o → b < C := fun b o e => by
    rw [← hCe]
    exact Heap.lt_size e
  have keep4 : ∀ b o, s3.heap.get? b = some o → h4.get? b = some o := fun b o e => by
    rw [hsb.2 b (Nat.ne_of_lt (ltC b o e))]
    exact Heap.get?_push_of_some _ e
  have Xok : (blk X csc N' s3 (upd H2 D (.lst [])) C fp).Ok := by
    refine ⟨I3.ok.mod, ?_, I3.ok.glob, I3.ok.blt, ?_, fun y z c h1 h2 => I3.ok.inj y z c (hcl y c h1) (hcl z c h2), fun y hy => ?_, fun y c h1 _ => ?_, I3.ok.hd, I3.ok.frames, .inl rfl, fun b hb => ?_, I3.bs, ?_, fun b o e hb => ?_, fun b hb hz => ?_, I3.stack, I3.stkFree⟩
    · exact ok.kind
    · exact Nat.le_of_eq hCe
    · have hy' : (relabel csc X.env).names.lookup y = some .cell ∨ (relabel csc X.env).names.lookup y = some .free := hy
      cases hk : csc.names.lookup y with
      | none =>
        rw [relabel_none hk] at hy'
        rcases hy' with z | z <;> cases z
      | some k =>
        have hm : (y, k) ∈ csc.names := PySem.mem_of_lookup hk
        by_cases hkf : k = .free
        · subst hkf
          exact clo_has hm
        · have hb : (k == NameKind.free) = false := by simpa using hkf
          rw [relabel_lookup hk] at hy'
          simp only [hb, Bool.false_and, Bool.false_eq_true, if_false] at hy'
          rcases hy' with z | z
          · exact absurd (Option.some.inj z) (ok.cell _ hm)
          · exact absurd (Option.some.inj z) hkf
    · exact absurd (show false = true from h1) Bool.false_ne_true
    · obtain ⟨g0, g1, g2, g3, g4, g5⟩ := f2 b hb
      refine ⟨fun z => ?_, fun y c e => g4 y c (hcl y c e)⟩
      obtain ⟨o, e, _⟩ := T.obj 0 _ tn3 b hb
      have z' : b = C := z
      have l := ltC b o e
      rw [z'] at l
      exact absurd l (Nat.lt_irrefl _)
    · exact Nat.le_trans I3.ok.bsz I3.sz
    · obtain ⟨g0, g1, g2, g3, g4, g5⟩ := f2 b hb
      rcases g3 with z | z
      · exact I3.ok.noex b o e z
      · exact absurd (Nat.lt_of_lt_of_le (Heap.lt_size e) (Nat.le_trans I3.ok.bsz z)) (Nat.lt_irrefl _)
    · obtain ⟨g0, g1, g2, g3, g4, g5⟩ := f2 b hb
      rcases List.mem_cons.mp (I3.stkSub b hz) with z | z
      · exact g1 z
      · exact g2 z
  have hfreeC : H2 C = none ∧ upd H2 D (.lst []) C = none := by
    have q : upd H2 D (.lst []) C = none := I3.hok.fresh (Nat.le_of_eq hCe)
    refine ⟨?_, q⟩
    rw [upd_ne (by rw [hsz]; exact Nat.succ_ne_self D)] at q
    exact q
  have I4 : Inv (blk X csc N' s3 (upd H2 D (.lst [])) C fp) [] (List.replicate xs.length none ++ js.map fun j => (σ[j]?).join) (upd H2 D (.lst [])) { s3 with heap := h4, toks := s3.toks + ([] : List (Str × Value)).length } := by
    refine ⟨Xok, rfl, I3.bare, Un.kept keep4, ⟨_, hns, fun i y v h1 h2 h3 => ?_⟩, fun y c e => ?_, hfreeC.2, fun y c e => I3.freeC y c (hcl y c e), fun p hp => absurd (show p ∈ ([] : List (Addr × Obj)) from hp) (by simp), I3.hok.kept keep4, ?_⟩
    · have h1' : (xs ++ js.map fun j => N.getD j "")[i]? = some y := by rw [← ok.eqN]; exact h1
      by_cases hi : i < xs.length
      · rw [List.getElem?_append_left (by rw [List.length_replicate]; exact hi), List.getElem?_replicate] at h2
        rw [if_pos hi] at h2
        cases h2
      · rw [List.getElem?_append_right (by (first | lia | omega)), List.getElem?_map] at h1'
        rw [List.getElem?_append_right (by rw [List.length_replicate]; (first | lia | omega)), List.length_replicate, List.getElem?_map] at h2
        cases ej : js[i - xs.length]? with
        | none => rw [ej] at h2; cases h2
        | some j =>
          rw [ej] at h1' h2
          obtain ⟨jl, jf⟩ := ok.js j (List.mem_of_getElem? ej)
          have ey : N.getD j "" = y := Option.some.inj h1'
          have ev : (σ[j]?).join = some v := Option.some.inj h2
          have ev' : σ[j]? = some (some v) := by
            cases q : σ[j]? with
            | none => rw [q] at ev; cases ev
            | some o => rw [q] at ev; rw [show o = some v from ev]
          have eN : X.N[j]? = some y := by rw [hXN, ← ey, List.getD_eq_getElem?_getD, List.getElem?_eq_getElem jl]; rfl
          rw [ey] at jf
          have kX : X.env.scope.names.lookup y = some .cell := by rw [hsc]; exact ok.fr (y, .free) (PySem.mem_of_lookup jf) rfl
          obtain ⟨m3, n3, l3⟩ := I3.loc
          obtain ⟨u, ru, lk⟩ := l3 j y v eN ev' (.inr (.inl kX))
          refine ⟨u, ru, .inr ⟨?_, ?_⟩⟩
          · left
            show (relabel csc X.env).names.lookup y = some .cell
            rw [relabel_lookup jf]
            have k2 : X.env.kindOf y = some .cell := kX
            rw [hkX, k2]
            rfl
          · rcases lk with ⟨z, _⟩ | ⟨_, c, hc1, hc2⟩
            · have z' : X.env.scope.names.lookup y = some .local := z
              rw [kX] at z'
              cases z'
            · obtain ⟨c', e'⟩ := clo_has (env := X.env) (PySem.mem_of_lookup jf)
              have : c' = c := by
                have q := hcl y c' e'
                rw [hc1] at q
                exact (Option.some.inj q).symm
              subst this
              obtain ⟨oc, ho, hd⟩ := hc2
              exact ⟨c', e', oc, keep4 _ _ ho, hd⟩
    · obtain ⟨v, oc, ho, hd⟩ := I3.cell y c (hcl y c e)
      exact ⟨v, oc, keep4 _ _ ho, hd⟩
    · show (List.replicate xs.length none ++ js.map _).length = N'.length
      rw [ok.eqN]
      simp
  have stat : ∀ {H' : Hp}, (∀ b ∈ fp, H' b = none) → ∀ b ∈ fp, FpOk (blk X csc N' s3 (upd H2 D (.lst [])) C fp) [] H' b := fun hn b hb => by
    obtain ⟨g0, g1, g2, g3, g4, g5⟩ := f2 b hb
    exact ⟨hn b hb, (Xok.exf b hb).1, Xok.exfs b hb, .inl hb, (Xok.exf b hb).2, fun p hp => absurd (show p ∈ ([] : List (Addr × Obj)) from hp) (by simp)⟩
  have loop : ∀ s' : Shared, Inv (blk X csc N' s3 (upd H2 D (.lst [])) C fp) [] (List.replicate xs.length none ++ js.map fun j => (σ[j]?).join) (upd H2 D (.lst [])) s' → tn 0 s'.heap →
      codeAny (model X.prog X.w) X.A (.compLoop (.ListComp elt [⟨target, iter, ifs, 0⟩] csc pos) 0 (.ref it) (.ref D) (compEnvC csc (clo csc X.env) C X.env)) (compPost (model X.prog X.w) X.A X.xe use R (.ref D) C) s' := by
    rintro s' I' t0
    refine compLoop_gen (fun m s => ∃ i ys H', Inv (blk X csc N' s3 (upd H2 D (.lst [])) C fp) [] (List.replicate xs.length none ++ js.map fun j => (σ[j]?).join) H' s ∧ tn i s.heap ∧ (∀ b ∈ fp, H' b = none) ∧ W i m ys H') ?_ m0 ⟨0, [], _, I', t0, f3, w0⟩
    rintro m s5 ⟨i, ys, H5, I5, t5, fr5, w5⟩
    obtain ⟨hDl, tt'⟩ := turn i m ys H5 w5
    rcases tt' with ⟨stop, qn⟩ | ⟨go, step⟩
    · refine thn (T.done (blk X csc N' s3 (upd H2 D (.lst [])) C fp) rfl rfl rfl hc i [] s5 _ H5 _ I5 (stat fr5) t5 stop) fun r s6 ⟨hr, I6⟩ => ?_
      subst hr
      obtain ⟨m6, n6, _⟩ := I6.loc
      have I7 : Inv X pins σ H5 s6 := I3.call' (s' := s6) I6.os I6.base I6.hok I6.bare fun b hb => by
        obtain ⟨g0, g1, g2, g3, g4, g5⟩ := f2 b hb
        exact ⟨g3, g1, g4, g5⟩
      exact hfin D C s6 H5 m6 _ I7 (I3.fpOk (Nat.le_of_eq hCe) I6.free) n6 qn
    · refine thn (T.item (blk X csc N' s3 (upd H2 D (.lst [])) C fp) rfl rfl rfl hc i [] s5 _ H5 _ I5 (stat fr5) t5 go) fun r s6 ⟨u, hr, h6⟩ => ?_
      subst hr
      refine thn h6 fun _ s7 ⟨xv, H6, I6, rx, y6, t6, fr6⟩ => ?_
      have I6' := I6.pinned (stat fr6) (T.obj _ _ t6)
      -- what is kept of the iterator, the block's names forgotten
      have back : ∀ {H10 : Hp} {s10 : Shared} {σ1 σ0 : L2.St}, σ1 = σ0 ++ (js.map fun j => (σ[j]?).join) → σ0.length = xs.length → Inv (blk X csc N' s3 (upd H2 D (.lst [])) C fp) ([] ++ pinsAt fp s7.heap) σ1 H10 s10 →
          Inv (blk X csc N' s3 (upd H2 D (.lst [])) C fp) [] (List.replicate xs.length none ++ js.map fun j => (σ[j]?).join) H10 s10 ∧ tn (i + 1) s10.heap ∧ ∀ b ∈ fp, H10 b = none := by
        intro H10 s10 σ1 σ0 e1 e2 I10
        subst e1
        refine ⟨(Inv.unpinned (pins := []) I10).weak (by simp [e2]) fun k v hk => ?_, T.keep _ _ _ t6 fun b hb o e => (I10.pin (b, o) (List.mem_append_right _ (List.mem_append_right _ (mem_pinsAt hb e)))).1, fun b hb => ?_⟩
        · by_cases hk' : k < xs.length
          · rw [List.getElem?_append_left (by rw [List.length_replicate]; exact hk'), List.getElem?_replicate, if_pos hk'] at hk
            cases hk
          · rw [List.getElem?_append_right (by rw [List.length_replicate]; (first | lia | omega)), List.length_replicate] at hk
            rw [List.getElem?_append_right (by (first | lia | omega)), e2]
            exact hk
        · obtain ⟨o, e, d⟩ := T.obj _ _ t6 b hb
          exact (I10.pin (b, o) (List.mem_append_right _ (List.mem_append_right _ (mem_pinsAt hb e)))).2.1
      have st0 := step xv H6 y6 s3 (upd H2 D (.lst [])) C fp (List.replicate xs.length none) (List.length_replicate ..)
      refine wpAny_mono (hg s3 (upd H2 D (.lst [])) C fp _ s7 _ H6 xv u _ I6' rx st0) (fun _ s8 h8 => ?_) (fun _ _ z => False.elim z)
      obtain ⟨σ1, H8, I8, ⟨σ0, e1, e2⟩, q8⟩ := h8
      refine wpAny_mono (ht s3 (upd H2 D (.lst [])) C fp _ s8 σ1 H8 _ I8 q8) (fun ok' s9 h9 => ?_) (fun _ _ z => False.elim z)
      obtain ⟨H9, I9, q9⟩ := h9
      cases ok' with
      | false =>
        have q9' := q9
        rw [if_neg Bool.false_ne_true] at q9'
        obtain ⟨hD9, m', hm', w9⟩ := q9'
        show if false = true then _ else _
        rw [if_neg Bool.false_ne_true]
        obtain ⟨I10, t10, f10⟩ := back e1 e2 I9
        exact ⟨m', hm', i + 1, ys, H9, I10, t10, f10, w9⟩
      | true =>
        have q9' := q9
        rw [if_pos rfl] at q9'
        show if true = true then _ else _
        rw [if_pos rfl]
        refine wpAny_mono (he s3 (upd H2 D (.lst [])) C fp _ s9 σ1 H9 _ I9 q9') (fun yv s10 h10 => ?_) (fun _ _ z => False.elim z)
        obtain ⟨y, H10, I10, ry, hD10, hlt, m', hm', w10⟩ := h10
        refine wpAny_mono (mt_append (X := blk X csc N' s3 (upd H2 D (.lst [])) C fp) _ s10 _ H10 (.ref D) [y] (.ref D) [yv] (fun _ H11 => H11 = upd H10 D (.lst (ys ++ [y]))) I10 rfl (.cons ry .nil) ⟨D, ys, y, rfl, rfl, hD10, hlt, rfl⟩) (fun v11 s11 h11 => ?_) (fun _ _ z => False.elim z)
        obtain ⟨v12, H12, I12, r12, e12⟩ := h11
        subst e12
        obtain ⟨J1, J2, J3⟩ := back e1 e2 I12
        exact ⟨m', hm', i + 1, ys ++ [y], _, J1, J2, J3, w10⟩
  have tn4 : tn 0 h4 := T.keep 0 _ _ tn3 fun b _ o e => keep4 b o e
  exact codeAny_compStart_list (loop _ I4 tn4) (T.self X.A 0 _ _ _ tn4 (loop _ I4 tn4))
theorem pg_blk {X : Cx} {csc : Scope} {N' : List Str} {s₀ : Shared} {H₀ : Hp} {C : Addr} {ex : List Addr} {i : Nat} {x : Str} {px : Pos} (nd : N'.Nodup) (hi : N'[i]? = some x) (hl : csc.names.lookup x = some .local) : PG (blk X csc N' s₀ H₀ C ex) (.Name x px) (gName i) :=
  pg_name (X := blk X csc N' s₀ H₀ C ex) nd hi (.inl (by
    show (relabel csc X.env).names.lookup x = some .local
    rw [relabel_lookup hl]
    rfl)) (.inr (by
    show (relabel csc X.env).names.lookup x = some .local
    rw [relabel_lookup hl]
    rfl))
theorem pi_mono {X : Cx} {tg iter : Expr} {wi : TI} (h : PI X tg iter wi) : PI X tg iter (fun σ H R => ∃ R' : It → Hp → Prop, wi σ H R' ∧ ∀ J H1, R' J H1 → R J H1) := by
  intro pins s σ H R I hw
  obtain ⟨R', hw, hm⟩ := hw
  refine thn (h pins s σ H R' I hw) fun v s1 h1 => thn h1 fun itv s2 h2 => ?_
  obtain ⟨it, fp, tn, J, H2, e, I2, T, st2, f2, hr⟩ := h2
  exact ⟨it, fp, tn, J, H2, e, I2, T, st2, f2, hm J H2 hr⟩
theorem comp_core {X : Cx} {elt iter : Expr} {x : Str} {px pos pos' : Pos} {csc : Scope} {wi : TI} {te : Shared → Hp → Addr → List Addr → TE} (js : List Nat) {N' : List Str} {fsc : Scope} {N : List Str} (ok : CompOk fsc csc x js N N') (hi : PI X (.Name x px) iter wi)
    (he : ∀ s₀ H₀ C ex, PE (blk X csc N' s₀ H₀ C ex) elt (te s₀ H₀ C ex)) (hc : X.calm = true) (hsc : X.env.scope = fsc) (hXN : X.N = N) (hs : ∀ x, foldedSetIterable iter X.env x = pure x)
    (use : Option (Value → Sem Unit)) (R : Value → Shared → Prop) {pins : List (Addr × Obj)} {s : Shared} {σ : L2.St} {H : Hp} {Q : VK} (I : Inv X pins σ H s) (h : tComp wi te js σ H Q)
    (hfin : ∀ (D C : Addr) (s6 : Shared) (H5 : Hp) (m6 : Str → Option Value) (r : Flow), Inv X pins σ H5 s6 → FpOk X pins H5 C → s6.heap.Ns C m6 → Q (.ref D) H5 → compPost (model X.prog X.w) X.A X.xe use R (.ref D) C (.ok r) s6) :
    wpAny (model X.prog X.w) X.A (comprehension (.ListComp elt [⟨.Name x px, iter, [], 0⟩] csc pos) csc X.env pos' (newList []) false (eval iter X.env) use) R X.xe s := by
  have ej : (js.map fun j => N.getD j x) = js.map fun j => N.getD j "" := List.map_congr_left fun j hj => by
    have := (ok.js j hj).1
    rw [List.getD_eq_getElem?_getD, List.getD_eq_getElem?_getD, List.getElem?_eq_getElem this]
    rfl
  have ok' : CompOkG fsc csc [x] js N N' := ⟨by rw [ok.eqN, ej]; rfl, ok.fr, ok.cell, ok.kind, ok.nm, fun j hj => by
    have := ok.js j hj
    have e : N.getD j x = N.getD j "" := by rw [List.getD_eq_getElem?_getD, List.getD_eq_getElem?_getD, List.getElem?_eq_getElem this.1]; rfl
    rw [e] at this
    exact this⟩
  refine compG_core (ifs := []) (tg := gName 0) (tt := fun _ _ _ _ => tNoTest) (te := te) [x] js ok' (pi_mono hi) (fun s₀ H₀ C ex => pg_blk ok.nd (by rw [ok.eqN]; rfl) ok.xl) (fun _ _ _ _ => pts_nil) he hc hsc hXN hs use R I ?_ hfin
  refine ⟨_, h, fun J H1 hw D hD => ?_⟩
  obtain ⟨W, w0, turn⟩ := hw D hD
  refine ⟨W, w0, fun i m ys H2 w => ?_⟩
  obtain ⟨e, t⟩ := turn i m ys H2 w
  refine ⟨e, t.imp id fun ⟨go, y⟩ => ⟨go, fun v H' yl s₀ H₀ C ex σ0 h0 => ?_⟩⟩
  obtain ⟨o, rfl⟩ : ∃ o, σ0 = [o] := by
    match σ0, h0 with
    | [o], _ => exact ⟨o, rfl⟩
  exact ⟨⟨[some v], rfl, rfl⟩, y v H' yl s₀ H₀ C ex⟩
theorem pe_comp {X : Cx} {elt iter : Expr} {x : Str} {px pos : Pos} {csc : Scope} {wi : TI} {te : Shared → Hp → Addr → List Addr → TE} (js : List Nat) {N' : List Str} {fsc : Scope} {N : List Str} (ok : CompOk fsc csc x js N N') (hi : PI X (.Name x px) iter wi)
    (he : ∀ s₀ H₀ C ex, PE (blk X csc N' s₀ H₀ C ex) elt (te s₀ H₀ C ex)) (hc : X.calm = true := by rfl) (hsc : X.env.scope = fsc := by rfl) (hXN : X.N = N := by rfl) (hs : ∀ x, foldedSetIterable iter X.env x = pure x := by intro _; rfl) :
    PE X (.ListComp elt [⟨.Name x px, iter, [], 0⟩] csc pos) (tComp wi te js) := by
  intro pins s σ H Q I h
  rw [eval_ListComp]
  exact comp_core js ok hi he hc hsc hXN hs none _ I h fun D C s6 H5 m6 _ I6 f6 n6 q => ⟨m6, n6, fun h7 sb => ⟨.ref D, H5, inv_but I6 f6 sb, rfl, q⟩⟩
theorem ps_setComp {X : Cx} {elt iter : Expr} {x y : Str} {px py pos spos : Pos} {i : Nat} {csc : Scope} {wi : TI} {te : Shared → Hp → Addr → List Addr → TE} (hN : X.N.Nodup) (hi' : X.N[i]? = some y) (hy : Loc X.env.scope y)
    (js : List Nat) {N' : List Str} {fsc : Scope} {N : List Str} (ok : CompOk fsc csc x js N N') (hi : PI X (.Name x px) iter wi)
    (he : ∀ s₀ H₀ C ex, PE (blk X csc N' s₀ H₀ C ex) elt (te s₀ H₀ C ex)) (hsw : swapsWith (.ListComp elt [⟨.Name x px, iter, [], 0⟩] csc pos) (some (.Name y py)) spos.line X.env = pure true := by rfl)
    (hc : X.calm = true := by rfl) (hsc : X.env.scope = fsc := by rfl) (hXN : X.N = N := by rfl) (hs : ∀ x, foldedSetIterable iter X.env x = pure x := by intro _; rfl)
    (hf : X.fn y = true ∨ X.env.scope.names.lookup y = some .local := by first | exact .inl rfl | exact .inr rfl | assumption) :
    PS X (.Assign [.Name y py] (.ListComp elt [⟨.Name x px, iter, [], 0⟩] csc pos) spos) (tAsg (tComp wi te js) (gName i)) := by
  intro pins s σ H D I h
  rw [exec_Assign_Name_used _ _ _ _ hsw]
  refine wpAny_bind (wpAny_standAt (wpAny_bind ?_))
  show wpAny _ X.A (do let _ ← comprehension (.ListComp elt [⟨.Name x px, iter, [], 0⟩] csc pos) csc X.env _ (newList []) false (eval iter X.env) (some (assign (.Name y py) X.env))) _ _ s
  refine wpAny_bind (wpAny_mono (comp_core js ok hi he hc hsc hXN hs (some (assign (.Name y py) X.env)) (fun _ s' => SP X pins D .next s') I h ?_) (fun _ s' hq => wpAny_pure (wpAny_pure hq)) fun _ _ e => e)
  intro D' C s6 H5 m6 r I6 f6 n6 q
  show wpAny _ X.A (assign (.Name y py) X.env (.ref D')) _ _ _
  obtain ⟨o6, es, ep, ho, hd, hrest⟩ := id n6
  have Ip := I6.pinned (fp := [C]) (fun b hb => by
    have e : b = C := by simpa using hb
    subst e
    exact f6) (fun b hb => by
    have e : b = C := by simpa using hb
    subst e
    exact ⟨o6, ho, fun v z => by rw [hd] at z; cases z⟩)
  refine wpAny_assign_Name (store_ok (i := i) Ip hN hi' hy (v := .ref D') rfl (fun s7 I7 => ?_) hf)
  refine ⟨m6, n6.at fun o e => (I7.pin (C, o) (List.mem_append_right _ (List.mem_append_right _ (mem_pinsAt List.mem_cons_self e)))).1, fun h7 sb => ?_⟩
  exact ⟨_, H5, inv_but I7.unpinned f6 sb, q⟩
end L3

namespace L3
open PySem PySem.Spec PyProof.Rows L2 Ra
theorem pe_compG {X : Cx} {elt iter target : Expr} {ifs : List Expr} {pos : Pos} {csc : Scope} {wi : TI} {tg : TG} {tt : Shared → Hp → Addr → List Addr → TT} {te : Shared → Hp → Addr → List Addr → TE} (xs : List Str) (js : List Nat) {N' : List Str} {fsc : Scope} {N : List Str} (ok : CompOkG fsc csc xs js N N') (hi : PI X target iter wi) (hg : ∀ s₀ H₀ C ex, PG (blk X csc N' s₀ H₀ C ex) target tg) (ht : ∀ s₀ H₀ C ex, PTs (blk X csc N' s₀ H₀ C ex) ifs (tt s₀ H₀ C ex))
    (he : ∀ s₀ H₀ C ex, PE (blk X csc N' s₀ H₀ C ex) elt (te s₀ H₀ C ex)) (hc : X.calm = true := by rfl) (hsc : X.env.scope = fsc := by rfl) (hXN : X.N = N := by rfl) (hs : ∀ x, foldedSetIterable iter X.env x = pure x := by intro _; rfl) :
    PE X (.ListComp elt [⟨target, iter, ifs, 0⟩] csc pos) (tCompG wi tg tt te xs.length js) := by
  intro pins s σ H Q I h
  rw [eval_ListComp]
  exact compG_core xs js ok hi hg ht he hc hsc hXN hs none _ I h fun D C s6 H5 m6 _ I6 f6 n6 q => ⟨m6, n6, fun h7 sb => ⟨.ref D, H5, inv_but I6 f6 sb, rfl, q⟩⟩
theorem pg_blk2 {X : Cx} {csc : Scope} {N' : List Str} {s₀ : Shared} {H₀ : Hp} {C : Addr} {ex : List Addr} {i j : Nat} {x y : Str} {px py pt : Pos} {k} (hc : X.calm = true) (nd : N'.Nodup) (hi : N'[i]? = some x) (hl : csc.names.lookup x = some .local) (hj : N'[j]? = some y) (hl2 : csc.names.lookup y = some .local) :
    PG (blk X csc N' s₀ H₀ C ex) (.Tuple [.Name x px, .Name y py] k pt) (gTup X.K 2 (gCons (gName i) (gCons (gName j) gNil))) :=
  pg_tup (X := blk X csc N' s₀ H₀ C ex) hc (pgs_cons (pg_blk nd hi hl) (pgs_cons (pg_blk nd hj hl2) pgs_nil))
end L3

namespace L3
open PySem PySem.Spec PyProof.Rows L2 Ra
mutual
inductive Dv (H : Hp) : V → PyData → Prop
  | non : Dv H .non .none
  | bl (b : Bool) : Dv H (.bl b) (.bool b)
  | int (i : Int) : Dv H (.int i) (.int i)
  | str (x : Str) (ok : (PyData.str x).canLay0 = true) : Dv H (.str x) (.str x)
  | lst {a : Addr} {xs : List V} {ds : List PyData} : H a = some (.lst xs) → DvAll H xs ds → Dv H (.ref a) (.list ds)
  | tup {a : Addr} {xs : List V} {ds : List PyData} : H a = some (.tup xs) → DvAll H xs ds → Dv H (.ref a) (.tuple ds)
inductive DvAll (H : Hp) : List V → List PyData → Prop
  | nil : DvAll H [] []
  | cons {v : V} {vs : List V} {d : PyData} {ds : List PyData} : Dv H v d → DvAll H vs ds → DvAll H (v :: vs) (d :: ds)
end
mutual
theorem Dv.keep {H H' : Hp} (s : Same H H') : ∀ {v : V} {d : PyData}, Dv H v d → Dv H' v d
  | _, _, .non => .non
  | _, _, .bl b => .bl b
  | _, _, .int i => .int i
  | _, _, .str x ok => .str x ok
  | _, _, .lst h r => .lst (s _ _ h) (DvAll.keep s r)
  | _, _, .tup h r => .tup (s _ _ h) (DvAll.keep s r)
theorem DvAll.keep {H H' : Hp} (s : Same H H') : ∀ {vs : List V} {ds : List PyData}, DvAll H vs ds → DvAll H' vs ds
  | _, _, .nil => .nil
  | _, _, .cons h r => .cons (Dv.keep s h) (DvAll.keep s r)
end
mutual
theorem Dv.can {H : Hp} : ∀ {v : V} {d : PyData}, Dv H v d → d.canLay0 = true
  | _, _, .non => rfl
  | _, _, .bl _ => rfl
  | _, _, .int _ => rfl
  | _, _, .str _ ok => ok
  | _, _, .lst _ r => by rw [PyData.canLay0]; exact DvAll.can r
  | _, _, .tup _ r => by rw [PyData.canLay0]; exact DvAll.can r
theorem DvAll.can {H : Hp} : ∀ {vs : List V} {ds : List PyData}, DvAll H vs ds → PyData.canLayAll0 ds = true
  | _, _, .nil => rfl
  | _, _, .cons h r => by rw [PyData.canLayAll0, Dv.can h, DvAll.can r]; rfl
end
section
variable {X : Cx} {pins : List (Addr × Obj)} {σ : L2.St} {H : Hp} {s : Shared}
mutual
theorem Dv.reads (I : Inv X pins σ H s) : ∀ {v : V} {d : PyData} {u : Value}, Dv H v d → RelV v u → ∃ as, Reads s.heap u d as
  | _, _, _, .non, r => by cases r; exact ⟨_, .none⟩
  | _, _, _, .bl b, r => by cases r; exact ⟨_, .bool b⟩
  | _, _, _, .int i, r => by obtain ⟨t, rfl⟩ := r; exact ⟨_, .int i t⟩
  | _, _, _, .str x _, r => by obtain ⟨t, rfl⟩ := r; exact ⟨_, .str x t⟩
  | _, _, _, .lst h q, r => by
    cases r
    obtain ⟨its, rv, p, _⟩ := I.list (SqL.of h)
    obtain ⟨o, e, hc, n, hd⟩ := p.isList
    obtain ⟨as, ra⟩ := DvAll.reads I q rv
    exact ⟨_, .list e hc hd ra⟩
  | _, _, _, .tup h q, r => by
    cases r
    obtain ⟨its, rv, p, _⟩ := I.tuple (SqT.of h)
    obtain ⟨o, e, hc, n, hd⟩ := p
    obtain ⟨as, ra⟩ := DvAll.reads I q rv
    exact ⟨_, .tuple e hc hd ra⟩
theorem DvAll.reads (I : Inv X pins σ H s) : ∀ {vs : List V} {ds : List PyData} {us : List Value}, DvAll H vs ds → Vals vs us → ∃ as, ReadsAll s.heap us ds as
  | _, _, _, .nil, .nil => ⟨_, .nil⟩
  | _, _, _, .cons h q, .cons r rs => by
    obtain ⟨as, ra⟩ := Dv.reads I h r
    obtain ⟨bs, rb⟩ := DvAll.reads I q rs
    exact ⟨_, .cons ra rb⟩
end
end
noncomputable def rEqD (c : Bool → Bool) : R2 := fun x y H Q => ∃ dx dy, Dv H x dx ∧ Dv H y dy ∧ dx.depth ≤ 60 ∧ Q (.bl (c (PyData.eqv dx dy))) H
theorem op_eqD {X : Cx} (hu : X.A.units + 64 < cLine) : OpR X (compareOp .Eq) (rEqD fun b => b) := by
  intro pins s σ H x y v u Q I rx ry h
  obtain ⟨dx, dy, hx, hy, hd, q⟩ := h
  obtain ⟨as, ra⟩ := hx.reads I rx
  obtain ⟨bs, rb⟩ := hy.reads I ry
  exact SeqAt.compareEq_reads ra rb hx.can hy.can (by have := Nat.min_le_left dx.depth dy.depth; (first | lia | omega)) ⟨.bl _, H, I, rfl, q⟩
theorem op_neD {X : Cx} (hu : X.A.units + 64 < cLine) : OpR X (compareOp .NotEq) (rEqD fun b => !b) := by
  intro pins s σ H x y v u Q I rx ry h
  obtain ⟨dx, dy, hx, hy, hd, q⟩ := h
  obtain ⟨as, ra⟩ := hx.reads I rx
  obtain ⟨bs, rb⟩ := hy.reads I ry
  exact SeqAt.compareNe_reads ra rb hx.can hy.can (by have := Nat.min_le_left dx.depth dy.depth; (first | lia | omega)) ⟨.bl _, H, I, rfl, q⟩
theorem paired_left {α β : Type} {F : α → β → Prop} : ∀ {xs : List α} {ys : List β} {x : α}, Paired F xs ys → x ∈ xs → ∃ y, y ∈ ys ∧ F x y
  | _, _, _, .nil, h => by simp at h
  | _, _, _, .cons a r, h => by
    rcases List.mem_cons.mp h with e | e
    · exact ⟨_, List.mem_cons_self, by rw [e]; exact a⟩
    · obtain ⟨y, hy, q⟩ := paired_left r e
      exact ⟨y, List.mem_cons_of_mem _ hy, q⟩
noncomputable def Pq (H : Hp) (p : Addr) (q : Rat) : Prop := Pr H p q.num q.den
theorem Pq.keep {H H' : Hp} {p : Addr} {q : Rat} (h : Pq H p q) (s : Same H H') : Pq H' p q := s _ _ h
theorem Pq.sq {K : PySem.W.Frag} {H : Hp} {p : Addr} {q : Rat} (h : Pq H p q) : SqT K H p [.int q.num, .int q.den] := SqT.of h
theorem Pq.of {H : Hp} {p : Addr} {x y : Int} {q : Rat} (h : Pr H p x y) (e : q.num = x ∧ (q.den : Int) = y) : Pq H p q := by
  unfold Pq
  rw [e.1, e.2]
  exact h
noncomputable abbrev Pqs (H : Hp) : List Addr → List Rat → Prop := Paired (Pq H)
theorem Pqs.keep {H H' : Hp} {ps : List Addr} {qs : List Rat} (h : Pqs H ps qs) (s : Same H H') : Pqs H' ps qs := Paired.imp' (fun _ _ z => z.keep s) h
noncomputable def Rw (H : Hp) (a : Addr) (qs : List Rat) : Prop := ∃ ps : List Addr, H a = some (.lst (ps.map V.ref)) ∧ Pqs H ps qs
theorem Rw.keep {H H' : Hp} {a : Addr} {qs : List Rat} (h : Rw H a qs) (s : Same H H') : Rw H' a qs := by
  obtain ⟨ps, h1, h2⟩ := h
  exact ⟨ps, s _ _ h1, h2.keep s⟩
theorem Pqs.get : ∀ {H : Hp} {ps : List Addr} {qs : List Rat} {i : Nat} {q : Rat}, Pqs H ps qs → qs[i]? = some q → ∃ p, (ps.map V.ref)[i]? = some (.ref p) ∧ Pq H p q
  | _, _, _, 0, _, .cons h _, e => by cases e; exact ⟨_, rfl, h⟩
  | _, _, _, _ + 1, _, .cons _ r, e => by
    rw [List.getElem?_cons_succ] at e
    obtain ⟨p, h1, h2⟩ := Pqs.get r e
    exact ⟨p, by rw [List.map_cons, List.getElem?_cons_succ]; exact h1, h2⟩
theorem Pqs.take : ∀ {H : Hp} {ps : List Addr} {qs : List Rat} (n : Nat), Pqs H ps qs → Pqs H (ps.take n) (qs.take n)
  | _, _, _, 0, _ => .nil
  | _, _, _, _ + 1, .nil => .nil
  | _, _, _, n + 1, .cons h r => .cons h (Pqs.take n r)
theorem Pqs.drop : ∀ {H : Hp} {ps : List Addr} {qs : List Rat} (n : Nat), Pqs H ps qs → Pqs H (ps.drop n) (qs.drop n)
  | _, _, _, 0, h => h
  | _, _, _, _ + 1, .nil => .nil
  | _, _, _, n + 1, .cons _ r => Pqs.drop n r
theorem Pqs.append : ∀ {H : Hp} {ps rs : List Addr} {qs ts : List Rat}, Pqs H ps qs → Pqs H rs ts → Pqs H (ps ++ rs) (qs ++ ts)
  | _, _, _, _, _, .nil, k => k
  | _, _, _, _, _, .cons h r, k => .cons h (Pqs.append r k)
theorem Pqs.length {H : Hp} {ps : List Addr} {qs : List Rat} (h : Pqs H ps qs) : ps.length = qs.length := Paired.length h
theorem Pqs.set : ∀ {H : Hp} {ps : List Addr} {qs : List Rat} (n : Nat) {p : Addr} {q : Rat}, Pqs H ps qs → Pq H p q → Pqs H (ps.set n p) (qs.set n q)
  | _, _, _, _, _, _, .nil, _ => .nil
  | _, _, _, 0, _, _, .cons _ r, k => .cons k r
  | _, _, _, n + 1, _, _, .cons h r, k => .cons h (Pqs.set n r k)
noncomputable def dq (q : Rat) : PyData := .tuple [.int q.num, .int q.den]
noncomputable def dr (qs : List Rat) : PyData := .list (qs.map dq)
theorem Pq.dv {H : Hp} {p : Addr} {q : Rat} (h : Pq H p q) : Dv H (.ref p) (dq q) := .tup h (.cons (.int _) (.cons (.int _) .nil))
theorem Pqs.dv : ∀ {H : Hp} {ps : List Addr} {qs : List Rat}, Pqs H ps qs → DvAll H (ps.map V.ref) (qs.map dq)
  | _, _, _, .nil => .nil
  | _, _, _, .cons h r => .cons h.dv (Pqs.dv r)
theorem Rw.dv {H : Hp} {a : Addr} {qs : List Rat} (h : Rw H a qs) : Dv H (.ref a) (dr qs) := by
  obtain ⟨ps, h1, h2⟩ := h
  exact .lst h1 h2.dv
theorem eqv_dq (p q : Rat) : PyData.eqv (dq p) (dq q) = decide (p = q) := by
  show PyData.eqv (.tuple [.int p.num, .int p.den]) (.tuple [.int q.num, .int q.den]) = _
  simp only [PyData.eqv, PyData.eqvAll, Bool.and_true]
  by_cases h : p = q
  · subst h
    simp
  · rw [decide_eq_false h]
    by_cases h1 : p.num = q.num
    · have h2 : ¬ (p.den : Int) = (q.den : Int) := fun z => h (Rat.ext h1 (by (first | lia | omega)))
      have : ((p.den : Int) == (q.den : Int)) = false := by simpa using h2
      rw [this, Bool.and_false]
    · have : (p.num == q.num) = false := by simpa using h1
      rw [this, Bool.false_and]
theorem eqv_all (ps qs : List Rat) : PyData.eqvAll (ps.map dq) (qs.map dq) = decide (ps = qs) := by
  induction ps generalizing qs with
  | nil => cases qs <;> simp [PyData.eqvAll]
  | cons p ps ih =>
    cases qs with
    | nil => simp [PyData.eqvAll]
    | cons q qs =>
      rw [List.map_cons, List.map_cons, PyData.eqvAll, eqv_dq, ih]
      by_cases h : p = q <;> by_cases k : ps = qs <;> simp [h, k]
theorem eqv_dr (ps qs : List Rat) : PyData.eqv (dr ps) (dr qs) = decide (ps = qs) := by
  show PyData.eqv (.list _) (.list _) = _
  rw [PyData.eqv]
  exact eqv_all ps qs
theorem depth_dq (q : Rat) : (dq q).depth ≤ 2 := by
  show PyData.depth (.tuple [.int q.num, .int q.den]) ≤ 2
  simp [PyData.depth, PyData.depthAll]
theorem depthAll_dq (qs : List Rat) : PyData.depthAll (qs.map dq) ≤ 2 := by
  induction qs with
  | nil => simp [PyData.depthAll]
  | cons q qs ih =>
    rw [List.map_cons, PyData.depthAll]
    exact Nat.max_le.mpr ⟨depth_dq q, ih⟩
theorem depth_dr (qs : List Rat) : (dr qs).depth ≤ 3 := by
  show PyData.depth (.list _) ≤ 3
  rw [PyData.depth]
  have := depthAll_dq qs
  (first | lia | omega)
theorem Rw.lt {H : Hp} {a : Addr} {qs : List Rat} (h : Rw H a qs) : ∃ xs, H a = some (.lst xs) ∧ xs.length = qs.length := by
  obtain ⟨ps, h1, h2⟩ := h
  exact ⟨_, h1, by rw [List.length_map, h2.length]⟩
theorem Rw.app {H H2 : Hp} {D p : Addr} {qs : List Rat} {q : Rat} (h : Rw H D qs) (s : Same H H2) (kp : Pq H2 p q) :
    ∃ xs, H2 D = some (.lst xs) ∧ xs.length = qs.length ∧ Rw (upd H2 D (.lst (xs ++ [.ref p]))) D (qs ++ [q]) := by
  obtain ⟨ps, h1, h2⟩ := h.keep s
  refine ⟨_, h1, by rw [List.length_map, h2.length], ps ++ [p], by rw [upd_same]; simp, ?_⟩
  have up : ∀ p q, Pq H2 p q → Pq (upd H2 D (.lst (ps.map V.ref ++ [.ref p]))) p q := fun p q z => by
    have z' : H2 p = some (.tup [.int q.num, .int q.den]) := z
    show upd H2 D _ p = _
    rw [upd_ne (ne_of z' h1 (by intro w; cases w))]
    exact z'
  have up2 : ∀ r t, Pq H2 r t → Pq (upd H2 D (.lst (ps.map V.ref ++ [.ref p]))) r t := fun r t z => by
    have z' : H2 r = some (.tup [.int t.num, .int t.den]) := z
    show upd H2 D _ r = _
    rw [upd_ne (ne_of z' h1 (by intro w; cases w))]
    exact z'
  exact Pqs.append (Paired.imp' up2 h2) (.cons (up2 _ _ kp) .nil)
theorem atI_0 {α : Type} {xs : List α} {j : Nat} {v : α} (h : xs[j]? = some v) : atI xs (0 + (j : Int)) = some v := by
  rw [Int.zero_add]
  exact atI_nat h
theorem kit_lst_lst (K : PySem.W.Frag) : PySem.W.kitOne K (.type "list") (.type "list") = some true := rfl
theorem eqv_dr_self (qs : List Rat) : PyData.eqv (dr qs) (dr qs) = true := by rw [eqv_dr]; simp
noncomputable def Sx (S : List Addr) (H H' : Hp) : Prop := ∀ b o, b ∉ S → H b = some o → H' b = some o
theorem Pq.sx {S : List Addr} {H H' : Hp} {p : Addr} {q : Rat} (h : Pq H p q) (s : Sx S H H') (hS : ∀ b ∈ S, ∃ xs, H b = some (.lst xs)) : Pq H' p q := by
  have z : H p = some (.tup [.int q.num, .int q.den]) := h
  refine s p _ (fun m => ?_) z
  obtain ⟨xs, e⟩ := hS p m
  rw [z] at e
  cases e
theorem Rw.sx {S : List Addr} {H H' : Hp} {a : Addr} {qs : List Rat} (h : Rw H a qs) (s : Sx S H H') (n : a ∉ S) (hS : ∀ b ∈ S, ∃ xs, H b = some (.lst xs)) : Rw H' a qs := by
  obtain ⟨ps, h1, h2⟩ := h
  exact ⟨ps, s a _ n h1, Paired.imp' (fun _ _ z => z.sx s hS) h2⟩
theorem Pq.int {H : Hp} {p : Addr} {i : Int} : Pq (upd H p (.tup [.int i, .int 1])) p (i : Rat) := Pq.of Pr.new ⟨rfl, rfl⟩
theorem Rw.copy {H : Hp} {a c : Addr} {qs : List Rat} {xs : List V} (h : Rw H a qs) (e : H a = some (.lst xs)) (n : H c = none) : Rw (upd H c (.lst xs)) c qs := by
  obtain ⟨ps, e1, e2⟩ := h
  rw [e] at e1
  have e3 : xs = ps.map V.ref := by
    have := Option.some.inj e1
    injection this
  exact ⟨ps, by rw [upd_same, e3], e2.keep (same_upd n _)⟩
theorem Rw.there {H : Hp} {a : Addr} {qs : List Rat} (h : Rw H a qs) : ∃ xs, H a = some (.lst xs) ∧ xs.length = qs.length := h.lt
theorem iteB {b : Bool} {A B : Prop} (h : b = true) (k : A) : if b = true then A else B := by
  rw [h]
  exact iteT k
theorem cut_to {α : Type} (f : α → V) (ps : List α) (k : Nat) : cutV (ps.map f) none (some (k : Int)) = (ps.take k).map f := by
  unfold cutV
  rw [HT.sIx_none, HT.sIx_nat, List.length_map, List.drop_zero, Nat.sub_zero, List.map_take]
  by_cases h : k ≤ ps.length
  · rw [Nat.min_eq_left h]
  · rw [Nat.min_eq_right (by (first | lia | omega)), List.take_of_length_le (by rw [List.length_map]; (first | lia | omega)), List.take_of_length_le (by rw [List.length_map]; (first | lia | omega))]
theorem cut_from {α : Type} (f : α → V) (ps : List α) (k : Nat) : cutV (ps.map f) (some (k : Int)) none = (ps.drop k).map f := by
  unfold cutV
  rw [HT.sIx_none, HT.sIx_nat, List.length_map, List.map_drop]
  by_cases h : k ≤ ps.length
  · rw [Nat.min_eq_left h, List.take_of_length_le (by rw [List.length_drop, List.length_map]; (first | lia | omega))]
  · rw [Nat.min_eq_right (by (first | lia | omega)), List.drop_eq_nil_of_le (by rw [List.length_map]; (first | lia | omega)), List.drop_eq_nil_of_le (by rw [List.length_map]; (first | lia | omega))]
    simp
end L3

namespace L3
open PySem PySem.Spec PyProof.Rows L2 Ra
noncomputable def Itv (K : PySem.W.Frag) (a : Addr) (n : Nat) : It :=
  ⟨fun i H => i < n ∧ ∃ xs x, SqL K H a xs ∧ xs[n - 1 - i]? = some x, fun i H x H' => H' = H ∧ ∀ xs, SqL K H a xs → xs[n - 1 - i]? = some x, fun i _ => i = n⟩
theorem turn_rev {P : Program} {w : World} {K : PySem.W.Frag} {tg : Expr} (a it : Addr) (n : Nat) : Turn P w K tg (Itv K a n) [it] it (fun i h => h.IsRevIter it a ((n : Int) - 1 - (i : Int))) where
  mem := by simp
  obj := fun i h st b hb => by
    have e : b = it := by simpa using hb
    subst e
    obtain ⟨o, e, c, d⟩ := st
    exact ⟨o, e, fun v z => by rw [d] at z; cases z⟩
  keep := fun i h h' st k => st.at fun o e => k it (by simp) o e
  item := by
    intro X hP hw hK hc i pins s σ H E I hf st hg
    subst hP hw hK
    obtain ⟨hi, xs, x, hq, hx⟩ := hg
    obtain ⟨its, rv, p, hz⟩ := I.list hq
    obtain ⟨u, hu, ru⟩ := rv.get hx
    obtain ⟨f0, f1, f2, f3, f4, f5⟩ := hf it (by simp)
    have e : (n : Int) - 1 - (i : Int) = ((n - 1 - i : Nat) : Int) := by (first | lia | omega)
    rw [e] at st
    refine wpAny_pyNext_rev_item st p.isList (x := u) (by simpa using hu) fun h' st' sb => ?_
    have e2 : ((n - 1 - i : Nat) : Int) - 1 = (n : Int) - 1 - ((i + 1 : Nat) : Int) := by (first | lia | omega)
    rw [e2] at st'
    have I1 : Inv X pins σ H { s with heap := h' } := I.turned (t' := s.toks) (fun b o hb e => (sb.2 b hb).trans e) f0 f1 f3 f4 f5
    obtain ⟨o, e, c, d⟩ := id st'
    exact ⟨u, rfl, go_of (s := { s with heap := h' }) e c d (by decide) ⟨x, H, I1, ru, ⟨rfl, fun ys hy => by rw [I.list_inj hy hq]; exact hx⟩, st', fun b hb => (hf b hb).1⟩⟩
  done := by
    intro X hP hw hK hc i pins s σ H E I hf st hg
    subst hP hw hK
    have hi : i = n := hg
    subst hi
    obtain ⟨f0, f1, f2, f3, f4, f5⟩ := hf it (by simp)
    have e : (i : Int) - 1 - (i : Int) = -1 := by (first | lia | omega)
    rw [e] at st
    exact wpAny_pyNext_rev_end (I.ok.hd hc) st fun h' eb => ⟨rfl, I.turned (t' := s.toks) (fun b o hb e => eb b o hb e) f0 f1 f3 f4 f5⟩
  self := fun _ _ _ _ _ st h => wpAny_pyIter_revIter st h
noncomputable def iRev (K : PySem.W.Frag) (ta : TA) : TI := fun σ H R => ta σ H fun vs H1 => ∃ a xs, vs = [.ref a] ∧ SqL K H1 a xs ∧ R (Itv K a xs.length) H1
theorem pi_rev {X : Cx} {tg : Expr} {a : Expr} {ta : TA} {p pos : Pos} (hg : Gl X "reversed") (hm : X.mg "reversed" = none) (ha : PA X [a] ta) (hs : starEach [a] X.env = [(false, eval a X.env)] := by rfl) : PI X tg (.Call (.Name "reversed" p) [a] [] pos) (iRev X.K ta) := by
  intro pins s σ H R I h
  refine Call_ (ld_blt I hg hm boot_reversed (PyProof.Rows.callWith_type1 (thn (ha pos pins s σ H _ I h) fun us s1 ⟨vs, H1, I1, r1, q1⟩ => ?_) hs rfl))
  obtain ⟨l, xs, e, hq, q⟩ := q1
  subst e
  cases r1 with
  | cons r rr =>
    cases rr
    cases r
    obtain ⟨its, rv, pl, hz⟩ := I1.list hq
    have hl := rv.length
    refine call_reversed_list pl.isList ?_
    have e1 : ((its.toArray.size : Nat) : Int) - 1 = (xs.length : Int) - 1 := by rw [List.size_toArray, ← hl]
    rw [e1]
    have I2 : Inv X pins σ H1 { s1 with heap := s1.heap.push (revObj l ((xs.length : Int) - 1)) } := I1.kept (t' := s1.toks) fun b o e => Heap.get?_push_of_some _ e
    have st : (s1.heap.push (revObj l ((xs.length : Int) - 1))).IsRevIter s1.heap.objs.size l ((xs.length : Int) - 1) := ⟨_, Heap.get?_push_size _ rfl, rfl, rfl⟩
    refine wpAny_pyIter_revIter st ?_
    refine ⟨s1.heap.objs.size, [s1.heap.objs.size], _, _, H1, rfl, I2, turn_rev l _ xs.length, by simpa using st, fun b hb => ?_, q⟩
    have e : b = s1.heap.objs.size := by simpa using hb
    subst e
    exact I1.fpOk (Nat.le_refl _) (I1.hok.fresh (Nat.le_refl _))
theorem for_rev {K : PySem.W.Frag} {a : Addr} {xs : List V} {g : TG} {tb : TS} {D : Ends} {σ : L2.St} {H : Hp} (Pv : Nat → L2.St → Hp → Prop) (h0 : Pv 0 σ H) (hl : ∀ i σ H, i ≤ xs.length → Pv i σ H → SqL K H a xs)
    (hs : ∀ i x σ H, xs.reverse[i]? = some x → Pv i σ H → g x σ H fun σ2 H2 => tb { D with nx := Pv (i + 1), ct := Pv (i + 1), bk := D.nx } σ2 H2) (hd : ∀ σ H, Pv xs.length σ H → D.nx σ H) :
    ∃ W : Nat → Nat → L2.St → Hp → Prop, (∃ m, W 0 m σ H) ∧ ∀ i m σ H, W i m σ H →
      ((Itv K a xs.length).stop i H ∧ D.nx σ H) ∨ ((Itv K a xs.length).go i H ∧ ∃ N : L2.St → Hp → Prop, (∀ σ' H', N σ' H' → ∃ m', m' < m ∧ W (i + 1) m' σ' H') ∧ ∀ x H', (Itv K a xs.length).yld i H x H' → g x σ H' fun σ2 H2 => tb { D with nx := N, ct := N, bk := D.nx } σ2 H2) := by
  refine ⟨fun i m σ H => m = xs.length - i ∧ i ≤ xs.length ∧ Pv i σ H, ⟨xs.length, by simp, Nat.zero_le _, h0⟩, ?_⟩
  rintro i m σ H ⟨rfl, hi, p⟩
  have q := hl i σ H hi p
  by_cases hlt : i < xs.length
  · refine .inr ⟨⟨hlt, xs, _, q, List.getElem?_eq_getElem (by (first | lia | omega))⟩, Pv (i + 1), fun σ' H' p' => ⟨xs.length - (i + 1), by (first | lia | omega), rfl, hlt, p'⟩, fun x H' y => ?_⟩
    obtain ⟨e, y⟩ := y
    subst e
    refine hs i x σ _ ?_ p
    rw [List.getElem?_reverse hlt]
    exact y xs q
  · have e : i = xs.length := by (first | lia | omega)
    subst e
    exact .inl ⟨rfl, hd σ H p⟩
noncomputable def tCutS (t : TS) : TS := fun D σ H => ∃ Mid : L2.St → Hp → Prop, (∀ σ' H', Mid σ' H' → D.nx σ' H') ∧ t { D with nx := Mid } σ H
theorem ps_cut {X : Cx} {st : Stmt} {t : TS} (h : PS X st t) : PS X st (tCutS t) := by
  intro pins s σ H D I hw
  obtain ⟨Mid, hm, hw⟩ := hw
  refine thn (h pins s σ H _ I hw) fun f s1 q => ?_
  cases f with
  | next =>
    obtain ⟨σ', H', I', q⟩ := q
    exact ⟨σ', H', I', hm _ _ q⟩
  | ret v => exact q
  | brk => exact q
  | cont => exact q
theorem Pq.updL {H : Hp} {D p : Addr} {xs ys : List V} {q : Rat} (h : H D = some (.lst xs)) (k : Pq H p q) : Pq (upd H D (.lst ys)) p q := by
  unfold Pq Pr
  rw [upd_ne (ne_of k h (by intro z; cases z))]
  exact k
theorem Pqs.updL {H : Hp} {D : Addr} {xs ys : List V} {ps : List Addr} {qs : List Rat} (h : H D = some (.lst xs)) (k : Pqs H ps qs) : Pqs (upd H D (.lst ys)) ps qs := Paired.imp' (fun _ _ z => z.updL h) k
theorem same_updF {H1 H : Hp} {D : Addr} (s : Same H1 H) (hD : H1 D = none) (o : HO) : Same H1 (upd H D o) := fun b u q => by rw [upd_ne (ne_of_none q hD)]; exact s b u q
theorem comp_rangeQ {lo : Int} {n : Nat} {te : Shared → Hp → Addr → List Addr → TE} {js : List Nat} {σ : L2.St} {H1 : Hp} {Q : VK} (hn : n ≤ 100000) (f : Nat → Rat)
    (hs : ∀ s₀ H₀ C ex i H (R : VK), i < n → Same H1 H → (∀ p H2, Same H H2 → Pq H2 p (f i) → R (.ref p) H2) → te s₀ H₀ C ex (some (.int (lo + i)) :: js.map fun j => (σ[j]?).join) H R)
    (hd : ∀ H D, Same H1 H → H1 D = none → Rw H D ((List.range n).map f) → Q (.ref D) H) : CompAt (Itr lo n) te js σ Q H1 := by
  intro D hD
  refine ⟨fun i m ys H => m = n - i ∧ i ≤ n ∧ (∃ ps, ys = ps.map V.ref ∧ Pqs H ps ((List.range i).map f)) ∧ Same H1 H ∧ H D = some (.lst ys), ⟨n, by simp, Nat.zero_le _, ⟨[], rfl, .nil⟩, same_upd hD _, upd_same⟩, ?_⟩
  rintro i m ys H ⟨rfl, hi, ⟨ps, rfl, hp⟩, sm, hDl⟩
  refine ⟨hDl, ?_⟩
  by_cases hlt : i < n
  · refine .inr ⟨hlt, fun x H' y s₀ H₀ C ex => ?_⟩
    obtain ⟨e, y⟩ := y
    subst e y
    refine hs s₀ H₀ C ex i H' _ hlt sm fun p H2 s2 kp => ?_
    have h2 := s2 _ _ hDl
    have hp2 := hp.keep s2
    have hl := hp.length
    rw [List.length_map, List.length_range] at hl
    have hz : (100000 : Nat) < sizeLine := by decide
    refine ⟨h2, by rw [List.length_map]; (first | lia | omega), n - (i + 1), by (first | lia | omega), rfl, hlt, ⟨ps ++ [p], by simp, ?_⟩, same_updF (sm.trans s2) hD _, upd_same⟩
    rw [List.range_succ, List.map_append]
    exact (hp2.updL h2).append (.cons (kp.updL h2) .nil)
  · have e : i = n := by (first | lia | omega)
    subst e
    exact .inl ⟨Nat.le_refl _, hd H D sm hD ⟨ps, hDl, hp⟩⟩
theorem comp_listQ {K : PySem.W.Frag} {a : Addr} {qs : List Rat} {te : Shared → Hp → Addr → List Addr → TE} {js : List Nat} {σ : L2.St} {H1 : Hp} {Q : VK} (hn : qs.length ≤ 100000) (ha : Rw H1 a qs) (f : Rat → Rat)
    (hs : ∀ s₀ H₀ C ex p q H (R : VK), q ∈ qs → Pq H p q → Same H1 H → (∀ p' H2, Same H H2 → Pq H2 p' (f q) → R (.ref p') H2) → te s₀ H₀ C ex (some (.ref p) :: js.map fun j => (σ[j]?).join) H R)
    (hd : ∀ H D, Same H1 H → H1 D = none → Rw H D (qs.map f) → Q (.ref D) H) : CompAt (Itl K a) te js σ Q H1 := by
  intro D hD
  obtain ⟨rs, hrs, kr⟩ := ha
  have hlr := kr.length
  refine ⟨fun i m ys H => m = qs.length - i ∧ i ≤ qs.length ∧ (∃ ps, ys = ps.map V.ref ∧ Pqs H ps ((qs.take i).map f)) ∧ Same H1 H ∧ H D = some (.lst ys), ⟨qs.length, by simp, Nat.zero_le _, ⟨[], rfl, .nil⟩, same_upd hD _, upd_same⟩, ?_⟩
  rintro i m ys H ⟨rfl, hi, ⟨ps, rfl, hp⟩, sm, hDl⟩
  refine ⟨hDl, ?_⟩
  have hr := sm _ _ hrs
  by_cases hlt : i < qs.length
  · have eq : qs[i]? = some qs[i] := List.getElem?_eq_getElem hlt
    obtain ⟨p0, h0, k0⟩ := (kr.keep sm).get eq
    refine .inr ⟨⟨_, _, SqL.of hr, h0⟩, fun x H' y s₀ H₀ C ex => ?_⟩
    obtain ⟨e, y⟩ := y
    subst e
    have ex' := y _ (SqL.of hr)
    rw [h0] at ex'
    cases ex'
    refine hs s₀ H₀ C ex p0 _ H' _ (List.getElem_mem hlt) k0 sm fun p H2 s2 kp => ?_
    have h2 := s2 _ _ hDl
    have hp2 := hp.keep s2
    have hl := hp.length
    rw [List.length_map, List.length_take] at hl
    have hz : (100000 : Nat) < sizeLine := by decide
    refine ⟨h2, by rw [List.length_map]; (first | lia | omega), qs.length - (i + 1), by (first | lia | omega), rfl, hlt, ⟨ps ++ [p], by simp, ?_⟩, same_updF (sm.trans s2) hD _, upd_same⟩
    rw [List.take_succ, eq, List.map_append]
    exact (hp2.updL h2).append (.cons (kp.updL h2) .nil)
  · have e : i = qs.length := by (first | lia | omega)
    subst e
    rw [List.take_length] at hp
    exact .inl ⟨⟨_, SqL.of hr, by rw [List.length_map]; (first | lia | omega)⟩, hd H D sm hD ⟨ps, hDl, hp⟩⟩
theorem comp_intsQ {K : PySem.W.Frag} {a : Addr} {ns : List Int} {te : Shared → Hp → Addr → List Addr → TE} {js : List Nat} {σ : L2.St} {H1 : Hp} {Q : VK} (hn : ns.length ≤ 100000) (ha : H1 a = some (.lst (ns.map V.int))) (f : Int → Rat)
    (hs : ∀ s₀ H₀ C ex n H (R : VK), n ∈ ns → Same H1 H → (∀ p' H2, Same H H2 → Pq H2 p' (f n) → R (.ref p') H2) → te s₀ H₀ C ex (some (.int n) :: js.map fun j => (σ[j]?).join) H R)
    (hd : ∀ H D, Same H1 H → H1 D = none → Rw H D (ns.map f) → Q (.ref D) H) : CompAt (Itl K a) te js σ Q H1 := by
  intro D hD
  refine ⟨fun i m ys H => m = ns.length - i ∧ i ≤ ns.length ∧ (∃ ps, ys = ps.map V.ref ∧ Pqs H ps ((ns.take i).map f)) ∧ Same H1 H ∧ H D = some (.lst ys), ⟨ns.length, by simp, Nat.zero_le _, ⟨[], rfl, .nil⟩, same_upd hD _, upd_same⟩, ?_⟩
  rintro i m ys H ⟨rfl, hi, ⟨ps, rfl, hp⟩, sm, hDl⟩
  refine ⟨hDl, ?_⟩
  have hr := sm _ _ ha
  by_cases hlt : i < ns.length
  · have eq : ns[i]? = some ns[i] := List.getElem?_eq_getElem hlt
    have h0 : (ns.map V.int)[i]? = some (.int ns[i]) := by rw [List.getElem?_map, eq]; rfl
    refine .inr ⟨⟨_, _, SqL.of hr, h0⟩, fun x H' y s₀ H₀ C ex => ?_⟩
    obtain ⟨e, y⟩ := y
    subst e
    have ex' := y _ (SqL.of hr)
    rw [h0] at ex'
    cases ex'
    refine hs s₀ H₀ C ex _ H' _ (List.getElem_mem hlt) sm fun p H2 s2 kp => ?_
    have h2 := s2 _ _ hDl
    have hp2 := hp.keep s2
    have hl := hp.length
    rw [List.length_map, List.length_take] at hl
    have hz : (100000 : Nat) < sizeLine := by decide
    refine ⟨h2, by rw [List.length_map]; (first | lia | omega), ns.length - (i + 1), by (first | lia | omega), rfl, hlt, ⟨ps ++ [p], by simp, ?_⟩, same_updF (sm.trans s2) hD _, upd_same⟩
    rw [List.take_succ, eq, List.map_append]
    exact (hp2.updL h2).append (.cons (kp.updL h2) .nil)
  · have e : i = ns.length := by (first | lia | omega)
    subst e
    rw [List.take_length] at hp
    exact .inl ⟨⟨_, SqL.of hr, by rw [List.length_map]; (first | lia | omega)⟩, hd H D sm hD ⟨ps, hDl, hp⟩⟩
end L3

namespace L3
open PySem PySem.Spec PyProof.Rows L2 Ra
theorem execs_app (a b : List Stmt) (env : Env) : execs (a ++ b) env = (do match ← execs a env with | .next => execs b env | f => pure f) := by
  induction a with
  | nil =>
    rw [List.nil_append, execs_nil, pure_bind]
  | cons st rest ih =>
    rw [List.cons_append, execs_cons, execs_cons, bind_assoc]
    congr 1
    funext f
    cases f with
    | next => exact ih
    | _ => rw [pure_bind]
noncomputable def tSplit (t u : TS) : TS := fun D σ H => ∃ Mid : L2.St → Hp → Prop, (∀ σ' H', Mid σ' H' → u D σ' H') ∧ t { D with nx := Mid } σ H
theorem pss_split {X : Cx} {ss : List Stmt} {t u : TS} (k : Nat) (h1 : PSs X (ss.take k) t) (h2 : PSs X (ss.drop k) u) : PSs X ss (tSplit t u) := by
  intro pins s σ H D I hw
  obtain ⟨Mid, hm, hw⟩ := hw
  rw [← List.take_append_drop k ss, execs_app]
  refine wpAny_bind (thn (h1 pins s σ H _ I hw) fun f s1 q => ?_)
  cases f with
  | next =>
    obtain ⟨σ', H', I', q⟩ := q
    exact h2 pins s1 σ' H' D I' (hm σ' H' q)
  | brk => exact wpAny_pure q
  | cont => exact wpAny_pure q
  | ret u => exact wpAny_pure q
end L3

namespace L3
open PySem PySem.Spec PyProof.Rows L2 Ra
noncomputable def Tq (H : Hp) (r : Addr) (x : Rat × Rat) : Prop := ∃ p q, H r = some (.tup [.ref p, .ref q]) ∧ Pq H p x.1 ∧ Pq H q x.2
theorem Tq.keep {H H' : Hp} {r : Addr} {x : Rat × Rat} (h : Tq H r x) (s : Same H H') : Tq H' r x := by
  obtain ⟨p, q, e, h1, h2⟩ := h
  exact ⟨p, q, s _ _ e, h1.keep s, h2.keep s⟩
noncomputable abbrev Tqs (H : Hp) : List Addr → List (Rat × Rat) → Prop := Paired (Tq H)
theorem Tqs.keep {H H' : Hp} {ps : List Addr} {qs : List (Rat × Rat)} (h : Tqs H ps qs) (s : Same H H') : Tqs H' ps qs := Paired.imp' (fun _ _ z => z.keep s) h
theorem paired_get {α β : Type} {F : α → β → Prop} : ∀ {xs : List α} {ys : List β} {i : Nat} {y : β}, Paired F xs ys → ys[i]? = some y → ∃ x, xs[i]? = some x ∧ F x y
  | _, _, 0, _, .cons h _, e => by cases e; exact ⟨_, rfl, h⟩
  | _, _, _ + 1, _, .cons _ r, e => by
    rw [List.getElem?_cons_succ] at e
    obtain ⟨x, h1, h2⟩ := paired_get r e
    exact ⟨x, by rw [List.getElem?_cons_succ]; exact h1, h2⟩
theorem paired_append {α β : Type} {F : α → β → Prop} : ∀ {xs us : List α} {ys vs : List β}, Paired F xs ys → Paired F us vs → Paired F (xs ++ us) (ys ++ vs)
  | _, _, _, _, .nil, k => k
  | _, _, _, _, .cons h r, k => .cons h (paired_append r k)
noncomputable def Rp (H : Hp) (a : Addr) (qs : List (Rat × Rat)) : Prop := ∃ ps : List Addr, H a = some (.lst (ps.map V.ref)) ∧ Tqs H ps qs
theorem Rp.keep {H H' : Hp} {a : Addr} {qs : List (Rat × Rat)} (h : Rp H a qs) (s : Same H H') : Rp H' a qs := by
  obtain ⟨ps, h1, h2⟩ := h
  exact ⟨ps, s _ _ h1, h2.keep s⟩
theorem Tq.updL {H : Hp} {D r : Addr} {xs ys : List V} {x : Rat × Rat} (h : H D = some (.lst xs)) (k : Tq H r x) : Tq (upd H D (.lst ys)) r x := by
  obtain ⟨p, q, e, h1, h2⟩ := k
  exact ⟨p, q, by rw [upd_ne (ne_of e h (by intro z; cases z))]; exact e, h1.updL h, h2.updL h⟩
theorem Rp.app {H H2 : Hp} {D p : Addr} {qs : List (Rat × Rat)} {q : Rat × Rat} (h : Rp H D qs) (s : Same H H2) (kp : Tq H2 p q) :
    ∃ xs, H2 D = some (.lst xs) ∧ xs.length = qs.length ∧ Rp (upd H2 D (.lst (xs ++ [.ref p]))) D (qs ++ [q]) := by
  obtain ⟨ps, h1, h2⟩ := h.keep s
  exact ⟨_, h1, by rw [List.length_map, Paired.length h2], ps ++ [p], by rw [upd_same]; simp, paired_append (Paired.imp' (fun _ _ z => z.updL h1) h2) (.cons (kp.updL h1) .nil)⟩
theorem Rp.there {H : Hp} {a : Addr} {qs : List (Rat × Rat)} (h : Rp H a qs) : ∃ xs, H a = some (.lst xs) ∧ xs.length = qs.length := by
  obtain ⟨ps, h1, h2⟩ := h
  exact ⟨_, h1, by rw [List.length_map, Paired.length h2]⟩
end L3

namespace L3
open PySem PySem.Spec PyProof.Rows L2 Ra Rq
noncomputable def Pz (n : Nat) (H : Hp) (p : Addr) (v : Rat) : Prop := ∃ Tp M : Int, H p = some (.tup [.int Tp, .int M]) ∧ 0 < M ∧ Po.Rep n v Tp M
theorem Pz.keep {n : Nat} {H H' : Hp} {p : Addr} {v : Rat} (h : Pz n H p v) (s : Same H H') : Pz n H' p v := by
  obtain ⟨Tp, M, e, r⟩ := h
  exact ⟨Tp, M, s _ _ e, r⟩
theorem Pz.of {n : Nat} {H : Hp} {p : Addr} {v : Rat} (h : Pq H p v) (b : Bq n v) : Pz n H p v := ⟨v.num, v.den, h, den_pos v, Int.ne_of_gt (den_pos v), (q_eq v).symm, b.1, b.2⟩
theorem Pz.updL {n : Nat} {H : Hp} {D p : Addr} {xs ys : List V} {v : Rat} (h : H D = some (.lst xs)) (k : Pz n H p v) : Pz n (upd H D (.lst ys)) p v := by
  obtain ⟨Tp, M, e, r⟩ := k
  exact ⟨Tp, M, by rw [upd_ne (ne_of e h (by intro z; cases z))]; exact e, r⟩
noncomputable def Rz (n : Nat) (H : Hp) (a : Addr) (vs : List Rat) : Prop := ∃ ps : List Addr, H a = some (.lst (ps.map V.ref)) ∧ Paired (Pz n H) ps vs
theorem pqs_z {n : Nat} {H : Hp} : ∀ {ps : List Addr} {qs : List Rat}, Pqs H ps qs → (∀ q ∈ qs, Bq n q) → Paired (Pz n H) ps qs
  | _, _, .nil, _ => .nil
  | _, _, .cons h r, b => .cons (Pz.of h (b _ List.mem_cons_self)) (pqs_z r fun q hq => b q (List.mem_cons_of_mem _ hq))
theorem Rz.of {n : Nat} {H : Hp} {a : Addr} {qs : List Rat} (h : Rw H a qs) (b : ∀ q ∈ qs, Bq n q) : Rz n H a qs := by
  obtain ⟨ps, e, k⟩ := h
  exact ⟨ps, e, pqs_z k b⟩
theorem comp_rangeZ {lo : Int} {n nb : Nat} {te : Shared → Hp → Addr → List Addr → TE} {js : List Nat} {σ : L2.St} {H1 : Hp} {Q : VK} (hn : n ≤ 100000) (f : Nat → Rat)
    (hs : ∀ s₀ H₀ C ex i H (R : VK), i < n → Same H1 H → (∀ p H2, Same H H2 → Pz nb H2 p (f i) → R (.ref p) H2) → te s₀ H₀ C ex (some (.int (lo + i)) :: js.map fun j => (σ[j]?).join) H R)
    (hd : ∀ H D, Same H1 H → H1 D = none → Rz nb H D ((List.range n).map f) → Q (.ref D) H) : CompAt (Itr lo n) te js σ Q H1 := by
  intro D hD
  refine ⟨fun i m ys H => m = n - i ∧ i ≤ n ∧ (∃ ps, ys = ps.map V.ref ∧ Paired (Pz nb H) ps ((List.range i).map f)) ∧ Same H1 H ∧ H D = some (.lst ys), ⟨n, by simp, Nat.zero_le _, ⟨[], rfl, .nil⟩, same_upd hD _, upd_same⟩, ?_⟩
  rintro i m ys H ⟨rfl, hi, ⟨ps, rfl, hp⟩, sm, hDl⟩
  refine ⟨hDl, ?_⟩
  by_cases hlt : i < n
  · refine .inr ⟨hlt, fun x H' y s₀ H₀ C ex => ?_⟩
    obtain ⟨e, y⟩ := y
    subst e y
    refine hs s₀ H₀ C ex i H' _ hlt sm fun p H2 s2 kp => ?_
    have h2 := s2 _ _ hDl
    have hp2 : Paired (Pz nb H2) ps ((List.range i).map f) := Paired.imp' (fun _ _ z => z.keep s2) hp
    have hl : ps.length = i := by rw [Paired.length hp, List.length_map, List.length_range]
    have hz : (100000 : Nat) < sizeLine := by decide
    refine ⟨h2, by rw [List.length_map]; (first | lia | omega), n - (i + 1), by (first | lia | omega), rfl, hlt, ⟨ps ++ [p], by simp, ?_⟩, same_updF (sm.trans s2) hD _, upd_same⟩
    rw [List.range_succ, List.map_append]
    exact paired_append (Paired.imp' (fun _ _ z => z.updL h2) hp2) (.cons (kp.updL h2) .nil)
  · have e : i = n := by (first | lia | omega)
    subst e
    exact .inl ⟨Nat.le_refl _, hd H D sm hD ⟨ps, hDl, hp⟩⟩
end L3

namespace L3
open PySem PySem.Spec PyProof.Rows L2 Ra
section
variable {prog : Program} {w : World} {A : Around} {E : Value → Shared → Prop} {s : Shared}
theorem enum_step {e it l : Addr} {c : Int} {i : Nat} {items : Array Value} {x old : Value} {Q : Value → Shared → Prop} (eE : IsEnum s.heap e it c old) (eI : s.heap.IsListIter it l i) (eL : s.heap.IsList l items) (ex : items[i]? = some x) (ne : e ≠ it)
    (q : ∀ h', IsEnumOut h' e it (c + 1) x s.heap.objs.size → h'.IsListIter it l (i + 1) → h'.get? s.heap.objs.size = some { cls := .type "tuple", data := .seq #[.int c s.toks, x] } →
      (∀ b o, b ≠ e → b ≠ it → s.heap.get? b = some o → h'.get? b = some o) → Q (.ref s.heap.objs.size) { s with heap := h', toks := s.toks + 1 }) :
    wpAny (model prog w) A (Builtin.«enumerate.__next__» ⟨[.ref e], []⟩) (fun fin s' => ∃ v, fin = .done (.ret v) ∧ Q v s') E s := by
  obtain ⟨hp, gg, dd, tk, oo⟩ := s
  show wpAny (model prog w) A (field (.ref e) 2 >>= _) _ E _
  refine wpAny_bind (wpAny_field eE rfl (x := .ref it) rfl (wpAny_bind (wpAny_nextOf_list_item eI eL ex fun k1 eI1 sb1 => ?_)))
  replace sb1 : Heap.SameBut it hp k1 := sb1
  have eE1 : IsEnum k1 e it c old := (sb1.2 e ne).trans eE
  show wpAny (model prog w) A (field (.ref e) 3 >>= _) _ E ⟨k1, gg, dd, tk, oo⟩
  refine wpAny_bind (wpAny_field eE1 rfl (x := rawInt c) rfl ?_)
  show wpAny (model prog w) A (field (.ref e) 4 >>= _) _ E ⟨k1, gg, dd, tk, oo⟩
  refine wpAny_bind (wpAny_field eE1 rfl (x := .none) rfl ?_)
  show wpAny (model prog w) A (mkInt c >>= _) _ E ⟨k1, gg, dd, tk, oo⟩
  refine wpAny_bind (wpAny_mkInt ?_)
  show wpAny (model prog w) A (setField (.ref e) 3 (rawInt (c + 1)) >>= _) _ E ⟨k1, gg, dd, tk + 1, oo⟩
  refine wpAny_bind (wpAny_setField_rec eE1 (by simp) fun k2 eE2 sb2 => ?_)
  replace sb2 : Heap.SameBut e k1 k2 := sb2
  replace eE2 : IsEnum k2 e it (c + 1) old := eE2
  show wpAny (model prog w) A (setField (.ref e) 4 .none >>= _) _ E ⟨k2, gg, dd, tk + 1, oo⟩
  refine wpAny_bind (wpAny_setField_rec eE2 (by simp) fun k3 eE3 sb3 => ?_)
  replace sb3 : Heap.SameBut e k2 k3 := sb3
  replace eE3 : IsEnum k3 e it (c + 1) old := eE3
  show wpAny (model prog w) A (newTuple [.int c tk, x] >>= _) _ E ⟨k3, gg, dd, tk + 1, oo⟩
  refine wpAny_bind (wpAny_newTuple ?_)
  have sz : k3.objs.size = hp.objs.size := by rw [sb3.1, sb2.1, sb1.1]
  have lt : e < hp.objs.size := Heap.lt_size eE
  have ne2 : hp.objs.size ≠ e := Nat.ne_of_gt lt
  obtain ⟨k4, e4⟩ : ∃ k4, k4 = k3.push { cls := .type "tuple", data := .seq #[.int c tk, x] } := ⟨_, rfl⟩
  have eE4 : IsEnum k4 e it (c + 1) old := by rw [e4]; exact Heap.get?_push_of_some _ eE3
  have eT4 : k4.get? hp.objs.size = some { cls := .type "tuple", data := .seq #[.int c tk, x] } := by rw [e4, ← sz]; exact Heap.get?_push_size _ rfl
  have kp4 : ∀ b o, b ≠ e → b ≠ it → hp.get? b = some o → k4.get? b = some o := fun b o z1 z2 h => by
    rw [e4]
    exact Heap.get?_push_of_some _ (sb3.extBut b o z1 (sb2.extBut b o z1 (sb1.extBut b o z2 h)))
  have eI4 : k4.IsListIter it l (i + 1) := by
    obtain ⟨o, ho, r⟩ := (eI1.extBut sb2.extBut ne.symm).extBut sb3.extBut ne.symm
    exact ⟨o, by rw [e4]; exact Heap.get?_push_of_some _ ho, r⟩
  show wpAny (model prog w) A (Builtin.SmallTypes.ownedTupleIsFree (.ref e) >>= _) _ E ⟨k3.push { cls := .type "tuple", data := .seq #[.int c tk, x] }, gg, dd, tk + 1, oo⟩
  rw [sz, ← e4]
  refine wpAny_bind ?_
  unfold Builtin.SmallTypes.ownedTupleIsFree
  refine wpAny_bind (wpAny_field eE4 rfl (x := .none) rfl (wpAny_pure ?_))
  rw [if_pos rfl]
  refine wpAny_bind (wpAny_rule (wpAny_bind (wpAny_field eE4 rfl (x := old) rfl (wpAny_bind (wpAny_setField_rec eE4 (by simp) fun k5 eE5 sb5 => ?_)))))
  replace sb5 : Heap.SameBut e k4 k5 := sb5
  replace eE5 : IsEnum k5 e it (c + 1) x := eE5
  show wpAny (model prog w) A (Builtin.SmallTypes.ownedTupleHandOut (.ref e) (.ref hp.objs.size) >>= _) _ E ⟨k5, gg, dd, tk + 1, oo⟩
  refine wpAny_bind ?_
  unfold Builtin.SmallTypes.ownedTupleHandOut
  refine wpAny_bind (wpAny_setField_rec eE5 (by simp) fun k6 eE6 sb6 => ?_)
  replace sb6 : Heap.SameBut e k5 k6 := sb6
  replace eE6 : IsEnumOut k6 e it (c + 1) x hp.objs.size := eE6
  refine wpAny_setField_rec eE6 (by simp) fun k7 eE7 sb7 => ?_
  replace sb7 : Heap.SameBut e k6 k7 := sb7
  have up : ∀ b o, b ≠ e → k4.get? b = some o → k7.get? b = some o := fun b o z h => sb7.extBut b o z (sb6.extBut b o z (sb5.extBut b o z h))
  exact wpAny_bind (wpAny_letGo (wpAny_pure ⟨_, rfl, q k7 eE7 (eI4.at fun o h => up it o ne.symm h) (up _ _ ne2 eT4) fun b o z1 z2 h => up b o z1 (kp4 b o z1 z2 h)⟩))
theorem next_enum {e it l : Addr} {c : Int} {i : Nat} {items : Array Value} {x old : Value} {Q : Option Value → Shared → Prop} (eE : IsEnum s.heap e it c old) (eI : s.heap.IsListIter it l i) (eL : s.heap.IsList l items) (ex : items[i]? = some x) (ne : e ≠ it)
    (q : ∀ h', IsEnumOut h' e it (c + 1) x s.heap.objs.size → h'.IsListIter it l (i + 1) → h'.get? s.heap.objs.size = some { cls := .type "tuple", data := .seq #[.int c s.toks, x] } →
      (∀ b o, b ≠ e → b ≠ it → s.heap.get? b = some o → h'.get? b = some o) → Q (some (.ref s.heap.objs.size)) { s with heap := h', toks := s.toks + 1 }) : wpAny (model prog w) A (pyNext (.ref e)) Q E s := by
  have ty : s.TypeIs (.ref e) "enumerate" := ⟨_, eE, rfl⟩
  have sl := F.slot_enumerate_next
  unfold pyNext
  exact wpAny_bind (wpAny_attempt (wpAny_callSpecial?_slot (name := Str.ofString "__next__") ty sl (wpAny_call_entry sl ty F.entry_enumerate_next (enum_step eE eI eL ex ne fun h' a b c k => wpAny_pure (q h' a b c k)) (F.args_enumerate_next_1 _))))
theorem next_enum_end {e it l : Addr} {c : Int} {i : Nat} {items : Array Value} {old : Value} {Q : Option Value → Shared → Prop} (hh : A.handled = none) (eE : IsEnum s.heap e it c old) (eI : s.heap.IsListIter it l i) (eL : s.heap.IsList l items) (ex : items[i]? = none)
    (q : ∀ h', Heap.ExtBut it s.heap h' → Q none { s with heap := h' }) : wpAny (model prog w) A (pyNext (.ref e)) Q E s := by
  have ty : s.TypeIs (.ref e) "enumerate" := ⟨_, eE, rfl⟩
  have sl := F.slot_enumerate_next
  unfold pyNext
  refine wpAny_bind (wpAny_attempt (wpAny_callSpecial?_slot (name := Str.ofString "__next__") ty sl (wpAny_call_entry sl ty F.entry_enumerate_next ?_ (F.args_enumerate_next_1 _))))
  show wpAny (model prog w) _ (field (.ref e) 2 >>= _) _ _ _
  refine wpAny_bind (wpAny_field eE rfl (x := .ref it) rfl (wpAny_bind (wpAny_nextOf_list_end hh eI eL ex fun h' x eb hx => ?_)))
  obtain ⟨o, ho, hc⟩ := hx
  exact wpAny_bind (wpAny_isInstance (T := "StopIteration") (b := true) ⟨o, ho, hc⟩ isSubtype_stop (wpAny_pure (q _ eb)))
end
theorem turned2 {X : Cx} {pins : List (Addr × Obj)} {σ : L2.St} {H : Hp} {s : Shared} {h' : Heap} {t' : Nat} {e it : Addr} {o o' : Obj} {vs : Array Value} (I : Inv X pins σ H s) (k : ∀ b u, b ≠ e → b ≠ it → s.heap.get? b = some u → h'.get? b = some u) (ho : s.heap.get? it = some o) (ho' : h'.get? it = some o')
    (hd : o'.data = .fields vs) (fe : FpOk X pins H e) (fi : FpOk X pins H it) : Inv X pins σ H { s with heap := h', toks := t' } := by
  have I1 : Inv X pins σ H { s with heap := s.heap.update it fun _ => o', toks := s.toks } := I.turned (it := it) (fun b u hb eb => (Heap.get?_update_other s.heap _ (Ne.symm hb)).trans eb) fi.1 fi.2.1 fi.2.2.2.1 fi.2.2.2.2.1 fi.2.2.2.2.2
  have I2 := I1.turned (h' := h') (t' := t') (it := e) (fun b u hb eb => ?_) fe.1 fe.2.1 fe.2.2.2.1 fe.2.2.2.2.1 fe.2.2.2.2.2
  · exact I2
  · by_cases z : b = it
    · subst z
      rw [Heap.get?_update_self (fun _ => o') ho (Obj.isFreed_of_fields hd)] at eb
      exact ho'.trans eb
    · exact k b u hb z ((Heap.get?_update_other s.heap _ (Ne.symm z)).symm.trans eb)
noncomputable def Ite (K : PySem.W.Frag) (a : Addr) (c : Int) : It :=
  ⟨fun i H => ∃ xs x, SqL K H a xs ∧ xs[i]? = some x, fun i H v H' => ∃ T x, v = .ref T ∧ H T = none ∧ H' = upd H T (.tup [.int (c + i), x]) ∧ ∀ xs, SqL K H a xs → xs[i]? = some x, fun i H => ∃ xs, SqL K H a xs ∧ xs.length ≤ i⟩
theorem turn_enum {P : Program} {w : World} {K : PySem.W.Frag} {es : List Expr} {k : Nat} {tp : Pos} (a e it : Addr) (c : Int) (ne : e ≠ it) : Turn P w K (.Tuple es k tp) (Ite K a c) [e, it] e (fun i h => (∃ old, IsEnum h e it (c + (i : Nat)) old) ∧ h.IsListIter it a i) where
  mem := by simp
  obj := fun i h st b hb => by
    obtain ⟨⟨old, se⟩, o, so, oc, od⟩ := st
    rcases List.mem_cons.mp hb with rfl | hb
    · exact ⟨_, se, fun v z => by
        have z' : Data.fields _ = Data.cell v := z
        cases z'⟩
    · obtain rfl : b = it := by simpa using hb
      exact ⟨o, so, fun v z => by rw [od] at z; cases z⟩
  keep := fun i h h' st kk => ⟨let ⟨old, se⟩ := st.1; ⟨old, kk e (by simp) _ se⟩, st.2.at fun o eo => kk it (by simp) o eo⟩
  item := by
    intro X hP hw hK hc i pins s σ H E I hf st hg
    subst hP hw hK
    obtain ⟨⟨old, se⟩, si⟩ := st
    obtain ⟨xs, x, hq, hx⟩ := hg
    obtain ⟨its, rv, p, hz⟩ := I.list hq
    obtain ⟨u, hu, ru⟩ := rv.get hx
    have fe := hf e (by simp)
    have fi := hf it (by simp)
    have lte : e < s.heap.objs.size := Heap.lt_size se
    obtain ⟨oi, hoi, hoc, hod⟩ := id si
    have lti : it < s.heap.objs.size := Heap.lt_size hoi
    refine next_enum se si p.isList (x := u) (by simpa using hu) ne fun h1 so1 si1 ht1 hk1 => ⟨_, rfl, wpAny_letOwnedTupleGo_enum so1 fun h2 se2 sb2 => ?_⟩
    replace sb2 : Heap.SameBut e h1 h2 := sb2
    have fresh : H s.heap.objs.size = none := I.hok.fresh (Nat.le_refl _)
    have I1 : Inv X pins σ (upd H s.heap.objs.size (.tup [.int (c + (i : Nat)), x])) { s with heap := s.heap.push { cls := .type "tuple", data := .seq ([.int (c + (i : Nat)) s.toks, u] : List Value).toArray }, toks := s.toks } :=
      I.laid (fun b o eb => Heap.get?_push_of_some _ eb) (Nat.le_refl _) (show ObjOk X.prog X.w _ _ _ (.tup _) from ⟨(by show 2 ≤ sizeLine; decide), _, .cons ⟨_, rfl⟩ (.cons ru .nil), IsTup.new _ _⟩)
    have si2 : h2.IsListIter it a (i + 1) := si1.at fun o eo => (sb2.2 it ne.symm).trans eo
    obtain ⟨o2, ho2, _, hd2⟩ := id si2
    have fo : ∀ b, b < s.heap.objs.size → FpOk X pins H b → FpOk X pins (upd H s.heap.objs.size (.tup [.int (c + (i : Nat)), x])) b := fun b lb fb => ⟨by rw [upd_ne (Nat.ne_of_lt lb)]; exact fb.1, fb.2⟩
    have I2 := turned2 (h' := h2) (t' := s.toks + 1) I1 (e := e) (it := it) (fun b o z1 z2 eb => ?_) (Heap.get?_push_of_some _ hoi) ho2 hd2 (fo e lte fe) (fo it lti fi)
    · refine ⟨.ref s.heap.objs.size, _, I2, rfl, ⟨_, x, rfl, fresh, rfl, fun ys hy => by rw [I.list_inj hy hq]; exact hx⟩, ⟨⟨u, ?_⟩, si2⟩, fun b hb => ?_⟩
      · have ei : c + ((i + 1 : Nat) : Int) = c + (i : Nat) + 1 := by (first | lia | omega)
        rw [ei]
        exact se2
      · rcases List.mem_cons.mp hb with rfl | hb
        · exact (fo _ lte fe).1
        · obtain rfl : b = it := by simpa using hb
          exact (fo _ lti fi).1
    · rcases Heap.get?_push_cases eb with ⟨rfl, rfl⟩ | eb
      · exact (sb2.2 _ z1).trans ht1
      · exact (sb2.2 _ z1).trans (hk1 b o z1 z2 eb)
  done := by
    intro X hP hw hK hc i pins s σ H E I hf st hg
    subst hP hw hK
    obtain ⟨⟨old, se⟩, si⟩ := st
    obtain ⟨xs, hq, hx⟩ := hg
    obtain ⟨its, rv, p, hz⟩ := I.list hq
    obtain ⟨f0, f1, f2, f3, f4, f5⟩ := hf it (by simp)
    have hlen := rv.length
    exact next_enum_end (I.ok.hd hc) se si p.isList (by simp; (first | lia | omega)) fun h' eb => ⟨rfl, I.turned (t' := s.toks) (fun b o hb z => eb b o hb z) f0 f1 f3 f4 f5⟩
  self := fun _ _ _ _ _ st h => let ⟨_, se⟩ := st.1; wpAny_pyIter_enum se h
noncomputable def iEnum (K : PySem.W.Frag) (ta : TA) : TI := fun σ H R => ta σ H fun vs H1 => ∃ a, vs = [.ref a] ∧ (∃ xs, SqL K H1 a xs) ∧ R (Ite K a 0) H1
theorem pi_enum {X : Cx} {es : List Expr} {k : Nat} {tp : Pos} {a : Expr} {ta : TA} {p pos : Pos} (hg : Gl X "enumerate") (hm : X.mg "enumerate" = none) (ha : PA X [a] ta) (hs : starEach [a] X.env = [(false, eval a X.env)] := by rfl) : PI X (.Tuple es k tp) (.Call (.Name "enumerate" p) [a] [] pos) (iEnum X.K ta) := by
  intro pins s σ H R I h
  refine Call_ (ld_blt I hg hm boot_enumerate (PyProof.Rows.callWith_type1 (thn (ha pos pins s σ H _ I h) fun us s1 ⟨vs, H1, I1, r1, q1⟩ => ?_) hs rfl))
  obtain ⟨l, rfl, ⟨xs, hq⟩, q⟩ := q1
  cases r1 with
  | cons r rr =>
    cases rr
    cases r
    obtain ⟨its, rv, pl, hz⟩ := I1.list hq
    refine call_enumerate_list pl.isList fun h' se si hsz hk => wpAny_pyIter_enum se ?_
    have I2 : Inv X pins σ H1 { s1 with heap := h' } := I1.kept (t' := s1.toks) hk
    refine ⟨s1.heap.objs.size + 1, [s1.heap.objs.size + 1, s1.heap.objs.size], _, _, H1, rfl, I2, turn_enum l _ _ 0 (Nat.succ_ne_self _), ⟨⟨.none, by simpa using se⟩, si⟩, fun b hb => ?_, q⟩
    rcases List.mem_cons.mp hb with rfl | hb
    · exact I1.fpOk (Nat.le_succ _) (I1.hok.fresh (Nat.le_succ _))
    · obtain rfl : b = s1.heap.objs.size := by simpa using hb
      exact I1.fpOk (Nat.le_refl _) (I1.hok.fresh (Nat.le_refl _))
theorem for_enum {K : PySem.W.Frag} {a : Addr} {c : Int} {xs : List V} {g : TG} {tb : TS} {D : Ends} {σ : L2.St} {H : Hp} (Pv : Nat → L2.St → Hp → Prop) (h0 : Pv 0 σ H) (hl : ∀ i σ H, i ≤ xs.length → Pv i σ H → SqL K H a xs)
    (hs : ∀ i x σ H T, xs[i]? = some x → Pv i σ H → H T = none → g (.ref T) σ (upd H T (.tup [.int (c + i), x])) fun σ2 H2 => tb { D with nx := Pv (i + 1), ct := Pv (i + 1), bk := D.nx } σ2 H2) (hd : ∀ σ H, Pv xs.length σ H → D.nx σ H) :
    ∃ W : Nat → Nat → L2.St → Hp → Prop, (∃ m, W 0 m σ H) ∧ ∀ i m σ H, W i m σ H →
      ((Ite K a c).stop i H ∧ D.nx σ H) ∨ ((Ite K a c).go i H ∧ ∃ N : L2.St → Hp → Prop, (∀ σ' H', N σ' H' → ∃ m', m' < m ∧ W (i + 1) m' σ' H') ∧ ∀ x H', (Ite K a c).yld i H x H' → g x σ H' fun σ2 H2 => tb { D with nx := N, ct := N, bk := D.nx } σ2 H2) := by
  refine ⟨fun i m σ H => m = xs.length - i ∧ i ≤ xs.length ∧ Pv i σ H, ⟨xs.length, by simp, Nat.zero_le _, h0⟩, ?_⟩
  rintro i m σ H ⟨rfl, hi, p⟩
  have q := hl i σ H hi p
  by_cases hlt : i < xs.length
  · refine .inr ⟨⟨xs, _, q, List.getElem?_eq_getElem hlt⟩, Pv (i + 1), fun σ' H' p' => ⟨xs.length - (i + 1), by (first | lia | omega), rfl, hlt, p'⟩, ?_⟩
    rintro v H' ⟨T, x, rfl, hT, rfl, y⟩
    exact hs i x σ H T (y xs q) p hT
  · obtain rfl : i = xs.length := by (first | lia | omega)
    exact .inl ⟨⟨xs, q, Nat.le_refl _⟩, hd σ H p⟩
end L3

namespace L3
open PySem PySem.Spec PyProof.Rows L2 Ra
section
variable {prog : Program} {w : World} {A : Around} {E : Value → Shared → Prop} {s : Shared}
theorem enumS_type (a : Value) (c : Int) (t : Tok) : checkTypeCall "enumerate" ⟨[a], [("start", .int c t)]⟩ = pure () := by kernel_rfl
theorem enumS_new (a : Value) (c : Int) (t : Tok) : checkBuiltinCall "enumerate.__new__" ⟨[.type "enumerate", a], [("start", .int c t)]⟩ = pure () := by kernel_rfl
theorem enumS_init (a b : Value) (c : Int) (t : Tok) : argsOk "object.__init__" ⟨[a, b], [("start", .int c t)]⟩ := by
  unfold argsOk; rw [signature?_of (id := "object.__init__") (n := "__init__".toList.reverse) (o := "object".toList.reverse) (by kernel_rfl) F.owner_object]; kernel_rfl
open AutoSeq1 (wpAny_loadPart') in
theorem meets_enumS (l : Addr) (items : Array Value) (n : Nat) (dct : Option Addr) (sl : Array (Option Value)) (t : Tok) :
    Meets (Builtin.«enumerate.__new__» ⟨[.type "enumerate", .ref l], [("start", .int 1 t)]⟩) (fun _ R k => k.heap.get? l = some { cls := .type "list", dict := dct, data := .seq items n, slots := sl } ∧
      R (.ok (.ret (.ref (k.heap.push { cls := .type "list_iterator", data := .fields #[.ref l, .int 0 0] }).objs.size)))
        { k with heap := (k.heap.push { cls := .type "list_iterator", data := .fields #[.ref l, .int 0 0] }).push { cls := .type "enumerate", data := .fields #[.none, .bool false, .ref k.heap.objs.size, rawInt 1, .none, .none] } }) :=
  .of_wp fun prog w A R k q => by
    obtain ⟨hp, gg, dd, tk, oo⟩ := k
    obtain ⟨hl, q⟩ := q
    have hsub := PySem.sub_enumerate
    have lst : Heap.IsList (Shared.heap ⟨hp, gg, dd, tk, oo⟩) l items := ⟨_, hl, rfl, n, rfl⟩
    wp_walk using wpAny_loadPart' hl
    refine wpAny_stack_any fun st => wpAny_pure ?_
    split
    · rename_i c _ _ _ _ _
      cases (c == Value.type "enumerate") <;> (wp_walk using wpAny_loadPart' hl, wpAny_pyIter_list lst; exact ⟨_, rfl, q⟩)
    · wp_walk using wpAny_loadPart' hl, wpAny_pyIter_list lst
      exact ⟨_, rfl, q⟩
set_option maxHeartbeats 1000000 in
theorem call_enumS {l : Addr} {items : Array Value} {t : Tok} {Q : Value → Shared → Prop} (hL : s.heap.IsList l items)
    (q : ∀ h', IsEnum h' (s.heap.objs.size + 1) s.heap.objs.size 1 .none → h'.IsListIter s.heap.objs.size l 0 → (∀ b o, s.heap.get? b = some o → h'.get? b = some o) → Q (.ref (s.heap.objs.size + 1)) { s with heap := h' }) :
    wpAny (model prog w) A (call (.type "enumerate") [.ref l] [("start", .int 1 t)]) Q E s := by
  obtain ⟨⟨cl, dct, dt, sl⟩, hl, hcl, n, hd⟩ := hL
  replace hcl : cl = .type "list" := hcl
  replace hd : dt = .seq items n := hd
  subst hcl hd
  have ft := F.called_enumerate
  obtain ⟨c0, tl0, hmro⟩ := ft.mro
  have hmade := ft.made
  have hsub := ft.sub
  have n1 := ft.notType
  have n2 := ft.canCreate
  have n3 := enumS_type (.ref l) 1 t
  apply wpAny_call
  apply codeAny_of_tree
  show wpAny _ _ (callAny (.type "enumerate") _) _ _ _
  refine wpAny_pure ⟨Code.quiet_builtin _ (by decide +kernel), codeAny_builtin F.entry_type_call ?_⟩
  rw [Around.under_plain (weight_type_call_type "enumerate" [.ref l] [("start", .int 1 t)]) (units_type_call_type "enumerate" [.ref l] [("start", .int 1 t)])]
  repeat (any_goals (first | assumption | wp_step))
  have hz : (s.heap.push { cls := .type "list_iterator", data := .fields #[.ref l, .int 0 0] }).objs.size = s.heap.objs.size + 1 := Heap.size_push ..
  obtain ⟨k2, ek2⟩ : ∃ k2, k2 = (s.heap.push { cls := .type "list_iterator", data := .fields #[.ref l, .int 0 0] }).push { cls := .type "enumerate", data := .fields #[.none, .bool false, .ref s.heap.objs.size, rawInt 1, .none, .none] } := ⟨_, rfl⟩
  have se : IsEnum k2 (s.heap.objs.size + 1) s.heap.objs.size 1 .none := by
    rw [ek2, ← hz]
    exact Heap.get?_push_size _ rfl
  have si : k2.IsListIter s.heap.objs.size l 0 := ⟨_, by rw [ek2]; exact Heap.get?_push_of_some _ (Heap.get?_push_size _ rfl), rfl, rfl⟩
  have kk : ∀ b o, s.heap.get? b = some o → k2.get? b = some o := fun b o e => by rw [ek2]; exact Heap.get?_push_of_some _ (Heap.get?_push_of_some _ e)
  have made : ∀ R : Result → Shared → Prop, R (.ok (.ret (.ref (s.heap.objs.size + 1)))) { s with heap := k2 } → codeAny (model prog w) A.in1 (.call (.builtin "enumerate.__new__") ⟨[.type "enumerate", .ref l], [("start", .int 1 t)]⟩) R s := fun R hR => by
    refine codeAny_call_builtin ft.plain F.entry_enumerate_new (wpAny_of_eq (enumS_new (.ref l) 1 t) (meets_enumS l items n dct sl t prog w A.in1 R s ⟨hl, ?_⟩))
    rw [hz, ← ek2]
    exact hR
  refine codeAny_mono (made (fun r k => r = .ok (.ret (.ref (s.heap.objs.size + 1))) ∧ k = { s with heap := k2 }) ⟨rfl, rfl⟩) fun r s1 hr => ?_
  obtain ⟨rfl, rfl⟩ := hr
  have hT : Shared.TypeIs { s with heap := k2 } (.ref (s.heap.objs.size + 1)) "enumerate" := ⟨_, se, rfl⟩
  have inited : ∀ R : Result → Shared → Prop, R (.ok (.ret .none)) { s with heap := k2 } → codeAny (model prog w) A.in1 (.call (.builtin "object.__init__") ⟨[.ref (s.heap.objs.size + 1), .ref l], [("start", .int 1 t)]⟩) R { s with heap := k2 } := fun R hR => by
    refine codeAny_call_builtin ft.init.plain F.entry_object_init (ft.init.check _ _ _ _ _ _ _ _ hT (enumS_init _ _ 1 t) ?_)
    unfold Builtin.«object.__init__»
    have e1 := ft.init.lookup
    have e2 := ft.made
    repeat (any_goals (first | assumption | wp_step))
  have hli := ft.init.lookup
  have hbi := ft.init.bind (.ref (s.heap.objs.size + 1))
  repeat (any_goals (first | assumption | wp_step))
  refine codeAny_mono (inited (fun r k => r = .ok (.ret .none) ∧ k = { s with heap := k2 }) ⟨rfl, rfl⟩) fun r s2 hr => ?_
  obtain ⟨rfl, rfl⟩ := hr
  have fin := q k2 se si kk
  repeat (any_goals (first | assumption | wp_step))
end
theorem cw_type {M : Model} {A : Around} {E : Value → Shared → Prop} {s : Shared} {pos : Pos} {T : String} {us : List (Bool × Sem Value)} {ks : List (Option Str × Sem Value)} {Q : Value → Shared → Prop} (h1 : us.any (·.1) = false) (h2 : ks.any (·.1.isNone) = false)
    (h : wpAny M A (evalArgs (.type T) true us ks) (fun a k => wpAny M A (call (.type T) a.pos a.kw) Q E k) E s) : wpAny M A (callWith pos (.type T) [] us ks) Q E s := by
  unfold callWith
  refine wpAny_bind (wpAny_holding (wpAny_mono h (fun a k ha => wpAny_bind (wpAny_standAt ?_)) fun _ _ z => z))
  simp only [h1, h2, Bool.or_false]
  refine wpAny_bind (wpAny_pure (wpAny_bind (wpAny_mono ha (fun r k2 hr => ?_) fun _ _ z => z)))
  exact wpAny_bind (wpAny_holding (wpAny_point (wpAny_pure hr)))
noncomputable def iEnumS (K : PySem.W.Frag) (ta tk : TA) : TI := fun σ H R => ta σ H fun vs H1 => tk σ H1 fun zs H2 => ∃ a, vs = [.ref a] ∧ zs = [.int 1] ∧ (∃ xs, SqL K H2 a xs) ∧ R (Ite K a 1) H2
theorem pi_enumS {X : Cx} {es : List Expr} {k : Nat} {tp : Pos} {a e : Expr} {ta tk : TA} {p pos kp : Pos} (hg : Gl X "enumerate") (hm : X.mg "enumerate" = none) (ha : PA X [a] ta) (hkw : PK X [⟨some "start", e, kp⟩] tk) (hs : starEach [a] X.env = [(false, eval a X.env)] := by rfl) :
    PI X (.Tuple es k tp) (.Call (.Name "enumerate" p) [a] [⟨some "start", e, kp⟩] pos) (iEnumS X.K ta tk) := by
  intro pins s σ H R I h
  refine wpAny_Call_Name_kw (ld_blt I hg hm boot_enumerate ?_)
  have hs2 : backTo pos (starEach [a] X.env) = [(false, eval a X.env)] := by rw [hs]; rfl
  have ha2 := ha pos pins s σ H _ I h
  rw [hs2] at ha2 ⊢
  refine cw_type rfl rfl (evalArgs_kwB rfl (thn ha2 fun us s1 ⟨vs, H1, I1, r1, q1⟩ => ?_))
  refine thn (hkw pos pins s1 σ H1 _ I1 q1) fun ws s2 ⟨zs, H2, I2, rz, q2⟩ => ?_
  obtain ⟨l, rfl, rfl, ⟨xs, hq⟩, q⟩ := q2
  obtain ⟨u1, rfl, ru1⟩ := vals1 r1
  obtain ⟨u2, rfl, ru2⟩ := vals1 rz
  cases ru1
  obtain ⟨t, rfl⟩ := ru2
  obtain ⟨its, rv, pl, hz⟩ := I2.list hq
  show wpAny (model X.prog X.w) X.A (call (.type "enumerate") [.ref l] [("start", .int 1 t)]) _ _ _
  refine call_enumS pl.isList fun h' se si hk => wpAny_pyIter_enum se ?_
  have I3 : Inv X pins σ H2 { s2 with heap := h' } := I2.kept (t' := s2.toks) hk
  refine ⟨s2.heap.objs.size + 1, [s2.heap.objs.size + 1, s2.heap.objs.size], _, _, H2, rfl, I3, turn_enum l _ _ 1 (Nat.succ_ne_self _), ⟨⟨.none, by simpa using se⟩, si⟩, fun b hb => ?_, q⟩
  rcases List.mem_cons.mp hb with rfl | hb
  · exact I2.fpOk (Nat.le_succ _) (I2.hok.fresh (Nat.le_succ _))
  · obtain rfl : b = s2.heap.objs.size := by simpa using hb
    exact I2.fpOk (Nat.le_refl _) (I2.hok.fresh (Nat.le_refl _))
theorem comp_enumQ {K : PySem.W.Frag} {a : Addr} {c : Int} {qs : List Rat} {tt : Shared → Hp → Addr → List Addr → TT} {te : Shared → Hp → Addr → List Addr → TE} {js : List Nat} {σ : L2.St} {H1 : Hp} {Q : VK} (hn : qs.length ≤ 100000) (ha : Rw H1 a qs) (f : Nat → Rat)
    (htt : tt = fun _ _ _ _ => tNoTest)
    (hs : ∀ s₀ H₀ C ex p i q H (R : VK), qs[i]? = some q → Pq H p q → Same H1 H → (∀ r H2, Same H H2 → Pq H2 r (f i) → R (.ref r) H2) → te s₀ H₀ C ex (some (.int (c + (i : Nat))) :: some (.ref p) :: js.map fun j => (σ[j]?).join) H R)
    (hd : ∀ H D, Same H1 H → H1 D = none → Rw H D ((List.range qs.length).map f) → Q (.ref D) H) : CompAtG (Ite K a c) (gTup K 2 (gCons (gName 0) (gCons (gName 1) gNil))) tt te 2 js σ Q H1 := by
  subst htt
  intro D hD
  obtain ⟨rs, hrs, kr⟩ := ha
  have hlr := kr.length
  refine ⟨fun i m ys H => m = qs.length - i ∧ i ≤ qs.length ∧ (∃ ps : List Addr, ys = ps.map V.ref ∧ Pqs H ps ((List.range i).map f)) ∧ Same H1 H ∧ H D = some (.lst ys), ⟨qs.length, by simp, Nat.zero_le _, ⟨[], rfl, .nil⟩, same_upd hD _, upd_same⟩, ?_⟩
  rintro i m ys H ⟨rfl, hi, ⟨ps, rfl, hp⟩, sm, hDl⟩
  refine ⟨hDl, ?_⟩
  have hr := sm _ _ hrs
  by_cases hlt : i < qs.length
  · have eq : qs[i]? = some qs[i] := List.getElem?_eq_getElem hlt
    obtain ⟨p0, h0, k0⟩ := (kr.keep sm).get eq
    refine .inr ⟨⟨_, _, SqL.of hr, h0⟩, ?_⟩
    rintro v H' ⟨T, x, rfl, hT, rfl, y⟩ s₀ H₀ C ex σ0 hσ
    have ex' := y _ (SqL.of hr)
    rw [h0] at ex'
    cases ex'
    obtain ⟨v1, v2, rfl⟩ : ∃ v1 v2, σ0 = [v1, v2] := by
      match σ0, hσ with
      | [v1, v2], _ => exact ⟨v1, v2, rfl⟩
    have u := same_upd hT (.tup [.int (c + (i : Nat)), .ref p0])
    refine ⟨T, _, rfl, SqT.of upd_same, rfl, _, _, rfl, _, _, rfl, rfl, ⟨[some (.int (c + (i : Nat))), some (.ref p0)], rfl, rfl⟩, ?_⟩
    dsimp only [tNoTest]
    rw [if_pos rfl]
    refine hs s₀ H₀ C ex p0 i _ _ _ eq (k0.keep u) (sm.trans u) fun r H2 s2 kp => ?_
    have s2' := u.trans s2
    have h2 := s2' _ _ hDl
    have hl := hp.length
    rw [List.length_map, List.length_range] at hl
    have hz : (100000 : Nat) < sizeLine := by decide
    refine ⟨h2, by rw [List.length_map]; (first | lia | omega), qs.length - (i + 1), by (first | lia | omega), rfl, hlt, ⟨ps ++ [r], by simp, ?_⟩, same_updF (sm.trans s2') hD _, upd_same⟩
    rw [List.range_succ, List.map_append]
    exact ((hp.keep s2').updL h2).append (.cons (kp.updL h2) .nil)
  · obtain rfl : i = qs.length := by (first | lia | omega)
    exact .inl ⟨⟨_, SqL.of hr, by rw [List.length_map]; (first | lia | omega)⟩, hd H D sm hD ⟨ps, hDl, hp⟩⟩
end L3

namespace L3
open PySem PySem.Spec PyProof.Rows L2 Ra
theorem turnedN {X : Cx} {pins : List (Addr × Obj)} {σ : L2.St} {H : Hp} {s : Shared} {h' : Heap} {t' : Nat} (S : List Addr) (I : Inv X pins σ H s) (k : ∀ b o, b ∉ S → s.heap.get? b = some o → h'.get? b = some o) (hS : ∀ b ∈ S, FpOk X pins H b) : Inv X pins σ H { s with heap := h', toks := t' } := by
  have nit : ∀ b u, H b = some u → b ∉ S := fun b u e z => by rw [(hS b z).1] at e; cases e
  refine I.step (g' := s.gens) (d' := s.drawn) (ch := S) (fun b hb => ?_) (fun b o _ _ hc e _ => k b o hc e) (fun b o _ _ hc e _ => ⟨o.slots, k b o hc e⟩) (fun _ _ _ _ n => n)
    (fun b o hc e => ⟨o, k b o hc e⟩) (fun _ _ e => e) (fun _ _ _ e => e) (fun b ps e => ⟨#[], by rw [e]; simp⟩) (fun m hm => ?_) (fun b u e => ?_) I.bare
  · obtain ⟨h0, hL, _, h1, h2, h3⟩ := hS b hb
    exact ⟨h1, hL, h2, h3⟩
  · obtain ⟨o, es, ep, ho, r⟩ := hm
    exact ⟨o, es, ep, k _ o (fun z => (hS _ z).2.1 rfl) ho, r⟩
  · refine (I.hok b u e).stay (fun c v hc q => k c v ?_ q) (fun _ q => q) fun _ _ q => q
    rcases hc with z | z
    · rw [z]; exact nit b u e
    · exact nit c _ z
noncomputable def Itz (K : PySem.W.Frag) (a b : Addr) : It :=
  ⟨fun i H => ∃ xs ys x y, SqL K H a xs ∧ SqL K H b ys ∧ xs[i]? = some x ∧ ys[i]? = some y,
   fun i H v H' => ∃ T x y, v = .ref T ∧ H T = none ∧ H' = upd H T (.tup [x, y]) ∧ (∀ xs, SqL K H a xs → xs[i]? = some x) ∧ ∀ ys, SqL K H b ys → ys[i]? = some y,
   fun i H => ∃ xs ys, SqL K H a xs ∧ SqL K H b ys ∧ (xs.length ≤ i ∨ ys.length ≤ i)⟩
theorem turn_zip {P : Program} {w : World} {K : PySem.W.Frag} {es : List Expr} {k : Nat} {tp : Pos} (a b z TI TO i1 i2 : Addr) (D : ZipApart z TI TO i1 i2 a b) : Turn P w K (.Tuple es k tp) (Itz K a b) [z, TI, TO, i1, i2] z
    (fun i h => IsZip h z TI TO .none ∧ IsPair h TI (.ref i1) (.ref i2) ∧ (∃ u v, IsPair h TO u v) ∧ h.IsListIter i1 a i ∧ h.IsListIter i2 b i) where
  mem := by simp
  obj := fun i h st c hc => by
    obtain ⟨s1, s2, ⟨u, v, s3⟩, ⟨o4, e4, _, d4⟩, ⟨o5, e5, _, d5⟩⟩ := st
    simp only [List.mem_cons, List.not_mem_nil, or_false] at hc
    rcases hc with rfl | rfl | rfl | rfl | rfl
    · exact ⟨_, s1, fun v z => by
        have z' : Data.fields _ = Data.cell v := z
        cases z'⟩
    · exact ⟨_, s2, fun v z => by
        have z' : Data.seq _ _ = Data.cell v := z
        cases z'⟩
    · exact ⟨_, s3, fun v z => by
        have z' : Data.seq _ _ = Data.cell v := z
        cases z'⟩
    · exact ⟨o4, e4, fun v z => by rw [d4] at z; cases z⟩
    · exact ⟨o5, e5, fun v z => by rw [d5] at z; cases z⟩
  keep := fun i h h' st kk => by
    obtain ⟨s1, s2, ⟨u, v, s3⟩, s4, s5⟩ := st
    exact ⟨kk z (by simp) _ s1, kk TI (by simp) _ s2, ⟨u, v, kk TO (by simp) _ s3⟩, s4.at fun o e => kk i1 (by simp) o e, s5.at fun o e => kk i2 (by simp) o e⟩
  item := by
    intro X hP hw hK hc i pins s σ H E I hf st hg
    subst hP hw hK
    obtain ⟨s1, s2, ⟨u0, v0, s3⟩, s4, s5⟩ := st
    obtain ⟨xs, ys, x, y, hqx, hqy, hx, hy⟩ := hg
    obtain ⟨itx, rvx, px, _⟩ := I.list hqx
    obtain ⟨ity, rvy, py, _⟩ := I.list hqy
    obtain ⟨u, hu, ru⟩ := rvx.get hx
    obtain ⟨v, hv, rv⟩ := rvy.get hy
    have ltz : z < s.heap.objs.size := Heap.lt_size s1
    have ltT : TI < s.heap.objs.size := Heap.lt_size s2
    have ltO : TO < s.heap.objs.size := Heap.lt_size s3
    have lt1 : i1 < s.heap.objs.size := by obtain ⟨_, e, _⟩ := s4; exact Heap.lt_size e
    have lt2 : i2 < s.heap.objs.size := by obtain ⟨_, e, _⟩ := s5; exact Heap.lt_size e
    refine wpAny_pyNext_zip_item D s1 s2 s3 s4 s5 px.isList py.isList (x := u) (y := v) (by simpa using hu) (by simpa using hv) fun h1 a1 a2 a3 a4 a5 a6 hk1 => ⟨_, rfl, wpAny_letOwnedTupleGo_zip a1 fun h2 b1 sb2 => ?_⟩
    replace sb2 : Heap.SameBut z h1 h2 := sb2
    have fresh : H s.heap.objs.size = none := I.hok.fresh (Nat.le_refl _)
    have I1 : Inv X pins σ (upd H s.heap.objs.size (.tup [x, y])) { s with heap := s.heap.push { cls := .type "tuple", data := .seq ([u, v] : List Value).toArray }, toks := s.toks } :=
      I.laid (fun b o eb => Heap.get?_push_of_some _ eb) (Nat.le_refl _) (show ObjOk X.prog X.w _ _ _ (.tup _) from ⟨(by show 2 ≤ sizeLine; decide), _, .cons ru (.cons rv .nil), IsTup.new _ _⟩)
    have fo : ∀ b, b < s.heap.objs.size → FpOk X pins H b → FpOk X pins (upd H s.heap.objs.size (.tup [x, y])) b := fun b lb fb => ⟨by rw [upd_ne (Nat.ne_of_lt lb)]; exact fb.1, fb.2⟩
    have hfo : ∀ b ∈ [z, TI, TO, i1, i2], FpOk X pins (upd H s.heap.objs.size (.tup [x, y])) b := fun b hb => by
      refine fo b ?_ (hf b hb)
      simp only [List.mem_cons, List.not_mem_nil, or_false] at hb
      rcases hb with rfl | rfl | rfl | rfl | rfl <;> assumption
    have I2 := turnedN (h' := h2) (t' := s.toks) [z, TI, TO, i1, i2] I1 (fun b o nb eb => ?_) hfo
    · refine ⟨.ref s.heap.objs.size, _, I2, rfl, ⟨_, x, y, rfl, fresh, rfl, fun zs hz => by rw [I.list_inj hz hqx]; exact hx, fun zs hz => by rw [I.list_inj hz hqy]; exact hy⟩, ⟨b1, sb2.extBut _ _ D.TIz (hk1 _ _ D.TIz D.TITO D.TIi1 D.TIi2 s2), ⟨_, _, sb2.extBut _ _ D.TOz a2⟩, a3.extBut sb2.extBut D.i1z, a4.extBut sb2.extBut D.i2z⟩, fun b hb => (hfo b hb).1⟩
    · have n1 : b ≠ z := fun q => nb (by simp [q])
      have n2 : b ≠ TO := fun q => nb (by simp [q])
      have n3 : b ≠ i1 := fun q => nb (by simp [q])
      have n4 : b ≠ i2 := fun q => nb (by simp [q])
      rcases Heap.get?_push_cases eb with ⟨rfl, rfl⟩ | eb
      · exact sb2.extBut _ _ n1 a5
      · exact sb2.extBut _ _ n1 (hk1 b o n1 n2 n3 n4 eb)
  done := by
    intro X hP hw hK hc i pins s σ H E I hf st hg
    subst hP hw hK
    obtain ⟨s1, s2, ⟨u0, v0, s3⟩, s4, s5⟩ := st
    obtain ⟨xs, ys, hqx, hqy, hend⟩ := hg
    obtain ⟨itx, rvx, px, _⟩ := I.list hqx
    obtain ⟨ity, rvy, py, _⟩ := I.list hqy
    have lx := rvx.length
    have ly := rvy.length
    refine wpAny_pyNext_zip_end (I.ok.hd hc) D s1 s2 s3 s4 s5 px.isList py.isList ?_ fun h' hk => ⟨rfl, turnedN (t' := s.toks) [z, TI, TO, i1, i2] I (fun b o nb e => hk b o (fun q => nb (by simp [q])) (fun q => nb (by simp [q])) (fun q => nb (by simp [q])) (fun q => nb (by simp [q])) e) hf⟩
    rcases hend with h | h
    · exact .inl (by simp; (first | lia | omega))
    · exact .inr (by simp; (first | lia | omega))
  self := fun _ _ _ _ _ st h => wpAny_pyIter_zip st.1 h
noncomputable def iZip (K : PySem.W.Frag) (ta : TA) : TI := fun σ H R => ta σ H fun vs H1 => ∃ a b, vs = [.ref a, .ref b] ∧ (∃ xs, SqL K H1 a xs) ∧ (∃ ys, SqL K H1 b ys) ∧ R (Itz K a b) H1
theorem pi_zip {X : Cx} {es : List Expr} {k : Nat} {tp : Pos} {a b : Expr} {ta : TA} {p pos : Pos} (hg : Gl X "zip") (hm : X.mg "zip" = none) (ha : PA X [a, b] ta) (hs : starEach [a, b] X.env = [(false, eval a X.env), (false, eval b X.env)] := by rfl) (hs2 : starEach [b] X.env = [(false, eval b X.env)] := by rfl) :
    PI X (.Tuple es k tp) (.Call (.Name "zip" p) [a, b] [] pos) (iZip X.K ta) := by
  intro pins s σ H R I h
  refine Call_ (ld_blt I hg hm boot_zip (PyProof.Rows.callWith_type1 (thn (ha pos pins s σ H _ I h) fun us s1 ⟨vs, H1, I1, r1, q1⟩ => ?_) (by rw [hs, hs2]) (by rw [hs2]; rfl)))
  obtain ⟨l1, l2, rfl, ⟨xs, hqx⟩, ⟨ys, hqy⟩, q⟩ := q1
  cases r1 with
  | cons r rr =>
    cases rr with
    | cons r' rr =>
      cases rr
      cases r
      cases r'
      obtain ⟨itx, rvx, px, _⟩ := I1.list hqx
      obtain ⟨ity, rvy, py, _⟩ := I1.list hqy
      have a1 : l1 < s1.heap.objs.size := by obtain ⟨_, e, _⟩ := px.isList; exact Heap.lt_size e
      have a2 : l2 < s1.heap.objs.size := by obtain ⟨_, e, _⟩ := py.isList; exact Heap.lt_size e
      refine call_zip_2 px.isList py.isList fun h' hz hTI hTO hi1 hi2 hsz hk => wpAny_pyIter_zip hz ?_
      have I2 : Inv X pins σ H1 { s1 with heap := h' } := I1.kept (t' := s1.toks) hk
      refine ⟨s1.heap.objs.size + 4, [s1.heap.objs.size + 4, s1.heap.objs.size + 2, s1.heap.objs.size + 3, s1.heap.objs.size, s1.heap.objs.size + 1], _, _, H1, rfl, I2, turn_zip l1 l2 _ _ _ _ _ (zipApart_new a1 a2), ⟨hz, hTI, ⟨_, _, hTO⟩, hi1, hi2⟩, fun b hb => ?_, q⟩
      simp only [List.mem_cons, List.not_mem_nil, or_false] at hb
      rcases hb with rfl | rfl | rfl | rfl | rfl
      · exact I1.fpOk (Nat.le_add_right _ 4) (I1.hok.fresh (Nat.le_add_right _ 4))
      · exact I1.fpOk (Nat.le_add_right _ 2) (I1.hok.fresh (Nat.le_add_right _ 2))
      · exact I1.fpOk (Nat.le_add_right _ 3) (I1.hok.fresh (Nat.le_add_right _ 3))
      · exact I1.fpOk (Nat.le_refl _) (I1.hok.fresh (Nat.le_refl _))
      · exact I1.fpOk (Nat.le_add_right _ 1) (I1.hok.fresh (Nat.le_add_right _ 1))
theorem for_zip {K : PySem.W.Frag} {a b : Addr} {xs ys : List V} {g : TG} {tb : TS} {D : Ends} {σ : L2.St} {H : Hp} (n : Nat) (hn : n = min xs.length ys.length) (Pv : Nat → L2.St → Hp → Prop) (h0 : Pv 0 σ H) (hl : ∀ i σ H, i ≤ n → Pv i σ H → SqL K H a xs ∧ SqL K H b ys)
    (hs : ∀ i x y σ H T, xs[i]? = some x → ys[i]? = some y → Pv i σ H → H T = none → g (.ref T) σ (upd H T (.tup [x, y])) fun σ2 H2 => tb { D with nx := Pv (i + 1), ct := Pv (i + 1), bk := D.nx } σ2 H2) (hd : ∀ σ H, Pv n σ H → D.nx σ H) :
    ∃ W : Nat → Nat → L2.St → Hp → Prop, (∃ m, W 0 m σ H) ∧ ∀ i m σ H, W i m σ H →
      ((Itz K a b).stop i H ∧ D.nx σ H) ∨ ((Itz K a b).go i H ∧ ∃ N : L2.St → Hp → Prop, (∀ σ' H', N σ' H' → ∃ m', m' < m ∧ W (i + 1) m' σ' H') ∧ ∀ x H', (Itz K a b).yld i H x H' → g x σ H' fun σ2 H2 => tb { D with nx := N, ct := N, bk := D.nx } σ2 H2) := by
  refine ⟨fun i m σ H => m = n - i ∧ i ≤ n ∧ Pv i σ H, ⟨n, by simp, Nat.zero_le _, h0⟩, ?_⟩
  rintro i m σ H ⟨rfl, hi, p⟩
  obtain ⟨qx, qy⟩ := hl i σ H hi p
  by_cases hlt : i < n
  · have h1 : i < xs.length := by (first | lia | omega)
    have h2 : i < ys.length := by (first | lia | omega)
    refine .inr ⟨⟨xs, ys, _, _, qx, qy, List.getElem?_eq_getElem h1, List.getElem?_eq_getElem h2⟩, Pv (i + 1), fun σ' H' p' => ⟨n - (i + 1), by (first | lia | omega), rfl, hlt, p'⟩, ?_⟩
    rintro v H' ⟨T, x, y, rfl, hT, rfl, ex, ey⟩
    exact hs i x y σ H T (ex xs qx) (ey ys qy) p hT
  · have e : i = n := by (first | lia | omega)
    subst e
    exact .inl ⟨⟨xs, ys, qx, qy, by (first | lia | omega)⟩, hd σ H p⟩
end L3

namespace L3
open PySem PySem.W PySem.Calls PySem.Spec PyProof.Rows L2 Ra
theorem item_bt {ns : List Int} (h : (WData.list (ns.map WData.int)).layable = true) : ∀ n ∈ ns, Bt 1048576 n := fun n hn => by
  have x := layableW_item h (.int n) (List.mem_map.mpr ⟨n, hn, rfl⟩)
  have y : (WData.int n).weight ≤ 2 ^ 20 := (layableW_iff.mp x).2.2
  have z : Builtin.Int.intBits n ≤ 1048576 := y
  exact PySem.intBits_le_iff.mp z
theorem attach_callB {l : OpenLaw} {n : Nat} {q : Program} {loose : List Str} {XP : (Str → Option Value) → Heap → Prop} {YP : World → Heap → Prop} {d : DefRec} (hn : l.most = some n) (hdf : d.params.defaults = [])
    (call : ∀ (w : World) (s₀ s₁ : Shared) (mg mb : Str → Option Value) (fa : Addr) (o : Obj) (pm cd doc : Value) (a : Addr) (vs : List Value) (ns : List Int),
      Ground q loose [] XP w s₀ mg mb s₁.heap → YP w s₁.heap → s₁.heap.get? fa = some o → o.data = .func (docDef d.name d.params d.body d.scope pm cd doc) → s₁.heap.CodeRec cd d.name → mg d.name = some (.ref fa) →
      s₁.heap.get? a = some { cls := .type "list", data := .seq vs.toArray } → IntsAre vs ns → ns.length ≤ n → (∀ n ∈ ns, Bt 1048576 n) → s₁.gens = #[] →
      codeAny (model l.prog w) callerA (.call (.ref fa) ⟨[.ref a], []⟩) (fun r s' => r = .ok (.ret (.bool true)) ∧ OldK s₁.heap s'.heap ∧ s'.os = s₁.os ∧ AllBare s'.gens) s₁) :
    WalkO q loose XP YP l.row.toRowW d [] (fun f vs => PySem.call f vs) := by
  intro w s₀ s₁ mg mb G Y fa o pm cd doc dV kV ho hd hcd hD hmg hg args vals as hpre hlay hrd hwl hlo
  obtain rfl : dV = .none := Dflts.none hD hdf
  obtain rfl : kV = .none := Dflts.noKw hD
  obtain ⟨a, vs, ns, rfl, rfl, hobj, hints, hlen⟩ := Att.script_of hn hpre hwl
  have hb : ∀ n ∈ ns, Bt 1048576 n := item_bt (layW_cons hlay).1
  refine enter_call (codeAny_mono (call w s₀ s₁ mg mb fa o pm cd doc a vs ns G Y ho (fd_plain hd) hcd hmg hobj hints hlen hb hg) fun r s' hq => ?_)
  obtain ⟨rfl, h2, h3, h4⟩ := hq
  exact ⟨.inl ⟨.bool true, .bool true, [], rfl, fun _ => rfl, .bool true, Att.post_true l _, fun _ => ⟨List.Pairwise.nil, fun _ hm => (nomatch hm)⟩⟩, h2, h3, h4⟩
theorem walkB_of {l : PySem.W.OpenLaw} {n k : Nat} {q : Program} {loose : List Str} {XP : (Str → Option Value) → Heap → Prop} {YP : World → Heap → Prop} {d : DefRec} {K : Params → PySem.W.Frag} {CX : World → CXT} {sp : World → Sp} {x : Str}
    (hn : l.most = some n) (hn2 : n ≤ sizeLine) (hdf : d.params.defaults = []) (hr : Room k callerA)
    (hY : ∀ (w : World) (h : Heap), YP w h → (K w.params).In h)
    (F : ∀ (w : World) (mg : Str → Option Value) (fa : Addr) (h : Heap), (K w.params).In h → h.Ns mainGlobals mg → mg d.name = some (.ref fa) →
      ∃ fd : FuncData, (∀ (s : Shared) (u : Value), BindsTo s fd ⟨[u], []⟩ [(x, u)]) ∧
        ∀ base : Heap, (K w.params).In base → base.Ns mainGlobals mg → FnOk l.prog w (K w.params) mg base (CX w) k fa fd [x] (sp w))
    (hsp : ∀ (w : World) (H : Hp) (a : Addr) (ns : List Int), ns.length ≤ n → (∀ n ∈ ns, Bt 1048576 n) → SqL (K w.params) H a (ns.map V.int) → sp w [.ref a] H (fun v _ => v = .bl true) fun _ _ _ => False)
    (hCX : ∀ (w : World) (H : Hp) (s : Shared) (e : Value) (s' : Shared), CX w [] H s (fun _ _ _ => False) e s' → False) :
    PySem.W.WalkO q loose XP YP l.row.toRowW d [] (fun f vs => PySem.call f vs) := by
  refine attach_callB hn hdf fun w s₀ s₁ mg mb fa o pm cd doc a vs ns G Y ho hd hcd hmg hobj hints hlen hbt hg => ?_
  have KX := hY w _ Y
  obtain ⟨fd, hb, hF⟩ := F w mg fa _ KX G.T.g hmg
  exact law_call KX G.T.g G.T.b G.T.builtins G.T.nolimit hg hobj hints (Nat.le_trans hlen hn2) hr hF hb (fun H _ hS => hsp w H a ns hlen hbt hS) fun H e s' => hCX w H s₁ e s'
end L3

namespace L3
open PySem PySem.Spec PyProof.Rows L2 Ra
structure CalM (P : Program) (w : World) (K : PySem.W.Frag) (mg : Str → Option Value) (base : Heap) (C : Addr) (m : Str) (k : Nat) (ps : List Str) (sp : Sp) : Prop where
  ex : ∃ f fd, FnOk P w K mg base CX0 k f fd ps sp ∧ Binds K fd ps [] ∧ Meth K C m f ∧ Cls K C
structure CalC (P : Program) (w : World) (K : PySem.W.Frag) (mg : Str → Option Value) (base : Heap) (x : Str) (C : Addr) (k : Nat) (ps : List Str) (sp : Sp) : Prop where
  ex : ∃ f fd, FnOk P w K mg base CX0 k f fd ps sp ∧ Binds K fd ps [] ∧ Mk K C f ∧ mg x = some (.ref C)
section
variable {X : Cx} {C : Addr} {m x : Str} {k j : Nat} {ps : List Str} {sp : Sp} {o e : Expr} {es : List Expr} {ta : TE} {t : TA} {p apos pos : Pos} {pl : Sem Bool}
theorem pe_m0 (Cm : CalM X.prog X.w X.K X.mg X.base C m k ps sp) (hr : Room j X.A) (he : PE X o ta) (hkj : k ≤ j := by decide)
    (ht : eval (.Call (.Attribute o m apos) [] [] pos) X.env = (do
      let ov ← eval o X.env
      standAt apos.atName
      let (f, first) ← holding [ov] (getMethod ov m pl)
      callWith pos f first (backTo pos (starEach [] X.env)) (backToKw pos (keywordEach [] X.env))) := by rfl) :
    PE X (.Call (.Attribute o m apos) [] [] pos) (tMeth C m sp [] E0 ta tNil) := by
  obtain ⟨f, fd, F, b, hm, cl⟩ := Cm.ex
  exact pe_meth0 he cl hm F (hr.mono hkj) b .nil pass0 ht
theorem pe_mk (Cc : CalC X.prog X.w X.K X.mg X.base x C k ps sp) (hr : Room j X.A) (ha : PA X (e :: es) t) (hkj : k + 1 ≤ j := by decide) (hg : Gl X x := by rfl)
    (hdb : (x == ("__debug__" : Str)) = false := by decide) (he : starEach (e :: es) X.env = (false, eval e X.env) :: starEach es X.env := by rfl) (hpl : (backTo pos (starEach es X.env)).any (·.1) = false := by rfl) :
    PE X (.Call (.Name x p) (e :: es) [] pos) (tMake C sp [] E0 t) := by
  obtain ⟨f, fd, F, b, M, hm⟩ := Cc.ex
  exact pe_make M F (hr.mono hkj) hg hm b .nil pass0 ha hdb he hpl
end
end L3

namespace L3
open PySem PySem.Spec PyProof.Rows L2 Ra
theorem pe_globI {X : Cx} {x : Str} {n : Int} {pos : Pos} (hg : Gl X x) (hm : ∃ t, X.mg x = some (.int n t)) (hd : (x == ("__debug__" : Str)) = false := by decide) : PE X (.Name x pos) (tC (.int n)) := by
  obtain ⟨t, hm⟩ := hm
  exact pe_glob hg hm ⟨t, rfl⟩ hd
theorem call_all {X : Cx} (hc : X.calm = true) : CallR X (.builtin "all") (fun xs H Q => ∃ p bs, xs = [.ref p] ∧ SqL X.K H p (List.map V.bl bs) ∧ Q (.bl (bs.all id)) H) := by
  intro pins s σ H xs us Q I r h
  obtain ⟨p, bs, rfl, hq, q⟩ := h
  obtain ⟨u, rfl, rx⟩ := vals1 r
  cases rx
  obtain ⟨its, rv, pl, hz⟩ := I.list hq
  have hlen := rv.length
  rw [List.length_map] at hlen
  have lt : p < s.heap.objs.size := by
    obtain ⟨o, ho, _⟩ := pl.isList
    exact Heap.lt_size ho
  refine call_all_walk (wpAny_pyIter_list pl.isList ?_)
  refine ⟨s.heap.objs.size, _, _, _, _, _, (fun i => (bs[i]?).getD true), rfl, Walks.list (A := X.A.in1) (I.ok.hd hc) _ p (Nat.ne_of_lt lt) its.toArray, ?st, ?tr, fun h' tk hk => ?_⟩
  case st => exact ⟨⟨_, Heap.get?_push_size _ rfl, rfl, rfl⟩, pl.isList.at fun o e => Heap.get?_push_of_some _ e⟩
  case tr =>
    intro i v s1 Q1 E1 hv q1
    have hv' : its[i]? = some v := by simpa using hv
    have hi : i < bs.length := by
      have := (List.getElem?_eq_some_iff.mp hv').1
      (first | lia | omega)
    have eb : bs[i]? = some bs[i] := List.getElem?_eq_getElem hi
    obtain ⟨u, hu, ru⟩ := rv.get (i := i) (x := .bl bs[i]) (by rw [List.getElem?_map, eb]; rfl)
    rw [hv'] at hu
    cases hu
    cases ru
    have q2 : Q1 ((bs[i]?).getD true) s1 := q1
    rw [eb] at q2
    exact wpAny_truthy_bool q2
  · have e : (List.range its.toArray.size).all (fun i => (bs[i]?).getD true) = bs.all id := by
      rw [List.size_toArray, ← hlen, Bool.eq_iff_iff, List.all_eq_true, List.all_eq_true]
      constructor
      · intro hh b hb
        obtain ⟨i, hi, rfl⟩ := List.getElem_of_mem hb
        have := hh i (List.mem_range.mpr hi)
        rw [List.getElem?_eq_getElem hi] at this
        exact this
      · intro hh i hi
        have hi' := List.mem_range.mp hi
        rw [List.getElem?_eq_getElem hi']
        exact hh _ (List.getElem_mem hi')
    rw [e]
    refine ⟨.bl (bs.all id), H, ?_, rfl, q⟩
    exact I.kept (h' := h') (t' := tk) fun b o eb => hk b o (by
      simp
      exact Nat.ne_of_lt (Heap.lt_size eb)) (Heap.get?_push_of_some _ eb)
theorem comp_listB {K : PySem.W.Frag} {a : Addr} {xs : List V} {te : Shared → Hp → Addr → List Addr → TE} {js : List Nat} {σ : L2.St} {H1 : Hp} {Q : VK} (hn : xs.length ≤ 100000) (ha : H1 a = some (.lst xs)) (f : V → Bool)
    (hs : ∀ s₀ H₀ C ex x H (R : VK), x ∈ xs → Same H1 H → (∀ H2, Same H H2 → R (.bl (f x)) H2) → te s₀ H₀ C ex (some x :: js.map fun j => (σ[j]?).join) H R)
    (hd : ∀ H D, Same H1 H → H1 D = none → H D = some (.lst ((xs.map f).map V.bl)) → Q (.ref D) H) : CompAt (Itl K a) te js σ Q H1 := by
  intro D hD
  refine ⟨fun i m ys H => m = xs.length - i ∧ i ≤ xs.length ∧ ys = ((xs.take i).map f).map V.bl ∧ Same H1 H ∧ H D = some (.lst ys), ⟨xs.length, by simp, Nat.zero_le _, rfl, same_upd hD _, upd_same⟩, ?_⟩
  rintro i m ys H ⟨rfl, hi, rfl, sm, hDl⟩
  refine ⟨hDl, ?_⟩
  have hr := sm _ _ ha
  by_cases hlt : i < xs.length
  · have eq : xs[i]? = some xs[i] := List.getElem?_eq_getElem hlt
    refine .inr ⟨⟨_, _, SqL.of hr, eq⟩, fun x H' y s₀ H₀ C ex => ?_⟩
    obtain ⟨e, y⟩ := y
    subst e
    have ex' := y _ (SqL.of hr)
    rw [eq] at ex'
    cases ex'
    refine hs s₀ H₀ C ex _ H' _ (List.getElem_mem hlt) sm fun H2 s2 => ?_
    have h2 := s2 _ _ hDl
    have hz : (100000 : Nat) < sizeLine := by decide
    refine ⟨h2, by rw [List.length_map, List.length_map, List.length_take]; (first | lia | omega), xs.length - (i + 1), by (first | lia | omega), rfl, hlt, ?_, ?_, upd_same⟩
    · rw [List.take_succ, eq, List.map_append, List.map_append]; rfl
    · intro b o e
      rw [upd_ne (ne_of_none e hD)]
      exact s2 _ _ (sm _ _ e)
  · have e : i = xs.length := by (first | lia | omega)
    subst e
    rw [List.take_length] at hDl
    exact .inl ⟨⟨_, SqL.of hr, Nat.le_refl _⟩, hd H D sm hD hDl⟩
section
variable {X : Cx} {es xs : List Expr} {e e2 : Expr} {p p2 : Pos} {te te2 : TE} {t : TA} {k : Nat}
end
section
variable {X : Cx} {a b e : Expr} {pos pos' : Pos} {ta tb te : TE} {st : Stmt} {ss : List Stmt} {t u : TS}
end
end L3


namespace My
open PySem L2 L3 Ra Rq PyProof.Rows
theorem ze_1_2 {α0 : Type} {A0 A1 : α0 → Prop} (x0 : α0) (h0 : A0 x0) (h1 : A1 x0) : ∃ x0, A0 x0 ∧ A1 x0 := ⟨x0, h0, h1⟩
theorem ze_2_3 {α0 α1 : Type} {A0 A1 A2 : α0 → α1 → Prop} (x0 : α0) (x1 : α1) (h0 : A0 x0 x1) (h1 : A1 x0 x1) (h2 : A2 x0 x1) : ∃ x0 x1, A0 x0 x1 ∧ A1 x0 x1 ∧ A2 x0 x1 := ⟨x0, x1, h0, h1, h2⟩
theorem ze_2_4 {α0 α1 : Type} {A0 A1 A2 A3 : α0 → α1 → Prop} (x0 : α0) (x1 : α1) (h0 : A0 x0 x1) (h1 : A1 x0 x1) (h2 : A2 x0 x1) (h3 : A3 x0 x1) : ∃ x0 x1, A0 x0 x1 ∧ A1 x0 x1 ∧ A2 x0 x1 ∧ A3 x0 x1 := ⟨x0, x1, h0, h1, h2, h3⟩
theorem ze_2_5 {α0 α1 : Type} {A0 A1 A2 A3 A4 : α0 → α1 → Prop} (x0 : α0) (x1 : α1) (h0 : A0 x0 x1) (h1 : A1 x0 x1) (h2 : A2 x0 x1) (h3 : A3 x0 x1) (h4 : A4 x0 x1) : ∃ x0 x1, A0 x0 x1 ∧ A1 x0 x1 ∧ A2 x0 x1 ∧ A3 x0 x1 ∧ A4 x0 x1 := ⟨x0, x1, h0, h1, h2, h3, h4⟩
theorem ze_3_4 {α0 α1 α2 : Type} {A0 A1 A2 A3 : α0 → α1 → α2 → Prop} (x0 : α0) (x1 : α1) (x2 : α2) (h0 : A0 x0 x1 x2) (h1 : A1 x0 x1 x2) (h2 : A2 x0 x1 x2) (h3 : A3 x0 x1 x2) : ∃ x0 x1 x2, A0 x0 x1 x2 ∧ A1 x0 x1 x2 ∧ A2 x0 x1 x2 ∧ A3 x0 x1 x2 := ⟨x0, x1, x2, h0, h1, h2, h3⟩
theorem ze_3_5 {α0 α1 α2 : Type} {A0 A1 A2 A3 A4 : α0 → α1 → α2 → Prop} (x0 : α0) (x1 : α1) (x2 : α2) (h0 : A0 x0 x1 x2) (h1 : A1 x0 x1 x2) (h2 : A2 x0 x1 x2) (h3 : A3 x0 x1 x2) (h4 : A4 x0 x1 x2) : ∃ x0 x1 x2, A0 x0 x1 x2 ∧ A1 x0 x1 x2 ∧ A2 x0 x1 x2 ∧ A3 x0 x1 x2 ∧ A4 x0 x1 x2 := ⟨x0, x1, x2, h0, h1, h2, h3, h4⟩
theorem ze_3_6 {α0 α1 α2 : Type} {A0 A1 A2 A3 A4 A5 : α0 → α1 → α2 → Prop} (x0 : α0) (x1 : α1) (x2 : α2) (h0 : A0 x0 x1 x2) (h1 : A1 x0 x1 x2) (h2 : A2 x0 x1 x2) (h3 : A3 x0 x1 x2) (h4 : A4 x0 x1 x2) (h5 : A5 x0 x1 x2) : ∃ x0 x1 x2, A0 x0 x1 x2 ∧ A1 x0 x1 x2 ∧ A2 x0 x1 x2 ∧ A3 x0 x1 x2 ∧ A4 x0 x1 x2 ∧ A5 x0 x1 x2 := ⟨x0, x1, x2, h0, h1, h2, h3, h4, h5⟩
theorem ze_4_5 {α0 α1 α2 α3 : Type} {A0 A1 A2 A3 A4 : α0 → α1 → α2 → α3 → Prop} (x0 : α0) (x1 : α1) (x2 : α2) (x3 : α3) (h0 : A0 x0 x1 x2 x3) (h1 : A1 x0 x1 x2 x3) (h2 : A2 x0 x1 x2 x3) (h3 : A3 x0 x1 x2 x3) (h4 : A4 x0 x1 x2 x3) : ∃ x0 x1 x2 x3, A0 x0 x1 x2 x3 ∧ A1 x0 x1 x2 x3 ∧ A2 x0 x1 x2 x3 ∧ A3 x0 x1 x2 x3 ∧ A4 x0 x1 x2 x3 := ⟨x0, x1, x2, x3, h0, h1, h2, h3, h4⟩
theorem ze_4_6 {α0 α1 α2 α3 : Type} {A0 A1 A2 A3 A4 A5 : α0 → α1 → α2 → α3 → Prop} (x0 : α0) (x1 : α1) (x2 : α2) (x3 : α3) (h0 : A0 x0 x1 x2 x3) (h1 : A1 x0 x1 x2 x3) (h2 : A2 x0 x1 x2 x3) (h3 : A3 x0 x1 x2 x3) (h4 : A4 x0 x1 x2 x3) (h5 : A5 x0 x1 x2 x3) : ∃ x0 x1 x2 x3, A0 x0 x1 x2 x3 ∧ A1 x0 x1 x2 x3 ∧ A2 x0 x1 x2 x3 ∧ A3 x0 x1 x2 x3 ∧ A4 x0 x1 x2 x3 ∧ A5 x0 x1 x2 x3 := ⟨x0, x1, x2, x3, h0, h1, h2, h3, h4, h5⟩
theorem ze_4_7 {α0 α1 α2 α3 : Type} {A0 A1 A2 A3 A4 A5 A6 : α0 → α1 → α2 → α3 → Prop} (x0 : α0) (x1 : α1) (x2 : α2) (x3 : α3) (h0 : A0 x0 x1 x2 x3) (h1 : A1 x0 x1 x2 x3) (h2 : A2 x0 x1 x2 x3) (h3 : A3 x0 x1 x2 x3) (h4 : A4 x0 x1 x2 x3) (h5 : A5 x0 x1 x2 x3) (h6 : A6 x0 x1 x2 x3) : ∃ x0 x1 x2 x3, A0 x0 x1 x2 x3 ∧ A1 x0 x1 x2 x3 ∧ A2 x0 x1 x2 x3 ∧ A3 x0 x1 x2 x3 ∧ A4 x0 x1 x2 x3 ∧ A5 x0 x1 x2 x3 ∧ A6 x0 x1 x2 x3 := ⟨x0, x1, x2, x3, h0, h1, h2, h3, h4, h5, h6⟩
theorem ze_4_8 {α0 α1 α2 α3 : Type} {A0 A1 A2 A3 A4 A5 A6 A7 : α0 → α1 → α2 → α3 → Prop} (x0 : α0) (x1 : α1) (x2 : α2) (x3 : α3) (h0 : A0 x0 x1 x2 x3) (h1 : A1 x0 x1 x2 x3) (h2 : A2 x0 x1 x2 x3) (h3 : A3 x0 x1 x2 x3) (h4 : A4 x0 x1 x2 x3) (h5 : A5 x0 x1 x2 x3) (h6 : A6 x0 x1 x2 x3) (h7 : A7 x0 x1 x2 x3) : ∃ x0 x1 x2 x3, A0 x0 x1 x2 x3 ∧ A1 x0 x1 x2 x3 ∧ A2 x0 x1 x2 x3 ∧ A3 x0 x1 x2 x3 ∧ A4 x0 x1 x2 x3 ∧ A5 x0 x1 x2 x3 ∧ A6 x0 x1 x2 x3 ∧ A7 x0 x1 x2 x3 := ⟨x0, x1, x2, x3, h0, h1, h2, h3, h4, h5, h6, h7⟩
theorem ze_5_3 {α0 α1 α2 α3 α4 : Type} {A0 A1 A2 : α0 → α1 → α2 → α3 → α4 → Prop} (x0 : α0) (x1 : α1) (x2 : α2) (x3 : α3) (x4 : α4) (h0 : A0 x0 x1 x2 x3 x4) (h1 : A1 x0 x1 x2 x3 x4) (h2 : A2 x0 x1 x2 x3 x4) : ∃ x0 x1 x2 x3 x4, A0 x0 x1 x2 x3 x4 ∧ A1 x0 x1 x2 x3 x4 ∧ A2 x0 x1 x2 x3 x4 := ⟨x0, x1, x2, x3, x4, h0, h1, h2⟩
theorem ze_5_4 {α0 α1 α2 α3 α4 : Type} {A0 A1 A2 A3 : α0 → α1 → α2 → α3 → α4 → Prop} (x0 : α0) (x1 : α1) (x2 : α2) (x3 : α3) (x4 : α4) (h0 : A0 x0 x1 x2 x3 x4) (h1 : A1 x0 x1 x2 x3 x4) (h2 : A2 x0 x1 x2 x3 x4) (h3 : A3 x0 x1 x2 x3 x4) : ∃ x0 x1 x2 x3 x4, A0 x0 x1 x2 x3 x4 ∧ A1 x0 x1 x2 x3 x4 ∧ A2 x0 x1 x2 x3 x4 ∧ A3 x0 x1 x2 x3 x4 := ⟨x0, x1, x2, x3, x4, h0, h1, h2, h3⟩
theorem ze_6_6 {α0 α1 α2 α3 α4 α5 : Type} {A0 A1 A2 A3 A4 A5 : α0 → α1 → α2 → α3 → α4 → α5 → Prop} (x0 : α0) (x1 : α1) (x2 : α2) (x3 : α3) (x4 : α4) (x5 : α5) (h0 : A0 x0 x1 x2 x3 x4 x5) (h1 : A1 x0 x1 x2 x3 x4 x5) (h2 : A2 x0 x1 x2 x3 x4 x5) (h3 : A3 x0 x1 x2 x3 x4 x5) (h4 : A4 x0 x1 x2 x3 x4 x5) (h5 : A5 x0 x1 x2 x3 x4 x5) : ∃ x0 x1 x2 x3 x4 x5, A0 x0 x1 x2 x3 x4 x5 ∧ A1 x0 x1 x2 x3 x4 x5 ∧ A2 x0 x1 x2 x3 x4 x5 ∧ A3 x0 x1 x2 x3 x4 x5 ∧ A4 x0 x1 x2 x3 x4 x5 ∧ A5 x0 x1 x2 x3 x4 x5 := ⟨x0, x1, x2, x3, x4, x5, h0, h1, h2, h3, h4, h5⟩
theorem ze_6_10 {α0 α1 α2 α3 α4 α5 : Type} {A0 A1 A2 A3 A4 A5 A6 A7 A8 A9 : α0 → α1 → α2 → α3 → α4 → α5 → Prop} (x0 : α0) (x1 : α1) (x2 : α2) (x3 : α3) (x4 : α4) (x5 : α5) (h0 : A0 x0 x1 x2 x3 x4 x5) (h1 : A1 x0 x1 x2 x3 x4 x5) (h2 : A2 x0 x1 x2 x3 x4 x5) (h3 : A3 x0 x1 x2 x3 x4 x5) (h4 : A4 x0 x1 x2 x3 x4 x5) (h5 : A5 x0 x1 x2 x3 x4 x5) (h6 : A6 x0 x1 x2 x3 x4 x5) (h7 : A7 x0 x1 x2 x3 x4 x5) (h8 : A8 x0 x1 x2 x3 x4 x5) (h9 : A9 x0 x1 x2 x3 x4 x5) : ∃ x0 x1 x2 x3 x4 x5, A0 x0 x1 x2 x3 x4 x5 ∧ A1 x0 x1 x2 x3 x4 x5 ∧ A2 x0 x1 x2 x3 x4 x5 ∧ A3 x0 x1 x2 x3 x4 x5 ∧ A4 x0 x1 x2 x3 x4 x5 ∧ A5 x0 x1 x2 x3 x4 x5 ∧ A6 x0 x1 x2 x3 x4 x5 ∧ A7 x0 x1 x2 x3 x4 x5 ∧ A8 x0 x1 x2 x3 x4 x5 ∧ A9 x0 x1 x2 x3 x4 x5 := ⟨x0, x1, x2, x3, x4, x5, h0, h1, h2, h3, h4, h5, h6, h7, h8, h9⟩
theorem ze_6_12 {α0 α1 α2 α3 α4 α5 : Type} {A0 A1 A2 A3 A4 A5 A6 A7 A8 A9 A10 A11 : α0 → α1 → α2 → α3 → α4 → α5 → Prop} (x0 : α0) (x1 : α1) (x2 : α2) (x3 : α3) (x4 : α4) (x5 : α5) (h0 : A0 x0 x1 x2 x3 x4 x5) (h1 : A1 x0 x1 x2 x3 x4 x5) (h2 : A2 x0 x1 x2 x3 x4 x5) (h3 : A3 x0 x1 x2 x3 x4 x5) (h4 : A4 x0 x1 x2 x3 x4 x5) (h5 : A5 x0 x1 x2 x3 x4 x5) (h6 : A6 x0 x1 x2 x3 x4 x5) (h7 : A7 x0 x1 x2 x3 x4 x5) (h8 : A8 x0 x1 x2 x3 x4 x5) (h9 : A9 x0 x1 x2 x3 x4 x5) (h10 : A10 x0 x1 x2 x3 x4 x5) (h11 : A11 x0 x1 x2 x3 x4 x5) : ∃ x0 x1 x2 x3 x4 x5, A0 x0 x1 x2 x3 x4 x5 ∧ A1 x0 x1 x2 x3 x4 x5 ∧ A2 x0 x1 x2 x3 x4 x5 ∧ A3 x0 x1 x2 x3 x4 x5 ∧ A4 x0 x1 x2 x3 x4 x5 ∧ A5 x0 x1 x2 x3 x4 x5 ∧ A6 x0 x1 x2 x3 x4 x5 ∧ A7 x0 x1 x2 x3 x4 x5 ∧ A8 x0 x1 x2 x3 x4 x5 ∧ A9 x0 x1 x2 x3 x4 x5 ∧ A10 x0 x1 x2 x3 x4 x5 ∧ A11 x0 x1 x2 x3 x4 x5 := ⟨x0, x1, x2, x3, x4, x5, h0, h1, h2, h3, h4, h5, h6, h7, h8, h9, h10, h11⟩
theorem ze_8_12 {α0 α1 α2 α3 α4 α5 α6 α7 : Type} {A0 A1 A2 A3 A4 A5 A6 A7 A8 A9 A10 A11 : α0 → α1 → α2 → α3 → α4 → α5 → α6 → α7 → Prop} (x0 : α0) (x1 : α1) (x2 : α2) (x3 : α3) (x4 : α4) (x5 : α5) (x6 : α6) (x7 : α7) (h0 : A0 x0 x1 x2 x3 x4 x5 x6 x7) (h1 : A1 x0 x1 x2 x3 x4 x5 x6 x7) (h2 : A2 x0 x1 x2 x3 x4 x5 x6 x7) (h3 : A3 x0 x1 x2 x3 x4 x5 x6 x7) (h4 : A4 x0 x1 x2 x3 x4 x5 x6 x7) (h5 : A5 x0 x1 x2 x3 x4 x5 x6 x7) (h6 : A6 x0 x1 x2 x3 x4 x5 x6 x7) (h7 : A7 x0 x1 x2 x3 x4 x5 x6 x7) (h8 : A8 x0 x1 x2 x3 x4 x5 x6 x7) (h9 : A9 x0 x1 x2 x3 x4 x5 x6 x7) (h10 : A10 x0 x1 x2 x3 x4 x5 x6 x7) (h11 : A11 x0 x1 x2 x3 x4 x5 x6 x7) : ∃ x0 x1 x2 x3 x4 x5 x6 x7, A0 x0 x1 x2 x3 x4 x5 x6 x7 ∧ A1 x0 x1 x2 x3 x4 x5 x6 x7 ∧ A2 x0 x1 x2 x3 x4 x5 x6 x7 ∧ A3 x0 x1 x2 x3 x4 x5 x6 x7 ∧ A4 x0 x1 x2 x3 x4 x5 x6 x7 ∧ A5 x0 x1 x2 x3 x4 x5 x6 x7 ∧ A6 x0 x1 x2 x3 x4 x5 x6 x7 ∧ A7 x0 x1 x2 x3 x4 x5 x6 x7 ∧ A8 x0 x1 x2 x3 x4 x5 x6 x7 ∧ A9 x0 x1 x2 x3 x4 x5 x6 x7 ∧ A10 x0 x1 x2 x3 x4 x5 x6 x7 ∧ A11 x0 x1 x2 x3 x4 x5 x6 x7 := ⟨x0, x1, x2, x3, x4, x5, x6, x7, h0, h1, h2, h3, h4, h5, h6, h7, h8, h9, h10, h11⟩
theorem la1 {us : List Value} (h : us.length = 1) : ∃ a, us = [a] := match us, h with | [a], _ => ⟨a, rfl⟩
theorem la2 {us : List Value} (h : us.length = 2) : ∃ a b, us = [a, b] := match us, h with | [a, b], _ => ⟨a, b, rfl⟩
theorem la3 {us : List Value} (h : us.length = 3) : ∃ a b c, us = [a, b, c] := match us, h with | [a, b, c], _ => ⟨a, b, c, rfl⟩
theorem la5 {us : List Value} (h : us.length = 5) : ∃ a b c d e, us = [a, b, c, d, e] := match us, h with | [a, b, c, d, e], _ => ⟨a, b, c, d, e, rfl⟩
theorem bt2 {n : Nat} {x : Int} (h : x.natAbs < 2 ^ n) : Bt n x := h
local macro_rules | `(tactic| walk_at "s") => `(tactic| first
  | refine ⟨_, rfl, ?_⟩
  | refine ⟨_, _, rfl, rfl, ?_⟩
  | refine ⟨_, _, rfl, ?_⟩
  | refine ⟨rfl, ?_⟩
  | refine ⟨_, _, _, _, rfl, rfl, Pr.sq (by assumption), rfl, ?_⟩
  | refine ⟨_, _, _, _, rfl, TyOf.int _, kit_int_int _, ?_⟩
  | refine ⟨_, _, _, _, rfl, TyOf.int _, kit_int_bool _, ?_⟩
  | refine ⟨_, _, _, _, rfl, TyOf.tup (by assumption), kit_tup_tup _, ?_⟩
  | refine ⟨_, _, rfl, .inr (Pr.sq (by assumption)), ?_⟩
  | refine iteF ?_
  | refine iteT ?_
  | refine ⟨(by show (0 : Int) < _; decide), ?_⟩
  | refine ⟨⟨(by decide), bt2 (by decide +kernel)⟩, ?_⟩
  | refine ⟨(⟨(by decide), (by decide), (by decide)⟩ : CPow _ _), ?_⟩)
local macro_rules | `(tactic| walk_at "r") => `(tactic| repeat walk_at "s")

structure Txt (mg : Str → Option Value) : Prop where
  z_abs : mg "abs" = none
  z_len : mg "len" = none
  z_isinstance : mg "isinstance" = none
  z_int : mg "int" = none
  z_bool : mg "bool" = none
  z_tuple : mg "tuple" = none
  z_range : mg "range" = none
  z_list : mg "list" = none
  z_min : mg "min" = none
  z_max : mg "max" = none
  z_all : mg "all" = none
  z_reversed : mg "reversed" = none
  z_zip : mg "zip" = none
  z_enumerate : mg "enumerate" = none
  c_MOST_BEADS : ∃ t, mg "MOST_BEADS" = some (.int 12 t)

structure OwnCord (K : PySem.W.Frag) (mg : Str → Option Value) (C : Addr) : Prop where
  m : mg "Cord" = some (.ref C)
  cl : Cls K C
  c1 : PySem.W.findIn K (.ref C) "__class__" = some (some (.builtin "object.__class__"))
  c2 : PySem.W.specialIn K (.builtin "object.__class__") "__get__" = some (some (.builtin "getset_descriptor.__get__"))
  c3 : PySem.W.takesIn K (.builtin "object.__class__") = some true
  c4 : PySem.W.mroIn K C (.type "object") = some true
  self : PySem.W.kitOne K (.ref C) (.ref C) = some true
  n_kept_gaps : NoAttr K C "kept_gaps"
  n_kept_weights : NoAttr K C "kept_weights"
noncomputable def top (i : Nat) : Stmt := PySem.Challenge.pw_tautcord_k26_squares.main.body.getD i (.Pass ⟨0, 0, 0, 0⟩)
noncomputable abbrev s_is_whole : Stmt := top 5
noncomputable abbrev s_divisor : Stmt := top 6
noncomputable abbrev s_is_fraction : Stmt := top 8
noncomputable abbrev s_plus : Stmt := top 9
noncomputable abbrev s_minus : Stmt := top 10
noncomputable abbrev s_times : Stmt := top 11
noncomputable abbrev s_side : Stmt := top 12
noncomputable abbrev s_poly : Stmt := top 14
noncomputable abbrev s_figure_at : Stmt := top 15
noncomputable abbrev s_poly_plus : Stmt := top 16
noncomputable abbrev s_poly_minus : Stmt := top 17
noncomputable abbrev s_poly_times : Stmt := top 18
noncomputable abbrev s_scaled : Stmt := top 19
noncomputable abbrev s_slope : Stmt := top 20
noncomputable abbrev s_held : Stmt := top 22
noncomputable abbrev s_loose : Stmt := top 23
noncomputable abbrev s_squares : Stmt := top 24
noncomputable abbrev s_ends : Stmt := top 25
noncomputable abbrev s_times_number : Stmt := top 26
noncomputable abbrev s_is_row_above : Stmt := top 29
noncomputable abbrev s_Cord_init : Stmt := inClass (top 30) 0
noncomputable abbrev s_Cord_gaps : Stmt := inClass (top 30) 1
noncomputable abbrev s_Cord_weights : Stmt := inClass (top 30) 2
noncomputable abbrev s_law_cell_at : Stmt := top 32
noncomputable abbrev s_law_whole : Stmt := top 33
noncomputable abbrev s_law_divisor : Stmt := top 34
noncomputable abbrev s_law_low : Stmt := top 35
noncomputable abbrev s_law_numbers : Stmt := top 36
noncomputable abbrev s_law_above_by : Stmt := top 37
noncomputable abbrev s_law_cord_by : Stmt := top 38
noncomputable abbrev s_law_walk : Stmt := top 39
noncomputable abbrev s_law_at_by : Stmt := top 40
noncomputable abbrev s_law_worth : Stmt := top 41
noncomputable abbrev s_law_is : Stmt := top 42
noncomputable abbrev s_law_is_poly : Stmt := top 43
noncomputable abbrev s_law_squares_at : Stmt := top 44
noncomputable abbrev s_law_slope : Stmt := top 45
noncomputable abbrev s_law_crossed : Stmt := top 46
noncomputable abbrev s_law_by_slopes : Stmt := top 47
noncomputable abbrev s_law : Stmt := top 48
noncomputable def sp_div : Sp := fun vs H Q _ => ∃ a b, vs = [.int a, .int b] ∧ Q (.int (g a b)) H
noncomputable def sp_whole : Sp := fun vs H Q _ => ∃ i, vs = [.int i] ∧ Q (.bl true) H
noncomputable def sp_plus : Sp := fun vs H Q _ => ∃ p q a b c d, vs = [.ref p, .ref q] ∧ Pr H p a b ∧ Pr H q c d ∧ 0 < b ∧ 0 < d ∧ Bt 8000 a ∧ Bt 8000 b ∧ Bt 8000 c ∧ Bt 8000 d ∧ ∀ r H', Same H H' → Pr H' r (plsN a b c d) (plsD a b c d) → Q (.ref r) H'
noncomputable def sp_minus : Sp := fun vs H Q _ => ∃ p q a b c d, vs = [.ref p, .ref q] ∧ Pr H p a b ∧ Pr H q c d ∧ 0 < b ∧ 0 < d ∧ Bt 8000 a ∧ Bt 8000 b ∧ Bt 8000 c ∧ Bt 8000 d ∧ ∀ r H', Same H H' → Pr H' r (plsN a b (-c) d) (plsD a b (-c) d) → Q (.ref r) H'
noncomputable def sp_times : Sp := fun vs H Q _ => ∃ p q a b c d, vs = [.ref p, .ref q] ∧ Pr H p a b ∧ Pr H q c d ∧ 0 < b ∧ 0 < d ∧ Bt 8000 a ∧ Bt 8000 b ∧ Bt 8000 c ∧ Bt 8000 d ∧ ∀ r H', Same H H' → Pr H' r (tmsN a b c d) (tmsD a b c d) → Q (.ref r) H'
theorem g_bt {n : Nat} {t b : Int} (h : 0 < b) (k : Bt n b) : Bt n (g t b) := by
  refine k.of_le ?_
  have h1 : g t b ≤ b := Int.le_of_dvd h (g_dvd_right t b)
  have h2 := g_nonneg t b
  (first | lia | omega)
section
variable {P : Program} {w : World} {K : PySem.W.Frag} {mg : Str → Option Value} {base : Heap} {f : Addr} {fd : FuncData}
theorem sc_divisor : FnScope ["one", "other", "first", "second", "rest"] ["one", "other"] (defScope s_divisor) := ⟨rfl, rfl, rfl, by decide +kernel, rfl, by decide +kernel, by decide +kernel⟩
theorem ok_divisor (F : Fun K "divisor" "divisor" s_divisor f fd) (T : Txt mg) : FnOk P w K mg base CX0 1 f fd ["one", "other"] sp_div := by
  refine F.ok sc_divisor (fun vs H Q E h => ?_) (fun cdv A outer s H vs Q E hr h => ?_)
  · obtain ⟨a, b, rfl, _⟩ := h
    rfl
  obtain ⟨a, b, rfl, q⟩ := h
  refine ⟨_, (pss_cons (ps_set (i := 2) sc_divisor.nd rfl (Or.inl rfl) (pe_callB call_abs rfl T.z_abs boot_abs (pa_cons (pv 0) pa_nil)))
      (pss_cons (ps_set (i := 3) sc_divisor.nd rfl (Or.inl rfl) (pe_callB call_abs rfl T.z_abs boot_abs (pa_cons (pv 1) pa_nil)))
      (pss_cons (ps_while PassesOwn.never (pt_cmpR op_gt (pv 3) pe_int (nomark _))
        (pss_cons (ps_set (i := 4) sc_divisor.nd rfl (Or.inl rfl) (pe_op op_mod (pv 2) (pv 3)))
        (pss_cons (ps_set (i := 2) sc_divisor.nd rfl (Or.inl rfl) (pv 3))
        (pss_one (ps_set (i := 3) sc_divisor.nd rfl (Or.inl rfl) (pv 4))))))
      (pss_one (ps_ret (pv 2)))))), ?_⟩
  refine ze_1_2 _ rfl (ze_1_2 _ rfl (ze_1_2 _ rfl (ze_1_2 _ rfl ?_)))
  refine ⟨fun m σ H' => ∃ x y r, σ = [some (.int a), some (.int b), some (.int x), some (.int y), r] ∧ H = H' ∧ 0 ≤ x ∧ 0 ≤ y ∧ g x y = g a b ∧ m = y.toNat, ze_4_5 _ _ _ _ rfl rfl ?_ ?_ ⟨g_abs a b, rfl⟩, ?_⟩
  · split <;> (first | lia | omega)
  · split <;> (first | lia | omega)
  rintro m σ _ ⟨x, y, r, rfl, rfl, hx, hy, e, rfl⟩
  refine ze_1_2 _ rfl (ze_2_3 _ _ rfl rfl (ze_1_2 _ rfl ?_))
  refine ite2 (fun c => ⟨fun σ' H' => ∃ m', m' < y.toNat ∧ ∃ x y r, σ' = [some (.int a), some (.int b), some (.int x), some (.int y), r] ∧ H = H' ∧ 0 ≤ x ∧ 0 ≤ y ∧ g x y = g a b ∧ m' = y.toNat, fun _ _ h => h, ?_⟩) (fun c => ?_)
  · have c' : (0 : Int) < y := of_decide_eq_true c
    refine ze_1_2 _ rfl (ze_1_2 _ rfl (ze_2_3 _ _ rfl rfl ⟨c', ze_1_2 _ rfl (ze_1_2 _ rfl ?_)⟩))
    have h1 := Int.emod_nonneg x (show y ≠ 0 by (first | lia | omega))
    have h2 := Int.emod_lt_of_pos x c'
    exact ⟨_, by (first | lia | omega), y, x % y, ze_1_2 _ rfl ⟨rfl, hy, h1, by rw [g_step hx c', e], rfl⟩⟩
  · have c' : ¬ (0 : Int) < y := of_decide_eq_false (Bool.eq_false_iff.mpr c)
    have y0 : y = 0 := by (first | lia | omega)
    refine ze_1_2 _ rfl ?_
    rw [← e, y0, g_end hx] at q
    exact q
theorem sc_law_whole : FnScope ["_law_found"] ["_law_found"] (defScope s_law_whole) := ⟨rfl, rfl, rfl, by decide +kernel, rfl, by decide +kernel, by decide +kernel⟩
theorem ok_law_whole (F : Fun K "_law_whole" "_law_whole" s_law_whole f fd) (T : Txt mg) : FnOk P w K mg base CX0 1 f fd ["_law_found"] sp_whole := by
  refine F.ok sc_law_whole (fun vs H Q E h => ?_) (fun cdv A outer s H vs Q E hr h => ?_)
  · obtain ⟨i, rfl, _⟩ := h
    rfl
  obtain ⟨i, rfl, q⟩ := h
  refine ⟨_, (pss_one (ps_ret (pe_and (pe_callB call_isi rfl T.z_isinstance boot_isinstance (pa_cons (pv 0) (pa_cons (pe_bltn (v := .ty "int") rfl T.z_int boot_int rfl) pa_nil))) (pe_one (pe_not (pe_callB call_isi rfl T.z_isinstance boot_isinstance (pa_cons (pv 0) (pa_cons (pe_bltn (v := .ty "bool") rfl T.z_bool boot_bool rfl) pa_nil)))))))), ?_⟩
  refine ze_1_2 _ rfl ⟨_, _, _, ze_1_2 _ rfl ⟨TyOf.int _, kit_int_int _, ze_1_2 _ rfl (iteT ?_)⟩⟩
  exact ze_1_2 _ rfl ⟨_, _, _, ze_1_2 _ rfl ⟨TyOf.int _, kit_int_bool _, ze_1_2 _ rfl q⟩⟩
theorem sc_plus : FnScope ["one", "other", "shared", "top", "left"] ["one", "other"] (defScope s_plus) := ⟨rfl, rfl, rfl, by decide +kernel, rfl, by decide +kernel, by decide +kernel⟩
theorem ok_plus (F : Fun K "plus" "plus" s_plus f fd) (T : Txt mg) (C_divisor : Cal P w K mg base "divisor" 1 ["one", "other"] sp_div) : FnOk P w K mg base CX0 2 f fd ["one", "other"] sp_plus := by
  refine F.ok sc_plus (fun vs H Q E h => ?_) (fun cdv A outer s H vs Q E hr h => ?_)
  · obtain ⟨p, q, a, b, c, d, rfl, _⟩ := h
    rfl
  obtain ⟨p, q, a, b, c, d, rfl, hp, hq, hb, hd, ba, bb, bc, bd, k⟩ := h
  have c1 : 0 < g b d ∧ Bt 9000 (g b d) := ⟨g_pos (by (first | lia | omega)), (g_bt hd bd).mono (by decide)⟩
  have c2 : 0 < g (plsT a b c d) (g b d) ∧ Bt 9000 (g (plsT a b c d) (g b d)) := ⟨g_pos (by (first | lia | omega)), g_bt c1.1 c1.2⟩
  have m1 : IntMulOk a (d / g b d) := mul_of ba bd.ediv (by decide)
  have m2 : IntMulOk c (b / g b d) := mul_of bc bb.ediv (by decide)
  have m3 : IntMulOk (b / g b d) (d / g (plsT a b c d) (g b d)) := mul_of bb.ediv bd.ediv (by decide)
  refine ⟨_, (pss_cons (ps_set (i := 2) sc_plus.nd rfl (Or.inl rfl) (pe_cl C_divisor hr (pa_cons (pe_ix ix_tup (pv 0) pe_int (fun _ _ => rfl)) (pa_cons (pe_ix ix_tup (pv 1) pe_int (fun _ _ => rfl)) pa_nil))))
      (pss_cons (ps_set (i := 3) sc_plus.nd rfl (Or.inl rfl) (pe_op op_add (pe_op op_mulB (pe_ix ix_tup (pv 0) pe_int (fun _ _ => rfl)) (pe_op op_fdP (pe_ix ix_tup (pv 1) pe_int (fun _ _ => rfl)) (pv 2))) (pe_op op_mulB (pe_ix ix_tup (pv 1) pe_int (fun _ _ => rfl)) (pe_op op_fdP (pe_ix ix_tup (pv 0) pe_int (fun _ _ => rfl)) (pv 2)))))
      (pss_cons (ps_set (i := 4) sc_plus.nd rfl (Or.inl rfl) (pe_cl C_divisor hr (pa_cons (pv 3) (pa_cons (pv 2) pa_nil))))
      (pss_one (ps_ret (pe_tup (pa_cons (pe_op op_fdP (pv 3) (pv 4)) (pa_cons (pe_op op_mulB (pe_op op_fdP (pe_ix ix_tup (pv 0) pe_int (fun _ _ => rfl)) (pv 2)) (pe_op op_fdP (pe_ix ix_tup (pv 1) pe_int (fun _ _ => rfl)) (pv 4))) pa_nil)))))))), ?_⟩
  refine ze_1_2 _ rfl (ze_4_5 _ _ _ _ rfl rfl hp.sq rfl (ze_1_2 _ rfl (ze_4_5 _ _ _ _ rfl rfl hq.sq rfl ⟨_, ze_1_2 _ rfl ?_⟩)))
  refine ze_1_2 _ rfl (ze_4_5 _ _ _ _ rfl rfl hp.sq rfl (ze_1_2 _ rfl (ze_4_5 _ _ _ _ rfl rfl hq.sq rfl (ze_1_2 _ rfl (ze_2_3 _ _ rfl rfl ⟨c1, ze_2_3 _ _ rfl rfl ⟨m1, ze_1_2 _ rfl (ze_4_5 _ _ _ _ rfl rfl hq.sq rfl (ze_1_2 _ rfl (ze_4_5 _ _ _ _ rfl rfl hp.sq rfl (ze_1_2 _ rfl (ze_2_3 _ _ rfl rfl ⟨c1, ze_2_3 _ _ rfl rfl ⟨m2, ze_2_3 _ _ rfl rfl ?_⟩⟩)))))⟩⟩)))))
  refine ze_1_2 _ rfl (ze_1_2 _ rfl ⟨_, ze_1_2 _ rfl ?_⟩)
  exact ze_1_2 _ rfl (ze_1_2 _ rfl (ze_2_3 _ _ rfl rfl ⟨c2, ze_1_2 _ rfl (ze_4_5 _ _ _ _ rfl rfl hp.sq rfl (ze_1_2 _ rfl (ze_2_3 _ _ rfl rfl ⟨c1, ze_1_2 _ rfl (ze_4_5 _ _ _ _ rfl rfl hq.sq rfl (ze_1_2 _ rfl (ze_2_3 _ _ rfl rfl ⟨c2, ze_2_3 _ _ rfl rfl ⟨m3, (by show 2 ≤ sizeLine; decide), fun r h => k r _ (same_upd h _) Pr.new⟩⟩)))⟩)))⟩))
theorem sc_minus : FnScope ["one", "other"] ["one", "other"] (defScope s_minus) := ⟨rfl, rfl, rfl, by decide +kernel, rfl, by decide +kernel, by decide +kernel⟩
theorem ok_minus (F : Fun K "minus" "minus" s_minus f fd) (T : Txt mg) (C_plus : Cal P w K mg base "plus" 2 ["one", "other"] sp_plus) : FnOk P w K mg base CX0 3 f fd ["one", "other"] sp_minus := by
  refine F.ok sc_minus (fun vs H Q E h => ?_) (fun cdv A outer s H vs Q E hr h => ?_)
  · obtain ⟨p, q, a, b, c, d, rfl, _⟩ := h
    rfl
  obtain ⟨p, q, a, b, c, d, rfl, hp, hq, hb, hd, ba, bb, bc, bd, k⟩ := h
  refine ⟨_, (pss_one (ps_ret (pe_cl C_plus hr (pa_cons (pv 0) (pa_cons (pe_tup (pa_cons (pe_un un_neg (pe_ix ix_tup (pv 1) pe_int (fun _ _ => rfl))) (pa_cons (pe_ix ix_tup (pv 1) pe_int (fun _ _ => rfl)) pa_nil))) pa_nil))))), ?_⟩
  refine ze_1_2 _ rfl (ze_1_2 _ rfl (ze_4_5 _ _ _ _ rfl rfl hq.sq rfl (ze_1_2 _ rfl (ze_1_2 _ rfl (ze_4_5 _ _ _ _ rfl rfl hq.sq rfl ⟨(by show 2 ≤ sizeLine; decide), fun r h => ?_⟩)))))
  exact ⟨_, _, _, _, _, ze_1_2 _ rfl ⟨hp.keep (same_upd h _), Pr.new, hb, hd, ba, bb, bc.neg, bd, fun r' H' s' h' => k r' H' ((same_upd h _).trans s') h'⟩⟩
theorem sc_times : FnScope ["one", "other", "first", "second"] ["one", "other"] (defScope s_times) := ⟨rfl, rfl, rfl, by decide +kernel, rfl, by decide +kernel, by decide +kernel⟩
theorem ok_times (F : Fun K "times" "times" s_times f fd) (T : Txt mg) (C_divisor : Cal P w K mg base "divisor" 1 ["one", "other"] sp_div) : FnOk P w K mg base CX0 2 f fd ["one", "other"] sp_times := by
  refine F.ok sc_times (fun vs H Q E h => ?_) (fun cdv A outer s H vs Q E hr h => ?_)
  · obtain ⟨p, q, a, b, c, d, rfl, _⟩ := h
    rfl
  obtain ⟨p, q, a, b, c, d, rfl, hp, hq, hb, hd, ba, bb, bc, bd, k⟩ := h
  have c1 : 0 < g a d ∧ Bt 9000 (g a d) := ⟨g_pos (by (first | lia | omega)), (g_bt hd bd).mono (by decide)⟩
  have c2 : 0 < g c b ∧ Bt 9000 (g c b) := ⟨g_pos (by (first | lia | omega)), (g_bt hb bb).mono (by decide)⟩
  have m1 : IntMulOk (a / g a d) (c / g c b) := mul_of ba.ediv bc.ediv (by decide)
  have m2 : IntMulOk (b / g c b) (d / g a d) := mul_of bb.ediv bd.ediv (by decide)
  refine ⟨_, (pss_cons (ps_set (i := 2) sc_times.nd rfl (Or.inl rfl) (pe_cl C_divisor hr (pa_cons (pe_ix ix_tup (pv 0) pe_int (fun _ _ => rfl)) (pa_cons (pe_ix ix_tup (pv 1) pe_int (fun _ _ => rfl)) pa_nil))))
      (pss_cons (ps_set (i := 3) sc_times.nd rfl (Or.inl rfl) (pe_cl C_divisor hr (pa_cons (pe_ix ix_tup (pv 1) pe_int (fun _ _ => rfl)) (pa_cons (pe_ix ix_tup (pv 0) pe_int (fun _ _ => rfl)) pa_nil))))
      (pss_one (ps_ret (pe_tup (pa_cons (pe_op op_mulB (pe_op op_fdP (pe_ix ix_tup (pv 0) pe_int (fun _ _ => rfl)) (pv 2)) (pe_op op_fdP (pe_ix ix_tup (pv 1) pe_int (fun _ _ => rfl)) (pv 3))) (pa_cons (pe_op op_mulB (pe_op op_fdP (pe_ix ix_tup (pv 0) pe_int (fun _ _ => rfl)) (pv 3)) (pe_op op_fdP (pe_ix ix_tup (pv 1) pe_int (fun _ _ => rfl)) (pv 2))) pa_nil))))))), ?_⟩
  refine ze_1_2 _ rfl (ze_4_5 _ _ _ _ rfl rfl hp.sq rfl (ze_1_2 _ rfl (ze_4_5 _ _ _ _ rfl rfl hq.sq rfl ⟨_, ze_1_2 _ rfl ?_⟩)))
  refine ze_1_2 _ rfl (ze_4_5 _ _ _ _ rfl rfl hq.sq rfl (ze_1_2 _ rfl (ze_4_5 _ _ _ _ rfl rfl hp.sq rfl ⟨_, ze_1_2 _ rfl ?_⟩)))
  exact ze_1_2 _ rfl (ze_4_5 _ _ _ _ rfl rfl hp.sq rfl (ze_1_2 _ rfl (ze_2_3 _ _ rfl rfl ⟨c1, ze_1_2 _ rfl (ze_4_5 _ _ _ _ rfl rfl hq.sq rfl (ze_1_2 _ rfl (ze_2_3 _ _ rfl rfl ⟨c2, ze_2_3 _ _ rfl rfl ⟨m1, ze_1_2 _ rfl (ze_4_5 _ _ _ _ rfl rfl hp.sq rfl (ze_1_2 _ rfl (ze_2_3 _ _ rfl rfl ⟨c2, ze_1_2 _ rfl (ze_4_5 _ _ _ _ rfl rfl hq.sq rfl (ze_1_2 _ rfl (ze_2_3 _ _ rfl rfl ⟨c1, ze_2_3 _ _ rfl rfl ⟨m2, (by show 2 ≤ sizeLine; decide), fun r h => k r _ (same_upd h _) Pr.new⟩⟩)))⟩)))⟩⟩)))⟩)))

noncomputable def sp_side : Sp := fun vs H Q _ => ∃ p a b, vs = [.ref p] ∧ Pr H p a b ∧ Q (.int (sgn a)) H
theorem sc_is_whole : FnScope ["thing"] ["thing"] (defScope s_is_whole) := ⟨rfl, rfl, rfl, by decide +kernel, rfl, by decide +kernel, by decide +kernel⟩
theorem ok_is_whole (F : Fun K "is_whole" "is_whole" s_is_whole f fd) (T : Txt mg) : FnOk P w K mg base CX0 1 f fd ["thing"] sp_whole := by
  refine F.ok sc_is_whole (fun vs H Q E h => ?_) (fun cdv A outer s H vs Q E hr h => ?_)
  · obtain ⟨i, rfl, _⟩ := h
    rfl
  obtain ⟨i, rfl, q⟩ := h
  refine ⟨_, (pss_one (ps_ret (pe_and (pe_callB call_isi rfl T.z_isinstance boot_isinstance (pa_cons (pv 0) (pa_cons (pe_bltn (v := .ty "int") rfl T.z_int boot_int rfl) pa_nil))) (pe_one (pe_not (pe_callB call_isi rfl T.z_isinstance boot_isinstance (pa_cons (pv 0) (pa_cons (pe_bltn (v := .ty "bool") rfl T.z_bool boot_bool rfl) pa_nil)))))))), ?_⟩
  refine ze_1_2 _ rfl ⟨_, _, _, ze_1_2 _ rfl ⟨TyOf.int _, kit_int_int _, ze_1_2 _ rfl (iteT ?_)⟩⟩
  exact ze_1_2 _ rfl ⟨_, _, _, ze_1_2 _ rfl ⟨TyOf.int _, kit_int_bool _, ze_1_2 _ rfl q⟩⟩
theorem sc_side : FnScope ["one"] ["one"] (defScope s_side) := ⟨rfl, rfl, rfl, by decide +kernel, rfl, by decide +kernel, by decide +kernel⟩
theorem ok_side (F : Fun K "side" "side" s_side f fd) (T : Txt mg) : FnOk P w K mg base CX0 1 f fd ["one"] sp_side := by
  refine F.ok sc_side (fun vs H Q E h => ?_) (fun cdv A outer s H vs Q E hr h => ?_)
  · obtain ⟨p, a, b, rfl, _⟩ := h
    rfl
  obtain ⟨p, a, b, rfl, hp, q⟩ := h
  unfold sgn at q
  refine ⟨_, (pss_cons (ps_if (pt_cmpR op_gt (pe_ix ix_tup (pv 0) pe_int (fun _ _ => rfl)) pe_int (nomark _))
        (pss_one (ps_ret pe_int))
        pss_nil)
      (pss_cons (ps_if (pt_cmpR op_lt (pe_ix ix_tup (pv 0) pe_int (fun _ _ => rfl)) pe_int (nomark _))
        (pss_one (ps_ret (pe_un un_neg pe_int)))
        pss_nil)
      (pss_one (ps_ret pe_int)))), ?_⟩
  refine ze_1_2 _ rfl (ze_4_5 _ _ _ _ rfl rfl hp.sq rfl (ze_2_3 _ _ rfl rfl (ze_1_2 _ rfl ?_)))
  refine ite2 (fun c => ?_) (fun c => ?_)
  · have z : a > 0 := of_decide_eq_true c
    rw [if_pos z] at q
    exact q
  · have z : ¬ a > 0 := of_decide_eq_false (Bool.eq_false_iff.mpr c)
    rw [if_neg z] at q
    refine ze_1_2 _ rfl (ze_4_5 _ _ _ _ rfl rfl hp.sq rfl (ze_2_3 _ _ rfl rfl (ze_1_2 _ rfl ?_)))
    refine ite2 (fun c2 => ?_) (fun c2 => ?_)
    · have z2 : a < 0 := of_decide_eq_true c2
      rw [if_pos z2] at q
      exact ze_1_2 _ rfl q
    · have z2 : ¬ a < 0 := of_decide_eq_false (Bool.eq_false_iff.mpr c2)
      rw [if_neg z2] at q
      exact q

noncomputable def sp_bin (n : Nat) (op : Rat → Rat → Rat) : Sp := fun vs H Q _ => ∃ p q a b, vs = [.ref p, .ref q] ∧ Pq H p a ∧ Pq H q b ∧ Bq n a ∧ Bq n b ∧ ∀ r H', Same H H' → Pq H' r (op a b) → Q (.ref r) H'
noncomputable def sp_lowQ : Sp := fun vs H Q _ => ∃ t b, vs = [.int t, .int b] ∧ 0 < b ∧ Bt 8000 b ∧ ∀ r H', Same H H' → Pq H' r ((t : Rat) / (b : Rat)) → Q (.ref r) H'
noncomputable def sp_atQ : Sp := fun vs H Q _ => ∃ (a : Addr) (qs : List Rat) (k : Nat), vs = [.ref a, .int k] ∧ Rw H a qs ∧ ∀ p H', Same H H' → Pq H' p (qs.getD k 0) → Q (.ref p) H'
noncomputable def sp_stripQ : Sp := fun vs H Q _ => ∃ a qs, vs = [.ref a] ∧ Rw H a qs ∧ qs.length ≤ 1000 ∧ ∀ r H', Same H H' → H r = none → Rw H' r (Po.strip qs) → Q (.ref r) H'
theorem bin_plus {vs : List V} {H : Hp} {Q : VK} {E : XK} (h : sp_bin 8000 (· + ·) vs H Q E) : sp_plus vs H Q E := by
  obtain ⟨p, q, a, b, rfl, hp, hq, ba, bb, k⟩ := h
  exact ze_6_10 p q _ _ _ _ rfl hp hq (den_pos a) (den_pos b) ba.1 ba.2 bb.1 bb.2 (fun r H' s hr => k r H' s (Pq.of hr ⟨(pls_q a b).1.symm, (pls_q a b).2.symm⟩))
theorem bin_minus {vs : List V} {H : Hp} {Q : VK} {E : XK} (h : sp_bin 8000 (· - ·) vs H Q E) : sp_minus vs H Q E := by
  obtain ⟨p, q, a, b, rfl, hp, hq, ba, bb, k⟩ := h
  exact ze_6_10 p q _ _ _ _ rfl hp hq (den_pos a) (den_pos b) ba.1 ba.2 bb.1 bb.2 (fun r H' s hr => k r H' s (Pq.of hr ⟨(mns_q a b).1.symm, (mns_q a b).2.symm⟩))
theorem bin_times {vs : List V} {H : Hp} {Q : VK} {E : XK} (h : sp_bin 8000 (· * ·) vs H Q E) : sp_times vs H Q E := by
  obtain ⟨p, q, a, b, rfl, hp, hq, ba, bb, k⟩ := h
  exact ze_6_10 p q _ _ _ _ rfl hp hq (den_pos a) (den_pos b) ba.1 ba.2 bb.1 bb.2 (fun r H' s hr => k r H' s (Pq.of hr ⟨(tms_q a b).1.symm, (tms_q a b).2.symm⟩))
theorem ok_minusQ (F : Fun K "minus" "minus" s_minus f fd) (T : Txt mg) (C_plus : Cal P w K mg base "plus" 2 ["one", "other"] sp_plus) : FnOk P w K mg base CX0 3 f fd ["one", "other"] (sp_bin 8000 (· - ·)) := (ok_minus F T C_plus).imp fun _ _ _ _ => bin_minus
theorem ok_timesQ (F : Fun K "times" "times" s_times f fd) (T : Txt mg) (C_divisor : Cal P w K mg base "divisor" 1 ["one", "other"] sp_div) : FnOk P w K mg base CX0 2 f fd ["one", "other"] (sp_bin 8000 (· * ·)) := (ok_times F T C_divisor).imp fun _ _ _ _ => bin_times

noncomputable def sp_pbin (op : List Rat → List Rat → List Rat) : Sp := fun vs H Q _ => ∃ a b ps qs, vs = [.ref a, .ref b] ∧ Rw H a ps ∧ Rw H b qs ∧ ps.length ≤ 30 ∧ qs.length ≤ 30 ∧ (∀ q ∈ ps, Bq 1500 q) ∧ (∀ q ∈ qs, Bq 1500 q) ∧ ∀ r H', Same H H' → H r = none → Rw H' r (op ps qs) → Q (.ref r) H'
noncomputable def sp_scaled : Sp := fun vs H Q _ => ∃ a p qs x, vs = [.ref a, .ref p] ∧ Rw H a qs ∧ Pq H p x ∧ qs.length ≤ 30 ∧ (∀ q ∈ qs, Bq 1500 q) ∧ Bq 1500 x ∧ ∀ r H', Same H H' → H r = none → Rw H' r (Po.pscale qs x) → Q (.ref r) H'
noncomputable def sp_slope : Sp := fun vs H Q _ => ∃ a qs, vs = [.ref a] ∧ Rw H a qs ∧ qs.length ≤ 30 ∧ (∀ q ∈ qs, Bq 1500 q) ∧ ∀ r H', Same H H' → H r = none → Rw H' r (Po.pslope qs) → Q (.ref r) H'

theorem sgn_iff {a : Int} : sgn a = 0 ↔ a = 0 := by
  unfold sgn
  split
  · (first | lia | omega)
  · split <;> (first | lia | omega)
theorem Rw.setq {H : Hp} {D p : Addr} {qs : List Rat} {q : Rat} {xs : List V} (k : Nat) (e : H D = some (.lst xs)) (h : Rw H D qs) (kp : Pq H p q) : Rw (upd H D (.lst (xs.set k (.ref p)))) D (qs.set k q) := by
  obtain ⟨ps, e1, k1⟩ := h
  rw [e] at e1
  cases e1
  exact ⟨ps.set k p, by rw [upd_same, List.map_set], (k1.set k kp).updL e⟩
theorem set_range (f : Nat → Rat) (n k : Nat) (v : Rat) : ((List.range n).map f).set k v = (List.range n).map fun m => if m = k then v else f m := by
  apply List.ext_getElem?
  intro i
  rw [List.getElem?_set]
  by_cases h : k = i
  · subst h
    simp
    by_cases hn : k < n
    · simp [hn]
    · simp [hn]
  · simp [h]
    have h' : ¬ i = k := fun z => h z.symm
    by_cases hn : i < n
    · simp [hn, h']
    · simp [hn]
theorem rep_zeros {H : Hp} {p : Addr} (k : Pq H p 0) (n : Nat) : Pqs H (List.replicate n p) ((List.range n).map fun _ => 0) := by
  induction n with
  | zero => exact .nil
  | succ n ih =>
    rw [List.range_succ, List.map_append, List.replicate_succ']
    exact ih.append (.cons k .nil)
theorem flat_rep {α : Type} (x : α) (n : Nat) : (List.replicate n [x]).flatten = List.replicate n x := by
  induction n with
  | zero => rfl
  | succ n ih => rw [List.replicate_succ, List.flatten_cons, ih]; rfl
theorem sc_poly : FnScope ["figures", "most"] ["figures"] (defScope s_poly) := ⟨rfl, rfl, rfl, by decide +kernel, rfl, by decide +kernel, by decide +kernel⟩
theorem ok_poly (F : Fun K "poly" "poly" s_poly f fd) (T : Txt mg) (C_side : Cal P w K mg base "side" 1 ["one"] sp_side) : FnOk P w K mg base CX0 2 f fd ["figures"] sp_stripQ := by
  refine F.ok sc_poly (fun vs H Q E h => ?_) (fun cdv A outer s H vs Q E hr h => ?_)
  · obtain ⟨a, qs, rfl, _⟩ := h
    rfl
  obtain ⟨a, qs, rfl, ⟨ps, h1, h2⟩, hz, q⟩ := h
  have hl := h2.length
  refine ⟨_, (pss_cons (ps_set (i := 1) sc_poly.nd rfl (Or.inl rfl) (pe_callB call_len_seq rfl T.z_len PySem.boot_len (pa_cons (pv 0) pa_nil)))
      (pss_cons (ps_while PassesOwn.never (PW.pt (pw_and (pt_cmpR op_gt (pv 1) pe_int (nomark _)) (pw_and1 (pt_cmpR op_eq (pe_cl C_side hr (pa_cons (pe_ix ix_list (pv 0) (pe_op op_sub (pv 1) pe_int) (fun _ _ => rfl)) pa_nil)) pe_int (nomark _)))))
        (pss_one (ps_aug (i := 1) sc_poly.nd rfl (Or.inl rfl) pe_int ip_sub)))
      (pss_one (ps_ret (pe_slice sl_list (pv 0) po_none (po_some (pv 1))))))), ?_⟩
  refine ze_1_2 _ rfl (ze_2_3 a _ rfl (.inl (SqL.of h1)) ?_)
  refine ⟨fun m σ H' => ∃ n : Nat, σ = [some (.ref a), some (.int n)] ∧ H = H' ∧ n ≤ qs.length ∧ Po.strip (qs.take n) = Po.strip qs ∧ m = n, ⟨_, qs.length, ?_, rfl, Nat.le_refl _, by rw [List.take_length], rfl⟩, ?_⟩
  · rw [List.length_map, hl]; rfl
  rintro m σ _ ⟨n, rfl, rfl, hn, e, rfl⟩
  have fin : Po.strip qs = qs.take m → ∀ p, H p = none → Q (.ref p) (upd H p (.lst (cutV (ps.map V.ref) none (some (m : Int))))) := fun e2 p hp => by
    refine q p _ (same_upd hp _) hp ⟨ps.take m, ?_, ?_⟩
    · rw [upd_same]
      unfold cutV
      rw [HT.sIx_none, HT.sIx_nat, List.length_map, Nat.min_eq_left (by (first | lia | omega)), List.drop_zero, List.map_take]
      rfl
    · rw [e2]
      exact (h2.take m).keep (same_upd hp _)
  refine ze_1_2 _ rfl (ze_2_3 _ _ rfl rfl (ze_1_2 _ rfl ?_))
  refine ite2 (fun c => ?_) (fun c => ?_)
  · have c' : (0 : Int) < m := of_decide_eq_true c
    obtain ⟨n, rfl⟩ : ∃ n, m = n + 1 := ⟨m - 1, by (first | lia | omega)⟩
    have hlt : n < qs.length := by (first | lia | omega)
    have eq := List.getElem?_eq_getElem hlt
    obtain ⟨p, e1, hp⟩ := h2.get eq
    have e0 : ((n + 1 : Nat) : Int) - 1 = (n : Int) := by (first | lia | omega)
    have ei : atI (ps.map V.ref) (((n + 1 : Nat) : Int) - 1) = some (.ref p) := by
      rw [e0]
      exact atI_nat e1
    refine ze_1_2 _ rfl (ze_1_2 _ rfl (ze_2_3 _ _ rfl rfl (ze_4_5 a _ _ _ rfl rfl (SqL.of h1) ei ⟨_, _, ze_1_2 _ rfl ⟨hp, rfl, ze_1_2 _ rfl ?_⟩⟩)))
    refine ite2 (fun c2 => ⟨fun σ' H' => ∃ m', m' < n + 1 ∧ ∃ n : Nat, σ' = [some (.ref a), some (.int n)] ∧ H = H' ∧ n ≤ qs.length ∧ Po.strip (qs.take n) = Po.strip qs ∧ m' = n, fun _ _ h => h, ?_⟩) (fun c2 => ?_)
    · have z : qs[n] = 0 := num_zero.mp (sgn_iff.mp (V.int.inj (of_decide_eq_true c2)))
      refine ze_1_2 _ rfl (ze_2_3 _ _ rfl rfl ⟨n, by (first | lia | omega), n, ?_, rfl, by (first | lia | omega), ?_, rfl⟩)
      · show [some (V.ref a), some (V.int (((n + 1 : Nat) : Int) - 1))] = _
        rw [e0]
      · rw [Po.take_snoc eq, z, Po.strip_snoc0] at e
        exact e
    · have z : qs[n] ≠ 0 := fun z => of_decide_eq_false (Bool.eq_false_iff.mpr c2) (congrArg V.int (sgn_iff.mpr (num_zero.mpr z)))
      refine ze_1_2 _ rfl (ze_1_2 _ rfl (ze_1_2 _ rfl ⟨_, ze_1_2 _ rfl ⟨SqL.of h1, fun p hp => fin ?_ p hp⟩⟩))
      rw [Po.take_snoc eq, Po.strip_snoc z] at e
      rw [← e, Po.take_snoc eq]
  · have c' : ¬ (0 : Int) < m := of_decide_eq_false (Bool.eq_false_iff.mpr c)
    obtain rfl : m = 0 := by (first | lia | omega)
    refine iteF ?_
    refine ze_1_2 _ rfl (ze_1_2 _ rfl (ze_1_2 _ rfl ⟨_, ze_1_2 _ rfl ⟨SqL.of h1, fun p hp => fin ?_ p hp⟩⟩))
    rw [← e]
    rfl
theorem sc_figure_at : FnScope ["one", "power"] ["one", "power"] (defScope s_figure_at) := ⟨rfl, rfl, rfl, by decide +kernel, rfl, by decide +kernel, by decide +kernel⟩
theorem ok_figure_at (F : Fun K "figure_at" "figure_at" s_figure_at f fd) (T : Txt mg) : FnOk P w K mg base CX0 1 f fd ["one", "power"] sp_atQ := by
  refine F.ok sc_figure_at (fun vs H Q E h => ?_) (fun cdv A outer s H vs Q E hr h => ?_)
  · obtain ⟨a, qs, k, rfl, _⟩ := h
    rfl
  obtain ⟨a, qs, k, rfl, ⟨ps, h1, h2⟩, q⟩ := h
  have hl := h2.length
  refine ⟨_, (pss_cons (ps_if (pt_cmpR op_lt (pv 1) (pe_callB call_len_seq rfl T.z_len PySem.boot_len (pa_cons (pv 0) pa_nil)) (nomark _))
        (pss_one (ps_ret (pe_ix ix_list (pv 0) (pv 1) (fun _ _ => rfl))))
        pss_nil)
      (pss_one (ps_ret (pe_tup (pa_cons pe_int (pa_cons pe_int pa_nil)))))), ?_⟩
  refine ze_1_2 _ rfl (ze_1_2 _ rfl (ze_2_3 a _ rfl (.inl (SqL.of h1)) (ze_2_3 _ _ rfl rfl (ze_1_2 _ rfl ?_))))
  refine ite2 (fun c => ?_) (fun c => ?_)
  · have c' : (k : Int) < (((ps.map V.ref).length : Nat) : Int) := of_decide_eq_true c
    rw [List.length_map] at c'
    have hk : k < qs.length := by (first | lia | omega)
    obtain ⟨p, e, hp⟩ := h2.get (List.getElem?_eq_getElem hk)
    refine ze_1_2 _ rfl (ze_1_2 _ rfl (ze_4_5 a _ _ _ rfl rfl (SqL.of h1) (atI_nat e) (q p H (Same.refl _) ?_)))
    rw [List.getD_eq_getElem?_getD, List.getElem?_eq_getElem hk]
    exact hp
  · have c' : ¬ (k : Int) < (((ps.map V.ref).length : Nat) : Int) := of_decide_eq_false (Bool.eq_false_iff.mpr c)
    rw [List.length_map] at c'
    refine ⟨(by show 2 ≤ sizeLine; decide), fun p hp => q p _ (same_upd hp _) ?_⟩
    rw [List.getD_eq_getElem?_getD, List.getElem?_eq_none (by (first | lia | omega))]
    exact Pq.of Pr.new ⟨rfl, rfl⟩
theorem sc_poly_plus : FnScope ["one", "other", "most"] ["one", "other"] (defScope s_poly_plus) := ⟨rfl, rfl, rfl, by decide +kernel, rfl, by decide +kernel, by decide +kernel⟩
theorem ok_poly_plus (F : Fun K "poly_plus" "poly_plus" s_poly_plus f fd) (T : Txt mg) (C_figure_at : Cal P w K mg base "figure_at" 1 ["one", "power"] sp_atQ) (C_plus : Cal P w K mg base "plus" 2 ["one", "other"] (sp_bin 8000 (· + ·)))
    (C_poly : Cal P w K mg base "poly" 2 ["figures"] sp_stripQ) : FnOk P w K mg base CX0 4 f fd ["one", "other"] (sp_pbin Po.padd) := by
  refine F.ok sc_poly_plus (fun vs H Q E h => ?_) (fun cdv A outer s H vs Q E hr h => ?_)
  · obtain ⟨a, b, ps, qs, rfl, _⟩ := h
    rfl
  obtain ⟨a, b, ps, qs, rfl, ha, hb, lp, lq, bp, bq, q⟩ := h
  obtain ⟨xa, ea, la⟩ := ha.there
  obtain ⟨xb, eb, lb⟩ := hb.there
  refine ⟨_, (pss_cons (ps_set (i := 2) sc_poly_plus.nd rfl (Or.inl rfl) (pe_callB (call_max2 rfl) rfl T.z_max boot_max (pa_cons (pe_callB call_len_seq rfl T.z_len PySem.boot_len (pa_cons (pv 0) pa_nil)) (pa_cons (pe_callB call_len_seq rfl T.z_len PySem.boot_len (pa_cons (pv 1) pa_nil)) pa_nil))))
      (pss_one (ps_ret (pe_cl C_poly hr (pa_cons (pe_comp (N' := ["power", "one", "other"]) (fsc := defScope s_poly_plus) (N := ["one", "other", "most"]) [0, 1] ⟨rfl, by decide +kernel, by decide +kernel, by decide +kernel, rfl, by decide +kernel, rfl, by decide +kernel⟩ (pi_range1 rfl T.z_range (pa_cons (pv 2) pa_nil)) (fun _ _ _ _ => (pe_cl C_plus hr (pa_cons (pe_cl C_figure_at hr (pa_cons (pv 1) (pa_cons (pv 0) pa_nil))) (pa_cons (pe_cl C_figure_at hr (pa_cons (pv 2) (pa_cons (pv 0) pa_nil))) pa_nil))))) pa_nil))))), ?_⟩
  refine ze_1_2 _ rfl (ze_2_3 _ _ rfl (.inl (SqL.of ea)) (ze_1_2 _ rfl (ze_2_3 _ _ rfl (.inl (SqL.of eb)) ⟨_, ze_1_2 _ rfl ?_⟩)))
  have en : (if (xb.length : Int) > (xa.length : Int) then (xb.length : Int) else (xa.length : Int)).toNat = max ps.length qs.length := by
    split <;> (first | lia | omega)
  refine ze_1_2 _ rfl (ze_1_2 _ rfl ⟨?_, ?_, comp_rangeQ ?_ (fun k => ps.getD k 0 + qs.getD k 0) ?_ fun H1 D s1 nD rwD => ?_⟩)
  · split <;> (first | lia | omega)
  · split <;> (first | lia | omega)
  · rw [en]; (first | lia | omega)
  · intro _ _ _ _ i H1 R hi s1 fin
    refine ze_1_2 _ rfl (ze_1_2 _ rfl ⟨a, ps, 0 + i, ?_, ha.keep s1, fun p1 H2 s2 k1 => (ze_1_2 _ rfl (ze_1_2 _ rfl ⟨b, qs, 0 + i, ?_, hb.keep (s1.trans s2), fun p2 H3 s3 k2 => ?_⟩))⟩)
    · simp
    · simp
    rw [Nat.zero_add] at k1 k2
    exact ze_4_6 p1 p2 _ _ rfl (k1.keep s3) k2 ((Po.getD_bq (by decide) bp i).mono (by decide)) ((Po.getD_bq (by decide) bq i).mono (by decide)) (fun p3 H4 s4 k3 => fin p3 H4 (s2.trans (s3.trans s4)) k3)
  · rw [en] at rwD
    exact ze_2_4 D _ rfl rwD (by simp; (first | lia | omega)) (fun r H2 s2 n2 rw2 => q r H2 (s1.trans s2) (s1.free n2) rw2)
theorem sc_poly_minus : FnScope ["one", "other", "most"] ["one", "other"] (defScope s_poly_minus) := ⟨rfl, rfl, rfl, by decide +kernel, rfl, by decide +kernel, by decide +kernel⟩
theorem ok_poly_minus (F : Fun K "poly_minus" "poly_minus" s_poly_minus f fd) (T : Txt mg) (C_figure_at : Cal P w K mg base "figure_at" 1 ["one", "power"] sp_atQ) (C_minus : Cal P w K mg base "minus" 3 ["one", "other"] (sp_bin 8000 (· - ·)))
    (C_poly : Cal P w K mg base "poly" 2 ["figures"] sp_stripQ) : FnOk P w K mg base CX0 4 f fd ["one", "other"] (sp_pbin Po.psub) := by
  refine F.ok sc_poly_minus (fun vs H Q E h => ?_) (fun cdv A outer s H vs Q E hr h => ?_)
  · obtain ⟨a, b, ps, qs, rfl, _⟩ := h
    rfl
  obtain ⟨a, b, ps, qs, rfl, ha, hb, lp, lq, bp, bq, q⟩ := h
  obtain ⟨xa, ea, la⟩ := ha.there
  obtain ⟨xb, eb, lb⟩ := hb.there
  refine ⟨_, (pss_cons (ps_set (i := 2) sc_poly_minus.nd rfl (Or.inl rfl) (pe_callB (call_max2 rfl) rfl T.z_max boot_max (pa_cons (pe_callB call_len_seq rfl T.z_len PySem.boot_len (pa_cons (pv 0) pa_nil)) (pa_cons (pe_callB call_len_seq rfl T.z_len PySem.boot_len (pa_cons (pv 1) pa_nil)) pa_nil))))
      (pss_one (ps_ret (pe_cl C_poly hr (pa_cons (pe_comp (N' := ["power", "one", "other"]) (fsc := defScope s_poly_minus) (N := ["one", "other", "most"]) [0, 1] ⟨rfl, by decide +kernel, by decide +kernel, by decide +kernel, rfl, by decide +kernel, rfl, by decide +kernel⟩ (pi_range1 rfl T.z_range (pa_cons (pv 2) pa_nil)) (fun _ _ _ _ => (pe_cl C_minus hr (pa_cons (pe_cl C_figure_at hr (pa_cons (pv 1) (pa_cons (pv 0) pa_nil))) (pa_cons (pe_cl C_figure_at hr (pa_cons (pv 2) (pa_cons (pv 0) pa_nil))) pa_nil))))) pa_nil))))), ?_⟩
  refine ze_1_2 _ rfl (ze_2_3 _ _ rfl (.inl (SqL.of ea)) (ze_1_2 _ rfl (ze_2_3 _ _ rfl (.inl (SqL.of eb)) ⟨_, ze_1_2 _ rfl ?_⟩)))
  have en : (if (xb.length : Int) > (xa.length : Int) then (xb.length : Int) else (xa.length : Int)).toNat = max ps.length qs.length := by
    split <;> (first | lia | omega)
  refine ze_1_2 _ rfl (ze_1_2 _ rfl ⟨?_, ?_, comp_rangeQ ?_ (fun k => ps.getD k 0 - qs.getD k 0) ?_ fun H1 D s1 nD rwD => ?_⟩)
  · split <;> (first | lia | omega)
  · split <;> (first | lia | omega)
  · rw [en]; (first | lia | omega)
  · intro _ _ _ _ i H1 R hi s1 fin
    refine ze_1_2 _ rfl (ze_1_2 _ rfl ⟨a, ps, 0 + i, ?_, ha.keep s1, fun p1 H2 s2 k1 => (ze_1_2 _ rfl (ze_1_2 _ rfl ⟨b, qs, 0 + i, ?_, hb.keep (s1.trans s2), fun p2 H3 s3 k2 => ?_⟩))⟩)
    · simp
    · simp
    rw [Nat.zero_add] at k1 k2
    exact ze_4_6 p1 p2 _ _ rfl (k1.keep s3) k2 ((Po.getD_bq (by decide) bp i).mono (by decide)) ((Po.getD_bq (by decide) bq i).mono (by decide)) (fun p3 H4 s4 k3 => fin p3 H4 (s2.trans (s3.trans s4)) k3)
  · rw [en] at rwD
    exact ze_2_4 D _ rfl rwD (by simp; (first | lia | omega)) (fun r H2 s2 n2 rw2 => q r H2 (s1.trans s2) (s1.free n2) rw2)
theorem sc_scaled : FnScope ["one", "number"] ["one", "number"] (defScope s_scaled) := ⟨rfl, rfl, rfl, by decide +kernel, rfl, by decide +kernel, by decide +kernel⟩
theorem ok_scaled (F : Fun K "scaled" "scaled" s_scaled f fd) (T : Txt mg) (C_times : Cal P w K mg base "times" 2 ["one", "other"] (sp_bin 8000 (· * ·))) (C_poly : Cal P w K mg base "poly" 2 ["figures"] sp_stripQ) : FnOk P w K mg base CX0 4 f fd ["one", "number"] sp_scaled := by
  refine F.ok sc_scaled (fun vs H Q E h => ?_) (fun cdv A outer s H vs Q E hr h => ?_)
  · obtain ⟨a, p, qs, x, rfl, _⟩ := h
    rfl
  obtain ⟨a, p, qs, x, rfl, ha, hp, lq, bq, bx, q⟩ := h
  obtain ⟨xa, ea, la⟩ := ha.there
  refine ⟨_, (pss_one (ps_ret (pe_cl C_poly hr (pa_cons (pe_comp (N' := ["figure", "number"]) (fsc := defScope s_scaled) (N := ["one", "number"]) [1] ⟨rfl, by decide +kernel, by decide +kernel, by decide +kernel, rfl, by decide +kernel, rfl, by decide +kernel⟩ (pi_list (pv 0)) (fun _ _ _ _ => (pe_cl C_times hr (pa_cons (pv 0) (pa_cons (pv 1) pa_nil))))) pa_nil)))), ?_⟩
  refine ze_1_2 _ rfl ⟨a, rfl, ⟨_, SqL.of ea⟩, comp_listQ (qs := qs) (by (first | lia | omega)) ha (fun y => y * x) ?_ fun H1 D s1 nD rwD => ?_⟩
  · intro _ _ _ _ p1 y H1 R hy k1 s1 fin
    exact ze_1_2 _ rfl (ze_1_2 _ rfl (ze_4_6 p1 p _ _ rfl k1 (hp.keep s1) ((bq y hy).mono (by decide)) (bx.mono (by decide)) (fun p3 H4 s4 k3 => fin p3 H4 s4 k3)))
  · exact ze_2_4 D _ rfl rwD (by simp; (first | lia | omega)) (fun r H2 s2 n2 rw2 => q r H2 (s1.trans s2) (s1.free n2) rw2)

noncomputable def cnv (ps qs : List Rat) (k t : Nat) : Rat := if t ≤ k then ps.getD t 0 * qs.getD (k - t) 0 else 0
theorem cnv_all (ps qs : List Rat) (k : Nat) : Po.sm (cnv ps qs k) ps.length = Po.conv ps qs k := by
  have e1 : Po.conv ps qs k = Po.sm (cnv ps qs k) (k + 1) := Po.sm_congr fun i hi => by
    unfold cnv
    rw [if_pos (by (first | lia | omega))]
  rw [e1]
  by_cases h : ps.length ≤ k + 1
  · refine (Po.sm_more h fun i h1 h2 => ?_).symm
    unfold cnv
    rw [Po.getD_out h1]
    split <;> simp
  · refine Po.sm_more (by (first | lia | omega)) fun i h1 h2 => ?_
    unfold cnv
    rw [if_neg (by (first | lia | omega))]
theorem cnv_bq {b : Nat} {ps qs : List Rat} (hb : 0 < b) (hp : ∀ q ∈ ps, Bq b q) (hq : ∀ q ∈ qs, Bq b q) (k t : Nat) : Bq (b + b) (cnv ps qs k t) := by
  unfold cnv
  split
  · exact (Po.getD_bq hb hp t).mul (Po.getD_bq hb hq _)
  · exact Bq.mono (m := b) (by have := Po.getD_bq (qs := []) hb (by simp) 0; simpa using this) (by (first | lia | omega))
noncomputable def sp_prodB : Sp := fun vs H Q _ => ∃ a b ps qs nb, vs = [.ref a, .ref b] ∧ Rw H a ps ∧ Rw H b qs ∧ ps.length ≤ 30 ∧ qs.length ≤ 30 ∧ 0 < nb ∧ ((nb + nb + 1) * ps.length + 1 ≤ 8000 ∧ nb + nb ≤ 8000) ∧ (∀ q ∈ ps, Bq nb q) ∧ (∀ q ∈ qs, Bq nb q) ∧ ∀ r H', Same H H' → H r = none → Rw H' r (Po.pmul ps qs) → Q (.ref r) H'
noncomputable def PtI (H : Hp) (a b D : Addr) (ps qs : List Rat) (n i : Nat) (σ : L2.St) (H' : Hp) : Prop := ∃ (v w y z : Option V), σ = [some (.ref a), some (.ref b), some (.ref D), v, w, y, z] ∧ Same H H' ∧ Rw H' D ((List.range n).map fun k => Po.sm (cnv ps qs k) i)
noncomputable def PtJ (H : Hp) (a b D pf : Addr) (ps qs : List Rat) (n i j : Nat) (σ : L2.St) (H' : Hp) : Prop := ∃ (y z : Option V), σ = [some (.ref a), some (.ref b), some (.ref D), some (.int (0 + (i : Int))), some (.ref pf), y, z] ∧ Same H H' ∧ Rw H' D ((List.range n).map fun k => Po.sm (cnv ps qs k) i + if i ≤ k ∧ k - i < j then cnv ps qs k i else 0)
theorem PtI.elim {H : Hp} {a b D : Addr} {ps qs : List Rat} {n i : Nat} {σ : L2.St} {H' : Hp} {G : Prop} (h : PtI H a b D ps qs n i σ H') (k : ∀ (v w y z : Option V), σ = [some (.ref a), some (.ref b), some (.ref D), v, w, y, z] → (Same H H') → (Rw H' D ((List.range n).map fun k => Po.sm (cnv ps qs k) i)) → G) : G := by
  obtain ⟨v, w, y, z, h0', h1', h2'⟩ := h
  exact k _ _ _ _ h0' h1' h2'
theorem PtJ.elim {H : Hp} {a b D pf : Addr} {ps qs : List Rat} {n i j : Nat} {σ : L2.St} {H' : Hp} {G : Prop} (h : PtJ H a b D pf ps qs n i j σ H') (k : ∀ (y z : Option V), σ = [some (.ref a), some (.ref b), some (.ref D), some (.int (0 + (i : Int))), some (.ref pf), y, z] → (Same H H') → (Rw H' D ((List.range n).map fun k => Po.sm (cnv ps qs k) i + if i ≤ k ∧ k - i < j then cnv ps qs k i else 0)) → G) : G := by
  obtain ⟨y, z, h0', h1', h2'⟩ := h
  exact k _ _ h0' h1' h2'
theorem sc_poly_times : FnScope ["one", "other", "product", "power", "figure", "further", "factor"] ["one", "other"] (defScope s_poly_times) := ⟨rfl, rfl, rfl, by decide +kernel, rfl, by decide +kernel, by decide +kernel⟩
theorem ok_poly_times (F : Fun K "poly_times" "poly_times" s_poly_times f fd) (T : Txt mg) (C_plus : Cal P w K mg base "plus" 2 ["one", "other"] (sp_bin 8000 (· + ·))) (C_times : Cal P w K mg base "times" 2 ["one", "other"] (sp_bin 8000 (· * ·)))
    (C_poly : Cal P w K mg base "poly" 2 ["figures"] sp_stripQ) : FnOk P w K mg base CX0 4 f fd ["one", "other"] sp_prodB := by
  refine F.ok sc_poly_times (fun vs H Q E h => ?_) (fun cdv A outer s H vs Q E hr h => ?_)
  · obtain ⟨a, b, ps, qs, nb, rfl, _⟩ := h
    rfl
  obtain ⟨a, b, ps, qs, nb, rfl, ⟨pa, ea, ka⟩, ⟨pb, eb, kb⟩, lp, lq, hnb, hbn, bp, bq, q⟩ := h
  have la := ka.length
  have lb := kb.length
  have hz : (1000 : Nat) < sizeLine := by decide
  refine ⟨_, (pss_cons (ps_set (i := 2) sc_poly_times.nd rfl (Or.inl rfl) (pe_op op_rep (pe_lst (pa_cons (pe_tup (pa_cons pe_int (pa_cons pe_int pa_nil))) pa_nil)) (pe_op op_sub (pe_op op_add (pe_callB call_len_seq rfl T.z_len PySem.boot_len (pa_cons (pv 0) pa_nil)) (pe_callB call_len_seq rfl T.z_len PySem.boot_len (pa_cons (pv 1) pa_nil))) pe_int)))
      (pss_cons (ps_for PassesOwn.never rfl (pi_enum rfl T.z_enumerate (pa_cons (pv 0) pa_nil)) (pg_tup rfl (pgs_cons (pg_name (i := 3) sc_poly_times.nd rfl (Or.inl rfl)) (pgs_cons (pg_name (i := 4) sc_poly_times.nd rfl (Or.inl rfl)) pgs_nil)))
        (pss_one (ps_for PassesOwn.never rfl (pi_enum rfl T.z_enumerate (pa_cons (pv 1) pa_nil)) (pg_tup rfl (pgs_cons (pg_name (i := 5) sc_poly_times.nd rfl (Or.inl rfl)) (pgs_cons (pg_name (i := 6) sc_poly_times.nd rfl (Or.inl rfl)) pgs_nil)))
          (pss_one (ps_asg (pe_cl C_plus hr (pa_cons (pe_ix ix_list (pv 2) (pe_op op_add (pv 3) (pv 5)) (fun _ _ => rfl)) (pa_cons (pe_cl C_times hr (pa_cons (pv 4) (pa_cons (pv 6) pa_nil))) pa_nil))) (pg_sub (pv 2) (pe_op op_add (pv 3) (pv 5)) set_list))))))
      (pss_one (ps_ret (pe_cl C_poly hr (pa_cons (pv 2) pa_nil)))))), ?_⟩
  obtain ⟨n, hn⟩ : ∃ n, n = ps.length + qs.length - 1 := ⟨_, rfl⟩
  refine ⟨(by show 2 ≤ sizeLine; decide), fun p0 hp0 => ⟨(by show 1 ≤ sizeLine; decide), fun l0 hl0 => ?_⟩⟩
  have s0 := same_upd hp0 (.tup [.int 0, .int 1])
  have s1 := same_upd hl0 (.lst [.ref p0])
  have k0 : Pq (upd H p0 (.tup [.int 0, .int 1])) p0 0 := Pq.of Pr.new ⟨rfl, rfl⟩
  have s01 := s0.trans s1
  refine ze_1_2 _ rfl (ze_2_3 _ _ rfl (.inl (SqL.of (s01 _ _ ea))) (ze_1_2 _ rfl (ze_2_3 _ _ rfl (.inl (SqL.of (s01 _ _ eb))) (ze_2_3 _ _ rfl rfl (ze_2_3 _ _ rfl rfl ⟨l0, ze_2_3 _ _ rfl rfl ⟨upd_same, ?_, ?_, ?_, fun D hD => ?_⟩⟩)))))
  · rw [List.length_map, List.length_map]; (first | lia | omega)
  · rw [List.length_map, List.length_map]; (first | lia | omega)
  · rw [List.length_map, List.length_map, List.length_singleton]; (first | lia | omega)
  have en : (((pa.map V.ref).length : Int) + ((pb.map V.ref).length : Int) - 1).toNat = n := by
    rw [List.length_map, List.length_map]; (first | lia | omega)
  rw [en, flat_rep]
  have s2 := same_upd hD (.lst (List.replicate n (V.ref p0)))
  have hD0 : H D = none := s01.free hD
  have rw0 : Rw (upd (upd (upd H p0 (.tup [.int 0, .int 1])) l0 (.lst [.ref p0])) D (.lst (List.replicate n (V.ref p0)))) D ((List.range n).map fun _ => 0) :=
    ⟨List.replicate n p0, by rw [upd_same, List.map_replicate], rep_zeros ((k0.keep s1).keep s2) n⟩
  have s02 := s01.trans s2
  refine ze_1_2 _ rfl ⟨a, rfl, ⟨_, SqL.of (s02 _ _ ea)⟩, ?_⟩
  refine for_enum (xs := pa.map V.ref) (PtI H a b D ps qs n) ⟨_, _, _, ze_1_2 _ rfl ⟨s02, rw0⟩⟩ ?_ ?_ ?_
  · intro i σ H' _ hI
    exact PtI.elim hI fun v w y z _ sm _ => SqL.of (sm _ _ ea)
  · intro i x σ H1 t1 hx hI ht1
    refine PtI.elim hI fun v w y z eσ sm rw1 => ?_
    subst eσ
    have hi : i < ps.length := by
      have h := (List.getElem?_eq_some_iff.mp hx).1
      rw [List.length_map] at h
      (first | lia | omega)
    obtain ⟨pf, ef, kf⟩ := ka.get (List.getElem?_eq_getElem hi)
    obtain rfl : x = .ref pf := Option.some.inj (hx.symm.trans ef)
    refine ⟨t1, ze_1_2 _ rfl ⟨SqT.of upd_same, rfl, _, ze_1_2 _ rfl (ze_2_3 _ _ rfl rfl ?_)⟩⟩
    have u1 := same_upd ht1 (.tup [.int (0 + (i : Int)), .ref pf])
    have sm1 := sm.trans u1
    have rw1' := rw1.keep u1
    generalize upd H1 t1 (.tup [.int (0 + (i : Int)), .ref pf]) = H2 at *
    refine ze_1_2 _ rfl ⟨b, rfl, ⟨_, SqL.of (sm1 _ _ eb)⟩, ?_⟩
    refine for_enum (xs := pb.map V.ref) (PtJ H a b D pf ps qs n i) ⟨_, ze_1_2 _ rfl ⟨sm1, ?_⟩⟩ ?_ ?_ ?_
    · have e : (fun k => Po.sm (cnv ps qs k) i + if i ≤ k ∧ k - i < 0 then cnv ps qs k i else 0) = fun k => Po.sm (cnv ps qs k) i := by
        funext k
        rw [if_neg (by (first | lia | omega)), Rat.add_zero]
      rw [e]
      exact rw1'
    · intro j σ H' _ hJ
      exact PtJ.elim hJ fun y z _ sm _ => SqL.of (sm _ _ eb)
    · intro j x σ H3 t2 hx2 hJ ht2
      refine PtJ.elim hJ fun y z eσ sm3 rw3 => ?_
      subst eσ
      have hj : j < qs.length := by
        have h := (List.getElem?_eq_some_iff.mp hx2).1
        rw [List.length_map] at h
        (first | lia | omega)
      obtain ⟨pg, eg, kg⟩ := kb.get (List.getElem?_eq_getElem hj)
      obtain rfl : x = .ref pg := Option.some.inj (hx2.symm.trans eg)
      refine ⟨t2, ze_1_2 _ rfl ⟨SqT.of upd_same, rfl, _, ze_1_2 _ rfl (ze_2_3 _ _ rfl rfl ?_)⟩⟩
      have u2 := same_upd ht2 (.tup [.int (0 + (j : Int)), .ref pg])
      have sm4 := sm3.trans u2
      have rw4 := rw3.keep u2
      generalize upd H3 t2 (.tup [.int (0 + (j : Int)), .ref pg]) = H4 at *
      have hk : i + j < n := by (first | lia | omega)
      obtain ⟨pD, eD, kD⟩ := id rw4
      have lD := kD.length
      rw [List.length_map, List.length_range] at lD
      obtain ⟨po, eo, ko⟩ := kD.get (i := i + j) (q := Po.sm (cnv ps qs (i + j)) i + if i ≤ i + j ∧ i + j - i < j then cnv ps qs (i + j) i else 0) (by simp [hk])
      rw [if_neg (by (first | lia | omega)), Rat.add_zero] at ko
      have ei : (0 + (i : Int)) + (0 + (j : Int)) = ((i + j : Nat) : Int) := by (first | lia | omega)
      have bo : Bq 8000 (Po.sm (cnv ps qs (i + j)) i) := by
        refine (Po.sm_bq (b := nb + nb) (fun t => cnv_bq (b := nb) hnb bp bq (i + j) t) ps.length (fun t ht => ?_) i).mono ?_
        · unfold cnv
          rw [Po.getD_out ht]
          split <;> simp
        · have := Nat.mul_le_mul_left (nb + nb + 1) (Nat.min_le_right i ps.length)
          (first | lia | omega)
      have ec : cnv ps qs (i + j) i = ps[i] * qs[j] := by
        unfold cnv
        rw [if_pos (by (first | lia | omega)), Nat.add_sub_cancel_left, List.getD_eq_getElem?_getD, List.getD_eq_getElem?_getD, List.getElem?_eq_getElem hi, List.getElem?_eq_getElem hj]
        rfl
      refine ze_1_2 _ rfl (ze_1_2 _ rfl (ze_1_2 _ rfl (ze_2_3 _ _ rfl rfl (ze_4_5 D _ _ _ rfl rfl (SqL.of eD) (by rw [ei]; exact atI_nat eo) (ze_1_2 _ rfl (ze_1_2 _ rfl (ze_4_6 pf pg _ _ rfl (kf.keep sm4) (kg.keep sm4) ((bp _ (List.getElem_mem hi)).mono (by (first | lia | omega))) ((bq _ (List.getElem_mem hj)).mono (by (first | lia | omega))) (fun p5 H5 s5 k5 => ?_))))))))
      have k5' : Pq H5 p5 (cnv ps qs (i + j) i) := by
        rw [ec]
        exact k5
      refine ze_4_6 po p5 _ _ rfl (ko.keep s5) k5' bo ((cnv_bq hnb bp bq _ _).mono (by (first | lia | omega))) (fun p6 H6 s6 k6 => ?_)
      have s56 := s5.trans s6
      have k6' : Pq H6 p6 (Po.sm (cnv ps qs (i + j)) i + cnv ps qs (i + j) i) := k6
      refine ze_1_2 _ rfl (ze_1_2 _ rfl (ze_1_2 _ rfl (ze_2_3 _ _ rfl rfl ⟨D, _, _, i + j, rfl, rfl, s56 _ _ eD, ?_, _, ze_1_2 _ rfl ⟨same_updF (sm4.trans s56) hD0 _, ?_⟩⟩)))
      · rw [ei, List.length_map, lD]
        unfold ixN
        rw [if_pos (by (first | lia | omega)), if_pos (by (first | lia | omega))]
        rfl
      · have st := Rw.setq (i + j) (s56 _ _ eD) (rw4.keep s56) k6'
        rw [set_range] at st
        have e : (fun m => if m = i + j then Po.sm (cnv ps qs (i + j)) i + cnv ps qs (i + j) i else Po.sm (cnv ps qs m) i + if i ≤ m ∧ m - i < j then cnv ps qs m i else 0) = fun k => Po.sm (cnv ps qs k) i + if i ≤ k ∧ k - i < j + 1 then cnv ps qs k i else 0 := by
          funext m
          by_cases h : m = i + j
          · subst h
            rw [if_pos rfl, if_pos (by (first | lia | omega))]
          · rw [if_neg h]
            by_cases h2 : i ≤ m ∧ m - i < j
            · rw [if_pos h2, if_pos (by (first | lia | omega))]
            · rw [if_neg h2, if_neg (by (first | lia | omega))]
        rw [e] at st
        exact st
    · intro σ H3 hJ
      refine PtJ.elim hJ fun y z eσ sm3 rw3 => ?_
      subst eσ
      refine ⟨_, _, _, ze_1_2 _ rfl ⟨sm3, ?_⟩⟩
      rw [List.length_map, lb] at rw3
      have e : (fun k => Po.sm (cnv ps qs k) i + if i ≤ k ∧ k - i < qs.length then cnv ps qs k i else 0) = fun k => Po.sm (cnv ps qs k) (i + 1) := by
        funext k
        rw [Po.sm_succ]
        congr 1
        by_cases h : i ≤ k ∧ k - i < qs.length
        · rw [if_pos h]
        · rw [if_neg h]
          unfold cnv
          by_cases h2 : i ≤ k
          · rw [if_pos h2, Po.getD_out (xs := qs) (by (first | lia | omega)), Rat.mul_zero]
          · rw [if_neg h2]
      rw [e] at rw3
      exact rw3
  · intro σ H1 hI
    refine PtI.elim hI fun v w y z eσ sm rw1 => ?_
    subst eσ
    rw [List.length_map, la] at rw1
    refine ze_1_2 _ rfl (ze_2_4 D _ rfl rw1 (by simp; (first | lia | omega)) (fun r H2 s2 n2 rw2 => q r H2 (sm.trans s2) (sm.free n2) ?_))
    have e : (fun k => Po.sm (cnv ps qs k) ps.length) = Po.conv ps qs := by
      funext k
      exact cnv_all ps qs k
    rw [e] at rw2
    have e2 : Po.pmul ps qs = Po.strip ((List.range n).map (Po.conv ps qs)) := by
      unfold Po.pmul
      refine Po.strip_ext fun k => ?_
      rw [Po.getD_range, Po.getD_range]
      by_cases h : k < n
      · rw [if_pos h, if_pos (by (first | lia | omega))]
      · rw [if_neg h]
        split
        · exact Po.conv_out (by (first | lia | omega))
        · rfl
    rw [e2]
    exact rw2

theorem sc_slope : FnScope ["one"] ["one"] (defScope s_slope) := ⟨rfl, rfl, rfl, by decide +kernel, rfl, by decide +kernel, by decide +kernel⟩
theorem ok_slope (F : Fun K "slope" "slope" s_slope f fd) (T : Txt mg) (C_times : Cal P w K mg base "times" 2 ["one", "other"] (sp_bin 8000 (· * ·))) : FnOk P w K mg base CX0 4 f fd ["one"] sp_slope := by
  refine F.ok sc_slope (fun vs H Q E h => ?_) (fun cdv A outer s H vs Q E hr h => ?_)
  · obtain ⟨a, qs, rfl, _⟩ := h
    rfl
  obtain ⟨a, qs, rfl, ⟨pa, ea, ka⟩, lq, bq, q⟩ := h
  have la := ka.length
  refine ⟨_, (pss_one (ps_ret (pe_compG (N' := ["power", "figure"]) (fsc := defScope s_slope) (N := ["one"]) ["power", "figure"] [] ⟨rfl, by decide +kernel, by decide +kernel, rfl, by decide +kernel, by decide +kernel⟩ (pi_enumS rfl T.z_enumerate (pa_cons (pe_slice sl_list (pv 0) (po_some pe_int) po_none) pa_nil) (pk_cons pe_int pk_nil)) (fun _ _ _ _ => (pg_blk2 (N' := ["power", "figure"]) (i := 0) (j := 1) rfl (by decide +kernel) rfl rfl rfl rfl)) (fun _ _ _ _ => pts_nil) (fun _ _ _ _ => (pe_cl C_times hr (pa_cons (pv 1) (pa_cons (pe_tup (pa_cons (pv 0) (pa_cons pe_int pa_nil))) pa_nil))))))), ?_⟩
  refine ze_1_2 _ rfl (ze_1_2 _ rfl (ze_2_3 a _ rfl (SqL.of ea) (fun l hl => ⟨l, rfl, rfl, ⟨_, SqL.of upd_same⟩, ?_⟩)))
  have s1 := same_upd hl (.lst (cutV (pa.map V.ref) (some 1) none))
  have ec : cutV (pa.map V.ref) (some 1) none = (pa.drop 1).map V.ref := cut_from V.ref pa 1
  have rwl : Rw (upd H l (.lst (cutV (pa.map V.ref) (some 1) none))) l (qs.drop 1) := ⟨pa.drop 1, by rw [upd_same, ec], (ka.drop 1).keep s1⟩
  refine comp_enumQ (qs := qs.drop 1) (by rw [List.length_drop]; (first | lia | omega)) rwl (fun k => qs.getD (k + 1) 0 * (((1 : Int) + (k : Int) : Int) : Rat)) rfl ?_ fun H1 D s2 nD rwD => ?_
  · intro _ _ _ _ p i y H1 R hy kp s2 fin
    have ey : qs.getD (i + 1) 0 = y := by
      rw [List.getElem?_drop, Nat.add_comm] at hy
      rw [List.getD_eq_getElem?_getD, hy]
      rfl
    have hi : i < qs.length := by
      have := (List.getElem?_eq_some_iff.mp hy).1
      rw [List.length_drop] at this
      (first | lia | omega)
    have by' : Bq 1500 y := by
      rw [← ey]
      exact Po.getD_bq (by decide) bq _
    refine ze_1_2 _ rfl (ze_1_2 _ rfl ⟨(by show 2 ≤ sizeLine; decide), fun p2 hp2 => ?_⟩)
    have u := same_upd hp2 (.tup [.int (1 + (i : Int)), .int 1])
    refine ze_4_6 p p2 _ _ rfl (kp.keep u) Pq.int (by'.mono (by decide)) (Bq.int (Bt.between (by (first | lia | omega)) (by (first | lia | omega))) (by decide)) (fun p3 H3 s3 k3 => fin p3 H3 (u.trans s3) ?_)
    rw [ey]
    exact k3
  · rw [List.length_drop] at rwD
    exact q D H1 (s1.trans s2) (s1.free nD) rwD

noncomputable def cell0 (ns : List Int) (k : Nat) : Int := ns.getD k 0
theorem cell0_bt {ns : List Int} (h : ∀ n ∈ ns, Bt 1048576 n) (k : Nat) : Bt 1048576 (cell0 ns k) := by
  unfold cell0
  rw [List.getD_eq_getElem?_getD]
  by_cases hk : k < ns.length
  · rw [List.getElem?_eq_getElem hk]
    exact h _ (List.getElem_mem hk)
  · rw [List.getElem?_eq_none (by (first | lia | omega))]
    exact Bt.zero
noncomputable def sp_cell0 (K : PySem.W.Frag) : Sp := fun vs H Q _ => ∃ (a : Addr) (ns : List Int) (k : Nat), vs = [.ref a, .int k] ∧ SqL K H a (ns.map V.int) ∧ Q (.int (cell0 ns k)) H
noncomputable def sp_gcd : Sp := fun vs H Q _ => ∃ a b, vs = [.int a, .int b] ∧ 0 ≤ b ∧ Q (.int (g a b)) H
noncomputable def sp_numbers : Sp := fun vs H Q _ => ∃ (c : Int) (m : Nat), vs = [.int c, .int m] ∧ m ≤ 100 ∧ ∀ (r : Addr) (ns : List Int) (H' : Hp), Same H H' → H r = none → H' r = some (.lst (ns.map V.int)) → ns.length = m → (∀ n ∈ ns, 0 ≤ n ∧ n < 100000) → Q (.ref r) H'
noncomputable def abv (v : Int) : Rat := ((1 + v % 12 : Int) : Rat) / ((1 + v / 12 % 12 : Int) : Rat)
theorem abv_bq (v : Int) : Bq 4 (abv v) := by
  have h1 := Int.emod_nonneg v (show (12 : Int) ≠ 0 by decide)
  have h2 := Int.emod_lt_of_pos v (show (0 : Int) < 12 by decide)
  have h3 := Int.emod_nonneg (v / 12) (show (12 : Int) ≠ 0 by decide)
  have h4 := Int.emod_lt_of_pos (v / 12) (show (0 : Int) < 12 by decide)
  exact bq_of (by (first | lia | omega)) rfl (Bt.between (by (first | lia | omega)) (by (first | lia | omega))) (Bt.between (by (first | lia | omega)) (by (first | lia | omega)))
theorem div_pos {t b : Int} (ht : 0 < t) (hb : 0 < b) : 0 < (t : Rat) / (b : Rat) := by
  rw [Rat.div_def]
  exact Rat.mul_pos (Rat.intCast_pos.mpr ht) (Rat.inv_pos.mpr (Rat.intCast_pos.mpr hb))
theorem abv_pos (v : Int) : 0 < abv v := by
  have h1 := Int.emod_nonneg v (show (12 : Int) ≠ 0 by decide)
  have h3 := Int.emod_nonneg (v / 12) (show (12 : Int) ≠ 0 by decide)
  exact div_pos (by (first | lia | omega)) (by (first | lia | omega))
noncomputable def sp_above : Sp := fun vs H Q _ => ∃ v, vs = [.int v] ∧ ∀ r H', Same H H' → Pq H' r (abv v) → Q (.ref r) H'
structure Drawn (mo : Nat) (gs ws : List Rat) : Prop where
  len : gs.length = ws.length + 1
  most : ws.length ≤ mo
  pos : (∀ q ∈ gs, 0 < q) ∧ ∀ q ∈ ws, 0 < q
  size : ((∀ q ∈ gs, Bq 4 q) ∧ ∀ q ∈ ws, Bq 4 q) ∨ (ws.length ≤ 1 + mo / 11 ∧ (∀ q ∈ gs, Bq 101 q) ∧ ∀ q ∈ ws, Bq 101 q)
theorem Drawn.bq {mo : Nat} {gs ws : List Rat} (d : Drawn mo gs ws) : (∀ q ∈ gs, Bq 101 q) ∧ ∀ q ∈ ws, Bq 101 q := by
  rcases d.size with ⟨a, b⟩ | ⟨_, a, b⟩
  · exact ⟨fun q h => (a q h).mono (by decide), fun q h => (b q h).mono (by decide)⟩
  · exact ⟨a, b⟩
noncomputable def sp_cord_by (K : PySem.W.Frag) : Sp := fun vs H Q _ => ∃ (a : Addr) (ns : List Int) (most : Nat), vs = [.ref a, .int most] ∧ SqL K H a (ns.map V.int) ∧ (∀ n ∈ ns, Bt 1048576 n) ∧ (4 ≤ most ∧ most ≤ 12) ∧
  ∀ r ga wa gs ws H', Same H H' → H' r = some (.tup [.ref ga, .ref wa]) → H ga = none → H wa = none → ga ≠ wa → Rw H' ga gs → Rw H' wa ws → Drawn most gs ws → Q (.ref r) H'
noncomputable def sp_lawB (K : PySem.W.Frag) : Sp := fun vs H Q _ => ∃ (a : Addr) (ns : List Int), vs = [.ref a] ∧ SqL K H a (ns.map V.int) ∧ ns.length ≤ 63 ∧ (∀ n ∈ ns, Bt 1048576 n) ∧ ∀ H', Q (.bl true) H'
noncomputable def CbyM (H : Hp) (a xs : Addr) (mo : Nat) (hd : Int) (σ' : L2.St) (H' : Hp) : Prop := ∃ (m' : Nat) (pt : Addr) (qs : List Rat) (v w : Option V), σ' = [some (.ref a), some (.int mo), some (.int hd), some (.int m'), some (.ref xs), some (.ref pt), v, w] ∧ Same H H' ∧ H pt = none ∧ Rw H' pt qs ∧ qs.length = 2 * m' + 1 ∧ m' ≤ mo ∧ (∀ q ∈ qs, 0 < q) ∧ ((∀ q ∈ qs, Bq 4 q) ∨ (m' ≤ 1 + mo / 11 ∧ ∀ q ∈ qs, Bq 101 q))
noncomputable def CbyI (H2 : Hp) (a xs pt : Addr) (mo m' : Nat) (hd : Int) (i : Nat) (σ : L2.St) (H' : Hp) : Prop := ∃ (v w : Option V) (qs : List Rat), σ = [some (.ref a), some (.int mo), some (.int hd), some (.int m'), some (.ref xs), some (.ref pt), v, w] ∧ Same H2 H' ∧ Rw H' pt qs ∧ qs.length = i ∧ (∀ q ∈ qs, 0 < q) ∧ ∀ q ∈ qs, Bq 101 q
theorem CbyM.elim {H : Hp} {a xs : Addr} {mo : Nat} {hd : Int} {σ' : L2.St} {H' : Hp} {G : Prop} (h : CbyM H a xs mo hd σ' H') (k : ∀ (m' : Nat) (pt : Addr) (qs : List Rat) (v w : Option V), σ' = [some (.ref a), some (.int mo), some (.int hd), some (.int m'), some (.ref xs), some (.ref pt), v, w] → (Same H H') → (H pt = none) → (Rw H' pt qs) → (qs.length = 2 * m' + 1) → (m' ≤ mo) → ((∀ q ∈ qs, 0 < q)) → (((∀ q ∈ qs, Bq 4 q) ∨ (m' ≤ 1 + mo / 11 ∧ ∀ q ∈ qs, Bq 101 q))) → G) : G := by
  obtain ⟨m', pt, qs, v, w, h0', h1', h2', h3', h4', h5', h6', h7'⟩ := h
  exact k _ _ _ _ _ h0' h1' h2' h3' h4' h5' h6' h7'
theorem CbyI.elim {H2 : Hp} {a xs pt : Addr} {mo m' : Nat} {hd : Int} {i : Nat} {σ : L2.St} {H' : Hp} {G : Prop} (h : CbyI H2 a xs pt mo m' hd i σ H') (k : ∀ (v w : Option V) (qs : List Rat), σ = [some (.ref a), some (.int mo), some (.int hd), some (.int m'), some (.ref xs), some (.ref pt), v, w] → (Same H2 H') → (Rw H' pt qs) → (qs.length = i) → ((∀ q ∈ qs, 0 < q)) → (∀ q ∈ qs, Bq 101 q) → G) : G := by
  obtain ⟨v, w, qs, h0', h1', h2', h3', h4', h5'⟩ := h
  exact k _ _ _ h0' h1' h2' h3' h4' h5'
theorem sc_law_cell_at : FnScope ["_law_script", "_law_k"] ["_law_script", "_law_k"] (defScope s_law_cell_at) := ⟨rfl, rfl, rfl, by decide +kernel, rfl, by decide +kernel, by decide +kernel⟩
theorem ok_law_cell_at (F : Fun K "_law_cell_at" "_law_cell_at" s_law_cell_at f fd) (T : Txt mg) : FnOk P w K mg base CX0 1 f fd ["_law_script", "_law_k"] (sp_cell0 K) := by
  refine F.ok sc_law_cell_at (fun vs H Q E h => ?_) (fun cdv A outer s H vs Q E hr h => ?_)
  · obtain ⟨a, ns, k, rfl, _⟩ := h
    rfl
  obtain ⟨a, ns, k, rfl, hS, q⟩ := h
  refine ⟨_, (pss_cons (ps_if (pt_cmpR op_lt (pv 1) (pe_callB call_len_seq rfl T.z_len PySem.boot_len (pa_cons (pv 0) pa_nil)) (nomark _))
        (pss_one (ps_ret (pe_ix ix_list (pv 0) (pv 1) (fun _ _ => rfl))))
        pss_nil)
      (pss_one (ps_ret pe_int))), ?_⟩
  have hl : (ns.map V.int).length = ns.length := List.length_map _
  refine ze_1_2 _ rfl (ze_1_2 _ rfl ⟨a, ze_1_2 _ rfl ⟨.inl hS, ze_2_3 _ _ rfl rfl (ze_1_2 _ rfl ?_)⟩⟩)
  refine ite2 (fun c => ?_) (fun c => ?_)
  · have c' : (k : Int) < (((ns.map V.int).length : Nat) : Int) := of_decide_eq_true c
    rw [hl] at c'
    have hk : k < ns.length := by (first | lia | omega)
    refine ze_1_2 _ rfl (ze_1_2 _ rfl (ze_4_5 a _ _ _ rfl rfl hS (atI_nat (v := .int (cell0 ns k)) ?_) q))
    unfold cell0
    rw [List.getElem?_map, List.getD_eq_getElem?_getD, List.getElem?_eq_getElem hk]
    rfl
  · have c' : ¬ (k : Int) < (((ns.map V.int).length : Nat) : Int) := of_decide_eq_false (Bool.eq_false_iff.mpr c)
    rw [hl] at c'
    have e : cell0 ns k = 0 := by
      unfold cell0
      rw [List.getD_eq_getElem?_getD, List.getElem?_eq_none (by (first | lia | omega))]
      rfl
    rw [e] at q
    exact q
theorem sc_law_divisor : FnScope ["_law_one", "_law_other"] ["_law_one", "_law_other"] (defScope s_law_divisor) := ⟨rfl, rfl, rfl, by decide +kernel, rfl, by decide +kernel, by decide +kernel⟩
theorem ok_law_divisor (F : Fun K "_law_divisor" "_law_divisor" s_law_divisor f fd) (T : Txt mg) : FnOk P w K mg base CX0 1 f fd ["_law_one", "_law_other"] sp_gcd := by
  refine F.ok sc_law_divisor (fun vs H Q E h => ?_) (fun cdv A outer s H vs Q E hr h => ?_)
  · obtain ⟨a, b, rfl, _⟩ := h
    rfl
  obtain ⟨a, b, rfl, hb, q⟩ := h
  refine ⟨_, (pss_cons (ps_while PassesOwn.never (pt_cmpR op_ne (pv 1) pe_int (nomark _))
        (pss_one (ps_par (i := 0) (j := 1) rfl sc_law_divisor.nd rfl rfl (by decide) rfl rfl (pa_cons (pv 1) (pa_cons (pe_op op_mod (pv 0) (pv 1)) pa_nil)) (by with_unfolding_all rfl))))
      (pss_one (ps_ret (pe_callB call_abs rfl T.z_abs boot_abs (pa_cons (pv 0) pa_nil))))), ?_⟩
  refine ⟨fun m σ H' => ∃ x y, σ = [some (.int x), some (.int y)] ∧ H = H' ∧ 0 ≤ y ∧ g x y = g a b ∧ m = y.toNat, ⟨_, ze_2_3 _ _ rfl rfl ⟨hb, rfl, rfl⟩⟩, ?_⟩
  rintro m σ _ ⟨x, y, rfl, rfl, hy, e, rfl⟩
  refine ze_1_2 _ rfl ⟨rfl, ze_1_2 _ rfl ?_⟩
  by_cases y0 : y = 0
  · subst y0
    refine iteNS rfl ?_
    refine ze_1_2 _ rfl (ze_1_2 _ rfl ?_)
    have e2 : (if x < 0 then -x else x) = g x 0 := by
      unfold g
      rw [Int.gcd_zero_right]
      split <;> (first | lia | omega)
    rw [e2, e]
    exact q
  · refine iteSS (fun z => y0 (V.int.inj z)) ⟨fun σ' H' => ∃ m', m' < y.toNat ∧ ∃ x y, σ' = [some (.int x), some (.int y)] ∧ H = H' ∧ 0 ≤ y ∧ g x y = g a b ∧ m' = y.toNat, fun _ _ h => h, ?_⟩
    have hy0 : 0 < y := by (first | lia | omega)
    have h1 := Int.emod_nonneg x y0
    have h2 := Int.emod_lt_of_pos x hy0
    have e3 : g y (x % y) = g x y := by
      unfold g
      rw [Int.gcd_comm x y]
      exact congrArg _ (by rw [Int.emod_def, Int.sub_eq_add_neg, ← Int.mul_neg, Int.gcd_add_mul_left_right])
    exact ze_1_2 _ rfl (ze_1_2 _ rfl (ze_1_2 _ rfl (ze_2_3 _ _ rfl rfl ⟨hy0, _, ze_1_2 _ rfl ⟨_, by (first | lia | omega), y, x % y, rfl, rfl, h1, by rw [e3, e], rfl⟩⟩)))
theorem sc_law_low : FnScope ["_law_top", "_law_bottom", "_law_part"] ["_law_top", "_law_bottom"] (defScope s_law_low) := ⟨rfl, rfl, rfl, by decide +kernel, rfl, by decide +kernel, by decide +kernel⟩
theorem ok_law_low (F : Fun K "_law_low" "_law_low" s_law_low f fd) (T : Txt mg) (C_law_divisor : Cal P w K mg base "_law_divisor" 1 ["_law_one", "_law_other"] sp_gcd) : FnOk P w K mg base CX0 2 f fd ["_law_top", "_law_bottom"] sp_lowQ := by
  refine F.ok sc_law_low (fun vs H Q E h => ?_) (fun cdv A outer s H vs Q E hr h => ?_)
  · obtain ⟨t, b, rfl, _⟩ := h
    rfl
  obtain ⟨t, b, rfl, hb, bb, q⟩ := h
  have c1 : 0 < g t b ∧ Bt 9000 (g t b) := ⟨g_pos (by (first | lia | omega)), (g_bt hb bb).mono (by decide)⟩
  refine ⟨_, (pss_cons (ps_set (i := 2) sc_law_low.nd rfl (Or.inl rfl) (pe_cl C_law_divisor hr (pa_cons (pv 0) (pa_cons (pv 1) pa_nil))))
      (pss_one (ps_ret (pe_tup (pa_cons (pe_op op_fdP (pv 0) (pv 2)) (pa_cons (pe_op op_fdP (pv 1) (pv 2)) pa_nil)))))), ?_⟩
  refine ze_1_2 _ rfl (ze_1_2 _ rfl ⟨_, ze_1_2 _ rfl ⟨by (first | lia | omega), ?_⟩⟩)
  exact ze_1_2 _ rfl (ze_1_2 _ rfl (ze_2_3 _ _ rfl rfl ⟨c1, ze_1_2 _ rfl (ze_1_2 _ rfl (ze_2_3 _ _ rfl rfl ⟨c1, (by show 2 ≤ sizeLine; decide), fun p hp => q p _ (same_upd hp _) (Pq.of Pr.new ⟨(low_q hb).1.symm, (low_q hb).2.symm⟩)⟩))⟩))
theorem sc_law_numbers : FnScope ["_law_cell", "_law_many", "_law_found", "_law_rest", "_law_k", "_law_one"] ["_law_cell", "_law_many"] (defScope s_law_numbers) := ⟨rfl, rfl, rfl, by decide +kernel, rfl, by decide +kernel, by decide +kernel⟩
theorem ok_law_numbers (F : Fun K "_law_numbers" "_law_numbers" s_law_numbers f fd) (T : Txt mg) : FnOk P w K mg base CX0 1 f fd ["_law_cell", "_law_many"] sp_numbers := by
  refine F.ok sc_law_numbers (fun vs H Q E h => ?_) (fun cdv A outer s H vs Q E hr h => ?_)
  · obtain ⟨c, m, rfl, _⟩ := h
    rfl
  obtain ⟨c, m, rfl, hm, q⟩ := h
  have hz : (1000 : Nat) < sizeLine := by decide
  refine ⟨_, (pss_cons (ps_set (i := 2) sc_law_numbers.nd rfl (Or.inl rfl) (pe_lst pa_nil))
      (pss_cons (ps_set (i := 3) sc_law_numbers.nd rfl (Or.inl rfl) (pe_op op_fdP (pv 0) pe_int))
      (pss_cons (ps_for PassesOwn.never rfl (pi_range1 rfl T.z_range (pa_cons (pv 1) pa_nil)) (pg_name (i := 4) sc_law_numbers.nd rfl (Or.inl rfl))
        (pss_one (ps_if (PW.pt (pw_and (pt_cmpR op_eq (pe_op op_mod (pv 0) pe_int) pe_int (nomark _)) (pw_and1 (pt_cmpR op_gt (pv 0) (pe_op op_pow pe_int pe_int) (nomark _)))))
          (pss_cons (ps_expr (pe_bm PySem.F.plainAttrs_list PySem.F.slot_list_append PySem.F.type_list_append mt_append (pv 2) (pa_cons (pe_op op_mod (pv 3) pe_int) pa_nil)))
          (pss_one (ps_set (i := 3) sc_law_numbers.nd rfl (Or.inl rfl) (pe_op op_fdP (pv 3) pe_int))))
          (pss_cons (ps_set (i := 5) sc_law_numbers.nd rfl (Or.inl rfl) (pe_op op_mod (pe_op op_add (pe_op op_add (pe_op op_mulB (pv 0) (pe_op op_add pe_int (pe_op op_mulB pe_int (pv 4)))) (pe_op op_mulB pe_int (pv 4))) pe_int) pe_int))
          (pss_one (ps_expr (pe_bm PySem.F.plainAttrs_list PySem.F.slot_list_append PySem.F.type_list_append mt_append (pv 2) (pa_cons (pe_op op_mod (pe_op op_mulB (pv 5) (pe_op op_add (pe_op op_add (pv 5) pe_int) (pv 4))) pe_int) pa_nil))))))))
      (pss_one (ps_ret (pv 2)))))), ?_⟩
  refine ⟨(by show 0 ≤ sizeLine; decide), fun D hD => ?_⟩
  refine ze_1_2 _ rfl (ze_2_3 _ _ rfl rfl ⟨⟨by decide, bt2 (by decide +kernel)⟩, ?_⟩)
  refine ze_1_2 _ rfl (ze_1_2 _ rfl ⟨by (first | lia | omega), by (first | lia | omega), ?_⟩)
  rw [Int.toNat_natCast]
  refine for_range (n := m) (fun i σ H' => (∃ (r : Int) (v w : Option V), σ = [some (.int c), some (.int m), some (.ref D), some (.int r), v, w]) ∧ Same H H' ∧ ∃ ns : List Int, H' D = some (.lst (ns.map V.int)) ∧ ns.length = i ∧ ∀ n ∈ ns, 0 ≤ n ∧ n < 100000)
    ⟨⟨_, _, _, rfl⟩, same_upd hD _, [], upd_same, rfl, fun n hn => absurd hn (by simp)⟩ ?_ ?_
  · rintro i σ H1 hi ⟨⟨r, v, w, rfl⟩, sm, ns, hns, hl, hb⟩
    have fin : ∀ x : Int, 0 ≤ x → x < 100000 → Same H (upd H1 D (.lst (ns.map V.int ++ [.int x]))) ∧ ∃ ns' : List Int, upd H1 D (.lst (ns.map V.int ++ [.int x])) D = some (.lst (ns'.map V.int)) ∧ ns'.length = i + 1 ∧ ∀ n ∈ ns', 0 ≤ n ∧ n < 100000 := fun x h0 h1 => by
      refine ⟨same_updF sm hD _, ns ++ [x], by rw [upd_same]; simp, by simp [hl], fun n hn => ?_⟩
      rcases List.mem_append.mp hn with z | z
      · exact hb n z
      · rw [List.mem_singleton.mp z]; exact ⟨h0, h1⟩
    have other : ∀ {R : Prop}, (∀ x : Int, 0 ≤ x → x < 100000 → ∀ y : Int, x = y * (y + 3 + (0 + (i : Int))) % 99989 → 0 ≤ y → y < 99991 → R) → R := fun {R} h => by
      refine h _ (Int.emod_nonneg _ (by decide)) ?_ ((c * (48271 + 2 * (0 + (i : Int))) + 7919 * (0 + (i : Int)) + 5) % 99991) rfl (Int.emod_nonneg _ (by decide)) (Int.emod_lt_of_pos _ (by decide))
      have := Int.emod_lt_of_pos ((c * (48271 + 2 * (0 + (i : Int))) + 7919 * (0 + (i : Int)) + 5) % 99991 * ((c * (48271 + 2 * (0 + (i : Int))) + 7919 * (0 + (i : Int)) + 5) % 99991 + 3 + (0 + (i : Int)))) (show (0 : Int) < 99989 by decide)
      (first | lia | omega)
    have way : ∀ {y : Int}, y = (c * (48271 + 2 * (0 + (i : Int))) + 7919 * (0 + (i : Int)) + 5) % 99991 → 0 ≤ y ∧ y < 99991 := fun {y} e => by
      rw [e]
      exact ⟨Int.emod_nonneg _ (by decide), Int.emod_lt_of_pos _ (by decide)⟩
    have tail : ∀ v' : Option V, (∃ (r' : Int) (v w : Option V), ([some (.int c), some (.int m), some (.ref D), some (.int r), some (.int (0 + (i : Int))), v'] : L2.St) = [some (.int c), some (.int m), some (.ref D), some (.int r'), v, w]) := fun v' => ⟨_, _, _, rfl⟩
    refine ze_1_2 _ rfl (ze_2_3 _ _ rfl rfl ⟨(by show (0 : Int) < 2; decide), rfl, ze_1_2 _ rfl ?_⟩)
    have els : ∀ (G : Prop), (∀ y : Int, y = (c * (48271 + 2 * (0 + (i : Int))) + 7919 * (0 + (i : Int)) + 5) % 99991 → G) → G := fun G h => h _ rfl
    have mulk : IntMulOk c (48271 + 2 * (0 + (i : Int))) := CMul.ok (.inr ⟨by (first | lia | omega), by (first | lia | omega)⟩)
    have emd := Int.emod_nonneg (c * (48271 + 2 * (0 + (i : Int))) + 7919 * (0 + (i : Int)) + 5) (show (99991 : Int) ≠ 0 by decide)
    have emd2 := Int.emod_lt_of_pos (c * (48271 + 2 * (0 + (i : Int))) + 7919 * (0 + (i : Int)) + 5) (show (0 : Int) < 99991 by decide)
    have e99 : ∀ x : Int, 0 ≤ x % 99989 ∧ x % 99989 < 100000 := fun x => ⟨Int.emod_nonneg _ (by decide), by have := Int.emod_lt_of_pos x (show (0 : Int) < 99989 by decide); (first | lia | omega)⟩
    have r10 : ∀ x : Int, 0 ≤ x % 1000 ∧ x % 1000 < 100000 := fun x => ⟨Int.emod_nonneg _ (by decide), by have := Int.emod_lt_of_pos x (show (0 : Int) < 1000 by decide); (first | lia | omega)⟩
    have lz : (ns.map V.int).length < sizeLine := by rw [List.length_map]; (first | lia | omega)
    refine ite2 (fun _ => ?_) (fun _ => ?_)
    · refine ze_1_2 _ rfl (ze_2_3 _ _ rfl rfl ⟨⟨by decide, by decide, by decide⟩, ze_2_3 _ _ rfl rfl (ze_1_2 _ rfl ?_)⟩)
      refine ite2 (fun _ => ?_) (fun _ => ?_)
      · exact ze_1_2 _ rfl ⟨.inl ⟨rfl, _, SqL.of hns⟩, ze_1_2 _ rfl (ze_2_3 _ _ rfl rfl ⟨(by show (0 : Int) < 1000; decide), D, ze_2_3 _ _ rfl rfl ⟨hns, lz, ze_1_2 _ rfl (ze_2_3 _ _ rfl rfl ⟨⟨by decide, bt2 (by decide +kernel)⟩, ⟨_, _, _, rfl⟩, fin _ (r10 _).1 (r10 _).2⟩)⟩⟩)⟩
      · exact ⟨_, rfl, _, rfl, _, _, rfl, rfl, CMul.ok (.inl ⟨by decide, by decide⟩), _, _, rfl, rfl, _, _, rfl, rfl, mulk, _, rfl, _, _, rfl, rfl, CMul.ok (.inl ⟨by decide, by decide⟩), _, _, rfl, rfl, _, _, rfl, rfl, _, _, rfl, rfl, (by show (0 : Int) < 99991; decide),
          _, rfl, .inl ⟨rfl, _, SqL.of hns⟩, _, rfl, _, rfl, _, _, rfl, rfl, _, rfl, _, _, rfl, rfl, _, _, rfl, rfl, CMul.ok (.inl ⟨by (first | lia | omega), by (first | lia | omega)⟩), _, _, rfl, rfl, (by show (0 : Int) < 99989; decide), D, _, _, rfl, rfl, hns, lz, ⟨_, _, _, rfl⟩, fin _ (e99 _).1 (e99 _).2⟩
    · exact iteF ⟨_, rfl, _, rfl, _, _, rfl, rfl, CMul.ok (.inl ⟨by decide, by decide⟩), _, _, rfl, rfl, _, _, rfl, rfl, mulk, _, rfl, _, _, rfl, rfl, CMul.ok (.inl ⟨by decide, by decide⟩), _, _, rfl, rfl, _, _, rfl, rfl, _, _, rfl, rfl, (by show (0 : Int) < 99991; decide),
          _, rfl, .inl ⟨rfl, _, SqL.of hns⟩, _, rfl, _, rfl, _, _, rfl, rfl, _, rfl, _, _, rfl, rfl, _, _, rfl, rfl, CMul.ok (.inl ⟨by (first | lia | omega), by (first | lia | omega)⟩), _, _, rfl, rfl, (by show (0 : Int) < 99989; decide), D, _, _, rfl, rfl, hns, lz, ⟨_, _, _, rfl⟩, fin _ (e99 _).1 (e99 _).2⟩
  · rintro σ H1 ⟨⟨r, v, w, rfl⟩, sm, ns, hns, hl, hb⟩
    exact ze_1_2 _ rfl (q D ns H1 sm hD hns hl hb)
theorem sc_law_above_by : FnScope ["_law_v"] ["_law_v"] (defScope s_law_above_by) := ⟨rfl, rfl, rfl, by decide +kernel, rfl, by decide +kernel, by decide +kernel⟩
theorem ok_law_above_by (F : Fun K "_law_above_by" "_law_above_by" s_law_above_by f fd) (T : Txt mg) (C_law_low : Cal P w K mg base "_law_low" 2 ["_law_top", "_law_bottom"] sp_lowQ) : FnOk P w K mg base CX0 3 f fd ["_law_v"] sp_above := by
  refine F.ok sc_law_above_by (fun vs H Q E h => ?_) (fun cdv A outer s H vs Q E hr h => ?_)
  · obtain ⟨v, rfl, _⟩ := h
    rfl
  obtain ⟨v, rfl, q⟩ := h
  have h3 := Int.emod_nonneg (v / 12) (show (12 : Int) ≠ 0 by decide)
  have h4 := Int.emod_lt_of_pos (v / 12) (show (0 : Int) < 12 by decide)
  refine ⟨_, (pss_one (ps_ret (pe_cl C_law_low hr (pa_cons (pe_op op_add pe_int (pe_op op_mod (pv 0) pe_int)) (pa_cons (pe_op op_add pe_int (pe_op op_mod (pe_op op_fdP (pv 0) pe_int) pe_int)) pa_nil))))), ?_⟩
  exact ze_1_2 _ rfl (ze_2_3 _ _ rfl rfl ⟨(by show (0 : Int) < 12; decide), ze_2_3 _ _ rfl rfl (ze_1_2 _ rfl (ze_2_3 _ _ rfl rfl ⟨⟨by decide, bt2 (by decide +kernel)⟩, ze_2_3 _ _ rfl rfl ⟨(by show (0 : Int) < 12; decide), ze_2_3 _ _ rfl rfl ⟨_, ze_1_2 _ rfl ⟨by (first | lia | omega), Bt.mono (m := 6) (Bt.between (by (first | lia | omega)) (by (first | lia | omega))) (by decide), fun r H' s' k => q r H' s' k⟩⟩⟩⟩))⟩)
theorem sc_law_cord_by : FnScope ["_law_script", "_law_most", "_law_head", "_law_many", "_law_xs", "_law_parts", "_law_k", "_law_cell"] ["_law_script", "_law_most"] (defScope s_law_cord_by) := ⟨rfl, rfl, rfl, by decide +kernel, rfl, by decide +kernel, by decide +kernel⟩
set_option maxHeartbeats 4000000 in
theorem ok_law_cord_by (F : Fun K "_law_cord_by" "_law_cord_by" s_law_cord_by f fd) (T : Txt mg) (C_law_cell_at : Cal P w K mg base "_law_cell_at" 1 ["_law_script", "_law_k"] (sp_cell0 K)) (C_law_numbers : Cal P w K mg base "_law_numbers" 1 ["_law_cell", "_law_many"] sp_numbers)
    (C_law_low : Cal P w K mg base "_law_low" 2 ["_law_top", "_law_bottom"] sp_lowQ) (C_law_above_by : Cal P w K mg base "_law_above_by" 3 ["_law_v"] sp_above) : FnOk P w K mg base CX0 4 f fd ["_law_script", "_law_most"] (sp_cord_by K) := by
  refine F.ok sc_law_cord_by (fun vs H Q E h => ?_) (fun cdv A outer s H vs Q E hr h => ?_)
  · obtain ⟨a, ns, most, rfl, _⟩ := h
    rfl
  obtain ⟨a, ns, mo, rfl, hS, bns, ⟨hm4, hm12⟩, q⟩ := h
  have hz : (1000 : Nat) < sizeLine := by decide
  refine ⟨_, (pss_cons (ps_set (i := 2) sc_law_cord_by.nd rfl (Or.inl rfl) (pe_cl C_law_cell_at hr (pa_cons (pv 0) (pa_cons pe_int pa_nil))))
      (pss_cons (ps_set (i := 3) sc_law_cord_by.nd rfl (Or.inl rfl) (pe_op op_mod (pv 2) pe_int))
      (pss_cons (ps_cut (ps_if (pt_cmpR op_eq (pe_op op_mod (pe_op op_fdP (pv 2) pe_int) pe_int) pe_int (nomark _))
        (pss_one (ps_set (i := 3) sc_law_cord_by.nd rfl (Or.inl rfl) (pe_op op_mod (pe_op op_fdP (pv 2) pe_int) (pe_op op_add (pv 1) pe_int))))
        pss_nil))
      (pss_cons (ps_set (i := 4) sc_law_cord_by.nd rfl (Or.inl rfl) (pe_cl C_law_numbers hr (pa_cons (pe_cl C_law_cell_at hr (pa_cons (pv 0) (pa_cons pe_int pa_nil))) (pa_cons (pe_op op_add (pe_op op_mulB pe_int (pv 3)) pe_int) pa_nil))))
      (pss_cons (ps_setComp (i := 5) sc_law_cord_by.nd rfl (Or.inl rfl) (N' := ["_law_v"]) (fsc := defScope s_law_cord_by) (N := ["_law_script", "_law_most", "_law_head", "_law_many", "_law_xs", "_law_parts", "_law_k", "_law_cell"]) [] ⟨rfl, by decide +kernel, by decide +kernel, by decide +kernel, rfl, by decide +kernel, rfl, by decide +kernel⟩ (pi_list (pv 4)) (fun _ _ _ _ => (pe_cl C_law_above_by hr (pa_cons (pv 0) pa_nil))))
      (pss_cons (ps_cut (ps_if (pt_cmpR op_eq (pe_op op_mod (pe_op op_fdP (pv 2) pe_int) pe_int) pe_int (nomark _))
        (pss_cons (ps_set (i := 3) sc_law_cord_by.nd rfl (Or.inl rfl) (pe_callB (call_min2 rfl) rfl T.z_min boot_min (pa_cons (pv 3) (pa_cons (pe_op op_add pe_int (pe_op op_fdP (pv 1) pe_int)) pa_nil))))
        (pss_cons (ps_set (i := 5) sc_law_cord_by.nd rfl (Or.inl rfl) (pe_lst pa_nil))
        (pss_one (ps_for PassesOwn.never rfl (pi_range1 rfl T.z_range (pa_cons (pe_op op_add (pe_op op_mulB pe_int (pv 3)) pe_int) pa_nil)) (pg_name (i := 6) sc_law_cord_by.nd rfl (Or.inl rfl))
          (pss_cons (ps_set (i := 7) sc_law_cord_by.nd rfl (Or.inl rfl) (pe_cl C_law_cell_at hr (pa_cons (pv 0) (pa_cons (pe_op op_add pe_int (pv 6)) pa_nil))))
          (pss_one (ps_expr (pe_bm PySem.F.plainAttrs_list PySem.F.slot_list_append PySem.F.type_list_append mt_append (pv 5) (pa_cons (pe_cl C_law_low hr (pa_cons (pe_op op_add pe_int (pe_op op_mod (pv 7) (pe_op op_sub (pe_op op_pow pe_int pe_int) pe_int))) (pa_cons (pe_op op_add pe_int (pe_op op_mod (pe_op op_mulB (pe_op op_add (pe_ix ix_list (pv 4) (pv 6) (fun _ _ => rfl)) (pe_op op_fdP (pv 7) pe_int)) (pe_op op_pow pe_int pe_int)) (pe_op op_sub (pe_op op_pow pe_int pe_int) pe_int))) pa_nil))) pa_nil)))))))))
        pss_nil))
      (pss_one (ps_ret (pe_tup (pa_cons (pe_slice sl_list (pv 5) po_none (po_some (pe_op op_add (pv 3) pe_int))) (pa_cons (pe_slice sl_list (pv 5) (po_some (pe_op op_add (pv 3) pe_int)) po_none) pa_nil))))))))))), ?_⟩
  refine ze_1_2 _ rfl ⟨a, ns, 0, rfl, hS, ?_⟩
  obtain ⟨hd, ehd⟩ : ∃ hd, hd = cell0 ns 0 := ⟨_, rfl⟩
  rw [← ehd]
  refine ze_1_2 _ rfl (ze_2_3 _ _ rfl rfl ⟨(by show (0 : Int) < 5; decide), ?_⟩)
  have h5 := Int.emod_nonneg hd (show (5 : Int) ≠ 0 by decide)
  have h5' := Int.emod_lt_of_pos hd (show (0 : Int) < 5 by decide)
  refine ⟨fun σ' H' => ∃ m : Nat, m ≤ mo ∧ σ' = [some (.ref a), some (.int mo), some (.int hd), some (.int m), none, none, none, none] ∧ H = H', ?tl, ?hd⟩
  case hd =>
    refine ze_1_2 _ rfl (ze_2_3 _ _ rfl rfl ⟨⟨by decide, bt2 (by decide +kernel)⟩, ze_2_3 _ _ rfl rfl ⟨(by show (0 : Int) < 8; decide), rfl, ze_1_2 _ rfl ?_⟩⟩)
    refine ite2 (fun _ => ?_) (fun _ => ⟨(hd % 5).toNat, by (first | lia | omega), ?_, rfl⟩)
    · have h6 := Int.emod_nonneg (hd / 40) (show (mo : Int) + 1 ≠ 0 by (first | lia | omega))
      have h6' := Int.emod_lt_of_pos (hd / 40) (show (0 : Int) < (mo : Int) + 1 by (first | lia | omega))
      refine ze_1_2 _ rfl (ze_2_3 _ _ rfl rfl ⟨⟨by decide, bt2 (by decide +kernel)⟩, ze_1_2 _ rfl (ze_2_3 _ _ rfl rfl (ze_2_3 _ _ rfl rfl ⟨(by show (0 : Int) < (mo : Int) + 1; (first | lia | omega)), (hd / 40 % ((mo : Int) + 1)).toNat, by (first | lia | omega), ?_, rfl⟩))⟩)
      have e : (((hd / 40 % ((mo : Int) + 1)).toNat : Nat) : Int) = hd / 40 % ((mo : Int) + 1) := by (first | lia | omega)
      rw [e]
      rfl
    · have e : (((hd % 5).toNat : Nat) : Int) = hd % 5 := by (first | lia | omega)
      rw [e]
      rfl
  rintro _ _ ⟨m, hm, rfl, rfl⟩
  refine ze_1_2 _ rfl ⟨a, ns, 1, rfl, hS, ze_1_2 _ rfl (ze_2_3 _ _ rfl rfl ⟨CMul.ok (.inl ⟨by decide, by decide⟩), ze_2_3 _ _ rfl rfl ⟨cell0 ns 1, 2 * m + 1, ?_, by (first | lia | omega), fun xs vs H1 s1 nx ex lx bx => ?_⟩⟩)⟩
  · simp
  refine ze_1_2 _ rfl ⟨xs, rfl, ⟨_, SqL.of ex⟩, comp_intsQ (by (first | lia | omega)) ex abv ?_ fun H2 D s2 nD rwD => ?_⟩
  · intro _ _ _ _ n H2 R hn s2 fin
    exact ze_1_2 _ rfl (ze_1_2 _ rfl (fun r H3 s3 k3 => fin r H3 s3 k3))
  have s12 := s1.trans s2
  refine ⟨CbyM H a xs mo hd, ?tl2, ?hd2⟩
  case hd2 =>
    refine ze_1_2 _ rfl (ze_2_3 _ _ rfl rfl ⟨⟨by decide, bt2 (by decide +kernel)⟩, ze_2_3 _ _ rfl rfl ⟨(by show (0 : Int) < 8; decide), rfl, ze_1_2 _ rfl ?_⟩⟩)
    refine ite2 (fun _ => ?_) (fun _ => ⟨m, D, _, _, ze_1_2 _ rfl ⟨s12, s1.free nD, rwD, by rw [List.length_map]; exact lx, hm, fun q hq => ?_, .inl fun q hq => ?_⟩⟩)
    · refine ze_1_2 _ rfl (ze_1_2 _ rfl (ze_2_3 _ _ rfl rfl ⟨⟨by decide, bt2 (by decide +kernel)⟩, ze_2_3 _ _ rfl rfl ⟨_, ze_1_2 _ rfl ?_⟩⟩))
      obtain ⟨m', hm'⟩ : ∃ m' : Nat, m' = min m (1 + mo / 11) := ⟨_, rfl⟩
      have em : (if (1 : Int) + (mo : Int) / 11 < (m : Int) then (1 : Int) + (mo : Int) / 11 else (m : Int)) = (m' : Int) := by
        split <;> (first | lia | omega)
      rw [em]
      have hm2 : m' ≤ m := by (first | lia | omega)
      have hm3 : m' ≤ 1 + mo / 11 := by (first | lia | omega)
      clear hm' em
      refine ⟨(by show 0 ≤ sizeLine; decide), fun pt hpt => ?_⟩
      have s3 := same_upd hpt (.lst [])
      refine ze_1_2 _ rfl (ze_2_3 _ _ rfl rfl ⟨CMul.ok (.inl ⟨by decide, by decide⟩), ze_2_3 _ _ rfl rfl (ze_1_2 _ rfl ⟨by (first | lia | omega), by (first | lia | omega), ?_⟩)⟩)
      rw [show (2 * (m' : Int) + 1).toNat = 2 * m' + 1 by (first | lia | omega)]
      refine for_range (n := 2 * m' + 1) (CbyI H2 a xs pt mo m' hd)
        ⟨_, _, [], rfl, s3, ⟨[], upd_same, .nil⟩, rfl, fun q hq => absurd hq (by simp), fun q hq => absurd hq (by simp)⟩ ?_ ?_
      · intro i σ H4 hi hI
        refine CbyI.elim hI fun v w qs eσ s4 rw4 l4 p4 b4 => ?_
        subst eσ
        have ci := cell0_bt bns (2 + i)
        refine ze_1_2 _ rfl (ze_1_2 _ rfl (ze_2_3 _ _ rfl rfl ⟨a, ns, 2 + i, ?_, (s12.trans s4).seq hS, ?_⟩))
        · simp
        obtain ⟨c, hc⟩ : ∃ c, c = cell0 ns (2 + i) := ⟨_, rfl⟩
        rw [← hc] at ci ⊢
        have hix : i < vs.length := by (first | lia | omega)
        have bxi := bx _ (List.getElem_mem hix)
        obtain ⟨x, hx⟩ : ∃ x, x = vs[i] := ⟨_, rfl⟩
        have exi : (vs.map V.int)[i]? = some (.int x) := by rw [List.getElem?_map, List.getElem?_eq_getElem hix, hx]; rfl
        rw [← hx] at bxi
        have h1 := Int.emod_nonneg c (show (10 ^ 30 - 1 : Int) ≠ 0 by decide)
        have h2 := Int.emod_lt_of_pos c (show (0 : Int) < 10 ^ 30 - 1 by decide)
        have h3 := Int.emod_nonneg ((x + c / 7) * 3 ^ 55) (show (10 ^ 30 - 1 : Int) ≠ 0 by decide)
        have h4 := Int.emod_lt_of_pos ((x + c / 7) * 3 ^ 55) (show (0 : Int) < 10 ^ 30 - 1 by decide)
        have ht : 0 < 1 + c % (10 ^ 30 - 1) := by (first | lia | omega)
        have hb : 0 < 1 + (x + c / 7) * 3 ^ 55 % (10 ^ 30 - 1) := by (first | lia | omega)
        have bt : Bt 101 (1 + c % (10 ^ 30 - 1)) := Bt.between (by (first | lia | omega)) (by (first | lia | omega))
        have bb : Bt 101 (1 + (x + c / 7) * 3 ^ 55 % (10 ^ 30 - 1)) := Bt.between (by (first | lia | omega)) (by (first | lia | omega))
        have mk : IntMulOk (x + c / 7) (3 ^ 55) := mul_of (m := 1048577) (n := 90) (bt_add (Bt.mono (m := 17) (Bt.between (by (first | lia | omega)) (by (first | lia | omega))) (by decide)) ci.ediv) (bt2 (by decide +kernel)) (by decide)
        obtain ⟨x4, e4, _⟩ := rw4.there
        refine ze_1_2 _ rfl ⟨.inl ⟨rfl, _, SqL.of e4⟩, ze_1_2 _ rfl (ze_2_3 _ _ rfl rfl ⟨⟨by decide, by decide, by decide⟩, ze_2_3 _ _ rfl rfl (ze_2_3 _ _ rfl rfl ⟨(by show (0 : Int) < 10 ^ 30 - 1; decide), ze_2_3 _ _ rfl rfl ?_⟩)⟩)⟩
        refine ze_1_2 _ rfl (ze_1_2 _ rfl (ze_4_5 xs _ _ _ rfl rfl (SqL.of ((s2.trans s4) _ _ ex)) (atI_0 exi) (ze_1_2 _ rfl (ze_2_3 _ _ rfl rfl ⟨⟨by decide, bt2 (by decide +kernel)⟩, ze_2_3 _ _ rfl rfl (ze_2_3 _ _ rfl rfl ⟨⟨by decide, by decide, by decide⟩, ze_2_3 _ _ rfl rfl ⟨mk, ze_2_3 _ _ rfl rfl ⟨⟨by decide, by decide, by decide⟩, ze_2_3 _ _ rfl rfl (ze_2_3 _ _ rfl rfl ⟨(by show (0 : Int) < 10 ^ 30 - 1; decide), ze_2_3 _ _ rfl rfl ⟨_, ze_1_2 _ rfl ⟨hb, bb.mono (by decide), fun p H5 s5 k5 => ?_⟩⟩⟩)⟩⟩⟩)⟩))))
        obtain ⟨xs5, hxs, hxl, rw5⟩ := rw4.app s5 k5
        have hlz : xs5.length < sizeLine := by (first | lia | omega)
        refine ⟨pt, xs5, ze_1_2 _ rfl ⟨rfl, hxs, hlz, _, _, ze_1_2 _ rfl ⟨same_updF (s4.trans s5) hpt _, rw5, by simp [l4], fun q hq => ?_, fun q hq => ?_⟩⟩⟩
        · rcases List.mem_append.mp hq with z | z
          · exact p4 q z
          · rw [List.mem_singleton.mp z]; exact div_pos ht hb
        · rcases List.mem_append.mp hq with z | z
          · exact b4 q z
          · rw [List.mem_singleton.mp z]; exact bq_of (Int.ne_of_gt hb) rfl bt bb
      · intro σ H4 hI
        refine CbyI.elim hI fun v w qs eσ s4 rw4 l4 p4 b4 => ?_
        subst eσ
        exact ⟨m', pt, qs, _, ze_1_2 _ rfl ⟨s12.trans s4, s12.free hpt, rw4, l4, by (first | lia | omega), p4, .inr ⟨hm3, b4⟩⟩⟩
    · obtain ⟨v, _, e⟩ := List.mem_map.mp hq
      rw [← e]; exact abv_pos v
    · obtain ⟨v, _, e⟩ := List.mem_map.mp hq
      rw [← e]; exact abv_bq v
  intro σ3 H3 hM
  refine CbyM.elim hM fun m' pt qs v w eσ s3 npt rp lq hm' pq sq => ?_
  subst eσ
  obtain ⟨ps, ep, kp⟩ := rp
  have lp := kp.length
  refine ze_1_2 _ rfl (ze_1_2 _ rfl (ze_2_3 _ _ rfl rfl (ze_1_2 _ rfl (ze_2_3 pt _ rfl (SqL.of ep) (fun ga hga => ?_)))))
  have e1 : cutV (ps.map V.ref) none (some ((m' : Int) + 1)) = (ps.take (m' + 1)).map V.ref := cut_to V.ref ps (m' + 1)
  have e2 : cutV (ps.map V.ref) (some ((m' : Int) + 1)) none = (ps.drop (m' + 1)).map V.ref := cut_from V.ref ps (m' + 1)
  have t1 := same_upd hga (.lst (cutV (ps.map V.ref) none (some ((m' : Int) + 1))))
  refine ze_1_2 _ rfl (ze_1_2 _ rfl (ze_2_3 _ _ rfl rfl (ze_1_2 _ rfl (ze_2_3 pt _ rfl (SqL.of (t1 _ _ ep)) (fun wa hwa => ⟨(by show 2 ≤ sizeLine; decide), fun r hr' => ?_⟩)))))
  have t2 := same_upd hwa (.lst (cutV (ps.map V.ref) (some ((m' : Int) + 1)) none))
  have t3 := same_upd hr' (.tup [.ref ga, .ref wa])
  have t := t1.trans (t2.trans t3)
  have nga : H ga = none := s3.free hga
  have nwa : H wa = none := s3.free (t1.free hwa)
  have ne : ga ≠ wa := ne_of_none upd_same hwa
  refine q r ga wa (qs.take (m' + 1)) (qs.drop (m' + 1)) _ (s3.trans t) upd_same nga nwa ne ⟨ps.take (m' + 1), ?_, (kp.take _).keep t⟩ ⟨ps.drop (m' + 1), ?_, (kp.drop _).keep t⟩ ⟨?_, ?_, ⟨fun q hq => pq q (List.mem_of_mem_take hq), fun q hq => pq q (List.mem_of_mem_drop hq)⟩, ?_⟩
  · rw [(t2.trans t3) _ _ upd_same, e1]
  · rw [t3 _ _ upd_same, e2]
  · rw [List.length_take, List.length_drop]; (first | lia | omega)
  · rw [List.length_drop]; (first | lia | omega)
  · rcases sq with z | ⟨z1, z⟩
    · exact .inl ⟨fun q hq => z q (List.mem_of_mem_take hq), fun q hq => z q (List.mem_of_mem_drop hq)⟩
    · exact .inr ⟨by rw [List.length_drop]; (first | lia | omega), fun q hq => z q (List.mem_of_mem_take hq), fun q hq => z q (List.mem_of_mem_drop hq)⟩

noncomputable def Co (C : Addr) (H : Hp) (c ga wa : Addr) (gs ws : List Rat) : Prop := (∃ dx, H c = some (.ins C dx [("kept_gaps", .ref ga), ("kept_weights", .ref wa)])) ∧ Rw H ga gs ∧ Rw H wa ws
theorem Co.keep {C : Addr} {H H' : Hp} {c ga wa : Addr} {gs ws : List Rat} (h : Co C H c ga wa gs ws) (s : Same H H') : Co C H' c ga wa gs ws := by
  obtain ⟨⟨dx, e⟩, r1, r2⟩ := h
  exact ⟨⟨dx, s _ _ e⟩, r1.keep s, r2.keep s⟩
theorem Co.sx {C : Addr} {S : List Addr} {H H' : Hp} {c ga wa : Addr} {gs ws : List Rat} (h : Co C H c ga wa gs ws) (s : Sx S H H') (hS : ∀ b ∈ S, ∃ xs, H b = some (.lst xs)) (n1 : ga ∉ S) (n2 : wa ∉ S) : Co C H' c ga wa gs ws := by
  obtain ⟨⟨dx, e⟩, r1, r2⟩ := h
  refine ⟨⟨dx, s _ _ (fun m => ?_) e⟩, r1.sx s n1 hS, r2.sx s n2 hS⟩
  obtain ⟨xs, e'⟩ := hS c m
  rw [e] at e'
  cases e'
structure Fine (gs ws : List Rat) : Prop where
  len : gs.length = ws.length + 1
  most : ws.length ≤ 12
  pos : (∀ q ∈ gs, 0 < q) ∧ ∀ q ∈ ws, 0 < q
  bq : (∀ q ∈ gs, Bq 101 q) ∧ ∀ q ∈ ws, Bq 101 q
theorem Drawn.fine {mo : Nat} {gs ws : List Rat} (d : Drawn mo gs ws) (h : mo ≤ 12) : Fine gs ws := ⟨d.len, Nat.le_trans d.most h, d.pos, d.bq⟩
noncomputable def sp_init (C : Addr) : Sp := fun vs H Q _ => ∃ x a b gs ws dx, vs = [.ref x, .ref a, .ref b] ∧ H x = some (.ins C dx []) ∧ Rw H a gs ∧ Rw H b ws ∧ Fine gs ws ∧
  ∀ ga wa H', (∀ b o, b ≠ x → H b = some o → H' b = some o) → H ga = none → H wa = none → Co C H' x ga wa gs ws → Q .non H'
structure Fine0 (gs ws : List Rat) : Prop where
  len : gs.length = ws.length + 1
  most : ws.length ≤ 12
  pos : (∀ q ∈ gs, 0 < q) ∧ ∀ q ∈ ws, 0 < q
theorem Fine.fine0 {gs ws : List Rat} (h : Fine gs ws) : Fine0 gs ws := ⟨h.len, h.most, h.pos⟩
noncomputable def sp_init0 (C : Addr) : Sp := fun vs H Q _ => ∃ x a b gs ws dx, vs = [.ref x, .ref a, .ref b] ∧ H x = some (.ins C dx []) ∧ Rw H a gs ∧ Rw H b ws ∧ Fine0 gs ws ∧
  ∀ ga wa H', (∀ b o, b ≠ x → H b = some o → H' b = some o) → H ga = none → H wa = none → Co C H' x ga wa gs ws → Q .non H'
noncomputable def sp_gaps (C : Addr) : Sp := fun vs H Q _ => ∃ c ga wa gs ws, vs = [.ref c] ∧ Co C H c ga wa gs ws ∧ ∀ r H', Same H H' → H r = none → Rw H' r gs → Q (.ref r) H'
noncomputable def sp_weights (C : Addr) : Sp := fun vs H Q _ => ∃ c ga wa gs ws, vs = [.ref c] ∧ Co C H c ga wa gs ws ∧ ∀ r H', Same H H' → H r = none → Rw H' r ws → Q (.ref r) H'
noncomputable def sp_frac : Sp := fun vs H Q _ => ∃ p q, vs = [.ref p] ∧ Pq H p q ∧ Q (.bl true) H
noncomputable def sp_row_above : Sp := fun vs H Q _ => ∃ a qs, vs = [.ref a] ∧ Rw H a qs ∧ (∀ q ∈ qs, 0 < q) ∧ qs.length ≤ 1000 ∧ ∀ H', Same H H' → Q (.bl true) H'
variable {o_Cord : Addr}
theorem sc_Cord_gaps : FnScope ["self"] ["self"] (defScope s_Cord_gaps) := ⟨rfl, rfl, rfl, by decide +kernel, rfl, by decide +kernel, by decide +kernel⟩
theorem ok_Cord_gaps (F : Fun K "gaps" "Cord.gaps" s_Cord_gaps f fd) (T : Txt mg) (O : OwnCord K mg o_Cord) : FnOk P w K mg base CX0 1 f fd ["self"] (sp_gaps o_Cord) := by
  refine F.ok sc_Cord_gaps (fun vs H Q E h => ?_) (fun cdv A outer s H vs Q E hr h => ?_)
  · obtain ⟨c, ga, wa, gs, ws, rfl, _⟩ := h
    rfl
  obtain ⟨c, ga, wa, gs, ws, rfl, ⟨⟨dx, e⟩, r1, r2⟩, q⟩ := h
  obtain ⟨xs, hx, _⟩ := r1.there
  refine ⟨_, (pss_one (ps_ret (pe_callTy call_list_of rfl T.z_list boot_list (pa_cons (pe_fld (pv 0) rfl) pa_nil)))), ?_⟩
  exact ze_1_2 _ rfl ⟨c, _, dx, _, ze_1_2 _ rfl ⟨e, O.cl, O.n_kept_gaps, rfl, ze_2_3 ga _ rfl (.inl (SqL.of hx)) (fun r hr' => q r _ (same_upd hr' _) hr' (r1.copy hx hr'))⟩⟩
theorem sc_Cord_weights : FnScope ["self"] ["self"] (defScope s_Cord_weights) := ⟨rfl, rfl, rfl, by decide +kernel, rfl, by decide +kernel, by decide +kernel⟩
theorem ok_Cord_weights (F : Fun K "weights" "Cord.weights" s_Cord_weights f fd) (T : Txt mg) (O : OwnCord K mg o_Cord) : FnOk P w K mg base CX0 1 f fd ["self"] (sp_weights o_Cord) := by
  refine F.ok sc_Cord_weights (fun vs H Q E h => ?_) (fun cdv A outer s H vs Q E hr h => ?_)
  · obtain ⟨c, ga, wa, gs, ws, rfl, _⟩ := h
    rfl
  obtain ⟨c, ga, wa, gs, ws, rfl, ⟨⟨dx, e⟩, r1, r2⟩, q⟩ := h
  obtain ⟨xs, hx, _⟩ := r2.there
  refine ⟨_, (pss_one (ps_ret (pe_callTy call_list_of rfl T.z_list boot_list (pa_cons (pe_fld (pv 0) rfl) pa_nil)))), ?_⟩
  exact ze_1_2 _ rfl ⟨c, _, dx, _, ze_1_2 _ rfl ⟨e, O.cl, O.n_kept_weights, rfl, ze_2_3 wa _ rfl (.inl (SqL.of hx)) (fun r hr' => q r _ (same_upd hr' _) hr' (r2.copy hx hr'))⟩⟩
theorem sc_is_fraction : FnScope ["thing"] ["thing"] (defScope s_is_fraction) := ⟨rfl, rfl, rfl, by decide +kernel, rfl, by decide +kernel, by decide +kernel⟩
theorem ok_is_fraction (F : Fun K "is_fraction" "is_fraction" s_is_fraction f fd) (T : Txt mg) (C_is_whole : Cal P w K mg base "is_whole" 1 ["thing"] sp_whole) (C_divisor : Cal P w K mg base "divisor" 1 ["one", "other"] sp_div) : FnOk P w K mg base CX0 2 f fd ["thing"] sp_frac := by
  refine F.ok sc_is_fraction (fun vs H Q E h => ?_) (fun cdv A outer s H vs Q E hr h => ?_)
  · obtain ⟨p, q, rfl, _⟩ := h
    rfl
  obtain ⟨p, q0, rfl, kp, q⟩ := h
  have hp := den_pos q0
  have hg : g q0.num q0.den = 1 := by
    unfold g
    rw [(fq q0).one]
    rfl
  refine ⟨_, (pss_cons (ps_if (PW.pt (pw_or (pt_not (pt_val (pe_callB call_isi rfl T.z_isinstance boot_isinstance (pa_cons (pv 0) (pa_cons (pe_bltn (v := .ty "tuple") rfl T.z_tuple boot_tuple rfl) pa_nil))))) (pw_or1 (pt_cmpR op_ne (pe_callB call_len_seq rfl T.z_len PySem.boot_len (pa_cons (pv 0) pa_nil)) pe_int (nomark _)))))
        (pss_one (ps_ret pe_bl))
        pss_nil)
      (pss_cons (ps_if (PW.pt (pw_or (pt_not (pt_val (pe_cl C_is_whole hr (pa_cons (pe_ix ix_tup (pv 0) pe_int (fun _ _ => rfl)) pa_nil)))) (pw_or1 (pt_not (pt_val (pe_cl C_is_whole hr (pa_cons (pe_ix ix_tup (pv 0) pe_int (fun _ _ => rfl)) pa_nil)))))))
        (pss_one (ps_ret pe_bl))
        pss_nil)
      (pss_one (ps_ret (pe_and (pe_cmpR op_ge (pe_ix ix_tup (pv 0) pe_int (fun _ _ => rfl)) pe_int (nomark _)) (pe_one (pe_cmpR op_eq (pe_cl C_divisor hr (pa_cons (pe_ix ix_tup (pv 0) pe_int (fun _ _ => rfl)) (pa_cons (pe_ix ix_tup (pv 0) pe_int (fun _ _ => rfl)) pa_nil))) pe_int (nomark _)))))))), ?_⟩
  refine ze_1_2 _ rfl ⟨_, _, _, ze_1_2 _ rfl ⟨TyOf.tup kp, kit_tup_tup _, ze_1_2 _ rfl (iteF ?_)⟩⟩
  refine ze_1_2 _ rfl ⟨_, ze_1_2 _ rfl ⟨.inr kp.sq, rfl, ze_1_2 _ rfl (iteNS rfl ?_)⟩⟩
  refine ze_1_2 _ rfl (ze_4_5 _ _ _ _ rfl rfl kp.sq rfl (ze_1_2 _ rfl (ze_1_2 _ rfl (iteF ?_))))
  refine ze_1_2 _ rfl (ze_4_5 _ _ _ _ rfl rfl kp.sq rfl (ze_1_2 _ rfl (ze_1_2 _ rfl (iteF ?_))))
  refine ze_1_2 _ rfl (ze_4_5 _ _ _ _ rfl rfl kp.sq rfl (ze_2_3 _ _ rfl rfl (ze_1_2 _ rfl (iteD (by (first | lia | omega)) ?_))))
  refine ze_1_2 _ rfl (ze_4_5 _ _ _ _ rfl rfl kp.sq rfl (ze_1_2 _ rfl (ze_4_5 _ _ _ _ rfl rfl kp.sq rfl (ze_2_3 _ _ rfl rfl ?_))))
  rw [hg]
  exact q
theorem sc_is_row_above : FnScope ["thing"] ["thing"] (defScope s_is_row_above) := ⟨rfl, rfl, rfl, by decide +kernel, rfl, by decide +kernel, by decide +kernel⟩
theorem ok_is_row_above (F : Fun K "is_row_above" "is_row_above" s_is_row_above f fd) (T : Txt mg) (C_is_fraction : Cal P w K mg base "is_fraction" 2 ["thing"] sp_frac) (C_side : Cal P w K mg base "side" 1 ["one"] sp_side) : FnOk P w K mg base CX0 3 f fd ["thing"] sp_row_above := by
  refine F.ok sc_is_row_above (fun vs H Q E h => ?_) (fun cdv A outer s H vs Q E hr h => ?_)
  · obtain ⟨a, qs, rfl, _⟩ := h
    rfl
  obtain ⟨a, qs, rfl, ra, hpos, hlen, q⟩ := h
  obtain ⟨ps, hx, kp⟩ := id ra
  have hl := kp.length
  refine ⟨_, (pss_cons (ps_if (pt_not (pt_val (pe_callB call_isi rfl T.z_isinstance boot_isinstance (pa_cons (pv 0) (pa_cons (pe_bltn (v := .ty "list") rfl T.z_list boot_list rfl) pa_nil)))))
        (pss_one (ps_ret pe_bl))
        pss_nil)
      (pss_one (ps_ret (pe_callB (call_all rfl) rfl T.z_all boot_all (pa_cons (pe_comp (N' := ["part"]) (fsc := defScope s_is_row_above) (N := ["thing"]) [] ⟨rfl, by decide +kernel, by decide +kernel, by decide +kernel, rfl, by decide +kernel, rfl, by decide +kernel⟩ (pi_list (pv 0)) (fun _ _ _ _ => (pe_and (pe_cl C_is_fraction hr (pa_cons (pv 0) pa_nil)) (pe_one (pe_cmpR op_eq (pe_cl C_side hr (pa_cons (pv 0) pa_nil)) pe_int (nomark _)))))) pa_nil))))), ?_⟩
  refine ze_1_2 _ rfl ⟨_, _, _, ze_1_2 _ rfl ⟨TyOf.lst hx, kit_lst_lst _, ze_1_2 _ rfl (iteF ?_)⟩⟩
  refine ze_1_2 _ rfl ⟨a, rfl, ⟨_, SqL.of hx⟩, comp_listB (xs := ps.map V.ref) (by rw [List.length_map]; (first | lia | omega)) hx (fun _ => true) ?_ fun H1 D s1 nD eD => ?_⟩
  · intro _ _ _ _ x H1 R hxm s1 fin
    obtain ⟨p1, hp1, rfl⟩ := List.mem_map.mp hxm
    obtain ⟨q1, hq1, k1⟩ := paired_left kp hp1
    have hn : 0 < q1.num := by
      have := hpos _ hq1
      have h0 : 0 ≤ q1.num := Rat.num_nonneg.mpr (Rat.le_of_lt this)
      have h1 : q1.num ≠ 0 := fun z => Rat.ne_of_gt this (Rat.num_eq_zero.mp z)
      (first | lia | omega)
    have k2 := k1.keep s1
    refine ze_1_2 _ rfl ⟨p1, ze_1_2 _ rfl ⟨k2, ze_1_2 _ rfl (iteT ?_)⟩⟩
    refine ze_1_2 _ rfl (ze_3_4 p1 _ _ rfl k2 rfl ?_)
    have es : sgn q1.num = 1 := by unfold sgn; rw [if_pos hn]
    rw [es]
    exact fin H1 (Same.refl _)
  · refine ⟨D, ze_1_2 _ rfl ⟨SqL.of eD, ?_⟩⟩
    have e : ((ps.map V.ref).map fun _ => true).all id = true := by simp
    rw [e]
    exact q H1 s1
theorem sc_Cord_init : FnScope ["self", "gaps", "weights"] ["self", "gaps", "weights"] (defScope s_Cord_init) := ⟨rfl, rfl, rfl, by decide +kernel, rfl, by decide +kernel, by decide +kernel⟩
theorem ok_Cord_init0 (F : Fun K "__init__" "Cord.__init__" s_Cord_init f fd) (T : Txt mg) (O : OwnCord K mg o_Cord) (C_is_row_above : Cal P w K mg base "is_row_above" 3 ["thing"] sp_row_above) : FnOk P w K mg base CX0 4 f fd ["self", "gaps", "weights"] (sp_init0 o_Cord) := by
  refine F.ok sc_Cord_init (fun vs H Q E h => ?_) (fun cdv A outer s H vs Q E hr h => ?_)
  · obtain ⟨x, a, b, gs, ws, dx, rfl, _⟩ := h
    rfl
  obtain ⟨x, a, b, gs, ws, dx, rfl, ex0, ra0, rb0, fine, q0⟩ := h
  have hlen := fine.len
  have hmost := fine.most
  refine ⟨_, (pss_cons (ps_if (PW.pt (pw_or (pt_not (pt_val (pe_cl C_is_row_above hr (pa_cons (pv 1) pa_nil)))) (pw_or1 (pt_not (pt_val (pe_cl C_is_row_above hr (pa_cons (pv 2) pa_nil)))))))
        (pss_one ps_never)
        pss_nil)
      (pss_cons (ps_if (PW.pt (pw_or (pt_cmpR op_ne (pe_callB call_len_seq rfl T.z_len PySem.boot_len (pa_cons (pv 1) pa_nil)) (pe_op op_add (pe_callB call_len_seq rfl T.z_len PySem.boot_len (pa_cons (pv 2) pa_nil)) pe_int) (nomark _)) (pw_or1 (pt_cmpR op_gt (pe_callB call_len_seq rfl T.z_len PySem.boot_len (pa_cons (pv 2) pa_nil)) (pe_globI rfl T.c_MOST_BEADS) (nomark _)))))
        (pss_one ps_never)
        pss_nil)
      (pss_cons (ps_fld (pv 0) (pe_callTy call_list_of rfl T.z_list boot_list (pa_cons (pv 1) pa_nil)) rfl)
      (pss_one (ps_fld (pv 0) (pe_callTy call_list_of rfl T.z_list boot_list (pa_cons (pv 2) pa_nil)) rfl))))), ?_⟩
  refine ze_1_2 _ rfl (ze_2_5 a gs rfl ra0 fine.pos.1 (by (first | lia | omega)) (fun H1 t1 => (ze_1_2 _ rfl (iteF ?_))))
  refine ze_1_2 _ rfl (ze_2_5 b ws rfl (rb0.keep t1) fine.pos.2 (by (first | lia | omega)) (fun H2 t2 => (ze_1_2 _ rfl (iteF ?_))))
  have t12 := t1.trans t2
  have ex := t12 _ _ ex0
  have ra := ra0.keep t12
  have rb := rb0.keep t12
  have q : ∀ ga wa H', (∀ b o, b ≠ x → H2 b = some o → H' b = some o) → H2 ga = none → H2 wa = none → Co o_Cord H' x ga wa gs ws → Q .non H' := fun ga wa H' k n1 n2 co => q0 ga wa H' (fun b o n e => k b o n (t12 _ _ e)) (t12.free n1) (t12.free n2) co
  clear q0 ex0 ra0 rb0 t1
  clear t12
  clear t2
  clear H1
  generalize H2 = H at *
  obtain ⟨xa, ea, la⟩ := ra.there
  obtain ⟨xb, eb, lb⟩ := rb.there
  refine ze_1_2 _ rfl (ze_2_3 _ _ rfl (.inl (SqL.of ea)) (ze_1_2 _ rfl (ze_2_3 _ _ rfl (.inl (SqL.of eb)) (ze_2_3 _ _ rfl rfl ⟨rfl, ze_1_2 _ rfl (iteNS (by rw [la, lb]; exact congrArg V.int (by (first | lia | omega))) ?_)⟩))))
  refine ze_1_2 _ rfl (ze_2_3 _ _ rfl (.inl (SqL.of eb)) (ze_2_3 _ _ rfl rfl (ze_1_2 _ rfl (iteND (by (first | lia | omega)) ?_))))
  refine ze_1_2 _ rfl (ze_2_3 a _ rfl (.inl (SqL.of ea)) (fun ga hga => ?_))
  have s1 := same_upd hga (.lst xa)
  have r1 := ra.copy ea hga
  refine ze_1_2 _ rfl ⟨x, _, dx, ze_1_2 _ rfl ⟨s1 _ _ ex, O.cl, O.n_kept_gaps, by decide, ?_⟩⟩
  have nxa : x ≠ ga := ne_of_none ex hga
  have nb : b ≠ x := ne_of eb ex (by intro z; cases z)
  obtain ⟨H2, e2⟩ : ∃ H2, H2 = upd (upd H ga (.lst xa)) x (.ins o_Cord dx (putF "kept_gaps" (.ref ga) [])) := ⟨_, rfl⟩
  rw [← e2]
  have k2 : ∀ c o, c ≠ x → (upd H ga (.lst xa)) c = some o → H2 c = some o := fun c o n e => by rw [e2, upd_ne n]; exact e
  have rows : ∀ {c : Addr} {qs : List Rat}, Rw (upd H ga (.lst xa)) c qs → Rw H2 c qs := fun {c qs} r => by
    obtain ⟨ps, h1, h2⟩ := r
    exact ⟨ps, k2 _ _ (ne_of h1 (s1 _ _ ex) (by intro z; cases z)) h1, Paired.imp' (fun p t z => by
      have z' : (upd H ga (.lst xa)) p = some (.tup [.int t.num, .int t.den]) := z
      exact k2 _ _ (ne_of z' (s1 _ _ ex) (by intro w; cases w)) z') h2⟩
  have rb2 := rows (rb.keep s1)
  have rg2 := rows r1
  have ex2 : H2 x = some (.ins o_Cord dx [("kept_gaps", .ref ga)]) := by rw [e2, upd_same]; rfl
  obtain ⟨xb2, eb2, lb2⟩ := rb2.there
  refine ze_1_2 _ rfl (ze_2_3 b _ rfl (.inl (SqL.of eb2)) (fun wa hwa => ?_))
  have s3 := same_upd hwa (.lst xb2)
  have r3 := rb2.copy eb2 hwa
  refine ze_1_2 _ rfl ⟨x, _, dx, ze_1_2 _ rfl ⟨s3 _ _ ex2, O.cl, O.n_kept_weights, (by show 1 < 1000; decide), ?_⟩⟩
  obtain ⟨H4, e4⟩ : ∃ H4, H4 = upd (upd H2 wa (.lst xb2)) x (.ins o_Cord dx (putF "kept_weights" (.ref wa) [("kept_gaps", .ref ga)])) := ⟨_, rfl⟩
  have k4 : ∀ c o, c ≠ x → (upd H2 wa (.lst xb2)) c = some o → H4 c = some o := fun c o n e => by rw [e4, upd_ne n]; exact e
  have rows4 : ∀ {c : Addr} {qs : List Rat}, Rw (upd H2 wa (.lst xb2)) c qs → Rw H4 c qs := fun {c qs} r => by
    obtain ⟨ps, h1, h2⟩ := r
    exact ⟨ps, k4 _ _ (ne_of h1 (s3 _ _ ex2) (by intro z; cases z)) h1, Paired.imp' (fun p t z => by
      have z' : (upd H2 wa (.lst xb2)) p = some (.tup [.int t.num, .int t.den]) := z
      exact k4 _ _ (ne_of z' (s3 _ _ ex2) (by intro w; cases w)) z') h2⟩
  have fin := q ga wa H4 (fun c o n e => k4 c o n (s3 _ _ (k2 c o n (s1 _ _ e)))) hga ?_ ⟨⟨dx, ?_⟩, rows4 (rg2.keep s3), rows4 r3⟩
  · rw [e4] at fin
    exact fin
  · cases hw : H wa with
    | none => rfl
    | some o =>
      by_cases n : wa = x
      · rw [n, ex2] at hwa; cases hwa
      · rw [k2 wa o n (s1 _ _ hw)] at hwa; cases hwa
  · rw [e4, upd_same]; rfl
theorem ok_Cord_init (F : Fun K "__init__" "Cord.__init__" s_Cord_init f fd) (T : Txt mg) (O : OwnCord K mg o_Cord) (C_is_row_above : Cal P w K mg base "is_row_above" 3 ["thing"] sp_row_above) : FnOk P w K mg base CX0 4 f fd ["self", "gaps", "weights"] (sp_init o_Cord) :=
  (ok_Cord_init0 F T O C_is_row_above).imp fun _ _ _ _ ⟨x, a, b, gs, ws, dx, e, ex, ra, rb, fine, q⟩ => ⟨x, a, b, gs, ws, dx, e, ex, ra, rb, fine.fine0, q⟩

noncomputable def sp_walk : Sp := fun vs H Q _ => ∃ (g w tp : Addr) (gs ws : List Rat) (t : Rat) (hz sl : Int), vs = [.ref g, .ref w, .ref tp, .int hz, .int sl] ∧ Rw H g gs ∧ Rw H w ws ∧ Pq H tp t ∧ gs.length = ws.length + 1 ∧ ws.length ≤ 12 ∧ (∀ q ∈ gs, Bq 101 q) ∧ (∀ q ∈ ws, Bq 101 q) ∧ Bq 334 t ∧ Bt 203 hz ∧ Bt 203 sl ∧
  ∀ r H', Same H H' → H r = none → Rp H' r (Po.walkQ gs ws t hz sl) → Q (.ref r) H'
noncomputable def WkR (gs ws : List Rat) (t : Rat) (hz sl : Int) (i : Nat) (th tl m : Int) : Prop := match i with | 0 => th = hz ∧ tl = sl ∧ m = 1 | k + 1 => Po.R3 (204 + 538 * (k + 1)) (Po.stp gs ws t hz sl k).1 (Po.stp gs ws t hz sl k).2 th tl m
noncomputable def WkI (H : Hp) (ga wa tp D : Addr) (gs ws : List Rat) (t : Rat) (hz sl : Int) (i : Nat) (σ : L2.St) (H' : Hp) : Prop := ∃ (th tl m : Int) (v w : Option V), σ = [some (.ref ga), some (.ref wa), some (.ref tp), some (.int th), some (.int tl), some (.ref D), some (.int m), v, w] ∧ WkR gs ws t hz sl i th tl m ∧ Same H H' ∧ Rp H' D ((List.range i).map (Po.stp gs ws t hz sl))
noncomputable def WkM (H1 : Hp) (ga wa tp D : Addr) (gs ws : List Rat) (t : Rat) (hz sl : Int) (i : Nat) (σ' : L2.St) (H' : Hp) : Prop := ∃ (th tl m : Int) (h l : Rat) (w' : Option V), σ' = [some (.ref ga), some (.ref wa), some (.ref tp), some (.int th), some (.int tl), some (.ref D), some (.int m), some (.int (0 + (i : Int))), w'] ∧ Po.R3 (204 + 538 * (i + 1) - 102) h l th tl m ∧ h + gs.getD i 0 * l = (Po.stp gs ws t hz sl i).1 ∧ l = (Po.stp gs ws t hz sl i).2 ∧ H1 = H'
theorem WkI.elim {H : Hp} {ga wa tp D : Addr} {gs ws : List Rat} {t : Rat} {hz sl : Int} {i : Nat} {σ : L2.St} {H' : Hp} {G : Prop} (h : WkI H ga wa tp D gs ws t hz sl i σ H') (k : ∀ (th tl m : Int) (v w : Option V), σ = [some (.ref ga), some (.ref wa), some (.ref tp), some (.int th), some (.int tl), some (.ref D), some (.int m), v, w] → (WkR gs ws t hz sl i th tl m) → (Same H H') → (Rp H' D ((List.range i).map (Po.stp gs ws t hz sl))) → G) : G := by
  obtain ⟨th, tl, m, v, w, h0', h1', h2', h3'⟩ := h
  exact k _ _ _ _ _ h0' h1' h2' h3'
theorem WkM.elim {H1 : Hp} {ga wa tp D : Addr} {gs ws : List Rat} {t : Rat} {hz sl : Int} {i : Nat} {σ' : L2.St} {H' : Hp} {G : Prop} (h : WkM H1 ga wa tp D gs ws t hz sl i σ' H') (k : ∀ (th tl m : Int) (h l : Rat) (w' : Option V), σ' = [some (.ref ga), some (.ref wa), some (.ref tp), some (.int th), some (.int tl), some (.ref D), some (.int m), some (.int (0 + (i : Int))), w'] → (Po.R3 (204 + 538 * (i + 1) - 102) h l th tl m) → (h + gs.getD i 0 * l = (Po.stp gs ws t hz sl i).1) → (l = (Po.stp gs ws t hz sl i).2) → (H1 = H') → G) : G := by
  obtain ⟨th, tl, m, h, l, w', h0', h1', h2', h3', h4'⟩ := h
  exact k _ _ _ _ _ _ h0' h1' h2' h3' h4'
theorem sc_law_walk : FnScope ["_law_gaps", "_law_weights", "_law_t", "_law_height", "_law_lean", "_law_rows", "_law_low_here", "_law_k", "_law_load"] ["_law_gaps", "_law_weights", "_law_t", "_law_height", "_law_lean"] (defScope s_law_walk) := ⟨rfl, rfl, rfl, by decide +kernel, rfl, by decide +kernel, by decide +kernel⟩
set_option maxHeartbeats 4000000 in
theorem ok_law_walk (F : Fun K "_law_walk" "_law_walk" s_law_walk f fd) (T : Txt mg) (C_law_low : Cal P w K mg base "_law_low" 2 ["_law_top", "_law_bottom"] sp_lowQ) : FnOk P w K mg base CX0 3 f fd ["_law_gaps", "_law_weights", "_law_t", "_law_height", "_law_lean"] sp_walk := by
  refine F.ok sc_law_walk (fun vs H Q E h => ?_) (fun cdv A outer s H vs Q E hr h => ?_)
  · obtain ⟨g, w, tp, gs, ws, t, hz, sl, rfl, _⟩ := h
    rfl
  obtain ⟨ga, wa, tp, gs, ws, t, hz, sl, rfl, ⟨pg, eg, kg⟩, ⟨pw, ew, kw⟩, kt, hlen, hmost, bg, bw, bt, bh, bs, q⟩ := h
  have lg := kg.length
  have lw := kw.length
  have hsz : (1000 : Nat) < sizeLine := by decide
  refine ⟨_, (pss_cons (ps_set (i := 5) sc_law_walk.nd rfl (Or.inl rfl) (pe_lst pa_nil))
      (pss_cons (ps_set (i := 6) sc_law_walk.nd rfl (Or.inl rfl) pe_int)
      (pss_cons (ps_for PassesOwn.never rfl (pi_range1 rfl T.z_range (pa_cons (pe_callB call_len_seq rfl T.z_len PySem.boot_len (pa_cons (pv 0) pa_nil)) pa_nil)) (pg_name (i := 7) sc_law_walk.nd rfl (Or.inl rfl))
        (pss_cons (ps_cut (ps_if (pt_cmpR op_gt (pv 7) pe_int (nomark _))
          (pss_cons (ps_set (i := 8) sc_law_walk.nd rfl (Or.inl rfl) (pe_ix ix_list (pv 1) (pe_op op_sub (pv 7) pe_int) (fun _ _ => rfl)))
          (pss_cons (ps_set (i := 4) sc_law_walk.nd rfl (Or.inl rfl) (pe_op op_sub (pe_op op_mulB (pe_op op_mulB (pv 4) (pe_ix ix_tup (pv 2) pe_int (fun _ _ => rfl))) (pe_ix ix_tup (pv 8) pe_int (fun _ _ => rfl))) (pe_op op_mulB (pe_op op_mulB (pe_ix ix_tup (pv 2) pe_int (fun _ _ => rfl)) (pe_ix ix_tup (pv 8) pe_int (fun _ _ => rfl))) (pv 3))))
          (pss_cons (ps_set (i := 3) sc_law_walk.nd rfl (Or.inl rfl) (pe_op op_mulB (pe_op op_mulB (pv 3) (pe_ix ix_tup (pv 2) pe_int (fun _ _ => rfl))) (pe_ix ix_tup (pv 8) pe_int (fun _ _ => rfl))))
          (pss_one (ps_set (i := 6) sc_law_walk.nd rfl (Or.inl rfl) (pe_op op_mulB (pe_op op_mulB (pv 6) (pe_ix ix_tup (pv 2) pe_int (fun _ _ => rfl))) (pe_ix ix_tup (pv 8) pe_int (fun _ _ => rfl))))))))
          pss_nil))
        (pss_cons (ps_set (i := 3) sc_law_walk.nd rfl (Or.inl rfl) (pe_op op_add (pe_op op_mulB (pv 3) (pe_ix ix_tup (pe_ix ix_list (pv 0) (pv 7) (fun _ _ => rfl)) pe_int (fun _ _ => rfl))) (pe_op op_mulB (pe_ix ix_tup (pe_ix ix_list (pv 0) (pv 7) (fun _ _ => rfl)) pe_int (fun _ _ => rfl)) (pv 4))))
        (pss_cons (ps_set (i := 4) sc_law_walk.nd rfl (Or.inl rfl) (pe_op op_mulB (pv 4) (pe_ix ix_tup (pe_ix ix_list (pv 0) (pv 7) (fun _ _ => rfl)) pe_int (fun _ _ => rfl))))
        (pss_cons (ps_set (i := 6) sc_law_walk.nd rfl (Or.inl rfl) (pe_op op_mulB (pv 6) (pe_ix ix_tup (pe_ix ix_list (pv 0) (pv 7) (fun _ _ => rfl)) pe_int (fun _ _ => rfl))))
        (pss_one (ps_expr (pe_bm PySem.F.plainAttrs_list PySem.F.slot_list_append PySem.F.type_list_append mt_append (pv 5) (pa_cons (pe_tup (pa_cons (pe_cl C_law_low hr (pa_cons (pv 3) (pa_cons (pv 6) pa_nil))) (pa_cons (pe_cl C_law_low hr (pa_cons (pv 4) (pa_cons (pv 6) pa_nil))) pa_nil))) pa_nil)))))))))
      (pss_one (ps_ret (pv 5)))))), ?_⟩
  refine ⟨(by show 0 ≤ sizeLine; decide), fun D hD => ?_⟩
  have s0 := same_upd hD (.lst [])
  refine ze_1_2 _ rfl (ze_2_3 _ _ rfl (.inl (SqL.of (s0 _ _ eg))) (ze_1_2 _ rfl ⟨by (first | lia | omega), by rw [List.length_map]; (first | lia | omega), ?_⟩))
  rw [Int.toNat_natCast, List.length_map, lg]
  refine for_range (n := gs.length) (WkI H ga wa tp D gs ws t hz sl)
    ⟨_, _, _, _, _, rfl, ⟨rfl, rfl, rfl⟩, s0, ⟨[], upd_same, .nil⟩⟩ ?_ ?_
  · intro i σ H1 hi hI
    refine WkI.elim hI fun th tl m v w' eσ inv sm rp => ?_
    subst eσ
    -- ahead of the gap
    refine ⟨WkM H1 ga wa tp D gs ws t hz sl i, ?tl, ?hd⟩
    case hd =>
      refine ze_1_2 _ rfl (ze_2_3 _ _ rfl rfl (ze_1_2 _ rfl ?_))
      cases i with
      | zero =>
        obtain ⟨rfl, rfl, rfl⟩ := inv
        refine iteND (by decide) ?_
        refine ⟨_, _, _, (th : Rat), (tl : Rat), ze_1_2 _ rfl ⟨⟨by decide, ?_, ?_, bh.mono (by decide), bs.mono (by decide), bt2 (by decide +kernel)⟩, rfl, rfl, rfl⟩⟩
        · exact over_one _
        · exact over_one _
      | succ k =>
        have inv' : Po.R3 (204 + 538 * (k + 1)) (Po.stp gs ws t hz sl k).1 (Po.stp gs ws t hz sl k).2 th tl m := inv
        have hk : k < ws.length := by (first | lia | omega)
        obtain ⟨p0, e0, k0⟩ := kw.get (List.getElem?_eq_getElem hk)
        have ei : atI (pw.map V.ref) (0 + ((k + 1 : Nat) : Int) - 1) = some (.ref p0) := by
          rw [show (0 : Int) + ((k + 1 : Nat) : Int) - 1 = (k : Int) by (first | lia | omega)]
          exact atI_nat e0
        have kt1 := kt.keep sm
        have k01 := k0.keep sm
        have bwk := bw _ (List.getElem_mem hk)
        have r' := inv'.bead bt bwk
        obtain ⟨hm, _, _, b1, b2, b3⟩ := inv'
        refine iteD (by (first | lia | omega)) ?_
        refine ze_1_2 _ rfl (ze_1_2 _ rfl (ze_2_3 _ _ rfl rfl (ze_4_5 wa _ _ _ rfl rfl (SqL.of (sm _ _ ew)) ei ?_)))
        refine ze_1_2 _ rfl (ze_1_2 _ rfl (ze_4_5 _ _ _ _ rfl rfl kt1.sq rfl (ze_2_3 _ _ rfl rfl ⟨mul_of b2 bt.2 (by (first | lia | omega)), ze_1_2 _ rfl (ze_4_5 _ _ _ _ rfl rfl k01.sq rfl (ze_2_3 _ _ rfl rfl ⟨mul_of (b2.mul bt.2) bwk.2 (by (first | lia | omega)), ze_1_2 _ rfl (ze_4_5 _ _ _ _ rfl rfl kt1.sq rfl (ze_1_2 _ rfl (ze_4_5 _ _ _ _ rfl rfl k01.sq rfl (ze_2_3 _ _ rfl rfl ⟨mul_of bt.1 bwk.1 (by (first | lia | omega)), ze_1_2 _ rfl (ze_2_3 _ _ rfl rfl ⟨mul_of (bt.1.mul bwk.1) b1 (by (first | lia | omega)), ze_2_3 _ _ rfl rfl ?_⟩)⟩))))⟩))⟩)))
        refine ze_1_2 _ rfl (ze_1_2 _ rfl (ze_4_5 _ _ _ _ rfl rfl kt1.sq rfl (ze_2_3 _ _ rfl rfl ⟨mul_of b1 bt.2 (by (first | lia | omega)), ze_1_2 _ rfl (ze_4_5 _ _ _ _ rfl rfl k01.sq rfl (ze_2_3 _ _ rfl rfl ⟨mul_of (b1.mul bt.2) bwk.2 (by (first | lia | omega)), ?_⟩))⟩)))
        refine ze_1_2 _ rfl (ze_1_2 _ rfl (ze_4_5 _ _ _ _ rfl rfl kt1.sq rfl (ze_2_3 _ _ rfl rfl ⟨mul_of b3 bt.2 (by (first | lia | omega)), ze_1_2 _ rfl (ze_4_5 _ _ _ _ rfl rfl k01.sq rfl (ze_2_3 _ _ rfl rfl ⟨mul_of (b3.mul bt.2) bwk.2 (by (first | lia | omega)), ?_⟩))⟩)))
        have gw : ws.getD k 0 = ws[k] := by rw [List.getD_eq_getElem?_getD, List.getElem?_eq_getElem hk]; rfl
        refine ⟨_, _, _, _, _, ze_1_2 _ rfl ⟨r'.mono (by (first | lia | omega)), ?_, ?_, rfl⟩⟩
        · show _ = (Po.stp gs ws t hz sl k).1 + gs.getD (k + 1) 0 * ((Po.stp gs ws t hz sl k).2 - t * ws.getD k 0 * (Po.stp gs ws t hz sl k).1)
          rw [gw]
        · show _ = (Po.stp gs ws t hz sl k).2 - t * ws.getD k 0 * (Po.stp gs ws t hz sl k).1
          rw [gw]
    intro σ2 H2 hM
    refine WkM.elim hM fun th tl m h l w' eσ r e1 e2 eH => ?_
    subst eσ
    subst eH
    obtain ⟨p0, e0, k0⟩ := kg.get (List.getElem?_eq_getElem hi)
    have k01 := k0.keep sm
    have bgi := bg _ (List.getElem_mem hi)
    have gg : gs.getD i 0 = gs[i] := by rw [List.getD_eq_getElem?_getD, List.getElem?_eq_getElem hi]; rfl
    rw [gg] at e1
    have r' := (r.gap bgi).mono (show 204 + 538 * (i + 1) - 102 + 101 + 1 ≤ 204 + 538 * (i + 1) by (first | lia | omega))
    rw [e1, e2] at r'
    obtain ⟨_, _, _, b1, b2, b3⟩ := r
    have eg1 := sm _ _ eg
    refine ze_1_2 _ rfl (ze_1_2 _ rfl (ze_1_2 _ rfl (ze_4_5 ga _ _ _ rfl rfl (SqL.of eg1) (atI_0 e0) (ze_4_5 _ _ _ _ rfl rfl k01.sq rfl (ze_2_3 _ _ rfl rfl ⟨mul_of b1 bgi.2 (by (first | lia | omega)), ze_1_2 _ rfl (ze_1_2 _ rfl (ze_4_5 ga _ _ _ rfl rfl (SqL.of eg1) (atI_0 e0) (ze_4_5 _ _ _ _ rfl rfl k01.sq rfl (ze_1_2 _ rfl (ze_2_3 _ _ rfl rfl ⟨mul_of bgi.1 b2 (by (first | lia | omega)), ze_2_3 _ _ rfl rfl ?_⟩)))))⟩)))))
    refine ze_1_2 _ rfl (ze_1_2 _ rfl (ze_1_2 _ rfl (ze_4_5 ga _ _ _ rfl rfl (SqL.of eg1) (atI_0 e0) (ze_4_5 _ _ _ _ rfl rfl k01.sq rfl (ze_2_3 _ _ rfl rfl ⟨mul_of b2 bgi.2 (by (first | lia | omega)), ?_⟩)))))
    refine ze_1_2 _ rfl (ze_1_2 _ rfl (ze_1_2 _ rfl (ze_4_5 ga _ _ _ rfl rfl (SqL.of eg1) (atI_0 e0) (ze_4_5 _ _ _ _ rfl rfl k01.sq rfl (ze_2_3 _ _ rfl rfl ⟨mul_of b3 bgi.2 (by (first | lia | omega)), ?_⟩)))))
    obtain ⟨hm', eh', el', c1, c2, c3⟩ := id r'
    obtain ⟨x1, f1, _⟩ := rp.there
    refine ze_1_2 _ rfl ⟨.inl ⟨rfl, _, SqL.of f1⟩, ze_1_2 _ rfl (ze_1_2 _ rfl ⟨_, ze_1_2 _ rfl ⟨hm', c3.mono (by (first | lia | omega)), fun pa H2 s2 ka => ?_⟩⟩)⟩
    refine ze_1_2 _ rfl (ze_1_2 _ rfl ⟨_, ze_1_2 _ rfl ⟨hm', c3.mono (by (first | lia | omega)), fun pb H3 s3 kb => ⟨(by show 2 ≤ sizeLine; decide), fun r2 hr2 => ?_⟩⟩⟩)
    have s4 := same_upd hr2 (.tup [.ref pa, .ref pb])
    have tq : Tq (upd H3 r2 (.tup [.ref pa, .ref pb])) r2 (Po.stp gs ws t hz sl i) := by
      refine ⟨pa, pb, upd_same, ?_, ?_⟩
      · rw [eh']; exact (ka.keep s3).keep s4
      · rw [el']; exact kb.keep s4
    obtain ⟨xs, hxs, hxl, rp5⟩ := rp.app (s2.trans (s3.trans s4)) tq
    rw [List.length_map, List.length_range] at hxl
    refine ⟨D, xs, ze_1_2 _ rfl ⟨rfl, hxs, by (first | lia | omega), _, _, _, _, ze_1_2 _ rfl ⟨r', same_updF (sm.trans (s2.trans (s3.trans s4))) hD _, ?_⟩⟩⟩
    rw [List.range_succ, List.map_append]
    exact rp5
  · intro σ H1 hI
    refine WkI.elim hI fun th tl m v w' eσ _ sm rp => ?_
    subst eσ
    exact ze_1_2 _ rfl (q D H1 sm hD rp)

structure Sized (gs ws : List Rat) : Prop where
  len : gs.length = ws.length + 1
  most : ws.length ≤ 12
  bq : ∃ b, 0 < b ∧ (∀ q ∈ gs, Bq b q) ∧ (∀ q ∈ ws, Bq b q) ∧ (2 * b + 2) * (ws.length + 1) ≤ 1300
theorem Drawn.sized {mo : Nat} {gs ws : List Rat} (d : Drawn mo gs ws) (h : mo ≤ 12) : Sized gs ws := by
  have hm := d.most
  refine ⟨d.len, by (first | lia | omega), ?_⟩
  rcases d.size with ⟨a, b⟩ | ⟨l, a, b⟩
  · exact ⟨4, by decide, a, b, by (first | lia | omega)⟩
  · exact ⟨101, by decide, a, b, by (first | lia | omega)⟩
noncomputable def sp_shift : Sp := fun vs H Q _ => ∃ a qs, vs = [.ref a] ∧ Rw H a qs ∧ qs.length ≤ 900 ∧ ∀ r H', Same H H' → H r = none → Rw H' r (Po.strip (0 :: qs)) → Q (.ref r) H'
noncomputable def sp_ends (C : Addr) : Sp := fun vs H Q _ => ∃ c ga wa ha la gs ws h0 l0, vs = [.ref c, .ref ha, .ref la] ∧ Co C H c ga wa gs ws ∧ Rw H ha h0 ∧ Rw H la l0 ∧ Sized gs ws ∧ h0.length ≤ 1 ∧ l0.length ≤ 1 ∧ (∀ q ∈ h0, q = 1) ∧ (∀ q ∈ l0, q = 1) ∧
  ∀ r x y H', Same H H' → H' r = some (.tup [.ref x, .ref y]) → H x = none → (y = la ∨ H y = none) → Rw H' x (Po.pst gs ws h0 l0 ws.length).1 → Rw H' y (Po.pst gs ws h0 l0 ws.length).2 → Q (.ref r) H'
noncomputable def heldQ (gs ws : List Rat) : List Rat := (Po.pst gs ws [] [1] ws.length).1
noncomputable def looseQ (gs ws : List Rat) : List Rat := (Po.pst gs ws [] [1] ws.length).2
noncomputable def sp_tone (C : Addr) (f : List Rat → List Rat → List Rat) : Sp := fun vs H Q _ => ∃ c ga wa gs ws, vs = [.ref c] ∧ Co C H c ga wa gs ws ∧ Sized gs ws ∧ ∀ r H', Same H H' → H r = none → Rw H' r (f gs ws) → Q (.ref r) H'
noncomputable def EndsI (H H5 : Hp) (c ha la rg : Addr) (gs ws h0 l0 : List Rat) (i : Nat) (σ : L2.St) (H' : Hp) : Prop := ∃ (x y : Addr) (v u : Option V), σ = [some (.ref c), some (.ref ha), some (.ref la), some (.ref rg), some (.ref x), some (.ref y), v, u] ∧ Same H5 H' ∧ H x = none ∧ (y = la ∨ H y = none) ∧ Rw H' x (Po.pst gs ws h0 l0 i).1 ∧ Rw H' y (Po.pst gs ws h0 l0 i).2
theorem EndsI.elim {H H5 : Hp} {c ha la rg : Addr} {gs ws h0 l0 : List Rat} {i : Nat} {σ : L2.St} {H' : Hp} {G : Prop} (h : EndsI H H5 c ha la rg gs ws h0 l0 i σ H') (k : ∀ (x y : Addr) (v u : Option V), σ = [some (.ref c), some (.ref ha), some (.ref la), some (.ref rg), some (.ref x), some (.ref y), v, u] → (Same H5 H') → (H x = none) → ((y = la ∨ H y = none)) → (Rw H' x (Po.pst gs ws h0 l0 i).1) → (Rw H' y (Po.pst gs ws h0 l0 i).2) → G) : G := by
  obtain ⟨x, y, v, u, h0', h1', h2', h3', h4', h5'⟩ := h
  exact k _ _ _ _ h0' h1' h2' h3' h4' h5'
theorem sc_times_number : FnScope ["one"] ["one"] (defScope s_times_number) := ⟨rfl, rfl, rfl, by decide +kernel, rfl, by decide +kernel, by decide +kernel⟩
theorem ok_times_number (F : Fun K "times_number" "times_number" s_times_number f fd) (T : Txt mg) (C_poly : Cal P w K mg base "poly" 2 ["figures"] sp_stripQ) : FnOk P w K mg base CX0 3 f fd ["one"] sp_shift := by
  refine F.ok sc_times_number (fun vs H Q E h => ?_) (fun cdv A outer s H vs Q E hr h => ?_)
  · obtain ⟨a, qs, rfl, _⟩ := h
    rfl
  obtain ⟨a, qs, rfl, ⟨pa, ea, ka⟩, lq, q⟩ := h
  have la := ka.length
  have hz : (1000 : Nat) < sizeLine := by decide
  refine ⟨_, (pss_one (ps_ret (pe_cl C_poly hr (pa_cons (pe_op op_cat (pe_lst (pa_cons (pe_tup (pa_cons pe_int (pa_cons pe_int pa_nil))) pa_nil)) (pv 0)) pa_nil)))), ?_⟩
  refine ⟨(by show 2 ≤ sizeLine; decide), fun p0 hp0 => ⟨(by show 1 ≤ sizeLine; decide), fun l0 hl0 => ?_⟩⟩
  have s0 := same_upd hp0 (.tup [.int 0, .int 1])
  have s1 := same_upd hl0 (.lst [.ref p0])
  have s01 := s0.trans s1
  have k0 : Pq (upd H p0 (.tup [.int 0, .int 1])) p0 0 := Pq.of Pr.new ⟨rfl, rfl⟩
  refine ze_1_2 _ rfl ⟨l0, a, ze_2_3 _ _ rfl rfl ⟨upd_same, s01 _ _ ea, ?_, fun l hl => ?_⟩⟩
  · simp only [List.length_append, List.length_cons, List.length_nil, List.length_map]; (first | lia | omega)
  have s2 := same_upd hl (.lst ([.ref p0] ++ pa.map V.ref))
  have s02 := s01.trans s2
  refine ⟨l, 0 :: qs, rfl, ⟨p0 :: pa, by rw [upd_same]; rfl, .cons (k0.keep (s1.trans s2)) (ka.keep s02)⟩, by simp only [List.length_cons]; (first | lia | omega), fun r H' s' n' rw' => q r H' (s02.trans s') (s02.free n') rw'⟩
theorem sc_ends : FnScope ["cord", "height", "lean", "gaps", "here", "leaning", "weight", "gap"] ["cord", "height", "lean"] (defScope s_ends) := ⟨rfl, rfl, rfl, by decide +kernel, rfl, by decide +kernel, by decide +kernel⟩
set_option maxHeartbeats 4000000 in
theorem ok_ends (F : Fun K "ends" "ends" s_ends f fd) (T : Txt mg) (C_poly_plus : Cal P w K mg base "poly_plus" 4 ["one", "other"] (sp_pbin Po.padd)) (C_poly_minus : Cal P w K mg base "poly_minus" 4 ["one", "other"] (sp_pbin Po.psub)) (C_scaled : Cal P w K mg base "scaled" 4 ["one", "number"] sp_scaled)
    (C_times_number : Cal P w K mg base "times_number" 3 ["one"] sp_shift) (C_Cord_gaps : CalM P w K mg base o_Cord "gaps" 1 ["self"] (sp_gaps o_Cord)) (C_Cord_weights : CalM P w K mg base o_Cord "weights" 1 ["self"] (sp_weights o_Cord)) : FnOk P w K mg base CX0 5 f fd ["cord", "height", "lean"] (sp_ends o_Cord) := by
  refine F.ok sc_ends (fun vs H Q E h => ?_) (fun cdv A outer s H vs Q E hr h => ?_)
  · obtain ⟨c, ga, wa, ha, la, gs, ws, h0, l0, rfl, _⟩ := h
    rfl
  obtain ⟨c, ga, wa, ha, la, gs, ws, h0, l0, rfl, co, rwh, rwl, sz, lh, ll, eh, el, q⟩ := h
  have hlen := sz.len
  have hmost := sz.most
  obtain ⟨b, hb, bg, bw, hbb⟩ := sz.bq
  have bnd : ∀ k, k ≤ ws.length → (2 * b + 2) * (k + 1) ≤ 1300 := fun k hk => Nat.le_trans (Nat.mul_le_mul_left _ (by (first | lia | omega))) hbb
  have b300 := bnd 0 (Nat.zero_le _)
  have lens := fun k => Po.pst_length (gs := gs) (ws := ws) lh ll k
  refine ⟨_, (pss_cons (ps_set (i := 3) sc_ends.nd rfl (Or.inl rfl) (pe_m0 C_Cord_gaps hr (pv 0)))
      (pss_cons (ps_set (i := 4) sc_ends.nd rfl (Or.inl rfl) (pe_cl C_poly_plus hr (pa_cons (pv 1) (pa_cons (pe_cl C_scaled hr (pa_cons (pv 2) (pa_cons (pe_ix ix_list (pv 3) pe_int (fun _ _ => rfl)) pa_nil))) pa_nil))))
      (pss_cons (ps_set (i := 5) sc_ends.nd rfl (Or.inl rfl) (pv 2))
      (pss_cons (ps_for PassesOwn.never rfl (pi_zip rfl T.z_zip (pa_cons (pe_m0 C_Cord_weights hr (pv 0)) (pa_cons (pe_slice sl_list (pv 3) (po_some pe_int) po_none) pa_nil))) (pg_tup rfl (pgs_cons (pg_name (i := 6) sc_ends.nd rfl (Or.inl rfl)) (pgs_cons (pg_name (i := 7) sc_ends.nd rfl (Or.inl rfl)) pgs_nil)))
        (pss_cons (ps_set (i := 5) sc_ends.nd rfl (Or.inl rfl) (pe_cl C_poly_minus hr (pa_cons (pv 5) (pa_cons (pe_cl C_times_number hr (pa_cons (pe_cl C_scaled hr (pa_cons (pv 4) (pa_cons (pv 6) pa_nil))) pa_nil)) pa_nil))))
        (pss_one (ps_set (i := 4) sc_ends.nd rfl (Or.inl rfl) (pe_cl C_poly_plus hr (pa_cons (pv 4) (pa_cons (pe_cl C_scaled hr (pa_cons (pv 5) (pa_cons (pv 7) pa_nil))) pa_nil)))))))
      (pss_one (ps_ret (pe_tup (pa_cons (pv 4) (pa_cons (pv 5) pa_nil))))))))), ?_⟩
  obtain ⟨dx, e⟩ := co.1
  refine ze_1_2 _ rfl (ze_3_4 c dx _ rfl e rfl (ze_5_3 c ga wa gs ws rfl co (fun rg H1 s1 n1 ⟨pg, eg, kg⟩ => ?_)))
  have lg := kg.length
  have hg0 : 0 < gs.length := by (first | lia | omega)
  obtain ⟨p0, e0, k0⟩ := kg.get (List.getElem?_eq_getElem hg0)
  have gg0 : gs.getD 0 0 = gs[0] := by rw [List.getD_eq_getElem?_getD, List.getElem?_eq_getElem hg0]; rfl
  have o0 := Po.O2.start eh el
  have b1500 : ∀ {n : Nat} {M : Int} {qs : List Rat}, (∀ q ∈ qs, Po.Ov n M q) → M ≠ 0 → Bt n M → n ≤ 1500 → ∀ q ∈ qs, Bq 1500 q := fun ho hM bM hn q hq => ((ho q hq).bq hM bM).mono hn
  have bg0 := bg _ (List.getElem_mem hg0)
  refine ze_1_2 _ rfl (ze_1_2 _ rfl (ze_1_2 _ rfl (ze_4_5 rg _ _ _ rfl rfl (SqL.of eg) (atI_nat (j := 0) e0) (ze_4_7 la p0 l0 _ rfl (rwl.keep s1) k0 (by (first | lia | omega)) (b1500 o0.ol o0.ne o0.bm (by decide)) (bg0.mono (by (first | lia | omega))) (fun r2 H2 s2 n2 rw2 => ?_)))))
  have d0 := den_pos gs[0]
  have og := Po.ov_pscale o0.ol bg0
  refine ze_4_8 ha r2 h0 _ rfl (rwh.keep (s1.trans s2)) rw2 (by (first | lia | omega)) ?_ (b1500 o0.oh o0.ne o0.bm (by decide)) (b1500 og (Int.mul_ne_zero o0.ne (by (first | lia | omega))) ((o0.bm.mul bg0.2)) (by (first | lia | omega))) (fun r3 H3 s3 n3 rw3 => ?_)
  · have := Po.pscale_length l0 gs[0]
    (first | lia | omega)
  have s13 := s1.trans (s2.trans s3)
  refine ze_1_2 _ rfl ?_
  have co3 := co.keep s13
  obtain ⟨dx3, e3⟩ := co3.1
  refine ze_1_2 _ rfl (ze_3_4 c dx3 _ rfl e3 rfl (ze_5_3 c ga wa gs ws rfl co3 (fun rw' H4 s4 n4 ⟨pw, ew, kw⟩ => ?_)))
  have lw := kw.length
  have eg4 := (s2.trans (s3.trans s4)) _ _ eg
  refine ze_1_2 _ rfl (ze_1_2 _ rfl (ze_2_3 rg _ rfl (SqL.of eg4) (fun l hl => ?_)))
  have s5 := same_upd hl (.lst (cutV (pg.map V.ref) (some 1) none))
  have ec : cutV (pg.map V.ref) (some 1) none = (pg.drop 1).map V.ref := cut_from V.ref pg 1
  have el5 : (upd H4 l (.lst (cutV (pg.map V.ref) (some 1) none))) l = some (.lst ((pg.drop 1).map V.ref)) := by rw [upd_same, ec]
  have ew5 := s5 _ _ ew
  have kw5 := kw.keep s5
  have kg5 := kg.keep (s2.trans (s3.trans (s4.trans s5)))
  have s15 := s13.trans (s4.trans s5)
  have rw35 : Rw (upd H4 l (.lst (cutV (pg.map V.ref) (some 1) none))) r3 (Po.pst gs ws h0 l0 0).1 := by
    show Rw _ _ (Po.padd h0 (Po.pscale l0 (gs.getD 0 0)))
    rw [gg0]
    exact rw3.keep (s4.trans s5)
  have rwl5 := rwl.keep s15
  have n30 : H r3 = none := (s1.trans s2).free n3
  generalize upd H4 l (.lst (cutV (pg.map V.ref) (some 1) none)) = H5 at *
  refine ⟨rw', l, rfl, ⟨_, SqL.of ew5⟩, ⟨_, SqL.of el5⟩, ?_⟩
  refine for_zip (xs := pw.map V.ref) (ys := (pg.drop 1).map V.ref) ws.length (by rw [List.length_map, List.length_map, List.length_drop]; (first | lia | omega)) (EndsI H H5 c ha la rg gs ws h0 l0)
    ⟨r3, la, _, _, rfl, Same.refl _, n30, .inl rfl, rw35, rwl5⟩ ?_ ?_ ?_
  · intro i σ H6 _ hI
    refine EndsI.elim hI fun x y v u eσ sm nx ny rx ry => ?_
    exact ⟨SqL.of (sm _ _ ew5), SqL.of (sm _ _ el5)⟩
  · intro i xw xg σ H6 T0 hxw hxg hI hT
    refine EndsI.elim hI fun x y v u eσ sm0 nx ny rx0 ry0 => ?_
    subst eσ
    have hi : i < ws.length := by
      have h := (List.getElem?_eq_some_iff.mp hxw).1
      rw [List.length_map] at h
      (first | lia | omega)
    have hi1 : i + 1 < gs.length := by (first | lia | omega)
    obtain ⟨p1, e1, k1⟩ := kw5.get (List.getElem?_eq_getElem hi)
    obtain rfl : xw = .ref p1 := Option.some.inj (hxw.symm.trans e1)
    obtain ⟨p2, e2, k2⟩ := kg5.get (List.getElem?_eq_getElem hi1)
    obtain rfl : xg = .ref p2 := by
      rw [List.getElem?_map, List.getElem?_drop, Nat.add_comm 1 i, ← List.getElem?_map] at hxg
      exact Option.some.inj (hxg.symm.trans e2)
    refine ⟨T0, ze_1_2 _ rfl ⟨SqT.of upd_same, rfl, _, ze_1_2 _ rfl (ze_2_3 _ _ rfl rfl ?_)⟩⟩
    have u0 := same_upd hT (.tup [.ref p1, .ref p2])
    have sm := sm0.trans u0
    have rx := rx0.keep u0
    have ry := ry0.keep u0
    clear sm0 rx0 ry0
    generalize upd H6 T0 (.tup [.ref p1, .ref p2]) = H7 at *
    obtain ⟨M, o⟩ := Po.pst_o2 hb bg bw eh el i
    obtain ⟨lx, ly⟩ := lens i
    have bi := bnd i (by (first | lia | omega))
    have bwi := bw _ (List.getElem_mem hi)
    have bgi := bg _ (List.getElem_mem hi1)
    have gw : ws.getD i 0 = ws[i] := by rw [List.getD_eq_getElem?_getD, List.getElem?_eq_getElem hi]; rfl
    have gg : gs.getD (i + 1) 0 = gs[i + 1] := by rw [List.getD_eq_getElem?_getD, List.getElem?_eq_getElem hi1]; rfl
    have es1 : (Po.pst gs ws h0 l0 (i + 1)).1 = Po.padd (Po.pst gs ws h0 l0 i).1 (Po.pscale (Po.plean (Po.pst gs ws h0 l0 i).2 (Po.pst gs ws h0 l0 i).1 ws[i]) gs[i + 1]) := by rw [← gw, ← gg]; rfl
    have es2 : (Po.pst gs ws h0 l0 (i + 1)).2 = Po.plean (Po.pst gs ws h0 l0 i).2 (Po.pst gs ws h0 l0 i).1 ws[i] := by rw [← gw]; rfl
    have nle : (2 * b + 2) * (i + 1) + 2 * b + 2 ≤ 1500 := by
      have h := bnd (i + 1) (by (first | lia | omega))
      rw [Nat.mul_succ] at h
      (first | lia | omega)
    generalize (2 * b + 2) * (i + 1) = N at *
    generalize (Po.pst gs ws h0 l0 i).1 = hs at *
    generalize (Po.pst gs ws h0 l0 i).2 = ls at *
    have dw := den_pos ws[i]
    have oh1 := Po.ov_pscale o.oh bwi
    have ne1 : M * (ws[i].den : Int) ≠ 0 := Int.mul_ne_zero o.ne (by (first | lia | omega))
    have bm1 := o.bm.mul bwi.2
    have l1 := Po.pscale_length hs ws[i]
    refine ze_1_2 _ rfl (ze_1_2 _ rfl (ze_1_2 _ rfl (ze_4_7 x p1 hs _ rfl rx (k1.keep sm) (by (first | lia | omega)) (b1500 o.oh o.ne o.bm (by (first | lia | omega))) (bwi.mono (by (first | lia | omega))) (fun r1 H8 s8 n8 rw8 => ?_))))
    refine ze_2_4 r1 _ rfl rw8 (by (first | lia | omega)) (fun r9 H9 s9 n9 rw9 => ?_)
    have l2 := Po.strip_length (0 :: Po.pscale hs ws[i])
    simp only [List.length_cons] at l2
    refine ze_4_8 y r9 ls _ rfl (ry.keep (s8.trans s9)) rw9 (by (first | lia | omega)) (by (first | lia | omega)) (b1500 o.ol o.ne o.bm (by (first | lia | omega))) (b1500 (Po.ov_shift oh1) ne1 bm1 (by (first | lia | omega))) (fun r10 H10 s10 n10 rw10 => ?_)
    have ob := o.bead bwi
    have rw10' : Rw H10 r10 (Po.plean ls hs ws[i]) := rw10
    have s710 := s8.trans (s9.trans s10)
    have l3 := Po.plean_length ls hs ws[i]
    refine ze_1_2 _ rfl (ze_1_2 _ rfl (ze_1_2 _ rfl (ze_4_7 r10 p2 _ _ rfl rw10' (k2.keep (sm.trans s710)) (by (first | lia | omega)) (b1500 ob.ol ob.ne ob.bm (by (first | lia | omega))) (bgi.mono (by (first | lia | omega))) (fun r11 H11 s11 n11 rw11 => ?_))))
    have l4 := Po.pscale_length (Po.plean ls hs ws[i]) gs[i + 1]
    have dg := den_pos gs[i + 1]
    refine ze_4_8 x r11 hs _ rfl (rx.keep (s710.trans s11)) rw11 (by (first | lia | omega)) (by (first | lia | omega)) (b1500 o.oh o.ne o.bm (by (first | lia | omega))) (b1500 (Po.ov_pscale ob.ol bgi) (Int.mul_ne_zero ob.ne (by (first | lia | omega))) (ob.bm.mul bgi.2) (by (first | lia | omega))) (fun r12 H12 s12 n12 rw12 => ?_)
    have s712 := s710.trans (s11.trans s12)
    have f0 := s15.trans sm
    refine ⟨r12, r10, _, ze_1_2 _ rfl ⟨sm.trans s712, (f0.trans (s710.trans s11)).free n12, .inr ((f0.trans (s8.trans s9)).free n10), ?_, ?_⟩⟩
    · rw [es1]; exact rw12
    · rw [es2]; exact rw10'.keep (s11.trans s12)
  · intro σ H6 hI
    refine EndsI.elim hI fun x y v u eσ sm nx ny rx ry => ?_
    subst eσ
    refine ze_1_2 _ rfl (ze_1_2 _ rfl ⟨(by show 2 ≤ sizeLine; decide), fun r hr' => ?_⟩)
    have u0 := same_upd hr' (.tup [.ref x, .ref y])
    exact q r x y _ ((s15.trans sm).trans u0) upd_same nx ny (rx.keep u0) (ry.keep u0)
theorem sc_held : FnScope ["cord"] ["cord"] (defScope s_held) := ⟨rfl, rfl, rfl, by decide +kernel, rfl, by decide +kernel, by decide +kernel⟩
theorem ok_held (F : Fun K "held" "held" s_held f fd) (T : Txt mg) (C_ends : Cal P w K mg base "ends" 5 ["cord", "height", "lean"] (sp_ends o_Cord)) : FnOk P w K mg base CX0 6 f fd ["cord"] (sp_tone o_Cord heldQ) := by
  refine F.ok sc_held (fun vs H Q E h => ?_) (fun cdv A outer s H vs Q E hr h => ?_)
  · obtain ⟨c, ga, wa, gs, ws, rfl, _⟩ := h
    rfl
  obtain ⟨c, ga, wa, gs, ws, rfl, co, sz, q⟩ := h
  refine ⟨_, (pss_one (ps_ret (pe_ix ix_tup (pe_cl C_ends hr (pa_cons (pv 0) (pa_cons (pe_lst pa_nil) (pa_cons (pe_lst (pa_cons (pe_tup (pa_cons pe_int (pa_cons pe_int pa_nil))) pa_nil)) pa_nil)))) pe_int (fun _ _ => rfl)))), ?_⟩
  refine ze_1_2 _ rfl ⟨(by show 0 ≤ sizeLine; decide), fun a ha => ⟨(by show 2 ≤ sizeLine; decide), fun p hp => ⟨(by show 1 ≤ sizeLine; decide), fun b hb => ?_⟩⟩⟩
  have s1 := same_upd ha (.lst [])
  have s2 := same_upd hp (.tup [.int 1, .int 1])
  have s3 := same_upd hb (.lst [.ref p])
  have s13 := s1.trans (s2.trans s3)
  refine ⟨c, ga, wa, a, b, gs, ws, [], [1], rfl, co.keep s13, ⟨[], (s2.trans s3) _ _ upd_same, .nil⟩, ⟨[p], upd_same, .cons ((Pq.of Pr.new ⟨rfl, rfl⟩ : Pq _ p 1).keep s3) .nil⟩, sz, by simp, by simp, by simp, by simp, fun r x y H' s' er nx ny rx ry => ?_⟩
  exact ze_4_5 r _ _ _ rfl rfl (SqT.of er) rfl (q x H' (s13.trans s') (s13.free nx) rx)
theorem sc_loose : FnScope ["cord"] ["cord"] (defScope s_loose) := ⟨rfl, rfl, rfl, by decide +kernel, rfl, by decide +kernel, by decide +kernel⟩
theorem ok_loose (F : Fun K "loose" "loose" s_loose f fd) (T : Txt mg) (C_ends : Cal P w K mg base "ends" 5 ["cord", "height", "lean"] (sp_ends o_Cord)) : FnOk P w K mg base CX0 6 f fd ["cord"] (sp_tone o_Cord looseQ) := by
  refine F.ok sc_loose (fun vs H Q E h => ?_) (fun cdv A outer s H vs Q E hr h => ?_)
  · obtain ⟨c, ga, wa, gs, ws, rfl, _⟩ := h
    rfl
  obtain ⟨c, ga, wa, gs, ws, rfl, co, sz, q⟩ := h
  refine ⟨_, (pss_one (ps_ret (pe_ix ix_tup (pe_cl C_ends hr (pa_cons (pv 0) (pa_cons (pe_lst pa_nil) (pa_cons (pe_lst (pa_cons (pe_tup (pa_cons pe_int (pa_cons pe_int pa_nil))) pa_nil)) pa_nil)))) pe_int (fun _ _ => rfl)))), ?_⟩
  refine ze_1_2 _ rfl ⟨(by show 0 ≤ sizeLine; decide), fun a ha => ⟨(by show 2 ≤ sizeLine; decide), fun p hp => ⟨(by show 1 ≤ sizeLine; decide), fun b hb => ?_⟩⟩⟩
  have s1 := same_upd ha (.lst [])
  have s2 := same_upd hp (.tup [.int 1, .int 1])
  have s3 := same_upd hb (.lst [.ref p])
  have s13 := s1.trans (s2.trans s3)
  refine ⟨c, ga, wa, a, b, gs, ws, [], [1], rfl, co.keep s13, ⟨[], (s2.trans s3) _ _ upd_same, .nil⟩, ⟨[p], upd_same, .cons ((Pq.of Pr.new ⟨rfl, rfl⟩ : Pq _ p 1).keep s3) .nil⟩, sz, by simp, by simp, by simp, by simp, fun r x y H' s' er nx ny rx ry => ?_⟩
  refine ze_4_5 r _ _ _ rfl rfl (SqT.of er) rfl (q y H' (s13.trans s') ?_ ry)
  rcases ny with rfl | ny
  · exact (s1.trans s2).free hb
  · exact s13.free ny

noncomputable def sp_at_by24 : Sp := fun vs H Q _ => ∃ c, vs = [.int c] ∧ ∀ r q H', Same H H' → Bq 134 q → Pq H' r q → Q (.ref r) H'
noncomputable def sp_worthR : Sp := fun vs H Q _ => ∃ a p qs x, vs = [.ref a, .ref p] ∧ Rw H a qs ∧ Pq H p x ∧ qs.length ≤ 60 ∧ (∀ q ∈ qs, Bq 4000 q) ∧ Bq 4000 x ∧ ∀ r T M H', Same H H' → H' r = some (.tup [.int T, .int M]) → Po.Rep 500000 (Po.ev qs x) T M → Q (.ref r) H'
noncomputable def sp_isR : Sp := fun vs H Q _ => ∃ a b T M T' M' v, vs = [.ref a, .ref b] ∧ H a = some (.tup [.int T, .int M]) ∧ H b = some (.tup [.int T', .int M']) ∧ Po.Rep 500000 v T M ∧ Po.Rep 500000 v T' M' ∧ Q (.bl true) H
noncomputable def sp_is_poly : Sp := fun vs H Q _ => ∃ (a : Addr) (qs : List Rat) (m : Nat), vs = [.ref a, .int m] ∧ Rw H a qs ∧ qs.length = m ∧ Po.strip qs = qs ∧ qs.length ≤ 1000 ∧ ∀ H', Same H H' → Q (.bl true) H'
theorem rep_self {n : Nat} {v : Rat} (b : Bq n v) : Po.Rep n v v.num v.den := ⟨Int.ne_of_gt (den_pos v), (q_eq v).symm, b.1, b.2⟩
theorem sc_law_at_by : FnScope ["_law_cell"] ["_law_cell"] (defScope s_law_at_by) := ⟨rfl, rfl, rfl, by decide +kernel, rfl, by decide +kernel, by decide +kernel⟩
theorem ok_law_at_by (F : Fun K "_law_at_by" "_law_at_by" s_law_at_by f fd) (T : Txt mg) (C_law_low : Cal P w K mg base "_law_low" 2 ["_law_top", "_law_bottom"] sp_lowQ) : FnOk P w K mg base CX0 3 f fd ["_law_cell"] sp_at_by24 := by
  refine F.ok sc_law_at_by (fun vs H Q E h => ?_) (fun cdv A outer s H vs Q E hr h => ?_)
  · obtain ⟨c, rfl, _⟩ := h
    rfl
  obtain ⟨c, rfl, q⟩ := h
  refine ⟨_, (pss_cons (ps_if (pt_cmpR op_eq (pe_op op_mod (pv 0) pe_int) pe_int (nomark _))
        (pss_one (ps_ret (pe_cl C_law_low hr (pa_cons (pe_op op_sub (pe_op op_mod (pe_op op_fdP (pv 0) pe_int) (pe_op op_sub (pe_op op_mulB pe_int (pe_op op_pow pe_int pe_int)) pe_int)) (pe_op op_sub (pe_op op_pow pe_int pe_int) pe_int)) (pa_cons (pe_op op_add pe_int (pe_op op_mod (pe_op op_fdP (pv 0) pe_int) (pe_op op_pow pe_int pe_int))) pa_nil)))))
        pss_nil)
      (pss_one (ps_ret (pe_cl C_law_low hr (pa_cons (pe_op op_sub (pe_op op_mod (pe_op op_fdP (pv 0) pe_int) pe_int) pe_int) (pa_cons (pe_op op_add pe_int (pe_op op_mod (pe_op op_fdP (pv 0) pe_int) pe_int)) pa_nil)))))), ?_⟩
  refine ze_1_2 _ rfl (ze_2_3 _ _ rfl rfl ⟨(by show (0 : Int) < 8; decide), rfl, ze_1_2 _ rfl ?_⟩)
  refine ite2 (fun _ => ?_) (fun _ => ?_)
  · have h1 := Int.emod_nonneg (c / 8) (show (2 * 10 ^ 40 - 1 : Int) ≠ 0 by decide)
    have h2 := Int.emod_lt_of_pos (c / 8) (show (0 : Int) < 2 * 10 ^ 40 - 1 by decide)
    have h3 := Int.emod_nonneg (c / 16) (show (10 ^ 35 : Int) ≠ 0 by decide)
    have h4 := Int.emod_lt_of_pos (c / 16) (show (0 : Int) < 10 ^ 35 by decide)
    have ba : Bt 134 (c / 8 % (2 * 10 ^ 40 - 1) - (10 ^ 40 - 1)) := Bt.between (by (first | lia | omega)) (by (first | lia | omega))
    have hb : 0 < 1 + c / 16 % 10 ^ 35 := by (first | lia | omega)
    have bb : Bt 134 (1 + c / 16 % 10 ^ 35) := Bt.between (by (first | lia | omega)) (by (first | lia | omega))
    exact ⟨_, rfl, _, _, rfl, rfl, ⟨by decide, bt2 (by decide +kernel)⟩, _, _, rfl, rfl, ⟨by decide, by decide, by decide⟩, _, _, rfl, rfl, CMul.ok (.inl ⟨by decide, by decide⟩), _, _, rfl, rfl, _, _, rfl, rfl, (by show (0 : Int) < 2 * 10 ^ 40 - 1; decide), _, _, rfl, rfl, ⟨by decide, by decide, by decide⟩, _, _, rfl, rfl, _, _, rfl, rfl,
      _, rfl, _, _, rfl, rfl, ⟨by decide, bt2 (by decide +kernel)⟩, _, _, rfl, rfl, ⟨by decide, by decide, by decide⟩, _, _, rfl, rfl, (by show (0 : Int) < 10 ^ 35; decide), _, _, rfl, rfl, _, _, rfl, hb, bb.mono (by decide), fun r H' s' k => q r _ H' s' (bq_of (Int.ne_of_gt hb) rfl ba bb) k⟩
  · have h1 := Int.emod_nonneg (c / 8) (show (61 : Int) ≠ 0 by decide)
    have h2 := Int.emod_lt_of_pos (c / 8) (show (0 : Int) < 61 by decide)
    have h3 := Int.emod_nonneg (c / 488) (show (12 : Int) ≠ 0 by decide)
    have h4 := Int.emod_lt_of_pos (c / 488) (show (0 : Int) < 12 by decide)
    have ba : Bt 134 (c / 8 % 61 - 20) := Bt.between (by (first | lia | omega)) (by (first | lia | omega))
    have hb : 0 < 1 + c / 488 % 12 := by (first | lia | omega)
    have bb : Bt 134 (1 + c / 488 % 12) := Bt.between (by (first | lia | omega)) (by (first | lia | omega))
    exact ze_1_2 _ rfl (ze_2_3 _ _ rfl rfl ⟨⟨by decide, bt2 (by decide +kernel)⟩, ze_2_3 _ _ rfl rfl ⟨(by show (0 : Int) < 61; decide), ze_2_3 _ _ rfl rfl (ze_1_2 _ rfl (ze_2_3 _ _ rfl rfl ⟨⟨by decide, bt2 (by decide +kernel)⟩, ze_2_3 _ _ rfl rfl ⟨(by show (0 : Int) < 12; decide), ze_2_3 _ _ rfl rfl ⟨_, ze_1_2 _ rfl ⟨hb, bb.mono (by decide), fun r H' s' k => q r _ H' s' (bq_of (Int.ne_of_gt hb) rfl ba bb) k⟩⟩⟩⟩))⟩⟩)
theorem sc_law_worth : FnScope ["_law_figures", "_law_t", "_law_top", "_law_bottom", "_law_figure"] ["_law_figures", "_law_t"] (defScope s_law_worth) := ⟨rfl, rfl, rfl, by decide +kernel, rfl, by decide +kernel, by decide +kernel⟩
set_option maxHeartbeats 1000000 in
theorem ok_law_worth (F : Fun K "_law_worth" "_law_worth" s_law_worth f fd) (T : Txt mg) : FnOk P w K mg base CX0 1 f fd ["_law_figures", "_law_t"] sp_worthR := by
  refine F.ok sc_law_worth (fun vs H Q E h => ?_) (fun cdv A outer s H vs Q E hr h => ?_)
  · obtain ⟨a, p, qs, x, rfl, _⟩ := h
    rfl
  obtain ⟨a, pn, ds, x, rfl, ⟨pd, ed, kd⟩, kx, l5, b5, bx, q⟩ := h
  have ld := kd.length
  refine ⟨_, (pss_cons (ps_set (i := 2) sc_law_worth.nd rfl (Or.inl rfl) pe_int)
      (pss_cons (ps_set (i := 3) sc_law_worth.nd rfl (Or.inl rfl) pe_int)
      (pss_cons (ps_for PassesOwn.never rfl (pi_rev rfl T.z_reversed (pa_cons (pv 0) pa_nil)) (pg_name (i := 4) sc_law_worth.nd rfl (Or.inl rfl))
        (pss_cons (ps_set (i := 2) sc_law_worth.nd rfl (Or.inl rfl) (pe_op op_add (pe_op op_mulB (pe_op op_mulB (pv 2) (pe_ix ix_tup (pv 1) pe_int (fun _ _ => rfl))) (pe_ix ix_tup (pv 4) pe_int (fun _ _ => rfl))) (pe_op op_mulB (pe_op op_mulB (pe_ix ix_tup (pv 4) pe_int (fun _ _ => rfl)) (pv 3)) (pe_ix ix_tup (pv 1) pe_int (fun _ _ => rfl)))))
        (pss_one (ps_set (i := 3) sc_law_worth.nd rfl (Or.inl rfl) (pe_op op_mulB (pe_op op_mulB (pv 3) (pe_ix ix_tup (pv 1) pe_int (fun _ _ => rfl))) (pe_ix ix_tup (pv 4) pe_int (fun _ _ => rfl)))))))
      (pss_one (ps_ret (pe_tup (pa_cons (pv 2) (pa_cons (pv 3) pa_nil)))))))), ?_⟩
  refine ze_1_2 _ rfl ⟨a, ze_1_2 _ rfl ⟨SqL.of ed, ?_⟩⟩
  refine for_rev (xs := pd.map V.ref) (fun i σ H' => H = H' ∧ ∃ Tp M v, σ = [some (.ref a), some (.ref pn), some (.int Tp), some (.int M), v] ∧ Po.Rep (8001 * i + 1) (Po.ev (ds.drop (ds.length - i)) x) Tp M) ⟨rfl, 0, 1, ze_1_2 _ rfl ?_⟩ ?_ ?_ ?_
  · rw [Nat.sub_zero, List.drop_length]
    exact Po.Rep.zero (by decide)
  · rintro i σ _ _ ⟨rfl, _⟩
    exact SqL.of ed
  · rintro i y σ _ hy ⟨rfl, Tp, M, v, rfl, rep⟩
    have hi : i < ds.length := by
      have h := (List.getElem?_eq_some_iff.mp hy).1
      rw [List.length_reverse, List.length_map] at h
      (first | lia | omega)
    have hi2 : ds.length - 1 - i < ds.length := by (first | lia | omega)
    have eq : ds[ds.length - 1 - i]? = some ds[ds.length - 1 - i] := List.getElem?_eq_getElem hi2
    obtain ⟨p1, e1, k1⟩ := kd.get eq
    obtain rfl : y = .ref p1 := by
      rw [List.getElem?_reverse (by rw [List.length_map]; (first | lia | omega)), List.length_map, ld] at hy
      rw [hy] at e1
      exact Option.some.inj e1
    have bqi := b5 _ (List.getElem_mem hi2)
    have st := rep.step bx bqi
    have e2 := Po.ev_snocs ds x i hi
    rw [List.getD_eq_getElem?_getD, eq] at e2
    have e3 : (some ds[ds.length - 1 - i]).getD 0 = ds[ds.length - 1 - i] := rfl
    rw [e3] at e2
    rw [← e2] at st
    obtain ⟨_, _, bT, bM⟩ := rep
    refine ze_1_2 _ rfl (ze_1_2 _ rfl (ze_4_5 _ _ _ _ rfl rfl kx.sq rfl (ze_2_3 _ _ rfl rfl ⟨mul_of bT bx.1 (by (first | lia | omega)), ze_1_2 _ rfl (ze_4_5 _ _ _ _ rfl rfl k1.sq rfl (ze_2_3 _ _ rfl rfl ⟨mul_of (bT.mul bx.1) bqi.2 (by (first | lia | omega)), ze_1_2 _ rfl (ze_4_5 _ _ _ _ rfl rfl k1.sq rfl (ze_1_2 _ rfl (ze_2_3 _ _ rfl rfl ⟨mul_of bqi.1 bM (by (first | lia | omega)), ze_1_2 _ rfl (ze_4_5 _ _ _ _ rfl rfl kx.sq rfl (ze_2_3 _ _ rfl rfl ⟨mul_of (bqi.1.mul bM) bx.2 (by (first | lia | omega)), ze_2_3 _ _ rfl rfl ?_⟩))⟩)))⟩))⟩)))
    exact ze_1_2 _ rfl (ze_1_2 _ rfl (ze_4_5 _ _ _ _ rfl rfl kx.sq rfl (ze_2_3 _ _ rfl rfl ⟨mul_of bM bx.2 (by (first | lia | omega)), ze_1_2 _ rfl (ze_4_5 _ _ _ _ rfl rfl k1.sq rfl (ze_2_3 _ _ rfl rfl ⟨mul_of (bM.mul bx.2) bqi.2 (by (first | lia | omega)), rfl, _, _, ze_1_2 _ rfl (st.mono (by (first | lia | omega)))⟩))⟩)))
  · rintro σ _ ⟨rfl, Tp, M, v, rfl, rep⟩
    rw [List.length_map, ld, Nat.sub_self, List.drop_zero] at rep
    exact ze_1_2 _ rfl (ze_1_2 _ rfl ⟨(by show 2 ≤ sizeLine; decide), fun r hr' => q r Tp M _ (same_upd hr' _) upd_same (rep.mono (by (first | lia | omega)))⟩)
theorem sc_law_is : FnScope ["_law_one", "_law_due"] ["_law_one", "_law_due"] (defScope s_law_is) := ⟨rfl, rfl, rfl, by decide +kernel, rfl, by decide +kernel, by decide +kernel⟩
theorem ok_law_is (F : Fun K "_law_is" "_law_is" s_law_is f fd) (T : Txt mg) : FnOk P w K mg base CX0 1 f fd ["_law_one", "_law_due"] sp_isR := by
  refine F.ok sc_law_is (fun vs H Q E h => ?_) (fun cdv A outer s H vs Q E hr h => ?_)
  · obtain ⟨a, b, Tp, M, Tq, M', v, rfl, _⟩ := h
    rfl
  obtain ⟨a, b, Tp, M, Tq, M', v, rfl, ea, eb, rep, rep', q⟩ := h
  have eq := rep.same rep' rfl
  obtain ⟨_, _, bT, bM⟩ := rep
  obtain ⟨_, _, bT', bM'⟩ := rep'
  refine ⟨_, (pss_one (ps_ret (pe_cmpR op_eq (pe_op op_mulB (pe_ix ix_tup (pv 0) pe_int (fun _ _ => rfl)) (pe_ix ix_tup (pv 1) pe_int (fun _ _ => rfl))) (pe_op op_mulB (pe_ix ix_tup (pv 1) pe_int (fun _ _ => rfl)) (pe_ix ix_tup (pv 0) pe_int (fun _ _ => rfl))) (nomark _)))), ?_⟩
  refine ze_1_2 _ rfl (ze_4_5 a _ _ _ rfl rfl (SqT.of ea) rfl (ze_1_2 _ rfl (ze_4_5 b _ _ _ rfl rfl (SqT.of eb) rfl (ze_2_3 _ _ rfl rfl ⟨mul_of bT bM' (by decide), ze_1_2 _ rfl (ze_4_5 b _ _ _ rfl rfl (SqT.of eb) rfl (ze_1_2 _ rfl (ze_4_5 a _ _ _ rfl rfl (SqT.of ea) rfl (ze_2_3 _ _ rfl rfl ⟨mul_of bT' bM (by decide), rfl, ?_⟩))))⟩))))
  rw [decide_eq_true (congrArg V.int eq)]
  exact q
theorem sc_law_is_poly : FnScope ["_law_found", "_law_many", "_law_figure"] ["_law_found", "_law_many"] (defScope s_law_is_poly) := ⟨rfl, rfl, rfl, by decide +kernel, rfl, by decide +kernel, by decide +kernel⟩
set_option maxHeartbeats 1000000 in
theorem ok_law_is_poly (F : Fun K "_law_is_poly" "_law_is_poly" s_law_is_poly f fd) (T : Txt mg) (C_law_whole : Cal P w K mg base "_law_whole" 1 ["_law_found"] sp_whole) (C_law_divisor : Cal P w K mg base "_law_divisor" 1 ["_law_one", "_law_other"] sp_gcd) : FnOk P w K mg base CX0 2 f fd ["_law_found", "_law_many"] sp_is_poly := by
  refine F.ok sc_law_is_poly (fun vs H Q E h => ?_) (fun cdv A outer s H vs Q E hr h => ?_)
  · obtain ⟨a, qs, m, rfl, _⟩ := h
    rfl
  obtain ⟨a, qs, m, rfl, ra, hm, hst, hl, q⟩ := h
  obtain ⟨ps, ea, kp⟩ := id ra
  have lp := kp.length
  refine ⟨_, (pss_cons (ps_if (PW.pt (pw_or (pt_not (pt_val (pe_callB call_isi rfl T.z_isinstance boot_isinstance (pa_cons (pv 0) (pa_cons (pe_bltn (v := .ty "list") rfl T.z_list boot_list rfl) pa_nil))))) (pw_or1 (pt_cmpR op_ne (pe_callB call_len_seq rfl T.z_len PySem.boot_len (pa_cons (pv 0) pa_nil)) (pv 1) (nomark _)))))
        (pss_one (ps_ret pe_bl))
        pss_nil)
      (pss_cons (ps_for PassesOwn.never rfl (pi_list (pv 0)) (pg_name (i := 2) sc_law_is_poly.nd rfl (Or.inl rfl))
        (pss_cons (ps_if (PW.pt (pw_or (pt_not (pt_val (pe_callB call_isi rfl T.z_isinstance boot_isinstance (pa_cons (pv 2) (pa_cons (pe_bltn (v := .ty "tuple") rfl T.z_tuple boot_tuple rfl) pa_nil))))) (pw_or1 (pt_cmpR op_ne (pe_callB call_len_seq rfl T.z_len PySem.boot_len (pa_cons (pv 2) pa_nil)) pe_int (nomark _)))))
          (pss_one (ps_ret pe_bl))
          pss_nil)
        (pss_cons (ps_if (PW.pt (pw_or (pt_not (pt_val (pe_cl C_law_whole hr (pa_cons (pe_ix ix_tup (pv 2) pe_int (fun _ _ => rfl)) pa_nil)))) (pw_or (pt_not (pt_val (pe_cl C_law_whole hr (pa_cons (pe_ix ix_tup (pv 2) pe_int (fun _ _ => rfl)) pa_nil)))) (pw_or1 (pt_cmpR op_lt (pe_ix ix_tup (pv 2) pe_int (fun _ _ => rfl)) pe_int (nomark _))))))
          (pss_one (ps_ret pe_bl))
          pss_nil)
        (pss_one (ps_if (pt_cmpR op_ne (pe_cl C_law_divisor hr (pa_cons (pe_ix ix_tup (pv 2) pe_int (fun _ _ => rfl)) (pa_cons (pe_ix ix_tup (pv 2) pe_int (fun _ _ => rfl)) pa_nil))) pe_int (nomark _))
          (pss_one (ps_ret pe_bl))
          pss_nil)))))
      (pss_one (ps_ret (pe_or (pe_cmpR (op_eqD hr.units) (pv 0) (pe_lst pa_nil) (nomark _)) (pe_one (pe_cmpR (op_neD hr.units) (pe_ix ix_tup (pe_ix ix_list (pv 0) (pe_un un_neg pe_int) (fun _ _ => rfl)) pe_int (fun _ _ => rfl)) pe_int (nomark _)))))))), ?_⟩
  refine ze_1_2 _ rfl ⟨_, _, _, ze_1_2 _ rfl ⟨TyOf.lst ea, kit_lst_lst _, ze_1_2 _ rfl (iteF ?_)⟩⟩
  refine ze_1_2 _ rfl (ze_2_3 a _ rfl (.inl (SqL.of ea)) (ze_1_2 _ rfl ⟨rfl, ze_1_2 _ rfl (iteNS (congrArg V.int (by rw [List.length_map]; (first | lia | omega))) ?_)⟩))
  refine ze_1_2 _ rfl ⟨a, rfl, ⟨_, SqL.of ea⟩, ?_⟩
  refine for_list (xs := ps.map V.ref) (fun i σ H' => H = H' ∧ ∃ v, σ = [some (.ref a), some (.int m), v]) ⟨rfl, _, rfl⟩ ?_ ?_ ?_
  · rintro i σ _ _ ⟨rfl, _⟩
    exact SqL.of ea
  · rintro i x σ _ hi ⟨rfl, v, rfl⟩
    have hlt : i < qs.length := by
      have := (List.getElem?_eq_some_iff.mp hi).1
      rw [List.length_map] at this
      (first | lia | omega)
    obtain ⟨p1, e1, k1⟩ := kp.get (List.getElem?_eq_getElem hlt)
    rw [hi] at e1
    cases e1
    have d1 := den_pos qs[i]
    have hg : g qs[i].num qs[i].den = 1 := by
      unfold g
      rw [(fq qs[i]).one]
      rfl
    refine ze_1_2 _ rfl ⟨_, _, _, ze_1_2 _ rfl ⟨TyOf.tup k1, kit_tup_tup _, ze_1_2 _ rfl (iteF ?_)⟩⟩
    refine ze_1_2 _ rfl ⟨_, ze_1_2 _ rfl ⟨.inr k1.sq, rfl, ze_1_2 _ rfl (iteNS rfl ?_)⟩⟩
    refine ze_1_2 _ rfl (ze_4_5 _ _ _ _ rfl rfl k1.sq rfl (ze_1_2 _ rfl (ze_1_2 _ rfl (iteF ?_))))
    refine ze_1_2 _ rfl (ze_4_5 _ _ _ _ rfl rfl k1.sq rfl (ze_1_2 _ rfl (ze_1_2 _ rfl (iteF ?_))))
    refine ze_1_2 _ rfl (ze_4_5 _ _ _ _ rfl rfl k1.sq rfl (ze_2_3 _ _ rfl rfl (ze_1_2 _ rfl (iteND (by (first | lia | omega)) ?_))))
    exact ze_1_2 _ rfl (ze_4_5 _ _ _ _ rfl rfl k1.sq rfl (ze_1_2 _ rfl (ze_4_5 _ _ _ _ rfl rfl k1.sq rfl ⟨_, ze_1_2 _ rfl ⟨by (first | lia | omega), rfl, ze_1_2 _ rfl (iteNS (congrArg V.int hg) ⟨rfl, _, rfl⟩)⟩⟩)))
  · rintro σ _ ⟨rfl, v, rfl⟩
    refine ze_1_2 _ rfl ⟨(by show 0 ≤ sizeLine; decide), fun e he => ?_⟩
    have s1 := same_upd he (.lst [])
    refine ⟨dr qs, dr [], (ra.keep s1).dv, .lst upd_same .nil, Nat.le_trans (depth_dr _) (by decide), ze_1_2 _ rfl ?_⟩
    rw [eqv_dr]
    by_cases h0 : qs = []
    · exact iteD h0 (q _ s1)
    · refine iteND h0 ?_
      rcases List.eq_nil_or_concat ps with z | ⟨L, p, z⟩
      · exact absurd (List.length_eq_zero_iff.mp (by rw [← lp, z]; rfl)) h0
      · rw [List.concat_eq_append] at z
        have hlq : qs.length - 1 < qs.length := by
          have : qs.length ≠ 0 := fun w => h0 (List.length_eq_zero_iff.mp w)
          (first | lia | omega)
        obtain ⟨p', e', k'⟩ := kp.get (List.getElem?_eq_getElem hlq)
        have hLl : L.length = qs.length - 1 := by
          rw [z, List.length_append, List.length_singleton] at lp
          (first | lia | omega)
        obtain rfl : p' = p := by
          rw [z, List.map_append, List.getElem?_append_right (by rw [List.length_map]; (first | lia | omega)), List.length_map, hLl, Nat.sub_self] at e'
          simpa using e'.symm
        have hne : qs[qs.length - 1] ≠ 0 := Po.strip_last hst (by rw [List.getLast?_eq_getElem?, List.getElem?_eq_getElem hlq])
        have hn : qs[qs.length - 1].num ≠ 0 := fun w => hne (Rat.num_eq_zero.mp w)
        have ei : atI (ps.map V.ref) (-1) = some (.ref p') := by rw [z, List.map_append]; exact atI_last _ _
        refine ze_1_2 _ rfl (ze_1_2 _ rfl (ze_4_5 a _ _ _ rfl rfl (SqL.of (s1 _ _ ea)) ei (ze_4_5 _ _ _ _ rfl rfl ((k'.keep s1).sq) rfl ⟨_, _, .int _, .int _, by simp [PyData.depth], ?_⟩)))
        have ee : PyData.eqv (.int qs[qs.length - 1].num) (.int 0) = false := by simp [PyData.eqv, hn]
        rw [ee]
        exact q _ s1

structure Sized2 (gs ws : List Rat) : Prop where
  sz : Sized gs ws
  bq : ∃ b, 0 < b ∧ (∀ q ∈ gs, Bq b q) ∧ (∀ q ∈ ws, Bq b q) ∧ (2 * b + 2) * (ws.length + 1) ≤ 600 ∧ (2 * ((2 * b + 2) * (ws.length + 1) + 10) + 1) * (ws.length + 1) + 1 ≤ 8000
theorem Drawn.sized2 {gs ws : List Rat} (d : Drawn 7 gs ws) : Sized2 gs ws := by
  have hm := d.most
  refine ⟨d.sized (by decide), ?_⟩
  rcases d.size with ⟨a, b⟩ | ⟨l, a, b⟩
  · refine ⟨4, by decide, a, b, by (first | lia | omega), ?_⟩
    have : (2 * ((2 * 4 + 2) * (ws.length + 1) + 10) + 1) * (ws.length + 1) ≤ (2 * ((2 * 4 + 2) * (7 + 1) + 10) + 1) * (7 + 1) := Nat.mul_le_mul (by (first | lia | omega)) (by (first | lia | omega))
    (first | lia | omega)
  · have l2 : ws.length ≤ 1 := by (first | lia | omega)
    refine ⟨101, by decide, a, b, by (first | lia | omega), ?_⟩
    have : (2 * ((2 * 101 + 2) * (ws.length + 1) + 10) + 1) * (ws.length + 1) ≤ (2 * ((2 * 101 + 2) * (1 + 1) + 10) + 1) * (1 + 1) := Nat.mul_le_mul (by (first | lia | omega)) (by (first | lia | omega))
    (first | lia | omega)
noncomputable def sp_squares (C : Addr) : Sp := fun vs H Q _ => ∃ c ga wa gs ws, vs = [.ref c] ∧ Co C H c ga wa gs ws ∧ Sized2 gs ws ∧ ∀ r H', Same H H' → H r = none → Rw H' r (Po.sqQ gs ws) → Q (.ref r) H'
noncomputable def CrI (H : Hp) (a b : Addr) (pl : Nat) (ps qs : List Rat) (i : Nat) (σ : L2.St) (H' : Hp) : Prop := ∃ (Tp M : Int) (v u z : Option V), σ = [some (.ref a), some (.ref b), some (.int pl), some (.int Tp), some (.int M), v, u, z] ∧ H = H' ∧ 0 < M ∧ Po.Rep (3201 * i + 1) (Po.sm (fun j => ps.getD j 0 * qs.getD (pl - j) 0) i) Tp M
noncomputable def SqI (H1 : Hp) (ga wa tp rr : Addr) (gs ws : List Rat) (t : Rat) (i : Nat) (σ : L2.St) (H' : Hp) : Prop := ∃ (Tp M : Int) (v1 v2 v3 v4 : Option V), σ = [some (.ref ga), some (.ref wa), some (.ref tp), some (.ref rr), some (.int Tp), some (.int M), v1, v2, v3, v4] ∧ H1 = H' ∧ 0 < M ∧ Po.Rep (14502 * i + 1) (Po.sqs gs ws t i) Tp M
noncomputable def BsI (H : Hp) (fa a b : Addr) (i : Nat) (σ : L2.St) (H' : Hp) : Prop := ∃ (v1 v2 v3 v4 v5 : Option V), σ = [some (.ref fa), some (.ref a), some (.ref b), v1, v2, v3, v4, v5] ∧ Same H H'
noncomputable def BsM (H6 : Hp) (fa a b f1 f2 d : Addr) (fs : List Rat) (i : Nat) (σ' : L2.St) (H' : Hp) : Prop := ∃ (p : Addr), σ' = [some (.ref fa), some (.ref a), some (.ref b), some (.int (0 + (i : Int))), some (.ref f1), some (.ref f2), some (.ref d), some (.ref p)] ∧ Pq H6 p (fs.getD i 0) ∧ H6 = H'
theorem CrI.elim {H : Hp} {a b : Addr} {pl : Nat} {ps qs : List Rat} {i : Nat} {σ : L2.St} {H' : Hp} {G : Prop} (h : CrI H a b pl ps qs i σ H') (k : ∀ (Tp M : Int) (v u z : Option V), σ = [some (.ref a), some (.ref b), some (.int pl), some (.int Tp), some (.int M), v, u, z] → (H = H') → (0 < M) → (Po.Rep (3201 * i + 1) (Po.sm (fun j => ps.getD j 0 * qs.getD (pl - j) 0) i) Tp M) → G) : G := by
  obtain ⟨Tp, M, v, u, z, h0', h1', h2', h3'⟩ := h
  exact k _ _ _ _ _ h0' h1' h2' h3'
theorem SqI.elim {H1 : Hp} {ga wa tp rr : Addr} {gs ws : List Rat} {t : Rat} {i : Nat} {σ : L2.St} {H' : Hp} {G : Prop} (h : SqI H1 ga wa tp rr gs ws t i σ H') (k : ∀ (Tp M : Int) (v1 v2 v3 v4 : Option V), σ = [some (.ref ga), some (.ref wa), some (.ref tp), some (.ref rr), some (.int Tp), some (.int M), v1, v2, v3, v4] → (H1 = H') → (0 < M) → (Po.Rep (14502 * i + 1) (Po.sqs gs ws t i) Tp M) → G) : G := by
  obtain ⟨Tp, M, v1, v2, v3, v4, h0', h1', h2', h3'⟩ := h
  exact k _ _ _ _ _ _ h0' h1' h2' h3'
theorem BsI.elim {H : Hp} {fa a b : Addr} {i : Nat} {σ : L2.St} {H' : Hp} {G : Prop} (h : BsI H fa a b i σ H') (k : ∀ (v1 v2 v3 v4 v5 : Option V), σ = [some (.ref fa), some (.ref a), some (.ref b), v1, v2, v3, v4, v5] → (Same H H') → G) : G := by
  obtain ⟨v1, v2, v3, v4, v5, h0', h1'⟩ := h
  exact k _ _ _ _ _ h0' h1'
theorem BsM.elim {H6 : Hp} {fa a b f1 f2 d : Addr} {fs : List Rat} {i : Nat} {σ' : L2.St} {H' : Hp} {G : Prop} (h : BsM H6 fa a b f1 f2 d fs i σ' H') (k : ∀ (p : Addr), σ' = [some (.ref fa), some (.ref a), some (.ref b), some (.int (0 + (i : Int))), some (.ref f1), some (.ref f2), some (.ref d), some (.ref p)] → (Pq H6 p (fs.getD i 0)) → (H6 = H') → G) : G := by
  obtain ⟨p, h0', h1', h2'⟩ := h
  exact k _ h0' h1' h2'
noncomputable def BsS (H : Hp) (fa a b : Addr) (fs : List Rat) (i : Nat) (v5 : Option V) (σ' : L2.St) (H' : Hp) : Prop := ∃ (f1 f2 d : Addr) (Td Md : Int), σ' = [some (.ref fa), some (.ref a), some (.ref b), some (.int (0 + (i : Int))), some (.ref f1), some (.ref f2), some (.ref d), v5] ∧ Same H H' ∧ H' d = some (.tup [.int Td, .int Md]) ∧ Po.Rep 499999 (fs.getD i 0) Td Md
theorem BsS.elim {H : Hp} {fa a b : Addr} {fs : List Rat} {i : Nat} {v5 : Option V} {σ' : L2.St} {H' : Hp} {G : Prop} (h : BsS H fa a b fs i v5 σ' H') (k : ∀ (f1 f2 d : Addr) (Td Md : Int), σ' = [some (.ref fa), some (.ref a), some (.ref b), some (.int (0 + (i : Int))), some (.ref f1), some (.ref f2), some (.ref d), v5] → (Same H H') → (H' d = some (.tup [.int Td, .int Md])) → (Po.Rep 499999 (fs.getD i 0) Td Md) → G) : G := by
  obtain ⟨f1, f2, d, Td, Md, h0', h1', h2', h3'⟩ := h
  exact k _ _ _ _ _ h0' h1' h2' h3'
theorem sc_squares : FnScope ["cord", "last"] ["cord"] (defScope s_squares) := ⟨rfl, rfl, rfl, by decide +kernel, rfl, by decide +kernel, by decide +kernel⟩
set_option maxHeartbeats 2000000 in
theorem ok_squares (F : Fun K "squares" "squares" s_squares f fd) (T : Txt mg) (C_ends : Cal P w K mg base "ends" 5 ["cord", "height", "lean"] (sp_ends o_Cord)) (C_slope : Cal P w K mg base "slope" 4 ["one"] sp_slope) (C_poly_times : Cal P w K mg base "poly_times" 4 ["one", "other"] sp_prodB) (C_poly_minus : Cal P w K mg base "poly_minus" 4 ["one", "other"] (sp_pbin Po.psub)) : FnOk P w K mg base CX0 6 f fd ["cord"] (sp_squares o_Cord) := by
  refine F.ok sc_squares (fun vs H Q E h => ?_) (fun cdv A outer s H vs Q E hr h => ?_)
  · obtain ⟨c, ga, wa, gs, ws, rfl, _⟩ := h
    rfl
  obtain ⟨c, ga, wa, gs, ws, rfl, co, sz2, q⟩ := h
  have sz := sz2.sz
  have hmost := sz.most
  obtain ⟨b, hb, bg, bw, n1, n2⟩ := sz2.bq
  obtain ⟨M, o⟩ := Po.pst_o2 (h0 := []) (l0 := [1]) hb bg bw (by simp) (by simp) ws.length
  obtain ⟨lx, ly⟩ := Po.pst_length (gs := gs) (ws := ws) (h0 := []) (l0 := [1]) (by simp) (by simp) ws.length
  refine ⟨_, (pss_cons (ps_set (i := 1) sc_squares.nd rfl (Or.inl rfl) (pe_cl C_ends hr (pa_cons (pv 0) (pa_cons (pe_lst pa_nil) (pa_cons (pe_lst (pa_cons (pe_tup (pa_cons pe_int (pa_cons pe_int pa_nil))) pa_nil)) pa_nil)))))
      (pss_one (ps_ret (pe_cl C_poly_minus hr (pa_cons (pe_cl C_poly_times hr (pa_cons (pe_cl C_slope hr (pa_cons (pe_ix ix_tup (pv 1) pe_int (fun _ _ => rfl)) pa_nil)) (pa_cons (pe_ix ix_tup (pv 1) pe_int (fun _ _ => rfl)) pa_nil))) (pa_cons (pe_cl C_poly_times hr (pa_cons (pe_ix ix_tup (pv 1) pe_int (fun _ _ => rfl)) (pa_cons (pe_cl C_slope hr (pa_cons (pe_ix ix_tup (pv 1) pe_int (fun _ _ => rfl)) pa_nil)) pa_nil))) pa_nil)))))), ?_⟩
  refine ze_1_2 _ rfl ⟨(by show 0 ≤ sizeLine; decide), fun a ha => ⟨(by show 2 ≤ sizeLine; decide), fun p hp => ⟨(by show 1 ≤ sizeLine; decide), fun lb hlb => ?_⟩⟩⟩
  have s1 := same_upd ha (.lst [])
  have s2 := same_upd hp (.tup [.int 1, .int 1])
  have s3 := same_upd hlb (.lst [.ref p])
  have s13 := s1.trans (s2.trans s3)
  refine ⟨c, ga, wa, a, lb, gs, ws, [], [1], rfl, co.keep s13, ⟨[], (s2.trans s3) _ _ upd_same, .nil⟩, ⟨[p], upd_same, .cons ((Pq.of Pr.new ⟨rfl, rfl⟩ : Pq _ p 1).keep s3) .nil⟩, sz, by simp, by simp, by simp, by simp, fun r x y H1 t1 er nx ny rx ry => ?_⟩
  have q' : ∀ r H', Same H1 H' → H1 r = none → Rw H' r (Po.sqQ gs ws) → Q (.ref r) H' := fun r H' s' n' rw' => q r H' (s13.trans (t1.trans s')) ((s13.trans t1).free n') rw'
  clear q
  unfold Po.sqQ at q'
  generalize (Po.pst gs ws [] [1] ws.length).1 = hs at *
  generalize (Po.pst gs ws [] [1] ws.length).2 = ls at *
  generalize (2 * b + 2) * (ws.length + 1) = N at *
  have b1500 : ∀ {n : Nat} {M : Int} {qs : List Rat}, (∀ q ∈ qs, Po.Ov n M q) → M ≠ 0 → Bt n M → n ≤ 1500 → ∀ q ∈ qs, Bq 1500 q := fun ho hM bM hn q hq => ((ho q hq).bq hM bM).mono hn
  have bh := b1500 o.oh o.ne o.bm (by (first | lia | omega))
  have bl := b1500 o.ol o.ne o.bm (by (first | lia | omega))
  have osh := Po.ov_pslope o.oh (by (first | lia | omega))
  have osl := Po.ov_pslope o.ol (by (first | lia | omega))
  have lsh : (Po.pslope hs).length = hs.length - 1 := by unfold Po.pslope; rw [List.length_map, List.length_range]
  have lsl : (Po.pslope ls).length = ls.length - 1 := by unfold Po.pslope; rw [List.length_map, List.length_range]
  have bm10 := o.bm.mono (show N ≤ N + 10 by (first | lia | omega))
  have hN : ∀ {qs : List Rat} {n : Nat}, n ≤ N + 10 → (∀ q ∈ qs, Po.Ov n M q) → ∀ q ∈ qs, Bq (N + 10) q := fun hn ho q hq => ((ho q hq).mono hn).bq o.ne bm10
  have big : ∀ m, m ≤ ws.length + 1 → (N + 10 + (N + 10) + 1) * m + 1 ≤ 8000 ∧ N + 10 + (N + 10) ≤ 8000 := fun m hm => by
    have := Nat.mul_le_mul_left (2 * (N + 10) + 1) hm
    rw [show N + 10 + (N + 10) + 1 = 2 * (N + 10) + 1 by (first | lia | omega)]
    (first | lia | omega)
  refine ze_1_2 _ rfl (ze_4_5 r _ _ _ rfl rfl (SqT.of er) rfl (ze_2_5 x hs rfl rx (by (first | lia | omega)) bh (fun r2 H2 t2 n2' rw2 => ?_)))
  refine ze_1_2 _ rfl (ze_4_5 r _ _ _ rfl rfl (SqT.of (t2 _ _ er)) rfl ⟨r2, y, _, ls, N + 10, rfl, rw2, ry.keep t2, by (first | lia | omega), by (first | lia | omega), by (first | lia | omega), big _ (by (first | lia | omega)), hN (Nat.le_refl _) osh, hN (by (first | lia | omega)) o.ol, fun r3 H3 t3 n3' rw3 => ?_⟩)
  have t13 := t2.trans t3
  have er3 := t13 _ _ er
  refine ze_1_2 _ rfl (ze_4_5 r _ _ _ rfl rfl (SqT.of er3) rfl (ze_1_2 _ rfl (ze_4_5 r _ _ _ rfl rfl (SqT.of er3) rfl (ze_2_5 y ls rfl (ry.keep t13) (by (first | lia | omega)) bl (fun r4 H4 t4 n4' rw4 => ?_)))))
  have t14 := t13.trans t4
  refine ⟨x, r4, hs, _, N + 10, rfl, rx.keep t14, rw4, by (first | lia | omega), by (first | lia | omega), by (first | lia | omega), big _ (by (first | lia | omega)), hN (by (first | lia | omega)) o.oh, hN (Nat.le_refl _) osl, fun r5 H5 t5 n5' rw5 => ?_⟩
  have op1 := Po.ov_pmul osh (Po.ov_mono o.ol (show N ≤ N + 10 by (first | lia | omega))) bm10 bm10 (by (first | lia | omega))
  have op2 := Po.ov_pmul (Po.ov_mono o.oh (show N ≤ N + 10 by (first | lia | omega))) osl bm10 bm10 (by (first | lia | omega))
  have lp1 : (Po.pmul (Po.pslope hs) ls).length ≤ 30 := Nat.le_trans (Po.strip_length _) (by rw [List.length_map, List.length_range]; (first | lia | omega))
  have lp2 : (Po.pmul hs (Po.pslope ls)).length ≤ 30 := Nat.le_trans (Po.strip_length _) (by rw [List.length_map, List.length_range]; (first | lia | omega))
  have neM : M * M ≠ 0 := Int.mul_ne_zero o.ne o.ne
  have bMM : Bt (N + 10 + (N + 10) + 61) (M * M) := (bm10.mul bm10).mono (by (first | lia | omega))
  refine ze_4_8 r3 r5 _ _ rfl (rw3.keep (t4.trans t5)) rw5 lp1 lp2 (b1500 op1 neM bMM (by (first | lia | omega))) (b1500 op2 neM bMM (by (first | lia | omega))) (fun r6 H6 t6 n6' rw6 => ?_)
  exact q' r6 H6 (t14.trans (t5.trans t6)) ((t14.trans t5).free n6') rw6
noncomputable def sp_crossedZ : Sp := fun vs H Q _ => ∃ (a b : Addr) (ps qs : List Rat) (pl : Nat), vs = [.ref a, .ref b, .int pl] ∧ Rz 1600 H a ps ∧ Rz 1600 H b qs ∧ pl ≤ 60 ∧
  ∀ r T M H', Same H H' → H' r = some (.tup [.int T, .int M]) → 0 < M → Po.Rep 200000 (Po.conv ps qs pl) T M → Q (.ref r) H'
theorem sc_law_crossed : FnScope ["_law_one", "_law_other", "_law_place", "_law_top", "_law_bottom", "_law_k", "_law_more", "_law_lower"] ["_law_one", "_law_other", "_law_place"] (defScope s_law_crossed) := ⟨rfl, rfl, rfl, by decide +kernel, rfl, by decide +kernel, by decide +kernel⟩
set_option maxHeartbeats 2000000 in
theorem ok_law_crossed (F : Fun K "_law_crossed" "_law_crossed" s_law_crossed f fd) (T : Txt mg) : FnOk P w K mg base CX0 1 f fd ["_law_one", "_law_other", "_law_place"] sp_crossedZ := by
  refine F.ok sc_law_crossed (fun vs H Q E h => ?_) (fun cdv A outer s H vs Q E hr h => ?_)
  · obtain ⟨a, b, ps, qs, pl, rfl, _⟩ := h
    rfl
  obtain ⟨a, b, ps, qs, pl, rfl, ⟨pa, ea, ka⟩, ⟨pb, eb, kb⟩, hpl, q⟩ := h
  have la : pa.length = ps.length := Paired.length ka
  have lb : pb.length = qs.length := Paired.length kb
  refine ⟨_, (pss_cons (ps_set (i := 3) sc_law_crossed.nd rfl (Or.inl rfl) pe_int)
      (pss_cons (ps_set (i := 4) sc_law_crossed.nd rfl (Or.inl rfl) pe_int)
      (pss_cons (ps_for PassesOwn.never rfl (pi_range1 rfl T.z_range (pa_cons (pe_op op_add (pv 2) pe_int) pa_nil)) (pg_name (i := 5) sc_law_crossed.nd rfl (Or.inl rfl))
        (pss_one (ps_if (PW.pt (pw_and (pt_cmpR op_lt (pv 5) (pe_callB call_len_seq rfl T.z_len PySem.boot_len (pa_cons (pv 0) pa_nil)) (nomark _)) (pw_and1 (pt_cmpR op_lt (pe_op op_sub (pv 2) (pv 5)) (pe_callB call_len_seq rfl T.z_len PySem.boot_len (pa_cons (pv 1) pa_nil)) (nomark _)))))
          (pss_cons (ps_set (i := 6) sc_law_crossed.nd rfl (Or.inl rfl) (pe_op op_mulB (pe_ix ix_tup (pe_ix ix_list (pv 0) (pv 5) (fun _ _ => rfl)) pe_int (fun _ _ => rfl)) (pe_ix ix_tup (pe_ix ix_list (pv 1) (pe_op op_sub (pv 2) (pv 5)) (fun _ _ => rfl)) pe_int (fun _ _ => rfl))))
          (pss_cons (ps_set (i := 7) sc_law_crossed.nd rfl (Or.inl rfl) (pe_op op_mulB (pe_ix ix_tup (pe_ix ix_list (pv 0) (pv 5) (fun _ _ => rfl)) pe_int (fun _ _ => rfl)) (pe_ix ix_tup (pe_ix ix_list (pv 1) (pe_op op_sub (pv 2) (pv 5)) (fun _ _ => rfl)) pe_int (fun _ _ => rfl))))
          (pss_cons (ps_set (i := 3) sc_law_crossed.nd rfl (Or.inl rfl) (pe_op op_add (pe_op op_mulB (pv 3) (pv 7)) (pe_op op_mulB (pv 6) (pv 4))))
          (pss_one (ps_set (i := 4) sc_law_crossed.nd rfl (Or.inl rfl) (pe_op op_mulB (pv 4) (pv 7)))))))
          pss_nil)))
      (pss_one (ps_ret (pe_tup (pa_cons (pv 3) (pa_cons (pv 4) pa_nil)))))))), ?_⟩
  refine ze_1_2 _ rfl (ze_2_3 _ _ rfl rfl (ze_1_2 _ rfl ⟨by (first | lia | omega), by (first | lia | omega), ?_⟩))
  rw [show ((pl : Int) + 1).toNat = pl + 1 by (first | lia | omega)]
  refine for_range (n := pl + 1) (CrI H a b pl ps qs)
    ⟨0, 1, _, _, _, rfl, rfl, by decide, Po.Rep.zero (by decide)⟩ ?_ ?_
  · intro i σ H' hi hI
    refine CrI.elim hI fun Tp M v u z eσ eH hM rep => ?_
    subst eσ
    subst eH
    have out : (¬ i < ps.length ∨ ¬ pl - i < qs.length) → Po.Rep (3201 * (i + 1) + 1) (Po.sm (fun j => ps.getD j 0 * qs.getD (pl - j) 0) (i + 1)) Tp M := fun h => by
      rw [Po.sm_succ]
      have e0 : ps.getD i 0 * qs.getD (pl - i) 0 = 0 := by
        rcases h with h | h
        · rw [Po.getD_out (by (first | lia | omega)), Rat.zero_mul]
        · rw [Po.getD_out (xs := qs) (by (first | lia | omega)), Rat.mul_zero]
      rw [e0, Rat.add_zero]
      exact rep.mono (by (first | lia | omega))
    refine ze_1_2 _ rfl (ze_1_2 _ rfl (ze_2_3 a _ rfl (.inl (SqL.of ea)) (ze_2_3 _ _ rfl rfl (ze_1_2 _ rfl ?_))))
    refine ite2 (fun c1 => ?_) (fun c1 => iteF ?_)
    · have c1' := of_decide_eq_true c1
      rw [List.length_map] at c1'
      have hi1 : i < ps.length := by (first | lia | omega)
      refine ze_1_2 _ rfl (ze_1_2 _ rfl (ze_2_3 _ _ rfl rfl (ze_1_2 _ rfl (ze_2_3 b _ rfl (.inl (SqL.of eb)) (ze_2_3 _ _ rfl rfl (ze_1_2 _ rfl ?_))))))
      refine ite2 (fun c2 => ?_) (fun c2 => ?_)
      · have c2' := of_decide_eq_true c2
        rw [List.length_map] at c2'
        have hi2 : pl - i < qs.length := by (first | lia | omega)
        obtain ⟨p1, e1, T1, M1, k1, h1, r1⟩ := paired_get ka (List.getElem?_eq_getElem hi1)
        obtain ⟨p2, e2, T2, M2, k2, h2, r2⟩ := paired_get kb (List.getElem?_eq_getElem hi2)
        have e1' : atI (pa.map V.ref) (0 + (i : Int)) = some (.ref p1) := atI_0 (by rw [List.getElem?_map, e1]; rfl)
        have e2' : atI (pb.map V.ref) ((pl : Int) - (0 + (i : Int))) = some (.ref p2) := by
          rw [show (pl : Int) - (0 + (i : Int)) = ((pl - i : Nat) : Int) by (first | lia | omega)]
          exact atI_nat (by rw [List.getElem?_map, e2]; rfl)
        have g1 := Po.getD_in hi1
        have g2 := Po.getD_in hi2
        have rp := r1.mulR r2.1 r2.2.1 r2.2.2.1 r2.2.2.2
        have rep' := rep.addR rp.1 rp.2.1 rp.2.2.1 rp.2.2.2
        obtain ⟨_, _, bT, bM⟩ := rep
        obtain ⟨_, _, b11, b12⟩ := r1
        obtain ⟨_, _, b21, b22⟩ := r2
        refine ze_1_2 _ rfl (ze_1_2 _ rfl (ze_4_5 a _ _ _ rfl rfl (SqL.of ea) e1' (ze_4_5 _ _ _ _ rfl rfl (SqT.of k1) rfl (ze_1_2 _ rfl (ze_1_2 _ rfl (ze_1_2 _ rfl (ze_2_3 _ _ rfl rfl (ze_4_5 b _ _ _ rfl rfl (SqL.of eb) e2' (ze_4_5 _ _ _ _ rfl rfl (SqT.of k2) rfl (ze_2_3 _ _ rfl rfl ⟨mul_of b11 b21 (by decide), ?_⟩))))))))))
        refine ze_1_2 _ rfl (ze_1_2 _ rfl (ze_4_5 a _ _ _ rfl rfl (SqL.of ea) e1' (ze_4_5 _ _ _ _ rfl rfl (SqT.of k1) rfl (ze_1_2 _ rfl (ze_1_2 _ rfl (ze_1_2 _ rfl (ze_2_3 _ _ rfl rfl (ze_4_5 b _ _ _ rfl rfl (SqL.of eb) e2' (ze_4_5 _ _ _ _ rfl rfl (SqT.of k2) rfl (ze_2_3 _ _ rfl rfl ⟨mul_of b12 b22 (by decide), ?_⟩))))))))))
        refine ze_1_2 _ rfl (ze_1_2 _ rfl (ze_2_3 _ _ rfl rfl ⟨mul_of bT (b12.mul b22) (by (first | lia | omega)), ze_1_2 _ rfl (ze_1_2 _ rfl (ze_2_3 _ _ rfl rfl ⟨mul_of (b11.mul b21) bM (by (first | lia | omega)), ze_2_3 _ _ rfl rfl ?_⟩))⟩))
        refine ze_1_2 _ rfl (ze_1_2 _ rfl (ze_2_3 _ _ rfl rfl ⟨mul_of bM (b12.mul b22) (by (first | lia | omega)), _, _, _, ze_2_3 _ _ rfl rfl ⟨Int.mul_pos hM (Int.mul_pos h1 h2), ?_⟩⟩))
        rw [Po.sm_succ, g1, g2]
        exact rep'.mono (by (first | lia | omega))
      · have c2' := of_decide_eq_false (Bool.eq_false_iff.mpr c2)
        rw [List.length_map] at c2'
        exact ⟨_, _, _, ze_2_3 _ _ rfl rfl ⟨hM, out (.inr (by (first | lia | omega)))⟩⟩
    · have c1' := of_decide_eq_false (Bool.eq_false_iff.mpr c1)
      rw [List.length_map] at c1'
      exact ⟨_, _, _, ze_2_3 _ _ rfl rfl ⟨hM, out (.inl (by (first | lia | omega)))⟩⟩
  · intro σ H' hI
    refine CrI.elim hI fun Tp M v u z eσ eH hM rep => ?_
    subst eσ
    subst eH
    refine ze_1_2 _ rfl (ze_1_2 _ rfl ⟨(by show 2 ≤ sizeLine; decide), fun r hr' => q r Tp M _ (same_upd hr' _) upd_same hM (rep.mono (by (first | lia | omega)))⟩)
noncomputable def sp_slopeZ : Sp := fun vs H Q _ => ∃ a qs, vs = [.ref a] ∧ Rw H a qs ∧ qs.length ≤ 60 ∧ (∀ q ∈ qs, Bq 1500 q) ∧ ∀ r H', Same H H' → H r = none → Rz 1600 H' r (Po.pslope qs) → Q (.ref r) H'
theorem sc_law_slope : FnScope ["_law_one"] ["_law_one"] (defScope s_law_slope) := ⟨rfl, rfl, rfl, by decide +kernel, rfl, by decide +kernel, by decide +kernel⟩
theorem ok_law_slope (F : Fun K "_law_slope" "_law_slope" s_law_slope f fd) (T : Txt mg) : FnOk P w K mg base CX0 1 f fd ["_law_one"] sp_slopeZ := by
  refine F.ok sc_law_slope (fun vs H Q E h => ?_) (fun cdv A outer s H vs Q E hr h => ?_)
  · obtain ⟨a, qs, rfl, _⟩ := h
    rfl
  obtain ⟨a, qs, rfl, ⟨pa, ea, ka⟩, hl, bq, q⟩ := h
  have la := ka.length
  refine ⟨_, (pss_one (ps_ret (pe_comp (N' := ["_law_k", "_law_one"]) (fsc := defScope s_law_slope) (N := ["_law_one"]) [0] ⟨rfl, by decide +kernel, by decide +kernel, by decide +kernel, rfl, by decide +kernel, rfl, by decide +kernel⟩ (pi_range2 rfl T.z_range (pa_cons pe_int (pa_cons (pe_callB call_len_seq rfl T.z_len PySem.boot_len (pa_cons (pv 0) pa_nil)) pa_nil))) (fun _ _ _ _ => (pe_tup (pa_cons (pe_op op_mulB (pv 0) (pe_ix ix_tup (pe_ix ix_list (pv 1) (pv 0) (fun _ _ => rfl)) pe_int (fun _ _ => rfl))) (pa_cons (pe_ix ix_tup (pe_ix ix_list (pv 1) (pv 0) (fun _ _ => rfl)) pe_int (fun _ _ => rfl)) pa_nil))))))), ?_⟩
  refine ze_1_2 _ rfl (ze_2_3 a _ rfl (.inl (SqL.of ea)) ⟨_, ze_1_2 _ rfl ⟨⟨by decide, by decide, by (first | lia | omega), by rw [List.length_map]; (first | lia | omega)⟩, ?_⟩⟩)
  rw [List.length_map, show ((pa.length : Int) - 1).toNat = qs.length - 1 by (first | lia | omega)]
  refine comp_rangeZ (nb := 1600) (by (first | lia | omega)) (fun k => qs.getD (k + 1) 0 * (((1 : Int) + (k : Int) : Int) : Rat)) ?_ fun H1 D s1 nD rz => q D H1 s1 nD rz
  intro _ _ _ _ i H1 R hi s1 fin
  have hi1 : i + 1 < qs.length := by (first | lia | omega)
  obtain ⟨p1, e1, k1⟩ := ka.get (List.getElem?_eq_getElem hi1)
  have e1' : atI (pa.map V.ref) (1 + (i : Int)) = some (.ref p1) := by
    rw [show (1 : Int) + (i : Int) = ((i + 1 : Nat) : Int) by (first | lia | omega)]
    exact atI_nat e1
  have b1 := bq _ (List.getElem_mem hi1)
  have bi : Bt 10 (1 + (i : Int)) := Bt.between (by (first | lia | omega)) (by (first | lia | omega))
  have k11 := k1.keep s1
  refine ze_1_2 _ rfl (ze_1_2 _ rfl (ze_1_2 _ rfl (ze_4_5 a _ _ _ rfl rfl (SqL.of (s1 _ _ ea)) e1' (ze_4_5 _ _ _ _ rfl rfl k11.sq rfl (ze_2_3 _ _ rfl rfl ⟨mul_of bi b1.1 (by decide), ze_1_2 _ rfl (ze_1_2 _ rfl (ze_4_5 a _ _ _ rfl rfl (SqL.of (s1 _ _ ea)) e1' (ze_4_5 _ _ _ _ rfl rfl k11.sq rfl ⟨(by show 2 ≤ sizeLine; decide), fun p hp => fin p _ (same_upd hp _) ⟨_, _, upd_same, den_pos _, ?_⟩⟩)))⟩)))))
  refine ⟨Int.ne_of_gt (den_pos _), ?_, (bi.mul b1.1).mono (by decide), b1.2.mono (by decide)⟩
  rw [Po.getD_in hi1, Rat.intCast_mul]
  have e := q_eq qs[i + 1]
  have n := den_ne qs[i + 1]
  generalize (qs[i + 1].num : Rat) = u at *
  generalize ((qs[i + 1].den : Int) : Rat) = d at *
  rw [← e]
  grind
noncomputable def sp_sqAt : Sp := fun vs H Q _ => ∃ (g w tp : Addr) (gs ws : List Rat) (t : Rat), vs = [.ref g, .ref w, .ref tp] ∧ Rw H g gs ∧ Rw H w ws ∧ Pq H tp t ∧ gs.length = ws.length + 1 ∧ ws.length ≤ 12 ∧ (∀ q ∈ gs, Bq 101 q) ∧ (∀ q ∈ ws, Bq 101 q) ∧ Bq 334 t ∧
  ∀ r H', Same H H' → Pz 500000 H' r (Po.sqs gs ws t ws.length) → Q (.ref r) H'
theorem sc_law_squares_at : FnScope ["_law_gaps", "_law_weights", "_law_t", "_law_rows", "_law_top", "_law_bottom", "_law_k", "_law_height", "_law_more", "_law_lower"] ["_law_gaps", "_law_weights", "_law_t"] (defScope s_law_squares_at) := ⟨rfl, rfl, rfl, by decide +kernel, rfl, by decide +kernel, by decide +kernel⟩
set_option maxHeartbeats 2000000 in
theorem ok_law_squares_at (F : Fun K "_law_squares_at" "_law_squares_at" s_law_squares_at f fd) (T : Txt mg) (C_law_walk : Cal P w K mg base "_law_walk" 3 ["_law_gaps", "_law_weights", "_law_t", "_law_height", "_law_lean"] sp_walk) : FnOk P w K mg base CX0 4 f fd ["_law_gaps", "_law_weights", "_law_t"] sp_sqAt := by
  refine F.ok sc_law_squares_at (fun vs H Q E h => ?_) (fun cdv A outer s H vs Q E hr h => ?_)
  · obtain ⟨g, w, tp, gs, ws, t, rfl, _⟩ := h
    rfl
  obtain ⟨ga, wa, tp, gs, ws, t, rfl, rg, rw', kt, hlen, hmost, bg, bw, bt, q⟩ := h
  refine ⟨_, (pss_cons (ps_set (i := 3) sc_law_squares_at.nd rfl (Or.inl rfl) (pe_cl C_law_walk hr (pa_cons (pv 0) (pa_cons (pv 1) (pa_cons (pv 2) (pa_cons pe_int (pa_cons pe_int pa_nil)))))))
      (pss_cons (ps_set (i := 4) sc_law_squares_at.nd rfl (Or.inl rfl) pe_int)
      (pss_cons (ps_set (i := 5) sc_law_squares_at.nd rfl (Or.inl rfl) pe_int)
      (pss_cons (ps_for PassesOwn.never rfl (pi_range1 rfl T.z_range (pa_cons (pe_callB call_len_seq rfl T.z_len PySem.boot_len (pa_cons (pv 1) pa_nil)) pa_nil)) (pg_name (i := 6) sc_law_squares_at.nd rfl (Or.inl rfl))
        (pss_split 3 (pss_cons (ps_set (i := 7) sc_law_squares_at.nd rfl (Or.inl rfl) (pe_ix ix_tup (pe_ix ix_list (pv 3) (pv 6) (fun _ _ => rfl)) pe_int (fun _ _ => rfl)))
        (pss_cons (ps_set (i := 8) sc_law_squares_at.nd rfl (Or.inl rfl) (pe_op op_mulB (pe_op op_mulB (pe_ix ix_tup (pe_ix ix_list (pv 1) (pv 6) (fun _ _ => rfl)) pe_int (fun _ _ => rfl)) (pe_ix ix_tup (pv 7) pe_int (fun _ _ => rfl))) (pe_ix ix_tup (pv 7) pe_int (fun _ _ => rfl))))
        (pss_one (ps_set (i := 9) sc_law_squares_at.nd rfl (Or.inl rfl) (pe_op op_mulB (pe_op op_mulB (pe_ix ix_tup (pe_ix ix_list (pv 1) (pv 6) (fun _ _ => rfl)) pe_int (fun _ _ => rfl)) (pe_ix ix_tup (pv 7) pe_int (fun _ _ => rfl))) (pe_ix ix_tup (pv 7) pe_int (fun _ _ => rfl)))))))
        (pss_cons (ps_set (i := 4) sc_law_squares_at.nd rfl (Or.inl rfl) (pe_op op_add (pe_op op_mulB (pv 4) (pv 9)) (pe_op op_mulB (pv 8) (pv 5))))
        (pss_one (ps_set (i := 5) sc_law_squares_at.nd rfl (Or.inl rfl) (pe_op op_mulB (pv 5) (pv 9)))))))
      (pss_one (ps_ret (pe_tup (pa_cons (pv 4) (pa_cons (pv 5) pa_nil))))))))), ?_⟩
  refine ze_1_2 _ rfl (ze_1_2 _ rfl (ze_1_2 _ rfl (ze_8_12 ga wa tp gs ws t 0 1 rfl rg rw' kt hlen hmost bg bw bt (bt2 (by decide +kernel)) (bt2 (by decide +kernel)) (fun rr H1 s1 n1 ⟨ps, er, kr⟩ => ?_))))
  obtain ⟨pw, ew, kw⟩ := rw'.keep s1
  have lw := kw.length
  refine ze_1_2 _ rfl (ze_2_3 wa _ rfl (.inl (SqL.of ew)) (ze_1_2 _ rfl ⟨by (first | lia | omega), by rw [List.length_map]; (first | lia | omega), ?_⟩))
  rw [Int.toNat_natCast, List.length_map, lw]
  refine for_range (n := ws.length) (SqI H1 ga wa tp rr gs ws t)
    ⟨0, 1, _, _, _, _, rfl, rfl, by decide, Po.Rep.zero (by decide)⟩ ?_ ?_
  · intro i σ H' hi hI
    refine SqI.elim hI fun Tp M v1 v2 v3 v4 eσ eH hM rep => ?_
    subst eσ
    subst eH
    have hg : (Po.walkQ gs ws t ((0 : Int) : Rat) ((1 : Int) : Rat))[i]? = some (Po.stp gs ws t 0 1 i) := by
      unfold Po.walkQ
      rw [List.getElem?_map, List.getElem?_range (by (first | lia | omega))]
      rfl
    obtain ⟨y, ey, a1, a2, ea, ka1, ka2⟩ := paired_get kr hg
    have ey' : atI (ps.map V.ref) (0 + (i : Int)) = some (.ref y) := atI_0 (by rw [List.getElem?_map, ey]; rfl)
    obtain ⟨p1, e1, k1⟩ := kw.get (List.getElem?_eq_getElem hi)
    have bwi := bw _ (List.getElem_mem hi)
    obtain ⟨th, tl, m, r3⟩ := Po.stp_r3 (h0 := 0) (l0 := 1) (Po.R3.start (Bq.zero (show 0 < 1 by decide)) (Bq.one (by decide))) bg bw bt i
    have bh : Bq 7200 (Po.stp gs ws t 0 1 i).1 := (r3.mono (show 1 + 1 + 538 * (i + 1) ≤ 7200 by (first | lia | omega))).bq.1
    have gw := Po.getD_in hi
    have hd : (Po.sqs gs ws t (i + 1)) = Po.sqs gs ws t i + ws[i] * ((Po.stp gs ws t 0 1 i).1 * (Po.stp gs ws t 0 1 i).1) := by
      unfold Po.sqs
      rw [Po.sm_succ, gw]
    generalize (Po.stp gs ws t 0 1 i).1 = x at *
    have dx := den_pos x
    have r1 := ((rep_self bwi).mulR (Int.ne_of_gt dx) (q_eq x).symm bh.1 bh.2).mulR (Int.ne_of_gt dx) (q_eq x).symm bh.1 bh.2
    have rep' := rep.addR r1.1 r1.2.1 r1.2.2.1 r1.2.2.2
    have hpos := Int.mul_pos hM (Int.mul_pos (Int.mul_pos (den_pos ws[i]) dx) dx)
    obtain ⟨_, _, bT, bM⟩ := rep
    have bMo := (bwi.1.mul bh.1).mul bh.1
    have bL := (bwi.2.mul bh.2).mul bh.2
    refine ⟨fun σ' H' => σ' = [some (.ref ga), some (.ref wa), some (.ref tp), some (.ref rr), some (.int Tp), some (.int M), some (.int (0 + (i : Int))), some (.ref a1), some (.int (ws[i].num * x.num * x.num)), some (.int (ws[i].den * x.den * x.den))] ∧ H1 = H', ?tlS, ?hdS⟩
    case hdS =>
      refine ze_1_2 _ rfl (ze_1_2 _ rfl (ze_4_5 rr _ _ _ rfl rfl (SqL.of er) ey' (ze_4_5 _ _ _ _ rfl rfl (SqT.of ea) rfl ?_)))
      refine ze_1_2 _ rfl (ze_1_2 _ rfl (ze_4_5 wa _ _ _ rfl rfl (SqL.of ew) (atI_0 e1) (ze_4_5 _ _ _ _ rfl rfl k1.sq rfl (ze_1_2 _ rfl (ze_4_5 _ _ _ _ rfl rfl ka1.sq rfl (ze_2_3 _ _ rfl rfl ⟨mul_of bwi.1 bh.1 (by decide), ze_1_2 _ rfl (ze_4_5 _ _ _ _ rfl rfl ka1.sq rfl (ze_2_3 _ _ rfl rfl ⟨mul_of (bwi.1.mul bh.1) bh.1 (by decide), ?_⟩))⟩))))))
      exact ze_1_2 _ rfl (ze_1_2 _ rfl (ze_4_5 wa _ _ _ rfl rfl (SqL.of ew) (atI_0 e1) (ze_4_5 _ _ _ _ rfl rfl k1.sq rfl (ze_1_2 _ rfl (ze_4_5 _ _ _ _ rfl rfl ka1.sq rfl (ze_2_3 _ _ rfl rfl ⟨mul_of bwi.2 bh.2 (by decide), ze_1_2 _ rfl (ze_4_5 _ _ _ _ rfl rfl ka1.sq rfl (ze_2_3 _ _ rfl rfl ⟨mul_of (bwi.2.mul bh.2) bh.2 (by decide), rfl, rfl⟩))⟩))))))
    rintro _ _ ⟨rfl, rfl⟩
    refine ze_1_2 _ rfl (ze_1_2 _ rfl (ze_2_3 _ _ rfl rfl ⟨mul_of bT bL (by (first | lia | omega)), ze_1_2 _ rfl (ze_1_2 _ rfl (ze_2_3 _ _ rfl rfl ⟨mul_of bMo bM (by (first | lia | omega)), ze_2_3 _ _ rfl rfl ?_⟩))⟩))
    refine ze_1_2 _ rfl (ze_1_2 _ rfl (ze_2_3 _ _ rfl rfl ⟨mul_of bM bL (by (first | lia | omega)), _, _, _, _, ze_2_3 _ _ rfl rfl ⟨hpos, ?_⟩⟩))
    rw [hd, ← Rat.mul_assoc]
    exact rep'.mono (by (first | lia | omega))
  · intro σ H' hI
    refine SqI.elim hI fun Tp M v1 v2 v3 v4 eσ eH hM rep => ?_
    subst eσ
    subst eH
    refine ze_1_2 _ rfl (ze_1_2 _ rfl ⟨(by show 2 ≤ sizeLine; decide), fun r hr' => q r _ (s1.trans (same_upd hr' _)) ⟨Tp, M, upd_same, hM, rep.mono (by (first | lia | omega))⟩⟩)
theorem rep_sub {n m : Nat} {u v : Rat} {T M T' M' : Int} (h : Po.Rep n u T M) (h' : Po.Rep m v T' M') : Po.Rep (n + m + 1) (u - v) (T * M' - T' * M) (M * M') := by
  obtain ⟨hM, hv, bT, bM⟩ := h
  obtain ⟨hM', hv', bT', bM'⟩ := h'
  refine ⟨Int.mul_ne_zero hM hM', ?_, ?_, (bM.mul bM').mono (by (first | lia | omega))⟩
  · have n2 := Po.cast_ne hM
    have n3 := Po.cast_ne hM'
    simp only [Rat.intCast_sub, Rat.intCast_mul]
    generalize (T : Rat) = a at *
    generalize (M : Rat) = b at *
    generalize (T' : Rat) = c at *
    generalize (M' : Rat) = d at *
    subst hv hv'
    grind
  · rw [Int.sub_eq_add_neg]
    exact bt_add (bT.mul bM') (((bT'.mul bM).neg).mono (by (first | lia | omega)))
theorem v3z {a b : V} {i : Nat} : [a, b, V.int (0 + (i : Int))] = [a, b, V.int i] := by rw [Int.zero_add]
noncomputable def sp_by : Sp := fun vs H Q _ => ∃ fa a b fs ps qs, vs = [.ref fa, .ref a, .ref b] ∧ Rw H fa fs ∧ Rw H a ps ∧ Rw H b qs ∧ fs.length ≤ 60 ∧ ps.length ≤ 14 ∧ qs.length ≤ 14 ∧ (∀ q ∈ fs, Bq 4000 q) ∧ (∀ q ∈ ps, Bq 1500 q) ∧ (∀ q ∈ qs, Bq 1500 q) ∧
  (∀ k, fs.getD k 0 = Po.conv (Po.pslope ps) qs k - Po.conv ps (Po.pslope qs) k) ∧ ∀ H', Same H H' → Q (.bl true) H'
theorem sc_law_by_slopes : FnScope ["_law_found", "_law_one", "_law_other", "_law_place", "_law_first", "_law_last", "_law_due", "_law_figure"] ["_law_found", "_law_one", "_law_other"] (defScope s_law_by_slopes) := ⟨rfl, rfl, rfl, by decide +kernel, rfl, by decide +kernel, by decide +kernel⟩
set_option maxHeartbeats 2000000 in
theorem ok_law_by_slopes (F : Fun K "_law_by_slopes" "_law_by_slopes" s_law_by_slopes f fd) (T : Txt mg) (C_law_slope : Cal P w K mg base "_law_slope" 1 ["_law_one"] sp_slopeZ) (C_law_crossed : Cal P w K mg base "_law_crossed" 1 ["_law_one", "_law_other", "_law_place"] sp_crossedZ) (C_law_is : Cal P w K mg base "_law_is" 1 ["_law_one", "_law_due"] sp_isR) : FnOk P w K mg base CX0 2 f fd ["_law_found", "_law_one", "_law_other"] sp_by := by
  refine F.ok sc_law_by_slopes (fun vs H Q E h => ?_) (fun cdv A outer s H vs Q E hr h => ?_)
  · obtain ⟨fa, a, b, fs, ps, qs, rfl, _⟩ := h
    rfl
  obtain ⟨fa, a, b, fs, ps, qs, rfl, rf, ra, rb, lf, lp, lq, bf, bp, bq, hfs, q⟩ := h
  obtain ⟨pf, ef, kf⟩ := id rf
  obtain ⟨xa, ea, la⟩ := ra.there
  have lpf := kf.length
  refine ⟨_, (pss_cons (ps_for PassesOwn.never rfl (pi_range1 rfl T.z_range (pa_cons (pe_op op_add (pe_op op_mulB pe_int (pe_callB call_len_seq rfl T.z_len PySem.boot_len (pa_cons (pv 1) pa_nil))) pe_int) pa_nil)) (pg_name (i := 3) sc_law_by_slopes.nd rfl (Or.inl rfl))
        (pss_split 3 (pss_cons (ps_set (i := 4) sc_law_by_slopes.nd rfl (Or.inl rfl) (pe_cl C_law_crossed hr (pa_cons (pe_cl C_law_slope hr (pa_cons (pv 1) pa_nil)) (pa_cons (pv 2) (pa_cons (pv 3) pa_nil)))))
        (pss_cons (ps_set (i := 5) sc_law_by_slopes.nd rfl (Or.inl rfl) (pe_cl C_law_crossed hr (pa_cons (pv 1) (pa_cons (pe_cl C_law_slope hr (pa_cons (pv 2) pa_nil)) (pa_cons (pv 3) pa_nil)))))
        (pss_one (ps_set (i := 6) sc_law_by_slopes.nd rfl (Or.inl rfl) (pe_tup (pa_cons (pe_op op_sub (pe_op op_mulB (pe_ix ix_tup (pv 4) pe_int (fun _ _ => rfl)) (pe_ix ix_tup (pv 5) pe_int (fun _ _ => rfl))) (pe_op op_mulB (pe_ix ix_tup (pv 5) pe_int (fun _ _ => rfl)) (pe_ix ix_tup (pv 4) pe_int (fun _ _ => rfl)))) (pa_cons (pe_op op_mulB (pe_ix ix_tup (pv 4) pe_int (fun _ _ => rfl)) (pe_ix ix_tup (pv 5) pe_int (fun _ _ => rfl))) pa_nil)))))))
        (pss_cons (ps_set (i := 7) sc_law_by_slopes.nd rfl (Or.inl rfl) (pe_tup (pa_cons pe_int (pa_cons pe_int pa_nil))))
        (pss_cons (ps_cut (ps_if (pt_cmpR op_lt (pv 3) (pe_callB call_len_seq rfl T.z_len PySem.boot_len (pa_cons (pv 0) pa_nil)) (nomark _))
          (pss_one (ps_set (i := 7) sc_law_by_slopes.nd rfl (Or.inl rfl) (pe_ix ix_list (pv 0) (pv 3) (fun _ _ => rfl))))
          pss_nil))
        (pss_one (ps_if (pt_not (pt_val (pe_cl C_law_is hr (pa_cons (pv 7) (pa_cons (pv 6) pa_nil)))))
          (pss_one (ps_ret pe_bl))
          pss_nil))))))
      (pss_one (ps_ret pe_bl))), ?_⟩
  refine ze_1_2 _ rfl (ze_2_3 a _ rfl (.inl (SqL.of ea)) (ze_2_3 _ _ rfl rfl ⟨CMul.ok (.inl ⟨by decide, by decide⟩), ze_2_3 _ _ rfl rfl (ze_1_2 _ rfl ⟨by (first | lia | omega), by (first | lia | omega), ?_⟩)⟩))
  refine for_range (BsI H fa a b) ⟨_, _, _, _, ze_1_2 _ rfl (Same.refl _)⟩ ?_ ?_
  · intro i σ H1 hi hI
    refine BsI.elim hI fun v1 v2 v3 v4 v5 eσ sm => ?_
    subst eσ
    have hi60 : i ≤ 60 := by (first | lia | omega)
    refine ⟨BsS H fa a b fs i v5, ?tlS, ?hdS⟩
    case hdS =>
      refine ze_1_2 _ rfl (ze_2_5 a ps rfl (ra.keep sm) (by (first | lia | omega)) bp (fun r1 H2 s2 n2 z2 => ?_))
      have sm2 := sm.trans s2
      refine ze_1_2 _ rfl (ze_1_2 _ rfl ⟨r1, b, _, qs, i, v3z, z2, (Rz.of (rb.keep sm2) fun q hq => (bq q hq).mono (by decide)), hi60, fun f1 T1 M1 H3 s3 e3 h3 rep3 => ?_⟩)
      have sm3 := sm2.trans s3
      refine ze_1_2 _ rfl (ze_1_2 _ rfl (ze_2_5 b qs rfl (rb.keep sm3) (by (first | lia | omega)) bq (fun r4 H4 s4 n4 z4 => ?_)))
      have sm4 := sm3.trans s4
      refine ze_1_2 _ rfl ⟨a, r4, ps, _, i, v3z, (Rz.of (ra.keep sm4) fun q hq => (bp q hq).mono (by decide)), z4, hi60, fun f2 T2 M2 H5 s5 e5 h5 rep5 => ?_⟩
      have sm5 := sm4.trans s5
      have e35 := (s4.trans s5) _ _ e3
      have repd := rep_sub rep3 rep5
      rw [← hfs i] at repd
      obtain ⟨_, _, bT1, bM1⟩ := rep3
      obtain ⟨_, _, bT2, bM2⟩ := rep5
      refine ze_1_2 _ rfl (ze_4_5 f1 _ _ _ rfl rfl (SqT.of e35) rfl (ze_1_2 _ rfl (ze_4_5 f2 _ _ _ rfl rfl (SqT.of e5) rfl (ze_2_3 _ _ rfl rfl ⟨mul_of bT1 bM2 (by decide), ze_1_2 _ rfl (ze_4_5 f2 _ _ _ rfl rfl (SqT.of e5) rfl (ze_1_2 _ rfl (ze_4_5 f1 _ _ _ rfl rfl (SqT.of e35) rfl (ze_2_3 _ _ rfl rfl ⟨mul_of bT2 bM1 (by decide), ze_2_3 _ _ rfl rfl (ze_1_2 _ rfl (ze_4_5 f1 _ _ _ rfl rfl (SqT.of e35) rfl (ze_1_2 _ rfl (ze_4_5 f2 _ _ _ rfl rfl (SqT.of e5) rfl (ze_2_3 _ _ rfl rfl ⟨mul_of bM1 bM2 (by decide), (by show 2 ≤ sizeLine; decide), fun d hd => ?_⟩)))))⟩))))⟩))))
      have u1 := same_upd hd (.tup [.int (T1 * M2 - T2 * M1), .int (M1 * M2)])
      exact ⟨f1, f2, d, _, ze_1_2 _ rfl ⟨sm5.trans u1, upd_same, repd.mono (by decide)⟩⟩
    intro σ5 H5 hS
    refine BsS.elim hS fun f1 f2 d Td Md eσ sm5 ed0 repd => ?_
    subst eσ
    refine ⟨(by show 2 ≤ sizeLine; decide), fun z hz => ?_⟩
    have u2 := same_upd hz (.tup [.int 0, .int 1])
    have kz : Pq (upd H5 z (.tup [.int 0, .int 1])) z 0 := Pq.of Pr.new ⟨rfl, rfl⟩
    have ed := u2 _ _ ed0
    have sm6 := sm5.trans u2
    generalize upd H5 z (.tup [.int 0, .int 1]) = H6 at *
    refine ⟨BsM H6 fa a b f1 f2 d fs i, ?tl, ?hd⟩
    case hd =>
      refine ze_1_2 _ rfl (ze_1_2 _ rfl (ze_2_3 fa _ rfl (.inl (SqL.of (sm6 _ _ ef))) (ze_2_3 _ _ rfl rfl (ze_1_2 _ rfl ?_))))
      refine ite2 (fun c => ?_) (fun c => ?_)
      · have c' := of_decide_eq_true c
        rw [List.length_map] at c'
        have hif : i < fs.length := by (first | lia | omega)
        obtain ⟨p1, e1, k1⟩ := kf.get (List.getElem?_eq_getElem hif)
        refine ze_1_2 _ rfl (ze_1_2 _ rfl (ze_4_5 fa _ _ _ rfl rfl (SqL.of (sm6 _ _ ef)) (atI_0 e1) ⟨p1, rfl, ?_, rfl⟩))
        rw [Po.getD_in hif]
        exact k1.keep sm6
      · have c' := of_decide_eq_false (Bool.eq_false_iff.mpr c)
        rw [List.length_map] at c'
        refine ⟨z, rfl, ?_, rfl⟩
        rw [Po.getD_out (by (first | lia | omega))]
        exact kz
    intro σ7 H7 hM
    refine BsM.elim hM fun p eσ kp eH => ?_
    subst eσ
    subst eH
    exact ze_1_2 _ rfl (ze_1_2 _ rfl ⟨p, d, _, _, _, _, ze_1_2 _ rfl ⟨kp, ed, (rep_self (Po.getD_bq (by decide) bf i)).mono (by decide), repd.mono (by decide), ze_1_2 _ rfl (iteF ⟨_, _, _, _, ze_1_2 _ rfl sm6⟩)⟩⟩)
  · intro σ H1 hI
    exact BsI.elim hI fun v1 v2 v3 v4 v5 _ sm => q H1 sm

theorem sized2_bq {gs ws : List Rat} (sz2 : Sized2 gs ws) : (∀ q ∈ heldQ gs ws, Bq 1500 q) ∧ (∀ q ∈ looseQ gs ws, Bq 1500 q) ∧ ∀ q ∈ Po.sqQ gs ws, Bq 4000 q := by
  have hmost := sz2.sz.most
  obtain ⟨b, hb, bg, bw, n1, n2⟩ := sz2.bq
  obtain ⟨M, o⟩ := Po.pst_o2 (h0 := []) (l0 := [1]) hb bg bw (by simp) (by simp) ws.length
  obtain ⟨lx, ly⟩ := Po.pst_length (gs := gs) (ws := ws) (h0 := []) (l0 := [1]) (by simp) (by simp) ws.length
  refine ⟨fun q h => ((o.oh q h).bq o.ne o.bm).mono (by (first | lia | omega)), fun q h => ((o.ol q h).bq o.ne o.bm).mono (by (first | lia | omega)), ?_⟩
  unfold Po.sqQ
  generalize (Po.pst gs ws [] [1] ws.length).1 = hs at *
  generalize (Po.pst gs ws [] [1] ws.length).2 = ls at *
  generalize (2 * b + 2) * (ws.length + 1) = N at *
  have lsh : (Po.pslope hs).length = hs.length - 1 := by unfold Po.pslope; rw [List.length_map, List.length_range]
  have lsl : (Po.pslope ls).length = ls.length - 1 := by unfold Po.pslope; rw [List.length_map, List.length_range]
  have bm10 := o.bm.mono (show N ≤ N + 10 by (first | lia | omega))
  have op1 := Po.ov_pmul (Po.ov_pslope o.oh (by (first | lia | omega))) (Po.ov_mono o.ol (show N ≤ N + 10 by (first | lia | omega))) bm10 bm10 (by (first | lia | omega))
  have op2 := Po.ov_pmul (Po.ov_mono o.oh (show N ≤ N + 10 by (first | lia | omega))) (Po.ov_pslope o.ol (by (first | lia | omega))) bm10 bm10 (by (first | lia | omega))
  intro q hq
  exact ((Po.ov_psub op1 op2 q hq).bq (Int.mul_ne_zero o.ne o.ne) ((bm10.mul bm10).mono (by (first | lia | omega)))).mono (by (first | lia | omega))
noncomputable def K26A (K : PySem.W.Frag) (C a : Addr) (ns : List Int) (σ' : L2.St) (H' : Hp) : Prop := ∃ (ga wa c ig iw : Addr) (gs ws : List Rat), σ' = [some (.ref a), some (.ref ga), some (.ref wa), some (.ref c), none, none, none, none, none, none] ∧ SqL K H' a (ns.map V.int) ∧ Rw H' ga gs ∧ Rw H' wa ws ∧ Co C H' c ig iw gs ws ∧ Drawn 7 gs ws
noncomputable def K26B (C a ga wa c ig iw : Addr) (gs ws : List Rat) (σ' : L2.St) (H' : Hp) : Prop := ∃ (fo : Addr) (v1 v2 v3 v4 : Option V), σ' = [some (.ref a), some (.ref ga), some (.ref wa), some (.ref c), some (.ref fo), v1, v2, v3, v4, none] ∧ Co C H' c ig iw gs ws ∧ Rw H' fo (Po.sqQ gs ws) ∧ ig ≠ fo ∧ iw ≠ fo
noncomputable def K26I (H8 : Hp) (a ga wa c fo fr : Addr) (_ : Nat) (σ : L2.St) (H' : Hp) : Prop := ∃ (v1 v2 v3 : Option V), σ = [some (.ref a), some (.ref ga), some (.ref wa), some (.ref c), some (.ref fo), some (.ref fr), v1, v2, v3, none] ∧ Same H8 H'
theorem K26A.elim {K : PySem.W.Frag} {C a : Addr} {ns : List Int} {σ' : L2.St} {H' : Hp} {G : Prop} (h : K26A K C a ns σ' H') (k : ∀ (ga wa c ig iw : Addr) (gs ws : List Rat), σ' = [some (.ref a), some (.ref ga), some (.ref wa), some (.ref c), none, none, none, none, none, none] → (SqL K H' a (ns.map V.int)) → (Rw H' ga gs) → (Rw H' wa ws) → (Co C H' c ig iw gs ws) → (Drawn 7 gs ws) → G) : G := by
  obtain ⟨ga, wa, c, ig, iw, gs, ws, h0', h1', h2', h3', h4', h5'⟩ := h
  exact k _ _ _ _ _ _ _ h0' h1' h2' h3' h4' h5'
theorem K26B.elim {C a ga wa c ig iw : Addr} {gs ws : List Rat} {σ' : L2.St} {H' : Hp} {G : Prop} (h : K26B C a ga wa c ig iw gs ws σ' H') (k : ∀ (fo : Addr) (v1 v2 v3 v4 : Option V), σ' = [some (.ref a), some (.ref ga), some (.ref wa), some (.ref c), some (.ref fo), v1, v2, v3, v4, none] → (Co C H' c ig iw gs ws) → (Rw H' fo (Po.sqQ gs ws)) → (ig ≠ fo) → (iw ≠ fo) → G) : G := by
  obtain ⟨fo, v1, v2, v3, v4, h0', h1', h2', h3', h4'⟩ := h
  exact k _ _ _ _ _ h0' h1' h2' h3' h4'
theorem K26I.elim {H8 : Hp} {a ga wa c fo fr : Addr} {i : Nat} {σ : L2.St} {H' : Hp} {G : Prop} (h : K26I H8 a ga wa c fo fr i σ H') (k : ∀ (v1 v2 v3 : Option V), σ = [some (.ref a), some (.ref ga), some (.ref wa), some (.ref c), some (.ref fo), some (.ref fr), v1, v2, v3, none] → Same H8 H' → G) : G := by
  obtain ⟨v1, v2, v3, e, s⟩ := h
  exact k v1 v2 v3 e s
theorem sc_law : FnScope ["_law_script", "_law_gaps", "_law_weights", "_law_cord", "_law_found", "_law_first", "_law_turn", "_law_t", "_law_due", "_law_kept"] ["_law_script"] (defScope s_law) := ⟨rfl, rfl, rfl, by decide +kernel, rfl, by decide +kernel, by decide +kernel⟩
set_option maxHeartbeats 8000000 in
theorem ok_law (F : Fun K "law" "law" s_law f fd) (T : Txt mg) (C_law_cell_at : Cal P w K mg base "_law_cell_at" 1 ["_law_script", "_law_k"] (sp_cell0 K)) (C_law_cord_by : Cal P w K mg base "_law_cord_by" 4 ["_law_script", "_law_most"] (sp_cord_by K)) (C_law_at_by : Cal P w K mg base "_law_at_by" 3 ["_law_cell"] sp_at_by24)
    (C_law_worth : Cal P w K mg base "_law_worth" 1 ["_law_figures", "_law_t"] sp_worthR) (C_law_is : Cal P w K mg base "_law_is" 1 ["_law_one", "_law_due"] sp_isR) (C_law_is_poly : Cal P w K mg base "_law_is_poly" 2 ["_law_found", "_law_many"] sp_is_poly) (C_law_squares_at : Cal P w K mg base "_law_squares_at" 4 ["_law_gaps", "_law_weights", "_law_t"] sp_sqAt)
    (C_law_by_slopes : Cal P w K mg base "_law_by_slopes" 2 ["_law_found", "_law_one", "_law_other"] sp_by) (C_squares : Cal P w K mg base "squares" 6 ["cord"] (sp_squares o_Cord)) (C_held : Cal P w K mg base "held" 6 ["cord"] (sp_tone o_Cord heldQ)) (C_loose : Cal P w K mg base "loose" 6 ["cord"] (sp_tone o_Cord looseQ)) (C_Cord_init : CalC P w K mg base "Cord" o_Cord 4 ["self", "gaps", "weights"] (sp_init o_Cord)) : FnOk P w K mg base CX0 7 f fd ["_law_script"] (sp_lawB K) := by
  refine F.ok sc_law (fun vs H Q E h => ?_) (fun cdv A outer s H vs Q E hr h => ?_)
  · obtain ⟨a, ns, rfl, _⟩ := h
    rfl
  obtain ⟨a, ns, rfl, hS, h63, bns, q⟩ := h
  refine ⟨_, (pss_split 2 (pss_cons (ps_asg (pe_cl C_law_cord_by hr (pa_cons (pv 0) (pa_cons pe_int pa_nil))) (pg_tup rfl (pgs_cons (pg_name (i := 1) sc_law.nd rfl (Or.inl rfl)) (pgs_cons (pg_name (i := 2) sc_law.nd rfl (Or.inl rfl)) pgs_nil))))
      (pss_one (ps_set (i := 3) sc_law.nd rfl (Or.inl rfl) (pe_mk C_Cord_init hr (pa_cons (pe_callTy call_list_of rfl T.z_list boot_list (pa_cons (pv 1) pa_nil)) (pa_cons (pe_callTy call_list_of rfl T.z_list boot_list (pa_cons (pv 2) pa_nil)) pa_nil))))))
      (pss_split 4 (pss_cons (ps_set (i := 4) sc_law.nd rfl (Or.inl rfl) (pe_cl C_squares hr (pa_cons (pv 3) pa_nil)))
      (pss_cons (ps_cut (ps_if (pt_not (pt_val (pe_cl C_law_is_poly hr (pa_cons (pv 4) (pa_cons (pe_callB (call_max2 rfl) rfl T.z_max boot_max (pa_cons pe_int (pa_cons (pe_op op_sub (pe_op op_mulB pe_int (pe_callB call_len_seq rfl T.z_len PySem.boot_len (pa_cons (pv 2) pa_nil))) pe_int) pa_nil))) pa_nil)))))
        (pss_one (ps_ret pe_bl))
        pss_nil))
      (pss_cons (ps_set (i := 5) sc_law.nd rfl (Or.inl rfl) (pe_cl C_law_at_by hr (pa_cons (pe_cl C_law_cell_at hr (pa_cons (pv 0) (pa_cons pe_int pa_nil))) pa_nil)))
      (pss_one (ps_for PassesOwn.never rfl (pi_range1 rfl T.z_range (pa_cons (pe_op op_add (pe_callB call_len_seq rfl T.z_len PySem.boot_len (pa_cons (pv 1) pa_nil)) (pe_callB call_len_seq rfl T.z_len PySem.boot_len (pa_cons (pv 2) pa_nil))) pa_nil)) (pg_name (i := 6) sc_law.nd rfl (Or.inl rfl))
        (pss_cons (ps_set (i := 7) sc_law.nd rfl (Or.inl rfl) (pe_tup (pa_cons (pe_op op_add (pe_ix ix_tup (pv 5) pe_int (fun _ _ => rfl)) (pe_op op_mulB (pv 6) (pe_ix ix_tup (pv 5) pe_int (fun _ _ => rfl)))) (pa_cons (pe_ix ix_tup (pv 5) pe_int (fun _ _ => rfl)) pa_nil))))
        (pss_cons (ps_set (i := 8) sc_law.nd rfl (Or.inl rfl) (pe_cl C_law_squares_at hr (pa_cons (pv 1) (pa_cons (pv 2) (pa_cons (pv 7) pa_nil)))))
        (pss_cons (ps_cut (ps_if (pt_not (pt_val (pe_cl C_law_is hr (pa_cons (pe_cl C_law_worth hr (pa_cons (pv 4) (pa_cons (pv 7) pa_nil))) (pa_cons (pv 8) pa_nil)))))
          (pss_one (ps_ret pe_bl))
          pss_nil))
        (pss_one (ps_if (PW.pt (pw_and (pt_cmpR (op_neD hr.units) (pv 2) (pe_lst pa_nil) (nomark _)) (pw_and1 (pt_cmpR op_le (pe_ix ix_tup (pv 8) pe_int (fun _ _ => rfl)) pe_int (nomark _)))))
          (pss_one (ps_ret pe_bl))
          pss_nil))))))))))
      (pss_cons (ps_set (i := 9) sc_law.nd rfl (Or.inl rfl) (pe_callTy call_list_of rfl T.z_list boot_list (pa_cons (pv 4) pa_nil)))
      (pss_cons (ps_expr (pe_bm PySem.F.plainAttrs_list PySem.F.slot_list_append PySem.F.type_list_append mt_append (pv 4) (pa_cons (pe_tup (pa_cons pe_int (pa_cons pe_int pa_nil))) pa_nil)))
      (pss_one (ps_ret (pe_and (pe_cmpR (op_eqD hr.units) (pe_cl C_squares hr (pa_cons (pv 3) pa_nil)) (pv 9) (nomark _)) (pe_one (pe_cl C_law_by_slopes hr (pa_cons (pv 9) (pa_cons (pe_cl C_held hr (pa_cons (pv 3) pa_nil)) (pa_cons (pe_cl C_loose hr (pa_cons (pv 3) pa_nil)) pa_nil)))))))))))), ?_⟩
  refine ⟨K26A K o_Cord a ns, ?tlA, ?hdA⟩
  case hdA =>
    refine ze_1_2 _ rfl (ze_3_5 a ns 7 rfl hS bns ⟨by decide, by decide⟩ (fun r ga wa gs ws H1 s1 er nga nwa ne rg rw' dw => ?_))
    have fine := dw.fine (by decide)
    have hlen := fine.len
    have hmost := fine.most
    refine ⟨r, ze_1_2 _ rfl ⟨SqT.of er, rfl, _, ze_1_2 _ rfl (ze_2_3 _ _ rfl rfl ?_)⟩⟩
    obtain ⟨xg, eg, lg⟩ := rg.there
    obtain ⟨xw, ew, lw⟩ := rw'.there
    refine ze_1_2 _ rfl (ze_2_3 ga _ rfl (.inl (SqL.of eg)) (fun h1 hh1 => ?_))
    have t1 := same_upd hh1 (.lst xg)
    refine ze_1_2 _ rfl (ze_2_3 wa _ rfl (.inl (SqL.of (t1 _ _ ew))) (fun h2 hh2 => ?_))
    have t2 := same_upd hh2 (.lst xw)
    have t12 := t1.trans t2
    have rh1 := (rg.copy eg hh1).keep t2
    have rh2 := (rw'.keep t1).copy (t1 _ _ ew) hh2
    generalize upd (upd H1 h1 (.lst xg)) h2 (.lst xw) = H3 at *
    intro c dx nc ndx ndc
    have t4 : Same H3 (upd (upd H3 dx (.own c)) c (.ins o_Cord dx [])) := fun b o e => by
      rw [upd_ne (ne_of_none e nc), upd_ne (ne_of_none e ndx)]
      exact e
    refine ze_6_6 c h1 h2 gs ws dx rfl upd_same (rh1.keep t4) (rh2.keep t4) fine (fun ig iw H5 k5 nig niw co => ⟨rfl, ?_⟩)
    have t5 : Same H3 H5 := fun b o e => k5 b o (ne_of_none e nc) (t4 _ _ e)
    have t15 := t12.trans t5
    have hS5 := (s1.trans t15).seq hS
    have rg5 := rg.keep t15
    have rw5 := rw'.keep t15
    exact ⟨ga, wa, c, ig, iw, gs, ws, rfl, hS5, rg5, rw5, co, dw⟩
  intro σ5 H5 hA
  refine K26A.elim hA fun ga wa c ig iw gs ws eσ hS5 rg5 rw5 co dw => ?_
  subst eσ
  have fine := dw.fine (by decide)
  have sz2 := dw.sized2
  have hlen := fine.len
  have hmost := fine.most
  obtain ⟨bH, bL, bS⟩ := sized2_bq sz2
  refine ⟨K26B o_Cord a ga wa c ig iw gs ws, ?tlB, ?hdB⟩
  case hdB =>
    obtain ⟨xg, eg5, lg⟩ := rg5.there
    obtain ⟨xw, ew5, lw⟩ := rw5.there
    have lS := Po.sq_len fine.pos.1 fine.pos.2 hlen
    refine ze_1_2 _ rfl (ze_5_4 c ig iw gs ws rfl co sz2 (fun fo H6 s6 nf rf => ?_))
    have ew6 := s6 _ _ ew5
    have em : (if (2 * (xw.length : Int) - 1) > 0 then 2 * (xw.length : Int) - 1 else 0) = ((2 * ws.length - 1 : Nat) : Int) := by
      rw [lw]
      split <;> (first | lia | omega)
    refine ⟨fun σ' H' => σ' = [some (.ref a), some (.ref ga), some (.ref wa), some (.ref c), some (.ref fo), none, none, none, none, none] ∧ Same H6 H', ?tl0, ?hd0⟩
    case hd0 =>
      refine ze_1_2 _ rfl (ze_1_2 _ rfl (ze_2_3 wa _ rfl (.inl (SqL.of ew6)) (ze_2_3 _ _ rfl rfl ⟨CMul.ok (.inl ⟨by decide, by decide⟩), ze_2_3 _ _ rfl rfl ⟨_, ze_1_2 _ rfl ?_⟩⟩)))
      rw [em]
      exact ze_3_6 fo _ _ rfl rf lS (Po.strip_strip _) (by (first | lia | omega)) (fun H7 s7 => (ze_1_2 _ rfl (iteF ⟨rfl, s7⟩)))
    rintro _ H7 ⟨rfl, s7⟩
    have s57 := s6.trans s7
    refine ze_1_2 _ rfl ⟨a, ns, 7, rfl, s57.seq hS5, ze_1_2 _ rfl (fun fr fq H8 s8 bf kf => ?_)⟩
    have s58 := s57.trans s8
    have rf8 := rf.keep (s7.trans s8)
    have rg8 := rg5.keep s58
    have rw8 := rw5.keep s58
    have eg8 := s58 _ _ eg5
    have ew8 := s58 _ _ ew5
    refine ze_1_2 _ rfl (ze_2_3 ga _ rfl (.inl (SqL.of eg8)) (ze_1_2 _ rfl (ze_2_3 wa _ rfl (.inl (SqL.of ew8)) (ze_2_3 _ _ rfl rfl (ze_1_2 _ rfl ⟨by (first | lia | omega), by (first | lia | omega), ?_⟩)))))
    rw [show ((xg.length : Int) + (xw.length : Int)).toNat = xg.length + xw.length by (first | lia | omega)]
    refine for_range (n := xg.length + xw.length) (K26I H8 a ga wa c fo fr) ⟨_, _, ze_1_2 _ rfl (Same.refl _)⟩ ?_ ?_
    · intro i σ H9 hi hI
      refine K26I.elim hI fun v1 v2 v3 eσ sm => ?_
      subst eσ
      have kf9 := kf.keep sm
      have bi : Bt 10 (0 + (i : Int)) := Bt.between (by (first | lia | omega)) (by (first | lia | omega))
      refine ze_1_2 _ rfl (ze_4_5 _ _ _ _ rfl rfl kf9.sq rfl (ze_1_2 _ rfl (ze_1_2 _ rfl (ze_4_5 _ _ _ _ rfl rfl kf9.sq rfl (ze_2_3 _ _ rfl rfl ⟨mul_of bi bf.2 (by decide), ze_2_3 _ _ rfl rfl (ze_1_2 _ rfl (ze_4_5 _ _ _ _ rfl rfl kf9.sq rfl ⟨(by show 2 ≤ sizeLine; decide), fun tp htp => ?_⟩))⟩)))))
      have u := same_upd htp (.tup [.int (fq.num + (0 + (i : Int)) * (fq.den : Int)), .int (fq.den : Int)])
      have kt : Pq (upd H9 tp (.tup [.int (fq.num + (0 + (i : Int)) * (fq.den : Int)), .int (fq.den : Int)])) tp (fq + ((0 + (i : Int) : Int) : Rat)) := Pq.of Pr.new (Po.plus_nat fq _)
      have bt : Bq 334 (fq + ((0 + (i : Int) : Int) : Rat)) := (bf.add (Bq.int bi (by decide))).mono (by decide)
      generalize upd H9 tp (.tup [.int (fq.num + (0 + (i : Int)) * (fq.den : Int)), .int (fq.den : Int)]) = HA at *
      generalize fq + ((0 + (i : Int) : Int) : Rat) = t at *
      have smA := sm.trans u
      refine ze_1_2 _ rfl (ze_1_2 _ rfl (ze_1_2 _ rfl (ze_6_10 ga wa tp gs ws t rfl (rg8.keep smA) (rw8.keep smA) kt hlen hmost fine.bq.1 fine.bq.2 bt (fun du HB sB zB => ?_))))
      obtain ⟨Td, Md, ed, hd0, repd⟩ := zB
      have smB := smA.trans sB
      refine ⟨fun σ' H' => σ' = [some (.ref a), some (.ref ga), some (.ref wa), some (.ref c), some (.ref fo), some (.ref fr), some (.int (0 + (i : Int))), some (.ref tp), some (.ref du), none] ∧ Same HB H', ?tl1, ?hd1⟩
      case hd1 =>
        refine ze_1_2 _ rfl (ze_1_2 _ rfl (ze_4_7 fo tp _ t rfl (rf8.keep smB) (kt.keep sB) (by (first | lia | omega)) bS (bt.mono (by decide)) (fun ro To Mo HC sC eC rep => ?_)))
        rw [Po.ev_sqQ] at rep
        exact ze_1_2 _ rfl ⟨ro, du, To, Mo, Td, Md, ze_1_2 _ rfl ⟨eC, sC _ _ ed, rep, repd, ze_1_2 _ rfl (iteF ⟨rfl, sC⟩)⟩⟩
      rintro _ HC ⟨rfl, sC⟩
      have smC := smB.trans sC
      obtain ⟨pw', ewC', kwC⟩ := rw8.keep smC
      have lwC := kwC.length
      refine ze_1_2 _ rfl ⟨(by show 0 ≤ sizeLine; decide), fun e0 he0 => ?_⟩
      have ue := same_upd he0 (.lst [])
      refine ⟨dr ws, dr [], (Rw.keep ⟨pw', ewC', kwC⟩ ue).dv, .lst upd_same .nil, Nat.le_trans (depth_dr _) (by decide), ze_1_2 _ rfl ?_⟩
      rw [eqv_dr]
      by_cases h0 : ws = []
      · refine iteNB (decide_eq_true h0) (iteF ⟨_, _, ze_1_2 _ rfl (smC.trans ue)⟩)
      · rw [decide_eq_false h0]
        refine iteT ?_
        have hpos : 0 < Td := by
          have hp := Po.sqs_pos fine.pos.1 fine.pos.2 hlen t ws.length (Nat.le_refl _) (by
            have : ws.length ≠ 0 := fun z => h0 (List.length_eq_zero_iff.mp z)
            (first | lia | omega))
          have e := repd.2.1
          by_cases hT : 0 < Td
          · exact hT
          · exfalso
            have h2 : (Td : Rat) ≤ 0 := Rat.intCast_nonpos.mpr (by (first | lia | omega))
            have h3 : (0 : Rat) < (Md : Rat) := Rat.intCast_pos.mpr hd0
            rw [e, Rat.div_def] at hp
            have h4 := Rat.inv_pos.mpr h3
            have := Rat.mul_nonneg (show (0 : Rat) ≤ -(Td : Rat) by grind) (Rat.le_of_lt h4)
            grind
        have edC := (sC.trans ue) _ _ ed
        exact ze_1_2 _ rfl (ze_4_5 du _ _ _ rfl rfl (SqT.of edC) rfl (ze_2_3 _ _ rfl rfl (ze_1_2 _ rfl (iteND (by (first | lia | omega)) ⟨_, _, ze_1_2 _ rfl (smC.trans ue)⟩))))
    intro σ H9 hI
    refine K26I.elim hI fun v1 v2 v3 eσ s9 => ?_
    subst eσ
    have nig : ig ≠ fo := fun e => by
      obtain ⟨xs, ex, _⟩ := co.2.1.there
      rw [e, nf] at ex
      cases ex
    have niw : iw ≠ fo := fun e => by
      obtain ⟨xs, ex, _⟩ := co.2.2.there
      rw [e, nf] at ex
      cases ex
    exact ⟨fo, _, _, _, ze_1_2 _ rfl ⟨co.keep (s58.trans s9), rf8.keep s9, nig, niw⟩⟩
  intro σ9 H9 hB
  refine K26B.elim hB fun fo v1 v2 v3 v4 eσ coB0 rf9 nig0 niw0 => ?_
  subst eσ
  have lS := Po.sq_len fine.pos.1 fine.pos.2 hlen
  -- kept, and what was told made longer
  obtain ⟨xf, ef, lf⟩ := rf9.there
  refine ze_1_2 _ rfl (ze_2_3 fo _ rfl (.inl (SqL.of ef)) (fun kp hkp => ?_))
  have u := same_upd hkp (.lst xf)
  have rk := rf9.copy ef hkp
  have nkf : kp ≠ fo := fun z => by rw [z, ef] at hkp; cases hkp
  have efA := u _ _ ef
  have co9 := coB0.keep u
  generalize upd H9 kp (.lst xf) = HA at *
  have hz : (3000 : Nat) < sizeLine := by decide
  refine ze_1_2 _ rfl ⟨.inl ⟨rfl, _, SqL.of efA⟩, (by show 2 ≤ sizeLine; decide), fun t ht => ?_⟩
  have u2 := same_upd ht (.tup [.int 1, .int 1])
  refine ⟨fo, xf, ze_1_2 _ rfl ⟨rfl, u2 _ _ efA, by (first | lia | omega), ?_⟩⟩
  have efB := u2 _ _ efA
  have sx : Sx [fo] HA (upd (upd HA t (.tup [.int 1, .int 1])) fo (.lst (xf ++ [.ref t]))) := fun b o nb eb => by
    rw [upd_ne (fun z => nb (by simp [z]))]
    exact u2 _ _ eb
  have hSl : ∀ b ∈ [fo], ∃ xs, HA b = some (.lst xs) := fun b hb => by
    have : b = fo := by simpa using hb
    rw [this]
    exact ⟨_, efA⟩
  have nig : ig ∉ [fo] := fun z => nig0 (by simpa using z)
  have niw : iw ∉ [fo] := fun z => niw0 (by simpa using z)
  have coB := co9.sx sx hSl nig niw
  have rkB := rk.sx sx (fun z => nkf (by simpa using z)) hSl
  generalize upd (upd HA t (.tup [.int 1, .int 1])) fo (.lst (xf ++ [.ref t])) = HB at *
  refine ze_1_2 _ rfl (ze_5_4 c ig iw gs ws rfl coB sz2 (fun sq HC sC nC rC => ?_))
  refine ze_1_2 _ rfl ⟨_, _, rC.dv, (rkB.keep sC).dv, Nat.le_trans (depth_dr _) (by decide), ze_1_2 _ rfl (iteB (eqv_dr_self _) ?_)⟩
  have coC := coB.keep sC
  refine ze_1_2 _ rfl (ze_1_2 _ rfl (ze_5_4 c ig iw gs ws rfl coC sz2.sz (fun ph HD sD nD rD => ?_)))
  refine ze_1_2 _ rfl (ze_5_4 c ig iw gs ws rfl (coC.keep sD) sz2.sz (fun pl HE sE nE rE => ?_))
  obtain ⟨z1, z2, _, _⟩ := Po.tone_len fine.pos.1 fine.pos.2 hlen
  have lH : (heldQ gs ws).length = gs.length := z1
  have lL : (looseQ gs ws).length = gs.length := z2
  refine ze_6_12 kp ph pl _ _ _ rfl (rkB.keep (sC.trans (sD.trans sE))) (rD.keep sE) rE (by (first | lia | omega)) (by (first | lia | omega)) (by (first | lia | omega)) bS bH bL (fun k => ?_) (fun HF sF => q HF)
  unfold Po.sqQ
  rw [Po.getD_psub, Po.getD_pmul, Po.getD_pmul]
  rfl
end
set_option maxHeartbeats 4000000 in
theorem all_mk {l : PySem.W.OpenLaw} {w : World} {K : PySem.W.Frag} {h : Heap} {mg : Str → Option Value} {fa f1 f2 f3 f4 f5 f6 f7 f8 f9 f10 f11 f12 f13 f14 f15 f16 f17 f18 f19 f20 f21 f22 f23 f24 f25 f26 f27 f28 f29 f30 f31 f32 f33 f34 f35 f36 f37 f38 f39 f40 o_Cord : Addr} (X : K.In h) (G : h.Ns mainGlobals mg) (hfa : mg "law" = some (.ref fa))
    {od1 an1 od2 an2 od3 an3 od4 an4 od5 an5 od6 an6 od7 an7 od8 an8 od9 an9 od10 an10 od11 an11 od12 an12 od13 an13 od14 an14 od15 an15 od16 an16 od17 an17 od18 an18 od19 an19 od20 an20 od21 an21 od22 an22 od23 an23 od24 an24 od25 an25 od26 an26 od27 an27 od28 an28 od29 an29 od30 an30 od31 an31 od32 an32 od33 an33 od34 an34 od35 an35 od36 an36 od37 an37 od38 an38 od39 an39 od40 an40 : Option Addr} {sl1 sl2 sl3 sl4 sl5 sl6 sl7 sl8 sl9 sl10 sl11 sl12 sl13 sl14 sl15 sl16 sl17 sl18 sl19 sl20 sl21 sl22 sl23 sl24 sl25 sl26 sl27 sl28 sl29 sl30 sl31 sl32 sl33 sl34 sl35 sl36 sl37 sl38 sl39 sl40 : Array (Option Value)} {oc1 kV1 dc1 pm1 cd1 ct1 oc2 kV2 dc2 pm2 cd2 ct2 oc3 kV3 dc3 pm3 cd3 ct3 oc4 kV4 dc4 pm4 cd4 ct4 oc5 kV5 dc5 pm5 cd5 ct5 oc6 kV6 dc6 pm6 cd6 ct6 oc7 kV7 dc7 pm7 cd7 ct7 oc8 kV8 dc8 pm8 cd8 ct8 oc9 kV9 dc9 pm9 cd9 ct9 oc10 kV10 dc10 pm10 cd10 ct10 oc11 kV11 dc11 pm11 cd11 ct11 oc12 kV12 dc12 pm12 cd12 ct12 oc13 kV13 dc13 pm13 cd13 ct13 oc14 kV14 dc14 pm14 cd14 ct14 oc15 kV15 dc15 pm15 cd15 ct15 oc16 kV16 dc16 pm16 cd16 ct16 oc17 kV17 dc17 pm17 cd17 ct17 oc18 kV18 dc18 pm18 cd18 ct18 oc19 kV19 dc19 pm19 cd19 ct19 oc20 kV20 dc20 pm20 cd20 ct20 oc21 kV21 dc21 pm21 cd21 ct21 oc22 kV22 dc22 pm22 cd22 ct22 oc23 kV23 dc23 pm23 cd23 ct23 oc24 kV24 dc24 pm24 cd24 ct24 oc25 kV25 dc25 pm25 cd25 ct25 oc26 kV26 dc26 pm26 cd26 ct26 oc27 kV27 dc27 pm27 cd27 ct27 oc28 kV28 dc28 pm28 cd28 ct28 oc29 kV29 dc29 pm29 cd29 ct29 oc30 kV30 dc30 pm30 cd30 ct30 oc31 kV31 dc31 pm31 cd31 ct31 oc32 kV32 dc32 pm32 cd32 ct32 oc33 kV33 dc33 pm33 cd33 ct33 oc34 kV34 dc34 pm34 cd34 ct34 oc35 kV35 dc35 pm35 cd35 ct35 oc36 kV36 dc36 pm36 cd36 ct36 oc37 kV37 dc37 pm37 cd37 ct37 oc38 kV38 dc38 pm38 cd38 ct38 oc39 kV39 dc39 pm39 cd39 ct39 oc40 kV40 dc40 pm40 cd40 ct40 : Value}
    (a1 : PySem.W.nsIn K mainGlobals "divisor" = some (some (.ref f1))) (l1 : K.lookup f1 = some ⟨oc1, od1, .func (PySem.W.fnOf "divisor" "divisor" (defArgs s_divisor) (defBody s_divisor) (defScope s_divisor) .none kV1 dc1 pm1 an1 cd1 ct1), sl1⟩) (c1 : PySem.W.codeIn K cd1 "divisor" = true) (k1 : PySem.W.keepIn K (.ref f1) = true)
    (a2 : PySem.W.nsIn K mainGlobals "is_whole" = some (some (.ref f2))) (l2 : K.lookup f2 = some ⟨oc2, od2, .func (PySem.W.fnOf "is_whole" "is_whole" (defArgs s_is_whole) (defBody s_is_whole) (defScope s_is_whole) .none kV2 dc2 pm2 an2 cd2 ct2), sl2⟩) (c2 : PySem.W.codeIn K cd2 "is_whole" = true) (k2 : PySem.W.keepIn K (.ref f2) = true)
    (a3 : PySem.W.nsIn K mainGlobals "plus" = some (some (.ref f3))) (l3 : K.lookup f3 = some ⟨oc3, od3, .func (PySem.W.fnOf "plus" "plus" (defArgs s_plus) (defBody s_plus) (defScope s_plus) .none kV3 dc3 pm3 an3 cd3 ct3), sl3⟩) (c3 : PySem.W.codeIn K cd3 "plus" = true) (k3 : PySem.W.keepIn K (.ref f3) = true)
    (a4 : PySem.W.nsIn K mainGlobals "minus" = some (some (.ref f4))) (l4 : K.lookup f4 = some ⟨oc4, od4, .func (PySem.W.fnOf "minus" "minus" (defArgs s_minus) (defBody s_minus) (defScope s_minus) .none kV4 dc4 pm4 an4 cd4 ct4), sl4⟩) (c4 : PySem.W.codeIn K cd4 "minus" = true) (k4 : PySem.W.keepIn K (.ref f4) = true)
    (a5 : PySem.W.nsIn K mainGlobals "times" = some (some (.ref f5))) (l5 : K.lookup f5 = some ⟨oc5, od5, .func (PySem.W.fnOf "times" "times" (defArgs s_times) (defBody s_times) (defScope s_times) .none kV5 dc5 pm5 an5 cd5 ct5), sl5⟩) (c5 : PySem.W.codeIn K cd5 "times" = true) (k5 : PySem.W.keepIn K (.ref f5) = true)
    (a6 : PySem.W.nsIn K mainGlobals "is_fraction" = some (some (.ref f6))) (l6 : K.lookup f6 = some ⟨oc6, od6, .func (PySem.W.fnOf "is_fraction" "is_fraction" (defArgs s_is_fraction) (defBody s_is_fraction) (defScope s_is_fraction) .none kV6 dc6 pm6 an6 cd6 ct6), sl6⟩) (c6 : PySem.W.codeIn K cd6 "is_fraction" = true) (k6 : PySem.W.keepIn K (.ref f6) = true)
    (a7 : PySem.W.nsIn K mainGlobals "side" = some (some (.ref f7))) (l7 : K.lookup f7 = some ⟨oc7, od7, .func (PySem.W.fnOf "side" "side" (defArgs s_side) (defBody s_side) (defScope s_side) .none kV7 dc7 pm7 an7 cd7 ct7), sl7⟩) (c7 : PySem.W.codeIn K cd7 "side" = true) (k7 : PySem.W.keepIn K (.ref f7) = true)
    (a8 : PySem.W.nsIn K mainGlobals "poly" = some (some (.ref f8))) (l8 : K.lookup f8 = some ⟨oc8, od8, .func (PySem.W.fnOf "poly" "poly" (defArgs s_poly) (defBody s_poly) (defScope s_poly) .none kV8 dc8 pm8 an8 cd8 ct8), sl8⟩) (c8 : PySem.W.codeIn K cd8 "poly" = true) (k8 : PySem.W.keepIn K (.ref f8) = true)
    (a9 : PySem.W.nsIn K mainGlobals "figure_at" = some (some (.ref f9))) (l9 : K.lookup f9 = some ⟨oc9, od9, .func (PySem.W.fnOf "figure_at" "figure_at" (defArgs s_figure_at) (defBody s_figure_at) (defScope s_figure_at) .none kV9 dc9 pm9 an9 cd9 ct9), sl9⟩) (c9 : PySem.W.codeIn K cd9 "figure_at" = true) (k9 : PySem.W.keepIn K (.ref f9) = true)
    (a10 : PySem.W.nsIn K mainGlobals "poly_plus" = some (some (.ref f10))) (l10 : K.lookup f10 = some ⟨oc10, od10, .func (PySem.W.fnOf "poly_plus" "poly_plus" (defArgs s_poly_plus) (defBody s_poly_plus) (defScope s_poly_plus) .none kV10 dc10 pm10 an10 cd10 ct10), sl10⟩) (c10 : PySem.W.codeIn K cd10 "poly_plus" = true) (k10 : PySem.W.keepIn K (.ref f10) = true)
    (a11 : PySem.W.nsIn K mainGlobals "poly_minus" = some (some (.ref f11))) (l11 : K.lookup f11 = some ⟨oc11, od11, .func (PySem.W.fnOf "poly_minus" "poly_minus" (defArgs s_poly_minus) (defBody s_poly_minus) (defScope s_poly_minus) .none kV11 dc11 pm11 an11 cd11 ct11), sl11⟩) (c11 : PySem.W.codeIn K cd11 "poly_minus" = true) (k11 : PySem.W.keepIn K (.ref f11) = true)
    (a12 : PySem.W.nsIn K mainGlobals "poly_times" = some (some (.ref f12))) (l12 : K.lookup f12 = some ⟨oc12, od12, .func (PySem.W.fnOf "poly_times" "poly_times" (defArgs s_poly_times) (defBody s_poly_times) (defScope s_poly_times) .none kV12 dc12 pm12 an12 cd12 ct12), sl12⟩) (c12 : PySem.W.codeIn K cd12 "poly_times" = true) (k12 : PySem.W.keepIn K (.ref f12) = true)
    (a13 : PySem.W.nsIn K mainGlobals "slope" = some (some (.ref f13))) (l13 : K.lookup f13 = some ⟨oc13, od13, .func (PySem.W.fnOf "slope" "slope" (defArgs s_slope) (defBody s_slope) (defScope s_slope) .none kV13 dc13 pm13 an13 cd13 ct13), sl13⟩) (c13 : PySem.W.codeIn K cd13 "slope" = true) (k13 : PySem.W.keepIn K (.ref f13) = true)
    (a14 : PySem.W.nsIn K mainGlobals "scaled" = some (some (.ref f14))) (l14 : K.lookup f14 = some ⟨oc14, od14, .func (PySem.W.fnOf "scaled" "scaled" (defArgs s_scaled) (defBody s_scaled) (defScope s_scaled) .none kV14 dc14 pm14 an14 cd14 ct14), sl14⟩) (c14 : PySem.W.codeIn K cd14 "scaled" = true) (k14 : PySem.W.keepIn K (.ref f14) = true)
    (a15 : PySem.W.nsIn K mainGlobals "is_row_above" = some (some (.ref f15))) (l15 : K.lookup f15 = some ⟨oc15, od15, .func (PySem.W.fnOf "is_row_above" "is_row_above" (defArgs s_is_row_above) (defBody s_is_row_above) (defScope s_is_row_above) .none kV15 dc15 pm15 an15 cd15 ct15), sl15⟩) (c15 : PySem.W.codeIn K cd15 "is_row_above" = true) (k15 : PySem.W.keepIn K (.ref f15) = true)
    (a16 : PySem.W.findIn K (.ref o_Cord) "__init__" = some (some (.ref f16))) (i16 : PySem.W.isFn K (.ref f16) = true) (l16 : K.lookup f16 = some ⟨oc16, od16, .func (PySem.W.fnOf "__init__" "Cord.__init__" (defArgs s_Cord_init) (defBody s_Cord_init) (defScope s_Cord_init) .none kV16 dc16 pm16 an16 cd16 ct16), sl16⟩) (c16 : PySem.W.codeIn K cd16 "Cord.__init__" = true) (k16 : PySem.W.keepIn K (.ref f16) = true)
    (a17 : PySem.W.findIn K (.ref o_Cord) "gaps" = some (some (.ref f17))) (i17 : PySem.W.isFn K (.ref f17) = true) (l17 : K.lookup f17 = some ⟨oc17, od17, .func (PySem.W.fnOf "gaps" "Cord.gaps" (defArgs s_Cord_gaps) (defBody s_Cord_gaps) (defScope s_Cord_gaps) .none kV17 dc17 pm17 an17 cd17 ct17), sl17⟩) (c17 : PySem.W.codeIn K cd17 "Cord.gaps" = true) (k17 : PySem.W.keepIn K (.ref f17) = true)
    (a18 : PySem.W.findIn K (.ref o_Cord) "weights" = some (some (.ref f18))) (i18 : PySem.W.isFn K (.ref f18) = true) (l18 : K.lookup f18 = some ⟨oc18, od18, .func (PySem.W.fnOf "weights" "Cord.weights" (defArgs s_Cord_weights) (defBody s_Cord_weights) (defScope s_Cord_weights) .none kV18 dc18 pm18 an18 cd18 ct18), sl18⟩) (c18 : PySem.W.codeIn K cd18 "Cord.weights" = true) (k18 : PySem.W.keepIn K (.ref f18) = true)
    (a19 : PySem.W.nsIn K mainGlobals "times_number" = some (some (.ref f19))) (l19 : K.lookup f19 = some ⟨oc19, od19, .func (PySem.W.fnOf "times_number" "times_number" (defArgs s_times_number) (defBody s_times_number) (defScope s_times_number) .none kV19 dc19 pm19 an19 cd19 ct19), sl19⟩) (c19 : PySem.W.codeIn K cd19 "times_number" = true) (k19 : PySem.W.keepIn K (.ref f19) = true)
    (a20 : PySem.W.nsIn K mainGlobals "ends" = some (some (.ref f20))) (l20 : K.lookup f20 = some ⟨oc20, od20, .func (PySem.W.fnOf "ends" "ends" (defArgs s_ends) (defBody s_ends) (defScope s_ends) .none kV20 dc20 pm20 an20 cd20 ct20), sl20⟩) (c20 : PySem.W.codeIn K cd20 "ends" = true) (k20 : PySem.W.keepIn K (.ref f20) = true)
    (a21 : PySem.W.nsIn K mainGlobals "held" = some (some (.ref f21))) (l21 : K.lookup f21 = some ⟨oc21, od21, .func (PySem.W.fnOf "held" "held" (defArgs s_held) (defBody s_held) (defScope s_held) .none kV21 dc21 pm21 an21 cd21 ct21), sl21⟩) (c21 : PySem.W.codeIn K cd21 "held" = true) (k21 : PySem.W.keepIn K (.ref f21) = true)
    (a22 : PySem.W.nsIn K mainGlobals "loose" = some (some (.ref f22))) (l22 : K.lookup f22 = some ⟨oc22, od22, .func (PySem.W.fnOf "loose" "loose" (defArgs s_loose) (defBody s_loose) (defScope s_loose) .none kV22 dc22 pm22 an22 cd22 ct22), sl22⟩) (c22 : PySem.W.codeIn K cd22 "loose" = true) (k22 : PySem.W.keepIn K (.ref f22) = true)
    (a23 : PySem.W.nsIn K mainGlobals "squares" = some (some (.ref f23))) (l23 : K.lookup f23 = some ⟨oc23, od23, .func (PySem.W.fnOf "squares" "squares" (defArgs s_squares) (defBody s_squares) (defScope s_squares) .none kV23 dc23 pm23 an23 cd23 ct23), sl23⟩) (c23 : PySem.W.codeIn K cd23 "squares" = true) (k23 : PySem.W.keepIn K (.ref f23) = true)
    (a24 : PySem.W.nsIn K mainGlobals "_law_cell_at" = some (some (.ref f24))) (l24 : K.lookup f24 = some ⟨oc24, od24, .func (PySem.W.fnOf "_law_cell_at" "_law_cell_at" (defArgs s_law_cell_at) (defBody s_law_cell_at) (defScope s_law_cell_at) .none kV24 dc24 pm24 an24 cd24 ct24), sl24⟩) (c24 : PySem.W.codeIn K cd24 "_law_cell_at" = true) (k24 : PySem.W.keepIn K (.ref f24) = true)
    (a25 : PySem.W.nsIn K mainGlobals "_law_whole" = some (some (.ref f25))) (l25 : K.lookup f25 = some ⟨oc25, od25, .func (PySem.W.fnOf "_law_whole" "_law_whole" (defArgs s_law_whole) (defBody s_law_whole) (defScope s_law_whole) .none kV25 dc25 pm25 an25 cd25 ct25), sl25⟩) (c25 : PySem.W.codeIn K cd25 "_law_whole" = true) (k25 : PySem.W.keepIn K (.ref f25) = true)
    (a26 : PySem.W.nsIn K mainGlobals "_law_divisor" = some (some (.ref f26))) (l26 : K.lookup f26 = some ⟨oc26, od26, .func (PySem.W.fnOf "_law_divisor" "_law_divisor" (defArgs s_law_divisor) (defBody s_law_divisor) (defScope s_law_divisor) .none kV26 dc26 pm26 an26 cd26 ct26), sl26⟩) (c26 : PySem.W.codeIn K cd26 "_law_divisor" = true) (k26 : PySem.W.keepIn K (.ref f26) = true)
    (a27 : PySem.W.nsIn K mainGlobals "_law_low" = some (some (.ref f27))) (l27 : K.lookup f27 = some ⟨oc27, od27, .func (PySem.W.fnOf "_law_low" "_law_low" (defArgs s_law_low) (defBody s_law_low) (defScope s_law_low) .none kV27 dc27 pm27 an27 cd27 ct27), sl27⟩) (c27 : PySem.W.codeIn K cd27 "_law_low" = true) (k27 : PySem.W.keepIn K (.ref f27) = true)
    (a28 : PySem.W.nsIn K mainGlobals "_law_numbers" = some (some (.ref f28))) (l28 : K.lookup f28 = some ⟨oc28, od28, .func (PySem.W.fnOf "_law_numbers" "_law_numbers" (defArgs s_law_numbers) (defBody s_law_numbers) (defScope s_law_numbers) .none kV28 dc28 pm28 an28 cd28 ct28), sl28⟩) (c28 : PySem.W.codeIn K cd28 "_law_numbers" = true) (k28 : PySem.W.keepIn K (.ref f28) = true)
    (a29 : PySem.W.nsIn K mainGlobals "_law_above_by" = some (some (.ref f29))) (l29 : K.lookup f29 = some ⟨oc29, od29, .func (PySem.W.fnOf "_law_above_by" "_law_above_by" (defArgs s_law_above_by) (defBody s_law_above_by) (defScope s_law_above_by) .none kV29 dc29 pm29 an29 cd29 ct29), sl29⟩) (c29 : PySem.W.codeIn K cd29 "_law_above_by" = true) (k29 : PySem.W.keepIn K (.ref f29) = true)
    (a30 : PySem.W.nsIn K mainGlobals "_law_cord_by" = some (some (.ref f30))) (l30 : K.lookup f30 = some ⟨oc30, od30, .func (PySem.W.fnOf "_law_cord_by" "_law_cord_by" (defArgs s_law_cord_by) (defBody s_law_cord_by) (defScope s_law_cord_by) .none kV30 dc30 pm30 an30 cd30 ct30), sl30⟩) (c30 : PySem.W.codeIn K cd30 "_law_cord_by" = true) (k30 : PySem.W.keepIn K (.ref f30) = true)
    (a31 : PySem.W.nsIn K mainGlobals "_law_walk" = some (some (.ref f31))) (l31 : K.lookup f31 = some ⟨oc31, od31, .func (PySem.W.fnOf "_law_walk" "_law_walk" (defArgs s_law_walk) (defBody s_law_walk) (defScope s_law_walk) .none kV31 dc31 pm31 an31 cd31 ct31), sl31⟩) (c31 : PySem.W.codeIn K cd31 "_law_walk" = true) (k31 : PySem.W.keepIn K (.ref f31) = true)
    (a32 : PySem.W.nsIn K mainGlobals "_law_at_by" = some (some (.ref f32))) (l32 : K.lookup f32 = some ⟨oc32, od32, .func (PySem.W.fnOf "_law_at_by" "_law_at_by" (defArgs s_law_at_by) (defBody s_law_at_by) (defScope s_law_at_by) .none kV32 dc32 pm32 an32 cd32 ct32), sl32⟩) (c32 : PySem.W.codeIn K cd32 "_law_at_by" = true) (k32 : PySem.W.keepIn K (.ref f32) = true)
    (a33 : PySem.W.nsIn K mainGlobals "_law_worth" = some (some (.ref f33))) (l33 : K.lookup f33 = some ⟨oc33, od33, .func (PySem.W.fnOf "_law_worth" "_law_worth" (defArgs s_law_worth) (defBody s_law_worth) (defScope s_law_worth) .none kV33 dc33 pm33 an33 cd33 ct33), sl33⟩) (c33 : PySem.W.codeIn K cd33 "_law_worth" = true) (k33 : PySem.W.keepIn K (.ref f33) = true)
    (a34 : PySem.W.nsIn K mainGlobals "_law_is" = some (some (.ref f34))) (l34 : K.lookup f34 = some ⟨oc34, od34, .func (PySem.W.fnOf "_law_is" "_law_is" (defArgs s_law_is) (defBody s_law_is) (defScope s_law_is) .none kV34 dc34 pm34 an34 cd34 ct34), sl34⟩) (c34 : PySem.W.codeIn K cd34 "_law_is" = true) (k34 : PySem.W.keepIn K (.ref f34) = true)
    (a35 : PySem.W.nsIn K mainGlobals "_law_is_poly" = some (some (.ref f35))) (l35 : K.lookup f35 = some ⟨oc35, od35, .func (PySem.W.fnOf "_law_is_poly" "_law_is_poly" (defArgs s_law_is_poly) (defBody s_law_is_poly) (defScope s_law_is_poly) .none kV35 dc35 pm35 an35 cd35 ct35), sl35⟩) (c35 : PySem.W.codeIn K cd35 "_law_is_poly" = true) (k35 : PySem.W.keepIn K (.ref f35) = true)
    (a36 : PySem.W.nsIn K mainGlobals "_law_squares_at" = some (some (.ref f36))) (l36 : K.lookup f36 = some ⟨oc36, od36, .func (PySem.W.fnOf "_law_squares_at" "_law_squares_at" (defArgs s_law_squares_at) (defBody s_law_squares_at) (defScope s_law_squares_at) .none kV36 dc36 pm36 an36 cd36 ct36), sl36⟩) (c36 : PySem.W.codeIn K cd36 "_law_squares_at" = true) (k36 : PySem.W.keepIn K (.ref f36) = true)
    (a37 : PySem.W.nsIn K mainGlobals "_law_slope" = some (some (.ref f37))) (l37 : K.lookup f37 = some ⟨oc37, od37, .func (PySem.W.fnOf "_law_slope" "_law_slope" (defArgs s_law_slope) (defBody s_law_slope) (defScope s_law_slope) .none kV37 dc37 pm37 an37 cd37 ct37), sl37⟩) (c37 : PySem.W.codeIn K cd37 "_law_slope" = true) (k37 : PySem.W.keepIn K (.ref f37) = true)
    (a38 : PySem.W.nsIn K mainGlobals "_law_crossed" = some (some (.ref f38))) (l38 : K.lookup f38 = some ⟨oc38, od38, .func (PySem.W.fnOf "_law_crossed" "_law_crossed" (defArgs s_law_crossed) (defBody s_law_crossed) (defScope s_law_crossed) .none kV38 dc38 pm38 an38 cd38 ct38), sl38⟩) (c38 : PySem.W.codeIn K cd38 "_law_crossed" = true) (k38 : PySem.W.keepIn K (.ref f38) = true)
    (a39 : PySem.W.nsIn K mainGlobals "_law_by_slopes" = some (some (.ref f39))) (l39 : K.lookup f39 = some ⟨oc39, od39, .func (PySem.W.fnOf "_law_by_slopes" "_law_by_slopes" (defArgs s_law_by_slopes) (defBody s_law_by_slopes) (defScope s_law_by_slopes) .none kV39 dc39 pm39 an39 cd39 ct39), sl39⟩) (c39 : PySem.W.codeIn K cd39 "_law_by_slopes" = true) (k39 : PySem.W.keepIn K (.ref f39) = true)
    (a40 : PySem.W.nsIn K mainGlobals "law" = some (some (.ref f40))) (l40 : K.lookup f40 = some ⟨oc40, od40, .func (PySem.W.fnOf "law" "law" (defArgs s_law) (defBody s_law) (defScope s_law) .none kV40 dc40 pm40 an40 cd40 ct40), sl40⟩) (c40 : PySem.W.codeIn K cd40 "law" = true) (k40 : PySem.W.keepIn K (.ref f40) = true)
    (om_Cord : PySem.W.nsIn K mainGlobals "Cord" = some (some (.ref o_Cord))) (pg_Cord : PySem.W.plainGet K o_Cord Str.empty = true) (hd_Cord : PySem.W.hasDictIn K o_Cord = true) (po_Cord : PySem.W.plainOver K o_Cord = true) (sa_Cord : PySem.W.findIn K (.ref o_Cord) "__setattr__" = some (some (.builtin "object.__setattr__"))) (mk_Cord : PySem.W.makesIn K o_Cord = true) (kc_Cord : PySem.W.keepIn K (.ref o_Cord) = true)
    (d1_Cord : PySem.W.findIn K (.ref o_Cord) "__class__" = some (some (.builtin "object.__class__"))) (d2_Cord : PySem.W.specialIn K (.builtin "object.__class__") "__get__" = some (some (.builtin "getset_descriptor.__get__"))) (d3_Cord : PySem.W.takesIn K (.builtin "object.__class__") = some true) (d4_Cord : PySem.W.mroIn K o_Cord (.type "object") = some true) (ks_Cord : PySem.W.kitOne K (.ref o_Cord) (.ref o_Cord) = some true)
    (nf_Cord_kept_gaps : PySem.W.findIn K (.ref o_Cord) "kept_gaps" = some none)
    (nf_Cord_kept_weights : PySem.W.findIn K (.ref o_Cord) "kept_weights" = some none)
    (z_abs : PySem.W.nsIn K mainGlobals "abs" = some none) (z_len : PySem.W.nsIn K mainGlobals "len" = some none) (z_isinstance : PySem.W.nsIn K mainGlobals "isinstance" = some none) (z_int : PySem.W.nsIn K mainGlobals "int" = some none) (z_bool : PySem.W.nsIn K mainGlobals "bool" = some none) (z_tuple : PySem.W.nsIn K mainGlobals "tuple" = some none) (z_range : PySem.W.nsIn K mainGlobals "range" = some none) (z_list : PySem.W.nsIn K mainGlobals "list" = some none) (z_min : PySem.W.nsIn K mainGlobals "min" = some none) (z_max : PySem.W.nsIn K mainGlobals "max" = some none) (z_all : PySem.W.nsIn K mainGlobals "all" = some none) (z_reversed : PySem.W.nsIn K mainGlobals "reversed" = some none) (z_zip : PySem.W.nsIn K mainGlobals "zip" = some none) (z_enumerate : PySem.W.nsIn K mainGlobals "enumerate" = some none) {qt_MOST_BEADS : Tok} (q_MOST_BEADS : PySem.W.nsIn K mainGlobals "MOST_BEADS" = some (some (.int 12 qt_MOST_BEADS))) :
    ∃ fd : FuncData, (∀ (s : Shared) (v : Value), BindsTo s fd ⟨[v], []⟩ [("_law_script", v)]) ∧ ∀ base : Heap, K.In base → base.Ns mainGlobals mg → FnOk l.prog w K mg base CX0 7 fa fd ["_law_script"] (sp_lawB K) := by
  have e := hfa.symm.trans (PySem.W.mg_of X G a40)
  cases e
  have T : Txt mg := ⟨PySem.W.mg_none_of X G z_abs, PySem.W.mg_none_of X G z_len, PySem.W.mg_none_of X G z_isinstance, PySem.W.mg_none_of X G z_int, PySem.W.mg_none_of X G z_bool, PySem.W.mg_none_of X G z_tuple, PySem.W.mg_none_of X G z_range, PySem.W.mg_none_of X G z_list, PySem.W.mg_none_of X G z_min, PySem.W.mg_none_of X G z_max, PySem.W.mg_none_of X G z_all, PySem.W.mg_none_of X G z_reversed, PySem.W.mg_none_of X G z_zip, PySem.W.mg_none_of X G z_enumerate, ⟨_, PySem.W.mg_of X G q_MOST_BEADS⟩⟩
  have O : OwnCord K mg o_Cord := ⟨PySem.W.mg_of X G om_Cord, ⟨pg_Cord, hd_Cord, po_Cord, sa_Cord⟩, d1_Cord, d2_Cord, d3_Cord, d4_Cord, ks_Cord, nf_Cord_kept_gaps, nf_Cord_kept_weights⟩
  have F1 := fun_mk (st := s_divisor) l1 c1 k1
  have b1 := F1.binds (ps := ["one", "other"]) fun _ _ _ _ _ _ us hl => by
    obtain ⟨u0, u1, rfl⟩ := la2 hl
    rfl
  have F2 := fun_mk (st := s_is_whole) l2 c2 k2
  have b2 := F2.binds (ps := ["thing"]) fun _ _ _ _ _ _ us hl => by
    obtain ⟨u0, rfl⟩ := la1 hl
    rfl
  have F3 := fun_mk (st := s_plus) l3 c3 k3
  have b3 := F3.binds (ps := ["one", "other"]) fun _ _ _ _ _ _ us hl => by
    obtain ⟨u0, u1, rfl⟩ := la2 hl
    rfl
  have F4 := fun_mk (st := s_minus) l4 c4 k4
  have b4 := F4.binds (ps := ["one", "other"]) fun _ _ _ _ _ _ us hl => by
    obtain ⟨u0, u1, rfl⟩ := la2 hl
    rfl
  have F5 := fun_mk (st := s_times) l5 c5 k5
  have b5 := F5.binds (ps := ["one", "other"]) fun _ _ _ _ _ _ us hl => by
    obtain ⟨u0, u1, rfl⟩ := la2 hl
    rfl
  have F6 := fun_mk (st := s_is_fraction) l6 c6 k6
  have b6 := F6.binds (ps := ["thing"]) fun _ _ _ _ _ _ us hl => by
    obtain ⟨u0, rfl⟩ := la1 hl
    rfl
  have F7 := fun_mk (st := s_side) l7 c7 k7
  have b7 := F7.binds (ps := ["one"]) fun _ _ _ _ _ _ us hl => by
    obtain ⟨u0, rfl⟩ := la1 hl
    rfl
  have F8 := fun_mk (st := s_poly) l8 c8 k8
  have b8 := F8.binds (ps := ["figures"]) fun _ _ _ _ _ _ us hl => by
    obtain ⟨u0, rfl⟩ := la1 hl
    rfl
  have F9 := fun_mk (st := s_figure_at) l9 c9 k9
  have b9 := F9.binds (ps := ["one", "power"]) fun _ _ _ _ _ _ us hl => by
    obtain ⟨u0, u1, rfl⟩ := la2 hl
    rfl
  have F10 := fun_mk (st := s_poly_plus) l10 c10 k10
  have b10 := F10.binds (ps := ["one", "other"]) fun _ _ _ _ _ _ us hl => by
    obtain ⟨u0, u1, rfl⟩ := la2 hl
    rfl
  have F11 := fun_mk (st := s_poly_minus) l11 c11 k11
  have b11 := F11.binds (ps := ["one", "other"]) fun _ _ _ _ _ _ us hl => by
    obtain ⟨u0, u1, rfl⟩ := la2 hl
    rfl
  have F12 := fun_mk (st := s_poly_times) l12 c12 k12
  have b12 := F12.binds (ps := ["one", "other"]) fun _ _ _ _ _ _ us hl => by
    obtain ⟨u0, u1, rfl⟩ := la2 hl
    rfl
  have F13 := fun_mk (st := s_slope) l13 c13 k13
  have b13 := F13.binds (ps := ["one"]) fun _ _ _ _ _ _ us hl => by
    obtain ⟨u0, rfl⟩ := la1 hl
    rfl
  have F14 := fun_mk (st := s_scaled) l14 c14 k14
  have b14 := F14.binds (ps := ["one", "number"]) fun _ _ _ _ _ _ us hl => by
    obtain ⟨u0, u1, rfl⟩ := la2 hl
    rfl
  have F15 := fun_mk (st := s_is_row_above) l15 c15 k15
  have b15 := F15.binds (ps := ["thing"]) fun _ _ _ _ _ _ us hl => by
    obtain ⟨u0, rfl⟩ := la1 hl
    rfl
  have F16 := fun_mk (st := s_Cord_init) l16 c16 k16
  have b16 := F16.binds (ps := ["self", "gaps", "weights"]) fun _ _ _ _ _ _ us hl => by
    obtain ⟨u0, u1, u2, rfl⟩ := la3 hl
    rfl
  have F17 := fun_mk (st := s_Cord_gaps) l17 c17 k17
  have b17 := F17.binds (ps := ["self"]) fun _ _ _ _ _ _ us hl => by
    obtain ⟨u0, rfl⟩ := la1 hl
    rfl
  have F18 := fun_mk (st := s_Cord_weights) l18 c18 k18
  have b18 := F18.binds (ps := ["self"]) fun _ _ _ _ _ _ us hl => by
    obtain ⟨u0, rfl⟩ := la1 hl
    rfl
  have F19 := fun_mk (st := s_times_number) l19 c19 k19
  have b19 := F19.binds (ps := ["one"]) fun _ _ _ _ _ _ us hl => by
    obtain ⟨u0, rfl⟩ := la1 hl
    rfl
  have F20 := fun_mk (st := s_ends) l20 c20 k20
  have b20 := F20.binds (ps := ["cord", "height", "lean"]) fun _ _ _ _ _ _ us hl => by
    obtain ⟨u0, u1, u2, rfl⟩ := la3 hl
    rfl
  have F21 := fun_mk (st := s_held) l21 c21 k21
  have b21 := F21.binds (ps := ["cord"]) fun _ _ _ _ _ _ us hl => by
    obtain ⟨u0, rfl⟩ := la1 hl
    rfl
  have F22 := fun_mk (st := s_loose) l22 c22 k22
  have b22 := F22.binds (ps := ["cord"]) fun _ _ _ _ _ _ us hl => by
    obtain ⟨u0, rfl⟩ := la1 hl
    rfl
  have F23 := fun_mk (st := s_squares) l23 c23 k23
  have b23 := F23.binds (ps := ["cord"]) fun _ _ _ _ _ _ us hl => by
    obtain ⟨u0, rfl⟩ := la1 hl
    rfl
  have F24 := fun_mk (st := s_law_cell_at) l24 c24 k24
  have b24 := F24.binds (ps := ["_law_script", "_law_k"]) fun _ _ _ _ _ _ us hl => by
    obtain ⟨u0, u1, rfl⟩ := la2 hl
    rfl
  have F25 := fun_mk (st := s_law_whole) l25 c25 k25
  have b25 := F25.binds (ps := ["_law_found"]) fun _ _ _ _ _ _ us hl => by
    obtain ⟨u0, rfl⟩ := la1 hl
    rfl
  have F26 := fun_mk (st := s_law_divisor) l26 c26 k26
  have b26 := F26.binds (ps := ["_law_one", "_law_other"]) fun _ _ _ _ _ _ us hl => by
    obtain ⟨u0, u1, rfl⟩ := la2 hl
    rfl
  have F27 := fun_mk (st := s_law_low) l27 c27 k27
  have b27 := F27.binds (ps := ["_law_top", "_law_bottom"]) fun _ _ _ _ _ _ us hl => by
    obtain ⟨u0, u1, rfl⟩ := la2 hl
    rfl
  have F28 := fun_mk (st := s_law_numbers) l28 c28 k28
  have b28 := F28.binds (ps := ["_law_cell", "_law_many"]) fun _ _ _ _ _ _ us hl => by
    obtain ⟨u0, u1, rfl⟩ := la2 hl
    rfl
  have F29 := fun_mk (st := s_law_above_by) l29 c29 k29
  have b29 := F29.binds (ps := ["_law_v"]) fun _ _ _ _ _ _ us hl => by
    obtain ⟨u0, rfl⟩ := la1 hl
    rfl
  have F30 := fun_mk (st := s_law_cord_by) l30 c30 k30
  have b30 := F30.binds (ps := ["_law_script", "_law_most"]) fun _ _ _ _ _ _ us hl => by
    obtain ⟨u0, u1, rfl⟩ := la2 hl
    rfl
  have F31 := fun_mk (st := s_law_walk) l31 c31 k31
  have b31 := F31.binds (ps := ["_law_gaps", "_law_weights", "_law_t", "_law_height", "_law_lean"]) fun _ _ _ _ _ _ us hl => by
    obtain ⟨u0, u1, u2, u3, u4, rfl⟩ := la5 hl
    rfl
  have F32 := fun_mk (st := s_law_at_by) l32 c32 k32
  have b32 := F32.binds (ps := ["_law_cell"]) fun _ _ _ _ _ _ us hl => by
    obtain ⟨u0, rfl⟩ := la1 hl
    rfl
  have F33 := fun_mk (st := s_law_worth) l33 c33 k33
  have b33 := F33.binds (ps := ["_law_figures", "_law_t"]) fun _ _ _ _ _ _ us hl => by
    obtain ⟨u0, u1, rfl⟩ := la2 hl
    rfl
  have F34 := fun_mk (st := s_law_is) l34 c34 k34
  have b34 := F34.binds (ps := ["_law_one", "_law_due"]) fun _ _ _ _ _ _ us hl => by
    obtain ⟨u0, u1, rfl⟩ := la2 hl
    rfl
  have F35 := fun_mk (st := s_law_is_poly) l35 c35 k35
  have b35 := F35.binds (ps := ["_law_found", "_law_many"]) fun _ _ _ _ _ _ us hl => by
    obtain ⟨u0, u1, rfl⟩ := la2 hl
    rfl
  have F36 := fun_mk (st := s_law_squares_at) l36 c36 k36
  have b36 := F36.binds (ps := ["_law_gaps", "_law_weights", "_law_t"]) fun _ _ _ _ _ _ us hl => by
    obtain ⟨u0, u1, u2, rfl⟩ := la3 hl
    rfl
  have F37 := fun_mk (st := s_law_slope) l37 c37 k37
  have b37 := F37.binds (ps := ["_law_one"]) fun _ _ _ _ _ _ us hl => by
    obtain ⟨u0, rfl⟩ := la1 hl
    rfl
  have F38 := fun_mk (st := s_law_crossed) l38 c38 k38
  have b38 := F38.binds (ps := ["_law_one", "_law_other", "_law_place"]) fun _ _ _ _ _ _ us hl => by
    obtain ⟨u0, u1, u2, rfl⟩ := la3 hl
    rfl
  have F39 := fun_mk (st := s_law_by_slopes) l39 c39 k39
  have b39 := F39.binds (ps := ["_law_found", "_law_one", "_law_other"]) fun _ _ _ _ _ _ us hl => by
    obtain ⟨u0, u1, u2, rfl⟩ := la3 hl
    rfl
  have F40 := fun_mk (st := s_law) l40 c40 k40
  refine ⟨PySem.W.fnOf "law" "law" (defArgs s_law) (defBody s_law) (defScope s_law) .none kV40 dc40 pm40 an40 cd40 ct40, fun s v => .of_eq rfl, fun base _ _ => ?_⟩
  have C_divisor : Cal l.prog w K mg base "divisor" 1 ["one", "other"] (sp_div) := ⟨_, _, ok_divisor F1 T, b1, k1, PySem.W.mg_of X G a1⟩
  have C_is_whole : Cal l.prog w K mg base "is_whole" 1 ["thing"] (sp_whole) := ⟨_, _, ok_is_whole F2 T, b2, k2, PySem.W.mg_of X G a2⟩
  have C_plus : Cal l.prog w K mg base "plus" 2 ["one", "other"] (sp_plus) := ⟨_, _, ok_plus F3 T C_divisor, b3, k3, PySem.W.mg_of X G a3⟩
  have C_minus : Cal l.prog w K mg base "minus" 3 ["one", "other"] (sp_bin 8000 (· - ·)) := ⟨_, _, ok_minusQ F4 T C_plus, b4, k4, PySem.W.mg_of X G a4⟩
  have C_times : Cal l.prog w K mg base "times" 2 ["one", "other"] (sp_bin 8000 (· * ·)) := ⟨_, _, ok_timesQ F5 T C_divisor, b5, k5, PySem.W.mg_of X G a5⟩
  have C_is_fraction : Cal l.prog w K mg base "is_fraction" 2 ["thing"] (sp_frac) := ⟨_, _, ok_is_fraction F6 T C_is_whole C_divisor, b6, k6, PySem.W.mg_of X G a6⟩
  have C_side : Cal l.prog w K mg base "side" 1 ["one"] (sp_side) := ⟨_, _, ok_side F7 T, b7, k7, PySem.W.mg_of X G a7⟩
  have C_poly : Cal l.prog w K mg base "poly" 2 ["figures"] (sp_stripQ) := ⟨_, _, ok_poly F8 T C_side, b8, k8, PySem.W.mg_of X G a8⟩
  have C_figure_at : Cal l.prog w K mg base "figure_at" 1 ["one", "power"] (sp_atQ) := ⟨_, _, ok_figure_at F9 T, b9, k9, PySem.W.mg_of X G a9⟩
  have C_poly_plus : Cal l.prog w K mg base "poly_plus" 4 ["one", "other"] (sp_pbin Po.padd) := ⟨_, _, ok_poly_plus F10 T C_figure_at (C_plus.imp bin_plus) C_poly, b10, k10, PySem.W.mg_of X G a10⟩
  have C_poly_minus : Cal l.prog w K mg base "poly_minus" 4 ["one", "other"] (sp_pbin Po.psub) := ⟨_, _, ok_poly_minus F11 T C_figure_at C_minus C_poly, b11, k11, PySem.W.mg_of X G a11⟩
  have C_poly_times : Cal l.prog w K mg base "poly_times" 4 ["one", "other"] (sp_prodB) := ⟨_, _, ok_poly_times F12 T (C_plus.imp bin_plus) C_times C_poly, b12, k12, PySem.W.mg_of X G a12⟩
  have C_slope : Cal l.prog w K mg base "slope" 4 ["one"] (sp_slope) := ⟨_, _, ok_slope F13 T C_times, b13, k13, PySem.W.mg_of X G a13⟩
  have C_scaled : Cal l.prog w K mg base "scaled" 4 ["one", "number"] (sp_scaled) := ⟨_, _, ok_scaled F14 T C_times C_poly, b14, k14, PySem.W.mg_of X G a14⟩
  have C_is_row_above : Cal l.prog w K mg base "is_row_above" 3 ["thing"] (sp_row_above) := ⟨_, _, ok_is_row_above F15 T C_is_fraction C_side, b15, k15, PySem.W.mg_of X G a15⟩
  have C_Cord_init : CalC l.prog w K mg base "Cord" o_Cord 4 ["self", "gaps", "weights"] (sp_init o_Cord) := ⟨_, _, ok_Cord_init F16 T O C_is_row_above, b16, ⟨mk_Cord, a16, i16, kc_Cord⟩, O.m⟩
  have C_Cord_gaps : CalM l.prog w K mg base o_Cord "gaps" 1 ["self"] (sp_gaps o_Cord) := ⟨_, _, ok_Cord_gaps F17 T O, b17, ⟨a17, i17, k17⟩, O.cl⟩
  have C_Cord_weights : CalM l.prog w K mg base o_Cord "weights" 1 ["self"] (sp_weights o_Cord) := ⟨_, _, ok_Cord_weights F18 T O, b18, ⟨a18, i18, k18⟩, O.cl⟩
  have C_times_number : Cal l.prog w K mg base "times_number" 3 ["one"] (sp_shift) := ⟨_, _, ok_times_number F19 T C_poly, b19, k19, PySem.W.mg_of X G a19⟩
  have C_ends : Cal l.prog w K mg base "ends" 5 ["cord", "height", "lean"] (sp_ends o_Cord) := ⟨_, _, ok_ends F20 T C_poly_plus C_poly_minus C_scaled C_times_number C_Cord_gaps C_Cord_weights, b20, k20, PySem.W.mg_of X G a20⟩
  have C_held : Cal l.prog w K mg base "held" 6 ["cord"] (sp_tone o_Cord heldQ) := ⟨_, _, ok_held F21 T C_ends, b21, k21, PySem.W.mg_of X G a21⟩
  have C_loose : Cal l.prog w K mg base "loose" 6 ["cord"] (sp_tone o_Cord looseQ) := ⟨_, _, ok_loose F22 T C_ends, b22, k22, PySem.W.mg_of X G a22⟩
  have C_squares : Cal l.prog w K mg base "squares" 6 ["cord"] (sp_squares o_Cord) := ⟨_, _, ok_squares F23 T C_ends C_slope C_poly_times C_poly_minus, b23, k23, PySem.W.mg_of X G a23⟩
  have C_law_cell_at : Cal l.prog w K mg base "_law_cell_at" 1 ["_law_script", "_law_k"] (sp_cell0 K) := ⟨_, _, ok_law_cell_at F24 T, b24, k24, PySem.W.mg_of X G a24⟩
  have C_law_whole : Cal l.prog w K mg base "_law_whole" 1 ["_law_found"] (sp_whole) := ⟨_, _, ok_law_whole F25 T, b25, k25, PySem.W.mg_of X G a25⟩
  have C_law_divisor : Cal l.prog w K mg base "_law_divisor" 1 ["_law_one", "_law_other"] (sp_gcd) := ⟨_, _, ok_law_divisor F26 T, b26, k26, PySem.W.mg_of X G a26⟩
  have C_law_low : Cal l.prog w K mg base "_law_low" 2 ["_law_top", "_law_bottom"] (sp_lowQ) := ⟨_, _, ok_law_low F27 T C_law_divisor, b27, k27, PySem.W.mg_of X G a27⟩
  have C_law_numbers : Cal l.prog w K mg base "_law_numbers" 1 ["_law_cell", "_law_many"] (sp_numbers) := ⟨_, _, ok_law_numbers F28 T, b28, k28, PySem.W.mg_of X G a28⟩
  have C_law_above_by : Cal l.prog w K mg base "_law_above_by" 3 ["_law_v"] (sp_above) := ⟨_, _, ok_law_above_by F29 T C_law_low, b29, k29, PySem.W.mg_of X G a29⟩
  have C_law_cord_by : Cal l.prog w K mg base "_law_cord_by" 4 ["_law_script", "_law_most"] (sp_cord_by K) := ⟨_, _, ok_law_cord_by F30 T C_law_cell_at C_law_numbers C_law_low C_law_above_by, b30, k30, PySem.W.mg_of X G a30⟩
  have C_law_walk : Cal l.prog w K mg base "_law_walk" 3 ["_law_gaps", "_law_weights", "_law_t", "_law_height", "_law_lean"] (sp_walk) := ⟨_, _, ok_law_walk F31 T C_law_low, b31, k31, PySem.W.mg_of X G a31⟩
  have C_law_at_by : Cal l.prog w K mg base "_law_at_by" 3 ["_law_cell"] (sp_at_by24) := ⟨_, _, ok_law_at_by F32 T C_law_low, b32, k32, PySem.W.mg_of X G a32⟩
  have C_law_worth : Cal l.prog w K mg base "_law_worth" 1 ["_law_figures", "_law_t"] (sp_worthR) := ⟨_, _, ok_law_worth F33 T, b33, k33, PySem.W.mg_of X G a33⟩
  have C_law_is : Cal l.prog w K mg base "_law_is" 1 ["_law_one", "_law_due"] (sp_isR) := ⟨_, _, ok_law_is F34 T, b34, k34, PySem.W.mg_of X G a34⟩
  have C_law_is_poly : Cal l.prog w K mg base "_law_is_poly" 2 ["_law_found", "_law_many"] (sp_is_poly) := ⟨_, _, ok_law_is_poly F35 T C_law_whole C_law_divisor, b35, k35, PySem.W.mg_of X G a35⟩
  have C_law_squares_at : Cal l.prog w K mg base "_law_squares_at" 4 ["_law_gaps", "_law_weights", "_law_t"] (sp_sqAt) := ⟨_, _, ok_law_squares_at F36 T C_law_walk, b36, k36, PySem.W.mg_of X G a36⟩
  have C_law_slope : Cal l.prog w K mg base "_law_slope" 1 ["_law_one"] (sp_slopeZ) := ⟨_, _, ok_law_slope F37 T, b37, k37, PySem.W.mg_of X G a37⟩
  have C_law_crossed : Cal l.prog w K mg base "_law_crossed" 1 ["_law_one", "_law_other", "_law_place"] (sp_crossedZ) := ⟨_, _, ok_law_crossed F38 T, b38, k38, PySem.W.mg_of X G a38⟩
  have C_law_by_slopes : Cal l.prog w K mg base "_law_by_slopes" 2 ["_law_found", "_law_one", "_law_other"] (sp_by) := ⟨_, _, ok_law_by_slopes F39 T C_law_slope C_law_crossed C_law_is, b39, k39, PySem.W.mg_of X G a39⟩
  exact ok_law F40 T C_law_cell_at C_law_cord_by C_law_at_by C_law_worth C_law_is C_law_is_poly C_law_squares_at C_law_by_slopes C_squares C_held C_loose C_Cord_init
theorem walk {l : PySem.W.OpenLaw} {q : Program} {loose : List Str} {XP : (Str → Option Value) → Heap → Prop} {YP : World → Heap → Prop} {d : DefRec} {K : Params → PySem.W.Frag} (hn : l.most = some 63) (hdf : d.params.defaults = [])
    (hY : ∀ (w : World) (h : Heap), YP w h → (K w.params).In h)
    (F : ∀ (w : World) (mg : Str → Option Value) (fa : Addr) (h : Heap), (K w.params).In h → h.Ns mainGlobals mg → mg d.name = some (.ref fa) →
      ∃ fd : FuncData, (∀ (s : Shared) (u : Value), BindsTo s fd ⟨[u], []⟩ [("_law_script", u)]) ∧ ∀ base : Heap, (K w.params).In base → base.Ns mainGlobals mg → FnOk l.prog w (K w.params) mg base CX0 7 fa fd ["_law_script"] (sp_lawB (K w.params))) :
    PySem.W.WalkO q loose XP YP l.row.toRowW d [] (fun f vs => PySem.call f vs) :=
  L3.walkB_of (n := 63) (k := 7) (x := "_law_script") (CX := fun _ => CX0) (sp := fun w => sp_lawB (K w.params)) hn (by decide) hdf ⟨rfl, by decide, by decide⟩ hY F (fun _ _ a ns hl hb hS => ⟨a, ns, rfl, hS, hl, hb, fun _ => rfl⟩) fun _ _ _ _ _ z => z
end My
open PySem PySem.W PyProof.Rows
set_option maxRecDepth 100000 in
set_option maxHeartbeats 0 in
theorem PySem.Challenge.cw_tautcord_k26_squares_holds : PySem.Challenge.rw_tautcord_k26_squares.Holds := by
  w_on; o_law; k_head; (case hw => w_witness2)
  k_fill
  refine My.walk (l := PySem.Challenge.rw_tautcord_k26_squares) rfl rfl (fun w h Y => PySem.W.kIn_of Y) ?F
  case F =>
    intro w mg fa h KX G hmg
    refine' My.all_mk KX G hmg ?a1 ?l1 ?c1 ?k1 ?a2 ?l2 ?c2 ?k2 ?a3 ?l3 ?c3 ?k3 ?a4 ?l4 ?c4 ?k4 ?a5 ?l5 ?c5 ?k5 ?a6 ?l6 ?c6 ?k6 ?a7 ?l7 ?c7 ?k7 ?a8 ?l8 ?c8 ?k8 ?a9 ?l9 ?c9 ?k9 ?a10 ?l10 ?c10 ?k10 ?a11 ?l11 ?c11 ?k11 ?a12 ?l12 ?c12 ?k12 ?a13 ?l13 ?c13 ?k13 ?a14 ?l14 ?c14 ?k14 ?a15 ?l15 ?c15 ?k15 ?a16 ?i16 ?l16 ?c16 ?k16 ?a17 ?i17 ?l17 ?c17 ?k17 ?a18 ?i18 ?l18 ?c18 ?k18 ?a19 ?l19 ?c19 ?k19 ?a20 ?l20 ?c20 ?k20 ?a21 ?l21 ?c21 ?k21 ?a22 ?l22 ?c22 ?k22 ?a23 ?l23 ?c23 ?k23 ?a24 ?l24 ?c24 ?k24 ?a25 ?l25 ?c25 ?k25 ?a26 ?l26 ?c26 ?k26 ?a27 ?l27 ?c27 ?k27 ?a28 ?l28 ?c28 ?k28 ?a29 ?l29 ?c29 ?k29 ?a30 ?l30 ?c30 ?k30 ?a31 ?l31 ?c31 ?k31 ?a32 ?l32 ?c32 ?k32 ?a33 ?l33 ?c33 ?k33 ?a34 ?l34 ?c34 ?k34 ?a35 ?l35 ?c35 ?k35 ?a36 ?l36 ?c36 ?k36 ?a37 ?l37 ?c37 ?k37 ?a38 ?l38 ?c38 ?k38 ?a39 ?l39 ?c39 ?k39 ?a40 ?l40 ?c40 ?k40 ?om_Cord ?pg_Cord ?hd_Cord ?po_Cord ?sa_Cord ?mk_Cord ?kc_Cord ?d1_Cord ?d2_Cord ?d3_Cord ?d4_Cord ?ks_Cord ?nf_Cord_kept_gaps ?nf_Cord_kept_weights ?z_abs ?z_len ?z_isinstance ?z_int ?z_bool ?z_tuple ?z_range ?z_list ?z_min ?z_max ?z_all ?z_reversed ?z_zip ?z_enumerate ?q_MOST_BEADS
    (case om_Cord => k_is); (case a1 => k_is); (case l1 => k_is); (case c1 => k_is)
    (case k1 => k_is); (case a2 => k_is); (case l2 => k_is); (case c2 => k_is)
    (case k2 => k_is); (case a3 => k_is); (case l3 => k_is); (case c3 => k_is)
    (case k3 => k_is); (case a4 => k_is); (case l4 => k_is); (case c4 => k_is)
    (case k4 => k_is); (case a5 => k_is); (case l5 => k_is); (case c5 => k_is)
    (case k5 => k_is); (case a6 => k_is); (case l6 => k_is); (case c6 => k_is)
    (case k6 => k_is); (case a7 => k_is); (case l7 => k_is); (case c7 => k_is)
    (case k7 => k_is); (case a8 => k_is); (case l8 => k_is); (case c8 => k_is)
    (case k8 => k_is); (case a9 => k_is); (case l9 => k_is); (case c9 => k_is)
    (case k9 => k_is); (case a10 => k_is); (case l10 => k_is); (case c10 => k_is)
    (case k10 => k_is); (case a11 => k_is); (case l11 => k_is); (case c11 => k_is)
    (case k11 => k_is); (case a12 => k_is); (case l12 => k_is); (case c12 => k_is)
    (case k12 => k_is); (case a13 => k_is); (case l13 => k_is); (case c13 => k_is)
    (case k13 => k_is); (case a14 => k_is); (case l14 => k_is); (case c14 => k_is)
    (case k14 => k_is); (case a15 => k_is); (case l15 => k_is); (case c15 => k_is)
    (case k15 => k_is); (case a16 => k_is); (case i16 => k_is); (case l16 => k_is)
    (case c16 => k_is); (case k16 => k_is); (case a17 => k_is); (case i17 => k_is)
    (case l17 => k_is); (case c17 => k_is); (case k17 => k_is); (case a18 => k_is)
    (case i18 => k_is); (case l18 => k_is); (case c18 => k_is); (case k18 => k_is)
    (case a19 => k_is); (case l19 => k_is); (case c19 => k_is); (case k19 => k_is)
    (case a20 => k_is); (case l20 => k_is); (case c20 => k_is); (case k20 => k_is)
    (case a21 => k_is); (case l21 => k_is); (case c21 => k_is); (case k21 => k_is)
    (case a22 => k_is); (case l22 => k_is); (case c22 => k_is); (case k22 => k_is)
    (case a23 => k_is); (case l23 => k_is); (case c23 => k_is); (case k23 => k_is)
    (case a24 => k_is); (case l24 => k_is); (case c24 => k_is); (case k24 => k_is)
    (case a25 => k_is); (case l25 => k_is); (case c25 => k_is); (case k25 => k_is)
    (case a26 => k_is); (case l26 => k_is); (case c26 => k_is); (case k26 => k_is)
    (case a27 => k_is); (case l27 => k_is); (case c27 => k_is); (case k27 => k_is)
    (case a28 => k_is); (case l28 => k_is); (case c28 => k_is); (case k28 => k_is)
    (case a29 => k_is); (case l29 => k_is); (case c29 => k_is); (case k29 => k_is)
    (case a30 => k_is); (case l30 => k_is); (case c30 => k_is); (case k30 => k_is)
    (case a31 => k_is); (case l31 => k_is); (case c31 => k_is); (case k31 => k_is)
    (case a32 => k_is); (case l32 => k_is); (case c32 => k_is); (case k32 => k_is)
    (case a33 => k_is); (case l33 => k_is); (case c33 => k_is); (case k33 => k_is)
    (case a34 => k_is); (case l34 => k_is); (case c34 => k_is); (case k34 => k_is)
    (case a35 => k_is); (case l35 => k_is); (case c35 => k_is); (case k35 => k_is)
    (case a36 => k_is); (case l36 => k_is); (case c36 => k_is); (case k36 => k_is)
    (case a37 => k_is); (case l37 => k_is); (case c37 => k_is); (case k37 => k_is)
    (case a38 => k_is); (case l38 => k_is); (case c38 => k_is); (case k38 => k_is)
    (case a39 => k_is); (case l39 => k_is); (case c39 => k_is); (case k39 => k_is)
    (case a40 => k_is); (case l40 => k_is); (case c40 => k_is); (case k40 => k_is)
    (case pg_Cord => k_is); (case hd_Cord => k_is); (case po_Cord => k_is); (case sa_Cord => k_is)
    (case mk_Cord => k_is); (case kc_Cord => k_is); (case d1_Cord => k_is); (case d2_Cord => k_is)
    (case d3_Cord => k_is); (case d4_Cord => k_is); (case ks_Cord => kit_is); (case nf_Cord_kept_gaps => k_is)
    (case nf_Cord_kept_weights => k_is); (case z_abs => k_is); (case z_len => k_is); (case z_isinstance => k_is)
    (case z_int => k_is); (case z_bool => k_is); (case z_tuple => k_is); (case z_range => k_is)
    (case z_list => k_is); (case z_min => k_is); (case z_max => k_is); (case z_all => k_is)
    (case z_reversed => k_is); (case z_zip => k_is); (case z_enumerate => k_is); (case q_MOST_BEADS => k_is)
