import PyProof.Rows.All
import Wide.All
import OpenK.AllK
import Wide.FinOn
import Lean
import PyProof.EqAt
import PyProof.EqKinds
import PyProof.TupleCall
import PySem.Challenge.RW_tautcord_k53_no_ladder
set_option Elab.async false
set_option linter.all false
set_option maxRecDepth 100000
namespace L2
open PySem PySem.Spec PyProof.Rows

noncomputable abbrev Key := Sum Int Str
noncomputable def keyIs : Key → Value → Bool
  | .inl k, v => Value.isInt k v
  | .inr x, v => Value.isStrOf x v
noncomputable def keyH (w : World) : Key → Int
  | .inl k => hashInt k
  | .inr x => hashStr w x
theorem keyIs_shape : ∀ {k : Key} {v : Value}, keyIs k v = true → (∃ i t, k = Sum.inl i ∧ v = Value.int i t) ∨ (∃ x t, k = Sum.inr x ∧ v = Value.str x t)
  | .inl i, v, h => by
    obtain ⟨t, e⟩ := Value.isInt_shape (k := i) (v := v) h
    exact .inl ⟨i, t, rfl, e⟩
  | .inr x, v, h => by
    obtain ⟨t, e⟩ := Value.isStrOf_shape (x := x) (v := v) h
    exact .inr ⟨x, t, rfl, e⟩
theorem key_ll (a b : Int) : decide ((Sum.inl a : Key) = Sum.inl b) = (a == b) := by
  by_cases e : a = b
  · subst e; simp
  · have h : ¬ (Sum.inl a : Key) = Sum.inl b := fun q => e (Sum.inl.inj q)
    rw [decide_eq_false h]
    exact (beq_eq_false_iff_ne.mpr e).symm
theorem key_rr (a b : Str) : decide ((Sum.inr a : Key) = Sum.inr b) = decide (a = b) := by
  by_cases e : a = b
  · subst e; simp
  · have h : ¬ (Sum.inr a : Key) = Sum.inr b := fun q => e (Sum.inr.inj q)
    rw [decide_eq_false h, decide_eq_false e]
theorem key_lr (a : Int) (b : Str) : decide ((Sum.inl a : Key) = Sum.inr b) = false := decide_eq_false (fun q => nomatch q)
theorem key_rl (a : Str) (b : Int) : decide ((Sum.inr a : Key) = Sum.inl b) = false := decide_eq_false (fun q => nomatch q)

noncomputable def mixKind (prog : Program) (w : World) : PySem.KeyKind prog w Key where
  is := keyIs
  hash := keyH w
  inj := fun v a b ha hb => by
    rcases keyIs_shape ha with ⟨i, t, rfl, rfl⟩ | ⟨x, t, rfl, rfl⟩
    · rcases keyIs_shape hb with ⟨j, u, rfl, e⟩ | ⟨y, u, rfl, e⟩
      · injection e with e1 _; rw [e1]
      · exact nomatch e
    · rcases keyIs_shape hb with ⟨j, u, rfl, e⟩ | ⟨y, u, rfl, e⟩
      · exact nomatch e
      · injection e with e1 _; rw [e1]
  byValue := fun k v h => by
    rcases keyIs_shape h with ⟨i, t, rfl, rfl⟩ | ⟨x, t, rfl, rfl⟩ <;> rfl
  pyHash := fun hv h => by
    rcases keyIs_shape hv with ⟨i, t, rfl, rfl⟩ | ⟨x, t, rfl, rfl⟩
    · exact wpAny_pyHash_int h
    · exact wpAny_pyHash_str h
  eqBool := fun hu hv h => by
    rcases keyIs_shape hu with ⟨i, t, rfl, rfl⟩ | ⟨x, t, rfl, rfl⟩
    · rcases keyIs_shape hv with ⟨j, u, rfl, rfl⟩ | ⟨y, u, rfl, rfl⟩
      · rw [key_ll] at h; exact wpAny_eqBool_int h
      · rw [key_lr] at h; exact SeqAt.EqAt.int_str i t y u _ _ _ _ h
    · rcases keyIs_shape hv with ⟨j, u, rfl, rfl⟩ | ⟨y, u, rfl, rfl⟩
      · rw [key_rl] at h; exact SeqAt.EqAt.str_int x t j u _ _ _ _ h
      · rw [key_rr] at h; exact wpAny_eqBool_str h
  «strs» := fun k x t v h => by
    rcases keyIs_shape h with ⟨i, u, rfl, e⟩ | ⟨y, u, rfl, e⟩
    · exact nomatch e
    · injection e with e1 _
      subst e1
      cases v <;> rfl

end L2

namespace L2
open PySem PySem.Spec PyProof.Rows

inductive V where
  | non | bl (b : Bool) | int (i : Int) | str (x : Str) | byt (b : Array UInt8) | flt (b : UInt64) | ref (a : Addr) | ty (n : String)
  deriving DecidableEq

noncomputable def RelV : V → Value → Prop
  | .non, u => u = Value.none
  | .bl b, u => u = Value.bool b
  | .int i, u => ∃ t, u = Value.int i t
  | .str x, u => ∃ t, u = Value.str x t
  | .byt b, u => ∃ t, u = Value.bytes b t
  | .flt b, u => ∃ t, u = Value.float b t
  | .ref a, u => u = Value.ref a
  | .ty n, u => u = Value.type n

noncomputable abbrev Vals : List V → List Value → Prop := Paired RelV
theorem Vals.length {xs : List V} {us : List Value} (r : Vals xs us) : xs.length = us.length := Paired.length r
theorem Vals.get : ∀ {xs : List V} {us : List Value} {i : Nat} {x : V}, Vals xs us → xs[i]? = some x → ∃ u, us[i]? = some u ∧ RelV x u
  | _, _, _, _, .nil, e => by simp at e
  | _, _, 0, _, .cons r _, e => by simp at e; subst e; exact ⟨_, rfl, r⟩
  | _, _, i + 1, x, .cons _ t, e => by
    obtain ⟨u, h1, h2⟩ := Vals.get (i := i) (x := x) t (by simpa using e)
    exact ⟨u, by simpa using h1, h2⟩
theorem Vals.set {x : V} {u : Value} (r : RelV x u) : ∀ {xs : List V} {us : List Value} (i : Nat), Vals xs us → Vals (xs.set i x) (us.set i u)
  | _, _, _, .nil => .nil
  | _, _, 0, .cons _ t => .cons r t
  | _, _, i + 1, .cons q t => .cons q (Vals.set r i t)
theorem Vals.append : ∀ {xs ys : List V} {us ws : List Value}, Vals xs us → Vals ys ws → Vals (xs ++ ys) (us ++ ws)
  | _, _, _, _, .nil, s => s
  | _, _, _, _, .cons r t, s => .cons r (Vals.append t s)
theorem Vals.drop : ∀ {xs : List V} {us : List Value} (n : Nat), Vals xs us → Vals (xs.drop n) (us.drop n)
  | _, _, 0, r => r
  | _, _, _ + 1, .nil => .nil
  | _, _, n + 1, .cons _ t => Vals.drop n t

noncomputable def RelO : Option V → Option Value → Prop
  | some v, some u => RelV v u
  | none, none => True
  | _, _ => False
noncomputable def KV {κ : Type} : List (κ × V) → List (κ × Value) → Prop := Paired fun (p : κ × V) (q : κ × Value) => p.1 = q.1 ∧ RelV p.2 q.2

noncomputable def kV : Key → V
  | .inl i => .int i
  | .inr x => .str x

inductive HO where
  | lst (xs : List V)
  | tup (xs : List V)
  | dK (kvs : List (Key × V)) | dT (kvs : List (List Key × V))
  | set (S : Int → Bool) (n : Nat)
  | ins (C dx : Addr) (fs : List (Str × V))
  | own (x : Addr)
  | xd (fs : List (Str × V))
  | met (f x : Addr)
  | rng (lo hi : Int)
  | frz (o : Obj) (u : HO)
  | tbl (ps : Array Value)
  | ext (φ : Heap → Prop)

noncomputable abbrev Hp := Addr → Option HO
noncomputable def upd (H : Hp) (a : Addr) (o : HO) : Hp := fun b => if b = a then some o else H b
theorem upd_same {H : Hp} {a : Addr} {o : HO} : upd H a o a = some o := by unfold upd; rw [if_pos rfl]
theorem upd_ne {H : Hp} {a b : Addr} {o : HO} (h : b ≠ a) : upd H a o b = H b := by unfold upd; rw [if_neg h]
theorem ne_of {H : Hp} {a b : Addr} {o u : HO} (h : H a = some o) (h' : H b = some u) (d : o ≠ u) : a ≠ b := by
  intro e; subst e; rw [h] at h'; exact d (Option.some.inj h')
theorem ne_of_none {H : Hp} {a b : Addr} {o : HO} (h : H a = some o) (h' : H b = none) : a ≠ b := by
  intro e; subst e; rw [h] at h'; cases h'

section
variable (P : Program) (w : World)
noncomputable def ObjOk (H : Hp) (h : Heap) (a : Addr) : HO → Prop
  | .lst xs => xs.length ≤ sizeLine ∧ ∃ (its : List Value) (n : Nat), Vals xs its ∧ h.get? a = some { cls := .type "list", data := .seq its.toArray n }
  | .tup xs => xs.length ≤ sizeLine ∧ ∃ its : List Value, Vals xs its ∧ IsTup h a its.toArray
  | .dK kvs => kvs.length ≤ sizeLine ∧ (a == sysModules) = false ∧ ∃ vs, KV kvs vs ∧ h.DictOf (mixKind P w) a vs
  | .dT kvs => kvs.length ≤ sizeLine ∧ (a == sysModules) = false ∧ ∃ xs : List (List Key × Addr × Value),
      Paired (fun (p : List Key × V) (q : List Key × Addr × Value) => p.1 = q.1 ∧ H q.2.1 = some (.tup (p.1.map kV)) ∧ RelV p.2 q.2.2) kvs xs ∧
      ∃ o es ep, h.get? a = some o ∧ o.ExactDict ∧ o.data = .dict es ep ∧ es.toList = xs.map (entryOfKey (tupleKind (mixKind P w))) ∧ (xs.map (·.1)).Nodup
  | .set S n => h.SetOf (intKind P w) a S n
  | .ins C dx fs => H dx = some (.own a) ∧ fs.length ≤ 1000 ∧ dx ≠ a ∧ h.get? a = some (PySem.W.instObj C dx) ∧
      ∃ mA, h.Ns1 dx mA ∧ (∀ f, RelO (fs.lookup f) (mA f)) ∧ PySem.Within mA (fs.map (·.1))
  | .own _ => ∃ o, h.get? a = some o
  | .xd fs => ∃ mA, h.Ns1 a mA ∧ ∀ f, RelO (fs.lookup f) (mA f)
  | .rng lo hi => ∃ t u v, h.get? a = some { cls := .type "range", data := .fields #[.int lo t, .int hi u, .int 1 v] }
  | .frz o u => h.get? a = some o ∧ ObjOk H h a u
  | .tbl ps => h.get? a = some { cls := .none, data := .fields ps }
  | .met f x => h.get? a = some (PySem.W.methodObj (.ref f) (.ref x))
  | .ext φ => φ h ∧ (∃ o, h.get? a = some o) ∧ ∀ h1 h2 : Heap, φ h1 → (∀ o, h1.get? a = some o → h2.get? a = some o) → φ h2
noncomputable def HOk (H : Hp) (h : Heap) : Prop := ∀ a o, H a = some o → ObjOk P w H h a o
end

section
variable {P : Program} {w : World} {H H' : Hp} {h h' : Heap} {a : Addr} {o : HO}
theorem ObjOk.lt (x : ObjOk P w H h a o) : a < h.objs.size := by
  cases o with
  | lst xs => obtain ⟨_, _, _, _, e⟩ := x; exact Heap.lt_size e
  | tup xs => obtain ⟨_, _, _, p⟩ := x; exact p.lt
  | dK kvs => obtain ⟨_, _, _, _, o, _, _, e, _⟩ := x; exact Heap.lt_size e
  | dT kvs => obtain ⟨_, _, _, _, o, _, _, e, _⟩ := x; exact Heap.lt_size e
  | set S n => obtain ⟨o, _, _, _, e, _⟩ := x; exact Heap.lt_size e
  | ins C dx fs => obtain ⟨_, _, _, e, _⟩ := x; exact Heap.lt_size e
  | own y => obtain ⟨_, e⟩ := x; exact Heap.lt_size e
  | xd fs => obtain ⟨_, ⟨_, _, _, e, _⟩, _⟩ := x; exact Heap.lt_size e
  | rng lo hi => obtain ⟨_, _, _, e⟩ := x; exact Heap.lt_size e
  | frz ob u => obtain ⟨e, _⟩ := x; exact Heap.lt_size e
  | tbl ps => exact Heap.lt_size (show h.get? a = some _ from x)
  | met f y => exact Heap.lt_size (show h.get? a = some _ from x)
  | ext φ => obtain ⟨_, ⟨_, e⟩, _⟩ := x; exact Heap.lt_size e
theorem Paired.mapP {α β : Type} {F G : α → β → Prop} : ∀ {l₁ : List α} {l₂ : List β}, Paired F l₁ l₂ → (∀ a b, F a b → G a b) → Paired G l₁ l₂
  | _, _, .nil, _ => .nil
  | _, _, .cons r t, f => .cons (f _ _ r) (Paired.mapP t f)
theorem Paired.imp' {α β : Type} {F G : α → β → Prop} (f : ∀ a b, F a b → G a b) {l₁ : List α} {l₂ : List β} (r : Paired F l₁ l₂) : Paired G l₁ l₂ := Paired.mapP r f
theorem ObjOk.stay (x : ObjOk P w H h a o) (k : ∀ b u, (b = a ∨ H b = some (.own a)) → h.get? b = some u → h'.get? b = some u)
    (ho : ∀ b, H b = some (.own a) → H' b = some (.own a)) (ht : ∀ b xs, H b = some (.tup xs) → H' b = some (.tup xs)) : ObjOk P w H' h' a o := by
  induction o with
  | lst xs => obtain ⟨z, its, n, r, e⟩ := x; exact ⟨z, its, n, r, k _ _ (.inl rfl) e⟩
  | tup xs => obtain ⟨z, its, r, ob, e, c⟩ := x; exact ⟨z, its, r, ob, k _ _ (.inl rfl) e, c⟩
  | dK kvs => obtain ⟨z, y, vs, r, ob, es, ep, e, c⟩ := x; exact ⟨z, y, vs, r, ob, es, ep, k _ _ (.inl rfl) e, c⟩
  | dT kvs =>
    obtain ⟨z, y, xs, r, ob, es, ep, e, c⟩ := x
    exact ⟨z, y, xs, Paired.mapP r fun p q z => ⟨z.1, ht _ _ z.2.1, z.2.2⟩, ob, es, ep, k _ _ (.inl rfl) e, c⟩
  | set S n => obtain ⟨ob, es, ep, t, e, c⟩ := x; exact ⟨ob, es, ep, t, k _ _ (.inl rfl) e, c⟩
  | ins C dx fs =>
    obtain ⟨d, z, ne, e, mA, ⟨od, es, ep, e2, c⟩, r⟩ := x
    exact ⟨ho _ d, z, ne, k _ _ (.inl rfl) e, mA, ⟨od, es, ep, k _ _ (.inr d) e2, c⟩, r⟩
  | own y => obtain ⟨ob, e⟩ := x; exact ⟨ob, k _ _ (.inl rfl) e⟩
  | xd fs => obtain ⟨mA, ⟨od, es, ep, e, c⟩, r⟩ := x; exact ⟨mA, ⟨od, es, ep, k _ _ (.inl rfl) e, c⟩, r⟩
  | rng lo hi => obtain ⟨t, u, v, e⟩ := x; exact ⟨t, u, v, k _ _ (.inl rfl) e⟩
  | frz ob u ih => obtain ⟨e, q⟩ := x; exact ⟨k _ _ (.inl rfl) e, ih q⟩
  | tbl ps =>
    have e : h.get? a = some { cls := .none, data := .fields ps } := x
    show h'.get? a = some { cls := .none, data := .fields ps }
    exact k a _ (.inl rfl) e
  | met f y =>
    have e : h.get? a = some (PySem.W.methodObj (.ref f) (.ref y)) := x
    show h'.get? a = some (PySem.W.methodObj (.ref f) (.ref y))
    exact k a _ (.inl rfl) e
  | ext φ => obtain ⟨p, ⟨o, e⟩, st⟩ := x; exact ⟨st _ _ p fun o q => k _ _ (.inl rfl) q, ⟨o, k _ _ (.inl rfl) e⟩, st⟩
theorem HOk.lt (x : HOk P w H h) (e : H a = some o) : a < h.objs.size := (x a o e).lt
theorem HOk.fresh (x : HOk P w H h) (e : h.objs.size ≤ a) : H a = none := by
  cases q : H a with
  | none => rfl
  | some u => exact absurd (Nat.lt_of_lt_of_le (x.lt q) e) (Nat.lt_irrefl _)
theorem HOk.kept (x : HOk P w H h) (k : ∀ b u, h.get? b = some u → h'.get? b = some u) : HOk P w H h' := fun a o e =>
  (x a o e).stay (fun b u _ q => k b u q) (fun _ q => q) fun _ _ q => q
theorem HOk.laid (x : HOk P w H h) (k : ∀ b u, h.get? b = some u → h'.get? b = some u) (hp : h.objs.size ≤ a) (new : ObjOk P w (upd H a o) h' a o) : HOk P w (upd H a o) h' := fun b u e => by
  have hn := x.fresh hp
  by_cases hb : b = a
  · subst hb; rw [upd_same] at e; cases e; exact new
  · rw [upd_ne hb] at e
    exact (x b u e).stay (fun c v _ q => k c v q) (fun c q => by rw [upd_ne (ne_of_none q hn)]; exact q) fun c xs q => by rw [upd_ne (ne_of_none q hn)]; exact q
end

noncomputable def Rd (H : Hp) (a : Addr) (u : HO) : Prop := H a = some u ∨ ∃ o, H a = some (.frz o u)
theorem Rd.ok {P : Program} {w : World} {H : Hp} {h : Heap} {a : Addr} {u : HO} (r : Rd H a u) (x : HOk P w H h) : ObjOk P w H h a u := by
  rcases r with r | ⟨o, r⟩
  · exact x a u r
  · obtain ⟨_, q⟩ := x a _ r
    exact q
noncomputable def Mut : Option HO → Prop
  | some (.lst _) => True
  | some (.dK _) => True
  | some (.dT _) => True
  | some (.set _ _) => True
  | some (.ins _ _ _) => True
  | some (.ext _) => True
  | _ => False
section
variable {P : Program} {w : World} {H : Hp} {h h' : Heap} {x e : Addr} {o' : HO}
theorem HOk.write (ok : HOk P w H h) (mu : Mut (H x)) (he : e = x ∨ H e = some (.own x)) (k : ∀ b u, b ≠ e → h.get? b = some u → h'.get? b = some u) (heo : ∃ u, h'.get? e = some u)
    (new : ObjOk P w (upd H x o') h' x o') : HOk P w (upd H x o') h' := fun b u q => by
  have nown : ∀ c y, H c = some (.own y) → c ≠ x := fun c y r z => by subst z; rw [r] at mu; exact mu
  have ntup : ∀ c xs, H c = some (.tup xs) → c ≠ x := fun c xs r z => by subst z; rw [r] at mu; exact mu
  by_cases hb : b = x
  · subst hb; rw [upd_same] at q; cases q; exact new
  · rw [upd_ne hb] at q
    by_cases hbe : b = e
    · have q' : H b = some (.own x) := by
        rcases he with z | z
        · exact absurd (hbe.trans z) hb
        · rw [hbe]; exact z
      rw [q] at q'; cases q'
      obtain ⟨v, hv⟩ := heo
      exact ⟨v, by rw [hbe]; exact hv⟩
    · refine (ok b u q).stay (fun c v hc r => k c v ?_ r) (fun c r => by rw [upd_ne (nown c b r)]; exact r) fun c xs r => by rw [upd_ne (ntup c xs r)]; exact r
      rcases hc with rfl | hc
      · exact hbe
      · rintro rfl
        rcases he with z | z
        · exact nown c b hc z
        · rw [hc] at z; cases z; exact hb rfl
end

structure Un (fs ex : List Addr) (H H' : Hp) (h h' : Heap) : Prop where
  keep : ∀ b o, h.get? b = some o → H b = none → b ∉ fs → b ∉ ex → h'.get? b = some o
  slot : ∀ b o, h.get? b = some o → H b = none → b ∈ fs → b ∉ ex → ∃ sl, h'.get? b = some { o with slots := sl }
  free : ∀ b o, h.get? b = some o → H b = none → b ∉ ex → H' b = none
  there : ∀ b o, h.get? b = some o → b ∉ ex → ∃ o', h'.get? b = some o'
  tups : ∀ b xs, H b = some (.tup xs) → H' b = some (.tup xs)
  frzs : ∀ b o u, H b = some (.frz o u) → H' b = some (.frz o u)
  tbls : ∀ b ps, H b = some (.tbl ps) → ∃ more, H' b = some (.tbl (ps ++ more))
section
variable {fs fs' ex ex' : List Addr} {H H1 H2 : Hp} {h h1 h2 h' : Heap} {a x e : Addr} {o : HO}
theorem Un.any (u : Un fs ex H H1 h h1) {b : Addr} {ob : Obj} (q : h.get? b = some ob) (n : H b = none) (hx : b ∉ ex) : ∃ sl, h1.get? b = some { ob with slots := sl } := by
  by_cases hb : b ∈ fs
  · exact u.slot b ob q n hb hx
  · exact ⟨ob.slots, u.keep b ob q n hb hx⟩
theorem Un.kept (k : ∀ b u, h.get? b = some u → h'.get? b = some u) : Un fs ex H H h h' :=
  ⟨fun b ob q _ _ _ => k b ob q, fun b ob q _ _ _ => ⟨ob.slots, k b ob q⟩, fun _ _ _ n _ => n, fun b ob q _ => ⟨ob, k b ob q⟩, fun _ _ q => q, fun _ _ _ q => q, fun _ ps q => ⟨#[], by rw [q]; simp⟩⟩
theorem Un.refl : Un fs ex H H h h := Un.kept fun _ _ q => q
theorem Un.laid (k : ∀ b u, h.get? b = some u → h'.get? b = some u) (hp : h.objs.size ≤ a) (hn : H a = none) : Un fs ex H (upd H a o) h h' where
  keep := fun b u q _ _ _ => k b u q
  slot := fun b u q _ _ _ => ⟨u.slots, k b u q⟩
  free := fun b u q n _ => by rw [upd_ne (Nat.ne_of_lt (Nat.lt_of_lt_of_le (Heap.lt_size q) hp))]; exact n
  there := fun b u q _ => ⟨u, k b u q⟩
  tups := fun b xs q => by rw [upd_ne (ne_of_none q hn)]; exact q
  frzs := fun b u xs q => by rw [upd_ne (ne_of_none q hn)]; exact q
  tbls := fun b ps q => ⟨#[], by rw [upd_ne (ne_of_none q hn), q]; simp⟩
theorem Un.write (mu : Mut (H x)) (he : e = x ∨ H e = some (.own x)) (k : ∀ b u, b ≠ e → h.get? b = some u → h'.get? b = some u) (heo : ∃ u, h'.get? e = some u) : Un fs ex H (upd H x o) h h' := by
  have hx : ∀ b, H b = none → b ≠ x := fun b n z => by subst z; rw [n] at mu; exact mu
  have hb : ∀ b, H b = none → b ≠ e := fun b n z => by
    subst z
    rcases he with r | r
    · exact hx b n r
    · rw [n] at r; cases r
  have hm : ∀ b u, H b = some u → ¬ Mut (some u) → b ≠ x := fun b u q nm z => by subst z; rw [q] at mu; exact nm mu
  refine ⟨fun b u q n _ _ => k b u (hb b n) q, fun b u q n _ _ => ⟨u.slots, k b u (hb b n) q⟩, fun b u q n _ => by rw [upd_ne (hx b n)]; exact n, fun b u q _ => ?_,
    fun b xs q => by rw [upd_ne (hm b _ q fun z => z)]; exact q, fun b u xs q => by rw [upd_ne (hm b _ q fun z => z)]; exact q, fun b ps q => ⟨#[], by rw [upd_ne (hm b _ q fun z => z), q]; simp⟩⟩
  by_cases hbe : b = e
  · subst hbe; exact heo
  · exact ⟨u, k b u hbe q⟩
theorem Un.mono (u : Un fs ex H H1 h h1) (hs : ∀ b ∈ fs, b ∈ fs') (hx : ∀ b ∈ ex, b ∈ ex') : Un fs' ex' H H1 h h1 :=
  ⟨fun b ob q n hb he => u.keep b ob q n (fun z => hb (hs b z)) fun z => he (hx b z), fun _ _ q n _ he => u.any q n fun z => he (hx _ z), fun b ob q n he => u.free b ob q n fun z => he (hx b z), fun b ob q he => u.there b ob q fun z => he (hx b z), u.tups, u.frzs, u.tbls⟩
end

noncomputable def trk (h : Heap) (H : Hp) : List Addr := (List.range h.objs.size).filter fun a => (H a).isSome
noncomputable def hidT (h : Heap) (H : Hp) : Heap := PySem.W.hideAll h (trk h H)
theorem hidT_size (h : Heap) (H : Hp) : (hidT h H).objs.size = h.objs.size := PySem.W.hideAll_size _ _
theorem hidT_get {h : Heap} {H : Hp} {b : Addr} {o : Obj} (e : h.get? b = some o) (n : H b = none) : (hidT h H).get? b = some o :=
  PySem.W.hideAll_get _ e fun hm => by
    have q : (H b).isSome = true := (List.mem_filter.mp hm).2
    rw [n] at q; simp at q
theorem of_hidT {h : Heap} {H : Hp} {b : Addr} {o : Obj} (e : (hidT h H).get? b = some o) : h.get? b = some o ∧ H b = none := by
  have e' : h.get? b = some o := PySem.W.of_hideAll (trk h H) e
  refine ⟨e', ?_⟩
  cases q : H b with
  | none => rfl
  | some x =>
    have hm : b ∈ trk h H := List.mem_filter.mpr ⟨List.mem_range.mpr (Heap.lt_size e'), by simp [q]⟩
    have z : (hidT h H).get? b = none := PySem.W.hideAll_none (trk h H) hm
    rw [z] at e; cases e

noncomputable def allNews (g h : Heap) (L : Addr) : List (Addr × Obj) := (List.range h.objs.size).filterMap fun a => if a = L ∨ (g.get? a).isSome = true then none else (h.get? a).map fun o => (a, o)
noncomputable def rest (g h : Heap) (L d : Addr) : List (Addr × Obj) := (allNews g h L).filter fun p => decide (p.1 ≠ d)
end L2

namespace L2
open PySem PySem.Spec PyProof.Rows

structure Mod (K : PySem.W.Frag) (mg : Str → Option Value) (base : Heap) : Prop where
  kin : K.In base
  glob : base.Ns mainGlobals mg
  blt : ∃ mb, base.Ns builtinsNs mb ∧ ∀ x : Str, x ≠ "__name__" → mb x = bootBuiltins x
  nolimit : base.NoLimit

structure Cx where
  prog : Program
  w : World
  K : PySem.W.Frag
  mg : Str → Option Value
  base : Heap
  A : Around
  N : List Str
  s₀ : Shared
  H₀ : Hp
  env : Env
  outer : List Env
  stack : List Env
  ex : List Addr
  fn : Str → Bool
  calm : Bool
  pn : List (Addr × Obj)
  xe : Value → Shared → Prop
noncomputable def frs (l : List Env) : List Addr := l.filterMap (·.frame)
noncomputable abbrev Cx.fs (X : Cx) : List Addr := frs X.outer

noncomputable def Vis (sc : Scope) (x : Str) : Prop := sc.names.lookup x = some .local ∨ sc.names.lookup x = some .cell ∨ sc.names.lookup x = some .free
noncomputable def Loc (sc : Scope) (x : Str) : Prop := sc.names.lookup x = some .local ∨ sc.names.lookup x = some .cell
noncomputable def Look (env : Env) (h : Heap) (m : Str → Option Value) (x : Str) (u : Value) : Prop :=
  (env.kindOf x = some .local ∧ m x = some u) ∨ ((env.kindOf x = some .cell ∨ env.kindOf x = some .free) ∧ ∃ c, env.cells.lookup x = some c ∧ h.IsCell c (some u))

structure Cx.Ok (X : Cx) : Prop where
  mod : Mod X.K X.mg X.base
  kind : X.env.scope.kind = .function
  glob : X.env.globals = mainGlobals
  blt : X.env.builtins = builtinsNs
  above : X.s₀.heap.objs.size ≤ X.env.locals
  inj : ∀ x y c, X.env.cells.lookup x = some c → X.env.cells.lookup y = some c → x = y
  has : ∀ x, (X.env.kindOf x = some .cell ∨ X.env.kindOf x = some .free) → ∃ c, X.env.cells.lookup x = some c
  cab : ∀ x c, X.fn x = true → X.env.cells.lookup x = some c → X.s₀.heap.objs.size ≤ c
  hd : X.calm = true → X.A.handled = none
  frames : X.A.frames = some X.stack
  stk : X.stack = X.outer ∨ (X.stack = X.env :: X.outer ∧ X.env.frame = some X.env.locals)
  exf : ∀ b ∈ X.ex, b ≠ X.env.locals ∧ ∀ x c, X.env.cells.lookup x = some c → c ≠ b
  bs : ∀ b o, X.base.get? b = some o → X.s₀.heap.get? b = some o ∧ X.H₀ b = none
  bsz : X.base.objs.size ≤ X.s₀.heap.objs.size
  noex : ∀ b o, X.base.get? b = some o → b ∉ X.ex
  exfs : ∀ b ∈ X.ex, b ∉ X.fs
  funs : X.s₀.heap.FunFrames X.base X.outer
  frf : ∀ b ∈ X.fs, X.H₀ b = none

structure Inv (X : Cx) (pins : List (Addr × Obj)) (σ : List (Option V)) (H : Hp) (s : Shared) : Prop where
  ok : X.Ok
  os : s.os = X.s₀.os
  bare : AllBare s.gens
  base : Un X.fs X.ex X.H₀ H X.s₀.heap s.heap
  loc : ∃ m, s.heap.Ns X.env.locals m ∧ ∀ (i : Nat) (x : Str) (v : V), X.N[i]? = some x → σ[i]? = some (some v) → Vis X.env.scope x → ∃ u, RelV v u ∧ Look X.env s.heap m x u
  cell : ∀ x c, X.env.cells.lookup x = some c → ∃ v, s.heap.IsCell c v
  free : H X.env.locals = none
  freeC : ∀ x c, X.env.cells.lookup x = some c → H c = none
  pin : ∀ p ∈ X.pn ++ pins, s.heap.get? p.1 = some p.2 ∧ H p.1 = none ∧ p.1 ≠ X.env.locals ∧ p.1 ∉ X.fs ∧ ∀ v, p.2.data ≠ .cell v
  hok : HOk X.prog X.w H s.heap
  len : σ.length = X.N.length

section
variable {X : Cx} {pins : List (Addr × Obj)} {σ : List (Option V)} {H H' : Hp} {s : Shared} {h' : Heap}

theorem Cx.Ok.nofr (ok : X.Ok) {b : Addr} {o : Obj} (e : X.base.get? b = some o) : b ∉ X.fs := fun hb => by
  have := (ok.funs.mem hb).1
  rw [e] at this; cases this
theorem Inv.bs (I : Inv X pins σ H s) : ∀ b o, X.base.get? b = some o → s.heap.get? b = some o ∧ H b = none := fun b o e =>
  ⟨I.base.keep b o (I.ok.bs b o e).1 (I.ok.bs b o e).2 (I.ok.nofr e) (I.ok.noex b o e), I.base.free b o (I.ok.bs b o e).1 (I.ok.bs b o e).2 (I.ok.noex b o e)⟩
theorem Inv.bk (I : Inv X pins σ H s) : ∀ b o, X.base.get? b = some o → s.heap.get? b = some o := fun b o e => (I.bs b o e).1
theorem Inv.mod (I : Inv X pins σ H s) : Mod X.K X.mg X.base := I.ok.mod
theorem Inv.kIn (I : Inv X pins σ H s) : X.K.In s.heap := I.ok.mod.kin.keeps I.bk
theorem Inv.lt (I : Inv X pins σ H s) : X.env.locals < s.heap.objs.size := let ⟨_, hn, _⟩ := I.loc; hn.lt
theorem Inv.sz (I : Inv X pins σ H s) : X.s₀.heap.objs.size ≤ s.heap.objs.size := Nat.le_trans I.ok.above (Nat.le_of_lt I.lt)
theorem Inv.nofs (I : Inv X pins σ H s) {a : Addr} (h : s.heap.objs.size ≤ a) : a ∉ X.fs := fun hb => by
  obtain ⟨_, o, ho, _⟩ := I.ok.funs.mem hb
  exact absurd (Nat.lt_of_lt_of_le (Heap.lt_size ho) (Nat.le_trans I.sz h)) (Nat.lt_irrefl _)
theorem Inv.cne (I : Inv X pins σ H s) : ∀ x c, X.env.cells.lookup x = some c → c ≠ X.env.locals := fun x c e z => by
  obtain ⟨v, o, ho, hd⟩ := I.cell x c e
  obtain ⟨m, ⟨o', es, ep, ho', hd', _⟩, _⟩ := I.loc
  rw [z, ho'] at ho; cases ho; rw [hd'] at hd; cases hd
theorem Inv.funs (I : Inv X pins σ H s) : s.heap.FunFrames X.base X.outer := by
  have all : ∀ (l : List Env), (∀ b ∈ frs l, b ∈ X.fs) → X.s₀.heap.FunFrames X.base l → s.heap.FunFrames X.base l := by
    intro l
    induction l with
    | nil => intro _ _; trivial
    | cons env r ih =>
      intro hs hl
      obtain ⟨hk, ⟨L, o, hf, hn, ho, hd⟩, hr⟩ := hl
      have hL : L ∈ X.fs := hs L (by unfold frs; rw [List.filterMap_cons, hf]; exact List.mem_cons_self)
      obtain ⟨sl, e⟩ := I.base.slot L o ho (I.ok.frf L hL) hL fun z => I.ok.exfs L z hL
      exact ⟨hk, ⟨L, _, hf, hn, e, hd⟩, ih (fun b hb => hs b (by unfold frs; rw [List.filterMap_cons, hf]; exact List.mem_cons_of_mem _ hb)) hr⟩
  exact all X.outer (fun _ hb => hb) I.ok.funs

theorem Inv.stack (I : Inv X pins σ H s) : s.heap.FunFrames X.base X.stack := by
  rcases I.ok.stk with e | ⟨e, hf⟩
  · rw [e]; exact I.funs
  · rw [e]
    obtain ⟨m, hn, _⟩ := I.loc
    refine .cons (by rw [I.ok.kind]; decide) hf hn ?_ I.funs
    exact Heap.get?_none_of_le (Nat.le_trans I.ok.bsz I.ok.above)
theorem Inv.stkSub (I : Inv X pins σ H s) : ∀ b ∈ frs X.stack, b ∈ X.env.locals :: X.fs := fun b hb => by
  rcases I.ok.stk with e | ⟨e, hf⟩
  · rw [e] at hb; exact List.mem_cons_of_mem _ hb
  · rw [e] at hb
    unfold frs at hb
    rw [List.filterMap_cons, hf] at hb
    exact hb
theorem Inv.stkFree (I : Inv X pins σ H s) : ∀ b ∈ frs X.stack, H b = none := fun b hb => by
  rcases List.mem_cons.mp (I.stkSub b hb) with e | hb
  · rw [e]; exact I.free
  · obtain ⟨_, o, ho, _⟩ := I.ok.funs.mem hb
    exact I.base.free b o ho (I.ok.frf b hb) fun z => I.ok.exfs b z hb

theorem Inv.step {g' : Array GenState} {t' : Nat} {d' : Drawn} {ch : List Addr} (I : Inv X pins σ H s)
    (hch : ∀ b ∈ ch, (b ∈ X.ex ∨ X.s₀.heap.objs.size ≤ b) ∧ b ≠ X.env.locals ∧ (∀ x c, X.env.cells.lookup x = some c → c ≠ b) ∧ ∀ p ∈ X.pn ++ pins, p.1 ≠ b)
    (keep : ∀ b o, b ≠ X.env.locals → b ∉ X.fs → b ∉ ch → s.heap.get? b = some o → H b = none → h'.get? b = some o)
    (slot : ∀ b o, b ≠ X.env.locals → b ∈ X.fs → b ∉ ch → s.heap.get? b = some o → H b = none → ∃ sl, h'.get? b = some { o with slots := sl }) (free : ∀ b o, b ∉ ch → s.heap.get? b = some o → H b = none → H' b = none)
    (there : ∀ b o, b ∉ ch → s.heap.get? b = some o → ∃ o', h'.get? b = some o')
    (tups : ∀ b xs, H b = some (.tup xs) → H' b = some (.tup xs)) (frzs : ∀ b o u, H b = some (.frz o u) → H' b = some (.frz o u)) (tbls : ∀ b ps, H b = some (.tbl ps) → ∃ more, H' b = some (.tbl (ps ++ more)))
    (ns : ∀ m, s.heap.Ns X.env.locals m → h'.Ns X.env.locals m) (hok : HOk X.prog X.w H' h') (hg : AllBare g') :
    Inv X pins σ H' { s with heap := h', gens := g', drawn := d', toks := t' } := by
  have neL : ∀ b o, X.s₀.heap.get? b = some o → b ≠ X.env.locals := fun b o e => Nat.ne_of_lt (Nat.lt_of_lt_of_le (Heap.lt_size e) I.ok.above)
  have neC : ∀ b o, X.s₀.heap.get? b = some o → b ∉ X.ex → b ∉ ch := fun b o e hx hb => by
    rcases (hch b hb).1 with z | z
    · exact hx z
    · exact absurd (Nat.lt_of_lt_of_le (Heap.lt_size e) z) (Nat.lt_irrefl _)
  have cellK : ∀ x c, X.env.cells.lookup x = some c → ∀ v, s.heap.IsCell c v → h'.IsCell c v := fun x c e v ⟨o, ho, hd⟩ => by
    have nch : c ∉ ch := fun z => (hch c z).2.2.1 x c e rfl
    by_cases hc : c ∈ X.fs
    · obtain ⟨sl, q⟩ := slot c o (I.cne x c e) hc nch ho (I.freeC x c e)
      exact ⟨_, q, hd⟩
    · exact ⟨o, keep c o (I.cne x c e) hc nch ho (I.freeC x c e), hd⟩
  refine ⟨I.ok, I.os, hg, ⟨fun b o e n hb hx => ?_, fun b o e n hb hx => ?_, fun b o e n hx => ?_, fun b o e hx => ?_, fun b xs e => tups b xs (I.base.tups b xs e), fun b o xs e => frzs b o xs (I.base.frzs b o xs e), fun b ps e => ?_⟩, ?_, fun x c e => ?_, ?_, fun x c e => ?_, fun p hp => ?_, hok, I.len⟩
  · exact keep b o (neL b o e) hb (neC b o e hx) (I.base.keep b o e n hb hx) (I.base.free b o e n hx)
  · obtain ⟨sl, e1⟩ := I.base.slot b o e n hb hx
    obtain ⟨sl', e2⟩ := slot b _ (neL b o e) hb (neC b o e hx) e1 (I.base.free b o e n hx)
    exact ⟨sl', e2⟩
  · obtain ⟨o', e1⟩ := I.base.there b o e hx
    exact free b o' (neC b o e hx) e1 (I.base.free b o e n hx)
  · obtain ⟨o', e1⟩ := I.base.there b o e hx
    exact there b o' (neC b o e hx) e1
  · obtain ⟨m1, e1⟩ := I.base.tbls b ps e
    obtain ⟨m2, e2⟩ := tbls b _ e1
    exact ⟨m1 ++ m2, by rw [e2, Array.append_assoc]⟩
  · obtain ⟨m, hn, hl⟩ := I.loc
    refine ⟨m, ns m hn, fun i x v e1 e2 e3 => ?_⟩
    obtain ⟨u, r, l⟩ := hl i x v e1 e2 e3
    refine ⟨u, r, ?_⟩
    rcases l with l | ⟨k, c, e, z⟩
    · exact .inl l
    · exact .inr ⟨k, c, e, cellK x c e _ z⟩
  · obtain ⟨v, z⟩ := I.cell x c e
    exact ⟨v, cellK x c e v z⟩
  · obtain ⟨m, ⟨o, _, _, ho, _⟩, _⟩ := I.loc
    exact free _ o (fun z => (hch _ z).2.1 rfl) ho I.free
  · obtain ⟨v, o, ho, hd⟩ := I.cell x c e
    exact free c o (fun z => (hch c z).2.2.1 x c e rfl) ho (I.freeC x c e)
  · obtain ⟨e, n, ne, nf, d⟩ := I.pin p hp
    have nch : p.1 ∉ ch := fun z => (hch p.1 z).2.2.2 p hp rfl
    exact ⟨keep p.1 p.2 ne nf nch e n, free p.1 p.2 nch e n, ne, nf, d⟩
theorem Inv.un {t' : Nat} (I : Inv X pins σ H s) (u : Un X.fs [] H H' s.heap h') (hok : HOk X.prog X.w H' h') : Inv X pins σ H' { s with heap := h', toks := t' } := by
  obtain ⟨m, ⟨o, es, ep, ho, r⟩, _⟩ := id I.loc
  obtain ⟨sl, hL⟩ := u.any ho I.free (by simp)
  exact I.step (g' := s.gens) (d' := s.drawn) (ch := []) (fun _ z => nomatch z) (fun b o _ hb _ e n => u.keep b o e n hb (by simp)) (fun b o _ hb _ e n => u.slot b o e n hb (by simp)) (fun b o _ e n => u.free b o e n (by simp)) (fun b o _ e => u.there b o e (by simp)) u.tups u.frzs u.tbls (fun m' hm => by
    obtain ⟨o', es', ep', ho', r'⟩ := hm
    rw [ho] at ho'; cases ho'
    exact ⟨_, es', ep', hL, r'⟩) hok I.bare
theorem Inv.call {g' : Array GenState} {t' : Nat} {d' : Drawn} {ch : List Addr} (I : Inv X pins σ H s) (u : Un (frs X.stack) ch H H' s.heap h') (hok : HOk X.prog X.w H' h') (hg : AllBare g')
    (hch : ∀ b ∈ ch, (b ∈ X.ex ∨ X.s₀.heap.objs.size ≤ b) ∧ b ≠ X.env.locals ∧ (∀ x c, X.env.cells.lookup x = some c → c ≠ b) ∧ ∀ p ∈ X.pn ++ pins, p.1 ≠ b) :
    Inv X pins σ H' { s with heap := h', gens := g', drawn := d', toks := t' } := by
  obtain ⟨m, ⟨o, es, ep, ho, r⟩, _⟩ := id I.loc
  obtain ⟨sl, hL⟩ := u.any ho I.free fun z => (hch _ z).2.1 rfl
  exact I.step (ch := ch) hch (fun b o hL hb hc e n => u.keep b o e n (fun z => (List.mem_cons.mp (I.stkSub b z)).elim hL hb) hc) (fun b o _ _ hc e n => u.any e n hc) (fun b o hc e n => u.free b o e n hc) (fun b o hc e => u.there b o e hc) u.tups u.frzs u.tbls (fun m' hm => by
    obtain ⟨o', es', ep', ho', r'⟩ := hm
    rw [ho] at ho'; cases ho'
    exact ⟨_, es', ep', hL, r'⟩) hok hg
theorem Inv.turned {t' : Nat} {it : Addr} (I : Inv X pins σ H s) (k : ∀ b o, b ≠ it → s.heap.get? b = some o → h'.get? b = some o) (hn : H it = none) (hL : it ≠ X.env.locals)
    (h1 : it ∈ X.ex ∨ X.s₀.heap.objs.size ≤ it) (h2 : ∀ x c, X.env.cells.lookup x = some c → c ≠ it) (h3 : ∀ p ∈ X.pn ++ pins, p.1 ≠ it) : Inv X pins σ H { s with heap := h', toks := t' } := by
  have nit : ∀ b u, H b = some u → b ≠ it := fun b u e z => by rw [z, hn] at e; cases e
  refine I.step (g' := s.gens) (d' := s.drawn) (ch := [it]) (fun b hb => ?_) (fun b o _ _ hc e _ => k b o (fun z => hc (by simp [z])) e) (fun b o _ _ hc e _ => ⟨o.slots, k b o (fun z => hc (by simp [z])) e⟩) (fun _ _ _ _ n => n)
    (fun b o hc e => ⟨o, k b o (fun z => hc (by simp [z])) e⟩) (fun _ _ e => e) (fun _ _ _ e => e) (fun b ps e => ⟨#[], by rw [e]; simp⟩) (fun m hm => ?_) (fun b u e => ?_) I.bare
  · have e : b = it := by simpa using hb
    subst e
    exact ⟨h1, hL, h2, h3⟩
  · obtain ⟨o, es, ep, ho, r⟩ := hm
    exact ⟨o, es, ep, k _ o (Ne.symm hL) ho, r⟩
  · refine (I.hok b u e).stay (fun c v hc q => k c v ?_ q) (fun _ q => q) fun _ _ q => q
    rcases hc with z | z
    · rw [z]; exact nit b u e
    · exact nit c _ z
theorem Inv.tok (I : Inv X pins σ H s) (t : Nat) : Inv X pins σ H { s with toks := t } := I.un (h' := s.heap) (t' := t) Un.refl I.hok
theorem Inv.kept {t' : Nat} (I : Inv X pins σ H s) (k : ∀ b u, s.heap.get? b = some u → h'.get? b = some u) : Inv X pins σ H { s with heap := h', toks := t' } := I.un (Un.kept k) (I.hok.kept k)
theorem Inv.laid {a : Addr} {o : HO} {t' : Nat} (I : Inv X pins σ H s) (k : ∀ b u, s.heap.get? b = some u → h'.get? b = some u) (hp : s.heap.objs.size ≤ a) (new : ObjOk X.prog X.w (upd H a o) h' a o) :
    Inv X pins σ (upd H a o) { s with heap := h', toks := t' } := I.un (Un.laid k hp (I.hok.fresh hp)) (I.hok.laid k hp new)
theorem Inv.write {x e : Addr} {o : HO} {t' : Nat} (I : Inv X pins σ H s) (mu : Mut (H x)) (he : e = x ∨ H e = some (.own x)) (k : ∀ b u, b ≠ e → s.heap.get? b = some u → h'.get? b = some u) (heo : ∃ u, h'.get? e = some u)
    (new : ObjOk X.prog X.w (upd H x o) h' x o) : Inv X pins σ (upd H x o) { s with heap := h', toks := t' } := I.un (Un.write mu he k heo) (I.hok.write mu he k heo new)
theorem Inv.weak {σ' : List (Option V)} (I : Inv X pins σ H s) (hl : σ'.length = σ.length) (w : ∀ (i : Nat) v, σ'[i]? = some (some v) → σ[i]? = some (some v)) : Inv X pins σ' H s :=
  ⟨I.ok, I.os, I.bare, I.base, let ⟨m, hn, hl'⟩ := I.loc; ⟨m, hn, fun i x v e1 e2 e3 => hl' i x v e1 (w i v e2) e3⟩, I.cell, I.free, I.freeC, I.pin, I.hok, hl.trans I.len⟩
theorem Inv.pins_of {pins' : List (Addr × Obj)} (I : Inv X pins σ H s) (h : ∀ p ∈ pins', s.heap.get? p.1 = some p.2 ∧ H p.1 = none ∧ p.1 ≠ X.env.locals ∧ p.1 ∉ X.fs ∧ ∀ v, p.2.data ≠ .cell v) : Inv X pins' σ H s :=
  ⟨I.ok, I.os, I.bare, I.base, I.loc, I.cell, I.free, I.freeC, fun p hp => (List.mem_append.mp hp).elim (fun z => I.pin p (List.mem_append_left _ z)) (h p), I.hok, I.len⟩

theorem nodup_ix {N : List Str} (hN : N.Nodup) {i j : Nat} {x : Str} (a : N[i]? = some x) (b : N[j]? = some x) : i = j := by
  obtain ⟨h1, e1⟩ := List.getElem?_eq_some_iff.mp a
  obtain ⟨h2, e2⟩ := List.getElem?_eq_some_iff.mp b
  exact (List.getElem_inj hN).mp (e1.trans e2.symm)

theorem store_ok2 {M : Model} {A : Around} {E : Value → Shared → Prop} {i : Nat} {x : Str} {v : V} {u : Value} {Q : Unit → Shared → Prop} (I : Inv X pins σ H s) (hN : X.N.Nodup) (hi : X.N[i]? = some x) (hx : Loc X.env.scope x) (r : RelV v u)
    (h : ∀ s', Inv X pins (σ.set i (some v)) H s' → (∃ a, Heap.SameBut a s.heap s'.heap ∧ (a = X.env.locals ∨ X.env.cells.lookup x = some a)) → Q () s') (hf : X.fn x = true ∨ X.env.scope.names.lookup x = some .local := by first | exact .inl rfl | exact .inr rfl | assumption) : wpAny M A (storeName X.env x u) Q E s := by
  obtain ⟨m, hn, hl⟩ := id I.loc
  have hcls : (X.env.scope.kind == .class || (X.env.scope.kind == .module && X.env.locals != X.env.globals)) = false := by rw [I.ok.kind]; rfl
  have hiσ : i < σ.length := by rw [I.len]; exact (List.getElem?_eq_some_iff.mp hi).1
  have cne := I.cne
  have tracked : ∀ {a : Addr} {h' : Heap}, (∃ o, s.heap.get? a = some o ∧ H a = none) → Heap.SameBut a s.heap h' → HOk X.prog X.w H h' := fun {a h'} ha hs b ob e => by
    obtain ⟨_, _, hfree⟩ := ha
    refine (I.hok b ob e).stay (fun c w' hc q => (hs.2 c ?_).trans q) (fun _ q => q) fun _ _ q => q
    rintro rfl
    rcases hc with rfl | hc
    · rw [hfree] at e; cases e
    · rw [hfree] at hc; cases hc
  rcases hx with hk | hk
  · refine wpAny_storeName_local hk hn (fun h' hn' hs => ?_) hcls
    obtain ⟨oL, _, _, hoL, _⟩ := id hn
    refine h _ ⟨I.ok, I.os, I.bare, ⟨fun b o e n hb hx => ?_, fun b o e n hb hx => ?_, I.base.free, fun b o e hx => ?_, I.base.tups, I.base.frzs, I.base.tbls⟩, ⟨_, hn', fun j y v' e1 e2 e3 => ?_⟩, fun y c e => ?_, I.free, I.freeC, fun p hp => ?_, tracked ⟨oL, hoL, I.free⟩ hs, by simpa using I.len⟩ ⟨_, hs, .inl rfl⟩
    · exact (hs.2 b (Nat.ne_of_lt (Nat.lt_of_lt_of_le (Heap.lt_size e) I.ok.above))).trans (I.base.keep b o e n hb hx)
    · obtain ⟨sl, e1⟩ := I.base.slot b o e n hb hx
      exact ⟨sl, (hs.2 b (Nat.ne_of_lt (Nat.lt_of_lt_of_le (Heap.lt_size e) I.ok.above))).trans e1⟩
    · obtain ⟨o', e1⟩ := I.base.there b o e hx
      exact ⟨o', (hs.2 b (Nat.ne_of_lt (Nat.lt_of_lt_of_le (Heap.lt_size e) I.ok.above))).trans e1⟩
    · by_cases hj : j = i
      · subst hj
        rw [hi] at e1; cases e1
        rw [List.getElem?_set_self hiσ] at e2
        cases e2
        exact ⟨u, r, .inl ⟨hk, by simp⟩⟩
      · rw [List.getElem?_set_ne (Ne.symm hj)] at e2
        obtain ⟨u', r', q⟩ := hl j y v' e1 e2 e3
        refine ⟨u', r', ?_⟩
        rcases q with ⟨k, e⟩ | ⟨k, c, e, z⟩
        · refine .inl ⟨k, ?_⟩
          have : y ≠ x := fun e => hj (nodup_ix hN e1 (e ▸ hi))
          simp [this, e]
        · exact .inr ⟨k, c, e, z.sameBut hs (cne y c e)⟩
    · obtain ⟨w', z⟩ := I.cell y c e
      exact ⟨w', z.sameBut hs (cne y c e)⟩
    · obtain ⟨e, n, ne, nf, d⟩ := I.pin p hp
      exact ⟨(hs.2 p.1 ne).trans e, n, ne, nf, d⟩
  · have hfn : X.fn x = true := by
      rcases hf with z | z
      · exact z
      · rw [z] at hk; cases hk
    obtain ⟨c, hc⟩ := I.ok.has x (.inl hk)
    obtain ⟨w', z⟩ := I.cell x c hc
    refine wpAny_storeName_cell I.ok.kind hk hc z (fun h' hc' hs => ?_)
    obtain ⟨oc, hoc, hocd⟩ := id z
    refine h { s with heap := h' } ⟨I.ok, I.os, I.bare, ⟨fun b o e n hb hx => ?_, fun b o e n hb hx => ?_, I.base.free, fun b o e hx => ?_, I.base.tups, I.base.frzs, I.base.tbls⟩, ⟨m, hn.sameBut hs (Ne.symm (cne x c hc)), fun j y v' e1 e2 e3 => ?_⟩, fun y c' e => ?_, I.free, I.freeC, fun p hp => ?_, tracked ⟨oc, hoc, I.freeC x c hc⟩ hs, by simpa using I.len⟩ ⟨c, hs, .inr hc⟩
    · exact (hs.2 b (Nat.ne_of_lt (Nat.lt_of_lt_of_le (Heap.lt_size e) (I.ok.cab x c hfn hc)))).trans (I.base.keep b o e n hb hx)
    · obtain ⟨sl, e1⟩ := I.base.slot b o e n hb hx
      exact ⟨sl, (hs.2 b (Nat.ne_of_lt (Nat.lt_of_lt_of_le (Heap.lt_size e) (I.ok.cab x c hfn hc)))).trans e1⟩
    · obtain ⟨o', e1⟩ := I.base.there b o e hx
      exact ⟨o', (hs.2 b (Nat.ne_of_lt (Nat.lt_of_lt_of_le (Heap.lt_size e) (I.ok.cab x c hfn hc)))).trans e1⟩
    · by_cases hj : j = i
      · subst hj
        rw [hi] at e1; cases e1
        rw [List.getElem?_set_self hiσ] at e2
        cases e2
        exact ⟨u, r, .inr ⟨.inl hk, c, hc, hc'⟩⟩
      · rw [List.getElem?_set_ne (Ne.symm hj)] at e2
        obtain ⟨u', r', q⟩ := hl j y v' e1 e2 e3
        refine ⟨u', r', ?_⟩
        rcases q with q | ⟨k, c', e, z'⟩
        · exact .inl q
        · refine .inr ⟨k, c', e, z'.sameBut hs ?_⟩
          rintro rfl
          exact hj (nodup_ix hN e1 (I.ok.inj _ _ _ e hc ▸ hi))
    · by_cases hcc : c' = c
      · subst hcc; exact ⟨_, hc'⟩
      · obtain ⟨w2, z2⟩ := I.cell y c' e
        exact ⟨w2, z2.sameBut hs hcc⟩
    · obtain ⟨e, n, ne, nf, d⟩ := I.pin p hp
      refine ⟨(hs.2 p.1 ?_).trans e, n, ne, nf, d⟩
      intro q
      rw [q, hoc] at e
      have q' : oc = p.2 := Option.some.inj e
      exact d w' (by rw [← q']; exact hocd)
theorem store_ok {M : Model} {A : Around} {E : Value → Shared → Prop} {i : Nat} {x : Str} {v : V} {u : Value} {Q : Unit → Shared → Prop} (I : Inv X pins σ H s) (hN : X.N.Nodup) (hi : X.N[i]? = some x) (hx : Loc X.env.scope x) (r : RelV v u)
    (h : ∀ s', Inv X pins (σ.set i (some v)) H s' → Q () s') (hf : X.fn x = true ∨ X.env.scope.names.lookup x = some .local := by first | exact .inl rfl | exact .inr rfl | assumption) : wpAny M A (storeName X.env x u) Q E s :=
  store_ok2 I hN hi hx r (fun s' I' _ => h s' I') hf
theorem Inv.call' {s' : Shared} {ch : List Addr} (I : Inv X pins σ H s) (ho : s'.os = s.os) (u : Un (frs X.stack) ch H H' s.heap s'.heap) (hok : HOk X.prog X.w H' s'.heap) (hg : AllBare s'.gens)
    (hch : ∀ b ∈ ch, (b ∈ X.ex ∨ X.s₀.heap.objs.size ≤ b) ∧ b ≠ X.env.locals ∧ (∀ x c, X.env.cells.lookup x = some c → c ≠ b) ∧ ∀ p ∈ X.pn ++ pins, p.1 ≠ b) : Inv X pins σ H' s' := by
  obtain ⟨h', g', d', t', o'⟩ := s'
  have e : o' = s.os := ho
  subst e
  exact I.call (g' := g') (t' := t') (d' := d') u hok hg hch
end

noncomputable abbrev XK := Value → Option Addr → Hp → Prop
noncomputable abbrev St := List (Option V)
noncomputable abbrev VK := V → Hp → Prop
noncomputable abbrev TE := St → Hp → VK → Prop
noncomputable abbrev TT := St → Hp → (Bool → Hp → Prop) → Prop
noncomputable abbrev TA := St → Hp → (List V → Hp → Prop) → Prop
structure Ends where
  nx : St → Hp → Prop
  rt : VK
  bk : St → Hp → Prop := fun _ _ => False
  ct : St → Hp → Prop := fun _ _ => False
noncomputable abbrev TS := Ends → St → Hp → Prop

noncomputable def EP (X : Cx) (pins : List (Addr × Obj)) (σ : St) (Q : VK) (u : Value) (s' : Shared) : Prop := ∃ v H', Inv X pins σ H' s' ∧ RelV v u ∧ Q v H'
noncomputable def TP (X : Cx) (pins : List (Addr × Obj)) (σ : St) (Q : Bool → Hp → Prop) (b : Bool) (s' : Shared) : Prop := ∃ H', Inv X pins σ H' s' ∧ Q b H'
noncomputable def AP (X : Cx) (pins : List (Addr × Obj)) (σ : St) (Q : List V → Hp → Prop) (us : List Value) (s' : Shared) : Prop := ∃ vs H', Inv X pins σ H' s' ∧ Vals vs us ∧ Q vs H'
noncomputable def SP (X : Cx) (pins : List (Addr × Obj)) (D : Ends) (f : Flow) (s' : Shared) : Prop :=
  match f with
  | .next => ∃ σ' H', Inv X pins σ' H' s' ∧ D.nx σ' H'
  | .brk => ∃ σ' H', Inv X pins σ' H' s' ∧ D.bk σ' H'
  | .cont => ∃ σ' H', Inv X pins σ' H' s' ∧ D.ct σ' H'
  | .ret u => ∃ v σ' H', Inv X pins σ' H' s' ∧ RelV v u ∧ D.rt v H'

noncomputable def PE (X : Cx) (e : Expr) (t : TE) : Prop :=
  ∀ (pins : List (Addr × Obj)) (s : Shared) (σ : St) (H : Hp) (Q : VK), Inv X pins σ H s → t σ H Q → wpAny (model X.prog X.w) X.A (eval e X.env) (EP X pins σ Q) X.xe s
noncomputable def PT (X : Cx) (e : Expr) (t : TT) : Prop :=
  ∀ (pins : List (Addr × Obj)) (s : Shared) (σ : St) (H : Hp) (Q : Bool → Hp → Prop), Inv X pins σ H s → t σ H Q → wpAny (model X.prog X.w) X.A (isTrue e X.env (eval e X.env)) (TP X pins σ Q) X.xe s
noncomputable def PW (X : Cx) (e : Expr) (t : TT) : Prop :=
  ∀ (whole : Sem Value) (pins : List (Addr × Obj)) (s : Shared) (σ : St) (H : Hp) (Q : Bool → Hp → Prop), Inv X pins σ H s → t σ H Q → wpAny (model X.prog X.w) X.A (isTrue e X.env whole) (TP X pins σ Q) X.xe s
theorem PW.pt {X : Cx} {e : Expr} {t : TT} (h : PW X e t) : PT X e t := h _
noncomputable def PA (X : Cx) (es : List Expr) (t : TA) : Prop :=
  ∀ (pos : Pos) (pins : List (Addr × Obj)) (s : Shared) (σ : St) (H : Hp) (Q : List V → Hp → Prop), Inv X pins σ H s → t σ H Q → wpAny (model X.prog X.w) X.A (spliced (backTo pos (starEach es X.env))) (AP X pins σ Q) X.xe s
noncomputable def PS (X : Cx) (st : Stmt) (t : TS) : Prop :=
  ∀ (pins : List (Addr × Obj)) (s : Shared) (σ : St) (H : Hp) (D : Ends), Inv X pins σ H s → t D σ H → wpAny (model X.prog X.w) X.A (exec st X.env) (SP X pins D) X.xe s
noncomputable def PSs (X : Cx) (st : List Stmt) (t : TS) : Prop :=
  ∀ (pins : List (Addr × Obj)) (s : Shared) (σ : St) (H : Hp) (D : Ends), Inv X pins σ H s → t D σ H → wpAny (model X.prog X.w) X.A (execs st X.env) (SP X pins D) X.xe s
theorem thn {α : Type} {t : Sem α} {Q Q' : α → Shared → Prop} {M : Model} {A : Around} {E : Value → Shared → Prop} {s : Shared} (h : wpAny M A t Q E s) (hQ : ∀ a s, Q a s → Q' a s) : wpAny M A t Q' E s := wpAny_mono h hQ fun _ _ x => x
end L2

namespace L2
open PySem PySem.Spec PyProof.Rows
section
variable {X : Cx}


noncomputable def tVar (i : Nat) : TE := fun σ H Q => ∃ v, σ[i]? = some (some v) ∧ Q v H
noncomputable def tC (v : V) : TE := fun _ H Q => Q v H
theorem pe_var {i : Nat} {x : Str} {pos : Pos} (hN : X.N[i]? = some x) (hv : Vis X.env.scope x) (hd : (x == ("__debug__" : Str)) = false := by decide) (hcd : (x == ("__classdict__" : Str)) = false := by decide) : PE X (.Name x pos) (tVar i) := by
  intro pins s σ H Q I h
  obtain ⟨v, e, h⟩ := h
  obtain ⟨m, hn, hl⟩ := I.loc
  obtain ⟨u, r, l⟩ := hl i x v hN e hv
  have fin : EP X pins σ Q u s := ⟨v, H, I, r, h⟩
  rcases l with ⟨hk, hm⟩ | ⟨hk, c, hc, hcell⟩
  · exact wpAny_Name (wpAny_loadName_local I.ok.kind hk hn hm fin) hd
  · rcases hk with hk | hk
    · exact wpAny_Name (wpAny_loadName_cell I.ok.kind hk hc hcell fin) hd
    · exact wpAny_Name (wpAny_loadName_free I.ok.kind hk hc hcell fin hcd) hd
theorem pe_int {i j pos} : PE X (.Constant (.int i) j pos) (tC (.int i)) := fun _ _ _ H _ I h => wpAny_Constant_int ⟨.int i, H, I.tok _, ⟨_, rfl⟩, h⟩
theorem pe_bl {b j pos} : PE X (.Constant (.bool b) j pos) (tC (.bl b)) := fun _ _ _ H _ I h => Constant_bool ⟨.bl b, H, I, rfl, h⟩
theorem pe_non {j pos} : PE X (.Constant .none j pos) (tC .non) := fun _ _ _ H _ I h => Constant_none ⟨.non, H, I, rfl, h⟩

noncomputable def Gl (X : Cx) (x : Str) : Prop := X.env.kindOf x = some .globalImplicit
theorem ld_glob {E : Value → Shared → Prop} {pins : List (Addr × Obj)} {s : Shared} {σ : St} {H : Hp} {x : Str} {u : Value} {pos : Pos} {Q : Value → Shared → Prop} (I : Inv X pins σ H s) (hg : Gl X x) (hm : X.mg x = some u) (h : Q u s)
    (hd : (x == ("__debug__" : Str)) = false := by decide) : wpAny (model X.prog X.w) X.A (eval (.Name x pos) X.env) Q E s :=
  Calls.Name_function_global I.ok.kind hg (Calls.loadGlobal_global (by rw [I.ok.glob]; exact I.mod.glob.keeps I.bk) hm h) hd
theorem ld_blt {E : Value → Shared → Prop} {pins : List (Addr × Obj)} {s : Shared} {σ : St} {H : Hp} {x : Str} {u : Value} {pos : Pos} {Q : Value → Shared → Prop} (I : Inv X pins σ H s) (hg : Gl X x) (hm : X.mg x = none) (hv : bootBuiltins x = some u) (h : Q u s)
    (hn : x ≠ "__name__" := by decide) (hd : (x == ("__debug__" : Str)) = false := by decide) : wpAny (model X.prog X.w) X.A (eval (.Name x pos) X.env) Q E s := by
  obtain ⟨mb, h1, h2⟩ := I.mod.blt
  exact Calls.Name_function_global I.ok.kind hg (Calls.loadGlobal_builtin (by rw [I.ok.glob]; exact I.mod.glob.keeps I.bk) hm (by rw [I.ok.blt]; exact h1.keeps I.bk) ((h2 x hn).trans hv) h) hd
theorem pe_glob {x : Str} {v : V} {u : Value} {pos : Pos} (hg : Gl X x) (hm : X.mg x = some u) (r : RelV v u) (hd : (x == ("__debug__" : Str)) = false := by decide) : PE X (.Name x pos) (tC v) :=
  fun _ _ _ H _ I h => ld_glob I hg hm ⟨v, H, I, r, h⟩ hd
theorem pe_bltn {x : Str} {v : V} {u : Value} {pos : Pos} (hg : Gl X x) (hm : X.mg x = none) (hv : bootBuiltins x = some u) (r : RelV v u) (hn : x ≠ "__name__" := by decide) (hd : (x == ("__debug__" : Str)) = false := by decide) : PE X (.Name x pos) (tC v) :=
  fun _ _ _ H _ I h => ld_blt I hg hm hv ⟨v, H, I, r, h⟩ hn hd

noncomputable def t2I (ta tb : TE) (k : Int → Int → Hp → Prop) : St → Hp → Prop := fun σ H => ta σ H fun x H1 => tb σ H1 fun y H2 => ∃ i j, x = .int i ∧ y = .int j ∧ k i j H2
noncomputable def tAdd (ta tb : TE) : TE := fun σ H Q => t2I ta tb (fun i j H2 => Q (.int (i + j)) H2) σ H
noncomputable def tSub (ta tb : TE) : TE := fun σ H Q => t2I ta tb (fun i j H2 => Q (.int (i - j)) H2) σ H
noncomputable def tMul (ta tb : TE) : TE := fun σ H Q => t2I ta tb (fun i j H2 => (-(2 ^ 64) < i ∧ i < 2 ^ 64) ∧ Q (.int (i * j)) H2) σ H
variable {a b : Expr} {ta tb : TE} {pos : Pos}

noncomputable def PC (X : Cx) (op : CmpOp) (a b : Expr) (t : TE) : Prop :=
  ∀ (pins : List (Addr × Obj)) (s : Shared) (σ : St) (H : Hp) (Q : VK), Inv X pins σ H s → t σ H Q →
    wpAny (model X.prog X.w) X.A (eval a X.env) (fun v s₁ => wpAny (model X.prog X.w) X.A (eval b X.env) (fun u s₂ => wpAny (model X.prog X.w) X.A (compareOp op v u) (EP X pins σ Q) X.xe s₂) X.xe s₁) X.xe s
noncomputable def tCmp (p : Int → Int → Bool) (ta tb : TE) : TE := fun σ H Q => t2I ta tb (fun i j H2 => Q (.bl (p i j)) H2) σ H
noncomputable abbrev tLt : TE → TE → TE := tCmp fun i j => decide (i < j)
noncomputable abbrev tLe : TE → TE → TE := tCmp fun i j => decide (i ≤ j)
noncomputable abbrev tGt : TE → TE → TE := tCmp fun i j => decide (j < i)
noncomputable abbrev tGe : TE → TE → TE := tCmp fun i j => decide (j ≤ i)
noncomputable abbrev tEqI : TE → TE → TE := tCmp fun i j => decide (i = j)
noncomputable abbrev tNeI : TE → TE → TE := tCmp fun i j => !decide (i = j)
noncomputable def tIsN (ta : TE) : TE := fun σ H Q => ta σ H fun x H1 => Q (.bl (decide (x = .non))) H1
noncomputable def tNotN (ta : TE) : TE := fun σ H Q => ta σ H fun x H1 => Q (.bl (!decide (x = .non))) H1
noncomputable def tB (t : TE) : TT := fun σ H Q => t σ H fun x H1 => ∃ c, x = .bl c ∧ Q c H1
theorem pt_val {e : Expr} {t : TE} (h : PE X e t) (he : ∀ whole, isTrue e X.env whole = (do let v ← whole; standAt e.pos; holding [v] (truthy v)) := by intro _; rfl) : PT X e (tB t) := by
  intro pins s σ H Q I hw
  refine isTrue_plain (thn (h pins s σ H _ I hw) fun v s1 ⟨x, H1, I1, r1, q1⟩ => ?_) (he _)
  obtain ⟨d, rfl, q⟩ := q1
  cases r1
  exact wpAny_truthy_bool ⟨H1, I1, q⟩

variable {tA tB' : TT} {rest : List Expr}
noncomputable def tAnd (t u : TT) : TT := fun σ H Q => t σ H fun c H1 => if c = true then u σ H1 Q else Q false H1
noncomputable def tOr (t u : TT) : TT := fun σ H Q => t σ H fun c H1 => if c = true then Q true H1 else u σ H1 Q
noncomputable def tNot (t : TT) : TT := fun σ H Q => t σ H fun c H1 => Q (!c) H1
theorem pw_and1 (ha : PT X a tA) : PW X (.BoolOp .And [a] pos) tA := by
  intro wh pins s σ H Q I h
  refine isTrue_and (thn (ha pins s σ H Q I h) fun c s1 e => ?_)
  cases c with
  | true => exact isTrue_and_nil e
  | false => exact e
theorem pw_or1 (ha : PT X a tA) : PW X (.BoolOp .Or [a] pos) tA := by
  intro wh pins s σ H Q I h
  refine isTrue_or (thn (ha pins s σ H Q I h) fun c s1 e => ?_)
  cases c with
  | false => exact isTrue_or_nil e
  | true => exact e
theorem pw_and (ha : PT X a tA) (hb : PW X (.BoolOp .And (b :: rest) pos) tB') : PW X (.BoolOp .And (a :: b :: rest) pos) (tAnd tA tB') := by
  intro wh pins s σ H Q I h
  refine isTrue_and (thn (ha pins s σ H _ I h) fun c s1 ⟨H1, I1, q1⟩ => ?_)
  cases c with
  | true => exact hb wh pins s1 σ H1 Q I1 q1
  | false => exact ⟨H1, I1, q1⟩
theorem pw_or (ha : PT X a tA) (hb : PW X (.BoolOp .Or (b :: rest) pos) tB') : PW X (.BoolOp .Or (a :: b :: rest) pos) (tOr tA tB') := by
  intro wh pins s σ H Q I h
  refine isTrue_or (thn (ha pins s σ H _ I h) fun c s1 ⟨H1, I1, q1⟩ => ?_)
  cases c with
  | true => exact ⟨H1, I1, q1⟩
  | false => exact hb wh pins s1 σ H1 Q I1 q1
theorem pt_not (ha : PT X a tA) : PT X (.UnaryOp .Not a pos) (tNot tA) := by
  intro pins s σ H Q I h
  exact isTrue_not (ha pins s σ H (fun c H1 => Q (!c) H1) I h)
noncomputable def tAndV (ta tb : TE) : TE := fun σ H Q => ta σ H fun x H1 => ∃ c, x = .bl c ∧ if c = true then tb σ H1 Q else Q (.bl false) H1
noncomputable def tOrV (ta tb : TE) : TE := fun σ H Q => ta σ H fun x H1 => ∃ c, x = .bl c ∧ if c = true then Q (.bl true) H1 else tb σ H1 Q
noncomputable def tNotV (ta : TE) : TE := fun σ H Q => ta σ H fun x H1 => ∃ c, x = .bl c ∧ Q (.bl (!c)) H1
theorem pe_one {op} {t : TE} (h : PE X a t) : PE X (.BoolOp op [a] pos) t := fun pins s σ H Q I hw => BoolOp_one (h pins s σ H Q I hw)
theorem pe_and (ha : PE X a ta) (hb : PE X (.BoolOp .And (b :: rest) pos) tb) : PE X (.BoolOp .And (a :: b :: rest) pos) (tAndV ta tb) := by
  intro pins s σ H Q I h
  refine BoolOp_and (thn (ha pins s σ H _ I h) fun v s1 ⟨x, H1, I1, r1, q1⟩ => ?_)
  obtain ⟨c, rfl, q1⟩ := q1
  cases r1
  refine wpAny_truthy_bool ?_
  cases c with
  | true => exact hb pins s1 σ H1 Q I1 q1
  | false => exact ⟨.bl false, H1, I1, rfl, q1⟩
theorem pe_not (ha : PE X a ta) : PE X (.UnaryOp .Not a pos) (tNotV ta) := by
  intro pins s σ H Q I h
  refine UnaryOp_ (thn (ha pins s σ H _ I h) fun v s1 ⟨x, H1, I1, r1, q1⟩ => ?_)
  obtain ⟨c, rfl, q1⟩ := q1
  cases r1
  exact not_of (wpAny_truthy_bool ⟨.bl (!c), H1, I1, rfl, q1⟩)
noncomputable def tIf (t : TT) (ta tb : TE) : TE := fun σ H Q => t σ H fun c H1 => if c = true then ta σ H1 Q else tb σ H1 Q
end
end L2

namespace L2
open PySem PySem.Spec PyProof.Rows

noncomputable def SqL (K : PySem.W.Frag) (H : Hp) (a : Addr) (xs : List V) : Prop :=
  Rd H a (.lst xs) ∨
    ∃ (o : Obj) (its : Array Value) (n : Nat), K.lookup a = some o ∧ o.cls = .type "list" ∧ o.dict = none ∧ o.data = .seq its n ∧ its.size ≤ sizeLine ∧ Vals xs its.toList
noncomputable def SqT (K : PySem.W.Frag) (H : Hp) (a : Addr) (xs : List V) : Prop :=
  Rd H a (.tup xs) ∨
    ∃ (o : Obj) (its : Array Value) (n : Nat), K.lookup a = some o ∧ o.cls = .type "tuple" ∧ o.data = .seq its n ∧ its.size ≤ sizeLine ∧ Vals xs its.toList
noncomputable def absV : Value → Option V
  | .none => some .non
  | .bool b => some (.bl b)
  | .int i _ => some (.int i)
  | .str x _ => some (.str x)
  | .bytes b _ => some (.byt b)
  | .float b _ => some (.flt b)
  | .ref a => some (.ref a)
  | .type n => some (.ty n)
  | _ => none
theorem RelV.abs {x : V} {u : Value} (r : RelV x u) : absV u = some x := by
  cases x with
  | non => cases r; rfl
  | bl _ => cases r; rfl
  | int _ => obtain ⟨t, rfl⟩ := r; rfl
  | str _ => obtain ⟨t, rfl⟩ := r; rfl
  | byt _ => obtain ⟨t, rfl⟩ := r; rfl
  | flt _ => obtain ⟨t, rfl⟩ := r; rfl
  | ref _ => cases r; rfl
  | ty _ => cases r; rfl
theorem RelV.inj {x y : V} {u : Value} (r : RelV x u) (q : RelV y u) : x = y := Option.some.inj (r.abs.symm.trans q.abs)
theorem Vals.inj : ∀ {xs ys : List V} {us : List Value}, Vals xs us → Vals ys us → xs = ys
  | _, _, _, .nil, .nil => rfl
  | _, _, _, .cons r t, .cons r' t' => by rw [r.inj r', Vals.inj t t']
section
variable {X : Cx} {pins : List (Addr × Obj)} {σ : St} {H : Hp} {s : Shared} {a : Addr} {xs ys : List V}
theorem SqL.of {K : PySem.W.Frag} (h : H a = some (.lst xs)) : SqL K H a xs := .inl (.inl h)
theorem SqT.of {K : PySem.W.Frag} (h : H a = some (.tup xs)) : SqT K H a xs := .inl (.inl h)
theorem Inv.list (I : Inv X pins σ H s) (h : SqL X.K H a xs) : ∃ its : List Value, Vals xs its ∧ PlainL s.heap a its.toArray ∧ xs.length ≤ sizeLine := by
  rcases h with h | ⟨o, its, n, hk, hc, hd, hs, hz, r⟩
  · obtain ⟨z, its, n, r, e⟩ := h.ok I.hok
    exact ⟨its, r, ⟨_, n, e, rfl, rfl, rfl⟩, z⟩
  · refine ⟨its.toList, r, ⟨o, n, I.kIn a o hk, hc, hd, by simpa using hs⟩, ?_⟩
    have e := r.length
    simp only [Array.length_toList] at e
    (first | lia | omega)
theorem Inv.tuple (I : Inv X pins σ H s) (h : SqT X.K H a xs) : ∃ its : List Value, Vals xs its ∧ IsTup s.heap a its.toArray ∧ xs.length ≤ sizeLine := by
  rcases h with h | ⟨o, its, n, hk, hc, hs, hz, r⟩
  · obtain ⟨z, its, r, p⟩ := h.ok I.hok
    exact ⟨its, r, p, z⟩
  · refine ⟨its.toList, r, ⟨o, I.kIn a o hk, hc, n, by simpa using hs⟩, ?_⟩
    have e := r.length
    simp only [Array.length_toList] at e
    (first | lia | omega)
theorem Inv.list_inj (I : Inv X pins σ H s) (h : SqL X.K H a xs) (h' : SqL X.K H a ys) : xs = ys := by
  obtain ⟨its, r, ⟨o, n, e, _, _, d⟩, _⟩ := I.list h
  obtain ⟨its', r', ⟨o', n', e', _, _, d'⟩, _⟩ := I.list h'
  rw [e] at e'; cases e'
  rw [d] at d'
  injection d' with d1 _
  have : its = its' := by simpa using congrArg Array.toList d1
  subst this
  exact r.inj r'
end

noncomputable abbrev Cx.wish (X : Cx) (E : Value → Shared → Prop) : Cx := { X with xe := E }
noncomputable abbrev Cx.nox (X : Cx) : Cx := X.wish fun _ _ => False
theorem Cx.Ok.wish {X : Cx} (ok : X.Ok) (E : Value → Shared → Prop) : (X.wish E).Ok :=
  ⟨ok.mod, ok.kind, ok.glob, ok.blt, ok.above, ok.inj, ok.has, ok.cab, ok.hd, ok.frames, ok.stk, ok.exf, ok.bs, ok.bsz, ok.noex, ok.exfs, ok.funs, ok.frf⟩
theorem Cx.Ok.unwish {X : Cx} {E : Value → Shared → Prop} (ok : (X.wish E).Ok) : X.Ok :=
  ⟨ok.mod, ok.kind, ok.glob, ok.blt, ok.above, ok.inj, ok.has, ok.cab, ok.hd, ok.frames, ok.stk, ok.exf, ok.bs, ok.bsz, ok.noex, ok.exfs, ok.funs, ok.frf⟩
section
variable {X : Cx} {pins : List (Addr × Obj)} {σ : St} {H : Hp} {s : Shared} {E : Value → Shared → Prop}
theorem Inv.wish (I : Inv X pins σ H s) (E : Value → Shared → Prop) : Inv (X.wish E) pins σ H s := ⟨I.ok.wish E, I.os, I.bare, I.base, I.loc, I.cell, I.free, I.freeC, I.pin, I.hok, I.len⟩
theorem Inv.unwish (I : Inv (X.wish E) pins σ H s) : Inv X pins σ H s := ⟨I.ok.unwish, I.os, I.bare, I.base, I.loc, I.cell, I.free, I.freeC, I.pin, I.hok, I.len⟩
theorem SP.unwish {D : Ends} {f : Flow} {s' : Shared} (h : SP (X.wish E) pins D f s') : SP X pins D f s' := by
  cases f with
  | next => obtain ⟨σ', H', I, q⟩ := h; exact ⟨σ', H', I.unwish, q⟩
  | brk => obtain ⟨σ', H', I, q⟩ := h; exact ⟨σ', H', I.unwish, q⟩
  | cont => obtain ⟨σ', H', I, q⟩ := h; exact ⟨σ', H', I.unwish, q⟩
  | ret u => obtain ⟨v, σ', H', I, r, q⟩ := h; exact ⟨v, σ', H', I.unwish, r, q⟩
theorem PSs.nox {st : List Stmt} {t : TS} (h : PSs X.nox st t) : PSs X st t := fun pins s σ H D I hw =>
  wpAny_mono (h pins s σ H D (I.wish _) hw) (fun _ _ q => q.unwish) fun _ _ z => False.elim z
end

section
variable {X : Cx} {st : Stmt} {rest : List Stmt} {t u : TS} {e : Expr} {te : TE} {pos : Pos}
noncomputable def tNext : TS := fun D σ H => D.nx σ H
noncomputable def tSeq (t u : TS) : TS := fun D σ H => t { D with nx := u D } σ H
theorem pss_nil : PSs X [] tNext := fun _ _ σ H _ I h => wpAny_execs_nil ⟨σ, H, I, h⟩
theorem pss_cons (h1 : PS X st t) (h2 : PSs X rest u) : PSs X (st :: rest) (tSeq t u) := by
  intro pins s σ H D I h
  refine wpAny_execs_cons (thn (h1 pins s σ H { D with nx := u D } I h) fun f s1 q => ?_)
  cases f with
  | next =>
    obtain ⟨σ', H', I', q⟩ := q
    exact h2 pins s1 σ' H' D I' q
  | ret v => exact q
  | brk => exact q
  | cont => exact q
theorem pss_one (h1 : PS X st t) : PSs X [st] t := by
  intro pins s σ H D I h
  refine wpAny_execs_cons (thn (h1 pins s σ H D I h) fun f s1 q => ?_)
  cases f with
  | next => exact wpAny_execs_nil q
  | ret v => exact q
  | brk => exact q
  | cont => exact q
noncomputable def tBreak : TS := fun D σ H => D.bk σ H
noncomputable def tCont : TS := fun D σ H => D.ct σ H
theorem Inv.quiet {pins : List (Addr × Obj)} {σ : St} {H : Hp} {s : Shared} (I : Inv X pins σ H s) : interactive X.env = false := by simp [interactive, I.ok.kind]
noncomputable def tDrop (te : TE) : TS := fun D σ H => te σ H fun _ H1 => D.nx σ H1
theorem ps_expr (he : PE X e te) (hs : swapsWith e none pos.line X.env = pure false := by rfl) : PS X (.Expr e pos) (tDrop te) := by
  intro pins s σ H D I h
  exact wpAny_Expr_any (thn (he pins s σ H _ I h) fun v s1 ⟨x, H1, I1, r1, q1⟩ => ⟨σ, H1, I1, q1⟩) I.quiet hs
noncomputable def tRet (te : TE) : TS := fun D σ H => te σ H D.rt
theorem ps_ret (he : PE X e te) : PS X (.Return (some e) pos) (tRet te) := by
  intro pins s σ H D I h
  exact wpAny_Return_some (thn (he pins s σ H _ I h) fun v s1 ⟨x, H1, I1, r1, q1⟩ => ⟨x, σ, H1, I1, r1, q1⟩)
noncomputable def tRetN : TS := fun D _ H => D.rt .non H
noncomputable def tIfS (c : TT) (t u : TS) : TS := fun D σ H => c σ H fun b H1 => if b = true then t D σ H1 else u D σ H1
theorem ps_if {c : Expr} {a b : List Stmt} {tc : TT} (hc : PT X c tc) (ha : PSs X a t) (hb : PSs X b u) : PS X (.If c a b pos) (tIfS tc t u) := by
  intro pins s σ H D I h
  refine wpAny_If (thn (hc pins s σ H _ I h) fun d s1 ⟨H1, I1, q1⟩ => ?_)
  cases d with
  | true => exact ha pins s1 σ H1 D I1 q1
  | false => exact hb pins s1 σ H1 D I1 q1
noncomputable def tNever : TS := fun _ _ _ => False
theorem ps_never : PS X st tNever := fun _ _ _ _ _ _ h => h.elim
end

noncomputable abbrev TG := V → St → Hp → (St → Hp → Prop) → Prop
noncomputable abbrev TGs := List V → St → Hp → (St → Hp → Prop) → Prop
noncomputable def PG (X : Cx) (target : Expr) (t : TG) : Prop :=
  ∀ (pins : List (Addr × Obj)) (s : Shared) (σ : St) (H : Hp) (v : V) (u : Value) (Q : St → Hp → Prop), Inv X pins σ H s → RelV v u → t v σ H Q →
    wpAny (model X.prog X.w) X.A (assign target X.env u) (fun _ s' => ∃ σ' H', Inv X pins σ' H' s' ∧ Q σ' H') X.xe s
noncomputable def PGs (X : Cx) (ts : List Expr) (t : TGs) : Prop :=
  ∀ (pins : List (Addr × Obj)) (s : Shared) (σ : St) (H : Hp) (vs : List V) (us : List Value) (Q : St → Hp → Prop), Inv X pins σ H s → Vals vs us → t vs σ H Q →
    wpAny (model X.prog X.w) X.A (assignInOrder ((assignEach ts X.env).map (·.2)) us) (fun _ s' => ∃ σ' H', Inv X pins σ' H' s' ∧ Q σ' H') X.xe s
noncomputable abbrev TSet := V → V → V → Hp → (Hp → Prop) → Prop
noncomputable def PSet (X : Cx) (t : TSet) : Prop :=
  ∀ (pins : List (Addr × Obj)) (s : Shared) (σ : St) (H : Hp) (o i v : V) (ov iv u : Value) (Q : Hp → Prop), Inv X pins σ H s → RelV o ov → RelV i iv → RelV v u → t o i v H Q →
    wpAny (model X.prog X.w) X.A (setItem ov iv u) (fun _ s' => ∃ H', Inv X pins σ H' s' ∧ Q H') X.xe s
noncomputable abbrev TIp := V → V → Hp → VK → Prop
noncomputable def PIp (X : Cx) (op : Operator) (t : TIp) : Prop :=
  ∀ (pins : List (Addr × Obj)) (s : Shared) (σ : St) (H : Hp) (x y : V) (v u : Value) (Q : VK), Inv X pins σ H s → RelV x v → RelV y u → t x y H Q →
    wpAny (model X.prog X.w) X.A (inplaceOp op v u) (EP X pins σ Q) X.xe s
section
variable {X : Cx} {pos : Pos}
noncomputable def gName (i : Nat) : TG := fun v σ H Q => Q (σ.set i (some v)) H
theorem pg_name {i : Nat} {x : Str} (hN : X.N.Nodup) (hi : X.N[i]? = some x) (hx : Loc X.env.scope x) (hf : X.fn x = true ∨ X.env.scope.names.lookup x = some .local := by first | exact .inl rfl | exact .inr rfl | assumption) : PG X (.Name x pos) (gName i) := by
  intro pins s σ H v u Q I r h
  exact wpAny_assign_Name (store_ok I hN hi hx r (fun s' I' => ⟨_, H, I', h⟩) hf)
noncomputable def gNil : TGs := fun vs σ H Q => vs = [] ∧ Q σ H
noncomputable def gCons (t : TG) (u : TGs) : TGs := fun vs σ H Q => ∃ v r, vs = v :: r ∧ t v σ H fun σ' H' => u r σ' H' Q
theorem pgs_nil : PGs X [] gNil := by
  intro pins s σ H vs us Q I r h
  obtain ⟨e, h⟩ := h
  subst e
  cases r
  exact assignInOrder_nil ⟨σ, H, I, h⟩
theorem pgs_cons {e : Expr} {es : List Expr} {t : TG} {u : TGs} (h1 : PG X e t) (h2 : PGs X es u)
    (hs : (assignEach (e :: es) X.env).map (·.2) = assign e X.env :: (assignEach es X.env).map (·.2) := by rfl) : PGs X (e :: es) (gCons t u) := by
  intro pins s σ H vs us Q I r h
  obtain ⟨v, vr, e1, h⟩ := h
  subst e1
  cases r with
  | cons r rr =>
    rw [hs]
    refine assignInOrder_cons (thn (h1 pins s σ H _ _ _ I r h) fun _ s1 ⟨σ1, H1, I1, q1⟩ => ?_)
    exact h2 pins s1 σ1 H1 _ _ Q I1 rr q1
noncomputable def gTup (K : PySem.W.Frag) (n : Nat) (t : TGs) : TG := fun v σ H Q => ∃ a xs, v = .ref a ∧ SqT K H a xs ∧ xs.length = n ∧ t xs σ H Q
theorem pg_tup {es : List Expr} {k : Nat} {t : TGs} {n : Nat} (hc : X.calm = true) (h : PGs X es t)
    (hn : (assignEach es X.env).length = n := by rfl) (hst : (assignEach es X.env).findIdx? (·.1) = none := by rfl) : PG X (.Tuple es k pos) (gTup X.K n t) := by
  intro pins s σ H v u Q I r hw
  obtain ⟨a, xs, e1, hq, hl, hw⟩ := hw
  subst e1
  cases r
  obtain ⟨its, rv, ht, hz⟩ := I.tuple hq
  refine assign_Tuple_tuple (I.ok.hd hc) ht (by simp [hn, ← hl, rv.length]) hst fun h' hx => ?_
  have I1 : Inv X pins σ H { s with heap := h' } := I.kept (t' := s.toks) fun b o e => hx b o (Nat.ne_of_lt (Heap.lt_size e)) e
  exact h pins _ σ H xs _ Q I1 (by simpa using rv) hw
noncomputable def gSub (to ti : TE) (t : TSet) : TG := fun v σ H Q => to σ H fun o H1 => ti σ H1 fun i H2 => t o i v H2 fun H3 => Q σ H3
theorem pg_sub {o i : Expr} {to ti : TE} {t : TSet} (ho : PE X o to) (hi : PE X i ti) (hs : PSet X t)
    (ha : ∀ v, assign (.Subscript o i pos) X.env v = (do
      let ov ← holding [v] (eval o X.env)
      let iv ← holding [v, ov] (eval i X.env)
      standAt pos
      holding [v, ov, iv] (setItem ov iv v)
      release [v, ov, iv] []) := by intro _; rfl) : PG X (.Subscript o i pos) (gSub to ti t) := by
  intro pins s σ H v u Q I r h
  rw [ha]
  refine wpAny_bind (wpAny_holding (thn (ho pins s σ H _ I h) fun ov s1 ⟨x, H1, I1, r1, q1⟩ => ?_))
  refine wpAny_bind (wpAny_holding (thn (hi pins s1 σ H1 _ I1 q1) fun iv s2 ⟨y, H2, I2, r2, q2⟩ => ?_))
  refine wpAny_bind (wpAny_standAt (wpAny_bind (wpAny_holding (thn (hs pins s2 σ H2 x y v ov iv u _ I2 r1 r2 r q2) fun _ s3 ⟨H3, I3, q3⟩ => ?_))))
  exact wpAny_release ⟨σ, H3, I3, q3⟩
noncomputable def tAsg (te : TE) (g : TG) : TS := fun D σ H => te σ H fun x H1 => g x σ H1 D.nx
theorem ps_asg {tg e : Expr} {te : TE} {g : TG} (he : PE X e te) (hg : PG X tg g) (hs : swapsWithSole [tg] e pos.line X.env = pure false := by rfl) (hw : swappedStores [tg] e X.env = pure none := by rfl)
    (h1 : (assignEach [tg] X.env).map (·.2) = [assign tg X.env] := by rfl) : PS X (.Assign [tg] e pos) (tAsg te g) := by
  intro pins s σ H D I h
  refine wpAny_Assign_stores (thn (he pins s σ H _ I h) fun v s1 ⟨x, H1, I1, r1, q1⟩ => ?_) hs hw
  rw [h1]
  exact thn (hg pins s1 σ H1 x v _ I1 r1 q1) fun _ s2 q => q
theorem ps_set {i : Nat} {x : Str} {e : Expr} {te : TE} {pos' : Pos} (hN : X.N.Nodup) (hi : X.N[i]? = some x) (hx : Loc X.env.scope x) (he : PE X e te) (hs : swapsWith e (some (.Name x pos')) pos.line X.env = pure false := by rfl) (hf : X.fn x = true ∨ X.env.scope.names.lookup x = some .local := by first | exact .inl rfl | exact .inr rfl | assumption) :
    PS X (.Assign [.Name x pos'] e pos) (tAsg te (gName i)) := by
  intro pins s σ H D I h
  refine wpAny_Assign_Name (thn (he pins s σ H _ I h) fun v s1 ⟨y, H1, I1, r1, q1⟩ => ?_) hs
  exact store_ok I1 hN hi hx r1 (fun s2 I2 => ⟨_, H1, I2, q1⟩) hf
noncomputable def tPar (i j : Nat) (ta : TA) : TS := fun D σ H => ta σ H fun vs H1 => ∃ v w, vs = [v, w] ∧ D.nx ((σ.set i (some v)).set j (some w)) H1
noncomputable def tAug (i : Nat) (te : TE) (ti : TIp) : TS := fun D σ H => ∃ x, σ[i]? = some (some x) ∧ te σ H fun y H1 => ti x y H1 fun z H2 => D.nx (σ.set i (some z)) H2
noncomputable def tAugS (to ti te : TE) (tget : V → V → Hp → VK → Prop) (tip : TIp) (tset : TSet) : TS := fun D σ H => to σ H fun o H1 => ti σ H1 fun i H2 => tget o i H2 fun x H3 => te σ H3 fun y H4 => tip x y H4 fun z H5 => tset o i z H5 fun H6 => D.nx σ H6
noncomputable def PGet (X : Cx) (t : V → V → Hp → VK → Prop) : Prop :=
  ∀ (pins : List (Addr × Obj)) (s : Shared) (σ : St) (H : Hp) (o i : V) (ov iv : Value) (Q : VK), Inv X pins σ H s → RelV o ov → RelV i iv → t o i H Q →
    wpAny (model X.prog X.w) X.A (getItem ov iv) (EP X pins σ Q) X.xe s
noncomputable def ipI (f : Int → Int → Int) : TIp := fun x y H Q => ∃ i j, x = .int i ∧ y = .int j ∧ Q (.int (f i j)) H
end

section
variable {X : Cx} {pos : Pos}
noncomputable def tWhile (c : TT) (tb : TS) : TS := fun D σ H => ∃ W : Nat → St → Hp → Prop, (∃ m, W m σ H) ∧ ∀ m σ H, W m σ H →
  c σ H fun b H1 => if b = true then ∃ N : St → Hp → Prop, (∀ σ' H', N σ' H' → ∃ m', m' < m ∧ W m' σ' H') ∧ tb { D with nx := N, ct := N, bk := D.nx } σ H1 else D.nx σ H1
theorem ps_while {c : Expr} {body : List Stmt} {tc : TT} {tb : TS} (hp : PassesOwn (model X.prog X.w) X.A X.env X.xe) (hc : PT X c tc) (hb : PSs X body tb) : PS X (.While c body [] pos) (tWhile tc tb) := by
  intro pins s σ H D I h
  obtain ⟨W, ⟨m0, w0⟩, turn⟩ := h
  refine wpAny_While (codeAny_whileLoop (fun n s' => ∃ σ' H', Inv X pins σ' H' s' ∧ W n σ' H') ?_ m0 ⟨σ, H, I, w0⟩)
  rintro n s1 ⟨σ1, H1, I1, w1⟩
  refine wpAny_passesOwn hp (thn (hc pins s1 σ1 H1 _ I1 (turn n σ1 H1 w1)) fun b s2 ⟨H2, I2, q2⟩ => ?_)
  cases b with
  | true =>
    obtain ⟨N, hN, q2⟩ := q2
    rw [if_pos rfl]
    refine wpAny_passesOwn hp (thn (hb pins s2 σ1 H2 _ I2 q2) fun f s3 q3 => ?_)
    cases f with
    | next =>
      obtain ⟨σ3, H3, I3, n3⟩ := q3
      obtain ⟨m', hm, w3⟩ := hN σ3 H3 n3
      exact ⟨m', hm, σ3, H3, I3, w3⟩
    | cont =>
      obtain ⟨σ3, H3, I3, n3⟩ := q3
      obtain ⟨m', hm, w3⟩ := hN σ3 H3 n3
      exact ⟨m', hm, σ3, H3, I3, w3⟩
    | brk => exact q3
    | ret v => exact q3
  | false =>
    rw [if_neg Bool.false_ne_true]
    exact wpAny_execs_nil ⟨σ1, H2, I2, q2⟩
end

structure It where
  go : Nat → Hp → Prop
  yld : Nat → Hp → V → Hp → Prop
  stop : Nat → Hp → Prop
noncomputable def FpOk (X : Cx) (pins : List (Addr × Obj)) (H : Hp) (b : Addr) : Prop :=
  H b = none ∧ b ≠ X.env.locals ∧ b ∉ X.fs ∧ (b ∈ X.ex ∨ X.s₀.heap.objs.size ≤ b) ∧ (∀ x c, X.env.cells.lookup x = some c → c ≠ b) ∧ ∀ p ∈ X.pn ++ pins, p.1 ≠ b
theorem Inv.fpOk {X : Cx} {pins : List (Addr × Obj)} {σ : St} {H H' : Hp} {s : Shared} {b : Addr} (I : Inv X pins σ H s) (hb : s.heap.objs.size ≤ b) (hn : H' b = none) : FpOk X pins H' b := by
  refine ⟨hn, Nat.ne_of_gt (Nat.lt_of_lt_of_le I.lt hb), I.nofs hb, .inr (Nat.le_trans I.sz hb), fun x c e z => ?_, fun p hp z => ?_⟩
  · obtain ⟨v, q⟩ := I.cell x c e
    exact absurd (Nat.lt_of_lt_of_le q.lt (by rw [z]; exact hb)) (Nat.lt_irrefl _)
  · exact absurd (Nat.lt_of_lt_of_le (Heap.lt_size (I.pin p hp).1) (by rw [z]; exact hb)) (Nat.lt_irrefl _)
structure Turn (P : Program) (w : World) (K : PySem.W.Frag) (tg : Expr) (J : It) (fp : List Addr) (it : Addr) (tn : Nat → Heap → Prop) : Prop where
  mem : it ∈ fp
  obj : ∀ i h, tn i h → ∀ b ∈ fp, ∃ o, h.get? b = some o ∧ ∀ v, o.data ≠ .cell v
  keep : ∀ i h h', tn i h → (∀ b ∈ fp, ∀ o, h.get? b = some o → h'.get? b = some o) → tn i h'
  item : ∀ (X : Cx), X.prog = P → X.w = w → X.K = K → X.calm = true → ∀ (i : Nat) (pins : List (Addr × Obj)) (s : Shared) (σ : St) (H : Hp) (E : Value → Shared → Prop), Inv X pins σ H s → (∀ b ∈ fp, FpOk X pins H b) → tn i s.heap → J.go i H →
    wpAny (model P w) X.A (pyNext (.ref it)) (fun r s1 => ∃ u, r = some u ∧
      wpAny (model P w) X.A (letOwnedTupleGo tg (.ref it) u) (fun _ s2 => ∃ x H', Inv X pins σ H' s2 ∧ RelV x u ∧ J.yld i H x H' ∧ tn (i + 1) s2.heap ∧ ∀ b ∈ fp, H' b = none) E s1) E s
  done : ∀ (X : Cx), X.prog = P → X.w = w → X.K = K → X.calm = true → ∀ (i : Nat) (pins : List (Addr × Obj)) (s : Shared) (σ : St) (H : Hp) (E : Value → Shared → Prop), Inv X pins σ H s → (∀ b ∈ fp, FpOk X pins H b) → tn i s.heap → J.stop i H →
    wpAny (model P w) X.A (pyNext (.ref it)) (fun r s1 => r = none ∧ Inv X pins σ H s1) E s
  self : ∀ (A : Around) (i : Nat) (s : Shared) (Q : Value → Shared → Prop) (E : Value → Shared → Prop), tn i s.heap → Q (.ref it) s → wpAny (model P w) A (pyIter (.ref it)) Q E s
noncomputable abbrev TI := St → Hp → (It → Hp → Prop) → Prop
noncomputable def PIE (X : Cx) (pins : List (Addr × Obj)) (σ : St) (tg : Expr) (R : It → Hp → Prop) (itv : Value) (s2 : Shared) : Prop :=
  ∃ (it : Addr) (fp : List Addr) (tn : Nat → Heap → Prop) (J : It) (H' : Hp), itv = .ref it ∧ Inv X pins σ H' s2 ∧ Turn X.prog X.w X.K tg J fp it tn ∧ tn 0 s2.heap ∧ (∀ b ∈ fp, FpOk X pins H' b) ∧ R J H'
noncomputable def PI (X : Cx) (tg iter : Expr) (wi : TI) : Prop :=
  ∀ (pins : List (Addr × Obj)) (s : Shared) (σ : St) (H : Hp) (R : It → Hp → Prop), Inv X pins σ H s → wi σ H R →
    wpAny (model X.prog X.w) X.A (eval iter X.env) (fun v s1 => wpAny (model X.prog X.w) X.A (pyIter v) (PIE X pins σ tg R) X.xe s1) X.xe s

theorem go_of {M : Model} {A : Around} {E : Value → Shared → Prop} {s : Shared} {tg : Expr} {it : Addr} {u : Value} {o : Obj} {n : String} {vs : Array Value} {Q : Unit → Shared → Prop} (ho : s.heap.get? it = some o) (hc : o.cls = .type n) (hd : o.data = .fields vs)
    (hn : ["enumerate", "zip", "dict_itemiterator", "dict_reverseitemiterator", "odict_iterator", "itertools.zip_longest", "itertools.pairwise"].contains n = false) (hQ : Q () s) : wpAny M A (letOwnedTupleGo tg (.ref it) u) Q E s := by
  unfold letOwnedTupleGo
  cases tg <;> first
    | exact wpAny_pure hQ
    | (cases u <;> first
        | exact wpAny_pure hQ
        | (refine wpAny_bind (wpAny_load ho ?_)
           rw [hc, hd]
           show wpAny M A (if (["enumerate", "zip", "dict_itemiterator", "dict_reverseitemiterator", "odict_iterator", "itertools.zip_longest", "itertools.pairwise"].contains n && vs[0]? == some (rawInt _)) = true then _ else _) Q E s
           rw [if_neg (by intro h; rw [hn, Bool.false_and] at h; cases h)]
           exact wpAny_pure hQ))

noncomputable def Itl (K : PySem.W.Frag) (a : Addr) : It :=
  ⟨fun i H => ∃ xs x, SqL K H a xs ∧ xs[i]? = some x, fun i H x H' => H' = H ∧ ∀ xs, SqL K H a xs → xs[i]? = some x, fun i H => ∃ xs, SqL K H a xs ∧ xs.length ≤ i⟩
noncomputable def Itt (K : PySem.W.Frag) (a : Addr) : It :=
  ⟨fun i H => ∃ xs x, SqT K H a xs ∧ xs[i]? = some x, fun i H x H' => H' = H ∧ ∀ xs, SqT K H a xs → xs[i]? = some x, fun i H => ∃ xs, SqT K H a xs ∧ xs.length ≤ i⟩
noncomputable def Itr (lo : Int) (n : Nat) : It := ⟨fun i _ => i < n, fun i H x H' => H' = H ∧ x = .int (lo + i), fun i _ => n ≤ i⟩
theorem turn_list {P : Program} {w : World} {K : PySem.W.Frag} {tg : Expr} (a it : Addr) : Turn P w K tg (Itl K a) [it] it (fun i h => h.IsListIter it a i) where
  mem := by simp
  obj := fun i h st b hb => by
    have e : b = it := by simpa using hb
    subst e
    obtain ⟨o, e, c, d⟩ := st
    exact ⟨o, e, fun v z => by rw [d] at z; cases z⟩
  keep := fun i h h' st k => st.at fun o e => k it (by simp) o e
  item := by
    intro X hP hw hK hc i pins s σ H E I hf st hg
    subst hP hw hK
    obtain ⟨xs, x, hq, hx⟩ := hg
    obtain ⟨its, rv, p, hz⟩ := I.list hq
    obtain ⟨u, hu, ru⟩ := rv.get hx
    obtain ⟨f0, f1, f2, f3, f4, f5⟩ := hf it (by simp)
    refine wpAny_pyNext_list_item st p.isList (x := u) (by simpa using hu) fun h' st' sb => ?_
    have I1 : Inv X pins σ H { s with heap := h' } := I.turned (t' := s.toks) (fun b o hb e => (sb.2 b hb).trans e) f0 f1 f3 f4 f5
    obtain ⟨o, e, c, d⟩ := id st'
    exact ⟨u, rfl, go_of (s := { s with heap := h' }) e c d (by decide) ⟨x, H, I1, ru, ⟨rfl, fun ys hy => by rw [I.list_inj hy hq]; exact hx⟩, st', fun b hb => (hf b hb).1⟩⟩
  done := by
    intro X hP hw hK hc i pins s σ H E I hf st hg
    subst hP hw hK
    obtain ⟨xs, hq, hx⟩ := hg
    obtain ⟨its, rv, p, hz⟩ := I.list hq
    obtain ⟨f0, f1, f2, f3, f4, f5⟩ := hf it (by simp)
    have hl := rv.length
    exact wpAny_pyNext_list_end (I.ok.hd hc) st p.isList (by simp; (first | lia | omega)) fun h' eb => ⟨rfl, I.turned (t' := s.toks) (fun b o hb e => eb b o hb e) f0 f1 f3 f4 f5⟩
  self := fun _ _ _ _ _ st h => wpAny_pyIter_listiter st h
theorem turn_range {P : Program} {w : World} {K : PySem.W.Frag} {tg : Expr} (it : Addr) (lo : Int) (n : Nat) : Turn P w K tg (Itr lo n) [it] it (fun i h => IsRangeIter h it (lo + (i : Nat) * 1) ((n : Int) - (i : Nat)) 1) where
  mem := by simp
  obj := fun i h st b hb => by
    have e : b = it := by simpa using hb
    subst e
    exact ⟨_, st, fun v z => by
      have z' : Data.fields _ = Data.cell v := z
      cases z'⟩
  keep := fun i h h' st k => k it (by simp) _ st
  item := by
    intro X hP hw hK hc i pins s σ H E I hf st hg
    subst hP hw hK
    obtain ⟨f0, f1, f2, f3, f4, f5⟩ := hf it (by simp)
    have W := Walks.range (prog := X.prog) (w := X.w) (I.ok.hd hc) it lo 1 n
    refine W.item i s _ _ hg st fun v h' tk hv st' kk => ?_
    obtain ⟨t, rfl⟩ := hv
    have I1 : Inv X pins σ H { s with heap := h', toks := tk } := I.turned (fun b o hb e => kk b o (by simpa using hb) e) f0 f1 f3 f4 f5
    refine ⟨_, rfl, go_of (s := { s with heap := h', toks := tk }) (n := "range_iterator") st' rfl rfl (by decide) ⟨.int (lo + i), H, I1, ⟨t, ?_⟩, ⟨rfl, rfl⟩, st', fun b hb => (hf b hb).1⟩⟩
    rw [Int.mul_one]
  done := by
    intro X hP hw hK hc i pins s σ H E I hf st hg
    subst hP hw hK
    obtain ⟨f0, f1, f2, f3, f4, f5⟩ := hf it (by simp)
    exact wpAny_pyNext_range_end (I.ok.hd hc) st (by have : n ≤ i := hg; (first | lia | omega)) fun h' eb => ⟨rfl, I.turned (t' := s.toks) (fun b o hb e => eb b o hb e) f0 f1 f3 f4 f5⟩
  self := fun _ _ _ _ _ st h => wpAny_pyIter_rangeiter st h
end L2

namespace L2
open PySem PySem.Spec PyProof.Rows
section
variable {X : Cx} {tg : Expr}
noncomputable def iList (K : PySem.W.Frag) (tl : TE) : TI := fun σ H R => tl σ H fun x H1 => ∃ a, x = .ref a ∧ (∃ xs, SqL K H1 a xs) ∧ R (Itl K a) H1
noncomputable def iTup (K : PySem.W.Frag) (tl : TE) : TI := fun σ H R => tl σ H fun x H1 => ∃ a, x = .ref a ∧ (∃ xs, SqT K H1 a xs) ∧ R (Itt K a) H1
theorem pi_list {l : Expr} {tl : TE} (hl : PE X l tl) : PI X tg l (iList X.K tl) := by
  intro pins s σ H R I h
  refine thn (hl pins s σ H _ I h) fun v s1 ⟨x, H1, I1, r1, q1⟩ => ?_
  obtain ⟨a, e, ⟨xs, hq⟩, q⟩ := q1
  subst e
  cases r1
  obtain ⟨its, rv, p, hz⟩ := I1.list hq
  refine wpAny_pyIter_list p.isList ?_
  refine ⟨s1.heap.objs.size, [s1.heap.objs.size], _, _, H1, rfl, I1.kept (t' := s1.toks) fun b o e => Heap.get?_push_of_some _ e, turn_list a _, ⟨_, Heap.get?_push_size _ rfl, rfl, rfl⟩, fun b hb => ?_, q⟩
  have e : b = s1.heap.objs.size := by simpa using hb
  subst e
  exact I1.fpOk (Nat.le_refl _) (I1.hok.fresh (Nat.le_refl _))
theorem range_it {pins : List (Addr × Obj)} {σ : St} {H : Hp} {s : Shared} {R : It → Hp → Prop} {E : Value → Shared → Prop} {lo hi : Int} {t u v : Tok} {tk : Nat} (I : Inv X pins σ H s) (h1 : -(2 ^ 62) ≤ lo) (h2 : lo < 2 ^ 62) (h3 : -(2 ^ 62) ≤ hi) (h4 : hi < 2 ^ 62)
    (q : R (Itr lo (hi - lo).toNat) H) : wpAny (model X.prog X.w) X.A (pyIter (.ref s.heap.objs.size)) (PIE X pins σ tg R) E { s with heap := s.heap.push { cls := .type "range", data := .fields #[.int lo t, .int hi u, .int 1 v] }, toks := tk } := by
  refine wpAny_pyIter_range (IsRange.new ..) (small_one h1 h2 h3 h4) ?_
  have I1 : Inv X pins σ H { s with heap := s.heap.push { cls := .type "range", data := .fields #[.int lo t, .int hi u, .int 1 v] }, toks := tk } := I.kept fun b o e => Heap.get?_push_of_some _ e
  refine ⟨(s.heap.push { cls := .type "range", data := .fields #[.int lo t, .int hi u, .int 1 v] }).objs.size, [(s.heap.push { cls := .type "range", data := .fields #[.int lo t, .int hi u, .int 1 v] }).objs.size], _, _, H, rfl,
    I1.kept (t' := tk) fun b o e => Heap.get?_push_of_some _ e, turn_range _ lo (hi - lo).toNat, ?_, fun b hb => ?_, q⟩
  · have e1 : lo + ((0 : Nat) : Int) * 1 = lo := by simp
    have e2 : (((hi - lo).toNat : Nat) : Int) - ((0 : Nat) : Int) = Builtin.Range.rangeSize lo hi 1 := by rw [rangeSize_one]; split <;> (first | lia | omega)
    show IsRangeIter _ _ (lo + ((0 : Nat) : Int) * 1) ((((hi - lo).toNat : Nat) : Int) - ((0 : Nat) : Int)) 1
    rw [e1, e2]
    exact Heap.get?_push_size _ rfl
  · have e : b = (s.heap.push { cls := .type "range", data := .fields #[.int lo t, .int hi u, .int 1 v] }).objs.size := by simpa using hb
    subst e
    exact I1.fpOk (Nat.le_refl _) (I1.hok.fresh (Nat.le_refl _))
noncomputable def iRng1 (ta : TA) : TI := fun σ H R => ta σ H fun vs H1 => ∃ j : Int, vs = [.int j] ∧ -(2 ^ 62) ≤ j ∧ j < 2 ^ 62 ∧ R (Itr 0 j.toNat) H1
noncomputable def iRng2 (ta : TA) : TI := fun σ H R => ta σ H fun vs H1 => ∃ i j : Int, vs = [.int i, .int j] ∧ (-(2 ^ 62) ≤ i ∧ i < 2 ^ 62 ∧ -(2 ^ 62) ≤ j ∧ j < 2 ^ 62) ∧ R (Itr i (j - i).toNat) H1
theorem pi_range1 {a : Expr} {ta : TA} {p pos : Pos} (hg : Gl X "range") (hm : X.mg "range" = none) (ha : PA X [a] ta) (hs : starEach [a] X.env = [(false, eval a X.env)] := by rfl) : PI X tg (.Call (.Name "range" p) [a] [] pos) (iRng1 ta) := by
  intro pins s σ H R I h
  refine Call_ (ld_blt I hg hm boot_range (PyProof.Rows.callWith_type1 (thn (ha pos pins s σ H _ I h) fun us s1 ⟨vs, H1, I1, r1, q1⟩ => ?_) hs rfl))
  obtain ⟨j, e, q1, q2, q⟩ := q1
  subst e
  cases r1 with
  | cons r rr =>
    cases rr
    obtain ⟨t, rfl⟩ := r
    exact call_range_1 (range_it I1 (by (first | lia | omega)) (by (first | lia | omega)) q1 q2 (by simpa using q))

noncomputable def tFor (wi : TI) (g : TG) (tb : TS) : TS := fun D σ H => wi σ H fun J H1 => ∃ W : Nat → Nat → St → Hp → Prop, (∃ m, W 0 m σ H1) ∧ ∀ i m σ H, W i m σ H →
  (J.stop i H ∧ D.nx σ H) ∨ (J.go i H ∧ ∃ N : St → Hp → Prop, (∀ σ' H', N σ' H' → ∃ m', m' < m ∧ W (i + 1) m' σ' H') ∧ ∀ x H', J.yld i H x H' → g x σ H' fun σ2 H2 => tb { D with nx := N, ct := N, bk := D.nx } σ2 H2)
noncomputable def pinsAt (fp : List Addr) (h : Heap) : List (Addr × Obj) := fp.filterMap fun b => (h.get? b).map fun o => (b, o)
theorem mem_pinsAt {fp : List Addr} {h : Heap} {b : Addr} {o : Obj} (hb : b ∈ fp) (e : h.get? b = some o) : (b, o) ∈ pinsAt fp h := List.mem_filterMap.mpr ⟨b, hb, by rw [e]; rfl⟩
theorem of_pinsAt {fp : List Addr} {h : Heap} {p : Addr × Obj} (hp : p ∈ pinsAt fp h) : p.1 ∈ fp ∧ h.get? p.1 = some p.2 := by
  obtain ⟨b, hb, e⟩ := List.mem_filterMap.mp hp
  cases q : h.get? b with
  | none => rw [q] at e; cases e
  | some o =>
    rw [q] at e
    have e' : (b, o) = p := Option.some.inj e
    subst e'
    exact ⟨hb, q⟩
theorem Inv.pinned {pins : List (Addr × Obj)} {σ : St} {H : Hp} {s : Shared} {fp : List Addr} (I : Inv X pins σ H s) (hf : ∀ b ∈ fp, FpOk X pins H b) (ho : ∀ b ∈ fp, ∃ o, s.heap.get? b = some o ∧ ∀ v, o.data ≠ .cell v) : Inv X (pins ++ pinsAt fp s.heap) σ H s :=
  I.pins_of fun p hp => (List.mem_append.mp hp).elim (fun z => I.pin p (List.mem_append_right _ z)) fun z => by
    obtain ⟨hb, e⟩ := of_pinsAt z
    obtain ⟨f0, f1, f2, _⟩ := hf p.1 hb
    obtain ⟨o, e', d⟩ := ho p.1 hb
    rw [e] at e'; cases e'
    exact ⟨e, f0, f1, f2, d⟩
theorem Inv.unpinned {pins pl : List (Addr × Obj)} {σ : St} {H : Hp} {s : Shared} (I : Inv X (pins ++ pl) σ H s) : Inv X pins σ H s := I.pins_of fun p hp => I.pin p (List.mem_append_right _ (List.mem_append_left _ hp))
theorem ps_for {iter : Expr} {body : List Stmt} {wi : TI} {g : TG} {tb : TS} {pos : Pos} (hp : PassesOwn (model X.prog X.w) X.A X.env X.xe) (hc : X.calm = true) (hi : PI X tg iter wi) (hg : PG X tg g) (hb : PSs X body tb)
    (hs : ∀ x, foldedSetIterable iter X.env x = pure x := by intro _; rfl) : PS X (.For tg iter body [] pos) (tFor wi g tb) := by
  intro pins s σ H D I h
  refine wpAny_For (thn (hi pins s σ H _ I h) fun v s1 h1 => thn h1 fun itv s2 h2 => ?_) hs
  obtain ⟨it, fp, tn, J, H2, e, I2, T, st2, f2, W, ⟨m0, w0⟩, turn⟩ := h2
  subst e
  -- what stays true of the iterator's objects through the loop
  have stat : ∀ {H' : Hp}, (∀ b ∈ fp, H' b = none) → ∀ b ∈ fp, FpOk X pins H' b := fun hn b hb => ⟨hn b hb, (f2 b hb).2⟩
  refine codeAny_forLoop_any (fun n s' => ∃ i σ' H', Inv X pins σ' H' s' ∧ tn i s'.heap ∧ (∀ b ∈ fp, H' b = none) ∧ W i n σ' H') ?_ m0 ⟨0, σ, H2, I2, st2, fun b hb => (f2 b hb).1, w0⟩
  rintro n s3 ⟨i, σ3, H3, I3, st3, fr3, w3⟩
  rcases turn i n σ3 H3 w3 with ⟨stop, qn⟩ | ⟨go, N, hN, step⟩
  · refine wpAny_passesOwn hp (thn (T.done X rfl rfl rfl hc i pins s3 σ3 H3 X.xe I3 (stat fr3) st3 stop) fun r s4 ⟨hr, I4⟩ => ?_)
    subst hr
    exact wpAny_execs_nil ⟨σ3, H3, I4, qn⟩
  · refine wpAny_passesOwn hp (thn (T.item X rfl rfl rfl hc i pins s3 σ3 H3 X.xe I3 (stat fr3) st3 go) fun r s4 ⟨u, hr, h4⟩ => ?_)
    subst hr
    refine wpAny_passesOwn hp (thn h4 fun _ s5 ⟨x, H5, I5, r5, y5, st5, fr5⟩ => ?_)
    have I5' := I5.pinned (stat fr5) (T.obj _ _ st5)
    refine wpAny_passesOwn hp (thn (hg _ s5 σ3 H5 x u _ I5' r5 (step x H5 y5)) fun _ s6 ⟨σ6, H6, I6, q6⟩ => ?_)
    refine wpAny_passesOwn hp (thn (hb _ s6 σ6 H6 _ I6 q6) fun f s7 q7 => ?_)
    have again : ∀ {σ7 : St} {H7 : Hp}, Inv X (pins ++ pinsAt fp s5.heap) σ7 H7 s7 → N σ7 H7 → ∃ m, m < n ∧ ∃ i σ' H', Inv X pins σ' H' s7 ∧ tn i s7.heap ∧ (∀ b ∈ fp, H' b = none) ∧ W i m σ' H' := fun {σ7 H7} I7 n7 => by
      obtain ⟨m', hm, w7⟩ := hN σ7 H7 n7
      refine ⟨m', hm, i + 1, σ7, H7, I7.unpinned, T.keep _ _ _ st5 fun b hb o e => (I7.pin (b, o) (List.mem_append_right _ (List.mem_append_right _ (mem_pinsAt hb e)))).1, fun b hb => ?_, w7⟩
      obtain ⟨o, e, d⟩ := T.obj _ _ st5 b hb
      exact (I7.pin (b, o) (List.mem_append_right _ (List.mem_append_right _ (mem_pinsAt hb e)))).2.1
    cases f with
    | next => obtain ⟨σ7, H7, I7, n7⟩ := q7; exact again I7 n7
    | cont => obtain ⟨σ7, H7, I7, n7⟩ := q7; exact again I7 n7
    | brk => obtain ⟨σ7, H7, I7, q7⟩ := q7; exact ⟨σ7, H7, I7.unpinned, q7⟩
    | ret v => obtain ⟨x7, σ7, H7, I7, r7, q7⟩ := q7; exact ⟨x7, σ7, H7, I7.unpinned, r7, q7⟩
end

theorem for_list {K : PySem.W.Frag} {a : Addr} {xs : List V} {g : TG} {tb : TS} {D : Ends} {σ : St} {H : Hp} (Pv : Nat → St → Hp → Prop) (h0 : Pv 0 σ H) (hl : ∀ i σ H, i ≤ xs.length → Pv i σ H → SqL K H a xs)
    (hs : ∀ i x σ H, xs[i]? = some x → Pv i σ H → g x σ H fun σ2 H2 => tb { D with nx := Pv (i + 1), ct := Pv (i + 1), bk := D.nx } σ2 H2) (hd : ∀ σ H, Pv xs.length σ H → D.nx σ H) :
    ∃ W : Nat → Nat → St → Hp → Prop, (∃ m, W 0 m σ H) ∧ ∀ i m σ H, W i m σ H →
      ((Itl K a).stop i H ∧ D.nx σ H) ∨ ((Itl K a).go i H ∧ ∃ N : St → Hp → Prop, (∀ σ' H', N σ' H' → ∃ m', m' < m ∧ W (i + 1) m' σ' H') ∧ ∀ x H', (Itl K a).yld i H x H' → g x σ H' fun σ2 H2 => tb { D with nx := N, ct := N, bk := D.nx } σ2 H2) := by
  refine ⟨fun i m σ H => m = xs.length - i ∧ i ≤ xs.length ∧ Pv i σ H, ⟨xs.length, by simp, Nat.zero_le _, h0⟩, ?_⟩
  rintro i m σ H ⟨rfl, hi, p⟩
  have q := hl i σ H hi p
  by_cases hlt : i < xs.length
  · refine .inr ⟨⟨xs, xs[i], q, by simp [hlt]⟩, Pv (i + 1), fun σ' H' p' => ⟨xs.length - (i + 1), by (first | lia | omega), rfl, hlt, p'⟩, fun x H' y => ?_⟩
    obtain ⟨e, y⟩ := y
    subst e
    exact hs i x σ _ (y xs q) p
  · have e : i = xs.length := by (first | lia | omega)
    subst e
    exact .inl ⟨⟨xs, q, Nat.le_refl _⟩, hd σ H p⟩
theorem for_range {lo : Int} {n : Nat} {g : TG} {tb : TS} {D : Ends} {σ : St} {H : Hp} (Pv : Nat → St → Hp → Prop) (h0 : Pv 0 σ H)
    (hs : ∀ i σ H, i < n → Pv i σ H → g (.int (lo + i)) σ H fun σ2 H2 => tb { D with nx := Pv (i + 1), ct := Pv (i + 1), bk := D.nx } σ2 H2) (hd : ∀ σ H, Pv n σ H → D.nx σ H) :
    ∃ W : Nat → Nat → St → Hp → Prop, (∃ m, W 0 m σ H) ∧ ∀ i m σ H, W i m σ H →
      ((Itr lo n).stop i H ∧ D.nx σ H) ∨ ((Itr lo n).go i H ∧ ∃ N : St → Hp → Prop, (∀ σ' H', N σ' H' → ∃ m', m' < m ∧ W (i + 1) m' σ' H') ∧ ∀ x H', (Itr lo n).yld i H x H' → g x σ H' fun σ2 H2 => tb { D with nx := N, ct := N, bk := D.nx } σ2 H2) := by
  refine ⟨fun i m σ H => m = n - i ∧ i ≤ n ∧ Pv i σ H, ⟨n, by simp, Nat.zero_le _, h0⟩, ?_⟩
  rintro i m σ H ⟨rfl, hi, p⟩
  by_cases hlt : i < n
  · refine .inr ⟨hlt, Pv (i + 1), fun σ' H' p' => ⟨n - (i + 1), by (first | lia | omega), rfl, hlt, p'⟩, fun x H' y => ?_⟩
    obtain ⟨e, y⟩ := y
    subst e y
    exact hs i σ _ hlt p
  · have e : i = n := by (first | lia | omega)
    subst e
    exact .inl ⟨Nat.le_refl _, hd σ H p⟩
end L2

namespace L2
open PySem PySem.Spec PyProof.Rows

noncomputable abbrev R2 := V → V → Hp → VK → Prop
noncomputable def OpR (X : Cx) (f : Value → Value → Sem Value) (r : R2) : Prop :=
  ∀ (pins : List (Addr × Obj)) (s : Shared) (σ : St) (H : Hp) (x y : V) (v u : Value) (Q : VK), Inv X pins σ H s → RelV x v → RelV y u → r x y H Q →
    wpAny (model X.prog X.w) X.A (f v u) (EP X pins σ Q) X.xe s
noncomputable def UnR (X : Cx) (f : Value → Sem Value) (r : V → Hp → VK → Prop) : Prop :=
  ∀ (pins : List (Addr × Obj)) (s : Shared) (σ : St) (H : Hp) (x : V) (v : Value) (Q : VK), Inv X pins σ H s → RelV x v → r x H Q →
    wpAny (model X.prog X.w) X.A (f v) (EP X pins σ Q) X.xe s
noncomputable def CallR (X : Cx) (f : Value) (r : List V → Hp → VK → Prop) : Prop :=
  ∀ (pins : List (Addr × Obj)) (s : Shared) (σ : St) (H : Hp) (xs : List V) (us : List Value) (Q : VK), Inv X pins σ H s → Vals xs us → r xs H Q →
    wpAny (model X.prog X.w) X.A (call f us) (EP X pins σ Q) X.xe s
noncomputable def TruR (X : Cx) (r : V → Hp → (Bool → Hp → Prop) → Prop) : Prop :=
  ∀ (pins : List (Addr × Obj)) (s : Shared) (σ : St) (H : Hp) (x : V) (v : Value) (Q : Bool → Hp → Prop), Inv X pins σ H s → RelV x v → r x H Q →
    wpAny (model X.prog X.w) X.A (truthy v) (TP X pins σ Q) X.xe s

noncomputable def tOp (r : R2) (ta tb : TE) : TE := fun σ H Q => ta σ H fun x H1 => tb σ H1 fun y H2 => r x y H2 Q
noncomputable def tUn (r : V → Hp → VK → Prop) (ta : TE) : TE := fun σ H Q => ta σ H fun x H1 => r x H1 Q
noncomputable def rI (C : Int → Int → Prop) (g : Int → Int → V) : R2 := fun x y H Q => ∃ i j, x = .int i ∧ y = .int j ∧ C i j ∧ Q (g i j) H
noncomputable def rI0 (g : Int → Int → V) : R2 := fun x y H Q => ∃ i j, x = .int i ∧ y = .int j ∧ Q (g i j) H
noncomputable def rU (g : Int → V) : V → Hp → VK → Prop := fun x H Q => ∃ i, x = .int i ∧ Q (g i) H

section
variable {X : Cx} {a b c : Expr} {ta tb tc : TE} {pos : Pos}

theorem binT (ha : PE X a ta) (hb : PE X b tb) {pins : List (Addr × Obj)} {s : Shared} {σ : St} {H : Hp} {R : V → V → Hp → Prop} (I : Inv X pins σ H s)
    (h : ta σ H fun x H1 => tb σ H1 fun y H2 => R x y H2) {Q : Value → Shared → Prop} {f : Value → Value → Sem Value}
    (hf : ∀ v u s2 x y H2, Inv X pins σ H2 s2 → RelV x v → RelV y u → R x y H2 → wpAny (model X.prog X.w) X.A (f v u) Q X.xe s2) :
    wpAny (model X.prog X.w) X.A (eval a X.env) (fun v s₁ => wpAny (model X.prog X.w) X.A (eval b X.env) (fun u s₂ => wpAny (model X.prog X.w) X.A (f v u) Q X.xe s₂) X.xe s₁) X.xe s := by
  refine thn (ha pins s σ H _ I h) fun v s1 ⟨x, H1, I1, r1, q1⟩ => ?_
  refine thn (hb pins s1 σ H1 _ I1 q1) fun u s2 ⟨y, H2, I2, r2, q2⟩ => ?_
  exact hf v u s2 x y H2 I2 r1 r2 q2

theorem pe_op {op : Operator} {r : R2} (ho : OpR X (binaryOp op) r) (ha : PE X a ta) (hb : PE X b tb) : PE X (.BinOp a op b pos) (tOp r ta tb) := by
  intro pins s σ H Q I h
  exact wpAny_BinOp (binT ha hb I h fun v u s2 x y H2 I2 rx ry q => ho pins s2 σ H2 x y v u Q I2 rx ry q)
theorem pe_un {op : UnaryOp} {r : V → Hp → VK → Prop} (ho : UnR X (unaryOp op) r) (ha : PE X a ta) : PE X (.UnaryOp op a pos) (tUn r ta) := by
  intro pins s σ H Q I h
  exact UnaryOp_ (thn (ha pins s σ H _ I h) fun v s1 ⟨x, H1, I1, r1, q1⟩ => ho pins s1 σ H1 x v Q I1 r1 q1)

theorem opI {f : Value → Value → Sem Value} {C : Int → Int → Prop} {g : Int → Int → Int}
    (rule : ∀ (i j : Int) (t u : Tok) (s : Shared) (Q : Value → Shared → Prop) (E : Value → Shared → Prop), C i j → Q (.int (g i j) s.toks) { s with toks := s.toks + 1 } → wpAny (model X.prog X.w) X.A (f (.int i t) (.int j u)) Q E s) :
    OpR X f (rI C fun i j => .int (g i j)) := by
  intro pins s σ H x y v u Q I rx ry h
  obtain ⟨i, j, rfl, rfl, hc, q⟩ := h
  obtain ⟨t, rfl⟩ := rx
  obtain ⟨t', rfl⟩ := ry
  exact rule i j t t' s _ _ hc ⟨.int (g i j), H, I.tok _, ⟨_, rfl⟩, q⟩
theorem opI0 {f : Value → Value → Sem Value} {g : Int → Int → Int}
    (rule : ∀ (i j : Int) (t u : Tok) (s : Shared) (Q : Value → Shared → Prop) (E : Value → Shared → Prop), Q (.int (g i j) s.toks) { s with toks := s.toks + 1 } → wpAny (model X.prog X.w) X.A (f (.int i t) (.int j u)) Q E s) :
    OpR X f (rI0 fun i j => .int (g i j)) := by
  intro pins s σ H x y v u Q I rx ry h
  obtain ⟨i, j, rfl, rfl, q⟩ := h
  obtain ⟨t, rfl⟩ := rx
  obtain ⟨t', rfl⟩ := ry
  exact rule i j t t' s _ _ ⟨.int (g i j), H, I.tok _, ⟨_, rfl⟩, q⟩
theorem opB0 {f : Value → Value → Sem Value} {g : Int → Int → Bool}
    (rule : ∀ (i j : Int) (t u : Tok) (s : Shared) (Q : Value → Shared → Prop) (E : Value → Shared → Prop), Q (.bool (g i j)) s → wpAny (model X.prog X.w) X.A (f (.int i t) (.int j u)) Q E s) :
    OpR X f (rI0 fun i j => .bl (g i j)) := by
  intro pins s σ H x y v u Q I rx ry h
  obtain ⟨i, j, rfl, rfl, q⟩ := h
  obtain ⟨t, rfl⟩ := rx
  obtain ⟨t', rfl⟩ := ry
  exact rule i j t t' s _ _ ⟨.bl (g i j), H, I, rfl, q⟩

noncomputable def CDiv (i j : Int) : Prop := 0 < j ∧ j < 1073741824
noncomputable def CDivN (i j : Int) : Prop := j ≠ 0 ∧ j.natAbs < 1073741824
noncomputable def CPow (i j : Int) : Prop := 0 ≤ j ∧ j ≤ 1000000 ∧ i.natAbs < 2 ^ 64
noncomputable def CMul (i j : Int) : Prop := (-(2 ^ 64) < i ∧ i < 2 ^ 64) ∨ (-(2 ^ 64) < j ∧ j < 2 ^ 64)
theorem CMul.ok {i j : Int} (h : CMul i j) : IntMulOk i j := by
  rcases h with ⟨h1, h2⟩ | ⟨h1, h2⟩
  · exact .of_left (intBits_le_64 h1 h2)
  · exact .of_right (intBits_le_64 h1 h2)

theorem op_add : OpR X (binaryOp .Add) (rI0 fun i j => .int (i + j)) := opI0 fun _ _ _ _ _ _ _ q => add_int q
theorem op_sub : OpR X (binaryOp .Sub) (rI0 fun i j => .int (i - j)) := opI0 fun _ _ _ _ _ _ _ q => sub_int q
theorem op_mod : OpR X (binaryOp .Mod) (rI (fun _ j => 0 < j) fun i j => .int (i % j)) := opI fun i j _ _ _ _ _ hc q => by
  have h1 : (0 : Int) < j := hc
  exact mod_int' (by (first | lia | omega)) (by rw [Int.fmod_eq_emod_of_nonneg i (by (first | lia | omega))]; exact q)


theorem unI {f : Value → Sem Value} {g : Int → Int}
    (rule : ∀ (i : Int) (t : Tok) (s : Shared) (Q : Value → Shared → Prop) (E : Value → Shared → Prop), Q (.int (g i) s.toks) { s with toks := s.toks + 1 } → wpAny (model X.prog X.w) X.A (f (.int i t)) Q E s) :
    UnR X f (rU fun i => .int (g i)) := by
  intro pins s σ H x v Q I rx h
  obtain ⟨i, rfl, q⟩ := h
  obtain ⟨t, rfl⟩ := rx
  exact rule i t s _ _ ⟨.int (g i), H, I.tok _, ⟨_, rfl⟩, q⟩
theorem un_neg : UnR X (unaryOp .USub) (rU fun i => .int (-i)) := unI fun _ _ _ _ _ q => neg_int q

end

noncomputable def scal : V → V → Bool
  | .non, .non => true | .non, .int _ => true | .int _, .non => true | .non, .bl _ => true | .bl _, .non => true | .non, .str _ => true | .str _, .non => true
  | .int _, .int _ => true | .bl _, .bl _ => true | .str _, .str _ => true | .byt _, .byt _ => true
  | .int _, .str _ => true | .str _, .int _ => true | .bl _, .str _ => true | .str _, .bl _ => true
  | _, _ => false
noncomputable def rEq : R2 := fun x y H Q => scal x y = true ∧ Q (.bl (decide (x = y))) H
noncomputable def rNe : R2 := fun x y H Q => scal x y = true ∧ Q (.bl (!decide (x = y))) H

theorem dec_int {i j : Int} : decide (V.int i = V.int j) = (i == j) := by
  rw [Bool.eq_iff_iff]
  simp
theorem dec_bl {i j : Bool} : decide (V.bl i = V.bl j) = (i == j) := by
  rw [Bool.eq_iff_iff]
  simp
theorem dec_str {i j : Str} : decide (V.str i = V.str j) = (i == j) := by
  rw [Bool.eq_iff_iff]
  simp
theorem dec_byt {i j : Array UInt8} : decide (V.byt i = V.byt j) = (i.toList == j.toList) := by
  rw [Bool.eq_iff_iff]
  cases i
  cases j
  simp

section
variable {X : Cx} {a b c : Expr} {ta tb tc : TE} {pos : Pos}
theorem fin_bl {pins : List (Addr × Obj)} {σ : St} {H : Hp} {s : Shared} {Q : VK} {k k' : Bool} (I : Inv X pins σ H s) (q : Q (.bl k) H) (e : k = k') : EP X pins σ Q (.bool k') s := by
  subst e
  exact ⟨.bl k, H, I, rfl, q⟩
theorem op_eq : OpR X (compareOp .Eq) rEq := by
  intro pins s σ H x y v u Q I rx ry h
  obtain ⟨hs, q⟩ := h
  cases x with
  | non =>
    cases rx
    cases y with
    | non => cases ry; exact PySem.EqNone.eq_none_none (fin_bl I q (by simp))
    | bl j => cases ry; exact PySem.EqNone.eq_none_bool (fin_bl I q (by simp))
    | int j => obtain ⟨t', rfl⟩ := ry; exact PySem.EqNone.eq_none_int (fin_bl I q (by simp))
    | str j => obtain ⟨t', rfl⟩ := ry; exact PySem.EqNone.eq_none_str (fin_bl I q (by simp))
    | _ => exact absurd (show false = true from hs) Bool.false_ne_true
  | bl i =>
    cases rx
    cases y with
    | non => cases ry; exact PySem.EqNone.eq_bool_none (fin_bl I q (by simp))
    | bl j => cases ry; exact eq_bool (fin_bl I q dec_bl)
    | str j => obtain ⟨t', rfl⟩ := ry; exact PySem.EqMixed.eq_bool_str (fin_bl I q (by simp))
    | _ => exact absurd (show false = true from hs) Bool.false_ne_true
  | int i =>
    obtain ⟨t, rfl⟩ := rx
    cases y with
    | non => cases ry; exact PySem.EqNone.eq_int_none (fin_bl I q (by simp))
    | int j => obtain ⟨t', rfl⟩ := ry; exact eq_int (fin_bl I q dec_int)
    | str j => obtain ⟨t', rfl⟩ := ry; exact PySem.EqMixed.eq_int_str (fin_bl I q (by simp))
    | _ => exact absurd (show false = true from hs) Bool.false_ne_true
  | str i =>
    obtain ⟨t, rfl⟩ := rx
    cases y with
    | non => cases ry; exact PySem.EqNone.eq_str_none (fin_bl I q (by simp))
    | bl j => cases ry; exact PySem.EqMixed.eq_str_bool (fin_bl I q (by simp))
    | int j => obtain ⟨t', rfl⟩ := ry; exact PySem.EqMixed.eq_str_int (fin_bl I q (by simp))
    | str j => obtain ⟨t', rfl⟩ := ry; exact eq_str (fin_bl I q dec_str)
    | _ => exact absurd (show false = true from hs) Bool.false_ne_true
  | byt i =>
    obtain ⟨t, rfl⟩ := rx
    cases y with
    | byt j => obtain ⟨t', rfl⟩ := ry; exact PySem.W.eq_bytes (fin_bl I q dec_byt)
    | _ => exact absurd (show false = true from hs) Bool.false_ne_true
  | _ => cases y <;> exact absurd (show false = true from hs) Bool.false_ne_true
theorem op_ne : OpR X (compareOp .NotEq) rNe := by
  intro pins s σ H x y v u Q I rx ry h
  obtain ⟨hs, q⟩ := h
  cases x with
  | non =>
    cases rx
    cases y with
    | non => cases ry; exact PySem.EqNone.ne_none_none (fin_bl I q (by simp))
    | bl j => cases ry; exact PySem.EqNone.ne_none_bool (fin_bl I q (by simp))
    | int j => obtain ⟨t', rfl⟩ := ry; exact PySem.EqNone.ne_none_int (fin_bl I q (by simp))
    | str j => obtain ⟨t', rfl⟩ := ry; exact PySem.EqNone.ne_none_str (fin_bl I q (by simp))
    | _ => exact absurd (show false = true from hs) Bool.false_ne_true
  | bl i =>
    cases rx
    cases y with
    | non => cases ry; exact PySem.EqNone.ne_bool_none (fin_bl I q (by simp))
    | bl j => cases ry; exact ne_bool (fin_bl I q (congrArg not dec_bl))
    | str j => obtain ⟨t', rfl⟩ := ry; exact PySem.EqMixed.ne_bool_str (fin_bl I q (by simp))
    | _ => exact absurd (show false = true from hs) Bool.false_ne_true
  | int i =>
    obtain ⟨t, rfl⟩ := rx
    cases y with
    | non => cases ry; exact PySem.EqNone.ne_int_none (fin_bl I q (by simp))
    | int j => obtain ⟨t', rfl⟩ := ry; exact ne_int (fin_bl I q (congrArg not dec_int))
    | str j => obtain ⟨t', rfl⟩ := ry; exact PySem.EqMixed.ne_int_str (fin_bl I q (by simp))
    | _ => exact absurd (show false = true from hs) Bool.false_ne_true
  | str i =>
    obtain ⟨t, rfl⟩ := rx
    cases y with
    | non => cases ry; exact PySem.EqNone.ne_str_none (fin_bl I q (by simp))
    | bl j => cases ry; exact PySem.EqMixed.ne_str_bool (fin_bl I q (by simp))
    | int j => obtain ⟨t', rfl⟩ := ry; exact PySem.EqMixed.ne_str_int (fin_bl I q (by simp))
    | str j => obtain ⟨t', rfl⟩ := ry; exact ne_str (fin_bl I q (congrArg not dec_str))
    | _ => exact absurd (show false = true from hs) Bool.false_ne_true
  | byt i =>
    obtain ⟨t, rfl⟩ := rx
    cases y with
    | byt j => obtain ⟨t', rfl⟩ := ry; exact PySem.W.ne_bytes (fin_bl I q (congrArg not dec_byt))
    | _ => exact absurd (show false = true from hs) Bool.false_ne_true
  | _ => cases y <;> exact absurd (show false = true from hs) Bool.false_ne_true

theorem op_lt : OpR X (compareOp .Lt) (rI0 fun i j => .bl (decide (i < j))) := opB0 fun _ _ _ _ _ _ _ q => lt_int q
theorem op_gt : OpR X (compareOp .Gt) (rI0 fun i j => .bl (decide (j < i))) := opB0 fun _ _ _ _ _ _ _ q => gt_int q
theorem op_ge : OpR X (compareOp .GtE) (rI0 fun i j => .bl (decide (j ≤ i))) := opB0 fun _ _ _ _ _ _ _ q => ge_int q

theorem op_isN : OpR X (compareOp .Is) (fun x y H Q => y = .non ∧ Q (.bl (decide (x = .non))) H) := by
  intro pins s σ H x y v u Q I rx ry h
  obtain ⟨rfl, q⟩ := h
  cases ry
  refine is_none_gen (fin_bl I q ?_)
  cases x <;> first
    | (cases rx; rfl)
    | (obtain ⟨t, rfl⟩ := rx; rfl)
theorem op_notN : OpR X (compareOp .IsNot) (fun x y H Q => y = .non ∧ Q (.bl (!decide (x = .non))) H) := by
  intro pins s σ H x y v u Q I rx ry h
  obtain ⟨rfl, q⟩ := h
  cases ry
  refine isnot_none_gen (fin_bl I q ?_)
  cases x <;> first
    | (cases rx; rfl)
    | (obtain ⟨t, rfl⟩ := rx; rfl)

noncomputable def isObj : HO → Bool
  | .lst _ => true
  | .ins _ _ _ => true
  | _ => false


theorem nomark (b : Expr) {op : CmpOp} (h : op ≠ .In := by decide) (h2 : op ≠ .NotIn := by decide) : behindInMarks op b = false := by
  have e1 : (op == CmpOp.In) = false := by cases op <;> first | rfl | exact absurd rfl h
  have e2 : (op == CmpOp.NotIn) = false := by cases op <;> first | rfl | exact absurd rfl h2
  cases b <;> simp [behindInMarks, e1, e2]
theorem pe_cmpR {op : CmpOp} {r : R2} (ho : OpR X (compareOp op) r) (ha : PE X a ta) (hb : PE X b tb) (hm : behindInMarks op b = false) : PE X (.Compare a [op] [b] pos) (tOp r ta tb) := by
  intro pins s σ H Q I h
  exact wpAny_Compare1 (binT ha hb I h fun v u s2 x y H2 I2 rx ry q => ho pins s2 σ H2 x y v u Q I2 rx ry q) hm
noncomputable def tTest (t : TE) : TT := fun σ H Q => t σ H fun x H' => ∃ k, x = .bl k ∧ Q k H'
theorem pt_cmpR {op : CmpOp} {r : R2} (ho : OpR X (compareOp op) r) (ha : PE X a ta) (hb : PE X b tb) (hm : behindInMarks op b = false) : PT X (.Compare a [op] [b] pos) (tTest (tOp r ta tb)) := by
  intro pins s σ H Q I h
  refine wpAny_isTrue_Compare1 (thn (ha pins s σ H _ I h) fun v s1 ⟨x, H1, I1, r1, q1⟩ => thn (hb pins s1 σ H1 _ I1 q1) fun u s2 ⟨y, H2, I2, r2, q2⟩ =>
    thn (ho pins s2 σ H2 x y v u _ I2 r1 r2 q2) fun c s3 ⟨z, H3, I3, r3, k, e, q3⟩ => ?_) hm
  subst e
  cases r3
  exact wpAny_truthy_bool ⟨H3, I3, q3⟩
noncomputable def tChain (r r' : R2) (ta tb tc : TE) : TE := fun σ H Q => ta σ H fun x H1 => tb σ H1 fun y H2 => r x y H2 fun z H3 => ∃ k, z = .bl k ∧
  (if k = true then tc σ H3 fun w' H4 => r' y w' H4 Q else Q (.bl false) H3)

noncomputable def TruV (K : PySem.W.Frag) (x : V) (H : Hp) (k : Bool) : Prop :=
  match x with
  | .non => k = false
  | .bl b => k = b
  | .int i => k = (i != 0)
  | .str y => y.length ≤ sizeLine ∧ k = ((y.length : Int) != 0)
  | .byt y => y.size ≤ sizeLine ∧ k = ((y.size : Int) != 0)
  | .ref p => (∃ xs, SqL K H p xs ∧ k = !xs.isEmpty) ∨ (∃ xs, SqT K H p xs ∧ k = !xs.isEmpty) ∨ ∃ kvs, H p = some (.dK kvs) ∧ k = !kvs.isEmpty
  | _ => False
theorem line63 : (sizeLine : Nat) < 2 ^ 63 := by rw [sizeLine_eq]; decide


noncomputable def PlainIxT (b : Expr) : Prop := ∀ o i, subscripted b false o i = operate [o, i] (getItem o i)

theorem vals1 {x : V} {us : List Value} (r : Vals [x] us) : ∃ u, us = [u] ∧ RelV x u := by
  cases r with
  | cons r1 r2 => cases r2; exact ⟨_, rfl, r1⟩
theorem vals2 {x y : V} {us : List Value} (r : Vals [x, y] us) : ∃ u w', us = [u, w'] ∧ RelV x u ∧ RelV y w' := by
  cases r with
  | cons r1 r2 =>
    cases r2 with
    | cons r3 r4 => cases r4; exact ⟨_, _, rfl, r1, r3⟩
theorem call_abs : CallR X (.builtin "abs") (fun xs H Q => ∃ i, xs = [.int i] ∧ Q (.int (if i < 0 then -i else i)) H) := by
  intro pins s σ H xs us Q I r h
  obtain ⟨i, rfl, q⟩ := h
  obtain ⟨u, rfl, t, rfl⟩ := vals1 r
  exact call_abs_int fun u tk => ⟨.int (if i < 0 then -i else i), H, I.tok _, ⟨_, rfl⟩, q⟩
theorem call_max2 (hc : X.calm = true) : CallR X (.builtin "max") (fun xs H Q => ∃ i j, xs = [.int i, .int j] ∧ Q (.int (if j > i then j else i)) H) := by
  intro pins s σ H xs us Q I r h
  obtain ⟨i, j, rfl, q⟩ := h
  obtain ⟨u, w', rfl, ⟨t, rfl⟩, ⟨t', rfl⟩⟩ := vals2 r
  refine max_two_ints (I.ok.hd hc) fun h' tk k => ⟨_, H, I.kept k, ?_, q⟩
  by_cases hj : j > i
  · rw [if_pos hj, if_pos hj]; exact ⟨_, rfl⟩
  · rw [if_neg hj, if_neg hj]; exact ⟨_, rfl⟩
theorem call_min2 (hc : X.calm = true) : CallR X (.builtin "min") (fun xs H Q => ∃ i j, xs = [.int i, .int j] ∧ Q (.int (if j < i then j else i)) H) := by
  intro pins s σ H xs us Q I r h
  obtain ⟨i, j, rfl, q⟩ := h
  obtain ⟨u, w', rfl, ⟨t, rfl⟩, ⟨t', rfl⟩⟩ := vals2 r
  refine min_two_ints (I.ok.hd hc) fun h' tk k => ⟨_, H, I.kept k, ?_, q⟩
  by_cases hj : j < i
  · rw [if_pos hj, if_pos hj]; exact ⟨_, rfl⟩
  · rw [if_neg hj, if_neg hj]; exact ⟨_, rfl⟩
noncomputable def LenV (K : PySem.W.Frag) (x : V) (H : Hp) (n : Nat) : Prop :=
  match x with
  | .str y => y.length ≤ sizeLine ∧ n = y.length
  | .byt y => y.size ≤ sizeLine ∧ n = y.size
  | .ref p => (∃ xs, SqL K H p xs ∧ n = xs.length) ∨ ∃ xs, SqT K H p xs ∧ n = xs.length
  | _ => False
end
end L2

namespace L2
open PySem PySem.Spec PyProof.Rows

structure ObjM (h : Heap) (x dx C : Addr) (mA : Str → Option Value) : Prop where
  obj : h.get? x = some (PySem.W.instObj C dx)
  ns : h.Ns1 dx mA
  ne : dx ≠ x

theorem lookIn_ns {h : Heap} {dx : Addr} {mA : Str → Option Value} (n : h.Ns1 dx mA) : ∃ od, h.get? dx = some od ∧ ∀ name, PySem.W.lookIn name od = some (mA name) := by
  obtain ⟨o, es, ep, ho, hd, hk, _, hm⟩ := n
  refine ⟨o, ho, fun name => ?_⟩
  have e := hm name
  unfold nsFind findBy at e
  rw [← Array.find?_toList] at e
  unfold PySem.W.lookIn
  rw [hd]
  dsimp only
  split
  · rename_i y q
    rw [q] at e
    exact congrArg some e
  · rename_i q
    rw [q] at e
    have a : es.toList.any (·.refKey) = false := by
      rw [List.any_eq_false]
      intro y hy
      obtain ⟨z, t, hkey⟩ := hk y (Array.mem_toList_iff.mp hy)
      simp [DictEntry.refKey, hkey]
    have a' : ¬ es.toList.any (·.refKey) = true := by rw [a]; exact Bool.false_ne_true
    rw [if_neg a']
    exact congrArg some e

theorem ObjM.look {h : Heap} {x dx C : Addr} {mA : Str → Option Value} (I : ObjM h x dx C mA) : ∃ od, PySem.W.InstAt h x (PySem.W.instObj C dx) C (some od) ∧ ∀ name, PySem.W.lookIn name od = some (mA name) :=
  let ⟨od, ho, hl⟩ := lookIn_ns I.ns
  ⟨od, ⟨I.obj, rfl, rfl, ho⟩, hl⟩

section
variable {prog : Program} {w : World} {A : Around} {E : Value → Shared → Prop} {s : Shared} {K : PySem.W.Frag} {x dx C f : Addr} {mA : Str → Option Value} {name : Str} {v : Value}




theorem set_map {ns : List Str} {Q : Unit → Shared → Prop} (X : K.In s.heap) (I : ObjM s.heap x dx C mA)
    (hs : PySem.W.findIn K (.ref C) "__setattr__" = some (some (.builtin "object.__setattr__"))) (hp : PySem.W.plainOver K C = true) (ht : PySem.W.takerIn K C name = some none) (hh : PySem.W.hasDictIn K C = true)
    (hw : PySem.Within mA ns) (hsz : ns.length ≤ sizeLine)
    (h : ∀ h', ObjM h' x dx C (fun y => if y = name then some v else mA y) → Heap.SameBut dx s.heap h' → Q () { s with heap := h', toks := s.toks + 2 }) :
    wpAny (model prog w) A (setAttr (.ref x) name v) Q E s := by
  obtain ⟨od, J, hl⟩ := I.look
  refine PySem.W.set_plain X J hs (PySem.W.osa_open (s := { s with toks := s.toks + 1 }) (r := none) X J hp ht fun b => ?_)
  obtain ⟨cd, hc, hd'⟩ := PySem.W.any_some hh
  have hx : s.heap.get? x = some ⟨.ref C, some dx, .plain, #[]⟩ := I.obj
  refine wpAny_bind (wpAny_pure (wpAny_bind (wpAny_bind (wpAny_loadPart hx (wpAny_bind (PySem.W.Looks.here (s := { s with toks := s.toks + 1 }) (PySem.W.looks_clsIn X hc) ?_))))))
  rw [hd']
  refine wpAny_pure (a := some dx) (wpAny_bind (wpAny_pure (wpAny_bind ?_)))
  refine wpAny_nsSet1 (s := { s with toks := s.toks + 1 }) I.ns fun h' hn2 hs2 => ?_
  obtain ⟨oD, esD, epD, hoD, hdD, hcD⟩ := hn2.count (PySem.Within.cons name v hw)
  refine wpAny_bind (wpAny_lookBehind hoD (by rw [hdD]; exact pastItsLine_dict (Nat.le_trans hcD (by rw [List.length_cons]; (first | lia | omega)))) ?_)
  exact wpAny_pure (h _ ⟨(hs2.2 _ (Ne.symm I.ne)).trans I.obj, hn2, I.ne⟩ hs2)

theorem make_map {R : Result → Shared → Prop} {vs : List Value} {kw : List (Str × Value)} (X : K.In s.heap) (hm : PySem.W.makesIn K C = true)
    (hi : PySem.W.findIn K (.ref C) "__init__" = some (some (.ref f))) (hf : PySem.W.typeIn K (.ref f) = some (.type "function"))
    (h : codeAny (model prog w) (A.under (.builtin "type.__call__" ⟨.ref C :: vs, kw⟩)) (.call (.ref f) ⟨.ref (s.heap.objs.size + 1) :: vs, kw⟩) (PySem.W.InitBack (s.heap.objs.size + 1) R)
      { s with heap := (s.heap.push PySem.W.emptyDict).push (PySem.W.instObj C s.heap.objs.size) }) :
    codeAny (model prog w) A (.call (.ref C) ⟨vs, kw⟩) R s := by
  obtain ⟨hh, g, d, t, os⟩ := s
  exact PySem.W.make_core (PySem.W.makes_of X hm) (PySem.W.looks_findIn X hi) (fun self => PySem.W.bind_fn X self hf) (.inl rfl) h
end

noncomputable def putF (f : Str) (v : V) : List (Str × V) → List (Str × V)
  | [] => [(f, v)]
  | (g, x) :: r => if g = f then (g, v) :: r else (g, x) :: putF f v r
theorem lookup_putF (f g : Str) (v : V) : ∀ fs : List (Str × V), (putF f v fs).lookup g = if g = f then some v else fs.lookup g
  | [] => by
    show List.lookup g [(f, v)] = _
    by_cases h : g = f
    · have hb : (g == f) = true := beq_iff_eq.mpr h
      simp only [List.lookup, hb, if_pos h]
    · have hb : (g == f) = false := beq_eq_false_iff_ne.mpr h
      simp only [List.lookup, hb, if_neg h]
  | (k, x) :: r => by
    have ih := lookup_putF f g v r
    rw [show putF f v ((k, x) :: r) = (if k = f then (k, v) :: r else (k, x) :: putF f v r) from rfl]
    by_cases hk : k = f
    · rw [if_pos hk]
      by_cases h : g = k
      · have hb : (g == k) = true := beq_iff_eq.mpr h
        simp only [List.lookup, hb, if_pos (h.trans hk)]
      · have hb : (g == k) = false := beq_eq_false_iff_ne.mpr h
        simp only [List.lookup, hb, if_neg (fun e : g = f => h (e.trans hk.symm))]
    · rw [if_neg hk]
      by_cases h : g = k
      · have hb : (g == k) = true := beq_iff_eq.mpr h
        simp only [List.lookup, hb, if_neg (fun e : g = f => hk (h.symm.trans e))]
      · have hb : (g == k) = false := beq_eq_false_iff_ne.mpr h
        simp only [List.lookup, hb]
        exact ih
theorem keys_putF (f : Str) (v : V) : ∀ fs : List (Str × V), f ∈ (putF f v fs).map (·.1) ∧ ∀ g, g ∈ fs.map (·.1) → g ∈ (putF f v fs).map (·.1)
  | [] => ⟨by simp [putF], fun g h => by simp at h⟩
  | (k, x) :: r => by
    obtain ⟨i1, i2⟩ := keys_putF f v r
    rw [show putF f v ((k, x) :: r) = (if k = f then (k, v) :: r else (k, x) :: putF f v r) from rfl]
    by_cases hk : k = f
    · rw [if_pos hk]
      subst hk
      exact ⟨by simp, fun g h => by simpa using h⟩
    · rw [if_neg hk]
      refine ⟨?_, fun g h => ?_⟩
      · rw [List.map_cons]
        exact List.mem_cons_of_mem _ i1
      · rw [List.map_cons] at h ⊢
        rcases List.mem_cons.mp h with e | e
        · exact List.mem_cons.mpr (.inl e)
        · exact List.mem_cons_of_mem _ (i2 g e)
theorem length_putF (f : Str) (v : V) : ∀ fs : List (Str × V), (putF f v fs).length ≤ fs.length + 1
  | [] => by simp [putF]
  | (k, x) :: r => by
    have ih := length_putF f v r
    rw [show putF f v ((k, x) :: r) = (if k = f then (k, v) :: r else (k, x) :: putF f v r) from rfl]
    by_cases hk : k = f
    · rw [if_pos hk, List.length_cons, List.length_cons]; (first | lia | omega)
    · rw [if_neg hk, List.length_cons, List.length_cons]; (first | lia | omega)

theorem RelO.some_of {v : V} {o : Option Value} (r : RelO (some v) o) : ∃ u, o = some u ∧ RelV v u := by
  cases o with
  | none => exact (show False from r).elim
  | some u => exact ⟨u, rfl, r⟩
theorem handed_of {v : V} {u : Value} (r : RelV v u) : PySem.W.handedIn u = true := by
  cases v with
  | non => cases (show u = Value.none from r); rfl
  | bl b => cases (show u = Value.bool b from r); rfl
  | int i => obtain ⟨t, e⟩ := (show ∃ t, u = Value.int i t from r); cases e; rfl
  | str x => obtain ⟨t, e⟩ := (show ∃ t, u = Value.str x t from r); cases e; rfl
  | byt b => obtain ⟨t, e⟩ := (show ∃ t, u = Value.bytes b t from r); cases e; rfl
  | flt b => obtain ⟨t, e⟩ := (show ∃ t, u = Value.float b t from r); cases e; rfl
  | ref a => cases (show u = Value.ref a from r); rfl
  | ty n => cases (show u = Value.type n from r); rfl

section
variable {P : Program} {w : World} {H H' : Hp} {h h' : Heap} {a C dx : Addr} {fs fs' : List (Str × V)}
theorem ins_get (hok : HOk P w H h) (e : H a = some (.ins C dx fs)) : ∃ mA, ObjM h a dx C mA ∧ (∀ f, RelO (fs.lookup f) (mA f)) ∧ PySem.Within mA (fs.map (·.1)) ∧ fs.length ≤ 1000 ∧ H dx = some (.own a) := by
  obtain ⟨d, z, ne, ob, mA, n, r, q⟩ := (show ObjOk P w H h a (.ins C dx fs) from hok a _ e)
  exact ⟨mA, ⟨ob, n, ne⟩, r, q, z, d⟩
end

structure Cls (K : PySem.W.Frag) (C : Addr) : Prop where
  pg : PySem.W.plainGet K C Str.empty = true
  hd : PySem.W.hasDictIn K C = true
  po : PySem.W.plainOver K C = true
  sa : PySem.W.findIn K (.ref C) "__setattr__" = some (some (.builtin "object.__setattr__"))
theorem Cls.get {K : PySem.W.Frag} {C : Addr} (c : Cls K C) (f : Str) : PySem.W.plainGet K C f = true := c.pg
noncomputable def NoAttr (K : PySem.W.Frag) (C : Addr) (f : Str) : Prop := PySem.W.findIn K (.ref C) f = some none
theorem NoAttr.taker {K : PySem.W.Frag} {C : Addr} {f : Str} (n : NoAttr K C f) : PySem.W.takerIn K C f = some none := by
  unfold PySem.W.takerIn
  rw [show PySem.W.findIn K (.ref C) f = some none from n]
  rfl
structure Con (K : PySem.W.Frag) (C : Addr) (f : Str) (v : V) (u : Value) : Prop where
  at_ : PySem.W.findIn K (.ref C) f = some (some u)
  rel : RelV v u
  get : PySem.W.specialIn K u "__get__" = some none
  cp : PySem.W.copiedNames.contains f = false
structure Meth (K : PySem.W.Frag) (C : Addr) (m : Str) (f : Addr) : Prop where
  at_ : PySem.W.findIn K (.ref C) m = some (some (.ref f))
  fn : PySem.W.isFn K (.ref f) = true
  kp : PySem.W.keepIn K (.ref f) = true

section
variable {X : Cx} {pins : List (Addr × Obj)} {σ : St} {H : Hp} {s : Shared} {a C dx : Addr} {fs : List (Str × V)} {f : Str} {v : V} {A : Around} {E : Value → Shared → Prop}




theorem setattr_ok {y : V} {u : Value} {Q : Unit → Shared → Prop} (I : Inv X pins σ H s) (e : H a = some (.ins C dx fs)) (c : Cls X.K C) (n : NoAttr X.K C f) (hl : fs.length < 1000) (ry : RelV y u)
    (h : ∀ s', Inv X pins σ (upd H a (.ins C dx (putF f y fs))) s' → Q () s') : wpAny (model X.prog X.w) A (setAttr (.ref a) f u) Q E s := by
  obtain ⟨mA, O, r, wi, _, ho⟩ := ins_get I.hok e
  have hz : (fs.map (·.1)).length ≤ sizeLine := by rw [List.length_map, sizeLine_eq]; (first | lia | omega)
  refine set_map I.kIn O c.sa c.po n.taker c.hd wi hz fun h' O' sb => h _ ?_
  have hd : ∃ o, h'.get? dx = some o := let ⟨o, _, _, e', _⟩ := O'.ns; ⟨o, e'⟩
  refine I.write (x := a) (e := dx) (by rw [e]; exact True.intro) (.inr ho) (fun b q hb z => (sb.2 b hb).trans z) hd ?_
  refine ⟨by rw [upd_ne O.ne]; exact ho, ?_, O.ne, O'.obj, _, O'.ns, fun g => ?_, fun g hg => ?_⟩
  · have := length_putF f y fs; (first | lia | omega)
  · show RelO ((putF f y fs).lookup g) (if g = f then some u else mA g)
    rw [lookup_putF]
    by_cases q : g = f
    · rw [if_pos q, if_pos q]; exact ry
    · rw [if_neg q, if_neg q]; exact r g
  · by_cases q : g = f
    · rw [q]; exact (keys_putF f y fs).1
    · refine (keys_putF f y fs).2 g (wi g fun z => hg ?_)
      show (if g = f then some u else mA g) = none
      rw [if_neg q]; exact z

theorem Inv.made (I : Inv X pins σ H s) : Inv X pins σ (upd (upd H s.heap.objs.size (.own (s.heap.objs.size + 1))) (s.heap.objs.size + 1) (.ins C s.heap.objs.size []))
    { s with heap := (s.heap.push PySem.W.emptyDict).push (PySem.W.instObj C s.heap.objs.size) } := by
  have e1 : (s.heap.push PySem.W.emptyDict).get? s.heap.objs.size = some PySem.W.emptyDict := Heap.get?_push_size s.heap rfl
  have e2 : ((s.heap.push PySem.W.emptyDict).push (PySem.W.instObj C s.heap.objs.size)).get? (s.heap.objs.size + 1) = some (PySem.W.instObj C s.heap.objs.size) := by
    have := Heap.get?_push_size (s.heap.push PySem.W.emptyDict) (o := PySem.W.instObj C s.heap.objs.size) rfl
    rwa [Heap.size_push] at this
  have e3 : (s.heap.push PySem.W.emptyDict).Ns s.heap.objs.size (fun _ => none) := ⟨PySem.W.emptyDict, #[], _, e1, rfl, (fun e he => absurd he (by simp)), fun _ => rfl⟩
  have I1 := I.laid (a := s.heap.objs.size) (o := .own (s.heap.objs.size + 1)) (h' := s.heap.push PySem.W.emptyDict) (t' := s.toks) (fun b u q => Heap.get?_push_of_some _ q) (Nat.le_refl _) ⟨_, e1⟩
  refine I1.laid (a := s.heap.objs.size + 1) (o := .ins C s.heap.objs.size []) (t' := s.toks) (fun b u q => Heap.get?_push_of_some _ q) (Nat.le_of_eq (Heap.size_push _ _)) ?_
  have ne : s.heap.objs.size ≠ s.heap.objs.size + 1 := Nat.ne_of_lt (Nat.lt_succ_self _)
  refine ⟨by rw [upd_ne ne, upd_same], Nat.zero_le _, ne, e2, fun _ => none, (Heap.Ns1.of_empty e3).at fun o q => Heap.get?_push_of_some _ q, fun _ => True.intro, fun y hy => absurd rfl hy⟩

theorem attr_of {prog : Program} {w : World} {env : Env} {e : Expr} {f : Str} {pos : Pos} {s : Shared} {Q : Value → Shared → Prop} (hb : attributeBase e f env (eval e env) = eval e env)
    (h : wpAny (model prog w) A (eval e env) (fun o s₁ => wpAny (model prog w) A (getAttr o f true) Q E s₁) E s) : wpAny (model prog w) A (eval (.Attribute e f pos) env) Q E s :=
  Attribute_any_ h (by rw [arm_eval_Attribute, hb])
end

noncomputable def tFld (K : PySem.W.Frag) (ta : TE) (f : Str) : TE := fun σ H Q => ta σ H fun x H1 => ∃ a C dx fs v, x = .ref a ∧ H1 a = some (.ins C dx fs) ∧ Cls K C ∧ NoAttr K C f ∧ fs.lookup f = some v ∧ Q v H1
noncomputable def tCon (K : PySem.W.Frag) (ta : TE) (f : Str) : TE := fun σ H Q => ta σ H fun x H1 => ∃ a C dx fs v u, x = .ref a ∧ H1 a = some (.ins C dx fs) ∧ Cls K C ∧ Con K C f v u ∧ fs.lookup f = none ∧ Q v H1
noncomputable def sFld (K : PySem.W.Frag) (ta tv : TE) (f : Str) : TS := fun D σ H => tv σ H fun y H1 => ta σ H1 fun x H2 => ∃ a C dx fs, x = .ref a ∧ H2 a = some (.ins C dx fs) ∧ Cls K C ∧ NoAttr K C f ∧ fs.length < 1000 ∧
  D.nx σ (upd H2 a (.ins C dx (putF f y fs)))
noncomputable def InOp (X : Cx) (op : Operator) (rd : V → V → Hp → VK → Prop) : Prop :=
  ∀ (pins : List (Addr × Obj)) (s : Shared) (σ : St) (H : Hp) (x y : V) (u v : Value) (Q : VK), Inv X pins σ H s → RelV x u → RelV y v → rd x y H Q → wpAny (model X.prog X.w) X.A (inplaceOp op u v) (EP X pins σ Q) X.xe s
noncomputable def sFldAug (K : PySem.W.Frag) (ta tv : TE) (rd : V → V → Hp → VK → Prop) (f : Str) : TS := fun D σ H => ta σ H fun x H1 => ∃ a C dx fs v, x = .ref a ∧ H1 a = some (.ins C dx fs) ∧ Cls K C ∧ NoAttr K C f ∧ fs.lookup f = some v ∧
  tv σ H1 fun y H2 => rd v y H2 fun z H3 => ∃ dx' fs', H3 a = some (.ins C dx' fs') ∧ fs'.length < 1000 ∧ D.nx σ (upd H3 a (.ins C dx' (putF f z fs')))

section
variable {X : Cx} {o e value : Expr} {f : Str} {pos pos' tpos : Pos} {ta tv : TE}
theorem ps_fld (ha : PE X o ta) (hv : PE X value tv) (hs : swapsWith value (some (.Attribute o f pos')) pos.line X.env = pure false) : PS X (.Assign [.Attribute o f pos'] value pos) (sFld X.K ta tv f) := by
  intro pins s σ H D I h
  refine plainObj_wpAny_Assign_Attribute (thn (hv pins s σ H _ I h) fun u s1 ⟨y, H1, I1, ry, q⟩ => thn (ha pins s1 σ H1 _ I1 q) fun ov s2 ⟨x, H2, I2, rx, a, C, dx, fs, ex, ea, c, n, l, q2⟩ => ?_) hs
  subst ex
  obtain rfl : ov = Value.ref a := rx
  exact setattr_ok I2 ea c n l ry fun s3 I3 => ⟨σ, _, I3, q2⟩
noncomputable def rAdd : V → V → Hp → VK → Prop := fun x y H Q => ∃ i j, x = .int i ∧ y = .int j ∧ Q (.int (i + j)) H
noncomputable def rSub : V → V → Hp → VK → Prop := fun x y H Q => ∃ i j, x = .int i ∧ y = .int j ∧ Q (.int (i - j)) H

end

section
variable {X : Cx} {pins : List (Addr × Obj)} {σ : St} {H : Hp} {s : Shared} {A : Around} {E : Value → Shared → Prop} {Q : Value → Shared → Prop} {c : Value} {b : Bool}
inductive TyOf (K : PySem.W.Frag) (H : Hp) : V → Value → Prop where
  | non : TyOf K H .non (.type "NoneType")
  | bl (x : Bool) : TyOf K H (.bl x) (.type "bool")
  | int (i : Int) : TyOf K H (.int i) (.type "int")
  | str (x : Str) : TyOf K H (.str x) (.type "str")
  | flt (x : UInt64) : TyOf K H (.flt x) (.type "float")
  | lst {a : Addr} {xs : List V} (e : H a = some (.lst xs)) : TyOf K H (.ref a) (.type "list")
  | frz {a : Addr} {o : Obj} {xs : List V} (e : H a = some (.frz o (.lst xs))) : TyOf K H (.ref a) (.type "list")
  | tup {a : Addr} {xs : List V} (e : H a = some (.tup xs)) : TyOf K H (.ref a) (.type "tuple")
  | dK {a : Addr} {kvs : List (Key × V)} (e : H a = some (.dK kvs)) : TyOf K H (.ref a) (.type "dict")
  | dT {a : Addr} {kvs : List (List Key × V)} (e : H a = some (.dT kvs)) : TyOf K H (.ref a) (.type "dict")
  | ins {a C dx : Addr} {fs : List (Str × V)} (e : H a = some (.ins C dx fs)) (cl : Cls K C) (ha : PySem.W.findIn K (.ref C) "__class__" = some (some (.builtin "object.__class__")))
      (hn : PySem.W.specialIn K (.builtin "object.__class__") "__get__" = some (some (.builtin "getset_descriptor.__get__"))) (htk : PySem.W.takesIn K (.builtin "object.__class__") = some true)
      (hm : PySem.W.mroIn K C (.type "object") = some true) : TyOf K H (.ref a) (.ref C)
theorem isinst_ok {x : V} {u t : Value} (I : Inv X pins σ H s) (rx : RelV x u) (ty : TyOf X.K H x t) (e : PySem.W.kitOne X.K t c = some b) (h : ∀ tk, Q (.bool b) { s with toks := tk }) :
    wpAny (model X.prog X.w) A (call (.builtin "isinstance") [u, c]) Q E s := by
  cases ty with
  | non => cases (show u = Value.none from rx); exact PySem.W.kia_one PySem.W.kitx_none I.kIn True.intro e (fun z => nomatch z) h
  | bl y => cases (show u = Value.bool y from rx); exact PySem.W.kia_one PySem.W.kitx_bool I.kIn True.intro e (fun z => nomatch z) h
  | int i => obtain ⟨t, q⟩ := (show ∃ t, u = Value.int i t from rx); cases q; exact PySem.W.kia_one PySem.W.kitx_int I.kIn True.intro e (fun z => nomatch z) h
  | str y => obtain ⟨t, q⟩ := (show ∃ t, u = Value.str y t from rx); cases q; exact PySem.W.kia_one PySem.W.kitx_str I.kIn True.intro e (fun z => nomatch z) h
  | flt y => obtain ⟨t, q⟩ := (show ∃ t, u = Value.float y t from rx); cases q; exact PySem.W.kia_one PySem.W.kitx_float I.kIn True.intro e (fun z => nomatch z) h
  | @lst a xs ea =>
    cases (show u = Value.ref a from rx)
    obtain ⟨_, _, n, _, h1⟩ := (show ObjOk X.prog X.w H s.heap a (.lst xs) from I.hok a _ ea)
    exact PySem.W.kia_one PySem.W.kitx_list I.kIn ⟨_, h1, rfl⟩ e (fun z => nomatch z) h
  | @frz a ob xs ea =>
    cases (show u = Value.ref a from rx)
    obtain ⟨_, _, _, n, _, h1⟩ := (show ObjOk X.prog X.w H s.heap a (.frz ob (.lst xs)) from I.hok a _ ea)
    exact PySem.W.kia_one PySem.W.kitx_list I.kIn ⟨_, h1, rfl⟩ e (fun z => nomatch z) h
  | @tup a xs ea =>
    cases (show u = Value.ref a from rx)
    obtain ⟨_, _, _, p⟩ := (show ObjOk X.prog X.w H s.heap a (.tup xs) from I.hok a _ ea)
    obtain ⟨o, h1, h2, _⟩ := p
    exact PySem.W.kia_one PySem.W.kitx_tuple I.kIn ⟨o, h1, h2⟩ e (fun z => nomatch z) h
  | @dK a kvs ea =>
    cases (show u = Value.ref a from rx)
    obtain ⟨_, _, vs, _, p⟩ := (show ObjOk X.prog X.w H s.heap a (.dK kvs) from I.hok a _ ea)
    obtain ⟨o, es, ep, h1, h2, _⟩ := p
    exact PySem.W.kia_one PySem.W.kitx_dict I.kIn ⟨o, h1, h2.1⟩ e (fun z => nomatch z) h
  | @dT a kvs ea =>
    cases (show u = Value.ref a from rx)
    obtain ⟨_, _, xs, _, o, es, ep, h1, h2, _⟩ := (show ObjOk X.prog X.w H s.heap a (.dT kvs) from I.hok a _ ea)
    exact PySem.W.kia_one PySem.W.kitx_dict I.kIn ⟨o, h1, h2.1⟩ e (fun z => nomatch z) h
  | @ins a C dx fs ea cl ha hn htk hm =>
    cases (show u = Value.ref a from rx)
    obtain ⟨mA, O, _⟩ := ins_get I.hok ea
    obtain ⟨od, J, _⟩ := O.look
    exact PySem.W.kia_one (PySem.W.kitx_own (cl.get _) cl.hd ha hn htk hm) I.kIn J e (fun z => nomatch z) h
end
end L2

namespace L2
open PySem PySem.Spec PyProof.Rows

structure Room (k : Nat) (A : Around) : Prop where
  hd : A.handled = none
  dp : A.depth + 3 * k + 5 < recursionLimit
  un : A.units + 16 * k + 200 < cLine
theorem Room.mono {j k : Nat} {A : Around} (r : Room k A) (h : j ≤ k) : Room j A := ⟨r.hd, by have := r.dp; (first | lia | omega), by have := r.un; (first | lia | omega)⟩
theorem Room.deeper {k : Nat} {A : Around} (r : Room (k + 1) A) (env : Env) : Room k (A.deeper env) :=
  ⟨r.hd, by have := r.dp; show A.depth + 1 + 3 * k + 5 < _; (first | lia | omega), by have := r.un; show A.units + 3 + 16 * k + 200 < _; (first | lia | omega)⟩
theorem make_depth {A : Around} {C : Addr} {us : List Value} {kw : List (Str × Value)} : (A.under (.builtin "type.__call__" ⟨.ref C :: us, kw⟩)).depth = A.depth + 1 := by
  first | rfl | simp [Around.under, Code.weight, Code.isCreation, Code.isGuard, Code.isCaller, Code.frames, Code.isFrame, guardIds]
theorem make_units {A : Around} {C : Addr} {us : List Value} {kw : List (Str × Value)} : (A.under (.builtin "type.__call__" ⟨.ref C :: us, kw⟩)).units = A.units + 1 := by
  first | rfl | simp [Around.under, Code.cUnits, Code.frames, Code.isFrame]
theorem Room.make {k : Nat} {A : Around} (r : Room (k + 1) A) (C : Addr) (us : List Value) (kw : List (Str × Value)) : Room k (A.under (.builtin "type.__call__" ⟨.ref C :: us, kw⟩)) :=
  ⟨r.hd, by have := r.dp; rw [make_depth]; (first | lia | omega), by have := r.un; rw [make_units]; (first | lia | omega)⟩
theorem Room.depth {k : Nat} {A : Around} (r : Room k A) : A.depth < recursionLimit := by have := r.dp; (first | lia | omega)
theorem Room.units {k : Nat} {A : Around} (r : Room k A) : A.units + 64 < cLine := by have := r.un; (first | lia | omega)

noncomputable def tNil : TA := fun _ H Q => Q [] H
noncomputable def tCons (ta : TE) (tr : TA) : TA := fun σ H Q => ta σ H fun x H1 => tr σ H1 fun xs H2 => Q (x :: xs) H2
section
variable {X : Cx} {e : Expr} {es : List Expr} {te : TE} {t : TA} {pos : Pos}
theorem pa_nil : PA X [] tNil := fun _ _ _ _ H Q I h => Calls.spliced_nil ⟨[], H, I, .nil, h⟩
theorem pa_cons (ha : PE X e te) (hr : PA X es t) (hs : starEach (e :: es) X.env = (false, eval e X.env) :: starEach es X.env := by rfl) : PA X (e :: es) (tCons te t) := by
  intro pos pins s σ H Q I h
  rw [hs]
  show wpAny _ _ (spliced ((false, eval e X.env) :: backTo pos (starEach es X.env))) _ _ s
  refine Calls.spliced_cons (thn (ha pins s σ H _ I h) fun u s1 ⟨x, H1, I1, r1, q1⟩ => ?_)
  exact thn (hr pos pins s1 σ H1 _ I1 q1) fun us s2 ⟨xs, H2, I2, r2, q2⟩ => ⟨x :: xs, H2, I2, .cons r1 r2, q2⟩

noncomputable def tTup (t : TA) : TE := fun σ H Q => t σ H fun xs H1 => xs.length ≤ sizeLine ∧ ∀ p, H1 p = none → Q (.ref p) (upd H1 p (.tup xs))
noncomputable def tLst (t : TA) : TE := fun σ H Q => t σ H fun xs H1 => xs.length ≤ sizeLine ∧ ∀ p, H1 p = none → Q (.ref p) (upd H1 p (.lst xs))
theorem pe_tup {x1} (h : PA X es t) : PE X (.Tuple es x1 pos) (tTup t) := by
  intro pins s σ H Q I hq
  refine wpAny_Tuple_spliced (thn (h pos pins s σ H _ I hq) fun us s1 ⟨xs, H1, I1, r, z, q⟩ => ⟨by rw [← r.length]; exact z, ?_⟩)
  have hf : H1 s1.heap.objs.size = none := I1.hok.fresh (Nat.le_refl _)
  refine ⟨.ref s1.heap.objs.size, upd H1 s1.heap.objs.size (.tup xs), I1.laid (t' := s1.toks) (fun b u e => Heap.get?_push_of_some _ e) (Nat.le_refl _) ?_, rfl, q _ hf⟩
  exact ⟨z, us, r, ⟨_, Heap.get?_push_size _ rfl, rfl, _, rfl⟩⟩
theorem pe_lst (h : PA X es t) : PE X (.List es pos) (tLst t) := by
  intro pins s σ H Q I hq
  refine wpAny_List_spliced (thn (h pos pins s σ H _ I hq) fun us s1 ⟨xs, H1, I1, r, z, q⟩ => ⟨by rw [← r.length]; exact z, ?_⟩)
  have hf : H1 s1.heap.objs.size = none := I1.hok.fresh (Nat.le_refl _)
  refine ⟨.ref s1.heap.objs.size, upd H1 s1.heap.objs.size (.lst xs), I1.laid (t' := s1.toks) (fun b u e => Heap.get?_push_of_some _ e) (Nat.le_refl _) ?_, rfl, q _ hf⟩
  exact ⟨z, us, 0, r, Heap.get?_push_size _ rfl⟩
end

noncomputable abbrev Sp := List V → Hp → VK → XK → Prop
noncomputable abbrev CXT := List Env → Hp → Shared → XK → Value → Shared → Prop

structure Env0 (P : Program) (w : World) (K : PySem.W.Frag) (mg : Str → Option Value) (base : Heap) (A : Around) (outer : List Env) (s : Shared) (H : Hp) : Prop where
  frames : A.frames = some outer
  mod : Mod K mg base
  bs : ∀ b o, base.get? b = some o → s.heap.get? b = some o ∧ H b = none
  bsz : base.objs.size ≤ s.heap.objs.size
  funs : s.heap.FunFrames base outer
  frf : ∀ b ∈ frs outer, H b = none
  hok : HOk P w H s.heap
  bare : AllBare s.gens
noncomputable def CE (outer : List Env) (P : Program) (w : World) (H : Hp) (s : Shared) (Q : VK) (u : Value) (s' : Shared) : Prop :=
  ∃ v H', s'.os = s.os ∧ AllBare s'.gens ∧ Un (frs outer) [] H H' s.heap s'.heap ∧ HOk P w H' s'.heap ∧ RelV v u ∧ Q v H'
noncomputable def CR (CX : CXT) (outer : List Env) (P : Program) (w : World) (H : Hp) (s : Shared) (Q : VK) (E : XK) (r : Result) (s' : Shared) : Prop :=
  match r with
  | .ok (.ret u) => CE outer P w H s Q u s'
  | .ok _ => False
  | .error e => CX outer H s E e s'
structure FnOk (P : Program) (w : World) (K : PySem.W.Frag) (mg : Str → Option Value) (base : Heap) (CX : CXT) (k : Nat) (f : Addr) (fd : FuncData) (ps : List Str) (sp : Sp) : Prop where
  len : ∀ vs H Q E, sp vs H Q E → vs.length = ps.length
  run : ∀ (A : Around) (outer : List Env) (s : Shared) (H : Hp) (args : Args) (us : List Value) (vs : List V) (Q : VK) (E : XK), Room k A → Env0 P w K mg base A outer s H → BindsTo s fd args (ps.zip us) → Vals vs us → sp vs H Q E →
    codeAny (model P w) A (.call (.ref f) args) (CR CX outer P w H s Q E) s
theorem FnOk.imp {P : Program} {w : World} {K : PySem.W.Frag} {mg : Str → Option Value} {base : Heap} {CX : CXT} {k : Nat} {f : Addr} {fd : FuncData} {ps : List Str} {sp sp' : Sp} (F : FnOk P w K mg base CX k f fd ps sp)
    (h : ∀ vs H Q E, sp' vs H Q E → sp vs H Q E) : FnOk P w K mg base CX k f fd ps sp' :=
  ⟨fun vs H Q E q => F.len vs H Q E (h _ _ _ _ q), fun A outer s H args us vs Q E hr he hb hv hs => F.run A outer s H args us vs Q E hr he hb hv (h _ _ _ _ hs)⟩

theorem Env0.make {P : Program} {w : World} {K : PySem.W.Frag} {mg : Str → Option Value} {base : Heap} {A : Around} {outer : List Env} {s : Shared} {H : Hp} (e : Env0 P w K mg base A outer s H) (C : Addr) (us : List Value) (kw : List (Str × Value)) :
    Env0 P w K mg base (A.under (.builtin "type.__call__" ⟨.ref C :: us, kw⟩)) outer s H := ⟨by first | exact e.frames | (simpa [Around.under, Code.envs, Code.isFrame, pushEnvs] using e.frames), e.mod, e.bs, e.bsz, e.funs, e.frf, e.hok, e.bare⟩

section
variable {X : Cx} {pins : List (Addr × Obj)} {σ : St} {H : Hp} {s s' : Shared}
theorem Inv.env0 (I : Inv X pins σ H s) : Env0 X.prog X.w X.K X.mg X.base X.A X.stack s H :=
  ⟨I.ok.frames, I.ok.mod, I.bs, Nat.le_trans I.ok.bsz I.sz, I.stack, I.stkFree, I.hok, I.bare⟩
theorem Inv.after {Q : VK} {u : Value} (I : Inv X pins σ H s) (h : CE X.stack X.prog X.w H s Q u s') : EP X pins σ Q u s' := by
  obtain ⟨v, H', os, bare, un, hok, r, q⟩ := h
  obtain ⟨hh, g, d, t, os'⟩ := s'
  obtain rfl : os' = s.os := os
  exact ⟨v, H', I.call (h' := hh) (g' := g) (d' := d) (t' := t) (ch := []) un hok bare (fun b z => absurd z (by simp)), r, q⟩
end

noncomputable def tCall (sp : Sp) (dvs : List V) (E : XK) (t : TA) : TE := fun σ H Q => t σ H fun vs H1 => sp (vs ++ dvs) H1 Q E
noncomputable def tMeth (C : Addr) (m : Str) (sp : Sp) (dvs : List V) (E : XK) (ta : TE) (t : TA) : TE := fun σ H Q => ta σ H fun x H1 => ∃ a dx fs, x = .ref a ∧ H1 a = some (.ins C dx fs) ∧ fs.lookup m = none ∧
  t σ H1 fun vs H2 => sp (x :: (vs ++ dvs)) H2 Q E
noncomputable def tMake (C : Addr) (sp : Sp) (dvs : List V) (E : XK) (t : TA) : TE := fun σ H Q => t σ H fun vs H1 => ∀ x dx, H1 x = none → H1 dx = none → dx ≠ x →
  sp (.ref x :: (vs ++ dvs)) (upd (upd H1 dx (.own x)) x (.ins C dx [])) (fun v H2 => v = .non ∧ Q (.ref x) H2) E

noncomputable def Binds (K : PySem.W.Frag) (fd : FuncData) (ps : List Str) (ds : List Value) : Prop :=
  ∀ (s : Shared) (us : List Value), K.In s.heap → (us ++ ds).length = ps.length → BindsTo s fd ⟨us, []⟩ (ps.zip (us ++ ds))
theorem Binds.all {K : PySem.W.Frag} {fd : FuncData} {ps : List Str} (h : ∀ us : List Value, us.length = ps.length → bindArgs fd ⟨us, []⟩ = pure (ps.zip us)) : Binds K fd ps [] := fun s us _ hl => by
  rw [List.append_nil] at hl ⊢
  exact .of_eq (h us hl)

noncomputable def Passes (CX : CXT) (X : Cx) (E : XK) : Prop := ∀ (pins : List (Addr × Obj)) (σ : St) (H : Hp) (s : Shared) (e : Value) (s' : Shared), Inv X pins σ H s → CX X.stack H s E e s' → X.xe e s'

section
variable {X : Cx} {CX : CXT} {k : Nat} {f C : Addr} {fd : FuncData} {ps : List Str} {sp : Sp} {dvs : List V} {ds : List Value} {E : XK} {x m : Str} {p pos apos : Pos} {e o : Expr} {es : List Expr} {ta : TE} {t : TA}

theorem run_fn {pins : List (Addr × Obj)} {σ : St} {H : Hp} {s : Shared} {Q : VK} {us : List Value} {vs : List V} (F : FnOk X.prog X.w X.K X.mg X.base CX k f fd ps sp) (hr : Room k X.A) (hb : Binds X.K fd ps ds) (hd : Vals dvs ds) (hx : Passes CX X E)
    (I : Inv X pins σ H s) (r : Vals vs us) (h : sp (vs ++ dvs) H Q E) : wpAny (model X.prog X.w) X.A (call (.ref f) us) (EP X pins σ Q) X.xe s := by
  have r2 : Vals (vs ++ dvs) (us ++ ds) := r.append hd
  have hl : (us ++ ds).length = ps.length := by rw [← r2.length]; exact F.len _ _ _ _ h
  refine wpAny_call (codeAny_mono (F.run X.A X.stack s H ⟨us, []⟩ (us ++ ds) (vs ++ dvs) Q E hr I.env0 (hb s us I.kIn hl) r2 h) fun r s' hq => ?_)
  cases r with
  | error e => exact hx pins σ H s e s' I hq
  | ok fl =>
    cases fl with
    | ret u => exact I.after hq
    | next => exact False.elim hq
    | brk => exact False.elim hq
    | cont => exact False.elim hq

theorem pe_call (F : FnOk X.prog X.w X.K X.mg X.base CX k f fd ps sp) (hr : Room k X.A) (hg : Gl X x) (hm : X.mg x = some (.ref f)) (hk : PySem.W.keepIn X.K (.ref f) = true) (hb : Binds X.K fd ps ds) (hd : Vals dvs ds) (hx : Passes CX X E)
    (ha : PA X (e :: es) t) (hdb : (x == ("__debug__" : Str)) = false := by decide) (he : starEach (e :: es) X.env = (false, eval e X.env) :: starEach es X.env := by rfl) (hpl : (backTo pos (starEach es X.env)).any (·.1) = false := by rfl) :
    PE X (.Call (.Name x p) (e :: es) [] pos) (tCall sp dvs E t) := by
  intro pins s σ H Q I h
  refine wpAny_Call_Name_kw (ld_glob I hg hm ?_ hdb)
  refine PySem.W.callWith_K (h₀ := X.base) I.ok.mod.kin hk (thn (ha pos pins s σ H _ I h) fun us s1 ⟨vs, H1, I1, r, q⟩ => ⟨I1.kIn, ?_⟩) he hpl
  exact run_fn F hr hb hd hx I1 r q


structure Mk (K : PySem.W.Frag) (C f : Addr) : Prop where
  makes : PySem.W.makesIn K C = true
  init : PySem.W.findIn K (.ref C) "__init__" = some (some (.ref f))
  fn : PySem.W.isFn K (.ref f) = true
  kp : PySem.W.keepIn K (.ref C) = true

theorem run_make {pins : List (Addr × Obj)} {σ : St} {H : Hp} {s : Shared} {Q : VK} {us : List Value} {vs : List V} (M : Mk X.K C f) (F : FnOk X.prog X.w X.K X.mg X.base CX k f fd ps sp) (hr : Room (k + 1) X.A) (hb : Binds X.K fd ps ds) (hd : Vals dvs ds)
    (hx : Passes CX X E) (I : Inv X pins σ H s) (r : Vals vs us)
    (h : ∀ x dx, H x = none → H dx = none → dx ≠ x → sp (.ref x :: (vs ++ dvs)) (upd (upd H dx (.own x)) x (.ins C dx [])) (fun v H2 => v = .non ∧ Q (.ref x) H2) E) :
    wpAny (model X.prog X.w) X.A (call (.ref C) us) (EP X pins σ Q) X.xe s := by
  have hq := h (s.heap.objs.size + 1) s.heap.objs.size (I.hok.fresh (Nat.le_succ _)) (I.hok.fresh (Nat.le_refl _)) (Nat.ne_of_lt (Nat.lt_succ_self _))
  have I2 := Inv.made (C := C) I
  have r2 : Vals (V.ref (s.heap.objs.size + 1) :: (vs ++ dvs)) (Value.ref (s.heap.objs.size + 1) :: (us ++ ds)) := .cons rfl (r.append hd)
  have hl : (Value.ref (s.heap.objs.size + 1) :: us ++ ds).length = ps.length := by
    have e := r2.length
    rw [F.len _ _ _ _ hq] at e
    exact e.symm
  refine wpAny_call (make_map (f := f) I.kIn M.makes M.init (beq_iff_eq.mp M.fn) (codeAny_mono (F.run _ X.stack _ _ ⟨Value.ref (s.heap.objs.size + 1) :: us, []⟩ (Value.ref (s.heap.objs.size + 1) :: (us ++ ds)) _ _ E (hr.make C us [])
    (I2.env0.make C us []) (hb _ (Value.ref (s.heap.objs.size + 1) :: us) I2.kIn hl) r2 hq) fun r s' hq' => ?_))
  cases r with
  | error e => exact hx pins σ _ _ e s' I2 hq'
  | ok fl =>
    cases fl with
    | ret u =>
      obtain ⟨v, H', I3, rv, ev, q3⟩ := I2.after hq'
      subst ev
      exact ⟨rv, ⟨V.ref (s.heap.objs.size + 1), H', I3, rfl, q3⟩⟩
    | next => exact False.elim hq'
    | brk => exact False.elim hq'
    | cont => exact False.elim hq'
theorem pe_make (M : Mk X.K C f) (F : FnOk X.prog X.w X.K X.mg X.base CX k f fd ps sp) (hr : Room (k + 1) X.A) (hg : Gl X x) (hm : X.mg x = some (.ref C)) (hb : Binds X.K fd ps ds) (hd : Vals dvs ds) (hx : Passes CX X E)
    (ha : PA X (e :: es) t) (hdb : (x == ("__debug__" : Str)) = false := by decide) (he : starEach (e :: es) X.env = (false, eval e X.env) :: starEach es X.env := by rfl) (hpl : (backTo pos (starEach es X.env)).any (·.1) = false := by rfl) :
    PE X (.Call (.Name x p) (e :: es) [] pos) (tMake C sp dvs E t) := by
  intro pins s σ H Q I h
  refine wpAny_Call_Name_kw (ld_glob I hg hm ?_ hdb)
  refine PySem.W.callWith_K (h₀ := X.base) I.ok.mod.kin M.kp (thn (ha pos pins s σ H _ I h) fun us s1 ⟨vs, H1, I1, r, q⟩ => ⟨I1.kIn, ?_⟩) he hpl
  exact run_make M F hr hb hd hx I1 r q
end

noncomputable def PK (X : Cx) (kws : List Keyword) (t : TA) : Prop :=
  ∀ (pos : Pos) (pins : List (Addr × Obj)) (s : Shared) (σ : St) (H : Hp) (Q : List V → Hp → Prop), Inv X pins σ H s → t σ H Q → wpAny (model X.prog X.w) X.A (evalAll ((backToKw pos (keywordEach kws X.env)).map (·.2))) (AP X pins σ Q) X.xe s
section
variable {X : Cx} {CX : CXT} {k : Nat} {f C : Addr} {fd : FuncData} {ps ks : List Str} {sp : Sp} {E : XK} {x m : Str} {p pos apos kpos : Pos} {e o : Expr} {es : List Expr} {kws : List Keyword} {te ta : TE} {t tk : TA} {nm : Option Str}

structure KBinds (K : PySem.W.Frag) (fd : FuncData) (ps ks : List Str) (g : List Value → List Value → List Value) (gV : List V → List V → List V) : Prop where
  to : ∀ (s : Shared) (us ws : List Value), K.In s.heap → (g us ws).length = ps.length → BindsTo s fd ⟨us, ks.zip ws⟩ (ps.zip (g us ws))
  rel : ∀ {vs : List V} {us : List Value} {zs : List V} {ws : List Value}, Vals vs us → Vals zs ws → Vals (gV vs zs) (g us ws)
noncomputable def tCallK (sp : Sp) (gV : List V → List V → List V) (E : XK) (t tk : TA) : TE := fun σ H Q => t σ H fun vs H1 => tk σ H1 fun zs H2 => sp (gV vs zs) H2 Q E
variable {g : List Value → List Value → List Value} {gV : List V → List V → List V}
end

structure FnScope (N P : List Str) (sc : Scope) : Prop where
  kind : sc.kind = .function
  co : sc.isCoroutine = false
  gen : sc.isGenerator = false
  nd : N.Nodup
  pre : N.take P.length = P
  par : ∀ x ∈ P, sc.names.lookup x = some .local ∨ sc.names.lookup x = some .cell
  nofree : ∀ y ∈ sc.names, y.2 ≠ .free

theorem bindL_out {kindOf : Str → Option NameKind} {x : Str} : ∀ {binds : List (Str × Value)} {m : Str → Option Value}, (∀ v, (x, v) ∉ binds) → bindL kindOf binds m x = m x
  | [], _, _ => rfl
  | (n, v) :: r, m, h => by
    unfold bindL
    rw [bindL_out fun w hw => h w (List.mem_cons_of_mem _ hw)]
    split
    · have : x ≠ n := by rintro rfl; exact h v List.mem_cons_self
      simp [this]
    · rfl
theorem bindC_out {kindOf : Str → Option NameKind} {x : Str} : ∀ {binds : List (Str × Value)} {m : Str → Option Value}, (∀ v, (x, v) ∉ binds) → bindC kindOf binds m x = m x
  | [], _, _ => rfl
  | (n, v) :: r, m, h => by
    unfold bindC
    rw [bindC_out fun w hw => h w (List.mem_cons_of_mem _ hw)]
    split
    · rfl
    · have : x ≠ n := by rintro rfl; exact h v List.mem_cons_self
      simp [this]
theorem bindL_get {kindOf : Str → Option NameKind} {x : Str} {v : Value} : ∀ {P : List Str} {vs : List Value} {i : Nat} {m : Str → Option Value}, P.Nodup → P[i]? = some x → vs[i]? = some v → kindOf x = some .local →
    bindL kindOf (P.zip vs) m x = some v
  | [], _, _, _, _, h, _, _ => by simp at h
  | _ :: _, [], _, _, _, _, h, _ => by simp at h
  | p :: P, w :: vs, 0, m, nd, h1, h2, hk => by
    simp at h1 h2; subst h1; subst h2
    show bindL kindOf ((p, w) :: P.zip vs) m p = _
    unfold bindL
    rw [bindL_out fun v hv => (List.nodup_cons.mp nd).1 (List.of_mem_zip hv).1, if_pos hk]
    simp
  | p :: P, w :: vs, i + 1, m, nd, h1, h2, hk => by
    show bindL kindOf ((p, w) :: P.zip vs) m x = _
    unfold bindL
    exact bindL_get (i := i) (List.nodup_cons.mp nd).2 (by simpa using h1) (by simpa using h2) hk
theorem bindC_get {kindOf : Str → Option NameKind} {x : Str} {v : Value} : ∀ {P : List Str} {vs : List Value} {i : Nat} {m : Str → Option Value}, P.Nodup → P[i]? = some x → vs[i]? = some v → kindOf x ≠ some .local →
    bindC kindOf (P.zip vs) m x = some v
  | [], _, _, _, _, h, _, _ => by simp at h
  | _ :: _, [], _, _, _, _, h, _ => by simp at h
  | p :: P, w :: vs, 0, m, nd, h1, h2, hk => by
    simp at h1 h2; subst h1; subst h2
    show bindC kindOf ((p, w) :: P.zip vs) m p = _
    unfold bindC
    rw [bindC_out fun v hv => (List.nodup_cons.mp nd).1 (List.of_mem_zip hv).1, if_neg hk]
    simp
  | p :: P, w :: vs, i + 1, m, nd, h1, h2, hk => by
    show bindC kindOf ((p, w) :: P.zip vs) m x = _
    unfold bindC
    exact bindC_get (i := i) (List.nodup_cons.mp nd).2 (by simpa using h1) (by simpa using h2) hk

noncomputable def start (N : List Str) (vs : List V) : St := vs.map some ++ List.replicate (N.length - vs.length) none

noncomputable def cxOf (CX : CXT) (P : Program) (w : World) (K : PySem.W.Frag) (mg : Str → Option Value) (base : Heap) (N : List Str) (qual : Str) (scope : Scope) (f : Addr) (cd : Value) (A : Around) (outer : List Env) (s : Shared) (H : Hp) (E : XK) : Cx where
  prog := P
  w := w
  K := K
  mg := mg
  base := base
  A := A.deeper (envOfC qual scope s.heap.objs.size f cd)
  N := N
  s₀ := s
  H₀ := H
  env := envOfC qual scope s.heap.objs.size f cd
  outer := outer
  stack := envOfC qual scope s.heap.objs.size f cd :: outer
  ex := []
  calm := true
  fn := fun _ => true
  pn := []
  xe := fun e s' => wpAny (model P w) (A.deeper (envOfC qual scope s.heap.objs.size f cd)) (leaving (envOfC qual scope s.heap.objs.size f cd) e) (fun _ s'' => CX outer H s E e s'') (fun e' s'' => CX outer H s E e' s'') s'

theorem cell_has {sc : Scope} {n : Nat} {x : Str} (h : sc.names.lookup x = some .cell) : ∃ c, (cellsFrom n sc.names []).lookup x = some c := by
  have q := PySem.W.cellsFrom_some sc.names n [] (.inl h)
  exact Option.isSome_iff_exists.mp q

theorem inv_start {CX : CXT} {P : Program} {w : World} {K : PySem.W.Frag} {mg : Str → Option Value} {base : Heap} {N ps : List Str} {qual : Str} {scope : Scope} {f : Addr} {cd : Value} {A : Around} {outer : List Env} {s s1 : Shared} {H : Hp} {E : XK} {us : List Value} {vs : List V}
    (S : FnScope N ps scope) (hd : A.handled = none) (e0 : Env0 P w K mg base A outer s H) (hl : vs.length = ps.length) (r : Vals vs us)
    (x : InCallC s s.heap.objs.size (bindL (envOfC qual scope s.heap.objs.size f cd).kindOf (ps.zip us) fun _ => none) (cellsFrom (s.heap.objs.size + 1) scope.names []) (bindC (envOfC qual scope s.heap.objs.size f cd).kindOf (ps.zip us) fun _ => none) s1) :
    Inv (cxOf CX P w K mg base N qual scope f cd A outer s H E) [] (start N vs) H s1 := by
  have hpl : ps.length ≤ N.length := by have := congrArg List.length S.pre; rw [List.length_take] at this; (first | lia | omega)
  obtain ⟨h1, tk, rfl, hk⟩ := x.done
  have noA : ∀ b : Addr, b ∉ (cxOf CX P w K mg base N qual scope f cd A outer s H E).ex := fun b z => absurd (show b ∈ ([] : List Addr) from z) (by simp)
  refine ⟨⟨e0.mod, S.kind, rfl, rfl, Nat.le_refl _, fun y z c h1 h2 => ?_, fun y hy => ?_, fun y c _ h => ?_, fun _ => hd, Around.frames_deeper e0.frames, .inr ⟨rfl, rfl⟩, fun b z => absurd z (noA b), e0.bs, e0.bsz, fun b _ _ => noA b, fun b z => absurd z (noA b), e0.funs, e0.frf⟩,
    rfl, e0.bare, Un.kept hk, ⟨_, x.toInCall.ns, fun i y v h1 h2 h3 => ?_⟩, fun y c h => ⟨_, x.cell y c h⟩, e0.hok.fresh (Nat.le_refl _), fun y c h => ?_, fun p hp => absurd (show p ∈ ([] : List (Addr × Obj)) from hp) (by simp), e0.hok.kept hk, ?_⟩
  · exact name_of_addr x.apart (PySem.mem_of_lookup h1) (PySem.mem_of_lookup h2)
  · have hy : scope.names.lookup y = some .cell ∨ scope.names.lookup y = some .free := hy
    rcases hy with hy | hy
    · exact cell_has hy
    · exact absurd rfl (S.nofree _ (PySem.mem_of_lookup hy))
  · exact Nat.le_of_lt (x.above y c (PySem.mem_of_lookup h))
  · have hi : i < vs.length := by
      unfold start at h2
      by_cases hi : i < vs.length
      · exact hi
      · rw [List.getElem?_append_right (by simpa using hi)] at h2
        rw [List.getElem?_replicate] at h2
        split at h2 <;> cases h2
    have ha : vs[i]? = some v := by
      unfold start at h2
      rw [List.getElem?_append_left (by simpa using hi), List.getElem?_map] at h2
      cases e : vs[i]? with
      | none => rw [e] at h2; cases h2
      | some a => rw [e] at h2; cases h2; rfl
    obtain ⟨u, hu, rv⟩ := r.get ha
    have hp : ps[i]? = some y := by
      rw [← S.pre, List.getElem?_take_of_lt (by (first | lia | omega))]; exact h1
    have ndP : ps.Nodup := by rw [← S.pre]; exact S.nd.sublist (List.take_sublist _ _)
    refine ⟨u, rv, ?_⟩
    rcases S.par y (List.mem_of_getElem? hp) with k | k
    · exact .inl ⟨k, bindL_get ndP hp hu k⟩
    · obtain ⟨c, e⟩ := cell_has (n := s.heap.objs.size + 1) k
      refine .inr ⟨.inl k, c, e, ?_⟩
      have q := x.cell y c e
      rw [bindC_get ndP hp hu (by show scope.names.lookup y ≠ _; rw [k]; decide)] at q
      exact q
  · exact e0.hok.fresh (Nat.le_of_lt (x.above y c (PySem.mem_of_lookup h)))
  · unfold start
    show _ = N.length
    rw [List.length_append, List.length_map, List.length_replicate]
    (first | lia | omega)

theorem fn_of {CX : CXT} {P : Program} {w : World} {K : PySem.W.Frag} {mg : Str → Option Value} {base : Heap} {k : Nat} {f : Addr} {name qual : Str} {params : Arguments} {body : List Stmt} {scope : Scope} {dV kV doc pm cdv ct oc : Value} {an od : Option Addr}
    {osl : Array (Option Value)} {N ps : List Str} {sp : Sp} (lk : K.lookup f = some ⟨oc, od, .func (PySem.W.fnOf name qual params body scope dV kV doc pm an cdv ct), osl⟩) (hcd : PySem.W.codeIn K cdv qual = true) (S : FnScope N ps scope)
    (len : ∀ vs H Q E, sp vs H Q E → vs.length = ps.length)
    (hbody : ∀ (A : Around) (outer : List Env) (s : Shared) (H : Hp) (vs : List V) (Q : VK) (E : XK), Room k (A.deeper (envOfC qual scope s.heap.objs.size f cdv)) → sp vs H Q E →
      ∃ t, PSs (cxOf CX P w K mg base N qual scope f cdv A outer s H E) body t ∧ t { nx := fun _ H' => Q .non H', rt := Q } (start N vs) H) :
    FnOk P w K mg base CX (k + 1) f (PySem.W.fnOf name qual params body scope dV kV doc pm an cdv ct) ps sp := by
  refine ⟨len, fun A outer s H args us vs Q E hr e0 hb r hsp => ?_⟩
  have hl := len _ _ _ _ hsp
  have KX : K.In s.heap := e0.mod.kin.keeps fun b o e => (e0.bs b o e).1
  have lim : s.heap.NoLimit := e0.mod.nolimit.keeps fun b o e => (e0.bs b o e).1
  have hkind : ∀ y ∈ ps.zip us, scope.names.lookup y.1 = some .local ∨ (scope.names.lookup y.1 = some .cell ∧ ((cellsFrom (s.heap.objs.size + 1) scope.names []).lookup y.1).isSome = true) := fun ⟨n, v⟩ hy => by
    rcases S.par n (List.of_mem_zip hy).1 with q | q
    · exact .inl q
    · exact .inr ⟨q, PySem.W.cellsFrom_some _ _ _ (.inl q)⟩
  refine codeAny_call_function hr.depth (KX _ _ lk) rfl S.co S.gen rfl (PySem.W.codeRec_of KX hcd) (hb _ _ _ _ ?_)
  refine wpAny_newFunctionEnv_cells S.kind hkind fun env he s1 x => ?_
  subst he
  refine ⟨lim.keeps x.toInCall.keep, codeAny_func ?_⟩
  obtain ⟨t, ht, hq⟩ := hbody A outer s H vs Q E (hr.deeper _) hsp
  have I : Inv (cxOf CX P w K mg base N qual scope f cdv A outer s H E) [] (start N vs) H s1 := inv_start S hr.hd e0 hl r x
  refine wpAny_mono (ht [] s1 (start N vs) H _ I hq) (fun fl s' hs => ?_) fun e s' hs => hs
  have fin : ∀ {σ' : St} {H' : Hp} {v : V} {u : Value}, Inv (cxOf CX P w K mg base N qual scope f cdv A outer s H E) [] σ' H' s' → RelV v u → Q v H' → CE outer P w H s Q u s' :=
    fun {σ' H' v u} J rv q => ⟨v, H', J.os, J.bare, J.base, J.hok, rv, q⟩
  cases fl with
  | ret u =>
    obtain ⟨v, σ', H', J, rv, q⟩ := hs
    exact fin J rv q
  | next =>
    obtain ⟨σ', H', J, q⟩ := hs
    exact fin (v := V.non) (u := Value.none) J rfl q
  | brk =>
    obtain ⟨_, _, _, q⟩ := hs
    exact False.elim q
  | cont =>
    obtain ⟨_, _, _, q⟩ := hs
    exact False.elim q
end L2

namespace L2
open PySem PySem.Spec PyProof.Rows
section
variable {X : Cx} {x : Str} {p pos : Pos} {e : Expr} {es : List Expr} {t : TA} {id T : String} {r : List V → Hp → VK → Prop}

noncomputable def tCB (r : List V → Hp → VK → Prop) (t : TA) : TE := fun σ H Q => t σ H fun vs H1 => r vs H1 Q
theorem pe_callB (hc : CallR X (.builtin id) r) (hg : Gl X x) (hm : X.mg x = none) (hv : bootBuiltins x = some (.builtin id)) (ha : PA X (e :: es) t) (hn : x ≠ "__name__" := by decide) (hdb : (x == ("__debug__" : Str)) = false := by decide)
    (he : starEach (e :: es) X.env = (false, eval e X.env) :: starEach es X.env := by rfl) (hpl : (backTo pos (starEach es X.env)).any (·.1) = false := by rfl) : PE X (.Call (.Name x p) (e :: es) [] pos) (tCB r t) := by
  intro pins s σ H Q I h
  refine wpAny_Call_Name_kw (ld_blt I hg hm hv ?_ hn hdb)
  exact PyProof.Rows.callWith_builtin1 (thn (ha pos pins s σ H _ I h) fun us s1 ⟨vs, H1, I1, r1, q1⟩ => hc pins s1 σ H1 vs us Q I1 r1 q1) he hpl
theorem pe_callTy (hc : CallR X (.type T) r) (hg : Gl X x) (hm : X.mg x = none) (hv : bootBuiltins x = some (.type T)) (ha : PA X (e :: es) t) (hn : x ≠ "__name__" := by decide) (hdb : (x == ("__debug__" : Str)) = false := by decide)
    (he : starEach (e :: es) X.env = (false, eval e X.env) :: starEach es X.env := by rfl) (hpl : (backTo pos (starEach es X.env)).any (·.1) = false := by rfl) : PE X (.Call (.Name x p) (e :: es) [] pos) (tCB r t) := by
  intro pins s σ H Q I h
  refine wpAny_Call_Name_kw (ld_blt I hg hm hv ?_ hn hdb)
  exact PyProof.Rows.callWith_type1 (thn (ha pos pins s σ H _ I h) fun us s1 ⟨vs, H1, I1, r1, q1⟩ => hc pins s1 σ H1 vs us Q I1 r1 q1) he hpl
end
end L2

namespace HT
open PySem PyProof.Rows

noncomputable def lexLt : List Int → List Int → Bool
  | [], [] => false
  | [], _ :: _ => true
  | _ :: _, [] => false
  | x :: xs, y :: ys => if x = y then lexLt xs ys else decide (x < y)


section
open PySem.SeqAt
open PySem.AutoSeq1 (wpAny_loadPart')
open PySem.MeetsSeq PySem.MeetsSeq2 PySem.MeetsSeq3

end

section
variable {prog : Program} {w : World} {A : Around} {E : Value → Shared → Prop} {s : Shared}



noncomputable def sIx (n d : Nat) : Option Int → Nat
  | none => d
  | some v => if v < 0 then (v + (n : Int)).toNat else min v.toNat n

end
end HT

namespace L2
open PySem PySem.Spec PyProof.Rows

noncomputable abbrev TO := St → Hp → (Option Int → Hp → Prop) → Prop
noncomputable def PO (X : Cx) (e : Option Expr) (t : TO) : Prop :=
  ∀ (pins : List (Addr × Obj)) (s : Shared) (σ : St) (H : Hp) (Q : Option Int → Hp → Prop), Inv X pins σ H s → t σ H Q →
    wpAny (model X.prog X.w) X.A (evalPart e X.env) (fun u s' => ∃ o H', Inv X pins σ H' s' ∧ IsPart u o ∧ Q o H') X.xe s
noncomputable def tNoPart : TO := fun _ H Q => Q none H
noncomputable def tPart (t : TE) : TO := fun σ H Q => t σ H fun x H1 => ∃ i, x = .int i ∧ Q (some i) H1


section
variable {X : Cx} {e : Expr} {te : TE} {lo hi : Option Expr} {tl th : TO} {pos p2 : Pos}

theorem po_none : PO X none tNoPart := by
  intro pins s σ H Q I h
  rw [evalPart_none]
  exact wpAny_pure ⟨none, H, I, .none, h⟩
theorem po_some (h : PE X e te) : PO X (some e) (tPart te) := by
  intro pins s σ H Q I hw
  rw [evalPart_some]
  refine thn (h pins s σ H _ I hw) fun u s1 ⟨x, H1, I1, r1, q1⟩ => ?_
  obtain ⟨i, rfl, q⟩ := q1
  obtain ⟨t, rfl⟩ := r1
  exact ⟨some i, H1, I1, .int i t, q⟩

noncomputable def SlR (X : Cx) (r : V → Option Int → Option Int → Hp → VK → Prop) : Prop :=
  ∀ (pins : List (Addr × Obj)) (s : Shared) (σ : St) (H : Hp) (x : V) (v vl vu : Value) (lo hi : Option Int) (sl : Addr) (Q : VK), Inv X pins σ H s → RelV x v → s.heap.IsSliceOf sl vl vu .none → IsPart vl lo → IsPart vu hi → r x lo hi H Q →
    ∃ T id, typeLookup (.type T) "__getitem__" = pure (some (.builtin id)) ∧ s.TypeIs v T ∧ wpAny (model X.prog X.w) X.A (getItem v (.ref sl)) (EP X pins σ Q) X.xe s
noncomputable def tSl (r : V → Option Int → Option Int → Hp → VK → Prop) (te : TE) (tl th : TO) : TE := fun σ H Q => te σ H fun x H1 => tl σ H1 fun l H2 => th σ H2 fun u H3 => r x l u H3 Q

noncomputable def cutV (xs : List V) (lo hi : Option Int) : List V := (xs.drop (HT.sIx xs.length 0 lo)).take (HT.sIx xs.length xs.length hi - HT.sIx xs.length 0 lo)
noncomputable def rSlT (K : PySem.W.Frag) : V → Option Int → Option Int → Hp → VK → Prop := fun x lo hi H Q => ∃ a xs, x = .ref a ∧ SqT K H a xs ∧
  ¬ (HT.sIx xs.length 0 lo = 0 ∧ HT.sIx xs.length xs.length hi = xs.length) ∧ ∀ p, H p = none → Q (.ref p) (upd H p (.tup (cutV xs lo hi)))

noncomputable def rLtT (K : PySem.W.Frag) : R2 := fun x y H Q => ∃ a b ns ms, x = .ref a ∧ y = .ref b ∧ SqT K H a (ns.map V.int) ∧ SqT K H b (ms.map V.int) ∧ Q (.bl (HT.lexLt ns ms)) H
noncomputable def rCatT (K : PySem.W.Frag) : R2 := fun x y H Q => ∃ a b xs ys, x = .ref a ∧ y = .ref b ∧ SqT K H a xs ∧ SqT K H b ys ∧ xs ≠ [] ∧ xs.length + ys.length ≤ sizeLine ∧
  (ys = [] → Q (.ref a) H) ∧ (ys ≠ [] → ∀ p, H p = none → Q (.ref p) (upd H p (.tup (xs ++ ys))))
end
end L2

namespace L2
open PySem PySem.Spec PyProof.Rows

noncomputable def ixN (n : Nat) (i : Int) : Option Nat := if 0 ≤ i then (if i < n then some i.toNat else none) else if -(n : Int) ≤ i then some (i + n).toNat else none
noncomputable def atI {α : Type} (xs : List α) (i : Int) : Option α := (ixN xs.length i).bind fun j => xs[j]?
theorem ixN_seq {n : Nat} {i : Int} {j : Nat} (h : ixN n i = some j) : seqIndex? i n = some j ∧ j < n ∧ -(n : Int) ≤ i ∧ i < n := by
  unfold ixN at h
  by_cases h0 : 0 ≤ i
  · rw [if_pos h0] at h
    by_cases h1 : i < n
    · rw [if_pos h1] at h
      have e : i.toNat = j := Option.some.inj h
      exact ⟨by rw [seqIndex_of h0 h1, e], by (first | lia | omega), by (first | lia | omega), h1⟩
    · rw [if_neg h1] at h; cases h
  · rw [if_neg h0] at h
    by_cases h1 : -(n : Int) ≤ i
    · rw [if_pos h1] at h
      have e : (i + n).toNat = j := Option.some.inj h
      exact ⟨by rw [seqIndex_neg (by (first | lia | omega)) h1, e], by (first | lia | omega), h1, by (first | lia | omega)⟩
    · rw [if_neg h1] at h; cases h
theorem atI_get {α : Type} {xs : List α} {i : Int} {v : α} (h : atI xs i = some v) : ∃ j, seqIndex? i xs.length = some j ∧ xs[j]? = some v ∧ j < xs.length ∧ -(xs.length : Int) ≤ i ∧ i < xs.length := by
  unfold atI at h
  cases e : ixN xs.length i with
  | none => rw [e] at h; cases h
  | some j =>
    rw [e] at h
    obtain ⟨h1, h2, h3, h4⟩ := ixN_seq e
    exact ⟨j, h1, h, h2, h3, h4⟩
theorem atI_nat {α : Type} {xs : List α} {j : Nat} {v : α} (h : xs[j]? = some v) : atI xs (j : Int) = some v := by
  have hj : j < xs.length := (List.getElem?_eq_some_iff.mp h).1
  have e : ixN xs.length (j : Int) = some j := by
    unfold ixN
    rw [if_pos (by (first | lia | omega)), if_pos (by (first | lia | omega))]; simp
  unfold atI; rw [e]; exact h
theorem atI_last {α : Type} (xs : List α) (v : α) : atI (xs ++ [v]) (-1) = some v := by
  have hl : (xs ++ [v]).length = xs.length + 1 := by simp
  have e : ixN (xs ++ [v]).length (-1) = some xs.length := by
    unfold ixN
    rw [hl, if_neg (by decide), if_pos (by (first | lia | omega))]
    congr 1
    (first | lia | omega)
  unfold atI
  rw [e]
  show (xs ++ [v])[xs.length]? = some v
  simp

noncomputable def PlainIx (b : Expr) : Prop := ∀ o i, subscripted b false o i = operate [o, i] (getItem o i)
noncomputable def IxR (X : Cx) (r : R2) : Prop :=
  ∀ (value slice : Expr) (pins : List (Addr × Obj)) (s : Shared) (σ : St) (H : Hp) (x y : V) (v u : Value) (Q : VK), Inv X pins σ H s → RelV x v → RelV y u → r x y H Q →
    subscripted slice false v u = operate [v, u] (getItem v u) → wpAny (model X.prog X.w) X.A (subscriptTail value slice v u) (EP X pins σ Q) X.xe s
noncomputable def MtR (X : Cx) (id : String) (r : V → List V → Hp → VK → Prop) : Prop :=
  ∀ (pins : List (Addr × Obj)) (s : Shared) (σ : St) (H : Hp) (x : V) (xs : List V) (v : Value) (us : List Value) (Q : VK), Inv X pins σ H s → RelV x v → Vals xs us → r x xs H Q →
    wpAny (model X.prog X.w) X.A (call (.builtin id) (v :: us)) (EP X pins σ Q) X.xe s
section
variable {X : Cx} {a b : Expr} {ta tb : TE} {pos : Pos}
theorem pe_ix {r : R2} (hr : IxR X r) (ha : PE X a ta) (hb : PE X b tb) (hs : PlainIx b) : PE X (.Subscript a b pos) (tOp r ta tb) := by
  intro pins s σ H Q I h
  exact Subscript_ (binT ha hb I h fun v u s2 x y H2 I2 rx ry q => hr a b pins s2 σ H2 x y v u Q I2 rx ry q (hs _ _))

noncomputable def rIxL (K : PySem.W.Frag) : R2 := fun x y H Q => ∃ p xs i v, x = .ref p ∧ y = .int i ∧ SqL K H p xs ∧ atI xs i = some v ∧ Q v H
noncomputable def rIxT (K : PySem.W.Frag) : R2 := fun x y H Q => ∃ p xs i v, x = .ref p ∧ y = .int i ∧ SqT K H p xs ∧ atI xs i = some v ∧ Q v H
noncomputable def rIxS : R2 := fun x y H Q => ∃ z i c, x = .str z ∧ y = .int i ∧ z.length ≤ sizeLine ∧ atI z.cps.toList i = some c ∧ Q (.str ⟨#[c]⟩) H
theorem ix_list : IxR X (rIxL X.K) := by
  intro value slice pins s σ H x y v u Q I rx ry h hs
  obtain ⟨p, xs, i, z, rfl, rfl, hq, he, q⟩ := h
  cases rx
  obtain ⟨t, rfl⟩ := ry
  obtain ⟨its, r, pl, hz⟩ := I.list hq
  obtain ⟨j, h1, h2, h3, h4, h5⟩ := atI_get he
  obtain ⟨w, ew, rw'⟩ := r.get h2
  have hl := r.length
  have hn := line63
  have fin : EP X pins σ Q w s := ⟨z, H, I, rw', q⟩
  by_cases h0 : 0 ≤ i
  · have hj : i.toNat = j := by
      rw [seqIndex_of h0 h5] at h1
      exact Option.some.inj h1
    exact item_listR pl.isList h0 (by (first | lia | omega)) (by rw [hj]; simpa using ew) fin hs
  · have hj : (i + (its.toArray.size : Int)).toNat = j := by
      rw [seqIndex_neg (by (first | lia | omega)) h4] at h1
      rw [List.size_toArray, ← hl]
      exact Option.some.inj h1
    exact subscriptTail_builtinR (x := w) pl.isList.typeIs slot_list_getitem.lookup
      (wpAny_getItem_list_neg (Q := fun r s' => r = w ∧ EP X pins σ Q r s') pl.isList (by (first | lia | omega)) (by rw [List.size_toArray] <;> (first | lia | omega)) (by (first | lia | omega)) (by rw [hj]; simpa using ew) ⟨rfl, fin⟩) hs
theorem ix_tup : IxR X (rIxT X.K) := by
  intro value slice pins s σ H x y v u Q I rx ry h hs
  obtain ⟨p, xs, i, z, rfl, rfl, hq, he, q⟩ := h
  cases rx
  obtain ⟨t, rfl⟩ := ry
  obtain ⟨its, r, pl, hz⟩ := I.tuple hq
  obtain ⟨j, h1, h2, h3, h4, h5⟩ := atI_get he
  obtain ⟨w, ew, rw'⟩ := r.get h2
  have hl := r.length
  have hn := line63
  have fin : EP X pins σ Q w s := ⟨z, H, I, rw', q⟩
  exact subscriptTail_builtinR (x := w) pl.typeIs slot_tuple_getitem.lookup
    (getItem_tuple (j := j) (Q := fun r s' => r = w ∧ EP X pins σ Q r s') pl (by (first | lia | omega)) (by (first | lia | omega)) (by rw [List.size_toArray, ← hl]; exact h1) (by simpa using ew) ⟨rfl, fin⟩) hs
noncomputable def rIx (K : PySem.W.Frag) : R2 := fun x y H Q => rIxL K x y H Q ∨ rIxT K x y H Q ∨ rIxS x y H Q

theorem mapSeq_set (its : List Value) (n j : Nat) (u : Value) : Obj.mapSeq (·.setIfInBounds j u) { cls := .type "list", data := .seq its.toArray n } = { cls := .type "list", data := .seq (its.set j u).toArray n } := by
  simp [Obj.mapSeq]
theorem Inv.lst {pins : List (Addr × Obj)} {σ : St} {H : Hp} {s : Shared} {p : Addr} {xs : List V} (I : Inv X pins σ H s) (h : H p = some (.lst xs)) :
    ∃ (its : List Value) (n : Nat), Vals xs its ∧ s.heap.get? p = some { cls := .type "list", data := .seq its.toArray n } ∧ xs.length ≤ sizeLine := by
  obtain ⟨z, its, n, r, e⟩ := I.hok p _ h
  exact ⟨its, n, r, e, z⟩
theorem Inv.lstUpd {pins : List (Addr × Obj)} {σ : St} {H : Hp} {s : Shared} {p : Addr} {xs ys : List V} {its its' : List Value} {n n' : Nat} {f : Obj → Obj} (I : Inv X pins σ H s) (h : H p = some (.lst xs))
    (ho : s.heap.get? p = some { cls := .type "list", data := .seq its.toArray n }) (hf : f { cls := .type "list", data := .seq its.toArray n } = { cls := .type "list", data := .seq its'.toArray n' }) (r : Vals ys its') (hz : ys.length ≤ sizeLine) (t : Nat) :
    Inv X pins σ (upd H p (.lst ys)) { s with heap := s.heap.update p f, toks := t } := by
  have e : (s.heap.update p f).get? p = some { cls := .type "list", data := .seq its'.toArray n' } := by
    rw [Heap.get?_update_self f ho (by rw [hf] <;> rfl), hf]
  refine I.write (x := p) (e := p) (by rw [h]; trivial) (.inl rfl) (fun b u hb q => (Heap.get?_update_other _ _ (Ne.symm hb)).trans q) ⟨_, e⟩ ?_
  exact ⟨hz, its', n', r, e⟩
noncomputable def rSetL : V → V → V → Hp → (Hp → Prop) → Prop := fun o i v H Q => ∃ p xs k j, o = .ref p ∧ i = .int k ∧ H p = some (.lst xs) ∧ ixN xs.length k = some j ∧ Q (upd H p (.lst (xs.set j v)))
theorem set_list : PSet X rSetL := by
  intro pins s σ H o i v ov iv u Q I ro ri rv h
  obtain ⟨p, xs, k, j, rfl, rfl, hp, hj, q⟩ := h
  cases ro
  obtain ⟨t, rfl⟩ := ri
  obtain ⟨its, n, r, ho, hz⟩ := I.lst hp
  obtain ⟨h1, h2, h3, h4⟩ := ixN_seq hj
  have hl := r.length
  have hn := line63
  have I' : Inv X pins σ (upd H p (.lst (xs.set j v))) { s with heap := s.heap.update p (Obj.mapSeq (·.setIfInBounds j u)) } :=
    I.lstUpd hp ho (mapSeq_set its n j u) (r.set rv j) (by rw [List.length_set]; exact hz) s.toks
  by_cases h0 : 0 ≤ k
  · have hk : k.toNat = j := by
      rw [seqIndex_of h0 h4] at h1
      exact Option.some.inj h1
    exact PySem.W.ki_setAt ho h0 (by (first | lia | omega)) (by rw [List.size_toArray, ← hl]; exact h4) (by rw [hk]; exact ⟨_, I', q⟩)
  · have hk : (k + (its.toArray.size : Int)).toNat = j := by
      rw [seqIndex_neg (by (first | lia | omega)) h3] at h1
      rw [List.size_toArray, ← hl]
      exact Option.some.inj h1
    exact PySem.W.ki_setBack ho (by (first | lia | omega)) (by rw [List.size_toArray, ← hl]; exact h3) (by (first | lia | omega)) (by rw [hk]; exact ⟨_, I', q⟩)

noncomputable def rSlL (K : PySem.W.Frag) : V → Option Int → Option Int → Hp → VK → Prop := fun x lo hi H Q => ∃ a xs, x = .ref a ∧ SqL K H a xs ∧ ∀ p, H p = none → Q (.ref p) (upd H p (.lst (cutV xs lo hi)))

noncomputable def flatV : V → Bool
  | .non => true
  | .bl _ => true
  | .int _ => true
  | .str _ => true
  | _ => false
noncomputable def eqV : V → V → Bool
  | .non, .non => true
  | .bl a, .bl b => a == b
  | .bl a, .int b => (if a then 1 else 0) == b
  | .int a, .bl b => a == (if b then 1 else 0)
  | .int a, .int b => a == b
  | .str a, .str b => a == b
  | _, _ => false
noncomputable def eqU (x : V) (u : Value) : Bool := match u with
  | .none => eqV .non x
  | .bool b => eqV (.bl b) x
  | .int i _ => eqV (.int i) x
  | .str z _ => eqV (.str z) x
  | _ => false
noncomputable def inV (x : V) (xs : List V) : Bool := xs.any fun y => eqV y x
noncomputable def rIn (K : PySem.W.Frag) (neg : Bool) : R2 := fun x y H Q => ∃ p xs, y = .ref p ∧ (SqL K H p xs ∨ SqT K H p xs) ∧ flatV x = true ∧ xs.all flatV = true ∧ Q (.bl (if neg then !inV x xs else inV x xs)) H

theorem call_len_seq : CallR X (.builtin "len") (fun xs H Q => ∃ p ys, xs = [.ref p] ∧ (SqL X.K H p ys ∨ SqT X.K H p ys) ∧ Q (.int ys.length) H) := by
  intro pins s σ H xs us Q I r h
  obtain ⟨p, ys, rfl, hq, q⟩ := h
  obtain ⟨u, rfl, rx⟩ := vals1 r
  cases rx
  have hn := line63
  rcases hq with hq | hq
  · obtain ⟨its, r', pl, hz⟩ := I.list hq
    have hlen := r'.length
    exact Calls.call_len_list pl.isList (by simp only [List.size_toArray] <;> (first | lia | omega)) ⟨.int ys.length, H, I.tok _, ⟨s.toks + 1, by rw [List.size_toArray, hlen]⟩, q⟩
  · obtain ⟨its, r', pl, hz⟩ := I.tuple hq
    have hlen := r'.length
    exact len_tuple pl (by simp only [List.size_toArray] <;> (first | lia | omega)) ⟨.int ys.length, H, I.tok _, ⟨s.toks + 1, by rw [List.size_toArray, hlen]⟩, q⟩
theorem call_list_of : CallR X (.type "list") (fun xs H Q => ∃ p ys, xs = [.ref p] ∧ (SqL X.K H p ys ∨ SqT X.K H p ys) ∧ ∀ l, H l = none → Q (.ref l) (upd H l (.lst ys))) := by
  intro pins s σ H xs us Q I r h
  obtain ⟨p, ys, rfl, hq, q⟩ := h
  obtain ⟨u, rfl, rx⟩ := vals1 r
  cases rx
  have fin : ∀ (its : List Value), Vals ys its → ys.length ≤ sizeLine → ∀ (h' : Heap) (c' : Nat), (∀ b o', s.heap.get? b = some o' → h'.get? b = some o') →
      h'.get? s.heap.objs.size = some { cls := .type "list", dict := none, data := .seq its.toArray c', slots := #[] } → EP X pins σ Q (.ref s.heap.objs.size) { s with heap := h' } := fun its r' hz h' c' kp e =>
    ⟨.ref s.heap.objs.size, _, I.laid (t' := s.toks) kp (Nat.le_refl _) (show ObjOk X.prog X.w _ h' _ (.lst ys) from ⟨hz, its, c', r', e⟩), rfl, q _ (I.hok.fresh (Nat.le_refl _))⟩
  rcases hq with hq | hq
  · obtain ⟨its, r', pl, hz⟩ := I.list hq
    have hlen := r'.length
    obtain ⟨o, ho, hc, n, hd⟩ := pl.isList
    exact call_list_seq p (.inl rfl) ho hc hd (fun h' c' kp e => fin its r' hz h' c' kp e) (by simp only [List.size_toArray] <;> (first | lia | omega))
  · obtain ⟨its, r', pl, hz⟩ := I.tuple hq
    have hlen := r'.length
    obtain ⟨o, ho, hc, n, hd⟩ := pl
    exact call_list_seq p (.inr rfl) ho hc hd (fun h' c' kp e => fin its r' hz h' c' kp e) (by simp only [List.size_toArray] <;> (first | lia | omega))

noncomputable def tyV (K : PySem.W.Frag) (T : String) (x : V) (H : Hp) : Prop := match x with
  | .str _ => T = "str"
  | .int _ => T = "int"
  | .ref p => (T = "list" ∧ ∃ xs, SqL K H p xs) ∨ (T = "tuple" ∧ ∃ o, K.lookup p = some o ∧ o.cls = .type "tuple" ∧ o.dict = none) ∨
      (T = "dict" ∧ ((∃ kvs, H p = some (.dK kvs)) ∨ ∃ kvs, H p = some (.dT kvs))) ∨ (T = "set" ∧ ∃ S n, H p = some (.set S n))
  | _ => False
theorem tyV_is {pins : List (Addr × Obj)} {σ : St} {H : Hp} {s : Shared} {T : String} {x : V} {v : Value} (I : Inv X pins σ H s) (r : RelV x v) (ty : tyV X.K T x H) :
    s.TypeIs v T ∧ ∀ a, v = .ref a → ∃ ob, s.heap.get? a = some ob ∧ ob.dict = none := by
  cases x with
  | str z =>
    obtain ⟨t, rfl⟩ := r
    cases (show T = "str" from ty)
    exact ⟨typeIs_str s z t, fun _ e => nomatch e⟩
  | int i =>
    obtain ⟨t, rfl⟩ := r
    cases (show T = "int" from ty)
    exact ⟨typeIs_int s i t, fun _ e => nomatch e⟩
  | ref p =>
    cases r
    rcases ty with ⟨rfl, xs, hq⟩ | ⟨rfl, o, hk, hc, hd⟩ | ⟨rfl, hk⟩ | ⟨rfl, S, n, hk⟩
    · obtain ⟨its, _, pl, _⟩ := I.list hq
      refine ⟨pl.isList.typeIs, fun a e => ?_⟩
      cases e
      obtain ⟨o, n, e, c, hd, _⟩ := pl
      exact ⟨o, e, hd⟩
    · refine ⟨⟨o, I.kIn p o hk, hc⟩, fun a e => ?_⟩
      cases e
      exact ⟨o, I.kIn _ o hk, hd⟩
    · have z : ∃ o, s.heap.get? p = some o ∧ o.ExactDict := by
        rcases hk with ⟨kvs, hk⟩ | ⟨kvs, hk⟩
        · obtain ⟨_, _, _, _, o, _, _, e, ex, _⟩ := I.hok p _ hk
          exact ⟨o, e, ex⟩
        · obtain ⟨_, _, _, _, o, _, _, e, ex, _⟩ := I.hok p _ hk
          exact ⟨o, e, ex⟩
      obtain ⟨o, e, ex⟩ := z
      refine ⟨⟨o, e, ex.1⟩, fun a e2 => ?_⟩
      cases e2
      exact ⟨o, e, ex.2.1⟩
    · obtain ⟨o, _, _, _, e, ex, _⟩ := I.hok p _ hk
      refine ⟨⟨o, e, ex.1⟩, fun a e2 => ?_⟩
      cases e2
      exact ⟨o, e, ex.2.1⟩
  | _ => exact False.elim ty
noncomputable def tBM0 (K : PySem.W.Frag) (T : String) (r : V → List V → Hp → VK → Prop) (to : TE) : TE := fun σ H Q => to σ H fun x H1 => tyV K T x H1 ∧ r x [] H1 Q
noncomputable def tBM (K : PySem.W.Frag) (T : String) (r : V → List V → Hp → VK → Prop) (to : TE) (t : TA) : TE := fun σ H Q => to σ H fun x H1 => tyV K T x H1 ∧ t σ H1 fun xs H2 => r x xs H2 Q
variable {o e : Expr} {es : List Expr} {to : TE} {t : TA} {name : Str} {apos cpos : Pos} {T id : String} {r : V → List V → Hp → VK → Prop}
theorem pe_bm0 (pa : PlainAttrs T) (slot : Slot T name id) (hty : typeOf (.builtin id) = pure (.type "method_descriptor")) (hm : MtR X id r) (ho : PE X o to)
    (hbase : attributeBase o name X.env (eval o X.env) = eval o X.env := by rfl) (hline : (apos.endLine == cpos.line) = true := by rfl) : PE X (.Call (.Attribute o name apos) [] [] cpos) (tBM0 X.K T r to) := by
  intro pins s σ H Q I h
  refine wpAny_Call_method0_late hbase hline (thn (ho pins s σ H _ I h) fun v s1 ⟨x, H1, I1, r1, ty, q1⟩ => ?_)
  obtain ⟨h1, h2⟩ := tyV_is I1 r1 ty
  exact ⟨T, id, pa, slot, hty, h1, h2, Calls.callWith_builtin rfl (PySem.evalArgs_none (hm pins s1 σ H1 x [] v [] Q I1 r1 .nil q1))⟩
theorem pe_bm (pa : PlainAttrs T) (slot : Slot T name id) (hty : typeOf (.builtin id) = pure (.type "method_descriptor")) (hm : MtR X id r) (ho : PE X o to) (ha : PA X (e :: es) t)
    (hbase : attributeBase o name X.env (eval o X.env) = eval o X.env := by rfl)
    (hfew : ((backTo cpos (starEach (e :: es) X.env)).all (fun x => !x.1) && (backToKw cpos (keywordEach [] X.env)).all (fun x => x.1.isSome)
      && decide ((e :: es).length + ([] : List Keyword).length + (if ([] : List Keyword).isEmpty then 0 else 1) < 30)) = true := by rfl)
    (hline : (apos.endLine == cpos.line) = true := by rfl) (hs : starEach (e :: es) X.env = (false, eval e X.env) :: starEach es X.env := by rfl) (hplain : (backTo cpos (starEach es X.env)).any (·.1) = false := by rfl) :
    PE X (.Call (.Attribute o name apos) (e :: es) [] cpos) (tBM X.K T r to t) := by
  intro pins s σ H Q I h
  refine wpAny_Call_method_late hbase hfew hline rfl (thn (ho pins s σ H _ I h) fun v s1 ⟨x, H1, I1, r1, ty, q1⟩ => ?_)
  obtain ⟨h1, h2⟩ := tyV_is I1 r1 ty
  refine ⟨T, id, pa, slot, hty, h1, h2, ?_⟩
  have hA := ha cpos pins s1 σ H1 _ I1 q1
  rw [hs] at hA ⊢
  refine Calls.callWith_builtin (by show (false || (backTo cpos (starEach es X.env)).any (·.1)) = false; rw [hplain] <;> rfl) (Calls.evalArgs_plain ?_)
  exact thn hA fun us s2 ⟨vs, H2, I2, r2, q2⟩ => hm pins s2 σ H2 x vs v us Q I2 r1 r2 q2
/- xs.append(e), list.index on a module's tuple .. are MtR facts of 06m -/
end
end L2

namespace L2
open PySem PySem.Spec PyProof.Rows

noncomputable def MtM (X : Cx) (id : String) (r : V → List V → Hp → VK → Prop) : Prop :=
  ∀ (pins : List (Addr × Obj)) (s : Shared) (σ : St) (H : Hp) (x : V) (xs : List V) (v : Value) (us : List Value) (Q : VK), Inv X pins σ H s → RelV x v → Vals xs us → r x xs H Q →
    wpAny (model X.prog X.w) X.A (call (.builtin id) (v :: us)) (EP X pins σ Q) X.xe s

theorem Vals.one : ∀ {x : V} {us : List Value}, Vals [x] us → ∃ u, us = [u] ∧ RelV x u
  | _, _, .cons r .nil => ⟨_, rfl, r⟩
theorem Vals.zero : ∀ {us : List Value}, Vals [] us → us = []
  | _, .nil => rfl
theorem Vals.dropLast {xs : List V} {us : List Value} (h : Vals xs us) : Vals xs.dropLast us.dropLast := by
  induction h with
  | nil => exact .nil
  | cons r t ih =>
    cases t with
    | nil => exact .nil
    | cons q t' => exact .cons r ih
theorem Vals.reverse {xs : List V} {us : List Value} (h : Vals xs us) : Vals xs.reverse us.reverse := by
  induction h with
  | nil => exact .nil
  | cons r t ih => rw [List.reverse_cons, List.reverse_cons]; exact Vals.append ih (.cons r .nil)
theorem Vals.rep {xs : List V} {us : List Value} (h : Vals xs us) : ∀ k : Nat, Vals (List.replicate k xs).flatten (List.replicate k us).flatten
  | 0 => .nil
  | k + 1 => by
    rw [List.replicate_succ, List.replicate_succ, List.flatten_cons, List.flatten_cons]
    exact Vals.append h (Vals.rep h k)
theorem erase_last {α : Type} (l : List α) : l.eraseIdx (l.length - 1) = l.dropLast := by
  induction l with
  | nil => rfl
  | cons a r ih =>
    cases r with
    | nil => rfl
    | cons b r =>
      have e : (a :: b :: r).length - 1 = ((b :: r).length - 1) + 1 := by
        have h1 : (a :: b :: r).length = r.length + 2 := rfl
        have h2 : (b :: r).length = r.length + 1 := rfl
        (first | lia | omega)
      rw [e, List.eraseIdx_cons_succ, ih]
      all_goals rfl
theorem foldl_rep (its : List Value) : ∀ (k : Nat) (acc : List Value),
    List.foldl (fun x1 x2 => x1 ++ x2) acc.toArray (List.replicate k its.toArray) = (acc ++ (List.replicate k its).flatten).toArray
  | 0, acc => by simp
  | k + 1, acc => by
    have e : acc.toArray ++ its.toArray = (acc ++ its).toArray := by simp
    have e2 : (acc ++ its) ++ (List.replicate k its).flatten = acc ++ (List.replicate (k + 1) its).flatten := by
      rw [List.replicate_succ, List.flatten_cons, List.append_assoc]
    rw [← e2, ← foldl_rep its k (acc ++ its), ← e, List.replicate_succ, List.foldl_cons]

section
variable {X : Cx} {pins : List (Addr × Obj)} {σ : St} {H : Hp} {s : Shared} {l b : Addr} {xs ys zs : List V}

theorem Inv.lset {its its' : List Value} {n : Nat} {f : Array Value → Array Value} {t' : Nat} (I : Inv X pins σ H s) (hH : H l = some (.lst xs))
    (e : s.heap.get? l = some { cls := .type "list", data := .seq its.toArray n }) (hf : f its.toArray = its'.toArray) (hv : Vals ys its') (hz : ys.length ≤ sizeLine) :
    Inv X pins σ (upd H l (.lst ys)) { s with heap := s.heap.update l (Obj.mapSeq f), toks := t' } := by
  have q := PySem.IsL.update e f
  rw [hf] at q
  refine I.write (x := l) (e := l) (by rw [hH]; exact trivial) (.inl rfl) (fun b' u hb hu => (Heap.get?_update_other s.heap (Obj.mapSeq f) (Ne.symm hb)).trans hu) ⟨_, q⟩ ?_
  exact ⟨hz, its', _, hv, q⟩
theorem Inv.lnew {its : List Value} {t' : Nat} (I : Inv X pins σ H s) (hv : Vals ys its) (hz : ys.length ≤ sizeLine) :
    Inv X pins σ (upd H s.heap.objs.size (.lst ys)) { s with heap := s.heap.push { cls := .type "list", data := .seq its.toArray }, toks := t' } :=
  I.laid (fun _ _ q => Heap.get?_push_of_some _ q) (Nat.le_refl _) ⟨hz, its, 0, hv, Heap.get?_push_size _ rfl⟩
theorem Inv.fresh (I : Inv X pins σ H s) : H s.heap.objs.size = none := I.hok.fresh (Nat.le_refl _)
theorem Inv.lstM (I : Inv X pins σ H s) (hH : H l = some (.lst xs)) : xs.length ≤ sizeLine ∧ ∃ (its : List Value) (n : Nat), Vals xs its ∧ xs.length = its.length ∧ s.heap.get? l = some { cls := .type "list", data := .seq its.toArray n } := by
  obtain ⟨z, its, n, r, e⟩ := I.hok l _ hH
  exact ⟨z, its, n, r, r.length, e⟩

theorem notLongL {n : Nat} (h : n ≤ sizeLine) : Builtin.List.listTooLong n = false := by
  unfold Builtin.List.listTooLong
  exact decide_eq_false (by (first | lia | omega))
end

section
variable {X : Cx}

noncomputable def rAppend : V → List V → Hp → VK → Prop := fun x vs H Q => ∃ l xs y, x = .ref l ∧ vs = [y] ∧ H l = some (.lst xs) ∧ xs.length < sizeLine ∧ Q .non (upd H l (.lst (xs ++ [y])))
theorem mt_append : MtM X "list.append" rAppend := by
  intro pins s σ H x vs v us Q I rx rv h
  obtain ⟨l, xs, y, rfl, rfl, hH, hz, q⟩ := h
  cases rx
  obtain ⟨u, rfl, ru⟩ := rv.one
  obtain ⟨z, its, n, r, hl, e⟩ := I.lstM hH
  refine call_meets F.slot_list_append ⟨_, e, rfl⟩ F.entry_list_append (F.args_list_append_2 _ _) (PySem.list_append l its.toArray n u (by rw [List.size_toArray]; (first | lia | omega))) ⟨e, ?_⟩
  refine ⟨.non, _, I.lset (its' := its ++ [u]) hH e (by simp) (r.append (.cons ru .nil)) ?_, rfl, q⟩
  rw [List.length_append, List.length_singleton]
  (first | lia | omega)

noncomputable def rExtend : V → List V → Hp → VK → Prop := fun x vs H Q => ∃ l b xs zs, x = .ref l ∧ vs = [.ref b] ∧ H l = some (.lst xs) ∧ H b = some (.lst zs) ∧ xs.length + zs.length ≤ sizeLine ∧ Q .non (upd H l (.lst (xs ++ zs)))

noncomputable def rPop : V → List V → Hp → VK → Prop := fun x vs H Q => ∃ l xs y, x = .ref l ∧ vs = [] ∧ H l = some (.lst xs) ∧ xs[xs.length - 1]? = some y ∧ Q y (upd H l (.lst xs.dropLast))
theorem mt_pop : MtM X "list.pop" rPop := by
  intro pins s σ H x vs v us Q I rx rv h
  obtain ⟨l, xs, y, rfl, rfl, hH, hy, q⟩ := h
  cases rx
  have hus := rv.zero
  subst hus
  obtain ⟨z, its, n, r, hl, e⟩ := I.lstM hH
  obtain ⟨u, hu, ru⟩ := r.get hy
  have hy' : its.toArray[its.toArray.size - 1]? = some u := by
    show its.toArray[its.length - 1]? = some u
    rw [← Array.getElem?_toList, ← hl]
    exact hu
  refine call_meets F.slot_list_pop ⟨_, e, rfl⟩ F.entry_list_pop (F.args_list_pop_1 _) (MeetsSeq.list_pop_last l its.toArray n u hy' (by rw [List.size_toArray]; (first | lia | omega))) ⟨e, ?_⟩
  refine ⟨y, _, I.lset (its' := its.dropLast) hH e ?_ r.dropLast ?_, ru, q⟩
  · show its.toArray.eraseIdxIfInBounds (its.toArray.size - 1) = its.dropLast.toArray
    rw [List.size_toArray, List.eraseIdxIfInBounds_toArray, erase_last]
  · rw [List.length_dropLast]
    (first | lia | omega)

noncomputable def rPopAt : V → List V → Hp → VK → Prop := fun x vs H Q => ∃ l xs i k y, x = .ref l ∧ vs = [.int i] ∧ H l = some (.lst xs) ∧ -(2 ^ 63) ≤ i ∧ i < 2 ^ 63 ∧ seqIndex? i xs.length = some k ∧ xs[k]? = some y ∧ Q y (upd H l (.lst (xs.eraseIdx k)))

noncomputable def rReverse : V → List V → Hp → VK → Prop := fun x vs H Q => ∃ l xs, x = .ref l ∧ vs = [] ∧ H l = some (.lst xs) ∧ Q .non (upd H l (.lst xs.reverse))

noncomputable def rClear : V → List V → Hp → VK → Prop := fun x vs H Q => ∃ l xs, x = .ref l ∧ vs = [] ∧ H l = some (.lst xs) ∧ Q .non (upd H l (.lst []))

noncomputable def rCat : R2 := fun x y H Q => ∃ l b xs zs, x = .ref l ∧ y = .ref b ∧ H l = some (.lst xs) ∧ H b = some (.lst zs) ∧ xs.length + zs.length ≤ sizeLine ∧ ∀ p, H p = none → Q (.ref p) (upd H p (.lst (xs ++ zs)))
theorem op_cat : OpR X (binaryOp .Add) rCat := by
  intro pins s σ H x y v u Q I rx ry h
  obtain ⟨l, b, xs, zs, rfl, rfl, hH, hB, hz, q⟩ := h
  cases rx
  cases ry
  obtain ⟨z, its, n, r, hl, e⟩ := I.lstM hH
  obtain ⟨z2, its2, n2, r2, hl2, e2⟩ := I.lstM hB
  refine PySem.P.add_list e e2 ?_ (by rw [List.size_toArray, List.size_toArray]; (first | lia | omega))
  have ea : its.toArray ++ its2.toArray = (its ++ its2).toArray := by simp
  rw [ea]
  exact ⟨.ref _, _, I.lnew (t' := s.toks) (r.append r2) (by rw [List.length_append]; (first | lia | omega)), rfl, q _ I.fresh⟩
noncomputable def rRep : R2 := fun x y H Q => ∃ l k xs, x = .ref l ∧ y = .int k ∧ H l = some (.lst xs) ∧ -(2 ^ 63) ≤ k ∧ k < 2 ^ 63 ∧ xs.length * k.toNat ≤ sizeLine ∧
  ∀ p, H p = none → Q (.ref p) (upd H p (.lst (List.replicate k.toNat xs).flatten))
theorem len_rep {α : Type} (xs : List α) (k : Nat) : (List.replicate k xs).flatten.length = k * xs.length := by
  induction k with
  | zero => simp
  | succ k ih => rw [List.replicate_succ, List.flatten_cons, List.length_append, ih, Nat.succ_mul, Nat.add_comm]
theorem op_rep : OpR X (binaryOp .Mult) rRep := by
  intro pins s σ H x y v u Q I rx ry h
  obtain ⟨l, k, xs, rfl, rfl, hH, h1, h2, hz, q⟩ := h
  cases rx
  obtain ⟨t, rfl⟩ := ry
  obtain ⟨z, its, n, r, hl, e⟩ := I.lstM hH
  have hlen : its.toArray.size * k.toNat ≤ sizeLine := by rw [List.size_toArray, ← hl]; exact hz
  have hcap : ¬ its.toArray.size * k.toNat > (2 ^ 63 - 1) / 8 := by
    have : (sizeLine : Nat) ≤ (2 ^ 63 - 1) / 8 := by decide
    (first | lia | omega)
  have hfit : ¬ (!Builtin.List.listFitsIndex k) = true := by
    rw [fitsIndex_both h1 h2]
    exact Bool.false_ne_true
  have hlong : ¬ Builtin.List.listTooLong (its.toArray.size * k.toNat) = true := by
    rw [notLongL hlen]
    exact Bool.false_ne_true
  have hnew : List.foldl (fun x1 x2 => x1 ++ x2) #[] (List.replicate (if its.toArray.isEmpty = true then 0 else k.toNat) its.toArray) = (List.replicate k.toNat its).flatten.toArray := by
    have f0 : ∀ m : Nat, List.foldl (fun x1 x2 => x1 ++ x2) #[] (List.replicate m its.toArray) = (List.replicate m its).flatten.toArray := fun m => by
      have := foldl_rep its m []
      rw [List.nil_append] at this
      exact this
    rw [f0]
    cases its with
    | nil => simp
    | cons a r' => rw [if_neg (by simp)]
  refine wpAny_binaryOp_repeat_ref (T := "list") (U := "int") (by decide) ⟨_, e, rfl⟩ (fun s' => typeIs_int s' k t) noFill_list_mul F.fills_int_mul F.slot_int_rmul repeat_list F.slot_int_index.lookup
    (call_meets F.slot_int_rmul (typeIs_int s k t) F.entry_int_rmul (F.args_int_rmul_2 _ _) (int___rmul___int_list k t l its.toArray n)
      ⟨e, rfl, ⟨_, e, rfl⟩, call_meets F.slot_list_mul ⟨_, e, rfl⟩ F.entry_list_mul (F.args_list_mul_2 _ _) (AutoListH.list___mul___list_int_3 l its.toArray n k t hfit hcap hlong) ⟨e, ?_⟩⟩)
  rw [hnew]
  exact ⟨.ref _, _, I.lnew (t' := s.toks) (r.rep k.toNat) (by rw [len_rep, Nat.mul_comm]; exact hz), rfl, q _ I.fresh⟩

end

section
variable {prog : Program} {w : World} {A : Around} {E : Value → Shared → Prop} {s : Shared}
set_option maxRecDepth 100000 in
end

section
variable {X : Cx}
end
end L2

namespace Att
open PySem PySem.W PySem.Calls PyProof.Rows

theorem ints_of_wellAll {P : Params} {h : Heap} : ∀ (ns : List Int) (vs : List Value), WellAll P h vs (ns.map WData.int) → IntsAre vs ns := by
  intro ns
  induction ns with
  | nil =>
    intro vs w
    rw [List.map_nil] at w
    cases w
    exact .nil
  | cons n ns ih =>
    intro vs w
    rw [List.map_cons] at w
    cases w with
    | cons a b =>
      cases a
      exact .cons _ _ (ih _ b)

theorem script_of {l : OpenLaw} {n : Nat} (hn : l.most = some n) {P : Params} {h : Heap} {args : List WData} {vals : List Value}
    (hpre : l.row.toRowW.claim.pre args = true) (hwl : WellAll P h vals args) :
    ∃ a vs ns, vals = [Value.ref a] ∧ args = [WData.list (ns.map WData.int)] ∧ h.get? a = some { cls := .type "list", data := .seq vs.toArray } ∧ IntsAre vs ns ∧ ns.length ≤ n := by
  have hsh : WShape.hasAll [] args [.list .int] = true := (pre_splitW hpre).1
  have hc : l.pre.holds [] { args := args } = true := (pre_splitW hpre).2
  obtain ⟨d, r, rfl, h1, h2⟩ := hasAllW_cons hsh
  obtain rfl := hasAllW_nil h2
  obtain ⟨xs, rfl, h3⟩ := hasW_list h1
  obtain ⟨ns, rfl⟩ := items_int h3
  have hlen : ns.length ≤ n := by
    unfold OpenLaw.pre at hc
    have h4 : (WTm.not (.lt (.lit (.int (n : Int))) (.len (.arg 0)))).holds [] { args := [.list (ns.map .int)] } = true := by
      have h4 := (holds_andW hc).1
      rw [hn] at h4
      exact h4
    have h5 := condW_of h4 (w_not (w_lt w_lit (w_len_list (w_arg rfl))))
    rw [List.length_map] at h5
    refine Nat.le_of_not_lt fun q => ?_
    have q' : (n : Int) < ((ns.length : Nat) : Int) := by (first | lia | omega)
    first
      | (rw [decide_eq_true q'] at h5; exact absurd h5 (by decide))
      | (simp at h5; (first | lia | omega))
  cases hwl with
  | cons w1 w2 =>
    cases w2
    cases w1 with
    | list ho hall => exact ⟨_, _, ns, rfl, rfl, ho, ints_of_wellAll ns _ hall, hlen⟩

theorem post_true (l : OpenLaw) (args : List WData) : l.row.toRowW.claim.post args (.bool true) args = true :=
  postW_of (r := l.row.toRowW) (X := (true == true))
    (show WShape.has [] (.bool true) .bool = true by first | rfl | decide | simp [WShape.has, WShape.arms, WShape.armsAll])
    (show (WTm.eq .res (.lit (.bool true))).value [] { args := args, res := some (.bool true), after := args } = some (.bool (true == true)) from w_eq_bool (w_res rfl) w_lit) rfl


theorem attach_call {l : OpenLaw} {n : Nat} {q : Program} {loose : List Str} {XP : (Str → Option Value) → Heap → Prop} {YP : World → Heap → Prop} {d : DefRec}
    (hn : l.most = some n) (hdf : d.params.defaults = [])
    (call : ∀ (w : World) (s₀ s₁ : Shared) (mg mb : Str → Option Value) (fa : Addr) (o : Obj) (pm cd doc : Value) (a : Addr) (vs : List Value) (ns : List Int),
      Ground q loose [] XP w s₀ mg mb s₁.heap → YP w s₁.heap →
      s₁.heap.get? fa = some o → o.data = .func (docDef d.name d.params d.body d.scope pm cd doc) → s₁.heap.CodeRec cd d.name → mg d.name = some (.ref fa) →
      s₁.heap.get? a = some { cls := .type "list", data := .seq vs.toArray } → IntsAre vs ns → ns.length ≤ n → s₁.gens = #[] →
      codeAny (model l.prog w) callerA (.call (.ref fa) ⟨[.ref a], []⟩) (fun r s' => r = .ok (.ret (.bool true)) ∧ OldK s₁.heap s'.heap ∧ s'.os = s₁.os ∧ AllBare s'.gens) s₁) :
    WalkO q loose XP YP l.row.toRowW d [] (fun f vs => PySem.call f vs) := by
  intro w s₀ s₁ mg mb G Y fa o pm cd doc dV kV ho hd hcd hD hmg hg args vals as hpre hlay hrd hwl hlo
  obtain rfl : dV = .none := Dflts.none hD hdf
  obtain rfl : kV = .none := Dflts.noKw hD
  obtain ⟨a, vs, ns, rfl, rfl, hobj, hints, hlen⟩ := script_of hn hpre hwl
  refine enter_call (codeAny_mono (call w s₀ s₁ mg mb fa o pm cd doc a vs ns G Y ho (fd_plain hd) hcd hmg hobj hints hlen hg) fun r s' hq => ?_)
  obtain ⟨rfl, h2, h3, h4⟩ := hq
  exact ⟨.inl ⟨.bool true, .bool true, [], rfl, fun _ => rfl, .bool true, post_true l _, fun _ => ⟨List.Pairwise.nil, fun _ hm => (nomatch hm)⟩⟩, h2, h3, h4⟩


section
variable {prog : Program} {w : World} {A : Around} {E : Value → Shared → Prop} {s : Shared} {K : Frag}





noncomputable def noObjs (h : Heap) : Heap := { h with objs := #[] }
noncomputable def ledger (h : Heap) (L d : Addr) : List (Addr × Obj) := (List.range h.objs.size).filterMap fun a => if a = L ∨ a = d then none else (h.get? a).map fun o => (a, o)

end
end Att

namespace L2
open PySem PySem.Spec PyProof.Rows

theorem vals_ints : ∀ {vs : List Value} {ns : List Int}, IntsAre vs ns → Vals (ns.map V.int) vs
  | _, _, .nil => .nil
  | _, _, .cons n t h => .cons ⟨t, rfl⟩ (vals_ints h)

noncomputable def Only (H : Hp) : Prop := ∀ b, H b = none ∨ ∃ o xs, H b = some (.frz o (.lst xs))

theorem law_call {P : Program} {w : World} {K : PySem.W.Frag} {mg mb : Str → Option Value} {CX : CXT} {k : Nat} {fa a : Addr} {fd : FuncData} {x : Str} {sp : Sp} {s₁ : Shared} {vs : List Value} {ns : List Int}
    (KX : K.In s₁.heap) (hns : s₁.heap.Ns mainGlobals mg) (hb : s₁.heap.Ns builtinsNs mb) (hbb : ∀ x : Str, x ≠ "__name__" → mb x = bootBuiltins x) (hlim : s₁.heap.NoLimit) (hg : s₁.gens = #[])
    (ha : s₁.heap.get? a = some { cls := .type "list", data := .seq vs.toArray }) (hi : IntsAre vs ns) (hl : ns.length ≤ sizeLine) (hr : Room k callerA)
    (F : ∀ base : Heap, K.In base → base.Ns mainGlobals mg → FnOk P w K mg base CX k fa fd [x] sp) (hbind : ∀ (s : Shared) (u : Value), BindsTo s fd ⟨[u], []⟩ [(x, u)])
    (hsp : ∀ H : Hp, Only H → SqL K H a (ns.map V.int) → sp [.ref a] H (fun v _ => v = .bl true) fun _ _ _ => False)
    (hCX : ∀ H e s', CX [] H s₁ (fun _ _ _ => False) e s' → False) :
    codeAny (model P w) callerA (.call (.ref fa) ⟨[.ref a], []⟩) (fun r s' => r = .ok (.ret (.bool true)) ∧ OldK s₁.heap s'.heap ∧ s'.os = s₁.os ∧ AllBare s'.gens) s₁ := by
  have rv := vals_ints hi
  have lenV := hi.length
  -- from an abstract heap in which nothing but the script may be tracked
  have core : ∀ H : Hp, Only H → SqL K H a (ns.map V.int) → HOk P w H s₁.heap → (∀ b, H b ≠ none → b = a) → (H a ≠ none → K.lookup a = none) →
      codeAny (model P w) callerA (.call (.ref fa) ⟨[.ref a], []⟩) (fun r s' => r = .ok (.ret (.bool true)) ∧ OldK s₁.heap s'.heap ∧ s'.os = s₁.os ∧ AllBare s'.gens) s₁ := by
    intro H hO hS hok hA hK
    have base_of : ∀ {b : Addr} {o : Obj}, s₁.heap.get? b = some o → H b = none → (hidT s₁.heap H).get? b = some o := fun e n => hidT_get e n
    have noA : ∀ {b : Addr} {o : Obj} {es : Array DictEntry} {ep : Nat}, s₁.heap.get? b = some o → o.data = .dict es ep → H b = none := fun {b o es ep} e d => by
      cases q : H b with
      | none => rfl
      | some u =>
        have e' : b = a := hA b (by rw [q]; simp)
        subst e'
        rw [ha] at e; cases e
        have d' : Data.seq vs.toArray _ = Data.dict es ep := d
        cases d'
    have nsK : ∀ {b : Addr} {m : Str → Option Value}, s₁.heap.Ns b m → (hidT s₁.heap H).Ns b m := fun {b m} ⟨o, es, ep, e, d, r⟩ => ⟨o, es, ep, base_of e (noA e d), d, r⟩
    have hKb : K.In (hidT s₁.heap H) := fun b o e => base_of (KX b o e) (by
      cases q : H b with
      | none => rfl
      | some u =>
        have e' : b = a := hA b (by rw [q]; simp)
        subst e'
        rw [hK (by rw [q]; simp)] at e; cases e)
    have hM : Mod K mg (hidT s₁.heap H) := ⟨hKb, nsK hns, ⟨mb, nsK hb, hbb⟩, let ⟨mc, h1, h2⟩ := hlim; ⟨mc, nsK h1, h2⟩⟩
    have e0 : Env0 P w K mg (hidT s₁.heap H) callerA [] s₁ H := ⟨rfl, hM, fun b o e => of_hidT e, Nat.le_of_eq (hidT_size _ _), trivial, fun b hb => absurd (show b ∈ ([] : List Addr) from hb) (by simp), hok, .of_eq hg⟩
    refine codeAny_mono ((F _ hKb (nsK hns)).run callerA [] s₁ H ⟨[.ref a], []⟩ [.ref a] [.ref a] _ _ hr e0 (hbind s₁ (.ref a)) (.cons rfl .nil) (hsp H hO hS)) fun r s' h => ?_
    cases r with
    | error e => exact (hCX H e s' h).elim
    | ok fl =>
      cases fl with
      | next => exact False.elim h
      | brk => exact False.elim h
      | cont => exact False.elim h
      | ret u =>
        obtain ⟨v, H', os, bare, un, hok', r', q⟩ := h
        have q' : v = .bl true := q
        subst q'
        obtain rfl : u = Value.bool true := r'
        refine ⟨rfl, OldK.of_keep fun b o e => ?_, os, bare⟩
        cases q : H b with
        | none => exact un.keep b o e q (by intro z; exact absurd (show b ∈ ([] : List Addr) from z) (by simp)) (by simp)
        | some u =>
          rcases hO b with z | ⟨ob, xs, z⟩
          · rw [q] at z; cases z
          · have z2 := un.frzs b ob _ z
            obtain ⟨e1, _⟩ := hok b _ z
            obtain ⟨e2, _⟩ := hok' b _ z2
            rw [e] at e1; cases e1
            exact e2
  cases hk : K.lookup a with
  | some o =>
    -- the script is one of the module's own objects
    have e := KX a o hk
    rw [ha] at e
    cases e
    refine core (fun _ => none) (fun _ => .inl rfl) (.inr ⟨_, vs.toArray, _, hk, rfl, rfl, rfl, by rw [List.size_toArray, lenV]; exact hl, by simpa using rv⟩) (fun b u z => by have z' : (none : Option HO) = some u := z; cases z') (fun b z => absurd rfl z) fun z => absurd rfl z
  | none =>
    refine core (fun b => if b = a then some (.frz { cls := .type "list", data := .seq vs.toArray } (.lst (ns.map V.int))) else none) (fun b => ?_) (.inl (.inr ⟨{ cls := .type "list", data := .seq vs.toArray }, if_pos rfl⟩)) (fun b u z => ?_) (fun b z => ?_) fun _ => hk
    · by_cases hb : b = a
      · exact .inr ⟨_, _, if_pos hb⟩
      · exact .inl (if_neg hb)
    · by_cases hb : b = a
      · have z' := (if_pos hb).symm.trans z
        cases z'
        subst hb
        exact ⟨ha, by rw [List.length_map]; exact hl, vs, _, rv, ha⟩
      · have z' := (if_neg hb).symm.trans z
        cases z'
    · by_cases hb : b = a
      · exact hb
      · exact absurd (if_neg hb) z
end L2

namespace L2
open PySem PySem.Spec PyProof.Rows

noncomputable abbrev KOf {K : PySem.W.Frag} {h : Heap} (_ : K.In h) : PySem.W.Frag := K

theorem walk_of {l : PySem.W.OpenLaw} {n k : Nat} {q : Program} {loose : List Str} {XP : (Str → Option Value) → Heap → Prop} {YP : World → Heap → Prop} {d : DefRec} {K : Params → PySem.W.Frag} {CX : World → CXT} {sp : World → Sp} {x : Str}
    (hn : l.most = some n) (hn2 : n ≤ sizeLine) (hdf : d.params.defaults = []) (hr : Room k callerA)
    (hY : ∀ (w : World) (h : Heap), YP w h → (K w.params).In h)
    (F : ∀ (w : World) (mg : Str → Option Value) (fa : Addr) (h : Heap), (K w.params).In h → h.Ns mainGlobals mg → mg d.name = some (.ref fa) →
      ∃ fd : FuncData, (∀ (s : Shared) (u : Value), BindsTo s fd ⟨[u], []⟩ [(x, u)]) ∧
        ∀ base : Heap, (K w.params).In base → base.Ns mainGlobals mg → FnOk l.prog w (K w.params) mg base (CX w) k fa fd [x] (sp w))
    (hsp : ∀ (w : World) (H : Hp) (a : Addr) (ns : List Int), ns.length ≤ n → Only H → SqL (K w.params) H a (ns.map V.int) → sp w [.ref a] H (fun v _ => v = .bl true) fun _ _ _ => False)
    (hCX : ∀ (w : World) (H : Hp) (s : Shared) (e : Value) (s' : Shared), CX w [] H s (fun _ _ _ => False) e s' → False) :
    PySem.W.WalkO q loose XP YP l.row.toRowW d [] (fun f vs => PySem.call f vs) := by
  refine Att.attach_call hn hdf fun w s₀ s₁ mg mb fa o pm cd doc a vs ns G Y ho hd hcd hmg hobj hints hlen hg => ?_
  have KX := hY w _ Y
  obtain ⟨fd, hb, hF⟩ := F w mg fa _ KX G.T.g hmg
  exact law_call KX G.T.g G.T.b G.T.builtins G.T.nolimit hg hobj hints (Nat.le_trans hlen hn2) hr hF hb (fun H hO hS => hsp w H a ns hlen hO hS) fun H e s' => hCX w H s₁ e s'
end L2

/- THE LAST THEOREM (shape; LID, My.* are yours):
   My.Adr: a structure of the addresses that your layer names (classes, functions); My.Txt K t: a structure (Prop) of the equations over K;
   My.txt_mk : {K} {implicit addresses ..} (e1 : nsIn K mainGlobals "law" = some (some (.ref f))) (e2 : K.lookup f = some ⟨oc, od, .func (fnOf "law" "law" params body scope dV kV doc pm an cdv ct), sl⟩) (e3 : codeIn K cdv "law" = true) .. : ∃ t, My.Txt K t

set_option maxRecDepth 100000 in
set_option maxHeartbeats 0 in
theorem PySem.Challenge.cw_LID_holds : PySem.Challenge.rw_LID.Holds := by
  w_on; o_law; k_head; (case hw => w_witness2)
  k_fill
  refine L2.walk_of (l := PySem.Challenge.rw_LID) (n := 63) (k := 40) (x := "script") (CX := fun w => ..) (sp := fun _ => My.sp_law) rfl (by decide) rfl ⟨rfl, by decide, by decide⟩ (fun w h Y => PySem.W.kIn_of Y) ?F ?S ?C
  case F =>
    intro w mg fa h KX G hmg
    have T : ∃ t, My.Txt (L2.KOf KX) t := by
      dsimp only [L2.KOf]                          -- K must stand as «<heap const> w.params» for k_is
      refine' My.txt_mk ?e1 ?e2 ?e3 ..
      (case e1 => PySem.W.k_is)                    -- in the order: a name -> its address -> its object -> its parts
      (case e2 => PySem.W.k_is)
      ..
    obtain ⟨t, T⟩ := T
    have e0 := hmg.symm.trans (PySem.W.mg_of KX G T.law)
    cases e0                                       -- fa is the law's own address
    exact ⟨_, fun s u => .of_eq rfl, fun base kb nb => My.law_fn T kb nb⟩     -- if «.of_eq rfl» comes too early: refine' ⟨_, ?b, fun base kb nb => My.law_fn T kb nb⟩; exact fun s u => .of_eq rfl
  case S => exact fun w H a ns hl hO hS => ..
  case C => exact ..
(the tactic k_is has no namespace: write k_is) -/

namespace L2
open PySem PySem.Spec PyProof.Rows

noncomputable def inClass (s : Stmt) (j : Nat) : Stmt := match s with
  | .ClassDef _ _ _ body _ _ _ _ _ _ _ => body.getD j (.Pass ⟨0, 0, 0, 0⟩)
  | _ => .Pass ⟨0, 0, 0, 0⟩
noncomputable def defArgs (s : Stmt) : Arguments := match s with
  | .FunctionDef _ a _ _ _ _ _ _ _ _ => a
  | _ => { posonlyargs := [], args := [], vararg := none, kwonlyargs := [], kw_defaults := [], kwarg := none, defaults := [] }
noncomputable def defBody (s : Stmt) : List Stmt := match s with
  | .FunctionDef _ _ b _ _ _ _ _ _ _ => b
  | _ => []
noncomputable def defScope (s : Stmt) : Scope := match s with
  | .FunctionDef _ _ _ _ _ _ sc _ _ _ => sc
  | _ => { kind := .function, names := [], isGenerator := false, isCoroutine := false }

noncomputable abbrev CX0 : CXT := fun _ _ _ _ _ _ => False
noncomputable abbrev E0 : XK := fun _ _ _ => False
theorem pass0 {X : Cx} : Passes CX0 X E0 := fun _ _ _ _ _ _ _ h => h.elim

structure Fun (K : PySem.W.Frag) (x qual : Str) (st : Stmt) (f : Addr) (fd : FuncData) : Prop where
  ex : ∃ (oc : Value) (od : Option Addr) (kV doc pm : Value) (an : Option Addr) (cdv ct : Value) (osl : Array (Option Value)),
    fd = PySem.W.fnOf x qual (defArgs st) (defBody st) (defScope st) .none kV doc pm an cdv ct ∧ K.lookup f = some ⟨oc, od, .func fd, osl⟩ ∧ PySem.W.codeIn K cdv qual = true
  kp : PySem.W.keepIn K (.ref f) = true
section
variable {P : Program} {w : World} {K : PySem.W.Frag} {mg : Str → Option Value} {base : Heap}
theorem Fun.ok {x qual : Str} {st : Stmt} {f : Addr} {fd : FuncData} {N ps : List Str} {k : Nat} {sp : Sp} (F : Fun K x qual st f fd) (S : FnScope N ps (defScope st)) (len : ∀ vs H Q E, sp vs H Q E → vs.length = ps.length)
    (hbody : ∀ (cdv : Value) (A : Around) (outer : List Env) (s : Shared) (H : Hp) (vs : List V) (Q : VK) (E : XK), Room k (A.deeper (envOfC qual (defScope st) s.heap.objs.size f cdv)) → sp vs H Q E →
      ∃ t, PSs (cxOf CX0 P w K mg base N qual (defScope st) f cdv A outer s H E).nox (defBody st) t ∧ t { nx := fun _ H' => Q .non H', rt := Q } (start N vs) H) : FnOk P w K mg base CX0 (k + 1) f fd ps sp := by
  obtain ⟨oc, od, kV, doc, pm, an, cdv, ct, osl, rfl, lk, hcd⟩ := F.ex
  refine fn_of lk hcd S len fun A outer s H vs Q E hr hsp => ?_
  obtain ⟨t, h, q⟩ := hbody cdv A outer s H vs Q E hr hsp
  exact ⟨t, h.nox, q⟩
theorem Fun.binds {x qual : Str} {st : Stmt} {f : Addr} {fd : FuncData} {ps : List Str} (F : Fun K x qual st f fd)
    (h : ∀ (kV doc pm : Value) (an : Option Addr) (cdv ct : Value) (us : List Value), us.length = ps.length → bindArgs (PySem.W.fnOf x qual (defArgs st) (defBody st) (defScope st) .none kV doc pm an cdv ct) ⟨us, []⟩ = pure (ps.zip us)) : Binds K fd ps [] := by
  obtain ⟨oc, od, kV, doc, pm, an, cdv, ct, osl, rfl, lk, hcd⟩ := F.ex
  exact .all (h kV doc pm an cdv ct)
theorem fun_mk {x qual : Str} {st : Stmt} {f : Addr} {oc : Value} {od an : Option Addr} {osl : Array (Option Value)} {kV doc pm cdv ct : Value} (l : K.lookup f = some ⟨oc, od, .func (PySem.W.fnOf x qual (defArgs st) (defBody st) (defScope st) .none kV doc pm an cdv ct), osl⟩)
    (c : PySem.W.codeIn K cdv qual = true) (k : PySem.W.keepIn K (.ref f) = true) : Fun K x qual st f (PySem.W.fnOf x qual (defArgs st) (defBody st) (defScope st) .none kV doc pm an cdv ct) := ⟨⟨oc, od, kV, doc, pm, an, cdv, ct, osl, rfl, l, c⟩, k⟩
end

section
variable {X : Cx}
theorem pv (i : Nat) {x : Str} {pos : Pos} (hN : X.N[i]? = some x := by rfl) (hv : Vis X.env.scope x := by first | exact Or.inl rfl | exact Or.inr (Or.inl rfl) | exact Or.inr (Or.inr rfl)) (hd : (x == ("__debug__" : Str)) = false := by decide)
    (hcd : (x == ("__classdict__" : Str)) = false := by decide) : PE X (.Name x pos) (tVar i) := pe_var hN hv hd hcd
end

theorem iteF {A B : Prop} (h : B) : if false = true then A else B := by
  rw [if_neg Bool.false_ne_true]
  exact h
theorem iteT {A B : Prop} (h : A) : if true = true then A else B := by
  rw [if_pos rfl]
  exact h
theorem ite2 {c A B : Prop} [Decidable c] (h1 : c → A) (h2 : ¬ c → B) : if c then A else B := by
  by_cases h : c
  · rw [if_pos h]
    exact h1 h
  · rw [if_neg h]
    exact h2 h
theorem iteNS {c A B : Prop} [Decidable c] (hc : c) (h : B) : if (!decide c) = true then A else B := by
  rw [decide_eq_true hc]
  exact iteF h

noncomputable def Same (H H' : Hp) : Prop := ∀ b o, H b = some o → H' b = some o
theorem Same.refl (H : Hp) : Same H H := fun _ _ h => h
theorem Same.trans {H H1 H2 : Hp} (a : Same H H1) (b : Same H1 H2) : Same H H2 := fun c o h => b c o (a c o h)
theorem Same.free {H H' : Hp} (e : Same H H') {l : Addr} (h : H' l = Option.none) : H l = Option.none := by
  cases q : H l with
  | none => rfl
  | some o =>
    rw [e l o q] at h
    cases h
theorem Same.seq {K : PySem.W.Frag} {H H' : Hp} {a : Addr} {xs : List V} (e : Same H H') (h : SqL K H a xs) : SqL K H' a xs := by
  rcases h with (h | ⟨o, h⟩) | h
  · exact .inl (.inl (e _ _ h))
  · exact .inl (.inr ⟨o, e _ _ h⟩)
  · exact .inr h

end L2

namespace Ra
noncomputable def Bt (n : Nat) (x : Int) : Prop := x.natAbs < 2 ^ n
theorem Bt.mono {m n : Nat} {x : Int} (h : Bt m x) (l : m ≤ n) : Bt n x := Nat.lt_of_lt_of_le h (Nat.pow_le_pow_right (by decide) l)
theorem Bt.neg {n : Nat} {x : Int} (h : Bt n x) : Bt n (-x) := by unfold Bt at *; rw [Int.natAbs_neg]; exact h
theorem Bt.mul {m n : Nat} {x y : Int} (h : Bt m x) (k : Bt n y) : Bt (m + n) (x * y) := by
  unfold Bt at *
  rw [Int.natAbs_mul, Nat.pow_add]
  exact Nat.mul_lt_mul'' h k
theorem Bt.of_le {n : Nat} {x y : Int} (h : Bt n x) (k : y.natAbs ≤ x.natAbs) : Bt n y := Nat.lt_of_le_of_lt k h
theorem Bt.ediv {n : Nat} {x y : Int} (h : Bt n x) : Bt n (x / y) := h.of_le (Int.natAbs_ediv_le_natAbs x y)
theorem Bt.zero {n : Nat} : Bt n 0 := Nat.pow_pos (by decide)
theorem Bt.between {n : Nat} {x : Int} (h : -(2 ^ n : Int) < x) (k : x < (2 ^ n : Int)) : Bt n x := by
  unfold Bt
  have e : ((2 ^ n : Nat) : Int) = (2 : Int) ^ n := by push_cast; rfl
  (first | lia | omega)

noncomputable def g (a b : Int) : Int := (Int.gcd a b : Nat)
theorem g_nonneg (a b : Int) : 0 ≤ g a b := Int.natCast_nonneg _
theorem g_dvd_left (a b : Int) : g a b ∣ a := Int.gcd_dvd_left a b
theorem g_dvd_right (a b : Int) : g a b ∣ b := Int.gcd_dvd_right a b
theorem g_pos {a b : Int} (h : b ≠ 0) : 0 < g a b := by
  have h1 : 0 < Int.gcd a b := Int.gcd_pos_of_ne_zero_right a h
  unfold g
  (first | lia | omega)
theorem g_zero {a b : Int} (h : g a b = 0) : a = 0 ∧ b = 0 := by
  have : Int.gcd a b = 0 := by unfold g at h; (first | lia | omega)
  exact Int.gcd_eq_zero_iff.mp this
structure Fq (a b : Int) : Prop where
  pos : 0 < b
  one : Int.gcd a b = 1
theorem cop_mul {a b c : Int} (h : Int.gcd a b = 1) (k : Int.gcd a c = 1) : Int.gcd a (b * c) = 1 := by
  show Nat.gcd a.natAbs (b * c).natAbs = 1
  rw [Int.natAbs_mul]
  exact Nat.Coprime.mul_right h k
theorem cop_mull {a b c : Int} (h : Int.gcd a c = 1) (k : Int.gcd b c = 1) : Int.gcd (a * b) c = 1 := by
  rw [Int.gcd_comm]
  exact cop_mul (by rw [Int.gcd_comm]; exact h) (by rw [Int.gcd_comm]; exact k)
theorem cop_dvd {a b c : Int} (h : Int.gcd a b = 1) (d : c ∣ a) : Int.gcd c b = 1 := by
  have hd : c.natAbs ∣ a.natAbs := Int.natAbs_dvd_natAbs.mpr d
  exact Nat.Coprime.coprime_dvd_left hd h
theorem cop_dvdr {a b c : Int} (h : Int.gcd a b = 1) (d : c ∣ b) : Int.gcd a c = 1 := by
  rw [Int.gcd_comm]
  exact cop_dvd (by rw [Int.gcd_comm]; exact h) d
theorem div_cop {a b : Int} (h : b ≠ 0) : Int.gcd (a / g a b) (b / g a b) = 1 := by
  have hp : 0 < Int.gcd a b := Int.gcd_pos_of_ne_zero_right a h
  exact Int.gcd_ediv_gcd_ediv_gcd hp
theorem cop_add {a b k : Int} (h : Int.gcd a b = 1) : Int.gcd (a + k * b) b = 1 := by
  rw [Int.gcd_add_mul_right_left]
  exact h

theorem mul_g {a b : Int} : g a b * (a / g a b) = a := Int.mul_ediv_cancel' (g_dvd_left a b)
theorem mul_gr {a b : Int} : g a b * (b / g a b) = b := Int.mul_ediv_cancel' (g_dvd_right a b)
theorem low_ok {t b : Int} (hb : 0 < b) : Fq (t / g t b) (b / g t b) ∧ (t / g t b) * b = t * (b / g t b) := by
  have hg : 0 < g t b := g_pos (by (first | lia | omega))
  refine ⟨⟨?_, div_cop (by (first | lia | omega))⟩, ?_⟩
  · exact Int.ediv_pos_of_pos_of_dvd hb (Int.le_of_lt hg) (g_dvd_right t b)
  · have e1 := @mul_g t b
    have e2 := @mul_gr t b
    generalize t / g t b = x at *
    generalize b / g t b = y at *
    calc x * b = x * (g t b * y) := by rw [e2]
      _ = (g t b * x) * y := by rw [← Int.mul_assoc, Int.mul_comm x]
      _ = t * y := by rw [e1]
noncomputable def plsT (a b c d : Int) : Int := a * (d / g b d) + c * (b / g b d)
noncomputable def plsN (a b c d : Int) : Int := plsT a b c d / g (plsT a b c d) (g b d)
noncomputable def plsD (a b c d : Int) : Int := (b / g b d) * (d / g (plsT a b c d) (g b d))
theorem pls_ok {a b c d : Int} (h : Fq a b) (k : Fq c d) : Fq (plsN a b c d) (plsD a b c d) ∧ plsN a b c d * (b * d) = (a * d + c * b) * plsD a b c d := by
  have hs : 0 < g b d := g_pos (by have := k.pos; (first | lia | omega))
  obtain ⟨s, hs'⟩ : ∃ s, s = g b d := ⟨_, rfl⟩
  obtain ⟨x, hx⟩ : ∃ x, x = b / g b d := ⟨_, rfl⟩
  obtain ⟨y, hy⟩ : ∃ y, y = d / g b d := ⟨_, rfl⟩
  obtain ⟨t, ht⟩ : ∃ t, t = a * y + c * x := ⟨_, rfl⟩
  have et : plsT a b c d = t := by rw [ht, hx, hy]; rfl
  have eb : s * x = b := by rw [hs', hx]; exact mul_g
  have ed : s * y = d := by rw [hs', hy]; exact mul_gr
  have cxy : Int.gcd x y = 1 := by rw [hx, hy]; exact div_cop (by have := k.pos; (first | lia | omega))
  have hx0 : 0 < x := by rw [hx]; exact Int.ediv_pos_of_pos_of_dvd h.pos (g_nonneg _ _) (g_dvd_left _ _)
  have hy0 : 0 < y := by rw [hy]; exact Int.ediv_pos_of_pos_of_dvd k.pos (g_nonneg _ _) (g_dvd_right _ _)
  rw [← hs'] at hs
  obtain ⟨l, hl⟩ : ∃ l, l = g t s := ⟨_, rfl⟩
  have hl0 : 0 < l := by rw [hl]; exact g_pos (by (first | lia | omega))
  obtain ⟨T, hT⟩ : ∃ T, T = t / g t s := ⟨_, rfl⟩
  obtain ⟨S, hS⟩ : ∃ S, S = s / g t s := ⟨_, rfl⟩
  have eT : l * T = t := by rw [hl, hT]; exact mul_g
  have eS : l * S = s := by rw [hl, hS]; exact mul_gr
  have cTS : Int.gcd T S = 1 := by rw [hT, hS]; exact div_cop (by (first | lia | omega))
  have hS0 : 0 < S := by rw [hS]; exact Int.ediv_pos_of_pos_of_dvd hs (g_nonneg _ _) (g_dvd_right _ _)
  have eN : plsN a b c d = T := by unfold plsN; rw [et, ← hs', hT]
  have eD : plsD a b c d = x * (S * y) := by
    unfold plsD
    have hdl : d / g t s = S * y := by rw [← hl, ← ed, ← eS, Int.mul_assoc, Int.mul_ediv_cancel_left _ (by (first | lia | omega))]
    rw [et, ← hx, ← hs', hdl]
  have cax : Int.gcd a x = 1 := cop_dvdr h.one ⟨s, by rw [← eb, Int.mul_comm]⟩
  have ccy : Int.gcd c y = 1 := cop_dvdr k.one ⟨s, by rw [← ed, Int.mul_comm]⟩
  have ctx : Int.gcd t x = 1 := by
    rw [ht]
    exact cop_add (cop_mull cax (by rw [Int.gcd_comm]; exact cxy))
  have cty : Int.gcd t y = 1 := by
    rw [ht, Int.add_comm]
    exact cop_add (cop_mull ccy cxy)
  have dT : T ∣ t := ⟨l, by rw [← eT, Int.mul_comm]⟩
  rw [eN, eD]
  refine ⟨⟨Int.mul_pos hx0 (Int.mul_pos hS0 hy0), cop_mul (cop_dvd ctx dT) (cop_mul cTS (cop_dvd cty dT))⟩, ?_⟩
  have e1 : a * d + c * b = s * t := by
    rw [← ed, ← eb, ht, Int.mul_add]
    simp [Int.mul_comm, Int.mul_left_comm, Int.mul_assoc]
  rw [e1, ← eT, ← ed, ← eb, ← eS]
  simp [Int.mul_comm, Int.mul_left_comm, Int.mul_assoc]
noncomputable def tmsN (a b c d : Int) : Int := (a / g a d) * (c / g c b)
noncomputable def tmsD (a b c d : Int) : Int := (b / g c b) * (d / g a d)
theorem g_step {a b : Int} (ha : 0 ≤ a) (hb : 0 < b) : g b (a % b) = g a b := by
  unfold g
  rw [Int.gcd_comm a b]
  exact congrArg _ (by rw [Int.emod_def, Int.sub_eq_add_neg, ← Int.mul_neg, Int.gcd_add_mul_left_right])
theorem g_end {a : Int} (ha : 0 ≤ a) : g a 0 = a := by
  unfold g
  rw [Int.gcd_zero_right]
  (first | lia | omega)
theorem g_abs (a b : Int) : g (if a < 0 then -a else a) (if b < 0 then -b else b) = g a b := by
  unfold g
  split <;> split <;> simp
end Ra

namespace Ra
noncomputable def sh (t b : Int) : Int := if b < 0 then -(g t b) else g t b
noncomputable def frN (t b : Int) : Int := t.fdiv (sh t b)
noncomputable def frD (t b : Int) : Int := b.fdiv (sh t b)
theorem sh_ne {t b : Int} (h : b ≠ 0) : sh t b ≠ 0 := by
  have := g_pos (a := t) h
  unfold sh
  split <;> (first | lia | omega)
theorem sh_bt {n : Nat} {t b : Int} (h : b ≠ 0) (k : Bt n b) : Bt n (sh t b) := by
  have d : (g t b).natAbs ≤ b.natAbs := by
    have := Int.natAbs_dvd_natAbs.mpr (g_dvd_right t b)
    exact Nat.le_of_dvd (by (first | lia | omega)) this
  refine k.of_le ?_
  unfold sh
  split
  · rw [Int.natAbs_neg]
    exact d
  · exact d
theorem sh_dvd_left (t b : Int) : sh t b ∣ t := by
  unfold sh
  split
  · exact Int.neg_dvd.mpr (g_dvd_left t b)
  · exact g_dvd_left t b
theorem sh_dvd_right (t b : Int) : sh t b ∣ b := by
  unfold sh
  split
  · exact Int.neg_dvd.mpr (g_dvd_right t b)
  · exact g_dvd_right t b
theorem frN_eq (t b : Int) : frN t b = if b < 0 then -(t / g t b) else t / g t b := by
  unfold frN
  rw [Int.fdiv_eq_ediv_of_dvd (sh_dvd_left t b)]
  unfold sh
  split
  · rw [Int.ediv_neg]
  · rfl
theorem frD_eq (t b : Int) : frD t b = if b < 0 then -(b / g t b) else b / g t b := by
  unfold frD
  rw [Int.fdiv_eq_ediv_of_dvd (sh_dvd_right t b)]
  unfold sh
  split
  · rw [Int.ediv_neg]
  · rfl
theorem fr_ok {t b : Int} (h : b ≠ 0) : Fq (frN t b) (frD t b) ∧ frN t b * b = t * frD t b := by
  have hg : 0 < g t b := g_pos h
  have e1 := @mul_g t b
  have e2 := @mul_gr t b
  have c := div_cop (a := t) h
  rw [frN_eq, frD_eq]
  generalize t / g t b = x at *
  generalize b / g t b = y at *
  generalize g t b = d at *
  have key : x * b = t * y := by
    rw [← e1, ← e2]
    simp [Int.mul_comm, Int.mul_left_comm]
  by_cases hb : b < 0
  · rw [if_pos hb, if_pos hb]
    refine ⟨⟨?_, by rw [Int.neg_gcd, Int.gcd_neg]; exact c⟩, by rw [Int.neg_mul, Int.mul_neg, key]⟩
    have : y < 0 := by
      rcases Int.lt_trichotomy y 0 with z | z | z
      · exact z
      · rw [z] at e2
        (first | lia | omega)
      · have := Int.mul_pos hg z
        (first | lia | omega)
    (first | lia | omega)
  · rw [if_neg hb, if_neg hb]
    refine ⟨⟨?_, c⟩, key⟩
    rcases Int.lt_trichotomy y 0 with z | z | z
    · have := Int.mul_pos hg (show 0 < -y by (first | lia | omega))
      rw [Int.mul_neg] at this
      (first | lia | omega)
    · rw [z] at e2
      (first | lia | omega)
    · exact z
noncomputable def sgn (a : Int) : Int := if a > 0 then 1 else if a < 0 then -1 else 0
noncomputable def ab (a : Int) : Int := if a < 0 then -a else a
end Ra

namespace Rq
open Ra
theorem den_pos (q : Rat) : (0 : Int) < (q.den : Int) := by have := q.den_pos; (first | lia | omega)
theorem den_ne (q : Rat) : ((q.den : Int) : Rat) ≠ 0 := fun h => by
  have := den_pos q
  have h2 : (q.den : Int) = 0 := Rat.intCast_eq_zero_iff.mp h
  (first | lia | omega)
theorem fq (q : Rat) : Fq q.num q.den := ⟨den_pos q, q.reduced⟩
theorem q_eq (q : Rat) : (q.num : Rat) / ((q.den : Int) : Rat) = q := by
  rw [← Rat.divInt_eq_div]
  exact Rat.num_divInt_den q
theorem of_low {N D T M : Int} (f : Fq N D) (hM : M ≠ 0) (e : N * M = T * D) {q : Rat} (hq : q = (T : Rat) / (M : Rat)) : q.num = N ∧ (q.den : Int) = D := by
  have hD := f.pos
  have hd : D.toNat ≠ 0 := by (first | lia | omega)
  have ed : ((D.toNat : Nat) : Int) = D := by (first | lia | omega)
  have hr : N.natAbs.Coprime D.toNat := by
    have h := f.one
    have e2 : D.natAbs = D.toNat := by (first | lia | omega)
    rw [← e2]
    exact h
  have key : q = (⟨N, D.toNat, hd, hr⟩ : Rat) := by
    rw [hq, ← Rat.divInt_eq_div, Rat.mk_eq_divInt, ed]
    exact (Rat.divInt_eq_divInt_iff hM (by (first | lia | omega))).mpr e.symm
  rw [key]
  exact ⟨rfl, ed⟩
theorem pls_q (p q : Rat) : plsN p.num p.den q.num q.den = (p + q).num ∧ plsD p.num p.den q.num q.den = ((p + q).den : Int) := by
  obtain ⟨f, e⟩ := pls_ok (fq p) (fq q)
  have h1 := den_pos p
  have h2 := den_pos q
  obtain ⟨a, b⟩ := of_low (q := p + q) f (Int.ne_of_gt (Int.mul_pos h1 h2)) e (by
    have e1 := q_eq p
    have e2 := q_eq q
    have n1 := den_ne p
    have n2 := den_ne q
    simp only [Rat.intCast_add, Rat.intCast_mul]
    generalize (p.num : Rat) = a at *
    generalize ((p.den : Int) : Rat) = b at *
    generalize (q.num : Rat) = c at *
    generalize ((q.den : Int) : Rat) = d at *
    subst e1 e2
    grind)
  exact ⟨a.symm, b.symm⟩
theorem mns_q (p q : Rat) : plsN p.num p.den (-q.num) q.den = (p - q).num ∧ plsD p.num p.den (-q.num) q.den = ((p - q).den : Int) := by
  have h := pls_q p (-q)
  rw [Rat.neg_num, Rat.neg_den, ← Rat.sub_eq_add_neg] at h
  exact h
theorem low_q {t b : Int} (hb : 0 < b) : t / g t b = ((t : Rat) / (b : Rat)).num ∧ b / g t b = (((t : Rat) / (b : Rat)).den : Int) := by
  obtain ⟨f, e⟩ := low_ok (t := t) hb
  obtain ⟨a, b⟩ := of_low f (by (first | lia | omega)) e rfl
  exact ⟨a.symm, b.symm⟩
noncomputable def Bq (n : Nat) (q : Rat) : Prop := Bt n q.num ∧ Bt n (q.den : Int)
theorem Bq.mono {m n : Nat} {q : Rat} (h : Bq m q) (l : m ≤ n) : Bq n q := ⟨h.1.mono l, h.2.mono l⟩
theorem Bq.zero {n : Nat} (h : 0 < n) : Bq n 0 := ⟨Bt.zero, Bt.mono (m := 1) (by show (1 : Nat) < 2 ^ 1; decide) h⟩
theorem dvd_of {T M : Int} {q : Rat} (hM : M ≠ 0) (hq : q = (T : Rat) / (M : Rat)) : q.num ∣ T ∧ (q.den : Int) ∣ M := by
  have e : q.num * M = T * q.den := by
    have e1 : (q.num : Rat) / ((q.den : Int) : Rat) = (T : Rat) / (M : Rat) := (q_eq q).trans hq
    rw [← Rat.divInt_eq_div, ← Rat.divInt_eq_div] at e1
    exact (Rat.divInt_eq_divInt_iff (by have := den_pos q; (first | lia | omega)) hM).mp e1
  have c := (fq q).one
  constructor
  · have d : q.num ∣ T * q.den := ⟨M, e.symm⟩
    have d' := Int.natAbs_dvd_natAbs.mpr d
    rw [Int.natAbs_mul] at d'
    exact Int.natAbs_dvd_natAbs.mp (Nat.Coprime.dvd_of_dvd_mul_right c d')
  · have d : (q.den : Int) ∣ q.num * M := ⟨T, by rw [e, Int.mul_comm]⟩
    have d' := Int.natAbs_dvd_natAbs.mpr d
    rw [Int.natAbs_mul] at d'
    exact Int.natAbs_dvd_natAbs.mp (Nat.Coprime.dvd_of_dvd_mul_left (Nat.Coprime.symm c) d')
theorem bq_of {n : Nat} {T M : Int} {q : Rat} (hM : M ≠ 0) (hq : q = (T : Rat) / (M : Rat)) (bT : Bt n T) (bM : Bt n M) : Bq n q := by
  obtain ⟨d1, d2⟩ := dvd_of hM hq
  refine ⟨?_, bM.of_le (Nat.le_of_dvd (by (first | lia | omega)) (Int.natAbs_dvd_natAbs.mpr d2))⟩
  by_cases h : T = 0
  · subst h
    have : q = 0 := by rw [hq]; simp [Rat.div_def]
    rw [this]
    exact Bt.zero
  · exact bT.of_le (Nat.le_of_dvd (by (first | lia | omega)) (Int.natAbs_dvd_natAbs.mpr d1))
end Rq

namespace Po
open Ra Rq
noncomputable def strip : List Rat → List Rat
  | [] => []
  | q :: qs => match strip qs with
    | [] => if q = 0 then [] else [q]
    | r :: rs => q :: r :: rs
theorem getD_strip (xs : List Rat) (i : Nat) : (strip xs).getD i 0 = xs.getD i 0 := by
  induction xs generalizing i with
  | nil => rfl
  | cons x xs ih =>
    rw [strip]
    cases h : strip xs with
    | nil =>
      rw [h] at ih
      cases i with
      | zero => by_cases hx : x = 0 <;> simp [hx]
      | succ i =>
        have e := ih i
        by_cases hx : x = 0 <;> simp [hx] at * <;> exact e
    | cons r rs =>
      rw [h] at ih
      cases i with
      | zero => rfl
      | succ i => simpa using ih i
noncomputable def ev : List Rat → Rat → Rat
  | [], _ => 0
  | q :: qs, x => q + x * ev qs x
noncomputable def padd (ps qs : List Rat) : List Rat := strip ((List.range (max ps.length qs.length)).map fun k => ps.getD k 0 + qs.getD k 0)
noncomputable def psub (ps qs : List Rat) : List Rat := strip ((List.range (max ps.length qs.length)).map fun k => ps.getD k 0 - qs.getD k 0)
noncomputable def pscale (qs : List Rat) (x : Rat) : List Rat := strip (qs.map (· * x))
noncomputable def pslope (qs : List Rat) : List Rat := (List.range (qs.length - 1)).map fun k => qs.getD (k + 1) 0 * (((1 : Int) + (k : Int) : Int) : Rat)
noncomputable def sm (f : Nat → Rat) (n : Nat) : Rat := (List.range n).foldl (fun acc i => acc + f i) 0
theorem sm_zero (f : Nat → Rat) : sm f 0 = 0 := rfl
theorem sm_succ (f : Nat → Rat) (n : Nat) : sm f (n + 1) = sm f n + f n := by
  unfold sm
  rw [List.range_succ, List.foldl_append]
  rfl
theorem sm_congr {f h : Nat → Rat} {n : Nat} (e : ∀ i, i < n → f i = h i) : sm f n = sm h n := by
  induction n with
  | zero => rfl
  | succ n ih => rw [sm_succ, sm_succ, ih fun i hi => e i (by (first | lia | omega)), e n (by (first | lia | omega))]
theorem sm_first (f : Nat → Rat) (n : Nat) : sm f (n + 1) = f 0 + sm (fun i => f (i + 1)) n := by
  induction n with
  | zero => rw [sm_succ, sm_zero, sm_zero]; grind
  | succ n ih => rw [sm_succ, ih, sm_succ]; grind
theorem sm_add (f h : Nat → Rat) (n : Nat) : sm (fun i => f i + h i) n = sm f n + sm h n := by
  induction n with
  | zero => rw [sm_zero, sm_zero, sm_zero]; grind
  | succ n ih => rw [sm_succ, sm_succ, sm_succ, ih]; grind
theorem sm_mul (c : Rat) (f : Nat → Rat) (n : Nat) : sm (fun i => c * f i) n = c * sm f n := by
  induction n with
  | zero => rw [sm_zero, sm_zero]; grind
  | succ n ih => rw [sm_succ, sm_succ, ih]; grind
theorem sm_zeros {f : Nat → Rat} {n : Nat} (e : ∀ i, i < n → f i = 0) : sm f n = 0 := by
  induction n with
  | zero => rfl
  | succ n ih => rw [sm_succ, ih fun i hi => e i (by (first | lia | omega)), e n (by (first | lia | omega))]; grind
theorem sm_more {f : Nat → Rat} {m n : Nat} (h : m ≤ n) (e : ∀ i, m ≤ i → i < n → f i = 0) : sm f n = sm f m := by
  induction n with
  | zero =>
    have : m = 0 := by (first | lia | omega)
    rw [this]
  | succ n ih =>
    by_cases hm : m = n + 1
    · rw [hm]
    · rw [sm_succ, ih (by (first | lia | omega)) fun i h1 h2 => e i h1 (by (first | lia | omega)), e n (by (first | lia | omega)) (by (first | lia | omega))]
      grind
noncomputable def conv (ps qs : List Rat) (k : Nat) : Rat := sm (fun i => ps.getD i 0 * qs.getD (k - i) 0) (k + 1)
theorem getD_out {xs : List Rat} {i : Nat} (h : xs.length ≤ i) : xs.getD i 0 = 0 := by
  rw [List.getD_eq_getElem?_getD, List.getElem?_eq_none h]
  rfl
noncomputable def pmul (ps qs : List Rat) : List Rat := strip ((List.range (ps.length + qs.length)).map (conv ps qs))
theorem getD_range (f : Nat → Rat) (n i : Nat) : ((List.range n).map f).getD i 0 = if i < n then f i else 0 := by
  rw [List.getD_eq_getElem?_getD, List.getElem?_map]
  by_cases h : i < n
  · rw [List.getElem?_range h, if_pos h]
    rfl
  · rw [List.getElem?_eq_none (by rw [List.length_range]; (first | lia | omega)), if_neg h]
    rfl
theorem conv_out {ps qs : List Rat} {k : Nat} (h : ps.length + qs.length ≤ k + 1) : conv ps qs k = 0 := by
  unfold conv
  refine sm_zeros fun i hi => ?_
  by_cases h1 : ps.length ≤ i
  · rw [getD_out h1]; grind
  · rw [getD_out (xs := qs) (by (first | lia | omega))]; grind
theorem getD_pmul (ps qs : List Rat) (k : Nat) : (pmul ps qs).getD k 0 = conv ps qs k := by
  unfold pmul
  rw [getD_strip, getD_range]
  by_cases h : k < ps.length + qs.length
  · rw [if_pos h]
  · rw [if_neg h, conv_out (by (first | lia | omega))]
noncomputable def Rep (n : Nat) (v : Rat) (T M : Int) : Prop := M ≠ 0 ∧ v = (T : Rat) / (M : Rat) ∧ Bt n T ∧ Bt n M
noncomputable def lsum (qs : List Rat) : Rat := qs.foldl (· + ·) 0
end Po

namespace Po
open Ra Rq
noncomputable def stp (gs ws : List Rat) (t h0 l0 : Rat) : Nat → Rat × Rat
  | 0 => (h0 + gs.getD 0 0 * l0, l0)
  | k + 1 => ((stp gs ws t h0 l0 k).1 + gs.getD (k + 1) 0 * ((stp gs ws t h0 l0 k).2 - t * ws.getD k 0 * (stp gs ws t h0 l0 k).1), (stp gs ws t h0 l0 k).2 - t * ws.getD k 0 * (stp gs ws t h0 l0 k).1)
noncomputable def walkQ (gs ws : List Rat) (t h0 l0 : Rat) : List (Rat × Rat) := (List.range gs.length).map (stp gs ws t h0 l0)
structure R3 (n : Nat) (h l : Rat) (th tl m : Int) : Prop where
  pos : 0 < m
  eh : h = (th : Rat) / (m : Rat)
  el : l = (tl : Rat) / (m : Rat)
  bh : Bt n th
  bl : Bt n tl
  bm : Bt n m
end Po

namespace Po
open Ra Rq
noncomputable def lst (xs : List Rat) : Rat := xs.getD (xs.length - 1) 0
noncomputable def rless (rs qs : List Rat) (f : Rat) : List Rat := rs.take (rs.length - qs.length) ++ (List.range (qs.length - 1)).map fun k => rs.getD (rs.length - qs.length + k) 0 - f * qs.getD k 0
theorem sm_single (g : Nat → Rat) (n m : Nat) : sm (fun i => if i = n then g i else 0) m = if n < m then g n else 0 := by
  induction m with
  | zero => rfl
  | succ m ih =>
    rw [sm_succ, ih]
    by_cases h : m = n
    · subst h
      rw [if_neg (by (first | lia | omega)), if_pos rfl, if_pos (by (first | lia | omega)), Rat.zero_add]
    · rw [if_neg h, Rat.add_zero]
      by_cases h2 : n < m
      · rw [if_pos h2, if_pos (by (first | lia | omega))]
      · rw [if_neg h2, if_neg (by (first | lia | omega))]
theorem conv_nil (qs : List Rat) (k : Nat) : conv [] qs k = 0 := sm_zeros fun i _ => by rw [getD_out (xs := []) (by simp), Rat.zero_mul]
noncomputable def dv (qs : List Rat) : Nat → List Rat → List Rat × List Rat
  | 0, rs => ([], rs)
  | s + 1, rs => if rs.length < qs.length then ([], rs) else ((dv qs s (rless rs qs (lst rs / lst qs))).1 ++ [lst rs / lst qs], (dv qs s (rless rs qs (lst rs / lst qs))).2)
noncomputable def Ov (n : Nat) (M : Int) (q : Rat) : Prop := ∃ T : Int, Bt n T ∧ q * (M : Rat) = (T : Rat)
theorem Ov.mono {m n : Nat} {M : Int} {q : Rat} (h : Ov m M q) (l : m ≤ n) : Ov n M q := by
  obtain ⟨T, b, e⟩ := h
  exact ⟨T, b.mono l, e⟩
theorem Ov.scale {m n : Nat} {M Z : Int} {q : Rat} (h : Ov m M q) (k : Bt n Z) : Ov (m + n) (M * Z) q := by
  obtain ⟨T, b, e⟩ := h
  refine ⟨T * Z, b.mul k, ?_⟩
  rw [Rat.intCast_mul, Rat.intCast_mul, ← e]
  grind
end Po

namespace Po
open Ra Rq
theorem ev_strip (ps : List Rat) (t : Rat) : ev (strip ps) t = ev ps t := by
  induction ps with
  | nil => rfl
  | cons q qs ih =>
    rw [strip]
    cases h : strip qs with
    | nil =>
      rw [h] at ih
      have e0 : ev qs t = 0 := ih.symm
      by_cases hq : q = 0
      · simp only [hq, if_true, ev, e0]; grind
      · simp only [hq, if_false, ev, e0]
    | cons r rs =>
      rw [h] at ih
      show q + t * ev (r :: rs) t = q + t * ev qs t
      rw [ih]
theorem ev_sm (ps : List Rat) (t : Rat) (n : Nat) (h : ps.length ≤ n) : ev ps t = sm (fun i => ps.getD i 0 * t ^ i) n := by
  induction ps generalizing n with
  | nil => rw [sm_zeros fun i _ => by rw [getD_out (by simp)]; grind]; rfl
  | cons q qs ih =>
    obtain ⟨m, rfl⟩ : ∃ m, n = m + 1 := ⟨n - 1, by simp only [List.length_cons] at h; (first | lia | omega)⟩
    rw [sm_first, ev, ih m (by simp only [List.length_cons] at h; (first | lia | omega)), ← sm_mul]
    have e1 : (q :: qs).getD 0 0 * t ^ 0 = q := by rw [Rat.pow_zero, Rat.mul_one]; rfl
    rw [e1]
    congr 1
    refine sm_congr fun i _ => ?_
    have e2 : (q :: qs).getD (i + 1) 0 = qs.getD i 0 := by simp
    rw [e2, Rat.pow_succ]
    grind
theorem ev_range (f : Nat → Rat) (n : Nat) (t : Rat) : ev ((List.range n).map f) t = sm (fun i => f i * t ^ i) n := by
  rw [ev_sm _ t n (by simp)]
  exact sm_congr fun i hi => by rw [getD_range, if_pos hi]
theorem ev_padd (ps qs : List Rat) (t : Rat) : ev (padd ps qs) t = ev ps t + ev qs t := by
  unfold padd
  rw [ev_strip, ev_range, ev_sm ps t (max ps.length qs.length) (by (first | lia | omega)), ev_sm qs t (max ps.length qs.length) (by (first | lia | omega)), ← sm_add]
  exact sm_congr fun i _ => by grind
theorem ev_neg (qs : List Rat) (t : Rat) (n : Nat) : sm (fun i => -(qs.getD i 0 * t ^ i)) n = -sm (fun i => qs.getD i 0 * t ^ i) n := by
  have h := sm_mul (-1) (fun i => qs.getD i 0 * t ^ i) n
  have e : sm (fun i => -1 * (qs.getD i 0 * t ^ i)) n = sm (fun i => -(qs.getD i 0 * t ^ i)) n := sm_congr fun i _ => by grind
  rw [← e, h]
  grind
theorem ev_psub (ps qs : List Rat) (t : Rat) : ev (psub ps qs) t = ev ps t - ev qs t := by
  unfold psub
  rw [ev_strip, ev_range, ev_sm ps t (max ps.length qs.length) (by (first | lia | omega)), ev_sm qs t (max ps.length qs.length) (by (first | lia | omega)), Rat.sub_eq_add_neg, ← ev_neg, ← sm_add]
  exact sm_congr fun i _ => by grind
theorem ev_map_mul (qs : List Rat) (x t : Rat) : ev (qs.map (· * x)) t = ev qs t * x := by
  induction qs with
  | nil => simp [ev, Rat.zero_mul]
  | cons q qs ih => rw [List.map_cons, ev, ih, ev]; grind
theorem ev_pscale (qs : List Rat) (x t : Rat) : ev (pscale qs x) t = ev qs t * x := by
  unfold pscale
  rw [ev_strip, ev_map_mul]
theorem conv_cons (p : Rat) (ps qs : List Rat) (k : Nat) : conv (p :: ps) qs k = p * qs.getD k 0 + if k = 0 then 0 else conv ps qs (k - 1) := by
  unfold conv
  rw [sm_first]
  have e1 : (p :: ps).getD 0 0 * qs.getD (k - 0) 0 = p * qs.getD k 0 := rfl
  rw [e1]
  congr 1
  by_cases h : k = 0
  · subst h; rw [if_pos rfl, sm_zero]
  · rw [if_neg h]
    obtain ⟨m, rfl⟩ : ∃ m, k = m + 1 := ⟨k - 1, by (first | lia | omega)⟩
    rw [Nat.add_sub_cancel]
    refine sm_congr fun i hi => ?_
    have e2 : (p :: ps).getD (i + 1) 0 = ps.getD i 0 := by simp
    rw [e2, show m + 1 - (i + 1) = m - i by (first | lia | omega)]
theorem ev_conv (ps qs : List Rat) (t : Rat) : ∀ n, ps.length + qs.length ≤ n → sm (fun k => conv ps qs k * t ^ k) n = ev ps t * ev qs t := by
  induction ps with
  | nil => intro n _; rw [sm_zeros fun i _ => by rw [conv_nil]; grind]; simp [ev, Rat.zero_mul]
  | cons p ps ih =>
    intro n h
    simp only [List.length_cons] at h
    obtain ⟨m, rfl⟩ : ∃ m, n = m + 1 := ⟨n - 1, by (first | lia | omega)⟩
    have e1 : sm (fun k => conv (p :: ps) qs k * t ^ k) (m + 1) = sm (fun k => p * (qs.getD k 0 * t ^ k)) (m + 1) + sm (fun k => (if k = 0 then 0 else conv ps qs (k - 1)) * t ^ k) (m + 1) := by
      rw [← sm_add]
      exact sm_congr fun i _ => by rw [conv_cons]; grind
    have e2 : sm (fun k => (if k = 0 then 0 else conv ps qs (k - 1)) * t ^ k) (m + 1) = t * (ev ps t * ev qs t) := by
      rw [sm_first, if_pos rfl, Rat.zero_mul, Rat.zero_add, ← ih m (by (first | lia | omega)), ← sm_mul]
      refine sm_congr fun i _ => ?_
      rw [if_neg (by (first | lia | omega)), Nat.add_sub_cancel, Rat.pow_succ]
      grind
    rw [e1, e2, sm_mul, ← ev_sm qs t (m + 1) (by (first | lia | omega)), ev]
    grind
theorem ev_pmul (ps qs : List Rat) (t : Rat) : ev (pmul ps qs) t = ev ps t * ev qs t := by
  unfold pmul
  rw [ev_strip, ev_range, ev_conv ps qs t _ (Nat.le_refl _)]
noncomputable def dif (c : Rat) : List Rat → List Rat
  | [] => []
  | q :: qs => c * q :: dif (2 * c + 1) qs
theorem dif_length (qs : List Rat) : ∀ c, (dif c qs).length = qs.length := by
  induction qs with
  | nil => intro c; rfl
  | cons q qs ih => intro c; rw [dif, List.length_cons, ih, List.length_cons]
theorem ev_dif (qs : List Rat) (t : Rat) : ∀ c, ev (dif c qs) t = (c + 1) * ev qs (2 * t) - ev qs t := by
  induction qs with
  | nil => intro c; simp only [dif, ev]; grind
  | cons q qs ih => intro c; rw [dif, ev, ih, ev, ev]; grind
theorem dif_zero (qs : List Rat) : ∀ c, 0 < c → (∀ i, (dif c qs).getD i 0 = 0) → ∀ i, qs.getD i 0 = 0 := by
  induction qs with
  | nil => intro c _ _ i; rfl
  | cons q qs ih =>
    intro c hc h i
    cases i with
    | zero =>
      have h0 : c * q = 0 := h 0
      have : q = 0 := by
        rcases Rat.mul_eq_zero.mp h0 with z | z
        · grind
        · exact z
      exact this
    | succ i =>
      have := ih (2 * c + 1) (by grind) (fun j => by simpa [dif] using h (j + 1)) i
      simpa using this
theorem outside (S : List Rat) : ∃ t, ∀ s ∈ S, s < t := by
  induction S with
  | nil => exact ⟨0, fun s h => absurd h (by simp)⟩
  | cons x S ih =>
    obtain ⟨t, h⟩ := ih
    by_cases hx : x < t
    · exact ⟨t, fun s hs => by rcases List.mem_cons.mp hs with rfl | hs; exact hx; exact h s hs⟩
    · refine ⟨x + 1, fun s hs => ?_⟩
      rcases List.mem_cons.mp hs with rfl | hs
      · grind
      · have := h s hs; grind
theorem ev_zeros {ps : List Rat} (h : ∀ i, ps.getD i 0 = 0) (t : Rat) : ev ps t = 0 := by
  rw [ev_sm ps t ps.length (Nat.le_refl _)]
  exact sm_zeros fun i _ => by rw [h i]; grind
theorem zero_of_ev : ∀ (n : Nat) (ps S : List Rat), ps.length ≤ n → (∀ t, t ∉ S → ev ps t = 0) → ∀ i, ps.getD i 0 = 0
  | 0, ps, S, hl, _ => fun i => getD_out (by (first | lia | omega))
  | n + 1, [], S, _, _ => fun i => rfl
  | n + 1, q :: qs, S, hl, h => by
    have hq : ∀ i, qs.getD i 0 = 0 := by
      refine dif_zero qs 1 (by decide) (zero_of_ev n (dif 1 qs) (0 :: (S ++ S.map (· / 2))) (by rw [dif_length]; simp only [List.length_cons] at hl; (first | lia | omega)) fun t ht => ?_)
      have h0 : t ≠ 0 := fun z => ht (by simp [z])
      have h1 : t ∉ S := fun z => ht (by simp [z])
      have h2 : 2 * t ∉ S := fun z => ht (by
        refine List.mem_cons_of_mem _ (List.mem_append_right _ (List.mem_map.mpr ⟨2 * t, z, ?_⟩))
        grind)
      have a1 := h t h1
      have a2 := h (2 * t) h2
      rw [ev] at a1 a2
      rw [ev_dif]
      have a3 : t * ((1 + 1) * ev qs (2 * t) - ev qs t) = 0 := by grind
      rcases Rat.mul_eq_zero.mp a3 with z | z
      · exact absurd z h0
      · exact z
    obtain ⟨t, ht⟩ := outside S
    have a := h t fun z => by have := ht t z; grind
    rw [ev, ev_zeros hq] at a
    intro i
    cases i with
    | zero => show q = 0; grind
    | succ i => simpa using hq i
theorem getD_psub (ps qs : List Rat) (i : Nat) : (psub ps qs).getD i 0 = ps.getD i 0 - qs.getD i 0 := by
  unfold psub
  rw [getD_strip, getD_range]
  by_cases h : i < max ps.length qs.length
  · rw [if_pos h]
  · rw [if_neg h, getD_out (xs := ps) (by (first | lia | omega)), getD_out (xs := qs) (by (first | lia | omega))]; grind
theorem getD_padd (ps qs : List Rat) (i : Nat) : (padd ps qs).getD i 0 = ps.getD i 0 + qs.getD i 0 := by
  unfold padd
  rw [getD_strip, getD_range]
  by_cases h : i < max ps.length qs.length
  · rw [if_pos h]
  · rw [if_neg h, getD_out (xs := ps) (by (first | lia | omega)), getD_out (xs := qs) (by (first | lia | omega))]; grind
theorem getD_pscale (qs : List Rat) (x : Rat) (i : Nat) : (pscale qs x).getD i 0 = qs.getD i 0 * x := by
  unfold pscale
  rw [getD_strip, List.getD_eq_getElem?_getD, List.getElem?_map, List.getD_eq_getElem?_getD]
  cases qs[i]? with
  | none => show (0 : Rat) = 0 * x; grind
  | some y => rfl
theorem ev_inj {ps qs : List Rat} (h : ∀ t, ev ps t = ev qs t) (i : Nat) : ps.getD i 0 = qs.getD i 0 := by
  have := zero_of_ev _ (psub ps qs) [] (Nat.le_refl _) (fun t _ => by rw [ev_psub, h t]; grind) i
  rw [getD_psub] at this
  grind
noncomputable def plean (l h : List Rat) (w : Rat) : List Rat := psub l (strip (0 :: pscale h w))
noncomputable def pst (gs ws : List Rat) (h0 l0 : List Rat) : Nat → List Rat × List Rat
  | 0 => (padd h0 (pscale l0 (gs.getD 0 0)), l0)
  | k + 1 => (padd (pst gs ws h0 l0 k).1 (pscale (plean (pst gs ws h0 l0 k).2 (pst gs ws h0 l0 k).1 (ws.getD k 0)) (gs.getD (k + 1) 0)), plean (pst gs ws h0 l0 k).2 (pst gs ws h0 l0 k).1 (ws.getD k 0))
structure O2 (n : Nat) (h l : List Rat) (M : Int) : Prop where
  ne : M ≠ 0
  bm : Bt n M
  oh : ∀ q ∈ h, Ov n M q
  ol : ∀ q ∈ l, Ov n M q
end Po

namespace Po
open Ra Rq
end Po
namespace Po
open Ra Rq
end Po
namespace Po
open Ra Rq
end Po
namespace Po
open Ra Rq
noncomputable def lprod (qs : List Rat) : Rat := qs.foldl (· * ·) 1
noncomputable def gsum (gs : List Rat) (k : Nat) : Rat := sm (fun i => gs.getD i 0) (k + 1)
theorem getD_in {qs : List Rat} {k : Nat} (h : k < qs.length) : qs.getD k 0 = qs[k] := by rw [List.getD_eq_getElem?_getD, List.getElem?_eq_getElem h]; rfl
noncomputable def sg (n : Nat) : Rat := ((1 - 2 * ((n : Int) % 2) : Int) : Rat)
end Po

namespace Po
open Ra Rq
noncomputable def lift (A B : List Rat) : List Rat := List.replicate (A.length - B.length) 0 ++ B
noncomputable def rst (A B : List Rat) : List Rat := (List.range (A.length - 1)).map fun i => A.getD i 0 - lst A / lst B * (lift A B).getD i 0
section
variable (gs ws : List Rat)
noncomputable def hdp (j : Nat) : List Rat := (pst gs ws [] [1] j).1
noncomputable def lsp (j : Nat) : List Rat := (pst gs ws [] [1] j).2
end
section
variable {gs ws : List Rat}
theorem lst_at {A : List Rat} {j : Nat} (h : A.length = j + 1) : lst A = A.getD j 0 := by
  unfold lst
  rw [h, Nat.add_sub_cancel]
theorem rst_len (A B : List Rat) : (rst A B).length = A.length - 1 := by
  unfold rst
  rw [List.length_map, List.length_range]
noncomputable def PA (gs ws : List Rat) (p : Nat) : List Rat := if p % 2 = 0 then hdp gs ws (ws.length - p / 2) else lsp gs ws (ws.length - p / 2)
noncomputable def PB (gs ws : List Rat) (p : Nat) : List Rat := if p % 2 = 0 then lsp gs ws (ws.length - p / 2) else if p / 2 < ws.length then hdp gs ws (ws.length - p / 2 - 1) else []
noncomputable def duP (gs ws : List Rat) (p : Nat) : Rat := if p % 2 = 0 then gs.getD (ws.length - p / 2) 0 else ws.getD (ws.length - p / 2 - 1) 0
end
end Po

namespace Po
open PySem Ra Rq
noncomputable def lam (x : Rat) : List Rat → Rat
  | [] => 1
  | l :: ls => if l = x then lam x ls else lam x ls / (x - l)
noncomputable def sum1 (f : Rat → Rat) : List Rat → Rat
  | [] => 0
  | l :: ls => f l + sum1 f ls
noncomputable def syn (a : Rat) : List Rat → List Rat
  | [] => []
  | _ :: p => ev p a :: syn a p
end Po
namespace Po
open PySem Ra Rq
theorem ev_less {A B : List Rat} {N : Nat} (hA : A.length = N + 1) (hB : B.length = N + 1) {c : Rat} (h : A.getD N 0 = c * B.getD N 0) (t : Rat) : ev ((List.range N).map fun i => A.getD i 0 - c * B.getD i 0) t = ev A t - c * ev B t := by
  rw [ev_range, ev_sm A t (N + 1) (by (first | lia | omega)), ev_sm B t (N + 1) (by (first | lia | omega)), ← sm_mul]
  have e : ∀ n, sm (fun i => (A.getD i 0 - c * B.getD i 0) * t ^ i) n = sm (fun i => A.getD i 0 * t ^ i) n - sm (fun i => c * (B.getD i 0 * t ^ i)) n := fun n => by
    induction n with
    | zero => simp only [sm_zero]; grind
    | succ n ih => rw [sm_succ, sm_succ, sm_succ, ih]; grind
  have e' := e N
  have z : sm (fun i => A.getD i 0 * t ^ i) (N + 1) - sm (fun i => c * (B.getD i 0 * t ^ i)) (N + 1) = sm (fun i => A.getD i 0 * t ^ i) N - sm (fun i => c * (B.getD i 0 * t ^ i)) N := by
    rw [sm_succ, sm_succ, h]
    grind
  grind
theorem ev_rst_eq {A B : List Rat} {N : Nat} (hA : A.length = N + 1) (hB : B.length = N + 1) (h : lst B ≠ 0) (t : Rat) : ev (rst A B) t = ev A t - lst A / lst B * ev B t := by
  have e : lift A B = B := by
    unfold lift
    rw [hA, hB, Nat.sub_self]
    rfl
  unfold rst
  rw [e, hA, Nat.add_sub_cancel]
  refine ev_less hA hB ?_ t
  rw [← lst_at hA, ← lst_at hB]
  generalize lst A = u at *
  generalize lst B = v at *
  grind
theorem ev_rst_sh {A B : List Rat} {N : Nat} (hA : A.length = N + 2) (hB : B.length = N + 1) (h : lst B ≠ 0) (t : Rat) : ev (rst A B) t = ev A t - lst A / lst B * (t * ev B t) := by
  have e : lift A B = 0 :: B := by
    unfold lift
    rw [hA, hB, show N + 2 - (N + 1) = 1 by (first | lia | omega)]
    rfl
  unfold rst
  rw [e, hA, show N + 2 - 1 = N + 1 by (first | lia | omega)]
  have hB' : (0 :: B).length = N + 1 + 1 := by rw [List.length_cons, hB]
  rw [ev_less hA hB' ?_ t]
  · show ev A t - lst A / lst B * (0 + t * ev B t) = _
    grind
  · rw [← lst_at hA, List.getD_cons_succ, ← lst_at hB]
    generalize lst A = u at *
    generalize lst B = v at *
    grind
section
variable (U L : List Rat)
noncomputable def sq : Nat → List Rat × List Rat
  | 0 => (U, L)
  | k + 1 => (rst (sq k).1 (sq k).2, rst (sq k).2 (rst (sq k).1 (sq k).2))
noncomputable def gq (k : Nat) : Rat := lst (sq U L k).1 / lst (sq U L k).2
noncomputable def mq (k : Nat) : Rat := -(lst (sq U L k).2 / lst (sq U L (k + 1)).1)
noncomputable def ad : Nat → List Rat × List Rat
  | 0 => ([1], [])
  | k + 1 => (psub (ad k).1 (0 :: pscale (padd (ad k).2 (pscale (ad k).1 (mq U L k))) (gq U L (k + 1))), padd (ad k).2 (pscale (ad k).1 (mq U L k)))
end
structure Pts (n : Nat) (s : Rat) (U L ls : List Rat) : Prop where
  hU : U.length = n + 1
  hL : L.length = n + 1
  nd : ls.Nodup
  hn : ls.length = n
  pos : ∀ x ∈ ls, 0 < x
  zero : ∀ x ∈ ls, ev L x = 0
  one : L.getD 0 0 = 1
  wt : ∀ x ∈ ls, 0 < s * lam x ls * ev U x
  neg : s * lst L < 0
  quo : 0 < lst U / lst L
structure Inv (n : Nat) (s : Rat) (U L ls : List Rat) (k : Nat) : Prop where
  lu : (sq U L k).1.length = n - k + 1
  ll : (sq U L k).2.length = n - k + 1
  l0 : lst (sq U L k).2 ≠ 0
  g0 : 0 < gq U L k
  f0 : (sq U L k).2.getD 0 0 = 1
  eL : ∀ x ∈ ls, ev (sq U L k).2 x = x * ev (ad U L k).2 x * ev U x
  eU : ∀ x ∈ ls, ev (sq U L (k + 1)).1 x = ev (ad U L k).1 x * ev U x
  a0 : (ad U L k).1.getD 0 0 = 1
  aj : ∀ j, k + 1 ≤ j → (ad U L k).1.getD j 0 = 0
  d0 : 0 ≤ (ad U L k).2.getD 0 0
  dj : ∀ j, k ≤ j → (ad U L k).2.getD j 0 = 0
  sg : ∃ y c, 0 < c ∧ 0 < s * y * lst (sq U L k).2 ∧ (ad U L k).1.getD k 0 = -(c * y)
end Po
namespace Po
open PySem Ra Rq
noncomputable def mulc (w k : Rat) : List Rat → List Rat
  | [] => [0 - k / w]
  | c :: p => (c - k / w) :: mulc w c p
noncomputable def wths (p us : List Rat) : List Rat := us.foldl (fun p u => mulc u 0 p) p
noncomputable def pu (t : Rat) : List Rat → Rat
  | [] => 1
  | u :: us => (1 - t / u) * pu t us
noncomputable def sgN : Nat → Rat
  | 0 => 1
  | n + 1 => -sgN n
noncomputable def Turns (a : Rat) : List Rat → List Rat → Prop
  | [], [] => True
  | l :: ls, u :: us => a < l ∧ l < u ∧ Turns u ls us
  | _, _ => False
end Po
namespace Po
open PySem Ra Rq
noncomputable def OvN (N : Nat) (A : List Rat) : Prop := ∃ M : Int, M ≠ 0 ∧ Bt N M ∧ ∀ q ∈ A, Ov N M q
theorem OvN.mono {m n : Nat} {A : List Rat} (h : OvN m A) (l : m ≤ n) : OvN n A := by
  obtain ⟨M, h1, h2, h3⟩ := h
  exact ⟨M, h1, h2.mono l, fun q hq => (h3 q hq).mono l⟩
noncomputable def fbn (a b : Nat) : Nat → Nat × Nat
  | 0 => (a, b)
  | k + 1 => ((fbn a b k).1 + (fbn a b k).2 + 1, (fbn a b k).2 + ((fbn a b k).1 + (fbn a b k).2 + 1) + 1)
section
variable {gs ws : List Rat}
end
end Po
namespace Po
open PySem Ra Rq
structure Fnd (c : Rat) (ls us gs ws : List Rat) : Prop where
  lg : gs.length = ws.length + 1
  lw : ws.length = ls.length
  pg : ∀ q ∈ gs, 0 < q
  pw : ∀ q ∈ ws, 0 < q
  hd : hdp gs ws ws.length = wths [c] us
  ls : lsp gs ws ws.length = wths [1] ls
  oh : ∀ k, k ≤ ws.length → OvN ((fbn 57 57 k).1 + 100) (hdp gs ws (ws.length - k))
  ol : ∀ k, k ≤ ws.length → OvN (fbn 57 57 k).2 (lsp gs ws (ws.length - k))
section
variable {c : Rat} {lo us gs ws : List Rat}
end
end Po

namespace Po
open Ra Rq
noncomputable def abp (U L : List Rat) : Nat → List Rat × List Rat
  | 0 => (U, L)
  | p + 1 => ((abp U L p).2, rst (abp U L p).1 (abp U L p).2)
noncomputable def qAt (k : Nat) (A B : List Rat) : Rat := if lst B = 0 then 0 else if k % 2 = 0 then lst A / lst B else -(lst A / lst B)
noncomputable def qp (U L : List Rat) (p : Nat) : Rat := qAt p (abp U L p).1 (abp U L p).2
theorem qAt_pos {k : Nat} {A B : List Rat} (h : 0 < qAt k A B) : lst B ≠ 0 := fun z => by
  unfold qAt at h
  rw [if_pos z] at h
  exact absurd h (by decide)
theorem abp_len {U L : List Rat} {n : Nat} (hU : U.length = n + 1) (hL : L.length = n + 1) : ∀ k, (abp U L (2 * k)).1.length = n + 1 - k ∧ (abp U L (2 * k)).2.length = n + 1 - k ∧ (abp U L (2 * k + 1)).1.length = n + 1 - k ∧ (abp U L (2 * k + 1)).2.length = n - k
  | 0 => ⟨hU, hL, hL, by show (rst U L).length = n - 0; rw [rst_len, hU]; (first | lia | omega)⟩
  | k + 1 => by
    obtain ⟨a, b, c, d⟩ := abp_len hU hL k
    have e1 : (abp U L (2 * (k + 1))).1.length = n + 1 - (k + 1) := by
      show (abp U L (2 * k + 1)).2.length = _
      rw [d]
      (first | lia | omega)
    have e2 : (abp U L (2 * (k + 1))).2.length = n + 1 - (k + 1) := by
      show (rst (abp U L (2 * k + 1)).1 (abp U L (2 * k + 1)).2).length = _
      rw [rst_len, c]
      (first | lia | omega)
    refine ⟨e1, e2, e2, ?_⟩
    show (rst (abp U L (2 * (k + 1))).1 (abp U L (2 * (k + 1))).2).length = _
    rw [rst_len, e1]
    (first | lia | omega)
theorem abp_lens {U L : List Rat} {n : Nat} (hU : U.length = n + 1) (hL : L.length = n + 1) {p : Nat} (hp : p < 2 * n + 1) : 0 < (abp U L p).2.length ∧ (abp U L p).2.length ≤ (abp U L p).1.length ∧ (abp U L p).1.length ≤ (abp U L p).2.length + 1 ∧ (abp U L p).1.length ≤ n + 1 ∧ (p % 2 = 0 → (abp U L p).1.length = (abp U L p).2.length) ∧ (p % 2 = 1 → (abp U L p).1.length = (abp U L p).2.length + 1) ∧ (abp U L p).2.length = n + 1 - (p + 1) / 2 := by
  obtain ⟨a, b, c, d⟩ := abp_len hU hL (p / 2)
  rcases Nat.mod_two_eq_zero_or_one p with h | h
  · rw [show 2 * (p / 2) = p by (first | lia | omega)] at a b
    refine ⟨by (first | lia | omega), by (first | lia | omega), by (first | lia | omega), by (first | lia | omega), fun _ => by (first | lia | omega), fun z => by (first | lia | omega), by (first | lia | omega)⟩
  · rw [show 2 * (p / 2) + 1 = p by (first | lia | omega)] at c d
    refine ⟨by (first | lia | omega), by (first | lia | omega), by (first | lia | omega), by (first | lia | omega), fun z => by (first | lia | omega), fun _ => by (first | lia | omega), by (first | lia | omega)⟩
noncomputable def fbz (a b : Nat) : Nat → Nat
  | 0 => a
  | 1 => b
  | p + 2 => fbz a b p + fbz a b (p + 1) + 1
theorem row_ovn {b : Nat} : ∀ {rs : List Rat}, (∀ q ∈ rs, Bq b q) → OvN (b * rs.length + 1) rs
  | [], _ => ⟨1, by decide, Bt.mono (m := 1) (by show (1 : Nat) < 2 ^ 1; decide) (by (first | lia | omega)), fun q hq => absurd hq (by simp)⟩
  | x :: xs, h => by
    obtain ⟨R, ne, bR, o⟩ := row_ovn (rs := xs) fun q hq => h q (by simp [hq])
    have bx := h x (by simp)
    have dx := den_pos x
    have l : b * (x :: xs).length + 1 = b * xs.length + 1 + b := by rw [List.length_cons, Nat.mul_succ]; (first | lia | omega)
    refine ⟨R * x.den, Int.mul_ne_zero ne (by (first | lia | omega)), by rw [l]; exact bR.mul bx.2, fun q hq => ?_⟩
    rw [l]
    rcases List.mem_cons.mp hq with z | z
    · rw [z]
      refine ⟨R * x.num, bR.mul bx.1, ?_⟩
      rw [Rat.intCast_mul, Rat.intCast_mul]
      have e := q_eq x
      have hd := den_ne x
      generalize (x.num : Rat) = u at *
      generalize ((x.den : Int) : Rat) = v at *
      rw [← e]
      grind
    · exact (o q z).scale bx.2
end Po

namespace Po
open Ra Rq
theorem php : ∀ (M : Nat) (f : Nat → Nat), (∀ i, i ≤ M → f i < M) → ∃ i j, i < j ∧ j ≤ M ∧ f i = f j
  | 0, f, h => absurd (h 0 (Nat.le_refl _)) (Nat.not_lt_zero _)
  | M + 1, f, h => by
    by_cases c : ∃ i, i ≤ M ∧ f i = f (M + 1)
    · obtain ⟨i, hi, e⟩ := c
      exact ⟨i, M + 1, by (first | lia | omega), Nat.le_refl _, e⟩
    · have nc : ∀ i, i ≤ M → f i ≠ f (M + 1) := fun i hi e => c ⟨i, hi, e⟩
      have hl : ∀ i, i ≤ M → (if f (M + 1) < f i then f i - 1 else f i) < M := fun i hi => by
        have h1 := h i (by (first | lia | omega))
        have h2 := h (M + 1) (Nat.le_refl _)
        have h3 := nc i hi
        split <;> (first | lia | omega)
      obtain ⟨i, j, hij, hj, e⟩ := php M (fun i => if f (M + 1) < f i then f i - 1 else f i) hl
      have h1 := nc i (by (first | lia | omega))
      have h2 := nc j (by (first | lia | omega))
      refine ⟨i, j, hij, by (first | lia | omega), ?_⟩
      have e' : (if f (M + 1) < f i then f i - 1 else f i) = (if f (M + 1) < f j then f j - 1 else f j) := e
      split at e' <;> split at e' <;> (first | lia | omega)
theorem dg_ext {b : Nat} (hb : 0 < b) : ∀ (m i i' : Nat), i < b ^ m → i' < b ^ m → (∀ j, j < m → i / b ^ j % b = i' / b ^ j % b) → i = i'
  | 0, i, i', h1, h2, _ => by
    rw [Nat.pow_zero] at h1 h2
    (first | lia | omega)
  | m + 1, i, i', h1, h2, h => by
    have e0 := h 0 (by (first | lia | omega))
    rw [Nat.pow_zero, Nat.div_one, Nat.div_one] at e0
    have l1 : i / b < b ^ m := Nat.div_lt_of_lt_mul (by rw [Nat.mul_comm, ← Nat.pow_succ]; exact h1)
    have l2 : i' / b < b ^ m := Nat.div_lt_of_lt_mul (by rw [Nat.mul_comm, ← Nat.pow_succ]; exact h2)
    have ih := dg_ext hb m (i / b) (i' / b) l1 l2 fun j hj => by
      rw [Nat.div_div_eq_div_mul, Nat.div_div_eq_div_mul, Nat.mul_comm, ← Nat.pow_succ]
      exact h (j + 1) (by (first | lia | omega))
    have a1 := Nat.div_add_mod i b
    have a2 := Nat.div_add_mod i' b
    rw [← a1, ← a2, ih, e0]
noncomputable def enc (D : Nat) (y : Nat → Nat) : Nat → Nat
  | 0 => 0
  | r + 1 => enc D y r + y r * D ^ r
theorem enc_lt {D : Nat} {y : Nat → Nat} : ∀ r, (∀ t, t < r → y t < D) → enc D y r < D ^ r
  | 0, _ => by rw [Nat.pow_zero]; exact Nat.zero_lt_one
  | r + 1, h => by
    have ih := enc_lt r fun t ht => h t (by (first | lia | omega))
    have h1 : (y r + 1) * D ^ r ≤ D * D ^ r := Nat.mul_le_mul_right _ (h r (by (first | lia | omega)))
    rw [Nat.add_mul, Nat.one_mul] at h1
    show enc D y r + y r * D ^ r < D ^ (r + 1)
    rw [Nat.pow_succ, Nat.mul_comm (D ^ r) D]
    (first | lia | omega)
theorem enc_inj {D : Nat} {y z : Nat → Nat} : ∀ r, (∀ t, t < r → y t < D) → (∀ t, t < r → z t < D) → enc D y r = enc D z r → ∀ t, t < r → y t = z t
  | 0, _, _, _, t, ht => absurd ht (by (first | lia | omega))
  | r + 1, hy, hz, e, t, ht => by
    have ly := enc_lt r fun t ht => hy t (by (first | lia | omega))
    have lz := enc_lt r fun t ht => hz t (by (first | lia | omega))
    have e' : enc D y r + y r * D ^ r = enc D z r + z r * D ^ r := e
    have dv : ∀ {a q K : Nat}, a < K → (a + q * K) / K = q := fun {a q K} h => by
      rw [Nat.add_mul_div_right _ _ (by (first | lia | omega)), Nat.div_eq_of_lt h, Nat.zero_add]
    have er : y r = z r := by
      have h1 := dv (q := y r) ly
      rw [e', dv (q := z r) lz] at h1
      exact h1.symm
    by_cases c : t = r
    · rw [c]; exact er
    · rw [er] at e'
      exact enc_inj r (fun t ht => hy t (by (first | lia | omega))) (fun t ht => hz t (by (first | lia | omega))) (by (first | lia | omega)) t (by (first | lia | omega))
noncomputable def zs (f : Nat → Int) : Nat → Int
  | 0 => 0
  | n + 1 => zs f n + f n
theorem zs_abs {f : Nat → Int} {K : Nat} : ∀ n, (∀ j, j < n → (f j).natAbs ≤ K) → (zs f n).natAbs ≤ n * K
  | 0, _ => by show (0 : Int).natAbs ≤ 0 * K; simp
  | n + 1, h => by
    have ih := zs_abs n fun j hj => h j (by (first | lia | omega))
    have h1 := h n (by (first | lia | omega))
    show (zs f n + f n).natAbs ≤ (n + 1) * K
    rw [Nat.add_mul, Nat.one_mul]
    (first | lia | omega)
theorem zs_sub (f h : Nat → Int) : ∀ n, zs (fun j => f j - h j) n = zs f n - zs h n
  | 0 => rfl
  | n + 1 => by
    show zs (fun j => f j - h j) n + (f n - h n) = zs f n + f n - (zs h n + h n)
    rw [zs_sub f h n]
    (first | lia | omega)
theorem zs_congr {f h : Nat → Int} : ∀ n, (∀ j, j < n → f j = h j) → zs f n = zs h n
  | 0, _ => rfl
  | n + 1, e => by
    show zs f n + f n = zs h n + h n
    rw [zs_congr n fun j hj => e j (by (first | lia | omega)), e n (by (first | lia | omega))]
theorem zs_add (f : Nat → Int) (p : Nat) : ∀ q, zs f (p + q) = zs f p + zs (fun j => f (p + j)) q
  | 0 => by show zs f p = zs f p + 0; (first | lia | omega)
  | q + 1 => by
    show zs f (p + q) + f (p + q) = zs f p + (zs (fun j => f (p + j)) q + f (p + q))
    rw [zs_add f p q]
    (first | lia | omega)
theorem zs_cast (f : Nat → Int) : ∀ n, ((zs f n : Int) : Rat) = sm (fun i => (f i : Rat)) n
  | 0 => rfl
  | n + 1 => by
    rw [sm_succ, ← zs_cast f n, ← Rat.intCast_add]
    rfl
theorem siegel {m r C b : Nat} (b0 : 0 < b) (a : Nat → Nat → Int) (ha : ∀ t j, (a t j).natAbs ≤ C) (hb : (2 * (m * (C * b)) + 1) ^ r < b ^ m) :
    ∃ x : Nat → Int, (∃ j, j < m ∧ x j ≠ 0) ∧ (∀ j, (x j).natAbs < b) ∧ ∀ t, t < r → zs (fun j => a t j * x j) m = 0 := by
  obtain ⟨X, hX⟩ : ∃ X : Nat → Nat → Int, ∀ i j, X i j = ((i / b ^ j % b : Nat) : Int) := ⟨_, fun _ _ => rfl⟩
  have X0 : ∀ i j, 0 ≤ X i j ∧ X i j < b := fun i j => by
    have := Nat.mod_lt (i / b ^ j) b0
    rw [hX]
    (first | lia | omega)
  obtain ⟨Y, hY⟩ : ∃ Y : Nat → Nat → Int, ∀ i t, Y i t = zs (fun j => a t j * X i j) m := ⟨_, fun _ _ => rfl⟩
  have YB : ∀ i t, (Y i t).natAbs ≤ m * (C * b) := fun i t => by
    rw [hY]
    refine zs_abs m fun j _ => ?_
    rw [Int.natAbs_mul]
    exact Nat.mul_le_mul (ha t j) (by have := X0 i j; (first | lia | omega))
  generalize hK : m * (C * b) = K at *
  have lt : ∀ i t, (Y i t + K).toNat < 2 * K + 1 := fun i t => by have := YB i t; (first | lia | omega)
  obtain ⟨i, j, hij, hj, e⟩ := php ((2 * K + 1) ^ r) (fun i => enc (2 * K + 1) (fun t => (Y i t + K).toNat) r) fun i _ => enc_lt r fun t _ => lt i t
  have ey : ∀ t, t < r → Y i t = Y j t := fun t ht => by
    have := enc_inj r (fun t _ => lt i t) (fun t _ => lt j t) e t ht
    have h1 := YB i t
    have h2 := YB j t
    (first | lia | omega)
  refine ⟨fun s => X j s - X i s, ?_, fun s => ?_, fun t ht => ?_⟩
  · refine Classical.byContradiction fun z => ?_
    have all : ∀ s, s < m → X j s - X i s = 0 := fun s hs => Classical.byContradiction fun y => z ⟨s, hs, y⟩
    have := dg_ext b0 m i j (by (first | lia | omega)) (by (first | lia | omega)) fun s hs => by
      have h := all s hs
      rw [hX, hX] at h
      (first | lia | omega)
    (first | lia | omega)
  · have h1 := X0 i s
    have h2 := X0 j s
    show (X j s - X i s).natAbs < b
    (first | lia | omega)
  · have h1 : zs (fun s => a t s * (X j s - X i s)) m = zs (fun s => a t s * X j s - a t s * X i s) m := zs_congr m fun s _ => Int.mul_sub _ _ _
    rw [h1, zs_sub, ← hY, ← hY, ey t ht]
    (first | lia | omega)
noncomputable def Pl (α β U L : List Rat) : List Rat := padd (pmul α U) (pmul β L)
theorem getD_Pl (α β U L : List Rat) (i : Nat) : (Pl α β U L).getD i 0 = conv α U i + conv β L i := by
  unfold Pl
  rw [getD_padd, getD_pmul, getD_pmul]
theorem ev_Pl (α β U L : List Rat) (t : Rat) : ev (Pl α β U L) t = ev α t * ev U t + ev β t * ev L t := by
  unfold Pl
  rw [ev_padd, ev_pmul, ev_pmul]
theorem conv_top {α U : List Rat} {a b : Nat} (ha : α.length = a + 1) (hb : U.length = b + 1) : conv α U (a + b) = lst α * lst U := by
  unfold conv
  have e : sm (fun i => α.getD i 0 * U.getD (a + b - i) 0) (a + b + 1) = sm (fun i => if i = a then α.getD i 0 * U.getD (a + b - i) 0 else 0) (a + b + 1) := sm_congr fun i hi => by
    by_cases c : i = a
    · rw [if_pos c]
    · rw [if_neg c]
      by_cases c2 : i < a
      · rw [getD_out (xs := U) (by (first | lia | omega)), Rat.mul_zero]
      · rw [getD_out (xs := α) (by (first | lia | omega)), Rat.zero_mul]
  rw [e, sm_single, if_pos (by (first | lia | omega)), lst_at ha, lst_at hb, show a + b - a = b by (first | lia | omega)]
theorem abp_next (U L : List Rat) : ∀ p, abp U L (p + 1) = abp L (rst U L) p
  | 0 => rfl
  | p + 1 => by
    show ((abp U L (p + 1)).2, rst (abp U L (p + 1)).1 (abp U L (p + 1)).2) = ((abp L (rst U L) p).2, rst (abp L (rst U L) p).1 (abp L (rst U L) p).2)
    rw [abp_next U L p]
theorem red : ∀ (k n : Nat) (U L α β : List Rat), U.length = n + 1 → L.length = n + 1 → k ≤ n → α.length = k + 1 → β.length = k + 1 → (∀ j, j < 2 * k → lst (abp U L j).2 ≠ 0) → (∀ i, n - k + 1 ≤ i → (Pl α β U L).getD i 0 = 0) →
    ∃ σ : Rat, (∀ t, ev (Pl α β U L) t = α.getD 0 0 * ev (abp U L (2 * k)).1 t + σ * ev (abp U L (2 * k)).2 t) ∧ (α.getD 0 0 = 0 → σ = β.getD 0 0) ∧ (α.getD 0 0 = 0 → σ = 0 → ∀ t, ev α t = 0 ∧ ev β t = 0)
  | 0, n, U, L, α, β, hU, hL, _, ha, hb, _, _ => by
    match α, β, ha, hb with
    | [x], [y], _, _ =>
      refine ⟨y, fun t => ?_, fun _ => rfl, fun h1 h2 t => ?_⟩
      · rw [ev_Pl]
        show (x + t * 0) * ev U t + (y + t * 0) * ev L t = x * ev U t + y * ev L t
        grind
      · have h1' : x = 0 := h1
        have e1 : ev [x] t = x + t * 0 := rfl
        have e2 : ev [y] t = y + t * 0 := rfl
        rw [e1, e2, h1', h2]
        constructor <;> grind
  | k + 1, n, U, L, α, β, hU, hL, hk, ha, hb, nz, hP => by
    obtain ⟨n', rfl⟩ : ∃ n', n = n' + 1 := ⟨n - 1, by (first | lia | omega)⟩
    have nL : lst L ≠ 0 := nz 0 (by (first | lia | omega))
    have nU1 : lst (rst U L) ≠ 0 := nz 1 (by (first | lia | omega))
    have lU1 : (rst U L).length = n' + 1 := by rw [rst_len, hU]; (first | lia | omega)
    have lL1 : (rst L (rst U L)).length = n' + 1 := by rw [rst_len, hL]; (first | lia | omega)
    have eU : ∀ t, ev (rst U L) t = ev U t - lst U / lst L * ev L t := ev_rst_eq hU hL nL
    have eL : ∀ t, ev (rst L (rst U L)) t = ev L t - lst L / lst (rst U L) * (t * ev (rst U L) t) := ev_rst_sh hL lU1 nU1
    generalize hq : lst U / lst L = q at *
    generalize hm : lst L / lst (rst U L) = m at *
    have t1 : lst α * lst U + lst β * lst L = 0 := by
      have h := hP (k + 1 + (n' + 1)) (by (first | lia | omega))
      rw [getD_Pl, conv_top ha hU, conv_top hb hL] at h
      exact h
    have hbk : β.getD (k + 1) 0 = -q * α.getD (k + 1) 0 := by
      rw [← lst_at hb, ← lst_at ha, ← hq]
      generalize lst α = x at *
      generalize lst β = y at *
      generalize lst U = u at *
      generalize lst L = l at *
      grind
    have evb := fun t => ev_less hb ha hbk t
    obtain ⟨β', hb', lb', eb'⟩ : ∃ β' : List Rat, β' = ((List.range (k + 1)).map fun i => β.getD i 0 - -q * α.getD i 0) ∧ β'.length = k + 1 ∧ ∀ t, ev β' t = ev β t + q * ev α t :=
      ⟨_, rfl, by rw [List.length_map, List.length_range], fun t => by rw [evb t]; grind⟩
    have P1 : ∀ t, ev (Pl α β' (rst U L) L) t = ev (Pl α β U L) t := fun t => by
      rw [ev_Pl, ev_Pl, eb', eU]
      grind
    have t2 : lst α * lst (rst U L) + lst β' * lst L = 0 := by
      have h := hP (k + 1 + n') (by (first | lia | omega))
      rw [← ev_inj P1, getD_Pl, conv_top ha lU1, show k + 1 + n' = k + (n' + 1) by (first | lia | omega), conv_top lb' hL] at h
      exact h
    have l0 : (0 :: β').length = k + 1 + 1 := by rw [List.length_cons, lb']
    have hak : α.getD (k + 1) 0 = -m * (0 :: β').getD (k + 1) 0 := by
      rw [show (0 :: β').getD (k + 1) 0 = β'.getD k 0 by simp, ← lst_at lb', ← lst_at ha, ← hm]
      generalize lst α = x at *
      generalize lst β' = y at *
      generalize lst (rst U L) = u at *
      generalize lst L = l at *
      grind
    have eva := fun t => ev_less ha l0 hak t
    obtain ⟨α', ha', la', ea', a0⟩ : ∃ α' : List Rat, α' = ((List.range (k + 1)).map fun i => α.getD i 0 - -m * (0 :: β').getD i 0) ∧ α'.length = k + 1 ∧ (∀ t, ev α' t = ev α t + m * (t * ev β' t)) ∧ α'.getD 0 0 = α.getD 0 0 :=
      ⟨_, rfl, by rw [List.length_map, List.length_range], fun t => by
        rw [eva t]
        have : ev (0 :: β') t = 0 + t * ev β' t := rfl
        rw [this]
        grind, by
        rw [getD_range, if_pos (by (first | lia | omega))]
        have : (0 :: β').getD 0 0 = (0 : Rat) := rfl
        rw [this]
        grind⟩
    have P2 : ∀ t, ev (Pl α' β' (rst U L) (rst L (rst U L))) t = ev (Pl α β U L) t := fun t => by
      rw [← P1 t, ev_Pl, ev_Pl, ea', eL]
      grind
    have e2 : ∀ p, abp U L (p + 2) = abp (rst U L) (rst L (rst U L)) p := fun p => by rw [abp_next, abp_next]
    obtain ⟨σ, s1, s2, s3⟩ := red k n' (rst U L) (rst L (rst U L)) α' β' lU1 lL1 (by (first | lia | omega)) la' lb' (fun j hj => by rw [← e2]; exact nz (j + 2) (by (first | lia | omega))) fun i hi => by rw [ev_inj P2]; exact hP i (by (first | lia | omega))
    refine ⟨σ, fun t => ?_, fun h => ?_, fun h1 h2 t => ?_⟩
    · rw [← P2 t, s1 t, a0, show 2 * (k + 1) = 2 * k + 2 by (first | lia | omega), e2]
    · rw [s2 (by rw [a0]; exact h), hb', getD_range, if_pos (by (first | lia | omega)), h]
      grind
    · obtain ⟨z1, z2⟩ := s3 (by rw [a0]; exact h1) h2 t
      rw [ea', z2] at z1
      rw [eb'] at z2
      have z3 : ev α t = 0 := by grind
      rw [z3] at z2
      exact ⟨z3, by grind⟩
noncomputable def aa (k : Nat) (u l : Nat → Int) (i j : Nat) : Int := if j < k + 1 then (if j ≤ i then u (i - j) else 0) else if j - (k + 1) ≤ i then l (i - (j - (k + 1))) else 0
theorem conv_sup {α : List Rat} (U : List Rat) {N : Nat} (h : α.length ≤ N) (i : Nat) : conv α U i = sm (fun s => α.getD s 0 * (if s ≤ i then U.getD (i - s) 0 else 0)) N := by
  have e1 : conv α U i = sm (fun s => α.getD s 0 * (if s ≤ i then U.getD (i - s) 0 else 0)) (i + 1) := sm_congr fun s hs => by rw [if_pos (by (first | lia | omega))]
  have e2 : sm (fun s => α.getD s 0 * (if s ≤ i then U.getD (i - s) 0 else 0)) (max N (i + 1)) = sm (fun s => α.getD s 0 * (if s ≤ i then U.getD (i - s) 0 else 0)) (i + 1) := sm_more (by (first | lia | omega)) fun s h1 _ => by rw [if_neg (by (first | lia | omega)), Rat.mul_zero]
  have e3 : sm (fun s => α.getD s 0 * (if s ≤ i then U.getD (i - s) 0 else 0)) (max N (i + 1)) = sm (fun s => α.getD s 0 * (if s ≤ i then U.getD (i - s) 0 else 0)) N := sm_more (by (first | lia | omega)) fun s h1 _ => by rw [getD_out (xs := α) (by (first | lia | omega)), Rat.zero_mul]
  rw [e1, ← e2, e3]
structure Zr (M : Int) (u l : Nat → Int) (U L : List Rat) : Prop where
  ne : M ≠ 0
  bm : Bt 20 M
  eu : ∀ i, (u i : Rat) = U.getD i 0 * (M : Rat)
  el : ∀ i, (l i : Rat) = L.getD i 0 * (M : Rat)
  bu : ∀ i, (u i).natAbs ≤ 2 ^ 22
  bl : ∀ i, (l i).natAbs ≤ 2 ^ 22
noncomputable def xa (k : Nat) (x : Nat → Int) : List Rat := (List.range (k + 1)).map fun s => (x s : Rat)
noncomputable def xb (k : Nat) (x : Nat → Int) : List Rat := (List.range (k + 1)).map fun s => (x (k + 1 + s) : Rat)
theorem xa_len (k : Nat) (x : Nat → Int) : (xa k x).length = k + 1 := by unfold xa; rw [List.length_map, List.length_range]
theorem xb_len (k : Nat) (x : Nat → Int) : (xb k x).length = k + 1 := by unfold xb; rw [List.length_map, List.length_range]
theorem combo {M : Int} {u l : Nat → Int} {U L : List Rat} (Z : Zr M u l U L) (k : Nat) (x : Nat → Int) (i : Nat) : (Pl (xa k x) (xb k x) U L).getD i 0 * (M : Rat) = ((zs (fun j => aa k u l i j * x j) (2 * k + 2) : Int) : Rat) := by
  rw [getD_Pl, conv_sup U (Nat.le_of_eq (xa_len k x)), conv_sup L (Nat.le_of_eq (xb_len k x)), show 2 * k + 2 = k + 1 + (k + 1) by (first | lia | omega), zs_add, Rat.intCast_add, zs_cast, zs_cast, Rat.add_mul, Rat.mul_comm _ (M : Rat), Rat.mul_comm _ (M : Rat), ← sm_mul, ← sm_mul]
  congr 1
  · refine sm_congr fun s hs => ?_
    unfold xa aa
    rw [getD_range, if_pos hs, if_pos hs]
    by_cases c : s ≤ i
    · rw [if_pos c, if_pos c, Rat.intCast_mul, Z.eu]
      grind
    · rw [if_neg c, if_neg c, Rat.intCast_mul]
      have : ((0 : Int) : Rat) = 0 := rfl
      rw [this]
      grind
  · refine sm_congr fun s hs => ?_
    unfold xb aa
    rw [getD_range, if_pos hs, if_neg (show ¬ k + 1 + s < k + 1 by (first | lia | omega)), show k + 1 + s - (k + 1) = s by (first | lia | omega)]
    by_cases c : s ≤ i
    · rw [if_pos c, if_pos c, Rat.intCast_mul, Z.el]
      grind
    · rw [if_neg c, if_neg c, Rat.intCast_mul]
      have : ((0 : Int) : Rat) = 0 := rfl
      rw [this]
      grind
theorem aa_abs {M : Int} {u l : Nat → Int} {U L : List Rat} (Z : Zr M u l U L) (k i j : Nat) : (aa k u l i j).natAbs ≤ 2 ^ 22 := by
  unfold aa
  split
  · split
    · exact Z.bu _
    · decide
  · split
    · exact Z.bl _
    · decide
theorem hbigB {m r B : Nat} (hr : m = r + 1) (hm : m ≤ 25) (hB : 2 ^ 696 < B) : (2 * (m * (2 ^ 22 * B)) + 1) ^ r < B ^ m := by
  have h0 : 0 < B := Nat.lt_of_le_of_lt (Nat.zero_le _) hB
  have h1 : 2 * (m * (2 ^ 22 * B)) + 1 ≤ 2 ^ 29 * B := by
    have h2 : m * (2 ^ 22 * B) ≤ 25 * (2 ^ 22 * B) := Nat.mul_le_mul_right _ hm
    (first | lia | omega)
  have h2 := Nat.pow_le_pow_left h1 r
  rw [Nat.mul_pow, ← Nat.pow_mul] at h2
  have h3 : 2 ^ (29 * r) < B := Nat.lt_of_le_of_lt (Nat.pow_le_pow_right (by decide) (by (first | lia | omega))) hB
  have h4 : 2 ^ (29 * r) * B ^ r < B * B ^ r := Nat.mul_lt_mul_of_pos_right h3 (Nat.pow_pos h0)
  have e : B ^ m = B * B ^ r := by rw [hr, Nat.pow_succ, Nat.mul_comm]
  rw [e]
  exact Nat.lt_of_le_of_lt h2 h4
theorem hbig {m r : Nat} (hr : m = r + 1) (hm : m ≤ 25) : (2 * (m * (2 ^ 22 * 2 ^ 701)) + 1) ^ r < (2 ^ 701) ^ m := hbigB hr hm (Nat.pow_lt_pow_right (by decide) (by decide))
theorem all0 {k : Nat} {x : Nat → Int} (h : ∀ t, ev (xa k x) t = 0 ∧ ev (xb k x) t = 0) : ∀ j, j < 2 * k + 2 → x j = 0 := fun j hj => by
  have z : ∀ t, ev ([] : List Rat) t = 0 := fun _ => rfl
  by_cases c : j < k + 1
  · have := ev_inj (ps := xa k x) (qs := []) (fun t => by rw [(h t).1, z]) j
    unfold xa at this
    rw [getD_range, if_pos c, getD_out (xs := []) (by simp)] at this
    exact Rat.intCast_eq_zero_iff.mp this
  · have := ev_inj (ps := xb k x) (qs := []) (fun t => by rw [(h t).2, z]) (j - (k + 1))
    unfold xb at this
    rw [getD_range, if_pos (by (first | lia | omega)), getD_out (xs := []) (by simp), show k + 1 + (j - (k + 1)) = j by (first | lia | omega)] at this
    exact Rat.intCast_eq_zero_iff.mp this
theorem ov_of {M : Int} {u l : Nat → Int} {U L : List Rat} (Z : Zr M u l U L) {k : Nat} (hk : k ≤ 12) {x : Nat → Int} (bx : ∀ j, (x j).natAbs < 2 ^ 701) {s : Nat} (hs : x s ≠ 0) {A : List Rat} (e : ∀ t, ev (Pl (xa k x) (xb k x) U L) t = (x s : Rat) * ev A t) : OvN 740 A := by
  have bs : Bt 701 (x s) := bx s
  refine ⟨M * x s, Int.mul_ne_zero Z.ne hs, (Z.bm.mul bs).mono (by decide), fun q hq => ?_⟩
  obtain ⟨i, hi, rfl⟩ := List.getElem_of_mem hq
  refine ⟨zs (fun j => aa k u l i j * x j) (2 * k + 2), ?_, ?_⟩
  · have h1 : (zs (fun j => aa k u l i j * x j) (2 * k + 2)).natAbs ≤ (2 * k + 2) * (2 ^ 22 * 2 ^ 701) := zs_abs _ fun j _ => by
      rw [Int.natAbs_mul]
      exact Nat.mul_le_mul (aa_abs Z k i j) (Nat.le_of_lt (bx j))
    have h2 : (2 * k + 2) * (2 ^ 22 * 2 ^ 701) ≤ 26 * (2 ^ 22 * 2 ^ 701) := Nat.mul_le_mul_right _ (by (first | lia | omega))
    have h3 : 26 * (2 ^ 22 * 2 ^ 701) < 2 ^ 740 := by decide +kernel
    exact Nat.lt_of_le_of_lt (Nat.le_trans h1 h2) h3
  · rw [← combo Z k x i, ← getD_in hi]
    have e2 : (Pl (xa k x) (xb k x) U L).getD i 0 = A.getD i 0 * (x s : Rat) := by
      rw [← getD_pscale]
      exact ev_inj (fun t => by rw [e t, ev_pscale]; grind) i
    rw [e2, Rat.intCast_mul]
    grind
theorem P_zero {M : Int} {u l : Nat → Int} {U L : List Rat} (Z : Zr M u l U L) {n k : Nat} (hU : U.length = n + 1) (hL : L.length = n + 1) {x : Nat → Int} {i0 : Nat} (h : ∀ i, i0 ≤ i → i ≤ n + k → zs (fun j => aa k u l i j * x j) (2 * k + 2) = 0) (i : Nat) (hi : i0 ≤ i) : (Pl (xa k x) (xb k x) U L).getD i 0 = 0 := by
  by_cases c : i ≤ n + k
  · have e := combo Z k x i
    rw [h i hi c] at e
    have hM : (M : Rat) ≠ 0 := fun z => Z.ne (Rat.intCast_eq_zero_iff.mp z)
    rcases Rat.mul_eq_zero.mp (e.trans rfl) with z | z
    · exact z
    · exact absurd z hM
  · rw [getD_Pl, conv_out (by rw [xa_len, hU]; (first | lia | omega)), conv_out (by rw [xb_len, hL]; (first | lia | omega))]
    exact Rat.add_zero 0
theorem small_U {M : Int} {u l : Nat → Int} {U L : List Rat} (Z : Zr M u l U L) {n k : Nat} (hU : U.length = n + 1) (hL : L.length = n + 1) (hn : n ≤ 12) (hk : k + 1 ≤ n) (nz : ∀ j, j < 2 * k + 1 → lst (abp U L j).2 ≠ 0) : OvN 740 (abp U L (2 * k + 1)).2 := by
  obtain ⟨x, ⟨j0, hj0, hx0⟩, bx, hx⟩ := siegel (m := 2 * k + 2) (r := 2 * k + 1) (C := 2 ^ 22) (b := 2 ^ 701) (Nat.two_pow_pos _) (fun t j => aa k u l (n - k + t) j) (fun t j => aa_abs Z k _ j) (hbig rfl (by (first | lia | omega)))
  have hP : ∀ i, n - k ≤ i → (Pl (xa k x) (xb k x) U L).getD i 0 = 0 := P_zero Z hU hL fun i h1 h2 => by
    have := hx (i - (n - k)) (by (first | lia | omega))
    rw [show n - k + (i - (n - k)) = i by (first | lia | omega)] at this
    exact this
  obtain ⟨σ, s1, s2, s3⟩ := red k n U L (xa k x) (xb k x) hU hL (by (first | lia | omega)) (xa_len k x) (xb_len k x) (fun j hj => nz j (by (first | lia | omega))) fun i hi => hP i (by (first | lia | omega))
  have ex0 : (xa k x).getD 0 0 = (x 0 : Rat) := by unfold xa; rw [getD_range, if_pos (by (first | lia | omega))]
  rw [ex0] at s1 s2 s3
  obtain ⟨l1, l2, _, _⟩ := abp_len hU hL k
  have nL : lst (abp U L (2 * k)).2 ≠ 0 := nz (2 * k) (by (first | lia | omega))
  have l1' : (abp U L (2 * k)).1.length = n - k + 1 := by (first | lia | omega)
  have l2' : (abp U L (2 * k)).2.length = n - k + 1 := by (first | lia | omega)
  have eR : ∀ t, ev (abp U L (2 * k + 1)).2 t = ev (abp U L (2 * k)).1 t - lst (abp U L (2 * k)).1 / lst (abp U L (2 * k)).2 * ev (abp U L (2 * k)).2 t := ev_rst_eq l1' l2' nL
  have top : (x 0 : Rat) * lst (abp U L (2 * k)).1 + σ * lst (abp U L (2 * k)).2 = 0 := by
    have h := hP (n - k) (Nat.le_refl _)
    rw [ev_inj (qs := padd (pscale (abp U L (2 * k)).1 (x 0 : Rat)) (pscale (abp U L (2 * k)).2 σ)) (fun t => by rw [s1 t, ev_padd, ev_pscale, ev_pscale]; grind), getD_padd, getD_pscale, getD_pscale, ← lst_at l1', ← lst_at l2'] at h
    grind
  have x0 : x 0 ≠ 0 := fun z => by
    have z' : (x 0 : Rat) = 0 := by rw [z]; rfl
    rw [z', Rat.zero_mul, Rat.zero_add] at top
    have σ0 : σ = 0 := by
      rcases Rat.mul_eq_zero.mp top with y | y
      · exact y
      · exact absurd y nL
    exact hx0 (all0 (s3 z' σ0) j0 hj0)
  refine ov_of (k := k) Z (by (first | lia | omega)) bx x0 fun t => ?_
  rw [s1 t, eR t]
  generalize lst (abp U L (2 * k)).1 = p at *
  generalize lst (abp U L (2 * k)).2 = q at *
  generalize (x 0 : Rat) = y at *
  have : σ = -(y * p / q) := by grind
  rw [this]
  grind
theorem small_L {M : Int} {u l : Nat → Int} {U L : List Rat} (Z : Zr M u l U L) {n k : Nat} (hU : U.length = n + 1) (hL : L.length = n + 1) (hn : n ≤ 12) (hk : k ≤ n) (nz : ∀ j, j < 2 * k → lst (abp U L j).2 ≠ 0) : OvN 740 (abp U L (2 * k)).2 := by
  obtain ⟨y, ⟨j0, hj0, hx0⟩, by', hy⟩ := siegel (m := 2 * k + 1) (r := 2 * k) (C := 2 ^ 22) (b := 2 ^ 701) (Nat.two_pow_pos _) (fun t j => aa k u l (n - k + 1 + t) (j + 1)) (fun t j => aa_abs Z k _ _) (hbig rfl (by (first | lia | omega)))
  obtain ⟨x, ex0, ex⟩ : ∃ x : Nat → Int, x 0 = 0 ∧ ∀ j, x (j + 1) = y j := ⟨fun j => if j = 0 then 0 else y (j - 1), rfl, fun j => by show (if j + 1 = 0 then 0 else y (j + 1 - 1)) = y j; rw [if_neg (by (first | lia | omega)), Nat.add_sub_cancel]⟩
  have bx : ∀ j, (x j).natAbs < 2 ^ 701 := fun j => by
    cases j with
    | zero => rw [ex0]; exact Nat.two_pow_pos _
    | succ j => rw [ex]; exact by' j
  have hP : ∀ i, n - k + 1 ≤ i → (Pl (xa k x) (xb k x) U L).getD i 0 = 0 := P_zero Z hU hL fun i h1 h2 => by
    have := hy (i - (n - k + 1)) (by (first | lia | omega))
    rw [show n - k + 1 + (i - (n - k + 1)) = i by (first | lia | omega)] at this
    rw [show 2 * k + 2 = 1 + (2 * k + 1) by (first | lia | omega), zs_add, show zs (fun j => aa k u l i j * x j) 1 = 0 + aa k u l i 0 * x 0 from rfl, ex0, Int.mul_zero, Int.zero_add, Int.zero_add, ← this]
    exact zs_congr _ fun j _ => by rw [Nat.add_comm 1 j, ex]
  obtain ⟨σ, s1, s2, s3⟩ := red k n U L (xa k x) (xb k x) hU hL hk (xa_len k x) (xb_len k x) nz hP
  have e0 : (xa k x).getD 0 0 = 0 := by unfold xa; rw [getD_range, if_pos (by (first | lia | omega)), ex0]; rfl
  have eb : (xb k x).getD 0 0 = (x (k + 1) : Rat) := by unfold xb; rw [getD_range, if_pos (by (first | lia | omega))]
  have eσ := s2 e0
  rw [eb] at eσ
  have xk : x (k + 1) ≠ 0 := fun z => by
    have z' : σ = 0 := by rw [eσ, z]; rfl
    have := all0 (s3 e0 z') (j0 + 1) (by (first | lia | omega))
    rw [ex] at this
    exact hx0 this
  refine ov_of (k := k) Z (by (first | lia | omega)) bx xk fun t => ?_
  rw [s1 t, e0, eσ]
  grind
theorem small_abp {M : Int} {u l : Nat → Int} {U L : List Rat} (Z : Zr M u l U L) {n : Nat} (hU : U.length = n + 1) (hL : L.length = n + 1) (hn : n ≤ 12) {p : Nat} (hp : p < 2 * n + 1) (nz : ∀ j, j < p → lst (abp U L j).2 ≠ 0) : OvN 740 (abp U L p).2 := by
  rcases Nat.mod_two_eq_zero_or_one p with h | h
  · obtain ⟨k, rfl⟩ : ∃ k, p = 2 * k := ⟨p / 2, by (first | lia | omega)⟩
    exact small_L Z hU hL hn (by (first | lia | omega)) nz
  · obtain ⟨k, rfl⟩ : ∃ k, p = 2 * k + 1 := ⟨p / 2, by (first | lia | omega)⟩
    exact small_U Z hU hL hn (by (first | lia | omega)) nz
noncomputable def Fg (q : Rat) : Prop := ∃ a b : Int, q = (a : Rat) / (b : Rat) ∧ -9 ≤ a ∧ a ≤ 9 ∧ 1 ≤ b ∧ b ≤ 15
theorem fg_dvd : ∀ b : Nat, b < 16 → 1 ≤ b → b * (360360 / b) = 360360 := by decide
theorem Fg.whole {q : Rat} (h : Fg q) : ∃ z : Int, (z : Rat) = q * ((360360 : Int) : Rat) ∧ z.natAbs ≤ 2 ^ 22 := by
  obtain ⟨a, b, rfl, a0, a1, b0, b1⟩ := h
  obtain ⟨c, rfl⟩ : ∃ c : Nat, b = c := ⟨b.toNat, by (first | lia | omega)⟩
  have e := fg_dvd c (by (first | lia | omega)) (by (first | lia | omega))
  have le : 360360 / c ≤ 360360 := Nat.div_le_self _ _
  generalize 360360 / c = d at *
  have e' : ((360360 : Int) : Rat) = ((c : Int) : Rat) * ((d : Int) : Rat) := by
    rw [← Rat.intCast_mul]
    exact congrArg _ (by (first | lia | omega))
  have c0 : ((c : Int) : Rat) ≠ 0 := fun z => by have := Rat.intCast_eq_zero_iff.mp z; (first | lia | omega)
  refine ⟨a * d, ?_, ?_⟩
  · rw [e', Rat.intCast_mul]
    generalize ((c : Int) : Rat) = x at *
    generalize ((d : Int) : Rat) = y at *
    generalize (a : Rat) = w at *
    grind
  · rw [Int.natAbs_mul]
    have h1 : a.natAbs * (d : Int).natAbs ≤ 9 * 360360 := Nat.mul_le_mul (by (first | lia | omega)) (by (first | lia | omega))
    have h2 : 9 * 360360 ≤ 2 ^ 22 := by decide
    (first | lia | omega)
theorem fg_zr {U L : List Rat} (hU : ∀ q ∈ U, Fg q) (hL : ∀ q ∈ L, Fg q) : ∃ u l, Zr 360360 u l U L := by
  have key : ∀ {A : List Rat}, (∀ q ∈ A, Fg q) → ∀ i, ∃ z : Int, (z : Rat) = A.getD i 0 * ((360360 : Int) : Rat) ∧ z.natAbs ≤ 2 ^ 22 := fun {A} hA i => by
    by_cases c : i < A.length
    · rw [getD_in c]
      exact (hA _ (List.getElem_mem c)).whole
    · rw [getD_out (by (first | lia | omega))]
      exact ⟨0, by rw [Rat.zero_mul]; rfl, by decide⟩
  exact ⟨fun i => Classical.choose (key hU i), fun i => Classical.choose (key hL i), by decide, by unfold Bt; decide, fun i => (Classical.choose_spec (key hU i)).1, fun i => (Classical.choose_spec (key hL i)).1, fun i => (Classical.choose_spec (key hU i)).2, fun i => (Classical.choose_spec (key hL i)).2⟩
theorem Fg.bq {q : Rat} (h : Fg q) : Bq 4 q := by
  obtain ⟨a, b, e, a0, a1, b0, b1⟩ := h
  exact bq_of (T := a) (M := b) (by (first | lia | omega)) e (Bt.between (by (first | lia | omega)) (by (first | lia | omega))) (Bt.between (by (first | lia | omega)) (by (first | lia | omega)))
theorem fg_lad {U L : List Rat} (hU : ∀ q ∈ U, Fg q) (hL : ∀ q ∈ L, Fg q) {n : Nat} (lU : U.length = n + 1) (lL : L.length = n + 1) (hn : n ≤ 12) (p : Nat) (hp : p < 2 * n + 1) (g : ∀ j, j < p → 0 < qp U L j) : OvN 740 (abp U L p).1 ∧ OvN 740 (abp U L p).2 := by
  obtain ⟨u, l, Z⟩ := fg_zr hU hL
  have nz : ∀ j, j < p → lst (abp U L j).2 ≠ 0 := fun j hj => qAt_pos (g j hj)
  refine ⟨?_, small_abp Z lU lL hn hp nz⟩
  cases p with
  | zero =>
    have o := row_ovn (rs := U) fun q hq => (hU q hq).bq
    exact o.mono (by (first | lia | omega))
  | succ p => exact small_abp Z lU lL hn (by (first | lia | omega)) fun j hj => nz j (by (first | lia | omega))
end Po

namespace L2
open PySem PySem.Spec PyProof.Rows
noncomputable def Itd (hi : Int) (n : Nat) : It := ⟨fun i _ => i < n, fun i H x H' => H' = H ∧ x = .int (hi - i), fun i _ => n ≤ i⟩
section
variable {X : Cx} {tg : Expr}
noncomputable def iRng3 (ta : TA) : TI := fun σ H R => ta σ H fun vs H1 => ∃ i j : Int, vs = [.int i, .int j, .int (-1)] ∧ (-(2 ^ 62) ≤ i ∧ i < 2 ^ 62 ∧ -(2 ^ 62) ≤ j ∧ j < 2 ^ 62) ∧ R (Itd i (i - j).toNat) H1
end
end L2

namespace L3
open PySem PySem.Spec PyProof.Rows L2 Ra

theorem log2_of {j : Int} (h : Bt 9000 j) : j.natAbs.log2 < 9000 := by
  by_cases h0 : j.natAbs = 0
  · rw [h0]; decide
  · exact (Nat.log2_lt h0).mpr h
theorem mul_of {i j : Int} {m n : Nat} (h : Bt m i) (k : Bt n j) (l : m + n ≤ 134217728) : IntMulOk i j :=
  PySem.IntMulOk.of_le (PySem.intBits_le_iff.mpr h) (PySem.intBits_le_iff.mpr k) l
section
variable {X : Cx} {a b c : Expr} {ta tb tc : TE} {pos : Pos}
theorem op_fdA : OpR X (binaryOp .FloorDiv) (rI (fun _ j => j ≠ 0 ∧ Bt 9000 j) fun i j => .int (i.fdiv j)) :=
  opI fun _ _ _ _ _ _ _ hc q => floordiv_int hc.1 q (.inl (PyProof.noPylong_of_log2 (log2_of hc.2)))
theorem op_fdP : OpR X (binaryOp .FloorDiv) (rI (fun _ j => 0 < j ∧ Bt 9000 j) fun i j => .int (i / j)) := opI fun i j _ _ _ _ _ hc q => by
  have h1 : (0 : Int) < j := hc.1
  exact floordiv_int (by (first | lia | omega)) (by rw [Int.fdiv_eq_ediv_of_nonneg i (by (first | lia | omega))]; exact q) (.inl (PyProof.noPylong_of_log2 (log2_of hc.2)))
theorem op_mulB : OpR X (binaryOp .Mult) (rI IntMulOk fun i j => .int (i * j)) := opI fun _ _ _ _ _ _ _ hc q => mul_int q hc
theorem call_isi : CallR X (.builtin "isinstance") (fun xs H Q => ∃ x T t b, xs = [x, .ty T] ∧ TyOf X.K H x t ∧ PySem.W.kitOne X.K t (.type T) = some b ∧ Q (.bl b) H) := by
  intro pins s σ H xs us Q I r h
  obtain ⟨x, T, t, b, rfl, ty, e, q⟩ := h
  obtain ⟨u, w', rfl, rx, rt⟩ := vals2 r
  cases rt
  exact isinst_ok I rx ty e fun tk => ⟨.bl b, H, I.tok _, rfl, q⟩
end
theorem kit_int_int (K : PySem.W.Frag) : PySem.W.kitOne K (.type "int") (.type "int") = some true := rfl
theorem kit_int_bool (K : PySem.W.Frag) : PySem.W.kitOne K (.type "int") (.type "bool") = some false := by with_unfolding_all rfl
theorem kit_tup_tup (K : PySem.W.Frag) : PySem.W.kitOne K (.type "tuple") (.type "tuple") = some true := rfl

section
variable {X : Cx} {K : PySem.W.Frag}
end
theorem iteD {c A B : Prop} [Decidable c] (h : c) (k : A) : if decide c = true then A else B := by
  rw [decide_eq_true h]
  exact iteT k
theorem iteND {c A B : Prop} [Decidable c] (h : ¬ c) (k : B) : if decide c = true then A else B := by
  rw [decide_eq_false h]
  exact iteF k
structure Cal (P : Program) (w : World) (K : PySem.W.Frag) (mg : Str → Option Value) (base : Heap) (x : Str) (k : Nat) (ps : List Str) (sp : Sp) : Prop where
  ex : ∃ f fd, FnOk P w K mg base CX0 k f fd ps sp ∧ Binds K fd ps [] ∧ PySem.W.keepIn K (.ref f) = true ∧ mg x = some (.ref f)
theorem pe_cl {X : Cx} {x : Str} {k j : Nat} {ps : List Str} {sp : Sp} {e : Expr} {es : List Expr} {t : TA} {p pos : Pos} (C : Cal X.prog X.w X.K X.mg X.base x k ps sp) (hr : Room j X.A) (ha : PA X (e :: es) t) (hkj : k ≤ j := by decide) (hg : Gl X x := by rfl)
    (hdb : (x == ("__debug__" : Str)) = false := by decide) (he : starEach (e :: es) X.env = (false, eval e X.env) :: starEach es X.env := by rfl) (hpl : (backTo pos (starEach es X.env)).any (·.1) = false := by rfl) :
    PE X (.Call (.Name x p) (e :: es) [] pos) (tCall sp [] E0 t) := by
  obtain ⟨f, fd, F, b, kp, m⟩ := C.ex
  exact pe_call F (hr.mono hkj) hg m kp b .nil pass0 ha hdb he hpl

theorem same_upd {H : Hp} {p : Addr} (h : H p = none) (o : HO) : Same H (upd H p o) := fun b u q => by rw [upd_ne (ne_of_none q h)]; exact q
noncomputable def Pr (H : Hp) (p : Addr) (x y : Int) : Prop := H p = some (.tup [.int x, .int y])
theorem Pr.keep {H H' : Hp} {p : Addr} {x y : Int} (h : Pr H p x y) (s : Same H H') : Pr H' p x y := s _ _ h
theorem Pr.sq {K : PySem.W.Frag} {H : Hp} {p : Addr} {x y : Int} (h : Pr H p x y) : SqT K H p [.int x, .int y] := SqT.of h
theorem Pr.new {H : Hp} {p : Addr} {x y : Int} : Pr (upd H p (.tup [.int x, .int y])) p x y := upd_same

noncomputable def cellA (ns : List Int) (k : Nat) : Int := ns.getD k (2 * (k : Int) + 1)
noncomputable def mixed (c k : Int) : Int := if c % 2 = 0 ∧ 10 ^ 18 < c then c / 2 else ((c / 2) % 10 ^ 60 + k * k) * 6364136223846793013 + (k + 1) * 1442695040888963407
noncomputable def signed (n : Int) : Int := if n % 2 = 0 then n / 2 else -1 - n / 2
end L3

namespace L3
open PySem PySem.Spec PyProof.Rows L2 Ra
noncomputable def clo (sc : Scope) (env : Env) : List (Str × Addr) := ((sc.names.filter fun y => y.2 == .free).map fun y => (y.1, (env.cells.lookup y.1).getD 0)).reverse
theorem clo_in {sc : Scope} {env : Env} {y : Str} {c : Addr} (h : (clo sc env).lookup y = some c) : (y, NameKind.free) ∈ sc.names ∧ c = (env.cells.lookup y).getD 0 := by
  have m : (y, c) ∈ clo sc env := PySem.mem_of_lookup h
  unfold clo at m
  rw [List.mem_reverse, List.mem_map] at m
  obtain ⟨⟨n, k⟩, hm, e⟩ := m
  rw [List.mem_filter] at hm
  have hk : k = .free := by simpa using hm.2
  subst hk
  cases e
  exact ⟨hm.1, rfl⟩
theorem lookup_some_of_mem {α : Type} {l : List (Str × α)} {y : Str} {c : α} (h : (y, c) ∈ l) : ∃ c', l.lookup y = some c' := by
  induction l with
  | nil => cases h
  | cons p r ih =>
    obtain ⟨n, v⟩ := p
    by_cases e : y = n
    · subst e
      exact ⟨v, by simp⟩
    · have hb : (y == n) = false := by simpa using e
      rw [List.lookup_cons, hb]
      rcases List.mem_cons.mp h with z | z
      · cases z
        exact absurd rfl e
      · exact ih z
theorem clo_has {sc : Scope} {env : Env} {y : Str} (h : (y, NameKind.free) ∈ sc.names) : ∃ c, (clo sc env).lookup y = some c := by
  refine lookup_some_of_mem (c := (env.cells.lookup y).getD 0) ?_
  unfold clo
  rw [List.mem_reverse, List.mem_map]
  exact ⟨(y, .free), List.mem_filter.mpr ⟨h, by simp⟩, rfl⟩
theorem closure_aux {env : Env} : ∀ (ns : List (Str × NameKind)) (cs : List (Str × Addr)), (∀ y ∈ ns, y.2 = .free → ∃ c, env.cells.lookup y.1 = some c) →
    (forIn ns cs fun x r => (match x with | (name, kind) => if kind == .free then do let c ← cellOf env name; pure (ForInStep.yield ((name, c) :: r)) else pure (ForInStep.yield r) : Sem (ForInStep (List (Str × Addr))))) =
      pure (((ns.filter fun y => y.2 == .free).map fun y => (y.1, (env.cells.lookup y.1).getD 0)).reverse ++ cs)
  | [], cs, _ => rfl
  | (n, k) :: r, cs, h => by
    have hr : ∀ y ∈ r, y.2 = .free → ∃ c, env.cells.lookup y.1 = some c := fun y hy => h y (List.mem_cons_of_mem _ hy)
    rw [List.forIn_cons]
    by_cases hk : k = .free
    · subst hk
      obtain ⟨c, hc⟩ := h (n, .free) List.mem_cons_self rfl
      have e : cellOf env n = pure c := by unfold cellOf; rw [hc]
      have e2 : ((n, NameKind.free) :: r).filter (fun y => y.2 == .free) = (n, .free) :: r.filter fun y => y.2 == .free := by simp
      simp only [beq_self_eq_true, if_true, e, pure_bind]
      rw [closure_aux r _ hr, e2]
      simp [hc]
    · have hb : (k == NameKind.free) = false := by simpa using hk
      have e2 : ((n, k) :: r).filter (fun y => y.2 == .free) = r.filter fun y => y.2 == .free := by simp [hk]
      simp only [hb, Bool.false_eq_true, if_false, pure_bind]
      rw [closure_aux r _ hr, e2]
theorem closure_of {sc : Scope} {env : Env} (h : ∀ y ∈ sc.names, y.2 = .free → ∃ c, env.cells.lookup y.1 = some c) : closureFor sc env = pure (clo sc env) := by
  have q := closure_aux sc.names [] h
  rw [List.append_nil] at q
  unfold closureFor clo
  simp only [pure_bind, bind_pure]
  exact q
theorem relabel_lookup {sc : Scope} {env : Env} {y : Str} {k : NameKind} (h : sc.names.lookup y = some k) :
    (relabel sc env).names.lookup y = some (if (k == .free && env.scope.kind == .function && env.kindOf y == some .cell) then .cell else k) := by
  unfold relabel
  show (sc.names.map _).lookup y = _
  generalize sc.names = ns at h
  induction ns with
  | nil => cases h
  | cons p r ih =>
    obtain ⟨n, v⟩ := p
    rw [List.map_cons]
    show List.lookup y ((if (v == .free && env.scope.kind == .function && env.kindOf n == some .cell) = true then (n, NameKind.cell) else (n, v)) :: r.map _) = _
    by_cases e : y = n
    · subst e
      have ev : v = k := by simpa using h
      subst ev
      by_cases c : (v == .free && env.scope.kind == .function && env.kindOf y == some .cell) = true
      · rw [if_pos c, if_pos c]
        simp
      · rw [if_neg c, if_neg c]
        simp
    · have hb : (y == n) = false := by simpa using e
      have h' : r.lookup y = some k := by
        rw [List.lookup_cons, hb] at h
        exact h
      by_cases c : (v == .free && env.scope.kind == .function && env.kindOf n == some .cell) = true
      · rw [if_pos c]
        simp only [List.lookup_cons, hb]
        exact ih h'
      · rw [if_neg c]
        simp only [List.lookup_cons, hb]
        exact ih h'
theorem relabel_none {sc : Scope} {env : Env} {y : Str} (h : sc.names.lookup y = none) : (relabel sc env).names.lookup y = none := by
  unfold relabel
  show (sc.names.map _).lookup y = _
  generalize sc.names = ns at h
  induction ns with
  | nil => rfl
  | cons p r ih =>
    obtain ⟨n, v⟩ := p
    rw [List.map_cons]
    show List.lookup y ((if (v == .free && env.scope.kind == .function && env.kindOf n == some .cell) = true then (n, NameKind.cell) else (n, v)) :: r.map _) = _
    by_cases e : y = n
    · subst e
      simp at h
    · have hb : (y == n) = false := by simpa using e
      have h' : r.lookup y = none := by
        rw [List.lookup_cons, hb] at h
        exact h
      by_cases c : (v == .free && env.scope.kind == .function && env.kindOf n == some .cell) = true
      · rw [if_pos c]
        simp only [List.lookup_cons, hb]
        exact ih h'
      · rw [if_neg c]
        simp only [List.lookup_cons, hb]
        exact ih h'
structure CompOk (fsc csc : Scope) (x : Str) (js : List Nat) (N N' : List Str) : Prop where
  eqN : N' = x :: js.map fun j => N.getD j x
  nd : N'.Nodup
  fr : ∀ y ∈ csc.names, y.2 = .free → fsc.names.lookup y.1 = some .cell
  cell : ∀ y ∈ csc.names, y.2 ≠ .cell
  kind : csc.kind = .function
  nm : ∀ y ∈ csc.names, y.2 = .local → csc.names.lookup y.1 = some .local
  xl : csc.names.lookup x = some .local
  js : ∀ j ∈ js, j < N.length ∧ csc.names.lookup (N.getD j x) = some .free
noncomputable def blk (X : Cx) (csc : Scope) (N' : List Str) (s₀ : Shared) (H₀ : Hp) (C : Addr) (ex : List Addr) : Cx :=
  { X with N := N', s₀ := s₀, H₀ := H₀, env := compEnvC csc (clo csc X.env) C X.env, outer := X.stack, stack := X.stack, ex := ex, fn := fun _ => false, pn := [], xe := fun _ _ => False }
noncomputable def CompAt (J : It) (te : Shared → Hp → Addr → List Addr → TE) (js : List Nat) (σ : L2.St) (Q : VK) (H1 : Hp) : Prop := ∀ D, H1 D = none → ∃ W : Nat → Nat → List V → Hp → Prop, (∃ m, W 0 m [] (upd H1 D (.lst []))) ∧
  ∀ i m ys H, W i m ys H → H D = some (.lst ys) ∧ ((J.stop i H ∧ Q (.ref D) H) ∨ (J.go i H ∧ ∀ x H', J.yld i H x H' → ∀ s₀ H₀ C ex, te s₀ H₀ C ex (some x :: js.map fun j => (σ[j]?).join) H' fun y H2 =>
    H2 D = some (.lst ys) ∧ ys.length < sizeLine ∧ ∃ m', m' < m ∧ W (i + 1) m' (ys ++ [y]) (upd H2 D (.lst (ys ++ [y])))))
noncomputable def tComp (wi : TI) (te : Shared → Hp → Addr → List Addr → TE) (js : List Nat) : TE := fun σ H Q => wi σ H fun J H1 => CompAt J te js σ Q H1
theorem inv_but {X : Cx} {pins : List (Addr × Obj)} {σ : L2.St} {H : Hp} {s : Shared} {C : Addr} {h7 : Heap} (I : Inv X pins σ H s) (f : FpOk X pins H C) (sb : Heap.SameBut C s.heap h7) : Inv X pins σ H { s with heap := h7 } := by
  obtain ⟨g0, g1, g2, g3, g4, g5⟩ := f
  have hne : ∀ {b : Addr}, b ∉ [C] → b ≠ C := fun h z => h (by rw [z]; exact List.mem_cons_self)
  refine I.call' (ch := [C]) (H' := H) rfl ⟨fun b o e _ _ hx => (sb.2 b (hne hx)).trans e, fun b o e _ _ hx => ⟨o.slots, (sb.2 b (hne hx)).trans e⟩, fun _ _ _ n _ => n, fun b o e hx => ⟨o, (sb.2 b (hne hx)).trans e⟩, fun _ _ q => q, fun _ _ _ q => q, fun _ ps q => ⟨#[], by rw [Array.append_empty]; exact q⟩⟩ ?_ I.bare fun b hb => ?_
  · intro b ob e
    refine (I.hok b ob e).stay (fun c w' hcc q => (sb.2 c ?_).trans q) (fun _ q => q) fun _ _ q => q
    rintro rfl
    rcases hcc with rfl | hcc
    · rw [g0] at e; cases e
    · rw [g0] at hcc; cases hcc
  · have e : b = C := by simpa using hb
    subst e
    exact ⟨g3, g1, g4, g5⟩
theorem compLoop_gen {prog : Program} {w : World} {A : Around} {R : Result → Shared → Prop} {s : Shared} {elt target iter : Expr} {ifs : List Expr} {scope : Scope} {pos : Pos} {it acc : Value} {env : Env} (I : Nat → Shared → Prop)
    (turn : ∀ n s, I n s → wpAny (model prog w) A (pyNext it) (fun r s₁ => match r with
      | none => R (.ok .next) s₁
      | some v => wpAny (model prog w) A (letOwnedTupleGo target it v) (fun _ s₁' => wpAny (model prog w) A (assign target env v) (fun _ s₂ =>
          wpAny (model prog w) A (forIn ifs true fun c r => if r = true then do let ok ← isTrue c env (eval c env); pure (ForInStep.yield ok) else pure (ForInStep.yield r)) (fun ok s₃ =>
            if ok = true then wpAny (model prog w) A (eval elt env) (fun x s₄ =>
              wpAny (model prog w) A (call (.builtin "list.append") [acc, x]) (fun _ s₅ => ∃ m, m < n ∧ I m s₅) (notedBy (model prog w) A env fun e s' => R (.error e) s') s₄) (notedBy (model prog w) A env fun e s' => R (.error e) s') s₃
            else ∃ m, m < n ∧ I m s₃) (notedBy (model prog w) A env fun e s' => R (.error e) s') s₂) (notedBy (model prog w) A env fun e s' => R (.error e) s') s₁') (notedBy (model prog w) A env fun e s' => R (.error e) s') s₁) (notedBy (model prog w) A env fun e s' => R (.error e) s') s)
    (n : Nat) (h : I n s) : codeAny (model prog w) A (.compLoop (.ListComp elt [⟨target, iter, ifs, 0⟩] scope pos) 0 it acc env) R s := by
  refine codeAny_loop rfl I (fun n s hI => ?_) n h
  show wpAny _ A ((compTurn (.ListComp elt [⟨target, iter, ifs, 0⟩] scope pos) 0 it acc env).onRaise (fun x => do noteFrame x env; theTreesLotGoes x)) _ _ s
  refine wpAny_noted ?_
  rw [compTurn_list]
  refine wpAny_bind (wpAny_standAt (wpAny_bind (wpAny_mono (turn n s hI) (fun r s₁ h₁ => ?_) fun _ _ h' => h')))
  cases r with
  | none => exact wpAny_pure h₁
  | some v =>
    refine wpAny_bind (wpAny_mono h₁ (fun _ s₁' h₁' => ?_) fun _ _ h' => h')
    refine wpAny_bind (wpAny_mono h₁' (fun _ s₂ h₂ => wpAny_bind (wpAny_mono h₂ (fun ok s₃ h₃ => ?_) fun _ _ h' => h')) fun _ _ h' => h')
    cases ok with
    | false => exact wpAny_pure ⟨rfl, h₃⟩
    | true =>
      exact wpAny_bind (wpAny_bind (wpAny_mono h₃ (fun x s₄ h₄ => wpAny_bind (wpAny_mono h₄ (fun _ s₅ h₅ => wpAny_pure (wpAny_pure ⟨rfl, h₅⟩)) fun _ _ h' => h')) fun _ _ h' => h'))
noncomputable def PTs (X : Cx) (ifs : List Expr) (t : TT) : Prop :=
  ∀ (pins : List (Addr × Obj)) (s : Shared) (σ : L2.St) (H : Hp) (Q : Bool → Hp → Prop), Inv X pins σ H s → t σ H Q →
    wpAny (model X.prog X.w) X.A (forIn ifs true fun c r => if r = true then do let ok ← isTrue c X.env (eval c X.env); pure (ForInStep.yield ok) else pure (ForInStep.yield r)) (TP X pins σ Q) X.xe s
noncomputable def tNoTest : TT := fun _ H Q => Q true H
theorem pts_nil {X : Cx} : PTs X [] tNoTest := fun _ _ _ H _ I h => wpAny_tests_nil ⟨H, I, h⟩
structure CompOkG (fsc csc : Scope) (xs : List Str) (js : List Nat) (N N' : List Str) : Prop where
  eqN : N' = xs ++ js.map fun j => N.getD j ""
  fr : ∀ y ∈ csc.names, y.2 = .free → fsc.names.lookup y.1 = some .cell
  cell : ∀ y ∈ csc.names, y.2 ≠ .cell
  kind : csc.kind = .function
  nm : ∀ y ∈ csc.names, y.2 = .local → csc.names.lookup y.1 = some .local
  js : ∀ j ∈ js, j < N.length ∧ csc.names.lookup (N.getD j "") = some .free
noncomputable def CompAtG (J : It) (tg : TG) (tt : Shared → Hp → Addr → List Addr → TT) (te : Shared → Hp → Addr → List Addr → TE) (nx : Nat) (js : List Nat) (σ : L2.St) (Q : VK) (H1 : Hp) : Prop := ∀ D, H1 D = none → ∃ W : Nat → Nat → List V → Hp → Prop, (∃ m, W 0 m [] (upd H1 D (.lst []))) ∧
  ∀ i m ys H, W i m ys H → H D = some (.lst ys) ∧ ((J.stop i H ∧ Q (.ref D) H) ∨ (J.go i H ∧ ∀ x H', J.yld i H x H' → ∀ s₀ H₀ C ex (σ0 : L2.St), σ0.length = nx → tg x (σ0 ++ js.map fun j => (σ[j]?).join) H' fun σ1 H2 =>
    (∃ σ0' : L2.St, σ1 = σ0' ++ (js.map fun j => (σ[j]?).join) ∧ σ0'.length = nx) ∧ tt s₀ H₀ C ex σ1 H2 fun b H3 => if b = true then te s₀ H₀ C ex σ1 H3 fun y H4 =>
      H4 D = some (.lst ys) ∧ ys.length < sizeLine ∧ ∃ m', m' < m ∧ W (i + 1) m' (ys ++ [y]) (upd H4 D (.lst (ys ++ [y])))
    else H3 D = some (.lst ys) ∧ ∃ m', m' < m ∧ W (i + 1) m' ys H3))
noncomputable def tCompG (wi : TI) (tg : TG) (tt : Shared → Hp → Addr → List Addr → TT) (te : Shared → Hp → Addr → List Addr → TE) (nx : Nat) (js : List Nat) : TE := fun σ H Q => wi σ H fun J H1 => CompAtG J tg tt te nx js σ Q H1
theorem compG_core {X : Cx} {elt iter target : Expr} {ifs : List Expr} {pos pos' : Pos} {csc : Scope} {wi : TI} {tg : TG} {tt : Shared → Hp → Addr → List Addr → TT} {te : Shared → Hp → Addr → List Addr → TE} (xs : List Str) (js : List Nat) {N' : List Str} {fsc : Scope} {N : List Str} (ok : CompOkG fsc csc xs js N N') (hi : PI X target iter wi) (hg : ∀ s₀ H₀ C ex, PG (blk X csc N' s₀ H₀ C ex) target tg) (ht : ∀ s₀ H₀ C ex, PTs (blk X csc N' s₀ H₀ C ex) ifs (tt s₀ H₀ C ex))
    (he : ∀ s₀ H₀ C ex, PE (blk X csc N' s₀ H₀ C ex) elt (te s₀ H₀ C ex)) (hc : X.calm = true) (hsc : X.env.scope = fsc) (hXN : X.N = N) (hs : ∀ x, foldedSetIterable iter X.env x = pure x)
    (use : Option (Value → Sem Unit)) (R : Value → Shared → Prop) {pins : List (Addr × Obj)} {s : Shared} {σ : L2.St} {H : Hp} {Q : VK} (I : Inv X pins σ H s) (h : tCompG wi tg tt te xs.length js σ H Q)
    (hfin : ∀ (D C : Addr) (s6 : Shared) (H5 : Hp) (m6 : Str → Option Value) (r : Flow), Inv X pins σ H5 s6 → FpOk X pins H5 C → s6.heap.Ns C m6 → Q (.ref D) H5 → compPost (model X.prog X.w) X.A X.xe use R (.ref D) C (.ok r) s6) :
    wpAny (model X.prog X.w) X.A (comprehension (.ListComp elt [⟨target, iter, ifs, 0⟩] csc pos) csc X.env pos' (newList []) false (eval iter X.env) use) R X.xe s := by
  have hkX : X.env.scope.kind = .function := I.ok.kind
  have hfree : ∀ y ∈ csc.names, y.2 = .free → ∃ c, X.env.cells.lookup y.1 = some c := fun y hy hk => I.ok.has y.1 (.inl (by show X.env.scope.names.lookup y.1 = _; rw [hsc]; exact ok.fr y hy hk))
  have hcl : ∀ y c, (clo csc X.env).lookup y = some c → X.env.cells.lookup y = some c := fun y c e => by
    obtain ⟨m, e2⟩ := clo_in e
    obtain ⟨c', e3⟩ := hfree _ m rfl
    rw [e3] at e2
    rw [e3, e2]
    rfl
  refine wpAny_comprehension_free (use := use) rfl hs (closure_of hfree) ok.kind ok.nm ?_
  refine thn (hi pins s σ H _ I h) fun v s1 h1 => thn h1 fun itv s2 h2 => ?_
  obtain ⟨it, fp, tn, J, H2, e, I2, T, st2, f2, hw⟩ := h2
  subst e
  have hD : H2 s2.heap.objs.size = none := I2.hok.fresh (Nat.le_refl _)
  obtain ⟨W, ⟨m0, w0⟩, turn⟩ := hw _ hD
  refine wpAny_newObj_type ?_ (by show 0 ≤ sizeLine; decide)
  have I3 : Inv X pins σ (upd H2 s2.heap.objs.size (.lst [])) { s2 with heap := s2.heap.push { cls := .type "list", data := .seq ([] : List Value).toArray } } := I2.lnew (t' := s2.toks) .nil (by show 0 ≤ sizeLine; decide)
  generalize hs3 : ({ s2 with heap := s2.heap.push { cls := .type "list", data := .seq ([] : List Value).toArray } } : Shared) = s3 at I3 ⊢
  have hsz : s3.heap.objs.size = s2.heap.objs.size + 1 := by rw [← hs3, Heap.size_push]
  generalize hDe : s2.heap.objs.size = D at *
  have tn3 : tn 0 s3.heap := T.keep 0 s2.heap _ st2 fun b hb o e => by rw [← hs3]; exact Heap.get?_push_of_some _ e
  have fpD : ∀ b ∈ fp, b ≠ D := fun b hb z => by
    obtain ⟨o, e, _⟩ := T.obj 0 _ st2 b hb
    rw [z, ← hDe] at e
    exact absurd (Heap.lt_size e) (Nat.lt_irrefl _)
  have f3 : ∀ b ∈ fp, upd H2 D (.lst []) b = none := fun b hb => by rw [upd_ne (fpD b hb)]; exact (f2 b hb).1
  refine wpAny_newFunctionEnv ok.cell (by intro y hy; simp at hy) (fun h4 hns hsb => ?_) ok.kind
  generalize hCe : s3.heap.objs.size = C at *
  have ltC : ∀ b o, s3.heap.get? b = some o → b < C := fun b o e => by
    rw [← hCe]
    exact Heap.lt_size e
  have keep4 : ∀ b o, s3.heap.get? b = some o → h4.get? b = some o := fun b o e => by
    rw [hsb.2 b (Nat.ne_of_lt (ltC b o e))]
    exact Heap.get?_push_of_some _ e
  have Xok : (blk X csc N' s3 (upd H2 D (.lst [])) C fp).Ok := by
    refine ⟨I3.ok.mod, ?_, I3.ok.glob, I3.ok.blt, ?_, fun y z c h1 h2 => I3.ok.inj y z c (hcl y c h1) (hcl z c h2), fun y hy => ?_, fun y c h1 _ => ?_, I3.ok.hd, I3.ok.frames, .inl rfl, fun b hb => ?_, I3.bs, ?_, fun b o e hb => ?_, fun b hb hz => ?_, I3.stack, I3.stkFree⟩
    · exact ok.kind
    · exact Nat.le_of_eq hCe
    · have hy' : (relabel csc X.env).names.lookup y = some .cell ∨ (relabel csc X.env).names.lookup y = some .free := hy
      cases hk : csc.names.lookup y with
      | none =>
        rw [relabel_none hk] at hy'
        rcases hy' with z | z <;> cases z
      | some k =>
        have hm : (y, k) ∈ csc.names := PySem.mem_of_lookup hk
        by_cases hkf : k = .free
        · subst hkf
          exact clo_has hm
        · have hb : (k == NameKind.free) = false := by simpa using hkf
          rw [relabel_lookup hk] at hy'
          simp only [hb, Bool.false_and, Bool.false_eq_true, if_false] at hy'
          rcases hy' with z | z
          · exact absurd (Option.some.inj z) (ok.cell _ hm)
          · exact absurd (Option.some.inj z) hkf
    · exact absurd (show false = true from h1) Bool.false_ne_true
    · obtain ⟨g0, g1, g2, g3, g4, g5⟩ := f2 b hb
      refine ⟨fun z => ?_, fun y c e => g4 y c (hcl y c e)⟩
      obtain ⟨o, e, _⟩ := T.obj 0 _ tn3 b hb
      have z' : b = C := z
      have l := ltC b o e
      rw [z'] at l
      exact absurd l (Nat.lt_irrefl _)
    · exact Nat.le_trans I3.ok.bsz I3.sz
    · obtain ⟨g0, g1, g2, g3, g4, g5⟩ := f2 b hb
      rcases g3 with z | z
      · exact I3.ok.noex b o e z
      · exact absurd (Nat.lt_of_lt_of_le (Heap.lt_size e) (Nat.le_trans I3.ok.bsz z)) (Nat.lt_irrefl _)
    · obtain ⟨g0, g1, g2, g3, g4, g5⟩ := f2 b hb
      rcases List.mem_cons.mp (I3.stkSub b hz) with z | z
      · exact g1 z
      · exact g2 z
  have hfreeC : H2 C = none ∧ upd H2 D (.lst []) C = none := by
    have q : upd H2 D (.lst []) C = none := I3.hok.fresh (Nat.le_of_eq hCe)
    refine ⟨?_, q⟩
    rw [upd_ne (by rw [hsz]; exact Nat.succ_ne_self D)] at q
    exact q
  have I4 : Inv (blk X csc N' s3 (upd H2 D (.lst [])) C fp) [] (List.replicate xs.length none ++ js.map fun j => (σ[j]?).join) (upd H2 D (.lst [])) { s3 with heap := h4, toks := s3.toks + ([] : List (Str × Value)).length } := by
    refine ⟨Xok, rfl, I3.bare, Un.kept keep4, ⟨_, hns, fun i y v h1 h2 h3 => ?_⟩, fun y c e => ?_, hfreeC.2, fun y c e => I3.freeC y c (hcl y c e), fun p hp => absurd (show p ∈ ([] : List (Addr × Obj)) from hp) (by simp), I3.hok.kept keep4, ?_⟩
    · have h1' : (xs ++ js.map fun j => N.getD j "")[i]? = some y := by rw [← ok.eqN]; exact h1
      by_cases hi : i < xs.length
      · rw [List.getElem?_append_left (by rw [List.length_replicate]; exact hi), List.getElem?_replicate] at h2
        rw [if_pos hi] at h2
        cases h2
      · rw [List.getElem?_append_right (by (first | lia | omega)), List.getElem?_map] at h1'
        rw [List.getElem?_append_right (by rw [List.length_replicate]; (first | lia | omega)), List.length_replicate, List.getElem?_map] at h2
        cases ej : js[i - xs.length]? with
        | none => rw [ej] at h2; cases h2
        | some j =>
          rw [ej] at h1' h2
          obtain ⟨jl, jf⟩ := ok.js j (List.mem_of_getElem? ej)
          have ey : N.getD j "" = y := Option.some.inj h1'
          have ev : (σ[j]?).join = some v := Option.some.inj h2
          have ev' : σ[j]? = some (some v) := by
            cases q : σ[j]? with
            | none => rw [q] at ev; cases ev
            | some o => rw [q] at ev; rw [show o = some v from ev]
          have eN : X.N[j]? = some y := by rw [hXN, ← ey, List.getD_eq_getElem?_getD, List.getElem?_eq_getElem jl]; rfl
          rw [ey] at jf
          have kX : X.env.scope.names.lookup y = some .cell := by rw [hsc]; exact ok.fr (y, .free) (PySem.mem_of_lookup jf) rfl
          obtain ⟨m3, n3, l3⟩ := I3.loc
          obtain ⟨u, ru, lk⟩ := l3 j y v eN ev' (.inr (.inl kX))
          refine ⟨u, ru, .inr ⟨?_, ?_⟩⟩
          · left
            show (relabel csc X.env).names.lookup y = some .cell
            rw [relabel_lookup jf]
            have k2 : X.env.kindOf y = some .cell := kX
            rw [hkX, k2]
            rfl
          · rcases lk with ⟨z, _⟩ | ⟨_, c, hc1, hc2⟩
            · have z' : X.env.scope.names.lookup y = some .local := z
              rw [kX] at z'
              cases z'
            · obtain ⟨c', e'⟩ := clo_has (env := X.env) (PySem.mem_of_lookup jf)
              have : c' = c := by
                have q := hcl y c' e'
                rw [hc1] at q
                exact (Option.some.inj q).symm
              subst this
              obtain ⟨oc, ho, hd⟩ := hc2
              exact ⟨c', e', oc, keep4 _ _ ho, hd⟩
    · obtain ⟨v, oc, ho, hd⟩ := I3.cell y c (hcl y c e)
      exact ⟨v, oc, keep4 _ _ ho, hd⟩
    · show (List.replicate xs.length none ++ js.map _).length = N'.length
      rw [ok.eqN]
      simp
  have stat : ∀ {H' : Hp}, (∀ b ∈ fp, H' b = none) → ∀ b ∈ fp, FpOk (blk X csc N' s3 (upd H2 D (.lst [])) C fp) [] H' b := fun hn b hb => by
    obtain ⟨g0, g1, g2, g3, g4, g5⟩ := f2 b hb
    exact ⟨hn b hb, (Xok.exf b hb).1, Xok.exfs b hb, .inl hb, (Xok.exf b hb).2, fun p hp => absurd (show p ∈ ([] : List (Addr × Obj)) from hp) (by simp)⟩
  have loop : ∀ s' : Shared, Inv (blk X csc N' s3 (upd H2 D (.lst [])) C fp) [] (List.replicate xs.length none ++ js.map fun j => (σ[j]?).join) (upd H2 D (.lst [])) s' → tn 0 s'.heap →
      codeAny (model X.prog X.w) X.A (.compLoop (.ListComp elt [⟨target, iter, ifs, 0⟩] csc pos) 0 (.ref it) (.ref D) (compEnvC csc (clo csc X.env) C X.env)) (compPost (model X.prog X.w) X.A X.xe use R (.ref D) C) s' := by
    rintro s' I' t0
    refine compLoop_gen (fun m s => ∃ i ys H', Inv (blk X csc N' s3 (upd H2 D (.lst [])) C fp) [] (List.replicate xs.length none ++ js.map fun j => (σ[j]?).join) H' s ∧ tn i s.heap ∧ (∀ b ∈ fp, H' b = none) ∧ W i m ys H') ?_ m0 ⟨0, [], _, I', t0, f3, w0⟩
    rintro m s5 ⟨i, ys, H5, I5, t5, fr5, w5⟩
    obtain ⟨hDl, tt'⟩ := turn i m ys H5 w5
    rcases tt' with ⟨stop, qn⟩ | ⟨go, step⟩
    · refine thn (T.done (blk X csc N' s3 (upd H2 D (.lst [])) C fp) rfl rfl rfl hc i [] s5 _ H5 _ I5 (stat fr5) t5 stop) fun r s6 ⟨hr, I6⟩ => ?_
      subst hr
      obtain ⟨m6, n6, _⟩ := I6.loc
      have I7 : Inv X pins σ H5 s6 := I3.call' (s' := s6) I6.os I6.base I6.hok I6.bare fun b hb => by
        obtain ⟨g0, g1, g2, g3, g4, g5⟩ := f2 b hb
        exact ⟨g3, g1, g4, g5⟩
      exact hfin D C s6 H5 m6 _ I7 (I3.fpOk (Nat.le_of_eq hCe) I6.free) n6 qn
    · refine thn (T.item (blk X csc N' s3 (upd H2 D (.lst [])) C fp) rfl rfl rfl hc i [] s5 _ H5 _ I5 (stat fr5) t5 go) fun r s6 ⟨u, hr, h6⟩ => ?_
      subst hr
      refine thn h6 fun _ s7 ⟨xv, H6, I6, rx, y6, t6, fr6⟩ => ?_
      have I6' := I6.pinned (stat fr6) (T.obj _ _ t6)
      -- what is kept of the iterator, the block's names forgotten
      have back : ∀ {H10 : Hp} {s10 : Shared} {σ1 σ0 : L2.St}, σ1 = σ0 ++ (js.map fun j => (σ[j]?).join) → σ0.length = xs.length → Inv (blk X csc N' s3 (upd H2 D (.lst [])) C fp) ([] ++ pinsAt fp s7.heap) σ1 H10 s10 →
          Inv (blk X csc N' s3 (upd H2 D (.lst [])) C fp) [] (List.replicate xs.length none ++ js.map fun j => (σ[j]?).join) H10 s10 ∧ tn (i + 1) s10.heap ∧ ∀ b ∈ fp, H10 b = none := by
        intro H10 s10 σ1 σ0 e1 e2 I10
        subst e1
        refine ⟨(Inv.unpinned (pins := []) I10).weak (by simp [e2]) fun k v hk => ?_, T.keep _ _ _ t6 fun b hb o e => (I10.pin (b, o) (List.mem_append_right _ (List.mem_append_right _ (mem_pinsAt hb e)))).1, fun b hb => ?_⟩
        · by_cases hk' : k < xs.length
          · rw [List.getElem?_append_left (by rw [List.length_replicate]; exact hk'), List.getElem?_replicate, if_pos hk'] at hk
            cases hk
          · rw [List.getElem?_append_right (by rw [List.length_replicate]; (first | lia | omega)), List.length_replicate] at hk
            rw [List.getElem?_append_right (by (first | lia | omega)), e2]
            exact hk
        · obtain ⟨o, e, d⟩ := T.obj _ _ t6 b hb
          exact (I10.pin (b, o) (List.mem_append_right _ (List.mem_append_right _ (mem_pinsAt hb e)))).2.1
      have st0 := step xv H6 y6 s3 (upd H2 D (.lst [])) C fp (List.replicate xs.length none) (List.length_replicate ..)
      refine wpAny_mono (hg s3 (upd H2 D (.lst [])) C fp _ s7 _ H6 xv u _ I6' rx st0) (fun _ s8 h8 => ?_) (fun _ _ z => False.elim z)
      obtain ⟨σ1, H8, I8, ⟨σ0, e1, e2⟩, q8⟩ := h8
      refine wpAny_mono (ht s3 (upd H2 D (.lst [])) C fp _ s8 σ1 H8 _ I8 q8) (fun ok' s9 h9 => ?_) (fun _ _ z => False.elim z)
      obtain ⟨H9, I9, q9⟩ := h9
      cases ok' with
      | false =>
        have q9' := q9
        rw [if_neg Bool.false_ne_true] at q9'
        obtain ⟨hD9, m', hm', w9⟩ := q9'
        show if false = true then _ else _
        rw [if_neg Bool.false_ne_true]
        obtain ⟨I10, t10, f10⟩ := back e1 e2 I9
        exact ⟨m', hm', i + 1, ys, H9, I10, t10, f10, w9⟩
      | true =>
        have q9' := q9
        rw [if_pos rfl] at q9'
        show if true = true then _ else _
        rw [if_pos rfl]
        refine wpAny_mono (he s3 (upd H2 D (.lst [])) C fp _ s9 σ1 H9 _ I9 q9') (fun yv s10 h10 => ?_) (fun _ _ z => False.elim z)
        obtain ⟨y, H10, I10, ry, hD10, hlt, m', hm', w10⟩ := h10
        refine wpAny_mono (mt_append (X := blk X csc N' s3 (upd H2 D (.lst [])) C fp) _ s10 _ H10 (.ref D) [y] (.ref D) [yv] (fun _ H11 => H11 = upd H10 D (.lst (ys ++ [y]))) I10 rfl (.cons ry .nil) ⟨D, ys, y, rfl, rfl, hD10, hlt, rfl⟩) (fun v11 s11 h11 => ?_) (fun _ _ z => False.elim z)
        obtain ⟨v12, H12, I12, r12, e12⟩ := h11
        subst e12
        obtain ⟨J1, J2, J3⟩ := back e1 e2 I12
        exact ⟨m', hm', i + 1, ys ++ [y], _, J1, J2, J3, w10⟩
  have tn4 : tn 0 h4 := T.keep 0 _ _ tn3 fun b _ o e => keep4 b o e
  exact codeAny_compStart_list (loop _ I4 tn4) (T.self X.A 0 _ _ _ tn4 (loop _ I4 tn4))
theorem pg_blk {X : Cx} {csc : Scope} {N' : List Str} {s₀ : Shared} {H₀ : Hp} {C : Addr} {ex : List Addr} {i : Nat} {x : Str} {px : Pos} (nd : N'.Nodup) (hi : N'[i]? = some x) (hl : csc.names.lookup x = some .local) : PG (blk X csc N' s₀ H₀ C ex) (.Name x px) (gName i) :=
  pg_name (X := blk X csc N' s₀ H₀ C ex) nd hi (.inl (by
    show (relabel csc X.env).names.lookup x = some .local
    rw [relabel_lookup hl]
    rfl)) (.inr (by
    show (relabel csc X.env).names.lookup x = some .local
    rw [relabel_lookup hl]
    rfl))
theorem pi_mono {X : Cx} {tg iter : Expr} {wi : TI} (h : PI X tg iter wi) : PI X tg iter (fun σ H R => ∃ R' : It → Hp → Prop, wi σ H R' ∧ ∀ J H1, R' J H1 → R J H1) := by
  intro pins s σ H R I hw
  obtain ⟨R', hw, hm⟩ := hw
  refine thn (h pins s σ H R' I hw) fun v s1 h1 => thn h1 fun itv s2 h2 => ?_
  obtain ⟨it, fp, tn, J, H2, e, I2, T, st2, f2, hr⟩ := h2
  exact ⟨it, fp, tn, J, H2, e, I2, T, st2, f2, hm J H2 hr⟩
theorem comp_core {X : Cx} {elt iter : Expr} {x : Str} {px pos pos' : Pos} {csc : Scope} {wi : TI} {te : Shared → Hp → Addr → List Addr → TE} (js : List Nat) {N' : List Str} {fsc : Scope} {N : List Str} (ok : CompOk fsc csc x js N N') (hi : PI X (.Name x px) iter wi)
    (he : ∀ s₀ H₀ C ex, PE (blk X csc N' s₀ H₀ C ex) elt (te s₀ H₀ C ex)) (hc : X.calm = true) (hsc : X.env.scope = fsc) (hXN : X.N = N) (hs : ∀ x, foldedSetIterable iter X.env x = pure x)
    (use : Option (Value → Sem Unit)) (R : Value → Shared → Prop) {pins : List (Addr × Obj)} {s : Shared} {σ : L2.St} {H : Hp} {Q : VK} (I : Inv X pins σ H s) (h : tComp wi te js σ H Q)
    (hfin : ∀ (D C : Addr) (s6 : Shared) (H5 : Hp) (m6 : Str → Option Value) (r : Flow), Inv X pins σ H5 s6 → FpOk X pins H5 C → s6.heap.Ns C m6 → Q (.ref D) H5 → compPost (model X.prog X.w) X.A X.xe use R (.ref D) C (.ok r) s6) :
    wpAny (model X.prog X.w) X.A (comprehension (.ListComp elt [⟨.Name x px, iter, [], 0⟩] csc pos) csc X.env pos' (newList []) false (eval iter X.env) use) R X.xe s := by
  have ej : (js.map fun j => N.getD j x) = js.map fun j => N.getD j "" := List.map_congr_left fun j hj => by
    have := (ok.js j hj).1
    rw [List.getD_eq_getElem?_getD, List.getD_eq_getElem?_getD, List.getElem?_eq_getElem this]
    rfl
  have ok' : CompOkG fsc csc [x] js N N' := ⟨by rw [ok.eqN, ej]; rfl, ok.fr, ok.cell, ok.kind, ok.nm, fun j hj => by
    have := ok.js j hj
    have e : N.getD j x = N.getD j "" := by rw [List.getD_eq_getElem?_getD, List.getD_eq_getElem?_getD, List.getElem?_eq_getElem this.1]; rfl
    rw [e] at this
    exact this⟩
  refine compG_core (ifs := []) (tg := gName 0) (tt := fun _ _ _ _ => tNoTest) (te := te) [x] js ok' (pi_mono hi) (fun s₀ H₀ C ex => pg_blk ok.nd (by rw [ok.eqN]; rfl) ok.xl) (fun _ _ _ _ => pts_nil) he hc hsc hXN hs use R I ?_ hfin
  refine ⟨_, h, fun J H1 hw D hD => ?_⟩
  obtain ⟨W, w0, turn⟩ := hw D hD
  refine ⟨W, w0, fun i m ys H2 w => ?_⟩
  obtain ⟨e, t⟩ := turn i m ys H2 w
  refine ⟨e, t.imp id fun ⟨go, y⟩ => ⟨go, fun v H' yl s₀ H₀ C ex σ0 h0 => ?_⟩⟩
  obtain ⟨o, rfl⟩ : ∃ o, σ0 = [o] := by
    match σ0, h0 with
    | [o], _ => exact ⟨o, rfl⟩
  exact ⟨⟨[some v], rfl, rfl⟩, y v H' yl s₀ H₀ C ex⟩
theorem pe_comp {X : Cx} {elt iter : Expr} {x : Str} {px pos : Pos} {csc : Scope} {wi : TI} {te : Shared → Hp → Addr → List Addr → TE} (js : List Nat) {N' : List Str} {fsc : Scope} {N : List Str} (ok : CompOk fsc csc x js N N') (hi : PI X (.Name x px) iter wi)
    (he : ∀ s₀ H₀ C ex, PE (blk X csc N' s₀ H₀ C ex) elt (te s₀ H₀ C ex)) (hc : X.calm = true := by rfl) (hsc : X.env.scope = fsc := by rfl) (hXN : X.N = N := by rfl) (hs : ∀ x, foldedSetIterable iter X.env x = pure x := by intro _; rfl) :
    PE X (.ListComp elt [⟨.Name x px, iter, [], 0⟩] csc pos) (tComp wi te js) := by
  intro pins s σ H Q I h
  rw [eval_ListComp]
  exact comp_core js ok hi he hc hsc hXN hs none _ I h fun D C s6 H5 m6 _ I6 f6 n6 q => ⟨m6, n6, fun h7 sb => ⟨.ref D, H5, inv_but I6 f6 sb, rfl, q⟩⟩
theorem ps_setComp {X : Cx} {elt iter : Expr} {x y : Str} {px py pos spos : Pos} {i : Nat} {csc : Scope} {wi : TI} {te : Shared → Hp → Addr → List Addr → TE} (hN : X.N.Nodup) (hi' : X.N[i]? = some y) (hy : Loc X.env.scope y)
    (js : List Nat) {N' : List Str} {fsc : Scope} {N : List Str} (ok : CompOk fsc csc x js N N') (hi : PI X (.Name x px) iter wi)
    (he : ∀ s₀ H₀ C ex, PE (blk X csc N' s₀ H₀ C ex) elt (te s₀ H₀ C ex)) (hsw : swapsWith (.ListComp elt [⟨.Name x px, iter, [], 0⟩] csc pos) (some (.Name y py)) spos.line X.env = pure true := by rfl)
    (hc : X.calm = true := by rfl) (hsc : X.env.scope = fsc := by rfl) (hXN : X.N = N := by rfl) (hs : ∀ x, foldedSetIterable iter X.env x = pure x := by intro _; rfl)
    (hf : X.fn y = true ∨ X.env.scope.names.lookup y = some .local := by first | exact .inl rfl | exact .inr rfl | assumption) :
    PS X (.Assign [.Name y py] (.ListComp elt [⟨.Name x px, iter, [], 0⟩] csc pos) spos) (tAsg (tComp wi te js) (gName i)) := by
  intro pins s σ H D I h
  rw [exec_Assign_Name_used _ _ _ _ hsw]
  refine wpAny_bind (wpAny_standAt (wpAny_bind ?_))
  show wpAny _ X.A (do let _ ← comprehension (.ListComp elt [⟨.Name x px, iter, [], 0⟩] csc pos) csc X.env _ (newList []) false (eval iter X.env) (some (assign (.Name y py) X.env))) _ _ s
  refine wpAny_bind (wpAny_mono (comp_core js ok hi he hc hsc hXN hs (some (assign (.Name y py) X.env)) (fun _ s' => SP X pins D .next s') I h ?_) (fun _ s' hq => wpAny_pure (wpAny_pure hq)) fun _ _ e => e)
  intro D' C s6 H5 m6 r I6 f6 n6 q
  show wpAny _ X.A (assign (.Name y py) X.env (.ref D')) _ _ _
  obtain ⟨o6, es, ep, ho, hd, hrest⟩ := id n6
  have Ip := I6.pinned (fp := [C]) (fun b hb => by
    have e : b = C := by simpa using hb
    subst e
    exact f6) (fun b hb => by
    have e : b = C := by simpa using hb
    subst e
    exact ⟨o6, ho, fun v z => by rw [hd] at z; cases z⟩)
  refine wpAny_assign_Name (store_ok (i := i) Ip hN hi' hy (v := .ref D') rfl (fun s7 I7 => ?_) hf)
  refine ⟨m6, n6.at fun o e => (I7.pin (C, o) (List.mem_append_right _ (List.mem_append_right _ (mem_pinsAt List.mem_cons_self e)))).1, fun h7 sb => ?_⟩
  exact ⟨_, H5, inv_but I7.unpinned f6 sb, q⟩
end L3

namespace L3
open PySem PySem.Spec PyProof.Rows L2 Ra
theorem ps_setCompG {X : Cx} {elt iter target : Expr} {ifs : List Expr} {y : Str} {py pos spos : Pos} {i : Nat} {csc : Scope} {wi : TI} {tg : TG} {tt : Shared → Hp → Addr → List Addr → TT} {te : Shared → Hp → Addr → List Addr → TE} (hN : X.N.Nodup) (hi' : X.N[i]? = some y) (hy : Loc X.env.scope y)
    (xs : List Str) (js : List Nat) {N' : List Str} {fsc : Scope} {N : List Str} (ok : CompOkG fsc csc xs js N N') (hi : PI X target iter wi) (hg : ∀ s₀ H₀ C ex, PG (blk X csc N' s₀ H₀ C ex) target tg) (ht : ∀ s₀ H₀ C ex, PTs (blk X csc N' s₀ H₀ C ex) ifs (tt s₀ H₀ C ex))
    (he : ∀ s₀ H₀ C ex, PE (blk X csc N' s₀ H₀ C ex) elt (te s₀ H₀ C ex)) (hsw : swapsWith (.ListComp elt [⟨target, iter, ifs, 0⟩] csc pos) (some (.Name y py)) spos.line X.env = pure true := by rfl)
    (hc : X.calm = true := by rfl) (hsc : X.env.scope = fsc := by rfl) (hXN : X.N = N := by rfl) (hs : ∀ x, foldedSetIterable iter X.env x = pure x := by intro _; rfl)
    (hf : X.fn y = true ∨ X.env.scope.names.lookup y = some .local := by first | exact .inl rfl | exact .inr rfl | assumption) :
    PS X (.Assign [.Name y py] (.ListComp elt [⟨target, iter, ifs, 0⟩] csc pos) spos) (tAsg (tCompG wi tg tt te xs.length js) (gName i)) := by
  intro pins s σ H D I h
  rw [exec_Assign_Name_used _ _ _ _ hsw]
  refine wpAny_bind (wpAny_standAt (wpAny_bind ?_))
  show wpAny _ X.A (do let _ ← comprehension (.ListComp elt [⟨target, iter, ifs, 0⟩] csc pos) csc X.env _ (newList []) false (eval iter X.env) (some (assign (.Name y py) X.env))) _ _ s
  refine wpAny_bind (wpAny_mono (compG_core xs js ok hi hg ht he hc hsc hXN hs (some (assign (.Name y py) X.env)) (fun _ s' => SP X pins D .next s') I h ?_) (fun _ s' hq => wpAny_pure (wpAny_pure hq)) fun _ _ e => e)
  intro D' C s6 H5 m6 r I6 f6 n6 q
  show wpAny _ X.A (assign (.Name y py) X.env (.ref D')) _ _ _
  obtain ⟨o6, es, ep, ho, hd, hrest⟩ := id n6
  have Ip := I6.pinned (fp := [C]) (fun b hb => by
    have e : b = C := by simpa using hb
    subst e
    exact f6) (fun b hb => by
    have e : b = C := by simpa using hb
    subst e
    exact ⟨o6, ho, fun v z => by rw [hd] at z; cases z⟩)
  refine wpAny_assign_Name (store_ok (i := i) Ip hN hi' hy (v := .ref D') rfl (fun s7 I7 => ?_) hf)
  refine ⟨m6, n6.at fun o e => (I7.pin (C, o) (List.mem_append_right _ (List.mem_append_right _ (mem_pinsAt List.mem_cons_self e)))).1, fun h7 sb => ?_⟩
  exact ⟨_, H5, inv_but I7.unpinned f6 sb, q⟩
theorem pg_blk2 {X : Cx} {csc : Scope} {N' : List Str} {s₀ : Shared} {H₀ : Hp} {C : Addr} {ex : List Addr} {i j : Nat} {x y : Str} {px py pt : Pos} {k} (hc : X.calm = true) (nd : N'.Nodup) (hi : N'[i]? = some x) (hl : csc.names.lookup x = some .local) (hj : N'[j]? = some y) (hl2 : csc.names.lookup y = some .local) :
    PG (blk X csc N' s₀ H₀ C ex) (.Tuple [.Name x px, .Name y py] k pt) (gTup X.K 2 (gCons (gName i) (gCons (gName j) gNil))) :=
  pg_tup (X := blk X csc N' s₀ H₀ C ex) hc (pgs_cons (pg_blk nd hi hl) (pgs_cons (pg_blk nd hj hl2) pgs_nil))
end L3

namespace L3
open PySem PySem.Spec PyProof.Rows L2 Ra
mutual
inductive Dv (H : Hp) : V → PyData → Prop
  | non : Dv H .non .none
  | bl (b : Bool) : Dv H (.bl b) (.bool b)
  | int (i : Int) : Dv H (.int i) (.int i)
  | str (x : Str) (ok : (PyData.str x).canLay0 = true) : Dv H (.str x) (.str x)
  | lst {a : Addr} {xs : List V} {ds : List PyData} : H a = some (.lst xs) → DvAll H xs ds → Dv H (.ref a) (.list ds)
  | tup {a : Addr} {xs : List V} {ds : List PyData} : H a = some (.tup xs) → DvAll H xs ds → Dv H (.ref a) (.tuple ds)
inductive DvAll (H : Hp) : List V → List PyData → Prop
  | nil : DvAll H [] []
  | cons {v : V} {vs : List V} {d : PyData} {ds : List PyData} : Dv H v d → DvAll H vs ds → DvAll H (v :: vs) (d :: ds)
end
mutual
theorem Dv.keep {H H' : Hp} (s : Same H H') : ∀ {v : V} {d : PyData}, Dv H v d → Dv H' v d
  | _, _, .non => .non
  | _, _, .bl b => .bl b
  | _, _, .int i => .int i
  | _, _, .str x ok => .str x ok
  | _, _, .lst h r => .lst (s _ _ h) (DvAll.keep s r)
  | _, _, .tup h r => .tup (s _ _ h) (DvAll.keep s r)
theorem DvAll.keep {H H' : Hp} (s : Same H H') : ∀ {vs : List V} {ds : List PyData}, DvAll H vs ds → DvAll H' vs ds
  | _, _, .nil => .nil
  | _, _, .cons h r => .cons (Dv.keep s h) (DvAll.keep s r)
end
mutual
theorem Dv.can {H : Hp} : ∀ {v : V} {d : PyData}, Dv H v d → d.canLay0 = true
  | _, _, .non => rfl
  | _, _, .bl _ => rfl
  | _, _, .int _ => rfl
  | _, _, .str _ ok => ok
  | _, _, .lst _ r => by rw [PyData.canLay0]; exact DvAll.can r
  | _, _, .tup _ r => by rw [PyData.canLay0]; exact DvAll.can r
theorem DvAll.can {H : Hp} : ∀ {vs : List V} {ds : List PyData}, DvAll H vs ds → PyData.canLayAll0 ds = true
  | _, _, .nil => rfl
  | _, _, .cons h r => by rw [PyData.canLayAll0, Dv.can h, DvAll.can r]; rfl
end
section
variable {X : Cx} {pins : List (Addr × Obj)} {σ : L2.St} {H : Hp} {s : Shared}
mutual
theorem Dv.reads (I : Inv X pins σ H s) : ∀ {v : V} {d : PyData} {u : Value}, Dv H v d → RelV v u → ∃ as, Reads s.heap u d as
  | _, _, _, .non, r => by cases r; exact ⟨_, .none⟩
  | _, _, _, .bl b, r => by cases r; exact ⟨_, .bool b⟩
  | _, _, _, .int i, r => by obtain ⟨t, rfl⟩ := r; exact ⟨_, .int i t⟩
  | _, _, _, .str x _, r => by obtain ⟨t, rfl⟩ := r; exact ⟨_, .str x t⟩
  | _, _, _, .lst h q, r => by
    cases r
    obtain ⟨its, rv, p, _⟩ := I.list (SqL.of h)
    obtain ⟨o, e, hc, n, hd⟩ := p.isList
    obtain ⟨as, ra⟩ := DvAll.reads I q rv
    exact ⟨_, .list e hc hd ra⟩
  | _, _, _, .tup h q, r => by
    cases r
    obtain ⟨its, rv, p, _⟩ := I.tuple (SqT.of h)
    obtain ⟨o, e, hc, n, hd⟩ := p
    obtain ⟨as, ra⟩ := DvAll.reads I q rv
    exact ⟨_, .tuple e hc hd ra⟩
theorem DvAll.reads (I : Inv X pins σ H s) : ∀ {vs : List V} {ds : List PyData} {us : List Value}, DvAll H vs ds → Vals vs us → ∃ as, ReadsAll s.heap us ds as
  | _, _, _, .nil, .nil => ⟨_, .nil⟩
  | _, _, _, .cons h q, .cons r rs => by
    obtain ⟨as, ra⟩ := Dv.reads I h r
    obtain ⟨bs, rb⟩ := DvAll.reads I q rs
    exact ⟨_, .cons ra rb⟩
end
end
noncomputable def rEqD (c : Bool → Bool) : R2 := fun x y H Q => ∃ dx dy, Dv H x dx ∧ Dv H y dy ∧ dx.depth ≤ 60 ∧ Q (.bl (c (PyData.eqv dx dy))) H
theorem op_eqD {X : Cx} (hu : X.A.units + 64 < cLine) : OpR X (compareOp .Eq) (rEqD fun b => b) := by
  intro pins s σ H x y v u Q I rx ry h
  obtain ⟨dx, dy, hx, hy, hd, q⟩ := h
  obtain ⟨as, ra⟩ := hx.reads I rx
  obtain ⟨bs, rb⟩ := hy.reads I ry
  exact SeqAt.compareEq_reads ra rb hx.can hy.can (by have := Nat.min_le_left dx.depth dy.depth; (first | lia | omega)) ⟨.bl _, H, I, rfl, q⟩
theorem op_neD {X : Cx} (hu : X.A.units + 64 < cLine) : OpR X (compareOp .NotEq) (rEqD fun b => !b) := by
  intro pins s σ H x y v u Q I rx ry h
  obtain ⟨dx, dy, hx, hy, hd, q⟩ := h
  obtain ⟨as, ra⟩ := hx.reads I rx
  obtain ⟨bs, rb⟩ := hy.reads I ry
  exact SeqAt.compareNe_reads ra rb hx.can hy.can (by have := Nat.min_le_left dx.depth dy.depth; (first | lia | omega)) ⟨.bl _, H, I, rfl, q⟩
theorem paired_left {α β : Type} {F : α → β → Prop} : ∀ {xs : List α} {ys : List β} {x : α}, Paired F xs ys → x ∈ xs → ∃ y, y ∈ ys ∧ F x y
  | _, _, _, .nil, h => by simp at h
  | _, _, _, .cons a r, h => by
    rcases List.mem_cons.mp h with e | e
    · exact ⟨_, List.mem_cons_self, by rw [e]; exact a⟩
    · obtain ⟨y, hy, q⟩ := paired_left r e
      exact ⟨y, List.mem_cons_of_mem _ hy, q⟩
noncomputable def Pq (H : Hp) (p : Addr) (q : Rat) : Prop := Pr H p q.num q.den
theorem Pq.keep {H H' : Hp} {p : Addr} {q : Rat} (h : Pq H p q) (s : Same H H') : Pq H' p q := s _ _ h
theorem Pq.sq {K : PySem.W.Frag} {H : Hp} {p : Addr} {q : Rat} (h : Pq H p q) : SqT K H p [.int q.num, .int q.den] := SqT.of h
theorem Pq.of {H : Hp} {p : Addr} {x y : Int} {q : Rat} (h : Pr H p x y) (e : q.num = x ∧ (q.den : Int) = y) : Pq H p q := by
  unfold Pq
  rw [e.1, e.2]
  exact h
noncomputable abbrev Pqs (H : Hp) : List Addr → List Rat → Prop := Paired (Pq H)
theorem Pqs.keep {H H' : Hp} {ps : List Addr} {qs : List Rat} (h : Pqs H ps qs) (s : Same H H') : Pqs H' ps qs := Paired.imp' (fun _ _ z => z.keep s) h
noncomputable def Rw (H : Hp) (a : Addr) (qs : List Rat) : Prop := ∃ ps : List Addr, H a = some (.lst (ps.map V.ref)) ∧ Pqs H ps qs
theorem Rw.keep {H H' : Hp} {a : Addr} {qs : List Rat} (h : Rw H a qs) (s : Same H H') : Rw H' a qs := by
  obtain ⟨ps, h1, h2⟩ := h
  exact ⟨ps, s _ _ h1, h2.keep s⟩
theorem Pqs.get : ∀ {H : Hp} {ps : List Addr} {qs : List Rat} {i : Nat} {q : Rat}, Pqs H ps qs → qs[i]? = some q → ∃ p, (ps.map V.ref)[i]? = some (.ref p) ∧ Pq H p q
  | _, _, _, 0, _, .cons h _, e => by cases e; exact ⟨_, rfl, h⟩
  | _, _, _, _ + 1, _, .cons _ r, e => by
    rw [List.getElem?_cons_succ] at e
    obtain ⟨p, h1, h2⟩ := Pqs.get r e
    exact ⟨p, by rw [List.map_cons, List.getElem?_cons_succ]; exact h1, h2⟩
theorem Pqs.append : ∀ {H : Hp} {ps rs : List Addr} {qs ts : List Rat}, Pqs H ps qs → Pqs H rs ts → Pqs H (ps ++ rs) (qs ++ ts)
  | _, _, _, _, _, .nil, k => k
  | _, _, _, _, _, .cons h r, k => .cons h (Pqs.append r k)
theorem Pqs.length {H : Hp} {ps : List Addr} {qs : List Rat} (h : Pqs H ps qs) : ps.length = qs.length := Paired.length h
theorem Pqs.set : ∀ {H : Hp} {ps : List Addr} {qs : List Rat} (n : Nat) {p : Addr} {q : Rat}, Pqs H ps qs → Pq H p q → Pqs H (ps.set n p) (qs.set n q)
  | _, _, _, _, _, _, .nil, _ => .nil
  | _, _, _, 0, _, _, .cons _ r, k => .cons k r
  | _, _, _, n + 1, _, _, .cons h r, k => .cons h (Pqs.set n r k)
noncomputable def dq (q : Rat) : PyData := .tuple [.int q.num, .int q.den]
noncomputable def dr (qs : List Rat) : PyData := .list (qs.map dq)
theorem Pq.dv {H : Hp} {p : Addr} {q : Rat} (h : Pq H p q) : Dv H (.ref p) (dq q) := .tup h (.cons (.int _) (.cons (.int _) .nil))
theorem Pqs.dv : ∀ {H : Hp} {ps : List Addr} {qs : List Rat}, Pqs H ps qs → DvAll H (ps.map V.ref) (qs.map dq)
  | _, _, _, .nil => .nil
  | _, _, _, .cons h r => .cons h.dv (Pqs.dv r)
theorem Rw.dv {H : Hp} {a : Addr} {qs : List Rat} (h : Rw H a qs) : Dv H (.ref a) (dr qs) := by
  obtain ⟨ps, h1, h2⟩ := h
  exact .lst h1 h2.dv
theorem eqv_dq (p q : Rat) : PyData.eqv (dq p) (dq q) = decide (p = q) := by
  show PyData.eqv (.tuple [.int p.num, .int p.den]) (.tuple [.int q.num, .int q.den]) = _
  simp only [PyData.eqv, PyData.eqvAll, Bool.and_true]
  by_cases h : p = q
  · subst h
    simp
  · rw [decide_eq_false h]
    by_cases h1 : p.num = q.num
    · have h2 : ¬ (p.den : Int) = (q.den : Int) := fun z => h (Rat.ext h1 (by (first | lia | omega)))
      have : ((p.den : Int) == (q.den : Int)) = false := by simpa using h2
      rw [this, Bool.and_false]
    · have : (p.num == q.num) = false := by simpa using h1
      rw [this, Bool.false_and]
theorem eqv_all (ps qs : List Rat) : PyData.eqvAll (ps.map dq) (qs.map dq) = decide (ps = qs) := by
  induction ps generalizing qs with
  | nil => cases qs <;> simp [PyData.eqvAll]
  | cons p ps ih =>
    cases qs with
    | nil => simp [PyData.eqvAll]
    | cons q qs =>
      rw [List.map_cons, List.map_cons, PyData.eqvAll, eqv_dq, ih]
      by_cases h : p = q <;> by_cases k : ps = qs <;> simp [h, k]
theorem eqv_dr (ps qs : List Rat) : PyData.eqv (dr ps) (dr qs) = decide (ps = qs) := by
  show PyData.eqv (.list _) (.list _) = _
  rw [PyData.eqv]
  exact eqv_all ps qs
theorem depth_dq (q : Rat) : (dq q).depth ≤ 2 := by
  show PyData.depth (.tuple [.int q.num, .int q.den]) ≤ 2
  simp [PyData.depth, PyData.depthAll]
theorem depthAll_dq (qs : List Rat) : PyData.depthAll (qs.map dq) ≤ 2 := by
  induction qs with
  | nil => simp [PyData.depthAll]
  | cons q qs ih =>
    rw [List.map_cons, PyData.depthAll]
    exact Nat.max_le.mpr ⟨depth_dq q, ih⟩
theorem depth_dr (qs : List Rat) : (dr qs).depth ≤ 3 := by
  show PyData.depth (.list _) ≤ 3
  rw [PyData.depth]
  have := depthAll_dq qs
  (first | lia | omega)
theorem Rw.updO {H : Hp} {a b : Addr} {xs ys : List V} {qs : List Rat} (h : Rw H b qs) (ha : H a = some (.lst xs)) (n : b ≠ a) : Rw (upd H a (.lst ys)) b qs := by
  obtain ⟨ps, h1, h2⟩ := h
  exact ⟨ps, by rw [upd_ne n]; exact h1, Paired.imp' (fun p q z => by
    have z' : H p = some (.tup [.int q.num, .int q.den]) := z
    show upd H a (.lst ys) p = _
    rw [upd_ne (ne_of z' ha (by intro w; cases w))]
    exact z') h2⟩
theorem Rw.lt {H : Hp} {a : Addr} {qs : List Rat} (h : Rw H a qs) : ∃ xs, H a = some (.lst xs) ∧ xs.length = qs.length := by
  obtain ⟨ps, h1, h2⟩ := h
  exact ⟨_, h1, by rw [List.length_map, h2.length]⟩
theorem Rw.app {H H2 : Hp} {D p : Addr} {qs : List Rat} {q : Rat} (h : Rw H D qs) (s : Same H H2) (kp : Pq H2 p q) :
    ∃ xs, H2 D = some (.lst xs) ∧ xs.length = qs.length ∧ Rw (upd H2 D (.lst (xs ++ [.ref p]))) D (qs ++ [q]) := by
  obtain ⟨ps, h1, h2⟩ := h.keep s
  refine ⟨_, h1, by rw [List.length_map, h2.length], ps ++ [p], by rw [upd_same]; simp, ?_⟩
  have up : ∀ p q, Pq H2 p q → Pq (upd H2 D (.lst (ps.map V.ref ++ [.ref p]))) p q := fun p q z => by
    have z' : H2 p = some (.tup [.int q.num, .int q.den]) := z
    show upd H2 D _ p = _
    rw [upd_ne (ne_of z' h1 (by intro w; cases w))]
    exact z'
  have up2 : ∀ r t, Pq H2 r t → Pq (upd H2 D (.lst (ps.map V.ref ++ [.ref p]))) r t := fun r t z => by
    have z' : H2 r = some (.tup [.int t.num, .int t.den]) := z
    show upd H2 D _ r = _
    rw [upd_ne (ne_of z' h1 (by intro w; cases w))]
    exact z'
  exact Pqs.append (Paired.imp' up2 h2) (.cons (up2 _ _ kp) .nil)
theorem kit_lst_lst (K : PySem.W.Frag) : PySem.W.kitOne K (.type "list") (.type "list") = some true := rfl
theorem eqv_dq_self (q : Rat) : PyData.eqv (dq q) (dq q) = true := by rw [eqv_dq]; simp
theorem eqv_dr_self (qs : List Rat) : PyData.eqv (dr qs) (dr qs) = true := by rw [eqv_dr]; simp
noncomputable def drr (rss : List (List Rat)) : PyData := .list (rss.map dr)
noncomputable def Sx (S : List Addr) (H H' : Hp) : Prop := ∀ b o, b ∉ S → H b = some o → H' b = some o
theorem Rw.copy {H : Hp} {a c : Addr} {qs : List Rat} {xs : List V} (h : Rw H a qs) (e : H a = some (.lst xs)) (n : H c = none) : Rw (upd H c (.lst xs)) c qs := by
  obtain ⟨ps, e1, e2⟩ := h
  rw [e] at e1
  have e3 : xs = ps.map V.ref := by
    have := Option.some.inj e1
    injection this
  exact ⟨ps, by rw [upd_same, e3], e2.keep (same_upd n _)⟩
theorem Rw.there {H : Hp} {a : Addr} {qs : List Rat} (h : Rw H a qs) : ∃ xs, H a = some (.lst xs) ∧ xs.length = qs.length := h.lt
end L3

namespace L3
open PySem PySem.Spec PyProof.Rows L2 Ra
noncomputable def Itv (K : PySem.W.Frag) (a : Addr) (n : Nat) : It :=
  ⟨fun i H => i < n ∧ ∃ xs x, SqL K H a xs ∧ xs[n - 1 - i]? = some x, fun i H x H' => H' = H ∧ ∀ xs, SqL K H a xs → xs[n - 1 - i]? = some x, fun i _ => i = n⟩
noncomputable def iRev (K : PySem.W.Frag) (ta : TA) : TI := fun σ H R => ta σ H fun vs H1 => ∃ a xs, vs = [.ref a] ∧ SqL K H1 a xs ∧ R (Itv K a xs.length) H1
theorem gen_int {i : Nat} {σ : L2.St} {H : Hp} {Q : L2.St → Hp → Prop} {P : Int → Prop} (x : Int) (hx : P x) (h : ∀ y : Int, P y → gName i (.int y) σ H Q) : gName i (.int x) σ H Q := h x hx
noncomputable def tCutS (t : TS) : TS := fun D σ H => ∃ Mid : L2.St → Hp → Prop, (∀ σ' H', Mid σ' H' → D.nx σ' H') ∧ t { D with nx := Mid } σ H
theorem ps_cut {X : Cx} {st : Stmt} {t : TS} (h : PS X st t) : PS X st (tCutS t) := by
  intro pins s σ H D I hw
  obtain ⟨Mid, hm, hw⟩ := hw
  refine thn (h pins s σ H _ I hw) fun f s1 q => ?_
  cases f with
  | next =>
    obtain ⟨σ', H', I', q⟩ := q
    exact ⟨σ', H', I', hm _ _ q⟩
  | ret v => exact q
  | brk => exact q
  | cont => exact q
theorem Pq.updL {H : Hp} {D p : Addr} {xs ys : List V} {q : Rat} (h : H D = some (.lst xs)) (k : Pq H p q) : Pq (upd H D (.lst ys)) p q := by
  unfold Pq Pr
  rw [upd_ne (ne_of k h (by intro z; cases z))]
  exact k
theorem Pqs.updL {H : Hp} {D : Addr} {xs ys : List V} {ps : List Addr} {qs : List Rat} (h : H D = some (.lst xs)) (k : Pqs H ps qs) : Pqs (upd H D (.lst ys)) ps qs := Paired.imp' (fun _ _ z => z.updL h) k
theorem same_updF {H1 H : Hp} {D : Addr} (s : Same H1 H) (hD : H1 D = none) (o : HO) : Same H1 (upd H D o) := fun b u q => by rw [upd_ne (ne_of_none q hD)]; exact s b u q
theorem comp_listQ {K : PySem.W.Frag} {a : Addr} {qs : List Rat} {te : Shared → Hp → Addr → List Addr → TE} {js : List Nat} {σ : L2.St} {H1 : Hp} {Q : VK} (hn : qs.length ≤ 100000) (ha : Rw H1 a qs) (f : Rat → Rat)
    (hs : ∀ s₀ H₀ C ex p q H (R : VK), q ∈ qs → Pq H p q → Same H1 H → (∀ p' H2, Same H H2 → Pq H2 p' (f q) → R (.ref p') H2) → te s₀ H₀ C ex (some (.ref p) :: js.map fun j => (σ[j]?).join) H R)
    (hd : ∀ H D, Same H1 H → H1 D = none → Rw H D (qs.map f) → Q (.ref D) H) : CompAt (Itl K a) te js σ Q H1 := by
  intro D hD
  obtain ⟨rs, hrs, kr⟩ := ha
  have hlr := kr.length
  refine ⟨fun i m ys H => m = qs.length - i ∧ i ≤ qs.length ∧ (∃ ps, ys = ps.map V.ref ∧ Pqs H ps ((qs.take i).map f)) ∧ Same H1 H ∧ H D = some (.lst ys), ⟨qs.length, by simp, Nat.zero_le _, ⟨[], rfl, .nil⟩, same_upd hD _, upd_same⟩, ?_⟩
  rintro i m ys H ⟨rfl, hi, ⟨ps, rfl, hp⟩, sm, hDl⟩
  refine ⟨hDl, ?_⟩
  have hr := sm _ _ hrs
  by_cases hlt : i < qs.length
  · have eq : qs[i]? = some qs[i] := List.getElem?_eq_getElem hlt
    obtain ⟨p0, h0, k0⟩ := (kr.keep sm).get eq
    refine .inr ⟨⟨_, _, SqL.of hr, h0⟩, fun x H' y s₀ H₀ C ex => ?_⟩
    obtain ⟨e, y⟩ := y
    subst e
    have ex' := y _ (SqL.of hr)
    rw [h0] at ex'
    cases ex'
    refine hs s₀ H₀ C ex p0 _ H' _ (List.getElem_mem hlt) k0 sm fun p H2 s2 kp => ?_
    have h2 := s2 _ _ hDl
    have hp2 := hp.keep s2
    have hl := hp.length
    rw [List.length_map, List.length_take] at hl
    have hz : (100000 : Nat) < sizeLine := by decide
    refine ⟨h2, by rw [List.length_map]; (first | lia | omega), qs.length - (i + 1), by (first | lia | omega), rfl, hlt, ⟨ps ++ [p], by simp, ?_⟩, same_updF (sm.trans s2) hD _, upd_same⟩
    rw [List.take_succ, eq, List.map_append]
    exact (hp2.updL h2).append (.cons (kp.updL h2) .nil)
  · have e : i = qs.length := by (first | lia | omega)
    subst e
    rw [List.take_length] at hp
    exact .inl ⟨⟨_, SqL.of hr, by rw [List.length_map]; (first | lia | omega)⟩, hd H D sm hD ⟨ps, hDl, hp⟩⟩
end L3

namespace L3
open PySem PySem.Spec PyProof.Rows L2 Ra
noncomputable def Tq (H : Hp) (r : Addr) (x : Rat × Rat) : Prop := ∃ p q, H r = some (.tup [.ref p, .ref q]) ∧ Pq H p x.1 ∧ Pq H q x.2
noncomputable abbrev Tqs (H : Hp) : List Addr → List (Rat × Rat) → Prop := Paired (Tq H)
noncomputable def Rp (H : Hp) (a : Addr) (qs : List (Rat × Rat)) : Prop := ∃ ps : List Addr, H a = some (.lst (ps.map V.ref)) ∧ Tqs H ps qs
end L3

namespace L3
open PySem PySem.Spec PyProof.Rows L2 Ra
theorem turnedN {X : Cx} {pins : List (Addr × Obj)} {σ : L2.St} {H : Hp} {s : Shared} {h' : Heap} {t' : Nat} (S : List Addr) (I : Inv X pins σ H s) (k : ∀ b o, b ∉ S → s.heap.get? b = some o → h'.get? b = some o) (hS : ∀ b ∈ S, FpOk X pins H b) : Inv X pins σ H { s with heap := h', toks := t' } := by
  have nit : ∀ b u, H b = some u → b ∉ S := fun b u e z => by rw [(hS b z).1] at e; cases e
  refine I.step (g' := s.gens) (d' := s.drawn) (ch := S) (fun b hb => ?_) (fun b o _ _ hc e _ => k b o hc e) (fun b o _ _ hc e _ => ⟨o.slots, k b o hc e⟩) (fun _ _ _ _ n => n)
    (fun b o hc e => ⟨o, k b o hc e⟩) (fun _ _ e => e) (fun _ _ _ e => e) (fun b ps e => ⟨#[], by rw [e]; simp⟩) (fun m hm => ?_) (fun b u e => ?_) I.bare
  · obtain ⟨h0, hL, _, h1, h2, h3⟩ := hS b hb
    exact ⟨h1, hL, h2, h3⟩
  · obtain ⟨o, es, ep, ho, r⟩ := hm
    exact ⟨o, es, ep, k _ o (fun z => (hS _ z).2.1 rfl) ho, r⟩
  · refine (I.hok b u e).stay (fun c v hc q => k c v ?_ q) (fun _ q => q) fun _ _ q => q
    rcases hc with z | z
    · rw [z]; exact nit b u e
    · exact nit c _ z
noncomputable def Itz (K : PySem.W.Frag) (a b : Addr) : It :=
  ⟨fun i H => ∃ xs ys x y, SqL K H a xs ∧ SqL K H b ys ∧ xs[i]? = some x ∧ ys[i]? = some y,
   fun i H v H' => ∃ T x y, v = .ref T ∧ H T = none ∧ H' = upd H T (.tup [x, y]) ∧ (∀ xs, SqL K H a xs → xs[i]? = some x) ∧ ∀ ys, SqL K H b ys → ys[i]? = some y,
   fun i H => ∃ xs ys, SqL K H a xs ∧ SqL K H b ys ∧ (xs.length ≤ i ∨ ys.length ≤ i)⟩
theorem turn_zip {P : Program} {w : World} {K : PySem.W.Frag} {es : List Expr} {k : Nat} {tp : Pos} (a b z TI TO i1 i2 : Addr) (D : ZipApart z TI TO i1 i2 a b) : Turn P w K (.Tuple es k tp) (Itz K a b) [z, TI, TO, i1, i2] z
    (fun i h => IsZip h z TI TO .none ∧ IsPair h TI (.ref i1) (.ref i2) ∧ (∃ u v, IsPair h TO u v) ∧ h.IsListIter i1 a i ∧ h.IsListIter i2 b i) where
  mem := by simp
  obj := fun i h st c hc => by
    obtain ⟨s1, s2, ⟨u, v, s3⟩, ⟨o4, e4, _, d4⟩, ⟨o5, e5, _, d5⟩⟩ := st
    simp only [List.mem_cons, List.not_mem_nil, or_false] at hc
    rcases hc with rfl | rfl | rfl | rfl | rfl
    · exact ⟨_, s1, fun v z => by
        have z' : Data.fields _ = Data.cell v := z
        cases z'⟩
    · exact ⟨_, s2, fun v z => by
        have z' : Data.seq _ _ = Data.cell v := z
        cases z'⟩
    · exact ⟨_, s3, fun v z => by
        have z' : Data.seq _ _ = Data.cell v := z
        cases z'⟩
    · exact ⟨o4, e4, fun v z => by rw [d4] at z; cases z⟩
    · exact ⟨o5, e5, fun v z => by rw [d5] at z; cases z⟩
  keep := fun i h h' st kk => by
    obtain ⟨s1, s2, ⟨u, v, s3⟩, s4, s5⟩ := st
    exact ⟨kk z (by simp) _ s1, kk TI (by simp) _ s2, ⟨u, v, kk TO (by simp) _ s3⟩, s4.at fun o e => kk i1 (by simp) o e, s5.at fun o e => kk i2 (by simp) o e⟩
  item := by
    intro X hP hw hK hc i pins s σ H E I hf st hg
    subst hP hw hK
    obtain ⟨s1, s2, ⟨u0, v0, s3⟩, s4, s5⟩ := st
    obtain ⟨xs, ys, x, y, hqx, hqy, hx, hy⟩ := hg
    obtain ⟨itx, rvx, px, _⟩ := I.list hqx
    obtain ⟨ity, rvy, py, _⟩ := I.list hqy
    obtain ⟨u, hu, ru⟩ := rvx.get hx
    obtain ⟨v, hv, rv⟩ := rvy.get hy
    have ltz : z < s.heap.objs.size := Heap.lt_size s1
    have ltT : TI < s.heap.objs.size := Heap.lt_size s2
    have ltO : TO < s.heap.objs.size := Heap.lt_size s3
    have lt1 : i1 < s.heap.objs.size := by obtain ⟨_, e, _⟩ := s4; exact Heap.lt_size e
    have lt2 : i2 < s.heap.objs.size := by obtain ⟨_, e, _⟩ := s5; exact Heap.lt_size e
    refine wpAny_pyNext_zip_item D s1 s2 s3 s4 s5 px.isList py.isList (x := u) (y := v) (by simpa using hu) (by simpa using hv) fun h1 a1 a2 a3 a4 a5 a6 hk1 => ⟨_, rfl, wpAny_letOwnedTupleGo_zip a1 fun h2 b1 sb2 => ?_⟩
    replace sb2 : Heap.SameBut z h1 h2 := sb2
    have fresh : H s.heap.objs.size = none := I.hok.fresh (Nat.le_refl _)
    have I1 : Inv X pins σ (upd H s.heap.objs.size (.tup [x, y])) { s with heap := s.heap.push { cls := .type "tuple", data := .seq ([u, v] : List Value).toArray }, toks := s.toks } :=
      I.laid (fun b o eb => Heap.get?_push_of_some _ eb) (Nat.le_refl _) (show ObjOk X.prog X.w _ _ _ (.tup _) from ⟨(by show 2 ≤ sizeLine; decide), _, .cons ru (.cons rv .nil), IsTup.new _ _⟩)
    have fo : ∀ b, b < s.heap.objs.size → FpOk X pins H b → FpOk X pins (upd H s.heap.objs.size (.tup [x, y])) b := fun b lb fb => ⟨by rw [upd_ne (Nat.ne_of_lt lb)]; exact fb.1, fb.2⟩
    have hfo : ∀ b ∈ [z, TI, TO, i1, i2], FpOk X pins (upd H s.heap.objs.size (.tup [x, y])) b := fun b hb => by
      refine fo b ?_ (hf b hb)
      simp only [List.mem_cons, List.not_mem_nil, or_false] at hb
      rcases hb with rfl | rfl | rfl | rfl | rfl <;> assumption
    have I2 := turnedN (h' := h2) (t' := s.toks) [z, TI, TO, i1, i2] I1 (fun b o nb eb => ?_) hfo
    · refine ⟨.ref s.heap.objs.size, _, I2, rfl, ⟨_, x, y, rfl, fresh, rfl, fun zs hz => by rw [I.list_inj hz hqx]; exact hx, fun zs hz => by rw [I.list_inj hz hqy]; exact hy⟩, ⟨b1, sb2.extBut _ _ D.TIz (hk1 _ _ D.TIz D.TITO D.TIi1 D.TIi2 s2), ⟨_, _, sb2.extBut _ _ D.TOz a2⟩, a3.extBut sb2.extBut D.i1z, a4.extBut sb2.extBut D.i2z⟩, fun b hb => (hfo b hb).1⟩
    · have n1 : b ≠ z := fun q => nb (by simp [q])
      have n2 : b ≠ TO := fun q => nb (by simp [q])
      have n3 : b ≠ i1 := fun q => nb (by simp [q])
      have n4 : b ≠ i2 := fun q => nb (by simp [q])
      rcases Heap.get?_push_cases eb with ⟨rfl, rfl⟩ | eb
      · exact sb2.extBut _ _ n1 a5
      · exact sb2.extBut _ _ n1 (hk1 b o n1 n2 n3 n4 eb)
  done := by
    intro X hP hw hK hc i pins s σ H E I hf st hg
    subst hP hw hK
    obtain ⟨s1, s2, ⟨u0, v0, s3⟩, s4, s5⟩ := st
    obtain ⟨xs, ys, hqx, hqy, hend⟩ := hg
    obtain ⟨itx, rvx, px, _⟩ := I.list hqx
    obtain ⟨ity, rvy, py, _⟩ := I.list hqy
    have lx := rvx.length
    have ly := rvy.length
    refine wpAny_pyNext_zip_end (I.ok.hd hc) D s1 s2 s3 s4 s5 px.isList py.isList ?_ fun h' hk => ⟨rfl, turnedN (t' := s.toks) [z, TI, TO, i1, i2] I (fun b o nb e => hk b o (fun q => nb (by simp [q])) (fun q => nb (by simp [q])) (fun q => nb (by simp [q])) (fun q => nb (by simp [q])) e) hf⟩
    rcases hend with h | h
    · exact .inl (by simp; (first | lia | omega))
    · exact .inr (by simp; (first | lia | omega))
  self := fun _ _ _ _ _ st h => wpAny_pyIter_zip st.1 h
noncomputable def iZip (K : PySem.W.Frag) (ta : TA) : TI := fun σ H R => ta σ H fun vs H1 => ∃ a b, vs = [.ref a, .ref b] ∧ (∃ xs, SqL K H1 a xs) ∧ (∃ ys, SqL K H1 b ys) ∧ R (Itz K a b) H1
theorem pi_zip {X : Cx} {es : List Expr} {k : Nat} {tp : Pos} {a b : Expr} {ta : TA} {p pos : Pos} (hg : Gl X "zip") (hm : X.mg "zip" = none) (ha : PA X [a, b] ta) (hs : starEach [a, b] X.env = [(false, eval a X.env), (false, eval b X.env)] := by rfl) (hs2 : starEach [b] X.env = [(false, eval b X.env)] := by rfl) :
    PI X (.Tuple es k tp) (.Call (.Name "zip" p) [a, b] [] pos) (iZip X.K ta) := by
  intro pins s σ H R I h
  refine Call_ (ld_blt I hg hm boot_zip (PyProof.Rows.callWith_type1 (thn (ha pos pins s σ H _ I h) fun us s1 ⟨vs, H1, I1, r1, q1⟩ => ?_) (by rw [hs, hs2]) (by rw [hs2]; rfl)))
  obtain ⟨l1, l2, rfl, ⟨xs, hqx⟩, ⟨ys, hqy⟩, q⟩ := q1
  cases r1 with
  | cons r rr =>
    cases rr with
    | cons r' rr =>
      cases rr
      cases r
      cases r'
      obtain ⟨itx, rvx, px, _⟩ := I1.list hqx
      obtain ⟨ity, rvy, py, _⟩ := I1.list hqy
      have a1 : l1 < s1.heap.objs.size := by obtain ⟨_, e, _⟩ := px.isList; exact Heap.lt_size e
      have a2 : l2 < s1.heap.objs.size := by obtain ⟨_, e, _⟩ := py.isList; exact Heap.lt_size e
      refine call_zip_2 px.isList py.isList fun h' hz hTI hTO hi1 hi2 hsz hk => wpAny_pyIter_zip hz ?_
      have I2 : Inv X pins σ H1 { s1 with heap := h' } := I1.kept (t' := s1.toks) hk
      refine ⟨s1.heap.objs.size + 4, [s1.heap.objs.size + 4, s1.heap.objs.size + 2, s1.heap.objs.size + 3, s1.heap.objs.size, s1.heap.objs.size + 1], _, _, H1, rfl, I2, turn_zip l1 l2 _ _ _ _ _ (zipApart_new a1 a2), ⟨hz, hTI, ⟨_, _, hTO⟩, hi1, hi2⟩, fun b hb => ?_, q⟩
      simp only [List.mem_cons, List.not_mem_nil, or_false] at hb
      rcases hb with rfl | rfl | rfl | rfl | rfl
      · exact I1.fpOk (Nat.le_add_right _ 4) (I1.hok.fresh (Nat.le_add_right _ 4))
      · exact I1.fpOk (Nat.le_add_right _ 2) (I1.hok.fresh (Nat.le_add_right _ 2))
      · exact I1.fpOk (Nat.le_add_right _ 3) (I1.hok.fresh (Nat.le_add_right _ 3))
      · exact I1.fpOk (Nat.le_refl _) (I1.hok.fresh (Nat.le_refl _))
      · exact I1.fpOk (Nat.le_add_right _ 1) (I1.hok.fresh (Nat.le_add_right _ 1))
end L3

namespace L3
open PySem PySem.Spec PyProof.Rows L2 Ra Rq
theorem comp_listZ {K : PySem.W.Frag} {a : Addr} {qs : List Rat} {te : Shared → Hp → Addr → List Addr → TE} {js : List Nat} {σ : L2.St} {H1 : Hp} {Q : VK} (hn : qs.length ≤ 100000) (ha : Rw H1 a qs) (f : Rat → Int)
    (hs : ∀ s₀ H₀ C ex p q H (R : VK), q ∈ qs → Pq H p q → Same H1 H → R (.int (f q)) H → te s₀ H₀ C ex (some (.ref p) :: js.map fun j => (σ[j]?).join) H R)
    (hd : ∀ H D, Same H1 H → H1 D = none → H D = some (.lst ((qs.map f).map V.int)) → Q (.ref D) H) : CompAt (Itl K a) te js σ Q H1 := by
  intro D hD
  obtain ⟨rs, hrs, kr⟩ := ha
  have hlr := kr.length
  refine ⟨fun i m ys H => m = qs.length - i ∧ i ≤ qs.length ∧ ys = ((qs.take i).map f).map V.int ∧ Same H1 H ∧ H D = some (.lst ys), ⟨qs.length, by simp, Nat.zero_le _, rfl, same_upd hD _, upd_same⟩, ?_⟩
  rintro i m ys H ⟨rfl, hi, rfl, sm, hDl⟩
  refine ⟨hDl, ?_⟩
  have hr := sm _ _ hrs
  by_cases hlt : i < qs.length
  · have eq : qs[i]? = some qs[i] := List.getElem?_eq_getElem hlt
    obtain ⟨p0, h0, k0⟩ := (kr.keep sm).get eq
    refine .inr ⟨⟨_, _, SqL.of hr, h0⟩, fun x H' y s₀ H₀ C ex => ?_⟩
    obtain ⟨e, y⟩ := y
    subst e
    have ex' := y _ (SqL.of hr)
    rw [h0] at ex'
    cases ex'
    refine hs s₀ H₀ C ex p0 _ H' _ (List.getElem_mem hlt) k0 sm ?_
    have hz : (100000 : Nat) < sizeLine := by decide
    refine ⟨hDl, by rw [List.length_map, List.length_map, List.length_take]; (first | lia | omega), qs.length - (i + 1), by (first | lia | omega), rfl, hlt, ?_, ?_, upd_same⟩
    · rw [List.take_succ, eq, List.map_append, List.map_append]; rfl
    · intro b o e
      rw [upd_ne (ne_of_none e hD)]
      exact sm _ _ e
  · have e : i = qs.length := by (first | lia | omega)
    subst e
    rw [List.take_length] at hDl
    exact .inl ⟨⟨_, SqL.of hr, by rw [List.length_map]; (first | lia | omega)⟩, hd H D sm hD hDl⟩
noncomputable def cnt (p : Nat → Bool) : Nat → Nat
  | 0 => 0
  | n + 1 => cnt p n + if p n then 1 else 0
end L3

namespace L3
open PySem PySem.Spec PyProof.Rows L2 Ra Rq
theorem comp_intsI {K : PySem.W.Frag} {a : Addr} {ns : List Int} {te : Shared → Hp → Addr → List Addr → TE} {js : List Nat} {σ : L2.St} {H1 : Hp} {Q : VK} (hn : ns.length ≤ 100000) (ha : H1 a = some (.lst (ns.map V.int))) (f : Int → Int)
    (hs : ∀ s₀ H₀ C ex x H (R : VK), x ∈ ns → R (.int (f x)) H → te s₀ H₀ C ex (some (.int x) :: js.map fun j => (σ[j]?).join) H R)
    (hd : ∀ H D, Same H1 H → H1 D = none → H D = some (.lst ((ns.map f).map V.int)) → Q (.ref D) H) : CompAt (Itl K a) te js σ Q H1 := by
  intro D hD
  refine ⟨fun i m ys H => m = ns.length - i ∧ i ≤ ns.length ∧ ys = ((ns.take i).map f).map V.int ∧ Same H1 H ∧ H D = some (.lst ys), ⟨ns.length, by simp, Nat.zero_le _, rfl, same_upd hD _, upd_same⟩, ?_⟩
  rintro i m ys H ⟨rfl, hi, rfl, sm, hDl⟩
  refine ⟨hDl, ?_⟩
  have hr := sm _ _ ha
  by_cases hlt : i < ns.length
  · have eq : ns[i]? = some ns[i] := List.getElem?_eq_getElem hlt
    have h0 : (ns.map V.int)[i]? = some (.int ns[i]) := by rw [List.getElem?_map, eq]; rfl
    refine .inr ⟨⟨_, _, SqL.of hr, h0⟩, fun x H' y s₀ H₀ C ex => ?_⟩
    obtain ⟨e, y⟩ := y
    subst e
    have ex' := y _ (SqL.of hr)
    rw [h0] at ex'
    cases ex'
    refine hs s₀ H₀ C ex _ H' _ (List.getElem_mem hlt) ?_
    have hz : (100000 : Nat) < sizeLine := by decide
    refine ⟨hDl, by rw [List.length_map, List.length_map, List.length_take]; (first | lia | omega), ns.length - (i + 1), by (first | lia | omega), rfl, hlt, ?_, ?_, upd_same⟩
    · rw [List.take_succ, eq, List.map_append, List.map_append]; rfl
    · intro b o e
      rw [upd_ne (ne_of_none e hD)]
      exact sm _ _ e
  · have e : i = ns.length := by (first | lia | omega)
    subst e
    rw [List.take_length] at hDl
    exact .inl ⟨⟨_, SqL.of hr, by rw [List.length_map]; (first | lia | omega)⟩, hd H D sm hD hDl⟩
theorem comp_zipI {K : PySem.W.Frag} {a b : Addr} {ns ms : List Int} {tt : Shared → Hp → Addr → List Addr → TT} {te : Shared → Hp → Addr → List Addr → TE} {js : List Nat} {σ : L2.St} {H1 : Hp} {Q : VK} (n : Nat) (hnm : n = min ns.length ms.length) (hn : n ≤ 100000) (ha : H1 a = some (.lst (ns.map V.int))) (hb : H1 b = some (.lst (ms.map V.int))) (f : Int → Int → Int)
    (ht : ∀ s₀ H₀ C ex x y H (R : Bool → Hp → Prop), R true H → tt s₀ H₀ C ex (some (.int x) :: some (.int y) :: js.map fun j => (σ[j]?).join) H R)
    (hs : ∀ s₀ H₀ C ex x y H (R : VK), x ∈ ns → y ∈ ms → R (.int (f x y)) H → te s₀ H₀ C ex (some (.int x) :: some (.int y) :: js.map fun j => (σ[j]?).join) H R)
    (hd : ∀ H D, Same H1 H → H1 D = none → H D = some (.lst (((List.range n).map fun i => f (ns.getD i 0) (ms.getD i 0)).map V.int)) → Q (.ref D) H) : CompAtG (Itz K a b) (gTup K 2 (gCons (gName 0) (gCons (gName 1) gNil))) tt te 2 js σ Q H1 := by
  intro D hD
  refine ⟨fun i m ys H => m = n - i ∧ i ≤ n ∧ ys = ((List.range i).map fun i => f (ns.getD i 0) (ms.getD i 0)).map V.int ∧ Same H1 H ∧ H D = some (.lst ys), ⟨n, by simp, Nat.zero_le _, rfl, same_upd hD _, upd_same⟩, ?_⟩
  rintro i m ys H ⟨rfl, hi, hys, sm, hDl⟩
  refine ⟨hDl, ?_⟩
  have hra := sm _ _ ha
  have hrb := sm _ _ hb
  by_cases hlt : i < n
  · have l1 : i < ns.length := by (first | lia | omega)
    have l2 : i < ms.length := by (first | lia | omega)
    have h1 : (ns.map V.int)[i]? = some (.int ns[i]) := by rw [List.getElem?_map, List.getElem?_eq_getElem l1]; rfl
    have h2 : (ms.map V.int)[i]? = some (.int ms[i]) := by rw [List.getElem?_map, List.getElem?_eq_getElem l2]; rfl
    refine .inr ⟨⟨_, _, _, _, SqL.of hra, SqL.of hrb, h1, h2⟩, ?_⟩
    rintro v H' ⟨T, x, y, rfl, hT, rfl, ex, ey⟩ s₀ H₀ C ex0 σ0 hσ
    have ex' := ex _ (SqL.of hra)
    have ey' := ey _ (SqL.of hrb)
    rw [h1] at ex'
    rw [h2] at ey'
    cases ex'
    cases ey'
    obtain ⟨v1, v2, rfl⟩ : ∃ v1 v2, σ0 = [v1, v2] := by
      match σ0, hσ with
      | [v1, v2], _ => exact ⟨v1, v2, rfl⟩
    have u := same_upd hT (.tup [.int ns[i], .int ms[i]])
    refine ⟨T, _, rfl, SqT.of upd_same, rfl, _, _, rfl, _, _, rfl, rfl, ⟨[some (.int ns[i]), some (.int ms[i])], rfl, rfl⟩, ?_⟩
    refine ht s₀ H₀ C ex0 ns[i] ms[i] _ _ ?_
    rw [if_pos rfl]
    have hz : (100000 : Nat) < sizeLine := by decide
    have g1 : ns.getD i 0 = ns[i] := by rw [List.getD_eq_getElem?_getD, List.getElem?_eq_getElem l1]; rfl
    have g2 : ms.getD i 0 = ms[i] := by rw [List.getD_eq_getElem?_getD, List.getElem?_eq_getElem l2]; rfl
    have hDl' := u _ _ hDl
    have ly : ys.length = i := by rw [hys, List.length_map, List.length_map, List.length_range]
    refine hs s₀ H₀ C ex0 ns[i] ms[i] _ _ (List.getElem_mem l1) (List.getElem_mem l2) ⟨hDl', by (first | lia | omega), n - (i + 1), by (first | lia | omega), rfl, hlt, ?_, same_updF (sm.trans u) hD _, upd_same⟩
    rw [hys, List.range_succ, List.map_append, List.map_append, List.map_singleton, List.map_singleton, g1, g2]
  · have e : i = n := by (first | lia | omega)
    subst e
    subst hys
    exact .inl ⟨⟨_, _, SqL.of hra, SqL.of hrb, by rw [List.length_map, List.length_map]; (first | lia | omega)⟩, hd H D sm hD hDl⟩
end L3

namespace L3
open PySem PySem.Spec PyProof.Rows L2 Ra
end L3

namespace L3
open PySem PySem.W PySem.Calls PySem.Spec PyProof.Rows L2 Ra
end L3

namespace L3
open PySem PySem.Spec PyProof.Rows L2 Ra
structure CalM (P : Program) (w : World) (K : PySem.W.Frag) (mg : Str → Option Value) (base : Heap) (C : Addr) (m : Str) (k : Nat) (ps : List Str) (sp : Sp) : Prop where
  ex : ∃ f fd, FnOk P w K mg base CX0 k f fd ps sp ∧ Binds K fd ps [] ∧ Meth K C m f ∧ Cls K C
structure CalC (P : Program) (w : World) (K : PySem.W.Frag) (mg : Str → Option Value) (base : Heap) (x : Str) (C : Addr) (k : Nat) (ps : List Str) (sp : Sp) : Prop where
  ex : ∃ f fd, FnOk P w K mg base CX0 k f fd ps sp ∧ Binds K fd ps [] ∧ Mk K C f ∧ mg x = some (.ref C)
section
variable {X : Cx} {C : Addr} {m x : Str} {k j : Nat} {ps : List Str} {sp : Sp} {o e : Expr} {es : List Expr} {ta : TE} {t : TA} {p apos pos : Pos} {pl : Sem Bool}
theorem pe_mk (Cc : CalC X.prog X.w X.K X.mg X.base x C k ps sp) (hr : Room j X.A) (ha : PA X (e :: es) t) (hkj : k + 1 ≤ j := by decide) (hg : Gl X x := by rfl)
    (hdb : (x == ("__debug__" : Str)) = false := by decide) (he : starEach (e :: es) X.env = (false, eval e X.env) :: starEach es X.env := by rfl) (hpl : (backTo pos (starEach es X.env)).any (·.1) = false := by rfl) :
    PE X (.Call (.Name x p) (e :: es) [] pos) (tMake C sp [] E0 t) := by
  obtain ⟨f, fd, F, b, M, hm⟩ := Cc.ex
  exact pe_make M F (hr.mono hkj) hg hm b .nil pass0 ha hdb he hpl
end
structure CalD (P : Program) (w : World) (K : PySem.W.Frag) (mg : Str → Option Value) (base : Heap) (x : Str) (k : Nat) (ps : List Str) (ds : List Value) (dvs : List V) (sp : Sp) : Prop where
  ex : ∃ f fd, FnOk P w K mg base CX0 k f fd ps sp ∧ Binds K fd ps ds ∧ PySem.W.keepIn K (.ref f) = true ∧ mg x = some (.ref f)
  dv : Vals dvs ds
theorem pe_clD {X : Cx} {x : Str} {k j : Nat} {ps : List Str} {ds : List Value} {dvs : List V} {sp : Sp} {e : Expr} {es : List Expr} {t : TA} {p pos : Pos} (C : CalD X.prog X.w X.K X.mg X.base x k ps ds dvs sp) (hr : Room j X.A) (ha : PA X (e :: es) t) (hkj : k ≤ j := by decide) (hg : Gl X x := by rfl)
    (hdb : (x == ("__debug__" : Str)) = false := by decide) (he : starEach (e :: es) X.env = (false, eval e X.env) :: starEach es X.env := by rfl) (hpl : (backTo pos (starEach es X.env)).any (·.1) = false := by rfl) :
    PE X (.Call (.Name x p) (e :: es) [] pos) (tCall sp dvs E0 t) := by
  obtain ⟨f, fd, F, b, kp, m⟩ := C.ex
  exact pe_call F (hr.mono hkj) hg m kp b C.dv pass0 ha hdb he hpl
structure CalK (P : Program) (w : World) (K : PySem.W.Frag) (mg : Str → Option Value) (base : Heap) (x : Str) (k : Nat) (ps ks : List Str) (gV : List V → List V → List V) (sp : Sp) : Prop where
  ex : ∃ f fd g, FnOk P w K mg base CX0 k f fd ps sp ∧ KBinds K fd ps ks g gV ∧ PySem.W.keepIn K (.ref f) = true ∧ mg x = some (.ref f)
noncomputable abbrev FunD (K : PySem.W.Frag) (x qual : Str) (st : Stmt) (dV : Value) (f : Addr) (fd : FuncData) : Prop := ∃ (oc : Value) (od : Option Addr) (kV doc pm : Value) (an : Option Addr) (cdv ct : Value) (osl : Array (Option Value)),
      fd = PySem.W.fnOf x qual (defArgs st) (defBody st) (defScope st) dV kV doc pm an cdv ct ∧ K.lookup f = some ⟨oc, od, .func fd, osl⟩ ∧ PySem.W.codeIn K cdv qual = true
theorem okD {P : Program} {w : World} {K : PySem.W.Frag} {mg : Str → Option Value} {base : Heap} {x qual : Str} {st : Stmt} {f : Addr} {fd : FuncData} {N ps : List Str} {k : Nat} {sp : Sp} {dV : Value} (F : FunD K x qual st dV f fd)
    (S : FnScope N ps (defScope st)) (len : ∀ vs H Q E, sp vs H Q E → vs.length = ps.length)
    (hbody : ∀ (cdv : Value) (A : Around) (outer : List Env) (s : Shared) (H : Hp) (vs : List V) (Q : VK) (E : XK), Room k (A.deeper (envOfC qual (defScope st) s.heap.objs.size f cdv)) → sp vs H Q E →
      ∃ t, PSs (cxOf CX0 P w K mg base N qual (defScope st) f cdv A outer s H E).nox (defBody st) t ∧ t { nx := fun _ H' => Q .non H', rt := Q } (start N vs) H) : FnOk P w K mg base CX0 (k + 1) f fd ps sp := by
  obtain ⟨oc, od, kV, doc, pm, an, cdv, ct, osl, rfl, lk, hcd⟩ := F
  refine fn_of lk hcd S len fun A outer s H vs Q E hr hsp => ?_
  obtain ⟨t, h, q⟩ := hbody cdv A outer s H vs Q E hr hsp
  exact ⟨t, h.nox, q⟩
noncomputable def tRevS (K : PySem.W.Frag) (te ts : TE) : TE := fun σ H Q => te σ H fun x H1 => ts σ H1 fun y H2 => ∃ a xs, x = .ref a ∧ y = .int (-1) ∧ SqL K H2 a xs ∧ ∀ p, H2 p = none → Q (.ref p) (upd H2 p (.lst xs.reverse))
end L3

namespace L3
open PySem PySem.Spec PyProof.Rows L2 Ra
theorem pe_globI {X : Cx} {x : Str} {n : Int} {pos : Pos} (hg : Gl X x) (hm : ∃ t, X.mg x = some (.int n t)) (hd : (x == ("__debug__" : Str)) = false := by decide) : PE X (.Name x pos) (tC (.int n)) := by
  obtain ⟨t, hm⟩ := hm
  exact pe_glob hg hm ⟨t, rfl⟩ hd
theorem call_all {X : Cx} (hc : X.calm = true) : CallR X (.builtin "all") (fun xs H Q => ∃ p bs, xs = [.ref p] ∧ SqL X.K H p (List.map V.bl bs) ∧ Q (.bl (bs.all id)) H) := by
  intro pins s σ H xs us Q I r h
  obtain ⟨p, bs, rfl, hq, q⟩ := h
  obtain ⟨u, rfl, rx⟩ := vals1 r
  cases rx
  obtain ⟨its, rv, pl, hz⟩ := I.list hq
  have hlen := rv.length
  rw [List.length_map] at hlen
  have lt : p < s.heap.objs.size := by
    obtain ⟨o, ho, _⟩ := pl.isList
    exact Heap.lt_size ho
  refine call_all_walk (wpAny_pyIter_list pl.isList ?_)
  refine ⟨s.heap.objs.size, _, _, _, _, _, (fun i => (bs[i]?).getD true), rfl, Walks.list (A := X.A.in1) (I.ok.hd hc) _ p (Nat.ne_of_lt lt) its.toArray, ?st, ?tr, fun h' tk hk => ?_⟩
  case st => exact ⟨⟨_, Heap.get?_push_size _ rfl, rfl, rfl⟩, pl.isList.at fun o e => Heap.get?_push_of_some _ e⟩
  case tr =>
    intro i v s1 Q1 E1 hv q1
    have hv' : its[i]? = some v := by simpa using hv
    have hi : i < bs.length := by
      have := (List.getElem?_eq_some_iff.mp hv').1
      (first | lia | omega)
    have eb : bs[i]? = some bs[i] := List.getElem?_eq_getElem hi
    obtain ⟨u, hu, ru⟩ := rv.get (i := i) (x := .bl bs[i]) (by rw [List.getElem?_map, eb]; rfl)
    rw [hv'] at hu
    cases hu
    cases ru
    have q2 : Q1 ((bs[i]?).getD true) s1 := q1
    rw [eb] at q2
    exact wpAny_truthy_bool q2
  · have e : (List.range its.toArray.size).all (fun i => (bs[i]?).getD true) = bs.all id := by
      rw [List.size_toArray, ← hlen, Bool.eq_iff_iff, List.all_eq_true, List.all_eq_true]
      constructor
      · intro hh b hb
        obtain ⟨i, hi, rfl⟩ := List.getElem_of_mem hb
        have := hh i (List.mem_range.mpr hi)
        rw [List.getElem?_eq_getElem hi] at this
        exact this
      · intro hh i hi
        have hi' := List.mem_range.mp hi
        rw [List.getElem?_eq_getElem hi']
        exact hh _ (List.getElem_mem hi')
    rw [e]
    refine ⟨.bl (bs.all id), H, ?_, rfl, q⟩
    exact I.kept (h' := h') (t' := tk) fun b o eb => hk b o (by
      simp
      exact Nat.ne_of_lt (Heap.lt_size eb)) (Heap.get?_push_of_some _ eb)
theorem comp_listB {K : PySem.W.Frag} {a : Addr} {xs : List V} {te : Shared → Hp → Addr → List Addr → TE} {js : List Nat} {σ : L2.St} {H1 : Hp} {Q : VK} (hn : xs.length ≤ 100000) (ha : H1 a = some (.lst xs)) (f : V → Bool)
    (hs : ∀ s₀ H₀ C ex x H (R : VK), x ∈ xs → Same H1 H → (∀ H2, Same H H2 → R (.bl (f x)) H2) → te s₀ H₀ C ex (some x :: js.map fun j => (σ[j]?).join) H R)
    (hd : ∀ H D, Same H1 H → H1 D = none → H D = some (.lst ((xs.map f).map V.bl)) → Q (.ref D) H) : CompAt (Itl K a) te js σ Q H1 := by
  intro D hD
  refine ⟨fun i m ys H => m = xs.length - i ∧ i ≤ xs.length ∧ ys = ((xs.take i).map f).map V.bl ∧ Same H1 H ∧ H D = some (.lst ys), ⟨xs.length, by simp, Nat.zero_le _, rfl, same_upd hD _, upd_same⟩, ?_⟩
  rintro i m ys H ⟨rfl, hi, rfl, sm, hDl⟩
  refine ⟨hDl, ?_⟩
  have hr := sm _ _ ha
  by_cases hlt : i < xs.length
  · have eq : xs[i]? = some xs[i] := List.getElem?_eq_getElem hlt
    refine .inr ⟨⟨_, _, SqL.of hr, eq⟩, fun x H' y s₀ H₀ C ex => ?_⟩
    obtain ⟨e, y⟩ := y
    subst e
    have ex' := y _ (SqL.of hr)
    rw [eq] at ex'
    cases ex'
    refine hs s₀ H₀ C ex _ H' _ (List.getElem_mem hlt) sm fun H2 s2 => ?_
    have h2 := s2 _ _ hDl
    have hz : (100000 : Nat) < sizeLine := by decide
    refine ⟨h2, by rw [List.length_map, List.length_map, List.length_take]; (first | lia | omega), xs.length - (i + 1), by (first | lia | omega), rfl, hlt, ?_, ?_, upd_same⟩
    · rw [List.take_succ, eq, List.map_append, List.map_append]; rfl
    · intro b o e
      rw [upd_ne (ne_of_none e hD)]
      exact s2 _ _ (sm _ _ e)
  · have e : i = xs.length := by (first | lia | omega)
    subst e
    rw [List.take_length] at hDl
    exact .inl ⟨⟨_, SqL.of hr, Nat.le_refl _⟩, hd H D sm hD hDl⟩
structure PEw (X : Cx) (e : Expr) (te : TE) : Prop where
  h : PE X e te
structure PAw (X : Cx) (es : List Expr) (t : TA) : Prop where
  h : PA X es t
section
variable {X : Cx} {es xs : List Expr} {e e2 : Expr} {p p2 : Pos} {te te2 : TE} {t : TA} {k : Nat}
theorem w_int {i : Int} : PEw X (.Constant (.int i) k p) (tC (.int i)) := ⟨pe_int⟩
theorem w_neg (h : PEw X e te) : PEw X (.UnaryOp .USub e p) (tUn (rU fun i => .int (-i)) te) := ⟨pe_un un_neg h.h⟩
theorem w_lst (h : PAw X es t) : PEw X (.List es p) (tLst t) := ⟨pe_lst h.h⟩
theorem aw_nil : PAw X [] tNil := ⟨pa_nil⟩
theorem aw_con {c} (ha : PEw X (.Constant c k p) te) (hr : PAw X es t) : PAw X (.Constant c k p :: es) (tCons te t) := ⟨pa_cons ha.h hr.h rfl⟩
theorem aw_un {o} (ha : PEw X (.UnaryOp o e p) te) (hr : PAw X es t) : PAw X (.UnaryOp o e p :: es) (tCons te t) := ⟨pa_cons ha.h hr.h rfl⟩
end
structure PSw (X : Cx) (st : Stmt) (t : TS) : Prop where
  h : PS X st t
structure PSsw (X : Cx) (ss : List Stmt) (t : TS) : Prop where
  h : PSs X ss t
section
variable {X : Cx} {a b e : Expr} {pos pos' : Pos} {ta tb te : TE} {st : Stmt} {ss : List Stmt} {t u : TS}
end
end L3


namespace L3
open PySem PySem.Spec PyProof.Rows L2 Ra
section
variable {prog : Program} {w : World} {A : Around} {E : Value → Shared → Prop} {s : Shared}
end
noncomputable def Ite (K : PySem.W.Frag) (a : Addr) (c : Int) : It :=
  ⟨fun i H => ∃ xs x, SqL K H a xs ∧ xs[i]? = some x, fun i H v H' => ∃ T x, v = .ref T ∧ H T = none ∧ H' = upd H T (.tup [.int (c + i), x]) ∧ ∀ xs, SqL K H a xs → xs[i]? = some x, fun i H => ∃ xs, SqL K H a xs ∧ xs.length ≤ i⟩
noncomputable def iEnum (K : PySem.W.Frag) (ta : TA) : TI := fun σ H R => ta σ H fun vs H1 => ∃ a, vs = [.ref a] ∧ (∃ xs, SqL K H1 a xs) ∧ R (Ite K a 0) H1
end L3

namespace L3
open PySem PySem.Spec PyProof.Rows L2 Ra
section
variable {prog : Program} {w : World} {A : Around} {E : Value → Shared → Prop} {s : Shared}
theorem lri_no_len : typeLookup (.type "list_reverseiterator") "__len__" = pure none := by rw [typeLookup_type, builtinLookup_eq_fast]; kernel_rfl
theorem lri_hint : typeLookup (.type "list_reverseiterator") "__length_hint__" = pure (some (.builtin "list_reverseiterator.__length_hint__")) := by rw [typeLookup_type, builtinLookup_eq_fast]; kernel_rfl
theorem hint_rev {r l : Addr} {i : Int} {Q : Bool → Shared → Prop} (hr : s.heap.IsRevIter r l i) (h : Q false s) : wpAny (model prog w) A (Builtin.List.listLengthHint (.ref r)) Q E s := by
  unfold Builtin.List.listLengthHint
  refine wpAny_bind (wpAny_specialOf hr.typeIs lri_no_len ?_)
  refine wpAny_ite_split (fun z => absurd z (by decide)) (fun _ => ?_)
  refine wpAny_ite_split (fun z => absurd z (by decide)) (fun _ => ?_)
  refine wpAny_bind (wpAny_specialOf hr.typeIs lri_hint ?_)
  generalize hid : ("list_reverseiterator.__length_hint__" : String) = id0
  wp_delta
  rw [show splitId id0 = some ("list_reverseiterator", "__length_hint__") from by subst hid; decide +kernel]
  subst hid
  refine wpAny_bind (wpAny_isInstance (T := "list_reverseiterator") (b := true) hr.typeIs (by rw [isSubtype_type]; kernel_rfl) ?_)
  refine wpAny_ite_split (fun z => absurd z (by decide)) (fun _ => ?_)
  refine wpAny_ite_split (fun _ => ?_) (fun z => absurd (by decide +kernel) z)
  refine wpAny_ite_split (fun z => absurd z (by decide)) (fun _ => ?_)
  exact wpAny_pure h
theorem call_list_rev {l r : Addr} {items : Array Value} {Q : Value → Shared → Prop} (hh : A.handled = none) (hr : s.heap.IsRevIter r l ((items.size : Int) - 1)) (hl : s.heap.IsList l items) (ne : l ≠ r) (hz : items.size ≤ sizeLine)
    (q : ∀ h' tk acc c, (∀ b o, b ≠ r → s.heap.get? b = some o → h'.get? b = some o) → h'.get? s.heap.objs.size = some { cls := .type "list", dict := none, data := .seq acc c, slots := #[] } → ItemsOf (fun i v => items[items.size - 1 - i]? = some v) acc items.size → Q (.ref s.heap.objs.size) { s with heap := h', toks := tk }) :
    wpAny (model prog w) A (call (.type "list") [.ref r]) Q E s := by
  obtain ⟨orr, er, erc, erd⟩ := id hr
  have ltr : r < s.heap.objs.size := Heap.lt_size er
  obtain ⟨ol, el, _⟩ := id hl
  have ltl : l < s.heap.objs.size := Heap.lt_size el
  refine callType_codes (Q₁ := fun ob k => ob = .ref s.heap.objs.size ∧ k = { s with heap := s.heap.push { cls := .type "list", data := .seq #[] } }) F.called_list (F.typeCall_list_1 _) F.entry_list_init (code_list_new _ ⟨rfl, rfl⟩) fun ob k hk => ?_
  obtain ⟨rfl, rfl⟩ := hk
  have e0 : (s.heap.push { cls := .type "list", data := .seq #[] }).get? s.heap.objs.size = some { cls := .type "list", data := .seq #[] } := Heap.get?_push_size _ rfl
  refine ⟨⟨_, e0, rfl⟩, F.args_list_init_2 _ _, ?_⟩
  show wpAny (model prog w) A.in1.in1 (do let old ← Builtin.List.listItems (.ref s.heap.objs.size); Builtin.List.listUpdate (.ref s.heap.objs.size) (fun _ => #[]); letGo old.toList.reverse; Builtin.List.listExtendWith (.ref s.heap.objs.size) (.ref r) .none) _ _ _
  refine wpAny_bind ?_
  unfold Builtin.List.listItems
  refine wpAny_bind (wpAny_seqItems e0 rfl (wpAny_pure ?_))
  show wpAny (model prog w) A.in1.in1 (updateSeq s.heap.objs.size (fun _ => #[]) >>= fun _ => letGo (#[] : Array Value).toList.reverse >>= fun _ => Builtin.List.listExtendWith (.ref s.heap.objs.size) (.ref r) .none) _ _ _
  refine wpAny_bind (wpAny_updateSeq e0 rfl (wpAny_bind (wpAny_letGo ?_)))
  have e1 := Heap.get?_update_self (Obj.mapSeq (fun _ => (#[] : Array Value))) e0 rfl
  have up : ∀ b o, s.heap.get? b = some o → ((s.heap.push { cls := .type "list", data := .seq #[] }).update s.heap.objs.size (Obj.mapSeq (fun _ => (#[] : Array Value)))).get? b = some o := fun b o e => (Heap.get?_update_other _ _ (Nat.ne_of_gt (Heap.lt_size e))).trans (Heap.get?_push_of_some _ e)
  have hr1 := hr.at fun o e => up r o e
  have hl1 := hl.at fun o e => up l o e
  generalize hk1 : (s.heap.push { cls := .type "list", data := .seq #[] }).update s.heap.objs.size (Obj.mapSeq (fun _ => (#[] : Array Value))) = k1 at *
  unfold Builtin.List.listExtendWith
  refine wpAny_bind (wpAny_typeOf (T := "list_reverseiterator") hr1.typeIs ?_)
  have c1 : Builtin.List.listSameRef (.ref s.heap.objs.size) (.ref r) = false := by simp [Builtin.List.listSameRef]; exact Nat.ne_of_gt ltr
  have c2 : (Value.type "list_reverseiterator" == Value.type "list") = false := by decide
  have c3 : (Value.type "list_reverseiterator" == Value.type "tuple") = false := by decide
  simp only [c1, c2, c3, Bool.or_false, Bool.false_eq_true, if_false]
  refine wpAny_bind (wpAny_pyIter_revIter hr1 (wpAny_bind (wpAny_holding (hint_rev hr1 ?_))))
  refine wpAny_ite_split (fun z => absurd z (by decide +kernel)) (fun _ => ?_)
  have W := (Walks.listRev (prog := prog) (w := w) (A := A.in1.in1) hh r l ne items).toS
  refine wpAny_pure ⟨plainId_quiet F.plain_extend_loop _, codeAny_extend_loopS W hz s.heap.objs.size (by simp; exact ⟨Nat.ne_of_gt ltr, Nat.ne_of_gt ltl⟩) .none items.size 0 _ #[] _ rfl (Nat.zero_le _) ⟨Nat.zero_le _, by simpa using hr1, hl1⟩ e1 (ItemsOf.nil _) fun s' acc c hm e2 hacc => ?_⟩
  rw [Moved.eq_with hm]
  refine ⟨rfl, q s'.heap s'.toks acc c (fun b o nb e => hm.heap b o ?_ (up b o e)) e2 hacc⟩
  simp [nb]
  exact Nat.ne_of_lt (Heap.lt_size e)
end
noncomputable def tListRev (K : PySem.W.Frag) (ta : TA) : TE := fun σ H Q => ta σ H fun vs H1 => ∃ a xs, vs = [.ref a] ∧ SqL K H1 a xs ∧ ∀ p, H1 p = none → Q (.ref p) (upd H1 p (.lst xs.reverse))
theorem pe_listrev {X : Cx} {a : Expr} {ta : TA} {p p2 pos pos2 : Pos} (hg1 : Gl X "list") (hm1 : X.mg "list" = none) (hg2 : Gl X "reversed") (hm2 : X.mg "reversed" = none) (ha : PA X [a] ta) (hc : X.calm = true := by rfl)
    (hs : starEach [a] X.env = [(false, eval a X.env)] := by rfl) (hs2 : starEach [.Call (.Name "reversed" p2) [a] [] pos2] X.env = [(false, eval (.Call (.Name "reversed" p2) [a] [] pos2) X.env)] := by rfl) :
    PE X (.Call (.Name "list" p) [.Call (.Name "reversed" p2) [a] [] pos2] [] pos) (tListRev X.K ta) := by
  intro pins s σ H Q I h
  refine Call_name1 hs2 (ld_blt I hg1 hm1 boot_list (PySem.callWith_type1 ?_))
  refine Call_ (ld_blt I hg2 hm2 boot_reversed (PyProof.Rows.callWith_type1 (thn (ha pos2 pins s σ H _ I h) fun us s1 ⟨vs, H1, I1, r1, q1⟩ => ?_) hs rfl))
  obtain ⟨l, xs, rfl, hq, q⟩ := q1
  cases r1 with
  | cons r rr =>
    cases rr
    cases r
    obtain ⟨its, rv, pl, hz⟩ := I1.list hq
    have hlen := rv.length
    refine call_reversed_list pl.isList ?_
    have ltl : l < s1.heap.objs.size := by
      obtain ⟨o, ho, _⟩ := pl.isList
      exact Heap.lt_size ho
    have hl2 := pl.isList.at (h' := s1.heap.push (revObj l ((its.toArray.size : Int) - 1))) fun o e => Heap.get?_push_of_some _ e
    refine call_list_rev (I1.ok.hd hc) ⟨_, Heap.get?_push_size _ rfl, rfl, rfl⟩ hl2 (Nat.ne_of_lt ltl) (by rw [List.size_toArray]; (first | lia | omega)) fun h' tk acc c hk e2 hacc => ?_
    have e3 : (s1.heap.push (revObj l ((its.toArray.size : Int) - 1))).objs.size = s1.heap.objs.size + 1 := Heap.size_push ..
    have ea : acc = its.reverse.toArray := by
      apply Array.ext'
      apply List.ext_getElem?
      intro i
      rw [List.toList_toArray]
      by_cases hi : i < its.length
      · have hs : acc.size = its.length := by rw [hacc.1, List.size_toArray]
        have hi2 : i < acc.size := by (first | lia | omega)
        have e4 := hacc.2 i _ (Array.getElem?_eq_getElem hi2)
        rw [List.getElem?_reverse hi, Array.getElem?_toList, Array.getElem?_eq_getElem hi2, ← e4]
        simp
      · have hs : acc.size = its.length := by rw [hacc.1, List.size_toArray]
        rw [List.getElem?_eq_none (by rw [Array.length_toList]; (first | lia | omega)), List.getElem?_eq_none (by rw [List.length_reverse]; (first | lia | omega))]
    rw [e3] at e2 ⊢
    subst ea
    refine ⟨.ref (s1.heap.objs.size + 1), _, I1.laid (h' := h') (t' := tk) (o := .lst xs.reverse) (fun b o e => hk b o (Nat.ne_of_lt (Heap.lt_size e)) (Heap.get?_push_of_some _ e)) (Nat.le_succ _) ?_, rfl, q _ (I1.hok.fresh (Nat.le_succ _))⟩
    exact ⟨by rw [List.length_reverse]; exact hz, _, c, rv.reverse, e2⟩
end L3

namespace L3
open PySem PySem.Spec L2 Ra PyProof.Rows
noncomputable def ev2 {α : Type} : List α → List α
  | [] => []
  | [x] => [x]
  | x :: _ :: l => x :: ev2 l
theorem ev2_length {α : Type} : ∀ l : List α, (ev2 l).length = (l.length + 1) / 2
  | [] => by simp [ev2]
  | [_] => by simp [ev2]
  | x :: y :: l => by
    show (ev2 l).length + 1 = (l.length + 1 + 1 + 1) / 2
    rw [ev2_length l]
    (first | lia | omega)
theorem ev2_pick {α : Type} : ∀ l : List α, (List.range ((l.length + 1) / 2)).filterMap (fun k => l[2 * k]?) = ev2 l
  | [] => by simp [ev2]
  | [_] => by simp [ev2, List.range_succ]
  | x :: y :: l => by
    rw [show ((x :: y :: l).length + 1) / 2 = (l.length + 1) / 2 + 1 by simp only [List.length_cons]; (first | lia | omega), List.range_succ_eq_map, List.filterMap_cons]
    show x :: List.filterMap (fun k => (x :: y :: l)[2 * k]?) (List.map Nat.succ (List.range ((l.length + 1) / 2))) = x :: ev2 l
    rw [List.filterMap_map]
    refine congrArg (x :: ·) ?_
    rw [← ev2_pick l]
    rfl
theorem fm_congr2 {α β : Type} {f h : α → Option β} : ∀ {l : List α}, (∀ x ∈ l, f x = h x) → l.filterMap f = l.filterMap h
  | [], _ => rfl
  | x :: l, e => by
    rw [List.filterMap_cons, List.filterMap_cons, e x List.mem_cons_self, fm_congr2 fun y hy => e y (List.mem_cons_of_mem _ hy)]
noncomputable def Begun (lo : Option Int) (n : Nat) : Prop := (lo = none ∧ n = 0) ∨ lo = some (n : Int)
theorem pick_two (its : List Value) {lo : Option Int} {n : Nat} (h : Begun lo n) : slicePick its.toArray lo none (some 2) = (ev2 (its.drop n)).toArray := by
  unfold slicePick
  congr 1
  obtain ⟨m, hm⟩ : ∃ m, m = min n its.length := ⟨_, rfl⟩
  have eb : sliceBounds lo none (some 2) its.toArray.size = ((m : Int), (its.length : Int), 2) := by
    rw [List.size_toArray]
    rcases h with ⟨rfl, rfl⟩ | rfl
    · rw [hm, Nat.zero_min]; rfl
    · simp only [sliceBounds, Option.getD_some, show (2 : Int) > 0 by decide, if_true]
      refine Prod.ext ?_ rfl
      show max 0 (min (if (n : Int) < 0 then (n : Int) + (its.length : Int) else (n : Int)) (its.length : Int)) = (m : Int)
      rw [if_neg (by (first | lia | omega))]
      (first | lia | omega)
  rw [eb]
  have er : sliceRange (m : Int) (its.length : Int) 2 = (List.range (((its.drop n).length + 1) / 2)).map fun k => m + 2 * k := by
    unfold sliceRange
    have hc : (if (2 : Int) > 0 then (if (m : Int) < (its.length : Int) then ((its.length : Int) - (m : Int) + 2 - 1) / 2 else 0) else (if (m : Int) > (its.length : Int) then ((m : Int) - (its.length : Int) - 2 - 1) / (-2) else 0)).toNat = ((its.drop n).length + 1) / 2 := by
      rw [if_pos (by decide), List.length_drop]
      by_cases h : (m : Int) < (its.length : Int)
      · rw [if_pos h]; (first | lia | omega)
      · rw [if_neg h]; (first | lia | omega)
    show (List.range (if (2 : Int) > 0 then _ else _ : Int).toNat).map _ = _
    rw [hc]
    exact List.map_congr_left fun k _ => by (first | lia | omega)
  show List.filterMap _ (sliceRange (m : Int) (its.length : Int) 2) = ev2 (its.drop n)
  rw [er, List.filterMap_map, ← ev2_pick]
  refine fm_congr2 fun k hk => ?_
  have hk' := List.mem_range.mp hk
  rw [List.length_drop] at hk'
  show its.toArray[m + 2 * k]? = (its.drop n)[2 * k]?
  rw [List.getElem?_toArray, List.getElem?_drop, show m = n by (first | lia | omega)]
theorem vals_ev2 : ∀ {xs : List V} {us : List Value}, Vals xs us → Vals (ev2 xs) (ev2 us)
  | _, _, .nil => .nil
  | _, _, .cons a .nil => .cons a .nil
  | _, _, .cons a (.cons _ r) => .cons a (vals_ev2 r)
noncomputable def tStep2 (K : PySem.W.Frag) (te : TE) (tl : TO) (ts : TE) : TE := fun σ H Q => te σ H fun x H1 => tl σ H1 fun l H2 => ts σ H2 fun y H3 => ∃ a xs n, x = .ref a ∧ y = .int 2 ∧ Begun l n ∧ SqL K H3 a xs ∧ ∀ p, H3 p = none → Q (.ref p) (upd H3 p (.lst (ev2 (xs.drop n))))
theorem pe_step2 {X : Cx} {e st : Expr} {lo : Option Expr} {te ts : TE} {tl : TO} {p2 pos : Pos} (he : PE X e te) (hl : PO X lo tl) (hs : PE X st ts) : PE X (.Subscript e (.Slice lo none (some st) p2) pos) (tStep2 X.K te tl ts) := by
  intro pins s σ H Q I h
  refine Subscript_ (thn (he pins s σ H _ I h) fun v s1 ⟨x, H1, I1, r1, q1⟩ => ?_)
  refine wpAny_Slice (thn (hl pins s1 σ H1 _ I1 q1) fun vl s2 ⟨l, H2, I2, pl, q2⟩ => ?_)
  rw [evalPart_none, evalPart_some]
  refine wpAny_pure (thn (hs pins s2 σ H2 _ I2 q2) fun w s3 ⟨y, H3, I3, r3, q3⟩ => ?_)
  obtain ⟨a, xs, n, rfl, rfl, hb, hx, q⟩ := q3
  cases r1
  obtain ⟨t, rfl⟩ := r3
  have I4 : Inv X pins σ H3 { s3 with heap := s3.heap.push { cls := .type "slice", data := .fields #[vl, .none, .int 2 t] } } := I3.kept (t' := s3.toks) fun b ob q => Heap.get?_push_of_some _ q
  obtain ⟨its, rv, ht, hz⟩ := I4.list hx
  have hlen := rv.length
  show wpAny (model X.prog X.w) X.A (subscriptTail e (.Slice lo none (some st) p2) (.ref a) (.ref s3.heap.objs.size)) (EP X pins σ Q) X.xe { s3 with heap := s3.heap.push { cls := .type "slice", data := .fields #[vl, .none, .int 2 t] } }
  refine tail_any (ops := [.ref a, .ref s3.heap.objs.size]) ht.isList.typeIs slot_list_getitem.lookup ?_ (by with_unfolding_all rfl)
  refine wpAny_getItem_list_slice ht.isList (Heap.IsSliceOf.new ..) pl .none (.int 2 t) (by simp) ?_ (by rw [List.size_toArray] <;> (first | lia | omega))
  rw [pick_two its hb]
  refine ⟨.ref _, _, I4.laid (t' := s3.toks) (o := .lst (ev2 (xs.drop n))) (fun b ob q => Heap.get?_push_of_some _ q) (Nat.le_refl _) ?_, rfl, q _ (I4.hok.fresh (Nat.le_refl _))⟩
  refine ⟨?_, _, 0, vals_ev2 (rv.drop n), Heap.get?_push_size _ rfl⟩
  rw [ev2_length, List.length_drop]
  (first | lia | omega)
end L3

namespace L3
open PySem PySem.Spec PyProof.Rows L2 Ra
theorem got {P : Program} {w : World} {H : Hp} {h : Heap} {a : Addr} {o : HO} (x : ObjOk P w H h a o) : ∃ ob, h.get? a = some ob := by
  induction o with
  | lst xs => obtain ⟨_, _, _, _, e⟩ := x; exact ⟨_, e⟩
  | tup xs => obtain ⟨_, _, _, ob, e, _⟩ := x; exact ⟨_, e⟩
  | dK kvs => obtain ⟨_, _, _, _, o, _, _, e, _⟩ := x; exact ⟨_, e⟩
  | dT kvs => obtain ⟨_, _, _, _, o, _, _, e, _⟩ := x; exact ⟨_, e⟩
  | set S n => obtain ⟨o, _, _, _, e, _⟩ := x; exact ⟨_, e⟩
  | ins C dx fs => obtain ⟨_, _, _, e, _⟩ := x; exact ⟨_, e⟩
  | own y => exact x
  | xd fs => obtain ⟨_, ⟨_, _, _, e, _⟩, _⟩ := x; exact ⟨_, e⟩
  | rng lo hi => obtain ⟨_, _, _, e⟩ := x; exact ⟨_, e⟩
  | frz ob u ih => obtain ⟨e, _⟩ := x; exact ⟨_, e⟩
  | tbl ps => exact ⟨_, x⟩
  | met f y => exact ⟨_, x⟩
  | ext φ => obtain ⟨_, e, _⟩ := x; exact e
structure Fly (outer : List Env) (H : Hp) (h0 : Heap) (a : Addr) (C : Value) (h : Heap) : Prop where
  ex : ∃ B T a0, Heap.FlyingW B outer a C a0 h ∧ (∀ b o, h.get? b = some o → b ∉ frs outer → b ≠ a → b ≠ T → B.get? b = some o) ∧ H a = none ∧ H T = none ∧ h0.get? a = none ∧ h0.get? T = none
noncomputable def CXe (P : Program) (w : World) : CXT := fun outer H s E e s' => ∃ a C H', e = .ref a ∧ s'.os = s.os ∧ AllBare s'.gens ∧ Un (frs outer) [] H H' s.heap s'.heap ∧ HOk P w H' s'.heap ∧ Fly outer H' s.heap a C s'.heap ∧ E C none H'
section
variable {P : Program} {w : World} {K : PySem.W.Frag} {mg : Str → Option Value} {base : Heap} {N : List Str} {qual : Str} {scope : Scope} {f : Addr} {cd : Value} {A : Around} {outer : List Env} {s : Shared} {H : Hp} {E : XK}
  {pins : List (Addr × Obj)} {σ : L2.St} {H1 : Hp} {s1 : Shared}
end
abbrev veMro : List Value := [.type "ValueError", .type "Exception", .type "BaseException", .type "object"]
noncomputable def OwnErr (K : PySem.W.Frag) (C : Addr) : Prop := PySem.W.excIn K C veMro "ValueError.__new__" = true
noncomputable def tRaise (E : XK) (C : Addr) (ta : TA) : TS := fun _ σ H => ta σ H fun vs H1 => vs.length ≤ sizeLine ∧ E (.ref C) none H1
section
variable {P : Program} {w : World} {K : PySem.W.Frag} {mg : Str → Option Value} {base : Heap} {N : List Str} {qual : Str} {scope : Scope} {f : Addr} {cd : Value} {A : Around} {outer : List Env} {s : Shared} {H : Hp} {E : XK}
end
end L3

namespace L3
open PySem PySem.Spec PyProof.Rows L2 Ra
structure CalX (P : Program) (w : World) (K : PySem.W.Frag) (mg : Str → Option Value) (base : Heap) (x : Str) (k : Nat) (ps : List Str) (ds : List Value) (dvs : List V) (sp : Sp) : Prop where
  ex : ∃ f fd, FnOk P w K mg base (CXe P w) k f fd ps sp ∧ Binds K fd ps ds ∧ PySem.W.keepIn K (.ref f) = true ∧ mg x = some (.ref f)
  dv : Vals dvs ds
noncomputable def XP (X : Cx) (pins : List (Addr × Obj)) (R : Value → L2.St → Hp → Prop) (e : Value) (s' : Shared) : Prop :=
  ∃ a C σ' H' H1 s1, e = .ref a ∧ Inv X pins σ' H1 s1 ∧ Inv X pins σ' H' s' ∧ Fly X.stack H' s1.heap a C s'.heap ∧ R C σ' H'
noncomputable def PSx (X : Cx) (st : Stmt) (t : (Value → L2.St → Hp → Prop) → TS) : Prop :=
  ∀ (pins : List (Addr × Obj)) (s : Shared) (σ : L2.St) (H : Hp) (D : Ends) (R : Value → L2.St → Hp → Prop), Inv X pins σ H s → t R D σ H → wpAny (model X.prog X.w) X.A (exec st X.env) (SP X pins D) (XP X pins R) s
noncomputable def tXCall (sp : Sp) (dvs : List V) (t : TA) : (Value → L2.St → Hp → Prop) → TS := fun R D σ H => t σ H fun vs H1 => sp (vs ++ dvs) H1 (fun _ H2 => D.nx σ H2) fun C _ H2 => R C σ H2
noncomputable def hdl (X : Cx) (a : Addr) : Cx := { X with A := X.A.mark (some (.ref a)), calm := false, xe := fun _ _ => False }
section
variable {X : Cx} {pins : List (Addr × Obj)} {σ : L2.St} {H : Hp} {s : Shared}
theorem inHdl (I : Inv X pins σ H s) (a : Addr) : Inv (hdl X a) pins σ H s :=
  ⟨⟨I.ok.mod, I.ok.kind, I.ok.glob, I.ok.blt, I.ok.above, I.ok.inj, I.ok.has, I.ok.cab, fun z => absurd (show false = true from z) Bool.false_ne_true, I.ok.frames, I.ok.stk, I.ok.exf, I.ok.bs, I.ok.bsz, I.ok.noex, I.ok.exfs, I.ok.funs, I.ok.frf⟩,
    I.os, I.bare, I.base, I.loc, I.cell, I.free, I.freeC, I.pin, I.hok, I.len⟩
theorem outHdl {a : Addr} (I : Inv (hdl X a) pins σ H s) (ok : X.Ok) : Inv X pins σ H s := ⟨ok, I.os, I.bare, I.base, I.loc, I.cell, I.free, I.freeC, I.pin, I.hok, I.len⟩
noncomputable def more (X : Cx) (l : List Addr) : Cx := { X with ex := X.ex ++ l }
theorem inMore {l : List Addr} (I : Inv X pins σ H s) (hl : ∀ b ∈ l, b ≠ X.env.locals ∧ (∀ x c, X.env.cells.lookup x = some c → c ≠ b) ∧ X.base.get? b = none ∧ b ∉ X.fs) : Inv (more X l) pins σ H s := by
  refine ⟨⟨I.ok.mod, I.ok.kind, I.ok.glob, I.ok.blt, I.ok.above, I.ok.inj, I.ok.has, I.ok.cab, I.ok.hd, I.ok.frames, I.ok.stk, fun b hb => ?_, I.ok.bs, I.ok.bsz, fun b o e hb => ?_, fun b hb => ?_, I.ok.funs, I.ok.frf⟩,
    I.os, I.bare, I.base.mono (fun _ z => z) (fun b z => List.mem_append_left _ z), I.loc, I.cell, I.free, I.freeC, I.pin, I.hok, I.len⟩
  · rcases List.mem_append.mp hb with z | z
    · exact I.ok.exf b z
    · exact ⟨(hl b z).1, (hl b z).2.1⟩
  · rcases List.mem_append.mp hb with z | z
    · exact I.ok.noex b o e z
    · have e' : X.base.get? b = some o := e
      rw [(hl b z).2.2.1] at e'
      cases e'
  · rcases List.mem_append.mp hb with z | z
    · exact I.ok.exfs b z
    · exact (hl b z).2.2.2
theorem outMore {l : List Addr} (I : Inv (more X l) pins σ H s) (ok : X.Ok) (hl : ∀ b ∈ l, X.s₀.heap.get? b = none) : Inv X pins σ H s := by
  have nl : ∀ b o, X.s₀.heap.get? b = some o → b ∉ X.ex → b ∉ (more X l).ex := fun b o q nx z => by
    rcases List.mem_append.mp z with z | z
    · exact nx z
    · rw [hl b z] at q
      cases q
  exact ⟨ok, I.os, I.bare, ⟨fun b o q n h1 h2 => I.base.keep b o q n h1 (nl b o q h2), fun b o q n h1 h2 => I.base.slot b o q n h1 (nl b o q h2), fun b o q n h2 => I.base.free b o q n (nl b o q h2), fun b o q h2 => I.base.there b o q (nl b o q h2), I.base.tups, I.base.frzs, I.base.tbls⟩,
    I.loc, I.cell, I.free, I.freeC, I.pin, I.hok, I.len⟩
theorem landed {H1 : Hp} {s1 : Shared} {a T : Addr} {B h2 : Heap} (hex : X.ex = []) (I0 : Inv X pins σ H1 s1) (I : Inv X pins σ H s) (h0a : s1.heap.get? a = none) (h0T : s1.heap.get? T = none) (ha : H a = none) (hT : H T = none)
    (cov : ∀ b o, s.heap.get? b = some o → b ∉ frs X.stack → b ≠ a → b ≠ T → B.get? b = some o) (stay : B.StaysIn h2) (up : s.heap.UpToSlots h2) : Inv X pins σ H { s with heap := h2 } := by
  have ne1 : ∀ b o, s1.heap.get? b = some o → b ≠ a ∧ b ≠ T := fun b o q => ⟨(fun z => by rw [z, h0a] at q; cases q), (fun z => by rw [z, h0T] at q; cases q)⟩
  have cond : ∀ b ∈ [a, T], b ≠ X.env.locals ∧ (∀ x c, X.env.cells.lookup x = some c → c ≠ b) ∧ X.base.get? b = none ∧ b ∉ X.fs := fun b hb => by
    have hb' : b = a ∨ b = T := by simpa using hb
    have nb : ∀ c o, s1.heap.get? c = some o → c ≠ b := fun c o q => by
      rcases hb' with rfl | rfl
      · exact (ne1 c o q).1
      · exact (ne1 c o q).2
    refine ⟨?_, fun x c e => ?_, ?_, fun z => ?_⟩
    · obtain ⟨m, ⟨o, _, _, q, _⟩, _⟩ := I0.loc
      exact (nb _ o q).symm
    · obtain ⟨v, o, q, _⟩ := I0.cell x c e
      exact nb c o q
    · cases q : X.base.get? b with
      | none => rfl
      | some o => exact absurd rfl (nb b o (I0.bk b o q))
    · obtain ⟨_, o, q, _⟩ := I0.funs.mem z
      exact absurd rfl (nb b o q)
  have tr : ∀ c u, H c = some u → c ∉ frs X.stack ∧ c ≠ a ∧ c ≠ T := fun c u e => by
    refine ⟨fun z => ?_, fun z => ?_, fun z => ?_⟩
    · have := I.stkFree c z
      rw [e] at this
      cases this
    · rw [z, ha] at e
      cases e
    · rw [z, hT] at e
      cases e
  have ks : ∀ b o, s.heap.get? b = some o → b ∈ frs X.stack → ∃ sl, h2.get? b = some { o with slots := sl } := fun b o q hb => by
    obtain ⟨_, o', q', hd⟩ := I.stack.mem hb
    rw [q] at q'
    cases q'
    exact up b o q hd
  have U : Un (frs X.stack) [a, T] H H s.heap h2 := by
    refine ⟨fun b o q _ h1 h3 => stay b o (cov b o q h1 (fun z => h3 (by simp [z])) fun z => h3 (by simp [z])), fun b o q _ h1 _ => ks b o q h1, fun _ _ _ n _ => n, fun b o q h3 => ?_, fun _ _ q => q, fun _ _ _ q => q, fun b ps q => ⟨#[], by rw [q]; simp⟩⟩
    by_cases hb : b ∈ frs X.stack
    · obtain ⟨sl, q2⟩ := ks b o q hb
      exact ⟨_, q2⟩
    · exact ⟨o, stay b o (cov b o q hb (fun z => h3 (by simp [z])) fun z => h3 (by simp [z]))⟩
  have hok : HOk X.prog X.w H h2 := fun b ob q => by
    refine (I.hok b ob q).stay (fun c u hc qc => ?_) (fun _ z => z) fun _ _ z => z
    have t : c ∉ frs X.stack ∧ c ≠ a ∧ c ≠ T := by
      rcases hc with rfl | hc
      · exact tr c ob q
      · exact tr c _ hc
    exact stay c u (cov c u qc t.1 t.2.1 t.2.2)
  have I2 := (inMore I cond).call' (s' := { s with heap := h2 }) (ch := [a, T]) rfl U hok I.bare (fun b hb => ⟨.inl (List.mem_append_right _ hb), (cond b hb).1, (cond b hb).2.1, fun p hp z => ?_⟩)
  · refine outMore I2 I.ok fun b hb => ?_
    have hb' : b = a ∨ b = T := by simpa using hb
    cases q : X.s₀.heap.get? b with
    | none => rfl
    | some o =>
      obtain ⟨o', q1⟩ := I0.base.there b o q (by rw [hex]; simp)
      rcases hb' with rfl | rfl
      · exact absurd rfl (ne1 _ _ q1).1
      · exact absurd rfl (ne1 _ _ q1).2
  · have hb' : b = a ∨ b = T := by simpa using hb
    have q := (I0.pin p hp).1
    rcases hb' with rfl | rfl
    · exact (ne1 _ _ q).1 z
    · exact (ne1 _ _ q).2 z
noncomputable def ExcAt (a : Addr) (C : Value) (h : Heap) : Prop := ∃ o, h.get? a = some o ∧ o.cls = C
theorem unnamed {i : Nat} {n : Str} {v : Option Value} {m : Str → Option Value} {h2 : Heap} {tk : Nat} (I : Inv X pins σ H s) (hN : X.N.Nodup) (hi : X.N[i]? = some n)
    (hl : ∀ (j : Nat) (x : Str) (y : V), X.N[j]? = some x → σ[j]? = some (some y) → Vis X.env.scope x → ∃ u, RelV y u ∧ Look X.env s.heap m x u)
    (n2 : h2.Ns X.env.locals (fun x => if x = n then v else m x)) (sb : Heap.SameBut X.env.locals s.heap h2) : Inv X pins (σ.set i none) H { s with heap := h2, toks := tk } := by
  have neL : ∀ b o, X.s₀.heap.get? b = some o → b ≠ X.env.locals := fun b o q z => by
    rw [z] at q
    exact absurd (Nat.lt_of_lt_of_le (Heap.lt_size q) I.ok.above) (Nat.lt_irrefl _)
  refine ⟨I.ok, I.os, I.bare, ⟨fun b o q k h1 h3 => ?_, fun b o q k h1 h3 => ?_, I.base.free, fun b o q h3 => ?_, I.base.tups, I.base.frzs, I.base.tbls⟩, ⟨_, n2, fun j x y e1 e2 e3 => ?_⟩, fun x c e => ?_, I.free, I.freeC, fun p hp => ?_, fun b ob q => ?_, by rw [List.length_set]; exact I.len⟩
  · rw [show ({ s with heap := h2, toks := tk } : Shared).heap.get? b = s.heap.get? b from sb.2 b (neL b o q)]
    exact I.base.keep b o q k h1 h3
  · obtain ⟨sl, q1⟩ := I.base.slot b o q k h1 h3
    exact ⟨sl, by rw [show ({ s with heap := h2, toks := tk } : Shared).heap.get? b = s.heap.get? b from sb.2 b (neL b o q)]; exact q1⟩
  · obtain ⟨o', q1⟩ := I.base.there b o q h3
    exact ⟨o', by rw [show ({ s with heap := h2, toks := tk } : Shared).heap.get? b = s.heap.get? b from sb.2 b (neL b o q)]; exact q1⟩
  · have hj : j ≠ i := fun z => by
      subst z
      by_cases hlt : j < σ.length
      · rw [List.getElem?_set_self hlt] at e2
        cases e2
      · rw [List.getElem?_eq_none (by rw [List.length_set]; (first | lia | omega))] at e2
        cases e2
    rw [List.getElem?_set_ne (Ne.symm hj)] at e2
    have hx : x ≠ n := fun z => hj (nodup_ix hN e1 (z ▸ hi))
    obtain ⟨u, ru, lk⟩ := hl j x y e1 e2 e3
    refine ⟨u, ru, ?_⟩
    rcases lk with ⟨k1, k2⟩ | ⟨k1, c, k2, k3⟩
    · exact .inl ⟨k1, by show (if x = n then v else m x) = some u; rw [if_neg hx]; exact k2⟩
    · exact .inr ⟨k1, c, k2, k3.sameBut sb (I.cne x c k2)⟩
  · obtain ⟨u, z⟩ := I.cell x c e
    exact ⟨u, z.sameBut sb (I.cne x c e)⟩
  · obtain ⟨q1, q2, q3, q4⟩ := I.pin p hp
    exact ⟨(sb.2 p.1 q3).trans q1, q2, q3, q4⟩
  · refine (I.hok b ob q).stay (fun c u hc qc => (sb.2 c fun z => ?_).trans qc) (fun _ z => z) fun _ _ z => z
    have hf := I.free
    rcases hc with z2 | z2
    · rw [← z, z2, q] at hf
      cases hf
    · rw [← z, z2] at hf
      cases hf
end
noncomputable def unb (i : Nat) (D : Ends) : Ends := { nx := fun σ H => D.nx (σ.set i none) H, rt := D.rt, bk := fun σ H => D.bk (σ.set i none) H, ct := fun σ H => D.ct (σ.set i none) H }
noncomputable def tTry (K : PySem.W.Frag) (C0 : Addr) (i : Nat) (tb : (Value → L2.St → Hp → Prop) → TS) (ts : Addr → TS) : TS := fun D σ H =>
  tb (fun C σ' H' => PySem.W.exmOne K C (.ref C0) = some true ∧ ∀ a, H' a = none → ts a (unb i D) (σ'.set i (some (.ref a))) (upd H' a (.ext (ExcAt a C)))) D σ H
end L3

namespace L3
open PySem PySem.Spec PyProof.Rows L2 Ra
noncomputable def eqVs (xs ys : List V) : Bool := (List.range xs.length).all fun j => eqV (xs.getD j .non) (ys.getD j .non)
section
variable {X : Cx}
noncomputable def rEqL (K : PySem.W.Frag) (neg : Bool) : R2 := fun x y H Q => ∃ a b xs ys, x = .ref a ∧ y = .ref b ∧ SqL K H a xs ∧ SqL K H b ys ∧ xs.length = ys.length ∧ xs.all flatV = true ∧ ys.all flatV = true ∧ Q (.bl (if neg then !eqVs xs ys else eqVs xs ys)) H
end
end L3
namespace L3
open PySem
theorem exm_of {K : PySem.W.Frag} {c d : Addr} (h1 : PySem.W.subIn K (.ref d) (.type "BaseException") = some true) (h2 : PySem.W.kitOne K (.ref c) (.ref d) = some true) (h3 : (Value.ref c == .ref d) = false) : PySem.W.exmOne K (.ref c) (.ref d) = some true := by
  unfold PySem.W.exmOne
  rw [h1, if_pos (by rfl)]
  unfold PySem.W.kitOne at h2
  rw [h3, if_neg (by decide)] at h2
  exact h2
end L3

namespace L3
open PySem PySem.Spec PySem.Calls PyProof.Rows L2 Ra Builtin Builtin.ObjectAttr Builtin.Getset_descriptor
structure ExcCls (K : PySem.W.Frag) (D : Addr) : Prop where
  is : PySem.W.isClsIn K D = true
  ga : PySem.W.findIn K (.ref D) "__getattribute__" = some (some (.builtin "BaseException.__getattribute__"))
  no : PySem.W.findIn K (.ref D) "__getattr__" = some none
  cl : PySem.W.findIn K (.ref D) "__class__" = some (some (.builtin "object.__class__"))
  mb : PySem.W.mroIn K D (.type "BaseException") = some true
  mo : PySem.W.mroIn K D (.type "object") = some true
section
variable {prog : Program} {w : World} {A : Around} {E : Value → Shared → Prop} {h : Heap} {g : Array GenState} {d : Drawn} {t : Nat} {os : OsState} {a D : Addr} {K : PySem.W.Frag}
theorem exc_get {R : Result → Shared → Prop} {tp : Value} (X : K.In h) (L0 : PySem.W.Looks (model prog w) h (typeOf (.ref a)) (.ref D)) (B : ExcCls K D) (hq : R (.ok (.ret (.ref D))) ⟨h, g, d, t, os⟩) :
    codeAny (model prog w) A (.call (.builtin "getset_descriptor.__get__") ⟨[.builtin "object.__class__", .ref a, tp], []⟩) R ⟨h, g, d, t, os⟩ := by
  have L1 := PySem.W.looks_mroIn (M := model prog w) X B.mo
  refine codeAny_call_builtin PySem.W.KF.slot_gs.plain PySem.W.KF.entry_gs ?_
  refine PySem.W.KF.slot_gs.check _ _ _ _ _ _ _ _ PySem.W.KF.type_class (PySem.W.KF.args_gs _ _ _) ?_
  unfold Builtin.«getset_descriptor.__get__» descrGet
  rw [PySem.W.dga_obj]
  refine wpAny_bind (wpAny_pure ?_)
  unfold descrGetter descrCheckInstance descrNameAndClass isInstance
  simp only [PySem.W.KF.owner_class]
  repeat lk
  refine ⟨Code.quiet_builtin _ (by decide +kernel), codeAny_builtin PySem.W.KF.entry_class ?_⟩
  unfold Builtin.«object.__class__» shownTypeOf
  repeat lk
  exact hq
theorem exc_check {M : Model} {nameV : Value} {Q : Unit → Shared → Prop} {o : Obj} (X : K.In h) (hx : h.get? a = some o) (hc : o.cls = .ref D) (B : ExcCls K D) (hq : Q () ⟨h, g, d, t, os⟩) :
    wpAny M A (checkBuiltinCall "BaseException.__getattribute__" ⟨[.ref a, nameV], []⟩) Q E ⟨h, g, d, t, os⟩ := by
  have L1 := PySem.W.looks_mroIn (M := M) X B.mb
  have k1 : builtinKind "BaseException.__getattribute__" = some .slot := by decide +kernel
  have k2 : splitId "BaseException.__getattribute__" = some ("BaseException", "__getattribute__") := by decide +kernel
  have k3 := F.args_bexc_ga (.ref a) nameV
  simp only [checkBuiltinCall, k1, k2]
  refine wpAny_bind ?_
  unfold isInstance
  repeat (first | (with_reducible refine wpAny_loadPart_at hx ?_; rw [hc]) | with_reducible refine L1.here ?_ | wp_step)
  exact hq
theorem exc_entry {tk : Tok} {Q : Fin → Shared → Prop} {o : Obj} (X : K.In h) (hx : h.get? a = some o) (hc : o.cls = .ref D) (B : ExcCls K D) (hq : Q (.done (.ret (.ref D))) ⟨h, g, d, t, os⟩) :
    wpAny (model prog w) A (Builtin.«object.__getattribute__» ⟨[.ref a, .str "__class__" tk], []⟩) Q E ⟨h, g, d, t, os⟩ := by
  have t5 : (⟨h, g, d, t, os⟩ : Shared).TypeIs (.builtin "object.__class__") "getset_descriptor" := F.typeOf_object_class
  have t6 := F.slot_gs_get.lookup
  have t7 := F.slot_gs_set.lookup
  have L1 := PySem.W.looks_findIn (M := model prog w) X B.cl
  repeat (any_goals (first | assumption | (with_reducible refine wpAny_loadPart_at hx ?_; rw [hc]) | with_reducible refine L1.here ?_ | wp_step))
  refine exc_get X (hc ▸ (PySem.W.Looks.ld hx).andThen .now) B ?_
  repeat (any_goals (first | assumption | wp_step))
theorem exc_by {tk : Tok} {fill expr : Bool} {Q : Value → Shared → Prop} {o : Obj} (X : K.In h) (hx : h.get? a = some o) (hc : o.cls = .ref D) (B : ExcCls K D) (hq : Q (.ref D) ⟨h, g, d, t, os⟩) :
    wpAny (model prog w) A (getAttrBy (.ref a) (.str "__class__" tk) fill expr) Q E ⟨h, g, d, t, os⟩ := by
  have f3 := F.attr_ValueError.ga.bind (.ref a)
  have x0 : (expr && onTheHeap (Value.builtin "BaseException.__getattribute__")) = false := by cases expr <;> rfl
  have x2 : (Value.builtin "BaseException.__getattribute__" == Value.builtin "object.__getattribute__") = false := by decide +kernel
  have x1 : (onTheHeap (Value.ref D) && Value.builtin "BaseException.__getattribute__" == Value.builtin "object.__getattribute__") = false := by rw [x2]; rfl
  have L1 := PySem.W.looks_findIn (M := model prog w) X B.ga
  have L2 := PySem.W.looks_findIn (M := model prog w) X B.no
  repeat (any_goals (first | assumption | (with_reducible refine wpAny_loadPart_at hx ?_; rw [hc]) | with_reducible refine L1.here ?_ | with_reducible refine L2.here ?_ | wp_step))
  refine codeAny_call_builtin F.attr_ValueError.ga.plain F.entry_bexc_ga (exc_check X hx hc B (exc_entry X hx hc B ?_))
  repeat (any_goals (first | assumption | wp_step))
theorem exc_class {Q : Option Value → Shared → Prop} {o : Obj} (X : K.In h) (hx : h.get? a = some o) (hc : o.cls = .ref D) (B : ExcCls K D) (hq : Q (some (.ref D)) ⟨h, g, d, t + 1, os⟩) :
    wpAny (model prog w) A (getAttr? (.ref a) "__class__") Q E ⟨h, g, d, t, os⟩ := by
  unfold getAttr? getAttrBy?
  repeat (any_goals (first | assumption | with_reducible apply exc_by X hx hc B | wp_step))
theorem kitx_exc (B : ExcCls K D) : PySem.W.KitX K (.ref a) (.ref D) (ExcAt a (.ref D)) where
  ty := fun M h _ p => by
    obtain ⟨o, e1, e2⟩ := p
    exact e2 ▸ (PySem.W.Looks.ld e1).andThen .now
  it := fun M h X _ => by
    have z := B.is
    unfold PySem.W.isClsIn at z
    cases q : PySem.W.clsIn K D with
    | none => rw [q] at z; cases z
    | some cd =>
      unfold PySem.W.clsIn at q
      split at q
      · rename_i look
        intro A' Q' E' s' k q'
        unfold isType loadHead
        exact wpAny_bind (wpAny_loadPart (k _ _ (X _ _ look)) (wpAny_pure q'))
      · cases q
  ne := fun h tp dd its n sl X htp => by
    have z := B.is
    unfold PySem.W.isClsIn at z
    refine Bool.eq_false_iff.mpr fun e => ?_
    have e' : D = tp := Value.ref.inj (beq_iff_eq.mp e)
    subst e'
    cases q : PySem.W.clsIn K D with
    | none => rw [q] at z; cases z
    | some cd =>
      unfold PySem.W.clsIn at q
      split at q
      · rename_i look
        cases (X _ _ look).symm.trans htp
      · cases q
  ca := fun {prog w A E Q s} X p k => by
    obtain ⟨h, g, d, t, os⟩ := s
    obtain ⟨o, e1, e2⟩ := p
    exact exc_class X e1 e2 B k
end
section
variable {X : Cx}
noncomputable def clsV : V → Option Value
  | .ref a => some (.ref a)
  | .ty n => some (.type n)
  | _ => none
end
end L3

namespace L3
open PySem PySem.Spec PyProof.Rows L2 Ra
theorem dict_map (o : Obj) (f) : (o.mapFields f).dict = o.dict := by
  obtain ⟨c, d, dt, sl⟩ := o
  cases dt <;> rfl
noncomputable def TrD (h base : Heap) (e : Addr) (C : Value) (dx : Option Addr) (fl : Value) : Prop :=
  ∃ oe vs T oT ts, (h.get? e = some oe ∧ oe.cls = C ∧ oe.dict = dx ∧ oe.data = .fields vs ∧ vs[1]? = some (.ref T)) ∧ (base.get? T = none ∧ T ≠ e) ∧ h.get? T = some oT ∧ oT.data = .fields ts ∧ ts[3]? = some fl
structure FlD (base : Heap) (l : List Env) (e : Addr) (C : Value) (dx : Option Addr) (fl : Value) (h : Heap) : Prop where
  st : base.StaysIn h
  nw : base.get? e = none
  fr : h.FunFrames base l
  tr : TrD h base e C dx fl
theorem FlD.there {base h : Heap} {l : List Env} {e : Addr} {C fl : Value} {dx : Option Addr} (x : FlD base l e C dx fl h) : ∃ o, h.get? e = some o ∧ o.cls = C ∧ o.dict = dx ∧ ∃ vs, o.data = .fields vs := by
  obtain ⟨oe, vs, _, _, _, ⟨a, b, c, d, _⟩, _⟩ := x.tr
  exact ⟨oe, a, b, c, vs, d⟩
section
variable {M : Model} {A : Around} {E : Value → Shared → Prop} {s : Shared} {base : Heap} {env : Env} {outer l : List Env} {L e : Addr} {C fl : Value} {dx : Option Addr} {Q : Unit → Shared → Prop}
theorem hang {h1 : Heap} {ob oe : Obj} {vs : Array Value} (he : h1.get? e = some oe) (hd : oe.data = .fields vs) (hsz : 1 < vs.size) (hob : ob.isFreed = false)
    (h : ∀ h2, (∃ o2, h2.get? e = some o2 ∧ o2.cls = oe.cls ∧ o2.dict = oe.dict ∧ o2.data = .fields (vs.setIfInBounds 1 (.ref h1.objs.size))) → h2.get? h1.objs.size = some ob → (∀ b o, b ≠ e → h1.get? b = some o → h2.get? b = some o) → Q () { s with heap := h2 }) :
    wpAny M A (setField (.ref e) 1 (.ref h1.objs.size)) Q E { s with heap := h1.push ob } := by
  have he2 : (h1.push ob).get? e = some oe := Heap.get?_push_of_some ob he
  have ne : e ≠ h1.objs.size := Nat.ne_of_lt (Heap.lt_size he)
  have hd3 := Obj.data_mapFields hd (·.setIfInBounds 1 (Value.ref h1.objs.size))
  refine wpAny_setField (s := { s with heap := h1.push ob }) he2 hd hsz (h _ ⟨_, Heap.get?_update_self _ he2 (Obj.isFreed_of_fields hd3), Obj.cls_mapFields _ _, dict_map _ _, hd3⟩ ?_ fun b o nb q => ?_)
  · rw [Heap.get?_update_other _ _ ne]
    exact Heap.get?_push_size _ hob
  · rw [Heap.get?_update_other _ _ nb.symm]
    exact Heap.get?_push_of_some _ q
theorem entryD {oe : Obj} {vs : Array Value} {head : Value} {nx : Bool} (hfr : A.frames = some (env :: outer)) (hl : s.heap.FunFrames base (env :: outer)) (hf : env.frame = some L)
    (he : s.heap.get? e = some oe) (hkb : base.StaysIn s.heap) (hen : base.get? e = none) (hd : oe.data = .fields vs) (hsz : 1 < vs.size)
    (h : ∀ h', FlD base (env :: outer) e oe.cls oe.dict (rawInt L) h' → s.heap.UpToSlots h' → Q () { s with heap := h' }) :
    wpAny M A (do let a ← frameOf env; let pl ← entryPlaceOf L nx; let b ← EntryCells.newEntry head a .none (rawInt L) .none pl; setField (.ref e) 1 b) Q E s := by
  have rec_ : ∀ b o, s.heap.get? b = some o → (∀ ws, o.data ≠ .fields ws) → b ≠ e := fun b o q n z => by
    rw [z, he] at q
    cases q
    exact n vs hd
  have nfr : e ∉ (env :: outer).filterMap (·.frame) := fun z => by
    obtain ⟨_, o, q, n⟩ := hl.mem z
    exact rec_ e o q n rfl
  refine wpAny_bind (wpAny_frameOf_fun hfr hl hf fun h1 sl => ?_)
  refine wpAny_bind (wpAny_entryPlaceOf fun pl hpl => ?_)
  unfold EntryCells.newEntry newFields
  refine wpAny_bind (wpAny_newObj_type ?_ (hpl.sizeOk5 _ _ _ _ _))
  have st1 : base.StaysIn h1 := fun b o q => (sl.2.1 b fun z => by rw [(hl.mem z).1] at q; cases q).trans (hkb b o q)
  refine hang ((sl.2.1 e nfr).trans he) hd hsz rfl fun h2 ⟨o2, q2, c2, d2, f2⟩ tb keep => h h2 ⟨fun b o q => keep b o (fun z => by rw [z, hen] at q; cases q) (st1 b o q), hen, hl.of_keeps fun b o q n => ?_, ?_⟩ fun b o q n => ?_
  · obtain ⟨z, w⟩ := sl.2.2 b o q
    exact ⟨_, keep b _ (rec_ b o q n) w, rfl⟩
  · refine ⟨o2, _, h1.objs.size, _, _, ⟨q2, c2, d2, f2, by simp [hsz]⟩, ⟨st1.fresh, fun z => ?_⟩, tb, rfl, by first | (simp; done) | (rcases hpl with rfl | ⟨_, _, _, _, _, _, _, rfl⟩ <;> simp)⟩
    have := Heap.lt_size ((sl.2.1 e nfr).trans he)
    rw [z] at this
    exact absurd this (Nat.lt_irrefl _)
  · obtain ⟨z, w⟩ := sl.2.2 b o q
    exact ⟨z, keep b _ (rec_ b o q n) w⟩
theorem note_first {oe : Obj} {vs : Array Value} (hfr : A.frames = some (env :: outer)) (hl : s.heap.FunFrames base (env :: outer)) (hf : env.frame = some L)
    (he : s.heap.get? e = some oe) (hkb : base.StaysIn s.heap) (hen : base.get? e = none) (hd : oe.data = .fields vs) (h1 : vs[1]? = some .none)
    (h : ∀ h', FlD base (env :: outer) e oe.cls oe.dict (rawInt L) h' → s.heap.UpToSlots h' → Q () { s with heap := h' }) : wpAny M A (noteFrame (.ref e) env) Q E s := by
  unfold noteFrame
  simp only [hf]
  refine wpAny_bind (wpAny_field he hd h1 ?_)
  rw [if_neg (by decide)]
  exact entryD hfr hl hf he hkb hen hd (Array.getElem?_eq_some_iff.mp h1).1 h
theorem turn {oT : Obj} {ts : Array Value} {T : Addr} {v fl2 : Value} (x : FlD base l e C dx fl s.heap) (hT : s.heap.get? T = some oT) (hdT : oT.data = .fields ts) (h3 : ts[3]? = some fl2) (hb : base.get? T = none) (hTe : T ≠ e)
    (h : ∀ h', base.StaysIn h' → h'.FunFrames base l → (∀ b, b ≠ T → h'.get? b = s.heap.get? b) → (∃ o2, h'.get? T = some o2 ∧ o2.data = .fields (ts.setIfInBounds 3 v)) → s.heap.UpToSlots h' → Q () { s with heap := h' }) :
    wpAny M A (setField (.ref T) 3 v) Q E s := by
  have other : ∀ b, b ≠ T → (s.heap.update T (Obj.mapFields (·.setIfInBounds 3 v))).get? b = s.heap.get? b := fun b n => Heap.get?_update_other _ _ n.symm
  have rec_ : ∀ b o, s.heap.get? b = some o → (∀ ws, o.data ≠ .fields ws) → b ≠ T := fun b o q n z => by
    rw [z, hT] at q
    cases q
    exact n ts hdT
  have hd3 := Obj.data_mapFields hdT (·.setIfInBounds 3 v)
  exact wpAny_setField hT hdT (Array.getElem?_eq_some_iff.mp h3).1 (h _ (fun b o q => (other b fun z => by rw [z, hb] at q; cases q).trans (x.st b o q)) (x.fr.of_keeps fun b o q n => ⟨o, (other b (rec_ b o q n)).trans q, rfl⟩) other
    ⟨_, Heap.get?_update_self _ hT (Obj.isFreed_of_fields hd3), hd3⟩ fun b o q n => ⟨o.slots, (other b (rec_ b o q n)).trans q⟩)
theorem note_on (hfr : A.frames = some (env :: outer)) (hf : env.frame = some L) (x : FlD base (env :: outer) e C dx .none s.heap)
    (h : ∀ h', FlD base (env :: outer) e C dx (rawInt L) h' → s.heap.UpToSlots h' → Q () { s with heap := h' }) : wpAny M A (noteFrame (.ref e) env) Q E s := by
  obtain ⟨oe, vs, T, oT, ts, ⟨he, rfl, rfl, hd, h1⟩, ⟨hb, hTe⟩, hT, hdT, h3⟩ := x.tr
  unfold noteFrame
  simp only [hf]
  refine wpAny_bind (wpAny_field he hd h1 ?_)
  rw [if_pos (show (Value.ref T != Value.none) = true from by simp)]
  refine wpAny_bind (wpAny_field hT hdT h3 ?_)
  rw [if_neg (show ¬ ((Value.none == rawInt L) = true) from by simp [rawInt])]
  refine wpAny_bind (turn x hT hdT h3 hb hTe fun h2 st fr oth _ up => ?_)
  exact entryD (s := { s with heap := h2 }) hfr fr hf ((oth e hTe.symm).trans he) st x.nw hd (Array.getElem?_eq_some_iff.mp h1).1 fun h3 f3 up3 => h h3 f3 (up.trans up3)
theorem lands (x : FlD base l e C dx fl s.heap) (h : ∀ h', FlD base l e C dx .none h' → s.heap.UpToSlots h' → Q () { s with heap := h' }) : wpAny M A (setFlight (.ref e) none) Q E s := by
  obtain ⟨oe, vs, T, oT, ts, ⟨he, hc, hx, hd, h1⟩, ⟨hb, hTe⟩, hT, hdT, h3⟩ := x.tr
  unfold setFlight
  refine wpAny_bind (wpAny_field he hd h1 ?_)
  rw [if_pos (show (Value.ref T != Value.none) = true from by simp)]
  refine turn x hT hdT h3 hb hTe fun h2 st fr oth ⟨o2, q2, d2⟩ up => h h2 ⟨st, x.nw, fr, oe, vs, T, o2, _, ⟨(oth e hTe.symm).trans he, hc, hx, hd, h1⟩, ⟨hb, hTe⟩, q2, d2, ?_⟩ up
  have := (Array.getElem?_eq_some_iff.mp h3).1
  simp [this]
theorem FlD.tail {h : Heap} (x : FlD base (env :: outer) e C dx fl h) : FlD base outer e C dx fl h := ⟨x.st, x.nw, x.fr.2.2, x.tr⟩
theorem leaves_first {oe : Obj} {vs : Array Value} (hfr : A.frames = some (env :: outer)) (hl : s.heap.FunFrames base (env :: outer)) (hf : env.frame = some L)
    (he : s.heap.get? e = some oe) (hkb : base.StaysIn s.heap) (hen : base.get? e = none) (hd : oe.data = .fields vs) (h1 : vs[1]? = some .none)
    (h : ∀ h', FlD base outer e oe.cls oe.dict .none h' → s.heap.UpToSlots h' → Q () { s with heap := h' }) : wpAny M A (leaving env (.ref e)) Q E s := by
  unfold leaving
  exact wpAny_bind (note_first hfr hl hf he hkb hen hd h1 fun h2 f2 up2 => lands (s := { s with heap := h2 }) f2 fun h3 f3 up3 => h h3 f3.tail (up2.trans up3))
theorem leaves_on (hfr : A.frames = some (env :: outer)) (hf : env.frame = some L) (x : FlD base (env :: outer) e C dx .none s.heap)
    (h : ∀ h', FlD base outer e C dx .none h' → s.heap.UpToSlots h' → Q () { s with heap := h' }) : wpAny M A (leaving env (.ref e)) Q E s := by
  unfold leaving
  exact wpAny_bind (note_on hfr hf x fun h2 f2 up2 => lands (s := { s with heap := h2 }) f2 fun h3 f3 up3 => h h3 f3.tail (up2.trans up3))
end
end L3

namespace L3
open PySem PySem.Spec PySem.Calls PyProof.Rows L2 Ra Builtin Builtin.ObjectAttr
noncomputable def isR : Value → Bool
  | .ref _ => true
  | _ => false
noncomputable def overVE (l : List Value) : Bool := l.dropWhile isR == [.type "ValueError", .type "Exception", .type "BaseException", .type "object"]
theorem refuse_drop (self : Value) (what : Str) : ∀ l : List Value, refuseLoop self what l = refuseLoop self what (l.dropWhile isR)
  | [] => rfl
  | v :: r => by
    cases h : isR v with
    | false => rw [List.dropWhile_cons, h]; rfl
    | true =>
      obtain ⟨c, rfl⟩ : ∃ c, v = .ref c := by cases v <;> first | exact ⟨_, rfl⟩ | cases h
      rw [refuseLoop_ref, List.dropWhile_cons_of_pos h]
      exact refuse_drop self what r
theorem refuse_ve (self : Value) {l : List Value} (e : overVE l = true) : refuseLoop self "__setattr__" l = pure () := by
  rw [refuse_drop, show l.dropWhile isR = _ from beq_iff_eq.mp e]
  exact PySem.F.store_ValueError.passes self
theorem ve_has {l : List Value} {n : String} (e : overVE l = true) (h : ([.type "ValueError", .type "Exception", .type "BaseException", .type "object"] : List Value).contains (.type n) = true) : l.contains (.type n) = true := by
  have q : l = l.takeWhile isR ++ l.dropWhile isR := (List.takeWhile_append_dropWhile).symm
  rw [q, show l.dropWhile isR = _ from beq_iff_eq.mp e, List.contains_append, h, Bool.or_true]
structure ExcF (K : PySem.W.Frag) (C : Addr) : Prop where
  ov : ((PySem.W.clsIn K C).any fun cd => overVE cd.mro) = true
  hd : PySem.W.hasDictIn K C = true
  sa : PySem.W.findIn K (.ref C) "__setattr__" = some (some (.builtin "object.__setattr__"))
  ga : PySem.W.findIn K (.ref C) "__getattribute__" = some (some (.builtin "BaseException.__getattribute__"))
  no : PySem.W.findIn K (.ref C) "__getattr__" = some none
  is : PySem.W.isClsIn K C = true
section
variable {prog : Program} {w : World} {A : Around} {E : Value → Shared → Prop} {s : Shared} {K : PySem.W.Frag} {x C : Addr} {name : Str} {v : Value} {ox : Obj} {vs : Array Value}
theorem osa_exc {od : Option Obj} {tk : Tok} {R : Result → Shared → Prop} (X : K.In s.heap) (B : ExcF K C) (ht : PySem.W.findIn K (.ref C) name = some none) (I : PySem.W.InstAt s.heap x ox C od)
    (h : wpAny (model prog w) A.in1 (storeInOwnDict (.ref x) (.ref C) (.str name tk) name v false)
      (fun fin s' => match fin with | .done f => R (.ok f) s' | .again c' => c'.quiet = true ∧ codeAny (model prog w) A c' R s') (fun e s' => R (.error e) s') s) :
    codeAny (model prog w) A (.call (.builtin "object.__setattr__") ⟨[.ref x, .str name tk, v], []⟩) R s := by
  have SF := PySem.F.store_object
  obtain ⟨cd, hcd, ho⟩ := PySem.W.any_some B.ov
  have ne : cd.mro.isEmpty = false := by cases q : cd.mro with | nil => rw [q] at ho; cases ho | cons _ _ => rfl
  have sub : PySem.W.Looks (model prog w) s.heap (isInstance (.ref x) (.type "object")) true := I.type.andThen (PySem.W.looks_mroIn X (by unfold PySem.W.mroIn; rw [hcd, Option.bind_some, if_neg (by rw [ne]; decide), ve_has ho (by decide)]))
  refine codeAny_call_builtin SF.slot.plain SF.entry (@PySem.W.check_slot (model prog w) _ _ s "object.__setattr__" "object" "__setattr__" (.ref x) [.str name tk, v] [] _ SF.kind SF.split sub (SF.args (.ref x) (.str name tk) v) ?_)
  have hm : PySem.W.Looks (model prog w) s.heap (mroOf (.ref C)) cd.mro := (PySem.W.looks_clsIn X hcd).andThen .now
  rw [PySem.W.osa_eq, refuse_eq]
  refine wpAny_bind (wpAny_bind (I.type.here (wpAny_bind (hm.here ?_))))
  rw [refuse_ve _ ho]
  have L3 : PySem.W.Looks (model prog w) s.heap (storeTaker? none) none := .now
  refine wpAny_pure (wpAny_bind (I.type.here (wpAny_bind ((PySem.W.looks_findIn X ht).here (wpAny_bind (L3.here ?_))))))
  exact h
theorem exc_store {Q : Unit → Shared → Prop} (X : K.In s.heap) (B : ExcF K C) (ht : PySem.W.findIn K (.ref C) name = some none) (hx : s.heap.get? x = some ox) (hc : ox.cls = .ref C) (hdat : ox.data = .fields vs) (hdn : ox.dict = none)
    (h : ∀ h' tk, h'.get? x = some { ox with dict := some s.heap.objs.size } → h'.Ns1 s.heap.objs.size (fun y => if y = name then some v else none) → (∀ b o, b ≠ x → s.heap.get? b = some o → h'.get? b = some o) → Q () { s with heap := h', toks := tk }) :
    wpAny (model prog w) A (setAttr (.ref x) name v) Q E s := by
  have I : PySem.W.InstAt s.heap x ox C none := ⟨hx, hc, by unfold PySem.W.notCls; rw [hdat], by rw [hdn]; trivial⟩
  refine PySem.W.set_plain X I B.sa (osa_exc (s := { s with toks := s.toks + 1 }) X B ht I ?_)
  obtain ⟨cd2, hc2, hd2⟩ := PySem.W.any_some B.hd
  obtain ⟨oc, odi, oda, osl⟩ := ox
  dsimp only at hc hdat hdn
  subst hc hdat hdn
  refine wpAny_bind (wpAny_pure (wpAny_bind (wpAny_bind (wpAny_loadPart hx (wpAny_bind (PySem.W.Looks.here (s := { s with toks := s.toks + 1 }) (PySem.W.looks_clsIn X hc2) ?_))))))
  rw [hd2]
  have hx1 : (s.heap.push { cls := .type "dict", data := .dict #[] }).get? x = some ⟨.ref C, none, .fields vs, osl⟩ := Heap.get?_push_of_some _ hx
  have ne : x ≠ s.heap.objs.size := Nat.ne_of_lt (Heap.lt_size hx)
  refine wpAny_bind (s := { s with toks := s.toks + 1 }) (wpAny_alloc' ?_)
  refine wpAny_bind (wpAny_update' hx1 (wpAny_pure ?_))
  have hgd : ((s.heap.push { cls := .type "dict", data := .dict #[] }).update x fun o => { cls := o.cls, dict := some s.heap.objs.size, data := o.data, slots := o.slots }).get? s.heap.objs.size = some { cls := .type "dict", data := .dict #[] } :=
    (Heap.get?_update_other _ _ ne).trans (Heap.get?_push_size _ rfl)
  have hnd : ((s.heap.push { cls := .type "dict", data := .dict #[] }).update x fun o => { cls := o.cls, dict := some s.heap.objs.size, data := o.data, slots := o.slots }).Ns s.heap.objs.size (fun _ => none) :=
    ⟨_, #[], _, hgd, rfl, fun e he => absurd he (by simp), fun _ => rfl⟩
  show wpAny _ _ (storeInDict s.heap.objs.size (.str name s.toks) name v) _ _ _
  unfold storeInDict newKeyGuard
  refine wpAny_bind (wpAny_pure (wpAny_bind (wpAny_nsSet1 (Heap.Ns1.of_empty hnd) fun h2 n2 sb => ?_)))
  obtain ⟨oD, esD, epD, hoD, hdD, hcD⟩ := n2.count (Within.cons name v Within.nil)
  refine wpAny_bind (wpAny_lookBehind hoD (by rw [hdD]; exact pastItsLine_dict (Nat.le_trans hcD (by rw [List.length_cons, List.length_nil, sizeLine_eq]; (first | lia | omega)))) ?_)
  refine wpAny_pure (h h2 _ ?_ n2 fun b o nb q => ?_)
  · exact (sb.2 x ne).trans (Heap.get?_update_self _ hx1 rfl)
  · exact (sb.2 b (Nat.ne_of_lt (Heap.lt_size q))).trans ((Heap.get?_update_other _ _ nb.symm).trans (Heap.get?_push_of_some _ q))
end
end L3

namespace L3
open PySem PySem.Spec PySem.Calls PyProof.Rows L2 Ra Builtin Builtin.ObjectAttr
section
variable {prog : Program} {w : World} {A : Around} {E : Value → Shared → Prop} {h : Heap} {g : Array GenState} {d : Drawn} {t : Nat} {os : OsState} {K : PySem.W.Frag} {x C : Addr} {name : Str} {v : Value} {ox : Obj} {od : Option Obj}
theorem exc_found {tk : Tok} {Q : Fin → Shared → Prop} (X : K.In h) (I : PySem.W.InstAt h x ox C od) (hf : PySem.W.findObj K C od name = some (.value v)) (hq : Q (.done (.ret v)) ⟨h, g, d, t, os⟩) :
    wpAny (model prog w) A (Builtin.«object.__getattribute__» ⟨[.ref x, .str name tk], []⟩) Q E ⟨h, g, d, t, os⟩ := by
  have L0 := I.type (M := model prog w)
  have L1 := PySem.W.looks_find (M := model prog w) X I hf
  unfold Builtin.«object.__getattribute__»
  refine wpAny_bind (wpAny_pure (wpAny_bind (wpAny_pure (wpAny_bind (L0.here (wpAny_bind (L1.here ?_)))))))
  exact wpAny_pure hq
theorem exc_load {expr : Bool} {Q : Value → Shared → Prop} (X : K.In h) (B : ExcCls K C) (I : PySem.W.InstAt h x ox C od) (hf : PySem.W.findObj K C od name = some (.value v)) (hh : PySem.W.handedIn v = true) (hq : Q v ⟨h, g, d, t + 1, os⟩) :
    wpAny (model prog w) A (getAttr (.ref x) name expr) Q E ⟨h, g, d, t, os⟩ := by
  have hx := I.at_
  have hc := I.cls
  have f3 := F.attr_ValueError.ga.bind (.ref x)
  have x0 : (expr && onTheHeap (Value.builtin "BaseException.__getattribute__")) = false := by cases expr <;> rfl
  have x2 : (Value.builtin "BaseException.__getattribute__" == Value.builtin "object.__getattribute__") = false := by decide +kernel
  have x1 : (onTheHeap (Value.ref C) && Value.builtin "BaseException.__getattribute__" == Value.builtin "object.__getattribute__") = false := by rw [x2]; rfl
  have x3 := PySem.W.handedOut_of hh
  have L1 := PySem.W.looks_findIn (M := model prog w) X B.ga
  have L2 := PySem.W.looks_findIn (M := model prog w) X B.no
  unfold getAttr
  refine wpAny_bind (wpAny_mkText ?_)
  repeat (any_goals (first | assumption | (with_reducible refine wpAny_loadPart_at hx ?_; rw [hc]) | with_reducible refine L1.here ?_ | with_reducible refine L2.here ?_ | wp_step))
  refine codeAny_call_builtin F.attr_ValueError.ga.plain F.entry_bexc_ga (exc_check X hx hc B (exc_found X I hf ?_))
  repeat (any_goals (first | assumption | (rw [x3]) | wp_step))
end
end L3

namespace L3
open PySem PySem.Spec PyProof.Rows L2 Ra
structure FlyD (outer : List Env) (H : Hp) (h0 : Heap) (a : Addr) (C : Value) (dx : Option Addr) (h : Heap) : Prop where
  ex : ∃ B T, FlD B outer a C dx .none h ∧ (∀ b o, h.get? b = some o → b ∉ frs outer → b ≠ a → b ≠ T → B.get? b = some o) ∧ H a = none ∧ H T = none ∧ h0.get? a = none ∧ h0.get? T = none
theorem FlyD.of {outer : List Env} {H : Hp} {h0 B h : Heap} {a : Addr} {C : Value} {dx : Option Addr} (hf : FlD B outer a C dx .none h) (ha : H a = none) (h0a : h0.get? a = none)
    (hT : ∀ T oT ts, B.get? T = none → h.get? T = some oT → oT.data = .fields ts → T ≠ a → H T = none ∧ h0.get? T = none) : FlyD outer H h0 a C dx h := by
  obtain ⟨f1, f2, f3, oe, vs, T, oT, ts, he, ⟨hB, hne⟩, hT', hdT, h3⟩ := hf
  obtain ⟨t1, t2⟩ := hT T oT ts hB hT' hdT hne
  refine ⟨PySem.W.hideAll h (frs outer ++ [a, T]), T, ⟨fun b o q => PySem.W.of_hideAll _ q, PySem.W.hideAll_none _ (by simp), PySem.W.funFrames_hide f3 fun env he b hb => List.mem_append_left _ (List.mem_filterMap.mpr ⟨env, he, hb⟩), oe, vs, T, oT, ts, he, ⟨PySem.W.hideAll_none _ (by simp), hne⟩, hT', hdT, h3⟩,
    fun b o q n1 n2 n3 => PySem.W.hideAll_get _ q fun z => ?_, ha, t1, h0a, t2⟩
  rcases List.mem_append.mp z with z | z
  · exact n1 z
  · simp at z
    exact z.elim n2 n3
noncomputable def CXd (P : Program) (w : World) : CXT := fun outer H s E e s' => ∃ a C dx H', e = .ref a ∧ s'.os = s.os ∧ AllBare s'.gens ∧ Un (frs outer) [] H H' s.heap s'.heap ∧ HOk P w H' s'.heap ∧ FlyD outer H' s.heap a C dx s'.heap ∧ E C dx H'
section
variable {P : Program} {w : World} {K : PySem.W.Frag} {mg : Str → Option Value} {base : Heap} {N : List Str} {qual : Str} {scope : Scope} {f : Addr} {cd : Value} {A : Around} {outer : List Env} {s : Shared} {H : Hp} {E : XK}
  {pins : List (Addr × Obj)} {σ : L2.St} {H1 : Hp} {s1 : Shared}
theorem left_unD {h2 : Heap} (I : Inv (cxOf (CXd P w) P w K mg base N qual scope f cd A outer s H E) pins σ H1 s1) (bad : Addr → Prop) (hbad : ∀ b, bad b → s.heap.get? b = none ∧ H1 b = none)
    (kk : ∀ b o, s1.heap.get? b = some o → b ∉ frs (envOfC qual scope s.heap.objs.size f cd :: outer) → ¬ bad b → h2.get? b = some o)
    (ks : ∀ b o, s1.heap.get? b = some o → b ∈ frs (envOfC qual scope s.heap.objs.size f cd :: outer) → ∃ sl, h2.get? b = some { o with slots := sl }) :
    Un (frs outer) [] H H1 s.heap h2 ∧ HOk P w H1 h2 := by
  have nfr : ∀ b o, s.heap.get? b = some o → b ∉ frs outer → b ∉ frs (envOfC qual scope s.heap.objs.size f cd :: outer) := fun b o q nb hb => by
    rcases List.mem_cons.mp (show b ∈ s.heap.objs.size :: frs outer from hb) with z | z
    · rw [z] at q
      exact absurd (Heap.lt_size q) (Nat.lt_irrefl _)
    · exact nb z
  have nbad : ∀ b o, s.heap.get? b = some o → ¬ bad b := fun b o q z => by rw [(hbad b z).1] at q; cases q
  have nex : ∀ b, b ∉ (cxOf (CXd P w) P w K mg base N qual scope f cd A outer s H E).ex := fun b z => absurd (show b ∈ ([] : List Addr) from z) (by simp)
  refine ⟨⟨fun b o q n hb _ => kk b o (I.base.keep b o q n hb (nex b)) (nfr b o q hb) (nbad b o q), fun b o q n hb _ => ?_, fun b o q n _ => I.base.free b o q n (nex b), fun b o q _ => ?_, I.base.tups, I.base.frzs, I.base.tbls⟩, fun b ob q => ?_⟩
  · obtain ⟨sl, q1⟩ := I.base.slot b o q n hb (nex b)
    obtain ⟨sl', q2⟩ := ks b _ q1 (List.mem_cons_of_mem _ hb)
    exact ⟨sl', q2⟩
  · obtain ⟨o', q1⟩ := I.base.there b o q (nex b)
    by_cases hb : b ∈ frs (envOfC qual scope s.heap.objs.size f cd :: outer)
    · obtain ⟨sl, q2⟩ := ks b o' q1 hb
      exact ⟨_, q2⟩
    · exact ⟨o', kk b o' q1 hb (nbad b o q)⟩
  · have tr : ∀ c u, H1 c = some u → c ∉ frs (envOfC qual scope s.heap.objs.size f cd :: outer) ∧ ¬ bad c := fun c u e => by
      refine ⟨fun z => ?_, fun z => ?_⟩
      · have := I.stkFree c z
        rw [e] at this
        cases this
      · have := (hbad c z).2
        rw [e] at this
        cases this
    refine (I.hok b ob q).stay (fun c u hc qc => ?_) (fun _ z => z) fun _ _ z => z
    have t : c ∉ frs (envOfC qual scope s.heap.objs.size f cd :: outer) ∧ ¬ bad c := by
      rcases hc with rfl | hc
      · exact tr c ob q
      · exact tr c _ hc
    exact kk c u qc t.1 t.2
theorem leave_madeD {e C : Addr} {oe : Obj} {vs : Array Value} (I : Inv (cxOf (CXd P w) P w K mg base N qual scope f cd A outer s H E) pins σ H1 s1) (he : s1.heap.get? e = some oe) (hc : oe.cls = .ref C) (hd : oe.data = .fields vs) (h1 : vs[1]? = some .none)
    (hn : s.heap.get? e = none) (hH : H1 e = none) (hE : E (.ref C) oe.dict H1) : (cxOf (CXd P w) P w K mg base N qual scope f cd A outer s H E).xe (.ref e) s1 := by
  show wpAny (model P w) (A.deeper (envOfC qual scope s.heap.objs.size f cd)) (leaving (envOfC qual scope s.heap.objs.size f cd) (.ref e)) _ _ s1
  have fsub : ∀ env ∈ (envOfC qual scope s.heap.objs.size f cd :: outer), ∀ b, env.frame = some b → b ∈ frs (envOfC qual scope s.heap.objs.size f cd :: outer) ++ [e] := fun env he b hb => List.mem_append_left _ (List.mem_filterMap.mpr ⟨env, he, hb⟩)
  refine leaves_first (base := PySem.W.hideAll s1.heap (frs (envOfC qual scope s.heap.objs.size f cd :: outer) ++ [e])) I.ok.frames (PySem.W.funFrames_hide I.stack fsub) rfl he (fun b o q => PySem.W.of_hideAll _ q) (PySem.W.hideAll_none _ (by simp)) hd h1 fun h2 fl up => ?_
  have hid : ∀ b o, s1.heap.get? b = some o → b ∉ frs (envOfC qual scope s.heap.objs.size f cd :: outer) → b ≠ e → (PySem.W.hideAll s1.heap (frs (envOfC qual scope s.heap.objs.size f cd :: outer) ++ [e])).get? b = some o := fun b o q nb ne =>
    PySem.W.hideAll_get _ q fun z => by
      rcases List.mem_append.mp z with z | z
      · exact nb z
      · exact ne (by simpa using z)
  have ks : ∀ b o, s1.heap.get? b = some o → b ∈ frs (envOfC qual scope s.heap.objs.size f cd :: outer) → ∃ sl, h2.get? b = some { o with slots := sl } := fun b o q hb => by
    obtain ⟨_, o', q', hd⟩ := I.stack.mem hb
    rw [q] at q'
    cases q'
    exact up b o q hd
  obtain ⟨un, hok⟩ := left_unD I (fun b => b = e) (fun b z => by rw [z]; exact ⟨hn, hH⟩) (fun b o q nb ne => fl.st b o (hid b o q nb ne)) ks
  have nex : ∀ b, b ∉ (cxOf (CXd P w) P w K mg base N qual scope f cd A outer s H E).ex := fun b z => absurd (show b ∈ ([] : List Addr) from z) (by simp)
  refine ⟨e, .ref C, oe.dict, H1, rfl, I.os, I.bare, un, hok, FlyD.of (hc ▸ fl) hH hn fun T oT ts hB hT hdT hne => ⟨?_, ?_⟩, hE⟩
  · cases q : H1 T with
    | none => rfl
    | some u =>
      obtain ⟨ob, qo⟩ := got (I.hok T u q)
      rw [hid T ob qo (fun z => by have := I.stkFree T z; rw [q] at this; cases this) hne] at hB
      cases hB
  · cases q : s.heap.get? T with
    | none => rfl
    | some o =>
      obtain ⟨o', q1⟩ := I.base.there T o q (nex T)
      by_cases hb : T ∈ frs (envOfC qual scope s.heap.objs.size f cd :: outer)
      · rcases List.mem_cons.mp (show T ∈ s.heap.objs.size :: frs outer from hb) with z | z
        · rw [z] at q
          exact absurd (Heap.lt_size q) (Nat.lt_irrefl _)
        · obtain ⟨_, o2, q2, hd2⟩ := fl.fr.mem z
          rw [hT] at q2
          cases q2
          exact absurd hdT (hd2 ts)
      · rw [hid T o' q1 hb hne] at hB
        cases hB
theorem pass_onD : Passes (CXd P w) (cxOf (CXd P w) P w K mg base N qual scope f cd A outer s H E) E := by
  intro pins σ H1 s1 e s2 I h
  obtain ⟨a, C, dx, H2, rfl, os, bare, un, hok, fly, hE⟩ := h
  have I2 := I.call' (s' := s2) (ch := []) os un hok bare (fun b z => absurd z (by simp))
  obtain ⟨B, T, fl, cov, ha, hT, h0a, h0T⟩ := fly.ex
  show wpAny (model P w) (A.deeper (envOfC qual scope s.heap.objs.size f cd)) (leaving (envOfC qual scope s.heap.objs.size f cd) (.ref a)) _ _ s2
  have nex : ∀ b, b ∉ (cxOf (CXd P w) P w K mg base N qual scope f cd A outer s H E).ex := fun b z => absurd (show b ∈ ([] : List Addr) from z) (by simp)
  have old : ∀ b, s1.heap.get? b = none → s.heap.get? b = none := fun b n => by
    cases q : s.heap.get? b with
    | none => rfl
    | some o =>
      obtain ⟨o', q1⟩ := I.base.there b o q (nex b)
      rw [n] at q1
      cases q1
  refine leaves_on I.ok.frames rfl fl fun h3 fl3 up => ?_
  have ks : ∀ b o, s2.heap.get? b = some o → b ∈ frs (envOfC qual scope s.heap.objs.size f cd :: outer) → ∃ sl, h3.get? b = some { o with slots := sl } := fun b o q hb => by
    obtain ⟨_, o', q', hd⟩ := I2.stack.mem hb
    rw [q] at q'
    cases q'
    exact up b o q hd
  obtain ⟨un3, hok3⟩ := left_unD I2 (fun b => b = a ∨ b = T) (fun b z => by
    rcases z with rfl | rfl
    · exact ⟨old _ h0a, ha⟩
    · exact ⟨old _ h0T, hT⟩) (fun b o q nb nz => fl3.st b o (cov b o q nb (fun z => nz (.inl z)) fun z => nz (.inr z))) ks
  refine ⟨a, C, dx, H2, rfl, I2.os, bare, un3, hok3, FlyD.of fl3 ha (old a h0a) fun T2 oT ts hB hT2 hd hne => ⟨?_, ?_⟩, hE⟩
  · cases q : H2 T2 with
    | none => rfl
    | some u =>
      obtain ⟨ob, qo⟩ := got (I2.hok T2 u q)
      have nb : T2 ∉ frs (envOfC qual scope s.heap.objs.size f cd :: outer) := fun z => by
        have := I2.stkFree T2 z
        rw [q] at this
        cases this
      have nT : T2 ≠ T := fun z => by
        rw [z, hT] at q
        cases q
      rw [cov T2 ob qo nb hne nT] at hB
      cases hB
  · cases q : s.heap.get? T2 with
    | none => rfl
    | some o =>
      obtain ⟨o', q1⟩ := I2.base.there T2 o q (nex T2)
      have nT : T2 ≠ T := fun z => by
        rw [z, old T h0T] at q
        cases q
      by_cases hb : T2 ∈ frs (envOfC qual scope s.heap.objs.size f cd :: outer)
      · rcases List.mem_cons.mp (show T2 ∈ s.heap.objs.size :: frs outer from hb) with z | z
        · rw [z] at q
          exact absurd (Heap.lt_size q) (Nat.lt_irrefl _)
        · obtain ⟨_, o2, q2, hd2⟩ := fl3.fr.mem z
          rw [hT2] at q2
          cases q2
          exact absurd hd (hd2 ts)
      · rw [cov T2 o' q1 hb hne nT] at hB
        cases hB
end
end L3

namespace L3
open PySem PySem.Spec PyProof.Rows L2 Ra
structure CalY (P : Program) (w : World) (K : PySem.W.Frag) (mg : Str → Option Value) (base : Heap) (x : Str) (k : Nat) (ps : List Str) (ds : List Value) (dvs : List V) (sp : Sp) : Prop where
  ex : ∃ f fd, FnOk P w K mg base (CXd P w) k f fd ps sp ∧ Binds K fd ps ds ∧ PySem.W.keepIn K (.ref f) = true ∧ mg x = some (.ref f)
  dv : Vals dvs ds
theorem Passes.noneD {P : Program} {w : World} {X : Cx} : Passes (CXd P w) X E0 := fun _ _ _ _ _ _ _ ⟨_, _, _, _, _, _, _, _, _, _, h⟩ => h.elim
theorem pe_clND {X : Cx} {x : Str} {k j : Nat} {ps : List Str} {ds : List Value} {dvs : List V} {sp : Sp} {e : Expr} {es : List Expr} {t : TA} {p pos : Pos} (C : CalY X.prog X.w X.K X.mg X.base x k ps ds dvs sp) (hr : Room j X.A) (ha : PA X (e :: es) t) (hkj : k ≤ j := by decide) (hg : Gl X x := by rfl)
    (hdb : (x == ("__debug__" : Str)) = false := by decide) (he : starEach (e :: es) X.env = (false, eval e X.env) :: starEach es X.env := by rfl) (hpl : (backTo pos (starEach es X.env)).any (·.1) = false := by rfl) :
    PE X (.Call (.Name x p) (e :: es) [] pos) (tCall sp dvs E0 t) := by
  obtain ⟨f, fd, F, b, kp, m⟩ := C.ex
  exact pe_call F (hr.mono hkj) hg m kp b C.dv Passes.noneD ha hdb he hpl
theorem pe_clXD {P : Program} {w : World} {K : PySem.W.Frag} {mg : Str → Option Value} {base : Heap} {N : List Str} {qual : Str} {scope : Scope} {f : Addr} {cd : Value} {A : Around} {outer : List Env} {s : Shared} {H : Hp} {E : XK}
    {x : Str} {k j : Nat} {ps : List Str} {ds : List Value} {dvs : List V} {sp : Sp} {e : Expr} {es : List Expr} {t : TA} {p pos : Pos} (C : CalY P w K mg base x k ps ds dvs sp) (hr : Room j (A.deeper (envOfC qual scope s.heap.objs.size f cd)))
    (ha : PA (cxOf (CXd P w) P w K mg base N qual scope f cd A outer s H E) (e :: es) t) (hkj : k ≤ j := by decide) (hg : Gl (cxOf (CXd P w) P w K mg base N qual scope f cd A outer s H E) x := by rfl)
    (hdb : (x == ("__debug__" : Str)) = false := by decide) (he : starEach (e :: es) (envOfC qual scope s.heap.objs.size f cd) = (false, eval e (envOfC qual scope s.heap.objs.size f cd)) :: starEach es (envOfC qual scope s.heap.objs.size f cd) := by rfl)
    (hpl : (backTo pos (starEach es (envOfC qual scope s.heap.objs.size f cd))).any (·.1) = false := by rfl) :
    PE (cxOf (CXd P w) P w K mg base N qual scope f cd A outer s H E) (.Call (.Name x p) (e :: es) [] pos) (tCall sp dvs E t) := by
  obtain ⟨f, fd, F, b, kp, m⟩ := C.ex
  exact pe_call F (hr.mono hkj) hg m kp b C.dv pass_onD ha hdb he hpl
theorem okXD {P : Program} {w : World} {K : PySem.W.Frag} {mg : Str → Option Value} {base : Heap} {x qual : Str} {st : Stmt} {f : Addr} {fd : FuncData} {N ps : List Str} {k : Nat} {sp : Sp} {dV : Value}
    (F : ∃ (oc : Value) (od : Option Addr) (kV doc pm : Value) (an : Option Addr) (cdv ct : Value) (osl : Array (Option Value)),
      fd = PySem.W.fnOf x qual (defArgs st) (defBody st) (defScope st) dV kV doc pm an cdv ct ∧ K.lookup f = some ⟨oc, od, .func fd, osl⟩ ∧ PySem.W.codeIn K cdv qual = true)
    (S : FnScope N ps (defScope st)) (len : ∀ vs H Q E, sp vs H Q E → vs.length = ps.length)
    (hbody : ∀ (cdv : Value) (A : Around) (outer : List Env) (s : Shared) (H : Hp) (vs : List V) (Q : VK) (E : XK), Room k (A.deeper (envOfC qual (defScope st) s.heap.objs.size f cdv)) → sp vs H Q E →
      ∃ t, PSs (cxOf (CXd P w) P w K mg base N qual (defScope st) f cdv A outer s H E) (defBody st) t ∧ t { nx := fun _ H' => Q .non H', rt := Q } (start N vs) H) : FnOk P w K mg base (CXd P w) (k + 1) f fd ps sp := by
  obtain ⟨oc, od, kV, doc, pm, an, cdv, ct, osl, rfl, lk, hcd⟩ := F
  exact fn_of lk hcd S len fun A outer s H vs Q E hr hsp => hbody cdv A outer s H vs Q E hr hsp
noncomputable def XPD (X : Cx) (pins : List (Addr × Obj)) (R : Value → Option Addr → L2.St → Hp → Prop) (e : Value) (s' : Shared) : Prop :=
  ∃ a C dx σ' H' H1 s1, e = .ref a ∧ Inv X pins σ' H1 s1 ∧ Inv X pins σ' H' s' ∧ FlyD X.stack H' s1.heap a C dx s'.heap ∧ R C dx σ' H'
noncomputable def PSxD (X : Cx) (st : Stmt) (t : (Value → Option Addr → L2.St → Hp → Prop) → TS) : Prop :=
  ∀ (pins : List (Addr × Obj)) (s : Shared) (σ : L2.St) (H : Hp) (D : Ends) (R : Value → Option Addr → L2.St → Hp → Prop), Inv X pins σ H s → t R D σ H → wpAny (model X.prog X.w) X.A (exec st X.env) (SP X pins D) (XPD X pins R) s
noncomputable def tXCallD (sp : Sp) (dvs : List V) (t : TA) : (Value → Option Addr → L2.St → Hp → Prop) → TS := fun R D σ H => t σ H fun vs H1 => sp (vs ++ dvs) H1 (fun _ H2 => D.nx σ H2) fun C dx H2 => R C dx σ H2
theorem psx_callD {X : Cx} {x : Str} {k j : Nat} {ps : List Str} {ds : List Value} {dvs : List V} {sp : Sp} {e : Expr} {es : List Expr} {t : TA} {p pos pos' : Pos} (C : CalY X.prog X.w X.K X.mg X.base x k ps ds dvs sp) (hr : Room j X.A) (ha : PA X (e :: es) t) (hxe : X.xe = (fun _ _ => False) := by rfl) (hkj : k ≤ j := by decide) (hg : Gl X x := by rfl)
    (hdb : (x == ("__debug__" : Str)) = false := by decide) (he : starEach (e :: es) X.env = (false, eval e X.env) :: starEach es X.env := by rfl) (hpl : (backTo pos (starEach es X.env)).any (·.1) = false := by rfl)
    (hs : swapsWith (.Call (.Name x p) (e :: es) [] pos) none pos'.line X.env = pure false := by rfl) :
    PSxD X (.Expr (.Call (.Name x p) (e :: es) [] pos) pos') (tXCallD sp dvs t) := by
  obtain ⟨f, fd, F, b, kp, m⟩ := C.ex
  intro pins s σ H D R I h
  have ha' := ha pos pins s σ H _ I h
  rw [hxe] at ha'
  refine wpAny_Expr_any (wpAny_Call_Name_kw (ld_glob I hg m ?_ hdb)) I.quiet hs
  refine PySem.W.callWith_K (h₀ := X.base) I.ok.mod.kin kp (wpAny_mono ha' (fun us s1 h1 => ?_) fun _ _ z => False.elim z) he hpl
  obtain ⟨vs, H1, I1, r, q⟩ := h1
  refine ⟨I1.kIn, ?_⟩
  have r2 : Vals (vs ++ dvs) (us ++ ds) := r.append C.dv
  have hl : (us ++ ds).length = ps.length := by rw [← r2.length]; exact F.len _ _ _ _ q
  refine wpAny_call (codeAny_mono (F.run X.A X.stack s1 H1 ⟨us, []⟩ (us ++ ds) (vs ++ dvs) _ _ (hr.mono hkj) I1.env0 (b s1 us I1.kIn hl) r2 q) fun res s2 hq => ?_)
  cases res with
  | error ev =>
    obtain ⟨a, Cv, dx, H2, rfl, os, bare, un, hok, fly, hE⟩ := hq
    exact ⟨a, Cv, dx, σ, H2, H1, s1, rfl, I1, I1.call' (ch := []) os un hok bare (fun b z => absurd z (by simp)), fly, hE⟩
  | ok fl =>
    cases fl with
    | ret u =>
      obtain ⟨v, H2, I2, rv, qv⟩ := I1.after hq
      exact ⟨σ, H2, I2, qv⟩
    | next => exact False.elim hq
    | brk => exact False.elim hq
    | cont => exact False.elim hq
section
variable {X : Cx} {pins : List (Addr × Obj)} {σ : L2.St} {H : Hp} {s : Shared}
noncomputable def ExcAtD (a : Addr) (C : Value) (dx : Option Addr) (h : Heap) : Prop := ∃ o, h.get? a = some o ∧ o.cls = C ∧ o.dict = dx ∧ ∃ vs, o.data = .fields vs
theorem trackedD {a : Addr} {C : Value} {dx : Option Addr} (I : Inv X pins σ H s) (ha : H a = none) (hs : X.s₀.heap.get? a = none) (hx : ExcAtD a C dx s.heap) (hL : a ≠ X.env.locals) (hc : ∀ x c, X.env.cells.lookup x = some c → c ≠ a) (hp : ∀ p ∈ X.pn ++ pins, p.1 ≠ a) :
    Inv X pins σ (upd H a (.ext (ExcAtD a C dx))) s := by
  have ne : ∀ b u, H b = some u → b ≠ a := fun b u q z => by rw [z, ha] at q; cases q
  refine ⟨I.ok, I.os, I.bare, ⟨I.base.keep, I.base.slot, fun b o q n h2 => ?_, I.base.there, fun b xs q => ?_, fun b o u q => ?_, fun b ps q => ?_⟩, I.loc, I.cell, ?_, fun x c e => ?_, fun p hq => ?_, fun b ob q => ?_, I.len⟩
  · rw [upd_ne (fun z => by rw [z, hs] at q; cases q)]
    exact I.base.free b o q n h2
  · have q1 := I.base.tups b xs q
    rw [upd_ne (ne b _ q1)]
    exact q1
  · have q1 := I.base.frzs b o u q
    rw [upd_ne (ne b _ q1)]
    exact q1
  · obtain ⟨mr, q1⟩ := I.base.tbls b ps q
    exact ⟨mr, by rw [upd_ne (ne b _ q1)]; exact q1⟩
  · rw [upd_ne hL.symm]
    exact I.free
  · rw [upd_ne (hc x c e)]
    exact I.freeC x c e
  · obtain ⟨q1, q2, q3⟩ := I.pin p hq
    exact ⟨q1, by rw [upd_ne (hp p hq)]; exact q2, q3⟩
  · by_cases hb : b = a
    · subst hb
      rw [upd_same] at q
      cases q
      obtain ⟨o, e1, e2⟩ := hx
      refine ⟨⟨o, e1, e2⟩, ⟨o, e1⟩, fun h1 h2 ⟨o1, e3, e4⟩ k => ⟨o1, k o1 e3, e4⟩⟩
    · rw [upd_ne hb] at q
      exact (I.hok b ob q).stay (fun _ _ _ z => z) (fun c z => by rw [upd_ne (ne c _ z)]; exact z) fun c xs z => by rw [upd_ne (ne c _ z)]; exact z
end
noncomputable def tTryD (K : PySem.W.Frag) (C0 : Addr) (i : Nat) (tb : (Value → Option Addr → L2.St → Hp → Prop) → TS) (ts : Addr → TS) : TS := fun D σ H =>
  tb (fun C dx σ' H' => PySem.W.exmOne K C (.ref C0) = some true ∧ ∀ a, H' a = none → ts a (unb i D) (σ'.set i (some (.ref a))) (upd H' a (.ext (ExcAtD a C dx)))) D σ H
theorem ps_tryD {X : Cx} {st b0 : Stmt} {x n : Str} {np hpos pos : Pos} {suite : List Stmt} {C0 : Addr} {tb : (Value → Option Addr → L2.St → Hp → Prop) → TS} {ts : Addr → TS} (i : Nat) (hb : PSxD X st tb) (hm : X.mg x = some (.ref C0)) (hs : ∀ a, PSs (hdl X a) (b0 :: suite) (ts a))
    (hN : X.N.Nodup) (hi : X.N[i]? = some n := by rfl) (hn : X.env.scope.names.lookup n = some .local := by rfl) (hg : Gl X x := by rfl) (hst : X.stack = X.env :: X.outer := by rfl) (hfr : X.env.frame = some X.env.locals := by rfl) (hex : X.ex = [] := by rfl) (hd : (x == ("__debug__" : Str)) = false := by decide) :
    PS X (.Try [st] [.ExceptHandler (some (.Name x np)) (some n) (b0 :: suite) hpos] [] [] pos) (tTryD X.K C0 i tb ts) := by
  intro pins s σ H D I h
  refine wpAny_Try_except (wpAny_execs_cons (wpAny_mono (hb pins s σ H D _ I h) (fun fl s1 q => ?_) (fun e s1 q => ?_)))
  · cases fl with
    | next => exact wpAny_execs_nil (wpAny_execs_nil q)
    | ret v => exact q
    | brk => exact q
    | cont => exact q
  · obtain ⟨a, C, dx, σ1, H1, H0, s0, rfl, I0, I1, fly, hx, hk⟩ := q
    obtain ⟨B, T, fl, cov, ha, hT, h0a, h0T⟩ := fly.ex
    have fl' : FlD B (X.env :: X.outer) a C dx .none s1.heap := by rw [← hst]; exact fl
    refine note_on (by rw [← hst]; exact I1.ok.frames) hfr fl' fun h4 held4 up4 => ?_
    refine lands (s := { s1 with heap := h4 }) held4 fun h5 fl5 up5 => ?_
    have I5 := landed hex I0 I1 h0a h0T ha hT cov fl5.st (up4.trans up5)
    refine wpAny_handleBy_cons (codeAny_handlers_test (ld_glob (X := hdl X a) (inHdl I5 a) hg hm ?_ hd)) (by intro q; cases q)
    obtain ⟨oe, hoe, hoc, _⟩ := fl5.there
    have LT : PySem.W.Looks (model X.prog X.w) h5 (typeOf (.ref a)) C := hoc ▸ (PySem.W.Looks.ld hoe).andThen .now
    refine (PySem.W.exm_one I5.kIn LT hx) _ _ _ _ (fun _ _ q => q) ?_
    refine codeAny_handlers_suite_as (lands (s := { s1 with heap := h5 }) fl5 fun h6 fl6 up6 => ?_)
    have I6 := landed hex I0 I1 h0a h0T ha hT cov fl6.st ((up4.trans up5).trans up6)
    obtain ⟨oe6, hoe6, hoc6⟩ := fl6.there
    have ne0 : ∀ b o, s0.heap.get? b = some o → b ≠ a := fun b o q z => by rw [z, h0a] at q; cases q
    have I7 := trackedD (a := a) (C := C) (dx := dx) I6 ha (by
        cases q : X.s₀.heap.get? a with
        | none => rfl
        | some o =>
          obtain ⟨o', q1⟩ := I0.base.there a o q (by rw [hex]; simp)
          exact absurd rfl (ne0 a o' q1)) ⟨oe6, hoe6, hoc6⟩ (by
        obtain ⟨m, ⟨o, _, _, q, _⟩, _⟩ := I0.loc
        exact (ne0 _ o q).symm) (fun y c e => by
        obtain ⟨v, o, q, _⟩ := I0.cell y c e
        exact ne0 c o q) (fun p hp => ne0 _ _ (I0.pin p hp).1)
    refine store_ok (X := hdl X a) (inHdl I7 a) hN hi (.inl hn) (v := .ref a) rfl (fun s8 I8 => ?_) (.inr hn)
    refine wpAny_mono (hs a pins s8 _ _ _ I8 (hk a ha)) (fun f9 s9 q9 => ?_) (fun _ _ z => False.elim z)
    have gone : ∀ σ9 H9, Inv X pins σ9 H9 s9 → (∀ s10, Inv X pins (σ9.set i none) H9 s10 → SP X pins D f9 s10) →
        wpAny (model X.prog X.w) X.A (do bindName X.env n .none; unbindBehindTheSuite X.env n hpos) (fun _ s10 => SP X pins D f9 s10) X.xe s9 := fun σ9 H9 I9 k => by
      obtain ⟨m9, n9, l9⟩ := I9.loc
      exact wpAny_nameGoes_keeps hn n9 (by rw [I9.ok.kind]; rfl) fun h10 v n10 sb10 => k _ (unnamed I9 hN hi l9 n10 sb10)
    cases f9 with
    | next =>
      obtain ⟨σ9, H9, I9, z⟩ := q9
      exact gone σ9 H9 (outHdl I9 I.ok) fun s10 I10 => ⟨_, H9, I10, z⟩
    | brk =>
      obtain ⟨σ9, H9, I9, z⟩ := q9
      exact gone σ9 H9 (outHdl I9 I.ok) fun s10 I10 => ⟨_, H9, I10, z⟩
    | cont =>
      obtain ⟨σ9, H9, I9, z⟩ := q9
      exact gone σ9 H9 (outHdl I9 I.ok) fun s10 I10 => ⟨_, H9, I10, z⟩
    | ret u =>
      obtain ⟨v, σ9, H9, I9, rv, z⟩ := q9
      exact gone σ9 H9 (outHdl I9 I.ok) fun s10 I10 => ⟨v, _, H9, I10, rv, z⟩
end L3

namespace L3
open PySem PySem.Spec PyProof.Rows L2 Ra
noncomputable def tFldX (K : PySem.W.Frag) (ta : TE) (f : Str) : TE := fun σ H Q => ta σ H fun x H1 => ∃ a C d fs v, x = .ref a ∧ H1 a = some (.ext (ExcAtD a (.ref C) (some d))) ∧ ExcCls K C ∧ PySem.W.hasDictIn K C = true ∧ NoAttr K C f ∧ H1 d = some (.xd fs) ∧ fs.lookup f = some v ∧ Q v H1
theorem pe_fldX {X : Cx} {e : Expr} {f : Str} {pos : Pos} {ta : TE} (he : PE X e ta) (hb : attributeBase e f X.env (eval e X.env) = eval e X.env) : PE X (.Attribute e f pos) (tFldX X.K ta f) := by
  intro pins s σ H Q I h
  refine attr_of hb (thn (he pins s σ H _ I h) fun u s1 ⟨x, H1, I1, rx, a, C, d, fs, v, ex, ea, B, hd, n, ed, l, q⟩ => ?_)
  subst ex
  obtain rfl : u = Value.ref a := rx
  obtain ⟨⟨o, h1, h2, h3, vs, h4⟩, _⟩ := (show ObjOk X.prog X.w H1 s1.heap a (.ext (ExcAtD a (.ref C) (some d))) from I1.hok a _ ea)
  obtain ⟨mA, ns, r⟩ := (show ObjOk X.prog X.w H1 s1.heap d (.xd fs) from I1.hok d _ ed)
  obtain ⟨od, hod, look⟩ := lookIn_ns ns
  obtain ⟨u', hu, ru⟩ := RelO.some_of (v := v) (o := mA f) (by rw [← l]; exact r f)
  have In : PySem.W.InstAt s1.heap a o C (some od) := ⟨h1, h2, by unfold PySem.W.notCls; rw [h4], by rw [h3]; exact hod⟩
  exact exc_load I1.kIn B In (PySem.W.findObj_own hd n rfl (by rw [look, hu])) (handed_of ru) ⟨v, H1, I1.tok _, ru, q⟩
noncomputable def NewX (a : Addr) (C : Value) (dx : Option Addr) (h : Heap) : Prop := ∃ o vs, h.get? a = some o ∧ o.cls = C ∧ o.dict = dx ∧ o.data = .fields vs ∧ vs[1]? = some .none
theorem NewX.ok {P : Program} {w : World} {H : Hp} {h : Heap} {a : Addr} {C : Value} {dx : Option Addr} (x : NewX a C dx h) : ObjOk P w H h a (.ext (NewX a C dx)) := by
  obtain ⟨o, vs, e, r⟩ := x
  exact ⟨⟨o, vs, e, r⟩, ⟨o, e⟩, fun h1 h2 ⟨o1, v1, e1, r1⟩ k => ⟨o1, v1, k o1 e1, r1⟩⟩
noncomputable def sFldX (K : PySem.W.Frag) (ta tv : TE) (f : Str) : TS := fun D σ H => tv σ H fun y H1 => ta σ H1 fun x H2 => ∃ a C, x = .ref a ∧ H2 a = some (.ext (NewX a (.ref C) none)) ∧ ExcF K C ∧ NoAttr K C f ∧
  ∀ d, H2 d = none → d ≠ a → D.nx σ (upd (upd H2 d (.xd [(f, y)])) a (.ext (NewX a (.ref C) (some d))))
theorem ps_fldX {X : Cx} {o value : Expr} {f : Str} {pos pos' : Pos} {ta tv : TE} (ha : PE X o ta) (hv : PE X value tv) (hs : swapsWith value (some (.Attribute o f pos')) pos.line X.env = pure false) : PS X (.Assign [.Attribute o f pos'] value pos) (sFldX X.K ta tv f) := by
  intro pins s σ H D I h
  refine plainObj_wpAny_Assign_Attribute (thn (hv pins s σ H _ I h) fun u s1 ⟨y, H1, I1, ry, q⟩ => thn (ha pins s1 σ H1 _ I1 q) fun ov s2 ⟨x, H2, I2, rx, a, C, ex, ea, B, n, q2⟩ => ?_) hs
  subst ex
  obtain rfl : ov = Value.ref a := rx
  obtain ⟨⟨o, vs, h1, h2, h3, h4, h5⟩, _⟩ := (show ObjOk X.prog X.w H2 s2.heap a (.ext (NewX a (.ref C) none)) from I2.hok a _ ea)
  refine exc_store I2.kIn B n h1 h2 h4 h3 fun h' tk e1 e2 e3 => ⟨σ, _, ?_, q2 s2.heap.objs.size (I2.hok.fresh (Nat.le_refl _)) (Nat.ne_of_gt (Heap.lt_size h1))⟩
  have hf : H2 s2.heap.objs.size = none := I2.hok.fresh (Nat.le_refl _)
  have ne : s2.heap.objs.size ≠ a := Nat.ne_of_gt (Heap.lt_size h1)
  have nd : ∀ b ob, s2.heap.get? b = some ob → b ≠ s2.heap.objs.size := fun b ob q => Nat.ne_of_lt (Heap.lt_size q)
  have na : ∀ b, H2 b = none → b ≠ a := fun b q z => by rw [z, ea] at q; cases q
  have same : ∀ b u, H2 b = some u → b ≠ a → (upd (upd H2 s2.heap.objs.size (.xd [(f, y)])) a (.ext (NewX a (.ref C) (some s2.heap.objs.size)))) b = some u := fun b u q z => by
    rw [upd_ne z, upd_ne (fun w => by rw [w, hf] at q; cases q)]
    exact q
  refine I2.call' (s' := { s2 with heap := h', toks := tk }) (ch := []) rfl ⟨fun b ob q z _ _ => e3 b ob (na b z) q, fun b ob q z _ _ => ⟨ob.slots, e3 b ob (na b z) q⟩, fun b ob q z _ => ?_, fun b ob q _ => ?_, fun b xs q => same b _ q ?_, fun b ob u q => same b _ q ?_, fun b ps q => ⟨#[], ?_⟩⟩ (fun b ob q => ?_) I2.bare (fun b z => absurd z (by simp))
  · rw [upd_ne (na b z), upd_ne (nd b ob q)]
    exact z
  · by_cases z : b = a
    · exact ⟨_, z ▸ e1⟩
    · exact ⟨ob, e3 b ob z q⟩
  · intro z
    rw [z, ea] at q
    cases q
  · intro z
    rw [z, ea] at q
    cases q
  · rw [same b _ q fun z => by rw [z, ea] at q; cases q]
    simp
  · by_cases z : b = a
    · subst z
      rw [upd_same] at q
      cases q
      exact NewX.ok ⟨_, vs, e1, h2, rfl, h4, h5⟩
    · by_cases z2 : b = s2.heap.objs.size
      · subst z2
        rw [upd_ne ne, upd_same] at q
        cases q
        refine ⟨_, e2, fun g => ?_⟩
        by_cases w : g = f
        · subst w
          show RelO (List.lookup g [(g, y)]) (if g = g then some u else none)
          rw [if_pos rfl, List.lookup_cons, beq_self_eq_true]
          exact ry
        · show RelO (List.lookup g [(f, y)]) (if g = f then some u else none)
          rw [if_neg w, List.lookup_cons, beq_false_of_ne w]
          exact True.intro
      · rw [upd_ne z, upd_ne z2] at q
        refine (I2.hok b ob q).stay (fun c w hc qc => e3 c w (fun zz => ?_) qc) (fun c zz => same c _ zz fun w => by rw [w, ea] at zz; cases zz) fun c xs zz => same c _ zz fun w => by rw [w, ea] at zz; cases zz
        rcases hc with hc | hc
        · exact z (hc ▸ zz)
        · rw [zz, ea] at hc
          cases hc
end L3

namespace L3
open PySem PySem.Spec PySem.Calls PyProof.Rows L2 Ra
theorem ns_some_of {K : PySem.W.Frag} {h : Heap} {N : Addr} {m : Str → Option Value} {n : Str} {v : Value} (X : K.In h) (G : h.Ns N m) (e : PySem.W.nsIn K N n = some (some v)) : m n = some v := by
  obtain ⟨o, es, ep, ho, hd, _, hf⟩ := G
  unfold PySem.W.nsIn at e
  split at e
  · rename_i q
    have := X _ _ q
    rw [ho] at this
    cases this
    cases hd
    split at e
    · rename_i he
      cases e
      rw [← hf]
      unfold nsFind findBy
      rw [← Array.find?_toList, he]
      rfl
    · split at e <;> cases e
  · cases e
noncomputable def excInI (K : PySem.W.Frag) (C fI : Addr) : Bool := match K.lookup C with
  | some ⟨.type "type", _, .cls cd, sl⟩ => (match cd.mro, sl.toList with
    | .ref C' :: bm, [_, _, _, _, some (.builtin n), _] => C' == C && n == "ValueError.__new__" && !cd.hasDel && PySem.W.tailIn K veMro bm && PySem.W.nsOkIn K cd.ns && PySem.W.nsIn K cd.ns "__init__" == some (some (.ref fI))
    | _, _ => false)
  | _ => false
structure ErrI (K : PySem.W.Frag) (C fI : Addr) : Prop where
  ex : excInI K C fI = true
  fn : PySem.W.isFn K (.ref fI) = true
theorem ErrI.parts {K : PySem.W.Frag} {C fI : Addr} (e0 : ErrI K C fI) :
    ∃ bm Nn nm qn bs hd sn sub ab col dd k0 k1 k2 k3 k5 oI, K.lookup C = some (excClassObj nm qn C Nn bs bm hd sn sub ab col dd k0 k1 k2 k3 k5 "ValueError.__new__") ∧ PySem.W.nsOkIn K Nn = true ∧ PySem.W.nsIn K Nn "__init__" = some (some (.ref fI)) ∧ PySem.W.tailIn K veMro bm = true ∧
      K.lookup fI = some oI ∧ oI.cls = .type "function" := by
  have e := e0.ex
  unfold excInI at e
  split at e
  · rename_i d1 c1 l1 look
    split at e
    · rename_i C1 b1 x0 x1 x2 x3 n1 x5 em es
      simp only [Bool.and_eq_true, beq_iff_eq, Bool.not_eq_true'] at e
      obtain ⟨⟨⟨⟨⟨e1, e2⟩, e3⟩, e4⟩, e5⟩, e6⟩ := e
      subst e1 e2
      obtain ⟨nm, bs, mro, ns, qn, hd, sn, sub, ab, col, del⟩ := c1
      dsimp only at em e3 e5 e6
      subst em e3
      obtain ⟨arr⟩ := l1
      have es' : arr = [x0, x1, x2, x3, some (.builtin "ValueError.__new__"), x5] := es
      subst es'
      obtain ⟨oI, lI, cI⟩ := Option.map_eq_some_iff.mp (show (K.lookup fI).map (·.cls) = some (.type "function") from beq_iff_eq.mp e0.fn)
      exact ⟨b1, ns, nm, qn, bs, hd, sn, sub, ab, col, d1, x0, x1, x2, x3, x5, oI, look, e5, e6, e4, lI, cI⟩
    · cases e
  · cases e
section
variable {prog : Program} {w : World} {A : Around} {E : Value → Shared → Prop} {h : Heap} {g : Array GenState} {d : Drawn} {t : Nat} {os : OsState}
variable {nm q : Str} {C N : Addr} {bs bm bmB : List Value} {hdct : Bool} {sn : List Str} {sub : List Value} {ab : Bool} {col : Option Bool} {dd : Option Addr} {k0 k1 k2 k3 k5 : Option Value} {B newId initId : String}
theorem tcall_init (F : ExcBaseFacts B newId initId bmB) (T : OwnTail h bmB bm) {mN : Str → Option Value} {rest : List Value} {fI : Addr} {oI : Obj} {Q : Fin → Shared → Prop}
    (hC : h.get? C = some (excClassObj nm q C N bs bm hdct sn sub ab col dd k0 k1 k2 k3 k5 newId)) (hn : h.Ns N mN) (hi : mN "__init__" = some (.ref fI)) (hfI : h.get? fI = some oI) (hfc : oI.cls = .type "function") (hrest : rest.length ≤ sizeLine)
    (hq : ∀ h' e, Heap.MadeExcOf h h' e (.ref C) rest → wpAny (model prog w) A (call (.ref fI) (.ref e :: rest)) (fun r s' => r = .none ∧ Q (.done (.ret (.ref e))) s') E ⟨h', g, d, t, os⟩) :
    wpAny (model prog w) A (Builtin.«type.__call__» ⟨.ref C :: rest, []⟩) Q E ⟨h, g, d, t, os⟩ := by
  repeat (first | with_reducible refine wpAny_loadPart_at hC ?_ | with_reducible refine wpAny_madeBy_exc hC ?_ | wp_step)
  refine codeAny_call_builtin_code (Code.quiet_builtin _ F.quiet) (wpAny_check_new_subT F T hC (codeAny_exc_new_subT F T hC ?_ hrest))
  show wpAny _ _ _ _ _ _
  have kp : ∀ b o, h.get? b = some o → ((h.push { cls := .type "tuple", data := .seq rest.toArray }).push { cls := .ref C, data := .fields #[.ref h.objs.size, .none, .none, .none, .bool false, .none] }).get? b = some o :=
    fun b o e => Heap.get?_push_of_some _ (Heap.get?_push_of_some _ e)
  have hn1 := hn.keeps kp
  have T1 := T.keeps kp
  have hC1 := kp _ _ hC
  have hf1 := kp _ _ hfI
  have hget : ((h.push { cls := .type "tuple", data := .seq rest.toArray }).push { cls := .ref C, data := .fields #[.ref h.objs.size, .none, .none, .none, .bool false, .none] }).get? (h.objs.size + 1) = some
      { cls := .ref C, data := .fields #[.ref h.objs.size, .none, .none, .none, .bool false, .none] } := by heap_get
  have made : Heap.MadeExcOf h ((h.push { cls := .type "tuple", data := .seq rest.toArray }).push { cls := .ref C, data := .fields #[.ref h.objs.size, .none, .none, .none, .bool false, .none] }) (h.objs.size + 1) (.ref C) rest :=
    ⟨kp, Heap.get?_none_of_le (Nat.le_succ _), h.objs.size, hget, Heap.get?_none_of_le (Nat.le_refl _), Heap.get?_push_of_some _ (Heap.get?_push_at rfl rfl)⟩
  have hcC : (Value.ref C :: bm).contains (.ref C) = true := by simp
  unfold isInstance
  repeat (first | with_reducible refine wpAny_loadPart_at hget ?_ | (with_reducible refine wpAny_isSubtype_exc hC1 ?_; rw [hcC]) | wp_step)
  show wpAny _ _ (typeLookup (.ref C) _) _ _ _
  refine wpAny_typeLookup_tail hC1 hn1 T1 F.mroIs F.init.lookup ?_
  rw [hi]
  refine wpAny_holding (wpAny_bind ?_)
  unfold bindSpecial
  refine wpAny_bind (wpAny_typeOf (T := "function") ⟨_, hf1, hfc⟩ ?_)
  rw [if_pos (by decide)]
  refine wpAny_pure (wpAny_bind (wpAny_mono (hq _ (h.objs.size + 1) made) (fun r s' hr => ?_) fun _ _ x => x))
  obtain ⟨rfl, hQ⟩ := hr
  wp_walk
  exact hQ
theorem call_init (F : ExcBaseFacts B newId initId bmB) (T : OwnTail h bmB bm) {mN : Str → Option Value} {rest : List Value} {fI : Addr} {oI : Obj} {Q : Value → Shared → Prop}
    (hC : h.get? C = some (excClassObj nm q C N bs bm hdct sn sub ab col dd k0 k1 k2 k3 k5 newId)) (hn : h.Ns N mN) (hi : mN "__init__" = some (.ref fI)) (hfI : h.get? fI = some oI) (hfc : oI.cls = .type "function") (hrest : rest.length ≤ sizeLine)
    (hq : ∀ h' e, Heap.MadeExcOf h h' e (.ref C) rest → wpAny (model prog w) (A.under (.builtin "type.__call__" ⟨.ref C :: rest, []⟩)) (call (.ref fI) (.ref e :: rest)) (fun r s' => r = .none ∧ Q (.ref e) s') E ⟨h', g, d, t, os⟩) :
    wpAny (model prog w) A (call (.ref C) rest) Q E ⟨h, g, d, t, os⟩ := by
  have f1 := tc_lookup
  have f2 := tc_bind (.ref C)
  have hT : (⟨h, g, d, t, os⟩ : Shared).TypeIs (.ref C) "type" := ⟨_, hC, rfl⟩
  refine wpAny_call (codeAny_of_tree ?_)
  show wpAny _ _ (callAny (.ref C) _) _ _ _
  repeat (any_goals (first | assumption | with_reducible refine wpAny_loadPart_at hC ?_ | wp_step))
  refine ⟨rfl, ?_⟩
  exact codeAny_call_builtin_at (Code.quiet_builtin _ (by decide +kernel)) entry_typeCall (wpAny_check_type_call_sub hC (tcall_init F T hC hn hi hfI hfc hrest fun h' e hm => hq h' e hm))
end
section
variable {M : Model} {A : Around} {E : Value → Shared → Prop} {env : Env}
variable {nm q : Str} {C N : Addr} {bs bm : List Value} {hdct : Bool} {sn : List Str} {sub : List Value} {ab : Bool} {col : Option Bool} {dd : Option Addr} {k0 k1 k2 k3 k5 : Option Value} {newId : String}
theorem raise_any {s : Shared} {x : Sem Value} {Q : Flow → Shared → Prop} (hbase : bm.contains (.type "BaseException") = true) (hh : A.handled = none)
    (h : wpAny M A x (fun v s₁ => ∃ e oe vs, v = .ref e ∧ s₁.heap.get? C = some (excClassObj nm q C N bs bm hdct sn sub ab col dd k0 k1 k2 k3 k5 newId) ∧ s₁.heap.get? e = some oe ∧ oe.cls = .ref C ∧ oe.data = .fields vs ∧ vs[1]? = some .none ∧ E (.ref e) s₁) E s) :
    wpAny M A (raiseStmt env (some x) none) Q E s := by
  have hcB : (Value.ref C :: bm).contains (.type "BaseException") = true := by rw [List.contains_cons, hbase, Bool.or_true]
  unfold raiseStmt
  refine wpAny_bind (wpAny_mono h (fun v s₁ h₁ => ?_) fun _ _ x => x)
  obtain ⟨e, oe, vs, rfl, hC, he, hcl, hdt, h1, hE⟩ := h₁
  obtain ⟨hp, g, d, tk, os⟩ := s₁
  obtain ⟨oc, od, oda, osl⟩ := oe
  dsimp only at hcl hdt
  subst hcl hdt
  repeat (first | with_reducible refine wpAny_loadPart_at he ?_ | with_reducible refine wpAny_loadPart_at hC ?_ | (with_reducible refine wpAny_isSubtype_exc hC ?_; rw [hcB]) | wp_step)
  rw [h1]
  refine wpAny_pure ?_
  rw [if_neg (by decide)]
  exact wpAny_pure (wpAny_raiseNew_none hh hE)
end
noncomputable def drp (H : Hp) (a : Addr) : Hp := fun b => if b = a then none else H b
theorem drp_ne {H : Hp} {a b : Addr} (h : b ≠ a) : drp H a b = H b := if_neg h
theorem drp_same {H : Hp} {a : Addr} : drp H a a = none := if_pos rfl
theorem untracked {X : Cx} {pins : List (Addr × Obj)} {σ : L2.St} {H : Hp} {s : Shared} {a : Addr} {φ : Heap → Prop} (I : Inv X pins σ H s) (ha : H a = some (.ext φ)) : Inv X pins σ (drp H a) s := by
  have ne : ∀ b u, H b = some u → u ≠ .ext φ → b ≠ a := fun b u q n z => by
    rw [z, ha] at q
    cases q
    exact n rfl
  have dn : ∀ b, H b = none → drp H a b = none := fun b q => by
    by_cases z : b = a
    · rw [z]; exact drp_same
    · rw [drp_ne z]; exact q
  refine ⟨I.ok, I.os, I.bare, ⟨I.base.keep, I.base.slot, fun b o q n h2 => dn b (I.base.free b o q n h2), I.base.there, fun b xs q => ?_, fun b o u q => ?_, fun b ps q => ?_⟩, I.loc, I.cell, dn _ I.free, fun x c e => dn _ (I.freeC x c e), fun p hq => ?_, fun b ob q => ?_, I.len⟩
  · have q1 := I.base.tups b xs q
    rw [drp_ne (ne b _ q1 (by intro z; cases z))]
    exact q1
  · have q1 := I.base.frzs b o u q
    rw [drp_ne (ne b _ q1 (by intro z; cases z))]
    exact q1
  · obtain ⟨mr, q1⟩ := I.base.tbls b ps q
    exact ⟨mr, by rw [drp_ne (ne b _ q1 (by intro z; cases z))]; exact q1⟩
  · obtain ⟨q1, q2, q3⟩ := I.pin p hq
    exact ⟨q1, dn _ q2, q3⟩
  · have z : b ≠ a := fun z => by rw [z, drp_same] at q; cases q
    rw [drp_ne z] at q
    exact (I.hok b ob q).stay (fun _ _ _ w => w) (fun c w => by rw [drp_ne (ne c _ w (by intro z; cases z))]; exact w) fun c xs w => by rw [drp_ne (ne c _ w (by intro z; cases z))]; exact w
theorem track {X : Cx} {pins : List (Addr × Obj)} {σ : L2.St} {H : Hp} {s : Shared} {a : Addr} {φ : Heap → Prop} (I : Inv X pins σ H s) (ha : H a = none) (hs : X.s₀.heap.get? a = none) (hx : ∀ H', ObjOk X.prog X.w H' s.heap a (.ext φ)) (hL : a ≠ X.env.locals)
    (hc : ∀ x c, X.env.cells.lookup x = some c → c ≠ a) (hp : ∀ p ∈ X.pn ++ pins, p.1 ≠ a) : Inv X pins σ (upd H a (.ext φ)) s := by
  have ne : ∀ b u, H b = some u → b ≠ a := fun b u q z => by rw [z, ha] at q; cases q
  have up : ∀ b u, H b = some u → upd H a (.ext φ) b = some u := fun b u q => by rw [upd_ne (ne b u q)]; exact q
  refine ⟨I.ok, I.os, I.bare, ⟨I.base.keep, I.base.slot, fun b o q n h2 => ?_, I.base.there, fun b xs q => up b _ (I.base.tups b xs q), fun b o u q => up b _ (I.base.frzs b o u q), fun b ps q => ?_⟩, I.loc, I.cell, ?_, fun x c e => ?_, fun p hq => ?_, fun b ob q => ?_, I.len⟩
  · rw [upd_ne (fun z => by rw [z, hs] at q; cases q)]
    exact I.base.free b o q n h2
  · obtain ⟨mr, q1⟩ := I.base.tbls b ps q
    exact ⟨mr, up b _ q1⟩
  · rw [upd_ne hL.symm]
    exact I.free
  · rw [upd_ne (hc x c e)]
    exact I.freeC x c e
  · obtain ⟨q1, q2, q3⟩ := I.pin p hq
    exact ⟨q1, by rw [upd_ne (hp p hq)]; exact q2, q3⟩
  · by_cases hb : b = a
    · subst hb
      rw [upd_same] at q
      cases q
      exact hx _
    · rw [upd_ne hb] at q
      exact (I.hok b ob q).stay (fun _ _ _ z => z) (fun c z => up c _ z) fun c xs z => up c _ z
noncomputable def tRaiseI (E : XK) (C : Addr) (sp : Sp) (ta : TA) : TS := fun _ σ H => ta σ H fun vs H1 => vs.length ≤ sizeLine ∧ ∀ e, H1 e = none →
  sp (.ref e :: vs) (upd H1 e (.ext (NewX e (.ref C) none))) (fun r H2 => r = .non ∧ ∃ dx, H2 e = some (.ext (NewX e (.ref C) dx)) ∧ E (.ref C) dx (drp H2 e)) E0
theorem ps_raiseI {P : Program} {w : World} {K : PySem.W.Frag} {mg : Str → Option Value} {base : Heap} {N : List Str} {qual : Str} {scope : Scope} {f : Addr} {cd : Value} {A : Around} {outer : List Env} {s : Shared} {H : Hp} {E : XK}
    {x : Str} {C fI : Addr} {fd : FuncData} {ps : List Str} {sp : Sp} {k j : Nat} {np cpos pos : Pos} {e0 : Expr} {rest : List Expr} {ta : TA} (hm : mg x = some (.ref C)) (ho : ErrI K C fI) (kp : PySem.W.keepIn K (.ref C) = true) (F : FnOk P w K mg base CX0 k fI fd ps sp) (hb : Binds K fd ps [])
    (hr : Room j (A.deeper (envOfC qual scope s.heap.objs.size f cd))) (ha : PA (cxOf (CXd P w) P w K mg base N qual scope f cd A outer s H E) (e0 :: rest) ta) (hkj : k + 1 ≤ j := by decide)
    (hg : Gl (cxOf (CXd P w) P w K mg base N qual scope f cd A outer s H E) x := by rfl) (hdb : (x == ("__debug__" : Str)) = false := by decide)
    (he : starEach (e0 :: rest) (envOfC qual scope s.heap.objs.size f cd) = (false, eval e0 (envOfC qual scope s.heap.objs.size f cd)) :: starEach rest (envOfC qual scope s.heap.objs.size f cd) := by rfl)
    (hpl : (backTo cpos (starEach rest (envOfC qual scope s.heap.objs.size f cd))).any (·.1) = false := by rfl) :
    PS (cxOf (CXd P w) P w K mg base N qual scope f cd A outer s H E) (.Raise (some (.Call (.Name x np) (e0 :: rest) [] cpos)) none pos) (tRaiseI E C sp ta) := by
  intro pins s1 σ H1 D I h
  obtain ⟨bm, Nn, nm, qn, bs, hd, sn, sub, ab, col, dd, k0, k1, k2, k3, k5, oI, look, nok, nin, tl, lI, cI⟩ := ho.parts
  rw [arm_exec_Raise]
  refine wpAny_bind (wpAny_standAt (raise_any (C := C) (nm := nm) (q := qn) (N := Nn) (bs := bs) (bm := bm) (hdct := hd) (sn := sn) (sub := sub) (ab := ab) (col := col) (dd := dd) (k0 := k0) (k1 := k1) (k2 := k2) (k3 := k3) (k5 := k5) (newId := "ValueError.__new__")
    ((PySem.W.tail_of_in I.kIn tl).hasType PySem.F.excBase_ValueError.hasBase) (I.ok.hd rfl) (wpAny_bind (wpAny_mono (wpAny_Call_ofName (ld_glob I hg hm ?_ hdb)) (fun v s3 h3 => wpAny_bind (wpAny_standAt (wpAny_pure h3))) fun _ _ x => x))))
  refine PySem.W.callWith_K (h₀ := base) I.ok.mod.kin kp (thn (ha cpos pins s1 σ H1 _ I h) fun us s2 ⟨vs, H2, I2, r, hlen, q⟩ => ⟨I2.kIn, ?_⟩) he hpl
  have kin := I2.kIn
  have nex : ∀ b, b ∉ (cxOf (CXd P w) P w K mg base N qual scope f cd A outer s H E).ex := fun b z => absurd (show b ∈ ([] : List Addr) from z) (by simp)
  obtain ⟨hp2, g2, d2, t2, os2⟩ := s2
  have G : hp2.Ns Nn (hp2.nsMap Nn) := .of_isNs (PySem.W.isNs_of_in kin nok)
  refine call_init PySem.F.excBase_ValueError (PySem.W.tail_of_in kin tl) (kin _ _ look) G (ns_some_of kin G nin) (kin _ _ lI) cI (by rw [List.nil_append, ← r.length]; exact hlen) fun h' e hx => ?_
  obtain ⟨tt, at_, _, _⟩ := hx.there
  have gone : ∀ b o, hp2.get? b = some o → b ≠ e := fun b o qb z => by rw [z, hx.new] at qb; cases qb
  have hH : H2 e = none := by
    cases qe : H2 e with
    | none => rfl
    | some u =>
      obtain ⟨ob, qo⟩ := got (I2.hok e u qe)
      exact absurd rfl (gone e ob qo)
  have hs0 : s.heap.get? e = none := by
    cases qe : s.heap.get? e with
    | none => rfl
    | some o =>
      obtain ⟨o', q1⟩ := I2.base.there e o qe (nex e)
      exact absurd rfl (gone e o' q1)
  have I3 : Inv (cxOf (CXd P w) P w K mg base N qual scope f cd A outer s H E) pins σ (upd H2 e (.ext (NewX e (.ref C) none))) ⟨h', g2, d2, t2, os2⟩ :=
    track (I2.kept (t' := t2) fun b ob qb => hx.keeps b ob qb) hH hs0 (fun H' => NewX.ok ⟨_, _, at_, rfl, rfl, rfl, rfl⟩)
      (by obtain ⟨m, ⟨o, _, _, qo, _⟩, _⟩ := I2.loc; exact (gone _ o qo).symm) (fun y c ec => by obtain ⟨v, o, qo, _⟩ := I2.cell y c ec; exact gone c o qo) fun p hp => gone _ _ (I2.pin p hp).1
  have hq := q e hH
  have r2 : Vals (V.ref e :: vs) (Value.ref e :: us) := .cons rfl r
  have hl : (Value.ref e :: us ++ []).length = ps.length := by
    have z := r2.length
    rw [F.len _ _ _ _ hq] at z
    rw [List.append_nil]
    exact z.symm
  have hbt := hb ⟨h', g2, d2, t2, os2⟩ (Value.ref e :: us) I3.kIn hl
  rw [List.append_nil] at hbt
  refine wpAny_call (codeAny_mono (F.run _ _ _ _ ⟨Value.ref e :: us, []⟩ (Value.ref e :: us) _ _ E0 ((hr.mono hkj).make C us []) (I3.env0.make C us []) hbt r2 hq) fun res s4 h4 => ?_)
  cases res with
  | error ev => exact False.elim h4
  | ok fl =>
    cases fl with
    | ret u =>
      obtain ⟨v, H4, I4, rv, ev, dx, he4, hE⟩ := I3.after h4
      subst ev
      obtain ⟨⟨oe, ws, z1, z2, z3, z4, z5⟩, _⟩ := (show ObjOk P w H4 s4.heap e (.ext (NewX e (.ref C) dx)) from I4.hok e _ he4)
      exact ⟨rv, e, oe, ws, rfl, I4.kIn _ _ look, z1, z2, z4, z5, leave_madeD (untracked I4 he4) z1 z2 z4 z5 hs0 drp_same (z3 ▸ hE)⟩
    | next => exact False.elim h4
    | brk => exact False.elim h4
    | cont => exact False.elim h4
section
variable {P : Program} {w : World} {K : PySem.W.Frag} {mg : Str → Option Value} {base : Heap} {N : List Str} {qual : Str} {scope : Scope} {f : Addr} {cd : Value} {A : Around} {outer : List Env} {s : Shared} {H : Hp} {E : XK}
end
end L3

namespace L3
open PySem PySem.Spec PyProof.Rows L2 Ra
structure CalCX (P : Program) (w : World) (K : PySem.W.Frag) (mg : Str → Option Value) (base : Heap) (x : Str) (C : Addr) (k : Nat) (ps : List Str) (sp : Sp) : Prop where
  ex : ∃ f fd, FnOk P w K mg base (CXd P w) k f fd ps sp ∧ Binds K fd ps [] ∧ Mk K C f ∧ mg x = some (.ref C)
section
variable {X : Cx} {C : Addr} {x : Str} {k j : Nat} {ps : List Str} {sp : Sp} {e : Expr} {es : List Expr} {t : TA} {p pos pos' : Pos}
noncomputable def tXMake (C : Addr) (sp : Sp) (t : TA) : (Value → Option Addr → L2.St → Hp → Prop) → TS := fun R D σ H => t σ H fun vs H1 => ∀ x dx, H1 x = none → H1 dx = none → dx ≠ x →
  sp (.ref x :: vs) (upd (upd H1 dx (.own x)) x (.ins C dx [])) (fun v H2 => v = .non ∧ D.nx σ H2) fun Cv d H2 => R Cv d σ H2
theorem call_isiD : CallR X (.builtin "isinstance") (fun xs H Q => ∃ x c u D dx b, xs = [.ref x, c] ∧ clsV c = some u ∧ H x = some (.ext (ExcAtD x (.ref D) dx)) ∧ ExcCls X.K D ∧ PySem.W.kitOne X.K (.ref D) u = some b ∧ Q (.bl b) H) := by
  intro pins s σ H xs us Q I r h
  obtain ⟨x, c, u, D, dx, b, rfl, rc, hx, B, e, q⟩ := h
  obtain ⟨u1, u2, rfl, rx, rt⟩ := vals2 r
  cases rx
  have eu : u2 = u := by
    cases c with
    | ref C =>
      cases rc
      exact rt
    | ty n =>
      cases rc
      exact rt
    | _ => cases rc
  subst eu
  obtain ⟨⟨o, p1, p2, _⟩, _, _⟩ := (show ObjOk X.prog X.w H s.heap x (.ext (ExcAtD x (.ref D) dx)) from I.hok x _ hx)
  exact PySem.W.kia_one (kitx_exc B) I.kIn ⟨o, p1, p2⟩ e (fun z => nomatch z) fun tk => ⟨.bl b, H, I.tok _, rfl, q⟩
theorem call_isiDT : CallR X (.builtin "isinstance") (fun xs H Q => ∃ x tp cs us D dx b, xs = [.ref x, .ref tp] ∧ H tp = some (.tup cs) ∧ cs.map clsV = us.map some ∧ H x = some (.ext (ExcAtD x (.ref D) dx)) ∧ ExcCls X.K D ∧ PySem.W.kitAny X.K (.ref D) us = some b ∧ Q (.bl b) H) := by
  intro pins s σ H xs us0 Q I r h
  obtain ⟨x, tp, cs, us, D, dx, b, rfl, ht, rc, hx, B, e, q⟩ := h
  obtain ⟨u1, u2, rfl, rx, rt⟩ := vals2 r
  cases rx
  cases rt
  obtain ⟨sz, its, vi, it⟩ := (show ObjOk X.prog X.w H s.heap tp (.tup cs) from I.hok tp _ ht)
  clear sz
  have eu : its = us := by
    clear ht it e
    induction vi generalizing us with
    | nil =>
      cases us with
      | nil => rfl
      | cons _ _ => cases rc
    | @cons c v cs vs rv _ ih =>
      cases us with
      | nil => cases rc
      | cons u us =>
        rw [List.map_cons, List.map_cons] at rc
        injection rc with r1 r2
        rw [ih us r2]
        congr 1
        cases c with
        | ref C =>
          cases r1
          exact rv
        | ty n =>
          cases r1
          exact rv
        | _ => cases r1
  subst eu
  obtain ⟨⟨o, p1, p2, _⟩, _, _⟩ := (show ObjOk X.prog X.w H s.heap x (.ext (ExcAtD x (.ref D) dx)) from I.hok x _ hx)
  obtain ⟨ot, t1, t2, n, t3⟩ := it
  obtain ⟨oc, od, oda, osl⟩ := ot
  dsimp only at t2 t3
  subst t2 t3
  exact PySem.W.kia_tup (kitx_exc B) I.kIn ⟨o, p1, p2⟩ t1 e (fun z => nomatch z) fun tk => ⟨.bl b, H, I.tok _, rfl, q⟩
end
end L3

namespace L3
open PySem PySem.Spec PyProof.Rows L2 Ra
structure CalI (P : Program) (w : World) (K : PySem.W.Frag) (mg : Str → Option Value) (base : Heap) (x : Str) (C : Addr) (k : Nat) (ps : List Str) (sp : Sp) : Prop where
  ex : ∃ fI fd, ErrI K C fI ∧ PySem.W.keepIn K (.ref C) = true ∧ FnOk P w K mg base CX0 k fI fd ps sp ∧ Binds K fd ps [] ∧ mg x = some (.ref C)
theorem ps_raiseJ {P : Program} {w : World} {K : PySem.W.Frag} {mg : Str → Option Value} {base : Heap} {N : List Str} {qual : Str} {scope : Scope} {f : Addr} {cd : Value} {A : Around} {outer : List Env} {s : Shared} {H : Hp} {E : XK}
    {x : Str} {C : Addr} {ps : List Str} {sp : Sp} {k j : Nat} {np cpos pos : Pos} {e0 : Expr} {rest : List Expr} {ta : TA} (Ci : CalI P w K mg base x C k ps sp)
    (hr : Room j (A.deeper (envOfC qual scope s.heap.objs.size f cd))) (ha : PA (cxOf (CXd P w) P w K mg base N qual scope f cd A outer s H E) (e0 :: rest) ta) (hkj : k + 1 ≤ j := by decide)
    (hg : Gl (cxOf (CXd P w) P w K mg base N qual scope f cd A outer s H E) x := by rfl) (hdb : (x == ("__debug__" : Str)) = false := by decide)
    (he : starEach (e0 :: rest) (envOfC qual scope s.heap.objs.size f cd) = (false, eval e0 (envOfC qual scope s.heap.objs.size f cd)) :: starEach rest (envOfC qual scope s.heap.objs.size f cd) := by rfl)
    (hpl : (backTo cpos (starEach rest (envOfC qual scope s.heap.objs.size f cd))).any (·.1) = false := by rfl) :
    PS (cxOf (CXd P w) P w K mg base N qual scope f cd A outer s H E) (.Raise (some (.Call (.Name x np) (e0 :: rest) [] cpos)) none pos) (tRaiseI E C sp ta) := by
  obtain ⟨fI, fd, hE, kp, F, hb, hm⟩ := Ci.ex
  exact ps_raiseI hm hE kp F hb hr ha hkj hg hdb he hpl
end L3

namespace L3
open PySem PySem.Spec PyProof.Rows L2 Ra
noncomputable def tXSetD (sp : Sp) (dvs : List V) (i : Nat) (t : TA) : (Value → Option Addr → L2.St → Hp → Prop) → TS := fun R D σ H => t σ H fun vs H1 => sp (vs ++ dvs) H1 (fun v H2 => D.nx (σ.set i (some v)) H2) fun C dx H2 => R C dx σ H2
end L3

namespace L3
open PySem PySem.Spec PyProof.Rows L2 Ra
noncomputable def tXIfD (tc : TT) (t u : (Value → Option Addr → L2.St → Hp → Prop) → TS) : (Value → Option Addr → L2.St → Hp → Prop) → TS := fun R D σ H => tc σ H fun b H1 => if b = true then t R D σ H1 else u R D σ H1
theorem psx_ifD {X : Cx} {c : Expr} {a b : Stmt} {tc : TT} {t u : (Value → Option Addr → L2.St → Hp → Prop) → TS} {pos : Pos} (hc : PT X c tc) (ha : PSxD X a t) (hb : PSxD X b u) (hxe : X.xe = (fun _ _ => False) := by rfl) : PSxD X (.If c [a] [b] pos) (tXIfD tc t u) := by
  intro pins s σ H D R I h
  have hc' := hc pins s σ H _ I h
  rw [hxe] at hc'
  refine wpAny_If (wpAny_mono hc' (fun d s1 q => ?_) fun _ _ z => False.elim z)
  obtain ⟨H1, I1, q1⟩ := q
  have one : ∀ {st : Stmt} {tt : (Value → Option Addr → L2.St → Hp → Prop) → TS}, PSxD X st tt → tt R D σ H1 → wpAny (model X.prog X.w) X.A (execs [st] X.env) (SP X pins D) (XPD X pins R) s1 := fun hst q2 =>
    wpAny_execs_cons (wpAny_mono (hst pins s1 σ H1 D R I1 q2) (fun fl s2 q3 => by
      cases fl with
      | next => exact wpAny_execs_nil q3
      | ret v => exact q3
      | brk => exact q3
      | cont => exact q3) fun _ _ z => z)
  cases d with
  | true => exact one ha q1
  | false => exact one hb q1
end L3

namespace My
open PySem L2 L3 Ra Rq PyProof.Rows
theorem la1 {us : List Value} (h : us.length = 1) : ∃ a, us = [a] := match us, h with | [a], _ => ⟨a, rfl⟩
theorem la2 {us : List Value} (h : us.length = 2) : ∃ a b, us = [a, b] := match us, h with | [a, b], _ => ⟨a, b, rfl⟩
theorem la3 {us : List Value} (h : us.length = 3) : ∃ a b c, us = [a, b, c] := match us, h with | [a, b, c], _ => ⟨a, b, c, rfl⟩
theorem bt2 {n : Nat} {x : Int} (h : x.natAbs < 2 ^ n) : Bt n x := h
local macro_rules | `(tactic| walk_at "s") => `(tactic| first
  | refine ⟨_, rfl, ?_⟩
  | refine ⟨_, _, rfl, rfl, ?_⟩
  | refine ⟨_, _, rfl, ?_⟩
  | refine ⟨rfl, ?_⟩
  | refine ⟨_, _, _, _, rfl, rfl, Pr.sq (by assumption), rfl, ?_⟩
  | refine ⟨_, _, _, _, rfl, TyOf.int _, kit_int_int _, ?_⟩
  | refine ⟨_, _, _, _, rfl, TyOf.int _, kit_int_bool _, ?_⟩
  | refine ⟨_, _, _, _, rfl, TyOf.tup (by assumption), kit_tup_tup _, ?_⟩
  | refine ⟨_, _, rfl, .inr (Pr.sq (by assumption)), ?_⟩
  | refine iteF ?_
  | refine iteT ?_
  | refine ⟨(by show (0 : Int) < _; decide), ?_⟩
  | refine ⟨⟨(by decide), bt2 (by decide +kernel)⟩, ?_⟩
  | refine ⟨(⟨(by decide), (by decide), (by decide)⟩ : CPow _ _), ?_⟩)
local macro_rules | `(tactic| walk_at "r") => `(tactic| repeat walk_at "s")

structure Txt (mg : Str → Option Value) : Prop where
  z_abs : mg "abs" = none
  z_len : mg "len" = none
  z_isinstance : mg "isinstance" = none
  z_int : mg "int" = none
  z_bool : mg "bool" = none
  z_tuple : mg "tuple" = none
  z_range : mg "range" = none
  z_list : mg "list" = none
  z_min : mg "min" = none
  z_max : mg "max" = none
  z_zip : mg "zip" = none
  z_all : mg "all" = none
  z_reversed : mg "reversed" = none
  z_ValueError : mg "ValueError" = none
  c_MOST_BEADS : ∃ t, mg "MOST_BEADS" = some (.int 12 t)
structure Errs (K : PySem.W.Frag) (mg : Str → Option Value) (c_NoCord c_CordError c_NoBead c_NoFraction c_NoName c_NoText c_NoWorth : Addr) : Prop where
  m_NoCord : mg "NoCord" = some (.ref c_NoCord)
  m_CordError : mg "CordError" = some (.ref c_CordError)
  m_NoBead : mg "NoBead" = some (.ref c_NoBead)
  m_NoFraction : mg "NoFraction" = some (.ref c_NoFraction)
  m_NoName : mg "NoName" = some (.ref c_NoName)
  m_NoText : mg "NoText" = some (.ref c_NoText)
  m_NoWorth : mg "NoWorth" = some (.ref c_NoWorth)
  x_NoCord : PySem.W.exmOne K (.ref c_NoCord) (.ref c_CordError) = some true
  e_NoCord : ExcCls K c_NoCord
  fx_NoCord : ExcF K c_NoCord
  nf_NoCord : NoAttr K c_NoCord "place"
  ka_NoCord : PySem.W.kitAny K (.ref c_NoCord) [.ref c_NoBead, .ref c_NoFraction, .ref c_NoName, .ref c_NoText, .ref c_NoWorth] = some false
  k_NoCord_NoCord : PySem.W.kitOne K (.ref c_NoCord) (.ref c_NoCord) = some true
  k_NoCord_ValueError : PySem.W.kitOne K (.ref c_NoCord) (.type "ValueError") = some true
structure OwnCord (K : PySem.W.Frag) (mg : Str → Option Value) (C : Addr) : Prop where
  m : mg "Cord" = some (.ref C)
  cl : Cls K C
  c1 : PySem.W.findIn K (.ref C) "__class__" = some (some (.builtin "object.__class__"))
  c2 : PySem.W.specialIn K (.builtin "object.__class__") "__get__" = some (some (.builtin "getset_descriptor.__get__"))
  c3 : PySem.W.takesIn K (.builtin "object.__class__") = some true
  c4 : PySem.W.mroIn K C (.type "object") = some true
  self : PySem.W.kitOne K (.ref C) (.ref C) = some true
  n_kept_gaps : NoAttr K C "kept_gaps"
  n_kept_weights : NoAttr K C "kept_weights"
noncomputable def top (i : Nat) : Stmt := PySem.Challenge.pw_tautcord_k53_no_ladder.main.body.getD i (.Pass ⟨0, 0, 0, 0⟩)
noncomputable abbrev s_wall : Stmt := top 0
noncomputable abbrev s_NoCord_init : Stmt := inClass (top 4) 0
noncomputable abbrev s_is_whole : Stmt := top 10
noncomputable abbrev s_divisor : Stmt := top 11
noncomputable abbrev s_is_fraction : Stmt := top 13
noncomputable abbrev s_fraction : Stmt := top 14
noncomputable abbrev s_plus : Stmt := top 15
noncomputable abbrev s_minus : Stmt := top 16
noncomputable abbrev s_side : Stmt := top 17
noncomputable abbrev s_is_row_above : Stmt := top 20
noncomputable abbrev s_Cord_init : Stmt := inClass (top 21) 0
noncomputable abbrev s_Cord_gaps : Stmt := inClass (top 21) 1
noncomputable abbrev s_Cord_weights : Stmt := inClass (top 21) 2
noncomputable abbrev s_Cord_beads : Stmt := inClass (top 21) 3
noncomputable abbrev s_Cord_length : Stmt := inClass (top 21) 4
noncomputable abbrev s_Cord_turned : Stmt := inClass (top 21) 5
noncomputable abbrev s_shared_bottom : Stmt := top 23
noncomputable abbrev s_whole_figures : Stmt := top 24
noncomputable abbrev s_ladder : Stmt := top 26
noncomputable abbrev s_over_one_bottom : Stmt := top 27
noncomputable abbrev s_quotient_at : Stmt := top 28
noncomputable abbrev s_rest_of : Stmt := top 29
noncomputable abbrev s_in_lowest_terms : Stmt := top 30
noncomputable abbrev s_cord_with : Stmt := top 32
noncomputable abbrev s_law_cell_at : Stmt := top 34
noncomputable abbrev s_law_low : Stmt := top 35
noncomputable abbrev s_law_twelfths : Stmt := top 36
noncomputable abbrev s_law_figures : Stmt := top 37
noncomputable abbrev s_law_refused : Stmt := top 38
noncomputable abbrev s_law : Stmt := top 39
noncomputable def sp_div : Sp := fun vs H Q _ => ∃ a b, vs = [.int a, .int b] ∧ Q (.int (g a b)) H
noncomputable def sp_cell (K : PySem.W.Frag) : Sp := fun vs H Q _ => ∃ (a : Addr) (ns : List Int) (k : Nat), vs = [.ref a, .int k] ∧ SqL K H a (ns.map V.int) ∧ Q (.int (cellA ns k)) H
noncomputable def sp_mixed : Sp := fun vs H Q _ => ∃ c k, vs = [.int c, .int k] ∧ (0 ≤ k ∧ k ≤ 1000) ∧ Q (.int (mixed c k)) H
noncomputable def sp_signed : Sp := fun vs H Q _ => ∃ n, vs = [.int n] ∧ ∀ H', Same H H' → Q (.int (signed n)) H'
noncomputable def sp_low : Sp := fun vs H Q _ => ∃ t b, vs = [.int t, .int b] ∧ 0 < b ∧ Bt 8000 b ∧ ∀ r H', Same H H' → Pr H' r (t / g t b) (b / g t b) → Q (.ref r) H'
noncomputable def sp_ratio : Sp := fun vs H Q _ => ∃ n, vs = [.int n] ∧ 0 ≤ n ∧ ∀ r x y H', Same H H' → Fq x y → Bt 101 x → Bt 101 y → Pr H' r x y → Q (.ref r) H'
noncomputable def sp_whole : Sp := fun vs H Q _ => ∃ i, vs = [.int i] ∧ Q (.bl true) H
noncomputable def sp_is : Sp := fun vs H Q _ => ∃ r x y t b, vs = [.ref r, .int t, .int b] ∧ Pr H r x y ∧ Fq x y ∧ x * b = t * y ∧ IntMulOk x b ∧ IntMulOk t y ∧ Q (.bl true) H
noncomputable def sp_plus : Sp := fun vs H Q _ => ∃ p q a b c d, vs = [.ref p, .ref q] ∧ Pr H p a b ∧ Pr H q c d ∧ 0 < b ∧ 0 < d ∧ Bt 8000 a ∧ Bt 8000 b ∧ Bt 8000 c ∧ Bt 8000 d ∧ ∀ r H', Same H H' → Pr H' r (plsN a b c d) (plsD a b c d) → Q (.ref r) H'
noncomputable def sp_minus : Sp := fun vs H Q _ => ∃ p q a b c d, vs = [.ref p, .ref q] ∧ Pr H p a b ∧ Pr H q c d ∧ 0 < b ∧ 0 < d ∧ Bt 8000 a ∧ Bt 8000 b ∧ Bt 8000 c ∧ Bt 8000 d ∧ ∀ r H', Same H H' → Pr H' r (plsN a b (-c) d) (plsD a b (-c) d) → Q (.ref r) H'
noncomputable def sp_times : Sp := fun vs H Q _ => ∃ p q a b c d, vs = [.ref p, .ref q] ∧ Pr H p a b ∧ Pr H q c d ∧ 0 < b ∧ 0 < d ∧ Bt 8000 a ∧ Bt 8000 b ∧ Bt 8000 c ∧ Bt 8000 d ∧ ∀ r H', Same H H' → Pr H' r (tmsN a b c d) (tmsD a b c d) → Q (.ref r) H'
noncomputable def sp_law (K : PySem.W.Frag) : Sp := fun vs H Q _ => ∃ (a : Addr) (ns : List Int), vs = [.ref a] ∧ SqL K H a (ns.map V.int) ∧ ns.length ≤ 63 ∧ ∀ H', Q (.bl true) H'
theorem g_bt {n : Nat} {t b : Int} (h : 0 < b) (k : Bt n b) : Bt n (g t b) := by
  refine k.of_le ?_
  have h1 : g t b ≤ b := Int.le_of_dvd h (g_dvd_right t b)
  have h2 := g_nonneg t b
  (first | lia | omega)
section
variable {P : Program} {w : World} {K : PySem.W.Frag} {mg : Str → Option Value} {base : Heap} {f : Addr} {fd : FuncData}
theorem sc_divisor : FnScope ["one", "other", "first", "second", "rest"] ["one", "other"] (defScope s_divisor) := ⟨rfl, rfl, rfl, by decide +kernel, rfl, by decide +kernel, by decide +kernel⟩
theorem ok_divisor (F : Fun K "divisor" "divisor" s_divisor f fd) (T : Txt mg) : FnOk P w K mg base CX0 1 f fd ["one", "other"] sp_div := by
  refine F.ok sc_divisor (fun vs H Q E h => ?_) (fun cdv A outer s H vs Q E hr h => ?_)
  · obtain ⟨a, b, rfl, _⟩ := h
    rfl
  obtain ⟨a, b, rfl, q⟩ := h
  refine ⟨_, (pss_cons (ps_set (i := 2) sc_divisor.nd rfl (Or.inl rfl) (pe_callB call_abs rfl T.z_abs boot_abs (pa_cons (pv 0) pa_nil)))
      (pss_cons (ps_set (i := 3) sc_divisor.nd rfl (Or.inl rfl) (pe_callB call_abs rfl T.z_abs boot_abs (pa_cons (pv 1) pa_nil)))
      (pss_cons (ps_while PassesOwn.never (pt_cmpR op_gt (pv 3) pe_int (nomark _))
        (pss_cons (ps_set (i := 4) sc_divisor.nd rfl (Or.inl rfl) (pe_op op_mod (pv 2) (pv 3)))
        (pss_cons (ps_set (i := 2) sc_divisor.nd rfl (Or.inl rfl) (pv 3))
        (pss_one (ps_set (i := 3) sc_divisor.nd rfl (Or.inl rfl) (pv 4))))))
      (pss_one (ps_ret (pv 2)))))), ?_⟩
  refine ⟨_, rfl, _, rfl, _, rfl, _, rfl, ?_⟩
  refine ⟨fun m σ H' => ∃ x y r, σ = [some (.int a), some (.int b), some (.int x), some (.int y), r] ∧ H = H' ∧ 0 ≤ x ∧ 0 ≤ y ∧ g x y = g a b ∧ m = y.toNat, ⟨_, _, _, _, rfl, rfl, ?_, ?_, g_abs a b, rfl⟩, ?_⟩
  · split <;> (first | lia | omega)
  · split <;> (first | lia | omega)
  rintro m σ _ ⟨x, y, r, rfl, rfl, hx, hy, e, rfl⟩
  refine ⟨_, rfl, _, _, rfl, rfl, _, rfl, ?_⟩
  refine ite2 (fun c => ⟨fun σ' H' => ∃ m', m' < y.toNat ∧ ∃ x y r, σ' = [some (.int a), some (.int b), some (.int x), some (.int y), r] ∧ H = H' ∧ 0 ≤ x ∧ 0 ≤ y ∧ g x y = g a b ∧ m' = y.toNat, fun _ _ h => h, ?_⟩) (fun c => ?_)
  · have c' : (0 : Int) < y := of_decide_eq_true c
    refine ⟨_, rfl, _, rfl, _, _, rfl, rfl, c', _, rfl, _, rfl, ?_⟩
    have h1 := Int.emod_nonneg x (show y ≠ 0 by (first | lia | omega))
    have h2 := Int.emod_lt_of_pos x c'
    exact ⟨_, by (first | lia | omega), y, x % y, _, rfl, rfl, hy, h1, by rw [g_step hx c', e], rfl⟩
  · have c' : ¬ (0 : Int) < y := of_decide_eq_false (Bool.eq_false_iff.mpr c)
    have y0 : y = 0 := by (first | lia | omega)
    refine ⟨_, rfl, ?_⟩
    rw [← e, y0, g_end hx] at q
    exact q
theorem sc_plus : FnScope ["one", "other", "shared", "top", "left"] ["one", "other"] (defScope s_plus) := ⟨rfl, rfl, rfl, by decide +kernel, rfl, by decide +kernel, by decide +kernel⟩
theorem ok_plus (F : Fun K "plus" "plus" s_plus f fd) (T : Txt mg) (C_divisor : Cal P w K mg base "divisor" 1 ["one", "other"] sp_div) : FnOk P w K mg base CX0 2 f fd ["one", "other"] sp_plus := by
  refine F.ok sc_plus (fun vs H Q E h => ?_) (fun cdv A outer s H vs Q E hr h => ?_)
  · obtain ⟨p, q, a, b, c, d, rfl, _⟩ := h
    rfl
  obtain ⟨p, q, a, b, c, d, rfl, hp, hq, hb, hd, ba, bb, bc, bd, k⟩ := h
  have c1 : 0 < g b d ∧ Bt 9000 (g b d) := ⟨g_pos (by (first | lia | omega)), (g_bt hd bd).mono (by decide)⟩
  have c2 : 0 < g (plsT a b c d) (g b d) ∧ Bt 9000 (g (plsT a b c d) (g b d)) := ⟨g_pos (by (first | lia | omega)), g_bt c1.1 c1.2⟩
  have m1 : IntMulOk a (d / g b d) := mul_of ba bd.ediv (by decide)
  have m2 : IntMulOk c (b / g b d) := mul_of bc bb.ediv (by decide)
  have m3 : IntMulOk (b / g b d) (d / g (plsT a b c d) (g b d)) := mul_of bb.ediv bd.ediv (by decide)
  refine ⟨_, (pss_cons (ps_set (i := 2) sc_plus.nd rfl (Or.inl rfl) (pe_cl C_divisor hr (pa_cons (pe_ix ix_tup (pv 0) pe_int (fun _ _ => rfl)) (pa_cons (pe_ix ix_tup (pv 1) pe_int (fun _ _ => rfl)) pa_nil))))
      (pss_cons (ps_set (i := 3) sc_plus.nd rfl (Or.inl rfl) (pe_op op_add (pe_op op_mulB (pe_ix ix_tup (pv 0) pe_int (fun _ _ => rfl)) (pe_op op_fdP (pe_ix ix_tup (pv 1) pe_int (fun _ _ => rfl)) (pv 2))) (pe_op op_mulB (pe_ix ix_tup (pv 1) pe_int (fun _ _ => rfl)) (pe_op op_fdP (pe_ix ix_tup (pv 0) pe_int (fun _ _ => rfl)) (pv 2)))))
      (pss_cons (ps_set (i := 4) sc_plus.nd rfl (Or.inl rfl) (pe_cl C_divisor hr (pa_cons (pv 3) (pa_cons (pv 2) pa_nil))))
      (pss_one (ps_ret (pe_tup (pa_cons (pe_op op_fdP (pv 3) (pv 4)) (pa_cons (pe_op op_mulB (pe_op op_fdP (pe_ix ix_tup (pv 0) pe_int (fun _ _ => rfl)) (pv 2)) (pe_op op_fdP (pe_ix ix_tup (pv 1) pe_int (fun _ _ => rfl)) (pv 4))) pa_nil)))))))), ?_⟩
  refine ⟨_, rfl, _, _, _, _, rfl, rfl, hp.sq, rfl, _, rfl, _, _, _, _, rfl, rfl, hq.sq, rfl, _, _, rfl, ?_⟩
  refine ⟨_, rfl, _, _, _, _, rfl, rfl, hp.sq, rfl, _, rfl, _, _, _, _, rfl, rfl, hq.sq, rfl, _, rfl, _, _, rfl, rfl, c1, _, _, rfl, rfl, m1, _, rfl, _, _, _, _, rfl, rfl, hq.sq, rfl, _, rfl, _, _, _, _, rfl, rfl, hp.sq, rfl, _, rfl, _, _, rfl, rfl, c1, _, _, rfl, rfl, m2, _, _, rfl, rfl, ?_⟩
  refine ⟨_, rfl, _, rfl, _, _, rfl, ?_⟩
  exact ⟨_, rfl, _, rfl, _, _, rfl, rfl, c2, _, rfl, _, _, _, _, rfl, rfl, hp.sq, rfl, _, rfl, _, _, rfl, rfl, c1, _, rfl, _, _, _, _, rfl, rfl, hq.sq, rfl, _, rfl, _, _, rfl, rfl, c2, _, _, rfl, rfl, m3, (by show 2 ≤ sizeLine; decide), fun r h => k r _ (same_upd h _) Pr.new⟩
theorem sc_minus : FnScope ["one", "other"] ["one", "other"] (defScope s_minus) := ⟨rfl, rfl, rfl, by decide +kernel, rfl, by decide +kernel, by decide +kernel⟩
theorem ok_minus (F : Fun K "minus" "minus" s_minus f fd) (T : Txt mg) (C_plus : Cal P w K mg base "plus" 2 ["one", "other"] sp_plus) : FnOk P w K mg base CX0 3 f fd ["one", "other"] sp_minus := by
  refine F.ok sc_minus (fun vs H Q E h => ?_) (fun cdv A outer s H vs Q E hr h => ?_)
  · obtain ⟨p, q, a, b, c, d, rfl, _⟩ := h
    rfl
  obtain ⟨p, q, a, b, c, d, rfl, hp, hq, hb, hd, ba, bb, bc, bd, k⟩ := h
  refine ⟨_, (pss_one (ps_ret (pe_cl C_plus hr (pa_cons (pv 0) (pa_cons (pe_tup (pa_cons (pe_un un_neg (pe_ix ix_tup (pv 1) pe_int (fun _ _ => rfl))) (pa_cons (pe_ix ix_tup (pv 1) pe_int (fun _ _ => rfl)) pa_nil))) pa_nil))))), ?_⟩
  refine ⟨_, rfl, _, rfl, _, _, _, _, rfl, rfl, hq.sq, rfl, _, rfl, _, rfl, _, _, _, _, rfl, rfl, hq.sq, rfl, (by show 2 ≤ sizeLine; decide), fun r h => ?_⟩
  exact ⟨_, _, _, _, _, _, rfl, hp.keep (same_upd h _), Pr.new, hb, hd, ba, bb, bc.neg, bd, fun r' H' s' h' => k r' H' ((same_upd h _).trans s') h'⟩

noncomputable def sp_whole2 : Sp := fun vs H Q _ => ∃ i, vs = [.int i] ∧ Q (.bl true) H
noncomputable def sp_fraction (c : Addr) : Sp := fun vs H Q E => ∃ t b, vs = [.int t, .int b] ∧ (b = 0 → E (.ref c) none H) ∧ (b ≠ 0 → Bt 8000 b ∧ ∀ r H', Same H H' → Pr H' r (frN t b) (frD t b) → Q (.ref r) H')
noncomputable def sp_over (cN : Addr) : Sp := fun vs H Q E => ∃ p q a b c d, vs = [.ref p, .ref q] ∧ Pr H p a b ∧ Pr H q c d ∧ (c = 0 → E (.ref cN) none H) ∧
  (c ≠ 0 → 0 < b ∧ 0 < d ∧ Bt 8000 a ∧ Bt 8000 b ∧ Bt 8000 c ∧ Bt 8000 d ∧ ∀ r H', Same H H' → Pr H' r (tmsN a b (frN d c) (frD d c)) (tmsD a b (frN d c) (frD d c)) → Q (.ref r) H')
noncomputable def sp_under : Sp := fun vs H Q _ => ∃ p q a b c d, vs = [.ref p, .ref q] ∧ Pr H p a b ∧ Pr H q c d ∧ IntMulOk a d ∧ IntMulOk c b ∧ Q (.bl (decide (a * d < c * b))) H
noncomputable def sp_side : Sp := fun vs H Q _ => ∃ p a b, vs = [.ref p] ∧ Pr H p a b ∧ Q (.int (sgn a)) H
noncomputable def sp_side2 : Sp := fun vs H Q _ => ∃ p a b, vs = [.ref p] ∧ Pr H p a b ∧ Bt 9000 a ∧ Q (.int (sgn a)) H
theorem sc_is_whole : FnScope ["thing"] ["thing"] (defScope s_is_whole) := ⟨rfl, rfl, rfl, by decide +kernel, rfl, by decide +kernel, by decide +kernel⟩
theorem ok_is_whole (F : Fun K "is_whole" "is_whole" s_is_whole f fd) (T : Txt mg) : FnOk P w K mg base CX0 1 f fd ["thing"] sp_whole := by
  refine F.ok sc_is_whole (fun vs H Q E h => ?_) (fun cdv A outer s H vs Q E hr h => ?_)
  · obtain ⟨i, rfl, _⟩ := h
    rfl
  obtain ⟨i, rfl, q⟩ := h
  refine ⟨_, (pss_one (ps_ret (pe_and (pe_callB call_isi rfl T.z_isinstance boot_isinstance (pa_cons (pv 0) (pa_cons (pe_bltn (v := .ty "int") rfl T.z_int boot_int rfl) pa_nil))) (pe_one (pe_not (pe_callB call_isi rfl T.z_isinstance boot_isinstance (pa_cons (pv 0) (pa_cons (pe_bltn (v := .ty "bool") rfl T.z_bool boot_bool rfl) pa_nil)))))))), ?_⟩
  refine ⟨_, rfl, _, _, _, _, rfl, TyOf.int _, kit_int_int _, _, rfl, iteT ?_⟩
  exact ⟨_, rfl, _, _, _, _, rfl, TyOf.int _, kit_int_bool _, _, rfl, q⟩
theorem sc_side : FnScope ["one"] ["one"] (defScope s_side) := ⟨rfl, rfl, rfl, by decide +kernel, rfl, by decide +kernel, by decide +kernel⟩
theorem ok_side (F : Fun K "side" "side" s_side f fd) (T : Txt mg) : FnOk P w K mg base CX0 1 f fd ["one"] sp_side := by
  refine F.ok sc_side (fun vs H Q E h => ?_) (fun cdv A outer s H vs Q E hr h => ?_)
  · obtain ⟨p, a, b, rfl, _⟩ := h
    rfl
  obtain ⟨p, a, b, rfl, hp, q⟩ := h
  unfold sgn at q
  refine ⟨_, (pss_cons (ps_if (pt_cmpR op_gt (pe_ix ix_tup (pv 0) pe_int (fun _ _ => rfl)) pe_int (nomark _))
        (pss_one (ps_ret pe_int))
        pss_nil)
      (pss_cons (ps_if (pt_cmpR op_lt (pe_ix ix_tup (pv 0) pe_int (fun _ _ => rfl)) pe_int (nomark _))
        (pss_one (ps_ret (pe_un un_neg pe_int)))
        pss_nil)
      (pss_one (ps_ret pe_int)))), ?_⟩
  refine ⟨_, rfl, _, _, _, _, rfl, rfl, hp.sq, rfl, _, _, rfl, rfl, _, rfl, ?_⟩
  refine ite2 (fun c => ?_) (fun c => ?_)
  · have z : a > 0 := of_decide_eq_true c
    rw [if_pos z] at q
    exact q
  · have z : ¬ a > 0 := of_decide_eq_false (Bool.eq_false_iff.mpr c)
    rw [if_neg z] at q
    refine ⟨_, rfl, _, _, _, _, rfl, rfl, hp.sq, rfl, _, _, rfl, rfl, _, rfl, ?_⟩
    refine ite2 (fun c2 => ?_) (fun c2 => ?_)
    · have z2 : a < 0 := of_decide_eq_true c2
      rw [if_pos z2] at q
      exact ⟨_, rfl, q⟩
    · have z2 : ¬ a < 0 := of_decide_eq_false (Bool.eq_false_iff.mpr c2)
      rw [if_neg z2] at q
      exact q

noncomputable def sp_bin (n : Nat) (op : Rat → Rat → Rat) : Sp := fun vs H Q _ => ∃ p q a b, vs = [.ref p, .ref q] ∧ Pq H p a ∧ Pq H q b ∧ Bq n a ∧ Bq n b ∧ ∀ r H', Same H H' → Pq H' r (op a b) → Q (.ref r) H'
noncomputable def sp_lowQ : Sp := fun vs H Q _ => ∃ t b, vs = [.int t, .int b] ∧ 0 < b ∧ Bt 8000 b ∧ ∀ r H', Same H H' → Pq H' r ((t : Rat) / (b : Rat)) → Q (.ref r) H'
noncomputable def sp_ratioQ : Sp := fun vs H Q _ => ∃ n, vs = [.int n] ∧ 0 ≤ n ∧ ∀ r q H', Same H H' → Bq 101 q → Pq H' r q → Q (.ref r) H'
noncomputable def sp_isQ : Sp := fun vs H Q _ => ∃ r q t b, vs = [.ref r, .int t, .int b] ∧ Pq H r q ∧ b ≠ 0 ∧ q = (t : Rat) / (b : Rat) ∧ IntMulOk q.num b ∧ IntMulOk t q.den ∧ Q (.bl true) H
noncomputable def sp_atQ : Sp := fun vs H Q _ => ∃ (a : Addr) (qs : List Rat) (k : Nat), vs = [.ref a, .int k] ∧ Rw H a qs ∧ ∀ p H', Same H H' → Pq H' p (qs.getD k 0) → Q (.ref p) H'
noncomputable def sp_stripQ : Sp := fun vs H Q _ => ∃ a qs, vs = [.ref a] ∧ Rw H a qs ∧ qs.length ≤ 1000 ∧ ∀ r H', Same H H' → H r = none → Rw H' r (Po.strip qs) → Q (.ref r) H'
noncomputable def sp_row_by : Sp := fun vs H Q _ => ∃ c k w, vs = [.int c, .int k, .int w] ∧ (0 ≤ k ∧ k ≤ 900) ∧ (w = 2 ∨ w = 3) ∧ ∀ r qs H', Same H H' → H r = none → Rw H' r qs → qs.length ≤ 13 → (∀ q ∈ qs, Bq 101 q) → (w = 2 → ∀ q ∈ qs, Bq 6 q) → Q (.ref r) H'
noncomputable def sp_sameQ : Sp := fun vs H Q _ => ∃ a b qs, vs = [.ref a, .ref b] ∧ Rw H a qs ∧ Rw H b qs ∧ qs.length ≤ 1000 ∧ Q (.bl true) H
noncomputable abbrev Rws (H : Hp) : List Addr → List (List Rat) → Prop := Paired (Rw H)
noncomputable def ApartAt (a h k : Addr) (H : Hp) (R : Hp → Prop) : Prop := ∃ qs as bs rss, Rw H a qs ∧ qs.length ≤ 1000 ∧ H h = some (.lst (as.map V.ref)) ∧ Rws H as rss ∧ H k = some (.lst (bs.map V.ref)) ∧ Rws H bs rss ∧
  a ∉ as ∧ a ∉ bs ∧ a ≠ h ∧ a ≠ k ∧ h ∉ as ∧ as.length ≤ 2 ∧ (∀ rs ∈ rss, rs.length ≤ 1000) ∧ ∀ H', Sx (a :: as) H H' → R H'
noncomputable def sp_apart : Sp := fun vs H Q _ => ∃ a h k, vs = [.ref a, .ref h, .ref k] ∧ ApartAt a h k H fun H' => Q (.bl true) H'
theorem bin_minus {vs : List V} {H : Hp} {Q : VK} {E : XK} (h : sp_bin 8000 (· - ·) vs H Q E) : sp_minus vs H Q E := by
  obtain ⟨p, q, a, b, rfl, hp, hq, ba, bb, k⟩ := h
  exact ⟨p, q, _, _, _, _, rfl, hp, hq, den_pos a, den_pos b, ba.1, ba.2, bb.1, bb.2, fun r H' s hr => k r H' s (Pq.of hr ⟨(mns_q a b).1.symm, (mns_q a b).2.symm⟩)⟩
theorem ok_minusQ (F : Fun K "minus" "minus" s_minus f fd) (T : Txt mg) (C_plus : Cal P w K mg base "plus" 2 ["one", "other"] sp_plus) : FnOk P w K mg base CX0 3 f fd ["one", "other"] (sp_bin 8000 (· - ·)) := (ok_minus F T C_plus).imp fun _ _ _ _ => bin_minus

noncomputable def cell0 (ns : List Int) (k : Nat) : Int := ns.getD k 0
noncomputable def sp_cell0 (K : PySem.W.Frag) : Sp := fun vs H Q _ => ∃ (a : Addr) (ns : List Int) (k : Nat), vs = [.ref a, .int k] ∧ SqL K H a (ns.map V.int) ∧ Q (.int (cell0 ns k)) H
noncomputable def sp_gcd : Sp := fun vs H Q _ => ∃ a b, vs = [.int a, .int b] ∧ 0 ≤ b ∧ Q (.int (g a b)) H
noncomputable def sp_numbers : Sp := fun vs H Q _ => ∃ (c : Int) (m : Nat), vs = [.int c, .int m] ∧ m ≤ 100 ∧ ∀ (r : Addr) (ns : List Int) (H' : Hp), Same H H' → H r = none → H' r = some (.lst (ns.map V.int)) → ns.length = m → (∀ n ∈ ns, 0 ≤ n ∧ n < 100000) → Q (.ref r) H'
noncomputable def abv (v : Int) : Rat := ((1 + v % 12 : Int) : Rat) / ((1 + v / 12 % 12 : Int) : Rat)
theorem abv_bq (v : Int) : Bq 4 (abv v) := by
  have h1 := Int.emod_nonneg v (show (12 : Int) ≠ 0 by decide)
  have h2 := Int.emod_lt_of_pos v (show (0 : Int) < 12 by decide)
  have h3 := Int.emod_nonneg (v / 12) (show (12 : Int) ≠ 0 by decide)
  have h4 := Int.emod_lt_of_pos (v / 12) (show (0 : Int) < 12 by decide)
  exact bq_of (by (first | lia | omega)) rfl (Bt.between (by (first | lia | omega)) (by (first | lia | omega))) (Bt.between (by (first | lia | omega)) (by (first | lia | omega)))
theorem div_pos {t b : Int} (ht : 0 < t) (hb : 0 < b) : 0 < (t : Rat) / (b : Rat) := by
  rw [Rat.div_def]
  exact Rat.mul_pos (Rat.intCast_pos.mpr ht) (Rat.inv_pos.mpr (Rat.intCast_pos.mpr hb))
theorem abv_pos (v : Int) : 0 < abv v := by
  have h1 := Int.emod_nonneg v (show (12 : Int) ≠ 0 by decide)
  have h3 := Int.emod_nonneg (v / 12) (show (12 : Int) ≠ 0 by decide)
  exact div_pos (by (first | lia | omega)) (by (first | lia | omega))
noncomputable def sp_above : Sp := fun vs H Q _ => ∃ v, vs = [.int v] ∧ ∀ r H', Same H H' → Pq H' r (abv v) → Q (.ref r) H'
structure Drawn (mo : Nat) (gs ws : List Rat) : Prop where
  len : gs.length = ws.length + 1
  most : ws.length ≤ mo
  pos : (∀ q ∈ gs, 0 < q) ∧ ∀ q ∈ ws, 0 < q
  size : ((∀ q ∈ gs, Bq 4 q) ∧ ∀ q ∈ ws, Bq 4 q) ∨ (ws.length ≤ 1 + mo / 11 ∧ (∀ q ∈ gs, Bq 101 q) ∧ ∀ q ∈ ws, Bq 101 q)
noncomputable def sp_cord_by (K : PySem.W.Frag) : Sp := fun vs H Q _ => ∃ (a : Addr) (ns : List Int) (most : Nat), vs = [.ref a, .int most] ∧ SqL K H a (ns.map V.int) ∧ (∀ n ∈ ns, Bt 1048576 n) ∧ (4 ≤ most ∧ most ≤ 12) ∧
  ∀ r ga wa gs ws H', Same H H' → H' r = some (.tup [.ref ga, .ref wa]) → H ga = none → H wa = none → ga ≠ wa → Rw H' ga gs → Rw H' wa ws → Drawn most gs ws → Q (.ref r) H'
noncomputable def sp_lawB (K : PySem.W.Frag) : Sp := fun vs H Q _ => ∃ (a : Addr) (ns : List Int), vs = [.ref a] ∧ SqL K H a (ns.map V.int) ∧ ns.length ≤ 63 ∧ (∀ n ∈ ns, Bt 1048576 n) ∧ ∀ H', Q (.bl true) H'
noncomputable def CbyM (H : Hp) (a xs : Addr) (mo : Nat) (hd : Int) (σ' : L2.St) (H' : Hp) : Prop := ∃ (m' : Nat) (pt : Addr) (qs : List Rat) (v w : Option V), σ' = [some (.ref a), some (.int mo), some (.int hd), some (.int m'), some (.ref xs), some (.ref pt), v, w] ∧ Same H H' ∧ H pt = none ∧ Rw H' pt qs ∧ qs.length = 2 * m' + 1 ∧ m' ≤ mo ∧ (∀ q ∈ qs, 0 < q) ∧ ((∀ q ∈ qs, Bq 4 q) ∨ (m' ≤ 1 + mo / 11 ∧ ∀ q ∈ qs, Bq 101 q))
noncomputable def CbyI (H2 : Hp) (a xs pt : Addr) (mo m' : Nat) (hd : Int) (i : Nat) (σ : L2.St) (H' : Hp) : Prop := ∃ (v w : Option V) (qs : List Rat), σ = [some (.ref a), some (.int mo), some (.int hd), some (.int m'), some (.ref xs), some (.ref pt), v, w] ∧ Same H2 H' ∧ Rw H' pt qs ∧ qs.length = i ∧ (∀ q ∈ qs, 0 < q) ∧ ∀ q ∈ qs, Bq 101 q
theorem sc_law_cell_at : FnScope ["_law_script", "_law_k"] ["_law_script", "_law_k"] (defScope s_law_cell_at) := ⟨rfl, rfl, rfl, by decide +kernel, rfl, by decide +kernel, by decide +kernel⟩
theorem ok_law_cell_at (F : Fun K "_law_cell_at" "_law_cell_at" s_law_cell_at f fd) (T : Txt mg) : FnOk P w K mg base CX0 1 f fd ["_law_script", "_law_k"] (sp_cell0 K) := by
  refine F.ok sc_law_cell_at (fun vs H Q E h => ?_) (fun cdv A outer s H vs Q E hr h => ?_)
  · obtain ⟨a, ns, k, rfl, _⟩ := h
    rfl
  obtain ⟨a, ns, k, rfl, hS, q⟩ := h
  refine ⟨_, (pss_cons (ps_if (pt_cmpR op_lt (pv 1) (pe_callB call_len_seq rfl T.z_len PySem.boot_len (pa_cons (pv 0) pa_nil)) (nomark _))
        (pss_one (ps_ret (pe_ix ix_list (pv 0) (pv 1) (fun _ _ => rfl))))
        pss_nil)
      (pss_one (ps_ret pe_int))), ?_⟩
  have hl : (ns.map V.int).length = ns.length := List.length_map _
  refine ⟨_, rfl, _, rfl, a, _, rfl, .inl hS, _, _, rfl, rfl, _, rfl, ?_⟩
  refine ite2 (fun c => ?_) (fun c => ?_)
  · have c' : (k : Int) < (((ns.map V.int).length : Nat) : Int) := of_decide_eq_true c
    rw [hl] at c'
    have hk : k < ns.length := by (first | lia | omega)
    refine ⟨_, rfl, _, rfl, a, _, _, _, rfl, rfl, hS, atI_nat (v := .int (cell0 ns k)) ?_, q⟩
    unfold cell0
    rw [List.getElem?_map, List.getD_eq_getElem?_getD, List.getElem?_eq_getElem hk]
    rfl
  · have c' : ¬ (k : Int) < (((ns.map V.int).length : Nat) : Int) := of_decide_eq_false (Bool.eq_false_iff.mpr c)
    rw [hl] at c'
    have e : cell0 ns k = 0 := by
      unfold cell0
      rw [List.getD_eq_getElem?_getD, List.getElem?_eq_none (by (first | lia | omega))]
      rfl
    rw [e] at q
    exact q

noncomputable def Co (C : Addr) (H : Hp) (c ga wa : Addr) (gs ws : List Rat) : Prop := (∃ dx, H c = some (.ins C dx [("kept_gaps", .ref ga), ("kept_weights", .ref wa)])) ∧ Rw H ga gs ∧ Rw H wa ws
structure Fine (gs ws : List Rat) : Prop where
  len : gs.length = ws.length + 1
  most : ws.length ≤ 12
  pos : (∀ q ∈ gs, 0 < q) ∧ ∀ q ∈ ws, 0 < q
  bq : (∀ q ∈ gs, Bq 101 q) ∧ ∀ q ∈ ws, Bq 101 q
noncomputable def sp_init (C : Addr) : Sp := fun vs H Q _ => ∃ x a b gs ws dx, vs = [.ref x, .ref a, .ref b] ∧ H x = some (.ins C dx []) ∧ Rw H a gs ∧ Rw H b ws ∧ Fine gs ws ∧
  ∀ ga wa H', (∀ b o, b ≠ x → H b = some o → H' b = some o) → H ga = none → H wa = none → Co C H' x ga wa gs ws → Q .non H'
structure Fine0 (gs ws : List Rat) : Prop where
  len : gs.length = ws.length + 1
  most : ws.length ≤ 12
  pos : (∀ q ∈ gs, 0 < q) ∧ ∀ q ∈ ws, 0 < q
noncomputable def sp_init0 (C : Addr) : Sp := fun vs H Q _ => ∃ x a b gs ws dx, vs = [.ref x, .ref a, .ref b] ∧ H x = some (.ins C dx []) ∧ Rw H a gs ∧ Rw H b ws ∧ Fine0 gs ws ∧
  ∀ ga wa H', (∀ b o, b ≠ x → H b = some o → H' b = some o) → H ga = none → H wa = none → Co C H' x ga wa gs ws → Q .non H'
noncomputable def sp_gaps (C : Addr) : Sp := fun vs H Q _ => ∃ c ga wa gs ws, vs = [.ref c] ∧ Co C H c ga wa gs ws ∧ ∀ r H', Same H H' → H r = none → Rw H' r gs → Q (.ref r) H'
noncomputable def sp_weights (C : Addr) : Sp := fun vs H Q _ => ∃ c ga wa gs ws, vs = [.ref c] ∧ Co C H c ga wa gs ws ∧ ∀ r H', Same H H' → H r = none → Rw H' r ws → Q (.ref r) H'
noncomputable def sp_beads (C : Addr) : Sp := fun vs H Q _ => ∃ c ga wa gs ws, vs = [.ref c] ∧ Co C H c ga wa gs ws ∧ Q (.int ws.length) H
noncomputable def sp_length (C : Addr) : Sp := fun vs H Q _ => ∃ c ga wa gs ws, vs = [.ref c] ∧ Co C H c ga wa gs ws ∧ gs.length ≤ 13 ∧ (∀ q ∈ gs, Bq 101 q) ∧ ∀ r H', Same H H' → Pq H' r (Po.lsum gs) → Q (.ref r) H'
noncomputable def sp_turned (C : Addr) : Sp := fun vs H Q _ => ∃ c ga wa gs ws, vs = [.ref c] ∧ Co C H c ga wa gs ws ∧ Fine gs ws ∧ ∀ c' ga' wa' H', Same H H' → H c' = none → H ga' = none → H wa' = none → Co C H' c' ga' wa' gs.reverse ws.reverse → Q (.ref c') H'
noncomputable def sp_frac : Sp := fun vs H Q _ => ∃ p q, vs = [.ref p] ∧ Pq H p q ∧ Q (.bl true) H
noncomputable def sp_row_above : Sp := fun vs H Q _ => ∃ a qs, vs = [.ref a] ∧ Rw H a qs ∧ (∀ q ∈ qs, 0 < q) ∧ qs.length ≤ 1000 ∧ ∀ H', Same H H' → Q (.bl true) H'
noncomputable def sp_whole1 : Sp := fun vs H Q _ => ∃ i, vs = [.int i] ∧ Q (.bl true) H
noncomputable def sp_same1 : Sp := fun vs H Q _ => ∃ p p' q, vs = [.ref p, .ref p'] ∧ Pq H p q ∧ Pq H p' q ∧ Q (.bl true) H
noncomputable def sp_same_list : Sp := fun vs H Q _ => ∃ a b qs, vs = [.ref a, .ref b] ∧ Rw H a qs ∧ Rw H b qs ∧ qs.length ≤ 1000 ∧ Q (.bl true) H
noncomputable def sp_len : Sp := fun vs H Q _ => ∃ a gs, vs = [.ref a] ∧ Rw H a gs ∧ gs.length ≤ 13 ∧ (∀ q ∈ gs, Bq 101 q) ∧ ∀ r H', Same H H' → Pq H' r (Po.lsum gs) → Q (.ref r) H'
noncomputable def sp_told (C : Addr) : Sp := fun vs H Q _ => ∃ c ga wa g w gs ws, vs = [.ref c, .ref g, .ref w] ∧ Co C H c ga wa gs ws ∧ Rw H g gs ∧ Rw H w ws ∧ Fine gs ws ∧ ∀ H', Same H H' → Q (.bl true) H'
variable {o_Cord : Addr}
theorem sc_is_fraction : FnScope ["thing"] ["thing"] (defScope s_is_fraction) := ⟨rfl, rfl, rfl, by decide +kernel, rfl, by decide +kernel, by decide +kernel⟩
theorem ok_is_fraction (F : Fun K "is_fraction" "is_fraction" s_is_fraction f fd) (T : Txt mg) (C_is_whole : Cal P w K mg base "is_whole" 1 ["thing"] sp_whole) (C_divisor : Cal P w K mg base "divisor" 1 ["one", "other"] sp_div) : FnOk P w K mg base CX0 2 f fd ["thing"] sp_frac := by
  refine F.ok sc_is_fraction (fun vs H Q E h => ?_) (fun cdv A outer s H vs Q E hr h => ?_)
  · obtain ⟨p, q, rfl, _⟩ := h
    rfl
  obtain ⟨p, q0, rfl, kp, q⟩ := h
  have hp := den_pos q0
  have hg : g q0.num q0.den = 1 := by
    unfold g
    rw [(fq q0).one]
    rfl
  refine ⟨_, (pss_cons (ps_if (PW.pt (pw_or (pt_not (pt_val (pe_callB call_isi rfl T.z_isinstance boot_isinstance (pa_cons (pv 0) (pa_cons (pe_bltn (v := .ty "tuple") rfl T.z_tuple boot_tuple rfl) pa_nil))))) (pw_or1 (pt_cmpR op_ne (pe_callB call_len_seq rfl T.z_len PySem.boot_len (pa_cons (pv 0) pa_nil)) pe_int (nomark _)))))
        (pss_one (ps_ret pe_bl))
        pss_nil)
      (pss_cons (ps_if (PW.pt (pw_or (pt_not (pt_val (pe_cl C_is_whole hr (pa_cons (pe_ix ix_tup (pv 0) pe_int (fun _ _ => rfl)) pa_nil)))) (pw_or1 (pt_not (pt_val (pe_cl C_is_whole hr (pa_cons (pe_ix ix_tup (pv 0) pe_int (fun _ _ => rfl)) pa_nil)))))))
        (pss_one (ps_ret pe_bl))
        pss_nil)
      (pss_one (ps_ret (pe_and (pe_cmpR op_ge (pe_ix ix_tup (pv 0) pe_int (fun _ _ => rfl)) pe_int (nomark _)) (pe_one (pe_cmpR op_eq (pe_cl C_divisor hr (pa_cons (pe_ix ix_tup (pv 0) pe_int (fun _ _ => rfl)) (pa_cons (pe_ix ix_tup (pv 0) pe_int (fun _ _ => rfl)) pa_nil))) pe_int (nomark _)))))))), ?_⟩
  refine ⟨_, rfl, _, _, _, _, rfl, TyOf.tup kp, kit_tup_tup _, _, rfl, iteF ?_⟩
  refine ⟨_, rfl, _, _, rfl, .inr kp.sq, rfl, _, rfl, iteNS rfl ?_⟩
  refine ⟨_, rfl, _, _, _, _, rfl, rfl, kp.sq, rfl, _, rfl, _, rfl, iteF ?_⟩
  refine ⟨_, rfl, _, _, _, _, rfl, rfl, kp.sq, rfl, _, rfl, _, rfl, iteF ?_⟩
  refine ⟨_, rfl, _, _, _, _, rfl, rfl, kp.sq, rfl, _, _, rfl, rfl, _, rfl, iteD (by (first | lia | omega)) ?_⟩
  refine ⟨_, rfl, _, _, _, _, rfl, rfl, kp.sq, rfl, _, rfl, _, _, _, _, rfl, rfl, kp.sq, rfl, _, _, rfl, rfl, ?_⟩
  rw [hg]
  exact q
theorem sc_is_row_above : FnScope ["thing"] ["thing"] (defScope s_is_row_above) := ⟨rfl, rfl, rfl, by decide +kernel, rfl, by decide +kernel, by decide +kernel⟩
theorem ok_is_row_above (F : Fun K "is_row_above" "is_row_above" s_is_row_above f fd) (T : Txt mg) (C_is_fraction : Cal P w K mg base "is_fraction" 2 ["thing"] sp_frac) (C_side : Cal P w K mg base "side" 1 ["one"] sp_side) : FnOk P w K mg base CX0 3 f fd ["thing"] sp_row_above := by
  refine F.ok sc_is_row_above (fun vs H Q E h => ?_) (fun cdv A outer s H vs Q E hr h => ?_)
  · obtain ⟨a, qs, rfl, _⟩ := h
    rfl
  obtain ⟨a, qs, rfl, ra, hpos, hlen, q⟩ := h
  obtain ⟨ps, hx, kp⟩ := id ra
  have hl := kp.length
  refine ⟨_, (pss_cons (ps_if (pt_not (pt_val (pe_callB call_isi rfl T.z_isinstance boot_isinstance (pa_cons (pv 0) (pa_cons (pe_bltn (v := .ty "list") rfl T.z_list boot_list rfl) pa_nil)))))
        (pss_one (ps_ret pe_bl))
        pss_nil)
      (pss_one (ps_ret (pe_callB (call_all rfl) rfl T.z_all boot_all (pa_cons (pe_comp (N' := ["part"]) (fsc := defScope s_is_row_above) (N := ["thing"]) [] ⟨rfl, by decide +kernel, by decide +kernel, by decide +kernel, rfl, by decide +kernel, rfl, by decide +kernel⟩ (pi_list (pv 0)) (fun _ _ _ _ => (pe_and (pe_cl C_is_fraction hr (pa_cons (pv 0) pa_nil)) (pe_one (pe_cmpR op_eq (pe_cl C_side hr (pa_cons (pv 0) pa_nil)) pe_int (nomark _)))))) pa_nil))))), ?_⟩
  refine ⟨_, rfl, _, _, _, _, rfl, TyOf.lst hx, kit_lst_lst _, _, rfl, iteF ?_⟩
  refine ⟨_, rfl, a, rfl, ⟨_, SqL.of hx⟩, comp_listB (xs := ps.map V.ref) (by rw [List.length_map]; (first | lia | omega)) hx (fun _ => true) ?_ fun H1 D s1 nD eD => ?_⟩
  · intro _ _ _ _ x H1 R hxm s1 fin
    obtain ⟨p1, hp1, rfl⟩ := List.mem_map.mp hxm
    obtain ⟨q1, hq1, k1⟩ := paired_left kp hp1
    have hn : 0 < q1.num := by
      have := hpos _ hq1
      have h0 : 0 ≤ q1.num := Rat.num_nonneg.mpr (Rat.le_of_lt this)
      have h1 : q1.num ≠ 0 := fun z => Rat.ne_of_gt this (Rat.num_eq_zero.mp z)
      (first | lia | omega)
    have k2 := k1.keep s1
    refine ⟨_, rfl, p1, _, rfl, k2, _, rfl, iteT ?_⟩
    refine ⟨_, rfl, p1, _, _, rfl, k2, rfl, ?_⟩
    have es : sgn q1.num = 1 := by unfold sgn; rw [if_pos hn]
    rw [es]
    exact fin H1 (Same.refl _)
  · refine ⟨D, _, rfl, SqL.of eD, ?_⟩
    have e : ((ps.map V.ref).map fun _ => true).all id = true := by simp
    rw [e]
    exact q H1 s1
theorem sc_Cord_init : FnScope ["self", "gaps", "weights"] ["self", "gaps", "weights"] (defScope s_Cord_init) := ⟨rfl, rfl, rfl, by decide +kernel, rfl, by decide +kernel, by decide +kernel⟩
theorem ok_Cord_init0 (F : Fun K "__init__" "Cord.__init__" s_Cord_init f fd) (T : Txt mg) (O : OwnCord K mg o_Cord) (C_is_row_above : Cal P w K mg base "is_row_above" 3 ["thing"] sp_row_above) : FnOk P w K mg base CX0 4 f fd ["self", "gaps", "weights"] (sp_init0 o_Cord) := by
  refine F.ok sc_Cord_init (fun vs H Q E h => ?_) (fun cdv A outer s H vs Q E hr h => ?_)
  · obtain ⟨x, a, b, gs, ws, dx, rfl, _⟩ := h
    rfl
  obtain ⟨x, a, b, gs, ws, dx, rfl, ex0, ra0, rb0, fine, q0⟩ := h
  have hlen := fine.len
  have hmost := fine.most
  refine ⟨_, (pss_cons (ps_if (PW.pt (pw_or (pt_not (pt_val (pe_cl C_is_row_above hr (pa_cons (pv 1) pa_nil)))) (pw_or1 (pt_not (pt_val (pe_cl C_is_row_above hr (pa_cons (pv 2) pa_nil)))))))
        (pss_one ps_never)
        pss_nil)
      (pss_cons (ps_if (PW.pt (pw_or (pt_cmpR op_ne (pe_callB call_len_seq rfl T.z_len PySem.boot_len (pa_cons (pv 1) pa_nil)) (pe_op op_add (pe_callB call_len_seq rfl T.z_len PySem.boot_len (pa_cons (pv 2) pa_nil)) pe_int) (nomark _)) (pw_or1 (pt_cmpR op_gt (pe_callB call_len_seq rfl T.z_len PySem.boot_len (pa_cons (pv 2) pa_nil)) (pe_globI rfl T.c_MOST_BEADS) (nomark _)))))
        (pss_one ps_never)
        pss_nil)
      (pss_cons (ps_fld (pv 0) (pe_callTy call_list_of rfl T.z_list boot_list (pa_cons (pv 1) pa_nil)) rfl)
      (pss_one (ps_fld (pv 0) (pe_callTy call_list_of rfl T.z_list boot_list (pa_cons (pv 2) pa_nil)) rfl))))), ?_⟩
  refine ⟨_, rfl, a, gs, rfl, ra0, fine.pos.1, by (first | lia | omega), fun H1 t1 => ⟨_, rfl, iteF ?_⟩⟩
  refine ⟨_, rfl, b, ws, rfl, rb0.keep t1, fine.pos.2, by (first | lia | omega), fun H2 t2 => ⟨_, rfl, iteF ?_⟩⟩
  have t12 := t1.trans t2
  have ex := t12 _ _ ex0
  have ra := ra0.keep t12
  have rb := rb0.keep t12
  have q : ∀ ga wa H', (∀ b o, b ≠ x → H2 b = some o → H' b = some o) → H2 ga = none → H2 wa = none → Co o_Cord H' x ga wa gs ws → Q .non H' := fun ga wa H' k n1 n2 co => q0 ga wa H' (fun b o n e => k b o n (t12 _ _ e)) (t12.free n1) (t12.free n2) co
  clear q0 ex0 ra0 rb0 t1
  clear t12
  clear t2
  clear H1
  generalize H2 = H at *
  obtain ⟨xa, ea, la⟩ := ra.there
  obtain ⟨xb, eb, lb⟩ := rb.there
  refine ⟨_, rfl, _, _, rfl, .inl (SqL.of ea), _, rfl, _, _, rfl, .inl (SqL.of eb), _, _, rfl, rfl, rfl, _, rfl, iteNS (by rw [la, lb]; exact congrArg V.int (by (first | lia | omega))) ?_⟩
  refine ⟨_, rfl, _, _, rfl, .inl (SqL.of eb), _, _, rfl, rfl, _, rfl, iteND (by (first | lia | omega)) ?_⟩
  refine ⟨_, rfl, a, _, rfl, .inl (SqL.of ea), fun ga hga => ?_⟩
  have s1 := same_upd hga (.lst xa)
  have r1 := ra.copy ea hga
  refine ⟨_, rfl, x, _, dx, _, rfl, s1 _ _ ex, O.cl, O.n_kept_gaps, by decide, ?_⟩
  have nxa : x ≠ ga := ne_of_none ex hga
  have nb : b ≠ x := ne_of eb ex (by intro z; cases z)
  obtain ⟨H2, e2⟩ : ∃ H2, H2 = upd (upd H ga (.lst xa)) x (.ins o_Cord dx (putF "kept_gaps" (.ref ga) [])) := ⟨_, rfl⟩
  rw [← e2]
  have k2 : ∀ c o, c ≠ x → (upd H ga (.lst xa)) c = some o → H2 c = some o := fun c o n e => by rw [e2, upd_ne n]; exact e
  have rows : ∀ {c : Addr} {qs : List Rat}, Rw (upd H ga (.lst xa)) c qs → Rw H2 c qs := fun {c qs} r => by
    obtain ⟨ps, h1, h2⟩ := r
    exact ⟨ps, k2 _ _ (ne_of h1 (s1 _ _ ex) (by intro z; cases z)) h1, Paired.imp' (fun p t z => by
      have z' : (upd H ga (.lst xa)) p = some (.tup [.int t.num, .int t.den]) := z
      exact k2 _ _ (ne_of z' (s1 _ _ ex) (by intro w; cases w)) z') h2⟩
  have rb2 := rows (rb.keep s1)
  have rg2 := rows r1
  have ex2 : H2 x = some (.ins o_Cord dx [("kept_gaps", .ref ga)]) := by rw [e2, upd_same]; rfl
  obtain ⟨xb2, eb2, lb2⟩ := rb2.there
  refine ⟨_, rfl, b, _, rfl, .inl (SqL.of eb2), fun wa hwa => ?_⟩
  have s3 := same_upd hwa (.lst xb2)
  have r3 := rb2.copy eb2 hwa
  refine ⟨_, rfl, x, _, dx, _, rfl, s3 _ _ ex2, O.cl, O.n_kept_weights, (by show 1 < 1000; decide), ?_⟩
  obtain ⟨H4, e4⟩ : ∃ H4, H4 = upd (upd H2 wa (.lst xb2)) x (.ins o_Cord dx (putF "kept_weights" (.ref wa) [("kept_gaps", .ref ga)])) := ⟨_, rfl⟩
  have k4 : ∀ c o, c ≠ x → (upd H2 wa (.lst xb2)) c = some o → H4 c = some o := fun c o n e => by rw [e4, upd_ne n]; exact e
  have rows4 : ∀ {c : Addr} {qs : List Rat}, Rw (upd H2 wa (.lst xb2)) c qs → Rw H4 c qs := fun {c qs} r => by
    obtain ⟨ps, h1, h2⟩ := r
    exact ⟨ps, k4 _ _ (ne_of h1 (s3 _ _ ex2) (by intro z; cases z)) h1, Paired.imp' (fun p t z => by
      have z' : (upd H2 wa (.lst xb2)) p = some (.tup [.int t.num, .int t.den]) := z
      exact k4 _ _ (ne_of z' (s3 _ _ ex2) (by intro w; cases w)) z') h2⟩
  have fin := q ga wa H4 (fun c o n e => k4 c o n (s3 _ _ (k2 c o n (s1 _ _ e)))) hga ?_ ⟨⟨dx, ?_⟩, rows4 (rg2.keep s3), rows4 r3⟩
  · rw [e4] at fin
    exact fin
  · cases hw : H wa with
    | none => rfl
    | some o =>
      by_cases n : wa = x
      · rw [n, ex2] at hwa; cases hwa
      · rw [k2 wa o n (s1 _ _ hw)] at hwa; cases hwa
  · rw [e4, upd_same]; rfl

noncomputable def sp_frac4 : Sp := fun vs H Q _ => ∃ p q, vs = [.ref p] ∧ Pq H p q ∧ Bq 8000 q ∧ ∀ H', Same H H' → Q (.bl true) H'
noncomputable def sp_row4 : Sp := fun vs H Q _ => ∃ a b qs, vs = [.ref a, .ref b] ∧ Rw H a qs ∧ Rw H b qs ∧ qs.length ≤ 1000 ∧ (∀ q ∈ qs, Bq 8000 q) ∧ ∀ H', Same H H' → Q (.bl true) H'
noncomputable def sp_twelfths : Sp := fun vs H Q _ => ∃ (c : Int) (m : Nat), vs = [.int c, .int m] ∧ m ≤ 100 ∧ ∀ r qs H', Same H H' → H r = none → Rw H' r qs → qs.length = m → (∀ q ∈ qs, 0 < q) → (∀ q ∈ qs, Bq 4 q) → Q (.ref r) H'
noncomputable def sp_drawn (K : PySem.W.Frag) : Sp := fun vs H Q _ => ∃ (a : Addr) (ns : List Int), vs = [.ref a] ∧ SqL K H a (ns.map V.int) ∧
  ∀ r ga wa gs ws H', Same H H' → H' r = some (.tup [.ref ga, .ref wa]) → H ga = none → H wa = none → ga ≠ wa → Rw H' ga gs → Rw H' wa ws → Drawn 12 gs ws → ws.length ≤ 4 → Q (.ref r) H'
noncomputable def sp_number4 : Sp := fun vs H Q _ => ∃ c o, vs = [.int c, .int o] ∧ ∀ r t H', Same H H' → Bq 334 t → Pq H' r t → Q (.ref r) H'
theorem sc_law_low : FnScope ["_law_top", "_law_bottom", "_law_one", "_law_other", "_law_rest"] ["_law_top", "_law_bottom"] (defScope s_law_low) := ⟨rfl, rfl, rfl, by decide +kernel, rfl, by decide +kernel, by decide +kernel⟩
theorem ok_law_low (F : Fun K "_law_low" "_law_low" s_law_low f fd) (T : Txt mg) : FnOk P w K mg base CX0 1 f fd ["_law_top", "_law_bottom"] sp_lowQ := by
  refine F.ok sc_law_low (fun vs H Q E h => ?_) (fun cdv A outer s H vs Q E hr h => ?_)
  · obtain ⟨t, b, rfl, _⟩ := h
    rfl
  obtain ⟨t, b, rfl, hb, bb, q⟩ := h
  have c1 : 0 < g t b ∧ Bt 9000 (g t b) := ⟨g_pos (by (first | lia | omega)), (g_bt hb bb).mono (by decide)⟩
  refine ⟨_, (pss_cons (ps_set (i := 2) sc_law_low.nd rfl (Or.inl rfl) (pe_callB call_abs rfl T.z_abs boot_abs (pa_cons (pv 0) pa_nil)))
      (pss_cons (ps_set (i := 3) sc_law_low.nd rfl (Or.inl rfl) (pe_callB call_abs rfl T.z_abs boot_abs (pa_cons (pv 1) pa_nil)))
      (pss_cons (ps_while PassesOwn.never (pt_cmpR op_gt (pv 3) pe_int (nomark _))
        (pss_cons (ps_set (i := 4) sc_law_low.nd rfl (Or.inl rfl) (pe_op op_mod (pv 2) (pv 3)))
        (pss_cons (ps_set (i := 2) sc_law_low.nd rfl (Or.inl rfl) (pv 3))
        (pss_one (ps_set (i := 3) sc_law_low.nd rfl (Or.inl rfl) (pv 4))))))
      (pss_cons (ps_if (pt_cmpR op_lt (pv 1) pe_int (nomark _))
        (pss_one (ps_set (i := 2) sc_law_low.nd rfl (Or.inl rfl) (pe_un un_neg (pv 2))))
        pss_nil)
      (pss_one (ps_ret (pe_tup (pa_cons (pe_op op_fdP (pv 0) (pv 2)) (pa_cons (pe_op op_fdP (pv 1) (pv 2)) pa_nil))))))))), ?_⟩
  refine ⟨_, rfl, _, rfl, _, rfl, _, rfl, ?_⟩
  refine ⟨fun m σ H' => ∃ x y r, σ = [some (.int t), some (.int b), some (.int x), some (.int y), r] ∧ H = H' ∧ 0 ≤ x ∧ 0 ≤ y ∧ g x y = g t b ∧ m = y.toNat, ⟨_, _, _, _, rfl, rfl, ?_, ?_, g_abs t b, rfl⟩, ?_⟩
  · split <;> (first | lia | omega)
  · split <;> (first | lia | omega)
  rintro m σ _ ⟨x, y, r, rfl, rfl, hx, hy, e, rfl⟩
  refine ⟨_, rfl, _, _, rfl, rfl, _, rfl, ?_⟩
  refine ite2 (fun c => ⟨fun σ' H' => ∃ m', m' < y.toNat ∧ ∃ x y r, σ' = [some (.int t), some (.int b), some (.int x), some (.int y), r] ∧ H = H' ∧ 0 ≤ x ∧ 0 ≤ y ∧ g x y = g t b ∧ m' = y.toNat, fun _ _ h => h, ?_⟩) (fun c => ?_)
  · have c' : (0 : Int) < y := of_decide_eq_true c
    refine ⟨_, rfl, _, rfl, _, _, rfl, rfl, c', _, rfl, _, rfl, ?_⟩
    have h1 := Int.emod_nonneg x (show y ≠ 0 by (first | lia | omega))
    have h2 := Int.emod_lt_of_pos x c'
    exact ⟨_, by (first | lia | omega), y, x % y, _, rfl, rfl, hy, h1, by rw [g_step hx c', e], rfl⟩
  · have c' : ¬ (0 : Int) < y := of_decide_eq_false (Bool.eq_false_iff.mpr c)
    obtain rfl : y = 0 := by (first | lia | omega)
    rw [g_end hx] at e
    subst e
    refine ⟨_, rfl, _, _, rfl, rfl, _, rfl, iteND (by (first | lia | omega)) ?_⟩
    exact ⟨_, rfl, _, rfl, _, _, rfl, rfl, c1, _, rfl, _, rfl, _, _, rfl, rfl, c1, (by show 2 ≤ sizeLine; decide), fun p hp => q p _ (same_upd hp _) (Pq.of Pr.new ⟨(low_q hb).1.symm, (low_q hb).2.symm⟩)⟩
theorem sc_law_twelfths : FnScope ["_law_cell", "_law_many", "_law_row", "_law_rest", "_law_k", "_law_part"] ["_law_cell", "_law_many"] (defScope s_law_twelfths) := ⟨rfl, rfl, rfl, by decide +kernel, rfl, by decide +kernel, by decide +kernel⟩
theorem ok_law_twelfths (F : Fun K "_law_twelfths" "_law_twelfths" s_law_twelfths f fd) (T : Txt mg) (C_law_low : Cal P w K mg base "_law_low" 1 ["_law_top", "_law_bottom"] sp_lowQ) : FnOk P w K mg base CX0 2 f fd ["_law_cell", "_law_many"] sp_twelfths := by
  refine F.ok sc_law_twelfths (fun vs H Q E h => ?_) (fun cdv A outer s H vs Q E hr h => ?_)
  · obtain ⟨c, m, rfl, _⟩ := h
    rfl
  obtain ⟨c, m, rfl, hm, q⟩ := h
  have hz : (1000 : Nat) < sizeLine := by decide
  refine ⟨_, (pss_cons (ps_set (i := 2) sc_law_twelfths.nd rfl (Or.inl rfl) (pe_lst pa_nil))
      (pss_cons (ps_set (i := 3) sc_law_twelfths.nd rfl (Or.inl rfl) (pv 0))
      (pss_cons (ps_for PassesOwn.never rfl (pi_range1 rfl T.z_range (pa_cons (pv 1) pa_nil)) (pg_name (i := 4) sc_law_twelfths.nd rfl (Or.inl rfl))
        (pss_cons (ps_set (i := 5) sc_law_twelfths.nd rfl (Or.inl rfl) (pv 3))
        (pss_cons (ps_cut (ps_if (pt_cmpR op_lt (pv 3) pe_int (nomark _))
          (pss_one (ps_set (i := 5) sc_law_twelfths.nd rfl (Or.inl rfl) (pe_op op_mod (pe_op op_mulB (pe_op op_add (pe_op op_add (pv 0) (pe_op op_mulB (pv 4) (pv 4))) (pe_op op_mulB pe_int (pv 4))) pe_int) pe_int)))
          pss_nil))
        (pss_cons (ps_expr (pe_bm PySem.F.plainAttrs_list PySem.F.slot_list_append PySem.F.type_list_append mt_append (pv 2) (pa_cons (pe_cl C_law_low hr (pa_cons (pe_op op_add pe_int (pe_op op_mod (pv 5) pe_int)) (pa_cons (pe_op op_add pe_int (pe_op op_mod (pe_op op_fdP (pv 5) pe_int) pe_int)) pa_nil))) pa_nil)))
        (pss_one (ps_set (i := 3) sc_law_twelfths.nd rfl (Or.inl rfl) (pe_op op_fdP (pv 3) pe_int)))))))
      (pss_one (ps_ret (pv 2)))))), ?_⟩
  refine ⟨(by show 0 ≤ sizeLine; decide), fun D hD => ?_⟩
  refine ⟨_, rfl, ?_⟩
  refine ⟨_, rfl, _, rfl, by (first | lia | omega), by (first | lia | omega), ?_⟩
  rw [Int.toNat_natCast]
  refine for_range (n := m) (fun i σ H' => (∃ (r : Int) (v w : Option V), σ = [some (.int c), some (.int m), some (.ref D), some (.int r), v, w]) ∧ Same H H' ∧ ∃ qs, Rw H' D qs ∧ qs.length = i ∧ (∀ q ∈ qs, 0 < q) ∧ ∀ q ∈ qs, Bq 4 q)
    ⟨⟨_, _, _, rfl⟩, same_upd hD _, [], ⟨[], upd_same, .nil⟩, rfl, fun q hq => absurd hq (by simp), fun q hq => absurd hq (by simp)⟩ ?_ ?_
  · rintro i σ H1 hi ⟨⟨r, v, w', rfl⟩, sm, qs, rw1, l1, p1, b1⟩
    refine ⟨_, rfl, ?_⟩
    refine ⟨fun σ' H' => ∃ pt : Int, σ' = [some (.int c), some (.int m), some (.ref D), some (.int r), some (.int (0 + (i : Int))), some (.int pt)] ∧ H1 = H', ?tl, ?hd⟩
    case hd =>
      refine ⟨_, rfl, _, _, rfl, rfl, _, rfl, ite2 (fun _ => ?_) (fun _ => ⟨_, rfl, rfl⟩)⟩
      exact ⟨_, rfl, _, rfl, _, rfl, _, _, rfl, rfl, CMul.ok (.inl ⟨by (first | lia | omega), by (first | lia | omega)⟩), _, _, rfl, rfl, _, rfl, _, _, rfl, rfl, CMul.ok (.inl ⟨by decide, by decide⟩), _, _, rfl, rfl, _, _, rfl, rfl, CMul.ok (.inr ⟨by decide, by decide⟩), _, _, rfl, rfl, (by show (0 : Int) < 99991; decide), _, rfl, rfl⟩
    rintro _ _ ⟨pt, rfl, rfl⟩
    have h3 := Int.emod_nonneg (pt / 12) (show (12 : Int) ≠ 0 by decide)
    have h4 := Int.emod_lt_of_pos (pt / 12) (show (0 : Int) < 12 by decide)
    have hb : 0 < 1 + pt / 12 % 12 := by (first | lia | omega)
    have bb : Bt 6 (1 + pt / 12 % 12) := Bt.between (by (first | lia | omega)) (by (first | lia | omega))
    obtain ⟨x4, e4, _⟩ := rw1.there
    refine ⟨_, rfl, .inl ⟨rfl, _, SqL.of e4⟩, _, rfl, _, _, rfl, rfl, (by show (0 : Int) < 12; decide), _, _, rfl, rfl, _, rfl, _, _, rfl, rfl, ⟨by decide, bt2 (by decide +kernel)⟩, _, _, rfl, rfl, (by show (0 : Int) < 12; decide), _, _, rfl, rfl, _, _, rfl, hb, bb.mono (by decide), fun p H5 s5 k5 => ?_⟩
    obtain ⟨xs5, hxs, hxl, rw5⟩ := rw1.app s5 k5
    have hlz : xs5.length < sizeLine := by (first | lia | omega)
    refine ⟨D, xs5, _, rfl, rfl, hxs, hlz, _, rfl, _, _, rfl, rfl, ⟨by decide, bt2 (by decide +kernel)⟩, ⟨_, _, _, rfl⟩, same_updF (sm.trans s5) hD _, _, rw5, by simp [l1], fun q hq => ?_, fun q hq => ?_⟩
    · rcases List.mem_append.mp hq with z | z
      · exact p1 q z
      · rw [List.mem_singleton.mp z]; exact abv_pos pt
    · rcases List.mem_append.mp hq with z | z
      · exact b1 q z
      · rw [List.mem_singleton.mp z]; exact abv_bq pt
  · rintro σ H1 ⟨⟨r, v, w', rfl⟩, sm, qs, rw1, l1, p1, b1⟩
    exact ⟨_, rfl, q D qs H1 sm hD rw1 l1 p1 b1⟩

noncomputable def cq (ns : List Int) : List Rat := ns.map fun (z : Int) => (z : Rat)
theorem cq_length (ns : List Int) : (cq ns).length = ns.length := List.length_map _
noncomputable def Iz (H : Hp) (a : Addr) (ns : List Int) : Prop := H a = some (.lst (ns.map V.int))
theorem flat_rep4 {α : Type} (x : α) (n : Nat) : (List.replicate n [x]).flatten = List.replicate n x := by
  induction n with
  | zero => rfl
  | succ n ih => rw [List.replicate_succ, List.flatten_cons, ih]; rfl
theorem rcancel {s x y : Rat} (h : s ≠ 0) (e : s * x = s * y) : x = y := by grind
noncomputable def Lw (b : Int) (A : List Rat) : Prop := ∀ M : Int, (∀ q ∈ A, ∃ T : Int, q * (M : Rat) = (T : Rat)) → b ∣ M
noncomputable def Fz (H : Hp) (p : Addr) (A : List Rat) : Prop := ∃ (fa : Addr) (fs : List Int) (b : Int), H p = some (.tup [.ref fa, .int b]) ∧ Iz H fa fs ∧ b ≠ 0 ∧ cq fs = A.map (· * (b : Rat)) ∧ Lw b A
theorem Fz.keep {H H' : Hp} {p : Addr} {A : List Rat} (h : Fz H p A) (s : Same H H') : Fz H' p A := by
  obtain ⟨fa, fs, b, h1, h2, h3⟩ := h
  exact ⟨fa, fs, b, s _ _ h1, s _ _ h2, h3⟩
theorem fz_len {fs : List Int} {A : List Rat} {b : Int} (e : cq fs = A.map (· * (b : Rat))) : fs.length = A.length := by
  have := congrArg List.length e
  rw [cq_length, List.length_map] at this
  exact this
theorem fz_getD {fs : List Int} {A : List Rat} {b : Int} (e : cq fs = A.map (· * (b : Rat))) (i : Nat) : ((fs.getD i 0 : Int) : Rat) = A.getD i 0 * (b : Rat) := by
  have h := congrArg (fun l : List Rat => l[i]?) e
  simp only [cq, List.getElem?_map] at h
  rw [List.getD_eq_getElem?_getD, List.getD_eq_getElem?_getD]
  cases hf : fs[i]? with
  | none =>
    rw [hf] at h
    cases hA : A[i]? with
    | none => show ((0 : Int) : Rat) = 0 * _; rw [Rat.zero_mul]; rfl
    | some a => rw [hA] at h; cases h
  | some f =>
    rw [hf] at h
    cases hA : A[i]? with
    | none => rw [hA] at h; cases h
    | some a => rw [hA] at h; exact Option.some.inj h
theorem fz_bt {fs : List Int} {A : List Rat} {b M : Int} {N : Nat} (e : cq fs = A.map (· * (b : Rat))) (lw : Lw b A) (hM : M ≠ 0) (bM : Bt N M) (o : ∀ q ∈ A, Po.Ov N M q) : Bt N b ∧ ∀ f ∈ fs, Bt N f := by
  have hd : b ∣ M := lw M fun q hq => by
    obtain ⟨T, _, e⟩ := o q hq
    exact ⟨T, e⟩
  refine ⟨bM.of_le (Nat.le_of_dvd (by (first | lia | omega)) (Int.natAbs_dvd_natAbs.mpr hd)), fun f hf => ?_⟩
  obtain ⟨c, hc⟩ := hd
  have hf' : ((f : Int) : Rat) ∈ cq fs := List.mem_map.mpr ⟨f, hf, rfl⟩
  rw [e] at hf'
  obtain ⟨q, hq, eq⟩ := List.mem_map.mp hf'
  obtain ⟨T, bT, eT⟩ := o q hq
  have eT' : T = f * c := by
    have : ((T : Int) : Rat) = ((f * c : Int) : Rat) := by
      rw [← eT, hc, Rat.intCast_mul, Rat.intCast_mul, ← eq]
      grind
    exact Rat.intCast_inj.mp this
  have hc0 : c ≠ 0 := fun z => hM (by rw [hc, z, Int.mul_zero])
  refine bT.of_le ?_
  rw [eT', Int.natAbs_mul]
  exact Nat.le_mul_of_pos_right _ (by (first | lia | omega))
theorem den_dvd {q : Rat} {M T : Int} (h : q * (M : Rat) = (T : Rat)) : (q.den : Int) ∣ M := by
  by_cases hM : M = 0
  · rw [hM]; exact Int.dvd_zero _
  · have hM' : (M : Rat) ≠ 0 := fun z => hM (Rat.intCast_eq_zero_iff.mp z)
    exact (dvd_of hM (show q = (T : Rat) / (M : Rat) by rw [← h]; grind)).2
theorem lcm_dvd {B d M : Int} (hB : 0 < B) (hd : 0 < d) (h1 : B ∣ M) (h2 : d ∣ M) : B * (d / g B d) ∣ M := by
  have hg : 0 < g B d := g_pos (by (first | lia | omega))
  obtain ⟨x, hx⟩ := g_dvd_left B d
  obtain ⟨y, hy⟩ := g_dvd_right B d
  have c : Int.gcd x y = 1 := by
    have h := div_cop (a := B) (b := d) (by (first | lia | omega))
    have e1 : B / g B d = x := Int.ediv_eq_of_eq_mul_right (Int.ne_of_gt hg) hx
    have e2 : d / g B d = y := Int.ediv_eq_of_eq_mul_right (Int.ne_of_gt hg) hy
    rw [e1, e2] at h
    exact h
  have e2 : d / g B d = y := Int.ediv_eq_of_eq_mul_right (Int.ne_of_gt hg) hy
  rw [e2]
  obtain ⟨z, hz⟩ := h1
  obtain ⟨v, hv⟩ := h2
  generalize g B d = gg at *
  have k : x * z = y * v := by
    have : gg * (x * z) = gg * (y * v) := by
      rw [← Int.mul_assoc, ← Int.mul_assoc, ← hx, ← hy, ← hz, ← hv]
    exact Int.eq_of_mul_eq_mul_left (Int.ne_of_gt hg) this
  have dy : y ∣ x * z := ⟨v, k⟩
  have dz : y ∣ z := by
    have d' := Int.natAbs_dvd_natAbs.mpr dy
    rw [Int.natAbs_mul] at d'
    exact Int.natAbs_dvd_natAbs.mp (Nat.Coprime.dvd_of_dvd_mul_left (Nat.Coprime.symm c) d')
  obtain ⟨u, hu⟩ := dz
  exact ⟨u, by rw [hz, hu, Int.mul_assoc]⟩
noncomputable def sp_shb4 : Sp := fun vs H Q _ => ∃ a qs β, vs = [.ref a] ∧ Rw H a qs ∧ qs.length ≤ 13 ∧ (∀ q ∈ qs, Bq β q) ∧ β ≤ 1300 ∧ ∀ B : Int, 0 < B → (∀ q ∈ qs, (q.den : Int) ∣ B) → (∀ M : Int, (∀ q ∈ qs, (q.den : Int) ∣ M) → B ∣ M) → Bt (1300 * 13 + 1) B → Q (.int B) H
theorem sc_shared_bottom : FnScope ["figures", "bottom", "figure"] ["figures"] (defScope s_shared_bottom) := ⟨rfl, rfl, rfl, by decide +kernel, rfl, by decide +kernel, by decide +kernel⟩
theorem ok_shared_bottom (F : Fun K "shared_bottom" "shared_bottom" s_shared_bottom f fd) (T : Txt mg) (C_divisor : Cal P w K mg base "divisor" 1 ["one", "other"] sp_div) : FnOk P w K mg base CX0 2 f fd ["figures"] sp_shb4 := by
  refine F.ok sc_shared_bottom (fun vs H Q E h => ?_) (fun cdv A outer s H vs Q E hr h => ?_)
  · obtain ⟨a, qs, β, rfl, _⟩ := h
    rfl
  obtain ⟨a, qs, β, rfl, ⟨ps, ea, kp⟩, hl, bq, hβ, q⟩ := h
  have lp := kp.length
  refine ⟨_, (pss_cons (ps_set (i := 1) sc_shared_bottom.nd rfl (Or.inl rfl) pe_int)
      (pss_cons (ps_for PassesOwn.never rfl (pi_list (pv 0)) (pg_name (i := 2) sc_shared_bottom.nd rfl (Or.inl rfl))
        (pss_one (ps_set (i := 1) sc_shared_bottom.nd rfl (Or.inl rfl) (pe_op op_mulB (pv 1) (pe_op op_fdP (pe_ix ix_tup (pv 2) pe_int (fun _ _ => rfl)) (pe_cl C_divisor hr (pa_cons (pv 1) (pa_cons (pe_ix ix_tup (pv 2) pe_int (fun _ _ => rfl)) pa_nil))))))))
      (pss_one (ps_ret (pv 1))))), ?_⟩
  refine ⟨_, rfl, a, rfl, ⟨_, SqL.of ea⟩, ?_⟩
  refine for_list (xs := ps.map V.ref) (fun i σ H' => H = H' ∧ ∃ (B : Int) (v : Option V), σ = [some (.ref a), some (.int B), v] ∧ 0 < B ∧ (∀ q ∈ qs.take i, (q.den : Int) ∣ B) ∧ (∀ M : Int, (∀ q ∈ qs.take i, (q.den : Int) ∣ M) → B ∣ M) ∧ Bt (1300 * i + 1) B)
    ⟨rfl, 1, _, rfl, by decide, fun q hq => absurd hq (by simp), fun M _ => ⟨M, (Int.one_mul M).symm⟩, Bt.mono (m := 1) (by show (1 : Nat) < 2 ^ 1; decide) (by (first | lia | omega))⟩ ?_ ?_ ?_
  · rintro i σ _ _ ⟨rfl, _⟩
    exact SqL.of ea
  · rintro i x σ _ hi ⟨rfl, B, v, rfl, hB, hd, hm, bB⟩
    have hlt : i < qs.length := by
      have := (List.getElem?_eq_some_iff.mp hi).1
      rw [List.length_map] at this
      (first | lia | omega)
    have eq := List.getElem?_eq_getElem hlt
    obtain ⟨p1, e1, k1⟩ := kp.get eq
    rw [hi] at e1
    cases e1
    have b1 : Bq 1300 qs[i] := (bq _ (List.getElem_mem hlt)).mono hβ
    have d1 := den_pos qs[i]
    have hg : 0 < g B qs[i].den := g_pos (by (first | lia | omega))
    have bg : Bt 9000 (g B qs[i].den) := (g_bt d1 b1.2).mono (by decide)
    have gd := g_dvd_right B (qs[i].den : Int)
    have gB := g_dvd_left B (qs[i].den : Int)
    have bdv : Bt 1300 ((qs[i].den : Int) / g B qs[i].den) := b1.2.ediv
    have et : qs.take (i + 1) = qs.take i ++ [qs[i]] := List.take_succ_eq_append_getElem hlt
    refine ⟨_, rfl, _, rfl, _, _, _, _, rfl, rfl, k1.sq, rfl, _, rfl, _, rfl, _, _, _, _, rfl, rfl, k1.sq, rfl, _, _, rfl, _, _, rfl, rfl, ⟨hg, bg⟩, _, _, rfl, rfl, mul_of bB bdv (by (first | lia | omega)), rfl, _, _, rfl, ?_, fun q hq => ?_, fun M hM => ?_, ?_⟩
    · obtain ⟨c, hc⟩ := gd
      have : (qs[i].den : Int) / g B qs[i].den = c := Int.ediv_eq_of_eq_mul_right (Int.ne_of_gt hg) hc
      rw [this]
      refine Int.mul_pos hB ?_
      by_cases h0 : 0 < c
      · exact h0
      · exfalso
        have : g B qs[i].den * c ≤ 0 := Int.mul_nonpos_of_nonneg_of_nonpos (by (first | lia | omega)) (by (first | lia | omega))
        (first | lia | omega)
    · rw [et] at hq
      rcases List.mem_append.mp hq with z | z
      · exact Int.dvd_trans (hd q z) (Int.dvd_mul_right _ _)
      · have : q = qs[i] := by simpa using z
        rw [this]
        obtain ⟨c, hc⟩ := gd
        obtain ⟨e, he⟩ := gB
        have e1 : (qs[i].den : Int) / g B qs[i].den = c := Int.ediv_eq_of_eq_mul_right (Int.ne_of_gt hg) hc
        rw [e1]
        refine ⟨e, ?_⟩
        generalize g B (qs[i].den : Int) = gg at *
        rw [hc, he, Int.mul_assoc, Int.mul_assoc, Int.mul_comm e c]
    · rw [et] at hM
      exact lcm_dvd hB d1 (hm M fun q hq => hM q (List.mem_append_left _ hq)) (hM _ (List.mem_append_right _ (by simp)))
    · rw [Nat.mul_succ]
      exact (bB.mul bdv).mono (by (first | lia | omega))
  · rintro σ _ ⟨rfl, B, v, rfl, hB, hd, hm, bB⟩
    rw [List.length_map, lp] at hd hm bB
    rw [List.take_length] at hd hm
    exact ⟨_, rfl, q B hB hd hm (bB.mono (by (first | lia | omega)))⟩
noncomputable def sp_whf4 : Sp := fun vs H Q _ => ∃ a qs B, vs = [.ref a, .int B] ∧ Rw H a qs ∧ qs.length ≤ 100 ∧ 0 < B ∧ (∀ q ∈ qs, (q.den : Int) ∣ B) ∧ (∀ q ∈ qs, Bq 1300 q) ∧ Bt 20000 B ∧
  ∀ r ns H', Same H H' → H r = none → Iz H' r ns → cq ns = qs.map (· * (B : Rat)) → Q (.ref r) H'
theorem sc_whole_figures : FnScope ["one", "bottom"] ["one", "bottom"] (defScope s_whole_figures) := ⟨rfl, rfl, rfl, by decide +kernel, rfl, by decide +kernel, by decide +kernel⟩
theorem ok_whole_figures (F : Fun K "whole_figures" "whole_figures" s_whole_figures f fd) (T : Txt mg) : FnOk P w K mg base CX0 1 f fd ["one", "bottom"] sp_whf4 := by
  refine F.ok sc_whole_figures (fun vs H Q E h => ?_) (fun cdv A outer s H vs Q E hr h => ?_)
  · obtain ⟨a, qs, B, rfl, _⟩ := h
    rfl
  obtain ⟨a, qs, B, rfl, ra, hl, hB, hd, bq, bB, q⟩ := h
  obtain ⟨xa, ea, la⟩ := ra.there
  refine ⟨_, (pss_one (ps_ret (pe_comp (N' := ["figure", "bottom"]) (fsc := defScope s_whole_figures) (N := ["one", "bottom"]) [1] ⟨rfl, by decide +kernel, by decide +kernel, by decide +kernel, rfl, by decide +kernel, rfl, by decide +kernel⟩ (pi_list (pv 0)) (fun _ _ _ _ => (pe_op op_mulB (pe_ix ix_tup (pv 0) pe_int (fun _ _ => rfl)) (pe_op op_fdP (pv 1) (pe_ix ix_tup (pv 0) pe_int (fun _ _ => rfl)))))))), ?_⟩
  refine ⟨_, rfl, a, rfl, ⟨_, SqL.of ea⟩, comp_listZ (by (first | lia | omega)) ra (fun q => q.num * (B / q.den)) ?_ fun H1 D s1 nD eD => q D _ H1 s1 nD eD ?_⟩
  · intro _ _ _ _ p x H1 R hx kp s1 fin
    have b1 := bq x hx
    exact ⟨_, rfl, _, _, _, _, rfl, rfl, kp.sq, rfl, _, rfl, _, rfl, _, _, _, _, rfl, rfl, kp.sq, rfl, _, _, rfl, rfl, ⟨den_pos x, b1.2.mono (by decide)⟩, _, _, rfl, rfl, mul_of b1.1 (bB.ediv) (by decide), fin⟩
  · unfold cq
    rw [List.map_map]
    refine List.map_congr_left fun x hx => ?_
    show ((x.num * (B / (x.den : Int)) : Int) : Rat) = x * (B : Rat)
    obtain ⟨c, hc⟩ := hd x hx
    have d := den_pos x
    have e1 : B / (x.den : Int) = c := by
      rw [hc]
      exact Int.mul_ediv_cancel_left _ (by (first | lia | omega))
    rw [e1, hc, Rat.intCast_mul, Rat.intCast_mul]
    have e := q_eq x
    have n := den_ne x
    have e3 : x = (x.num : Rat) / ((x.den : Int) : Rat) := e.symm
    generalize (x.num : Rat) = u at *
    generalize ((x.den : Int) : Rat) = v at *
    rw [e3]
    grind
noncomputable def sp_oob : Sp := fun vs H Q _ => ∃ a A, vs = [.ref a] ∧ Rw H a A ∧ A.length ≤ 13 ∧ (∀ q ∈ A, Bq 1300 q) ∧ ∀ r H', Same H H' → Fz H' r A → Q (.ref r) H'
theorem sc_over_one_bottom : FnScope ["one", "bottom"] ["one"] (defScope s_over_one_bottom) := ⟨rfl, rfl, rfl, by decide +kernel, rfl, by decide +kernel, by decide +kernel⟩
theorem ok_over_one_bottom (F : Fun K "over_one_bottom" "over_one_bottom" s_over_one_bottom f fd) (T : Txt mg) (C_shared_bottom : Cal P w K mg base "shared_bottom" 2 ["figures"] sp_shb4) (C_whole_figures : Cal P w K mg base "whole_figures" 1 ["one", "bottom"] sp_whf4) : FnOk P w K mg base CX0 3 f fd ["one"] sp_oob := by
  refine F.ok sc_over_one_bottom (fun vs H Q E h => ?_) (fun cdv A outer s H vs Q E hr h => ?_)
  · obtain ⟨a, A, rfl, _⟩ := h
    rfl
  obtain ⟨a, A', rfl, ra, hl, bq, q⟩ := h
  refine ⟨_, (pss_cons (ps_set (i := 1) sc_over_one_bottom.nd rfl (Or.inl rfl) (pe_cl C_shared_bottom hr (pa_cons (pv 0) pa_nil)))
      (pss_one (ps_ret (pe_tup (pa_cons (pe_cl C_whole_figures hr (pa_cons (pv 0) (pa_cons (pv 1) pa_nil))) (pa_cons (pv 1) pa_nil)))))), ?_⟩
  refine ⟨_, rfl, a, A', 1300, rfl, ra, hl, bq, Nat.le_refl _, fun B hB hd hm bB => ?_⟩
  refine ⟨_, rfl, _, rfl, a, A', B, rfl, ra, by (first | lia | omega), hB, hd, bq, bB.mono (by decide), fun r1 ns H1 s1 n1 iz e => ?_⟩
  refine ⟨_, rfl, (by show 2 ≤ sizeLine; decide), fun r hr' => ?_⟩
  have u := same_upd hr' (.tup [.ref r1, .int B])
  refine q r _ (s1.trans u) ⟨r1, ns, B, upd_same, u _ _ iz, Int.ne_of_gt hB, e, fun M h => hm M fun q hq => ?_⟩
  obtain ⟨T, eT⟩ := h q hq
  exact den_dvd eT
theorem g_bt_l {n : Nat} {a b : Int} (h : a ≠ 0) (k : Bt n a) : Bt n (g a b) := by
  refine k.of_le ?_
  exact Nat.le_of_dvd (by (first | lia | omega)) (Int.natAbs_dvd_natAbs.mpr (g_dvd_left a b))
theorem g_mul_dvd {x a b M : Int} (h1 : x ∣ a * M) (h2 : x ∣ b * M) : x ∣ g a b * M := by
  have h : x ∣ ((Int.gcd (a * M) (b * M) : Nat) : Int) := Int.dvd_coe_gcd h1 h2
  rw [Int.gcd_mul_right, Int.natCast_mul] at h
  have h' : x ∣ g a b * ((M.natAbs : Nat) : Int) := h
  rcases Int.natAbs_eq M with e | e
  · rw [e]; exact h'
  · rw [e, Int.mul_neg]; exact Int.dvd_neg.mpr h'
noncomputable def sp_ilt : Sp := fun vs H Q _ => ∃ fa fs b A, vs = [.ref fa, .int b] ∧ Iz H fa fs ∧ fs.length ≤ 13 ∧ b ≠ 0 ∧ Bt 9000 b ∧ cq fs = A.map (· * (b : Rat)) ∧ ∀ r H', Same H H' → Fz H' r A → Q (.ref r) H'
theorem sc_in_lowest_terms : FnScope ["figures", "bottom", "shared", "figure"] ["figures", "bottom"] (defScope s_in_lowest_terms) := ⟨rfl, rfl, rfl, by decide +kernel, rfl, by decide +kernel, by decide +kernel⟩
set_option maxHeartbeats 1000000 in
theorem ok_in_lowest_terms (F : Fun K "in_lowest_terms" "in_lowest_terms" s_in_lowest_terms f fd) (T : Txt mg) (C_divisor : Cal P w K mg base "divisor" 1 ["one", "other"] sp_div) : FnOk P w K mg base CX0 2 f fd ["figures", "bottom"] sp_ilt := by
  refine F.ok sc_in_lowest_terms (fun vs H Q E h => ?_) (fun cdv A outer s H vs Q E hr h => ?_)
  · obtain ⟨fa, fs, b, A, rfl, _⟩ := h
    rfl
  obtain ⟨fa, fs, b, A', rfl, iz, hl, hb, bb, e, q⟩ := h
  refine ⟨_, (pss_cons (ps_set (i := 2) sc_in_lowest_terms.nd rfl (Or.inr rfl) (pv 1))
      (pss_cons (ps_for PassesOwn.never rfl (pi_list (pv 0)) (pg_name (i := 3) sc_in_lowest_terms.nd rfl (Or.inl rfl))
        (pss_one (ps_set (i := 2) sc_in_lowest_terms.nd rfl (Or.inr rfl) (pe_cl C_divisor hr (pa_cons (pv 2) (pa_cons (pv 3) pa_nil))))))
      (pss_one (ps_ret (pe_tup (pa_cons (pe_comp (N' := ["figure", "shared"]) (fsc := defScope s_in_lowest_terms) (N := ["figures", "bottom", "shared", "figure"]) [2] ⟨rfl, by decide +kernel, by decide +kernel, by decide +kernel, rfl, by decide +kernel, rfl, by decide +kernel⟩ (pi_list (pv 0)) (fun _ _ _ _ => (pe_op op_fdA (pv 0) (pv 1)))) (pa_cons (pe_op op_fdA (pv 1) (pv 2)) pa_nil))))))), ?_⟩
  refine ⟨_, rfl, _, rfl, fa, rfl, ⟨_, SqL.of iz⟩, ?_⟩
  refine for_list (xs := fs.map V.int) (fun i σ H' => H = H' ∧ ∃ (S : Int) (v : Option V), σ = [some (.ref fa), some (.int b), some (.int S), v] ∧ S ≠ 0 ∧ Bt 9000 S ∧ S ∣ b ∧ (∀ f ∈ fs.take i, S ∣ f) ∧ ∀ x M : Int, x ∣ b * M → (∀ f ∈ fs.take i, x ∣ f * M) → x ∣ S * M)
    ⟨rfl, b, _, rfl, hb, bb, Int.dvd_refl b, fun f hf => absurd hf (by simp), fun x M h _ => h⟩ ?_ ?_ ?_
  · rintro i σ _ _ ⟨rfl, _⟩
    exact SqL.of iz
  · rintro i x σ _ hi ⟨rfl, S, v, rfl, hS, bS, dS, df, hx⟩
    have hlt : i < fs.length := by
      have := (List.getElem?_eq_some_iff.mp hi).1
      rw [List.length_map] at this
      exact this
    have e1 : (fs.map V.int)[i]? = some (.int fs[i]) := by rw [List.getElem?_map, List.getElem?_eq_getElem hlt]; rfl
    obtain rfl : x = .int fs[i] := Option.some.inj (hi.symm.trans e1)
    have et : fs.take (i + 1) = fs.take i ++ [fs[i]] := List.take_succ_eq_append_getElem hlt
    have g1 := g_dvd_left S fs[i]
    have g2 := g_dvd_right S fs[i]
    refine ⟨_, rfl, _, rfl, _, _, rfl, rfl, _, _, rfl, fun z => hS (g_zero z).1, g_bt_l hS bS, Int.dvd_trans g1 dS, fun f hf => ?_, fun x M h1 h2 => ?_⟩
    · rw [et] at hf
      rcases List.mem_append.mp hf with z | z
      · exact Int.dvd_trans g1 (df f z)
      · rw [List.mem_singleton.mp z]; exact g2
    · rw [et] at h2
      exact g_mul_dvd (hx x M h1 fun f hf => h2 f (List.mem_append_left _ hf)) (h2 _ (List.mem_append_right _ (by simp)))
  · rintro σ _ ⟨rfl, S, v, rfl, hS, bS, dS, df, hx⟩
    rw [List.length_map, List.take_length] at df hx
    refine ⟨_, rfl, fa, rfl, ⟨_, SqL.of iz⟩, comp_intsI (ns := fs) (by (first | lia | omega)) iz (fun f => f.fdiv S) ?_ fun H1 D s1 nD eD => ?_⟩
    · intro _ _ _ _ x H1 R hxm fin
      exact ⟨_, rfl, _, rfl, _, _, rfl, rfl, ⟨hS, bS⟩, fin⟩
    refine ⟨_, rfl, _, rfl, _, _, rfl, rfl, ⟨hS, bS⟩, (by show 2 ≤ sizeLine; decide), fun r hr' => ?_⟩
    have u := same_upd hr' (.tup [.ref D, .int (b.fdiv S)])
    obtain ⟨b', hb'⟩ := dS
    have eb : b.fdiv S = b' := by
      rw [Int.fdiv_eq_ediv_of_dvd ⟨b', hb'⟩, hb']
      exact Int.mul_ediv_cancel_left _ hS
    have hS' : (S : Rat) ≠ 0 := fun z => hS (Rat.intCast_eq_zero_iff.mp z)
    refine q r _ (s1.trans u) ⟨D, fs.map fun f => f.fdiv S, b', ?_, u _ _ eD, fun z => hb (by rw [hb', z, Int.mul_zero]), ?_, fun M h => ?_⟩
    · rw [upd_same]
      show some (HO.tup [V.ref D, V.int (b.fdiv S)]) = some (HO.tup [V.ref D, V.int b'])
      rw [eb]
    · refine List.ext_getElem? fun i => ?_
      have h := congrArg (fun l : List Rat => l[i]?) e
      simp only [cq, List.getElem?_map] at h ⊢
      cases hf : fs[i]? with
      | none =>
        rw [hf] at h
        cases hA : A'[i]? with
        | none => rfl
        | some a => rw [hA] at h; cases h
      | some f =>
        rw [hf] at h
        cases hA : A'[i]? with
        | none => rw [hA] at h; cases h
        | some a =>
          rw [hA] at h
          have h' : ((f : Int) : Rat) = a * (b : Rat) := Option.some.inj h
          obtain ⟨f', hf'⟩ := df f (List.mem_of_getElem? hf)
          have ef : f.fdiv S = f' := by
            rw [Int.fdiv_eq_ediv_of_dvd ⟨f', hf'⟩, hf']
            exact Int.mul_ediv_cancel_left _ hS
          show some (((f.fdiv S : Int)) : Rat) = some (a * (b' : Rat))
          rw [ef]
          rw [hf', hb', Rat.intCast_mul, Rat.intCast_mul] at h'
          congr 1
          have : (S : Rat) * (f' : Rat) = (S : Rat) * (a * (b' : Rat)) := by rw [h']; grind
          exact rcancel hS' this
    · have hbM : b ∣ S * M := hx b M (Int.dvd_mul_right _ _) fun f hf => by
        have hf' : ((f : Int) : Rat) ∈ cq fs := List.mem_map.mpr ⟨f, hf, rfl⟩
        rw [e] at hf'
        obtain ⟨a, ha, ea⟩ := List.mem_map.mp hf'
        obtain ⟨T, eT⟩ := h a ha
        refine ⟨T, ?_⟩
        have : ((f * M : Int) : Rat) = ((b * T : Int) : Rat) := by
          rw [Rat.intCast_mul, Rat.intCast_mul, ← eT, ← ea]
          grind
        exact Rat.intCast_inj.mp this
      rw [hb'] at hbM
      exact Int.dvd_of_mul_dvd_mul_left hS hbM

noncomputable def sp_fracN : Sp := fun vs H Q _ => ∃ t b, vs = [.int t, .int b] ∧ b ≠ 0 ∧ Bt 8000 b ∧ ∀ r H', Same H H' → Pq H' r ((t : Rat) / (b : Rat)) → Q (.ref r) H'
theorem sc_fraction : FnScope ["top", "bottom", "shared"] ["top", "bottom"] (defScope s_fraction) := ⟨rfl, rfl, rfl, by decide +kernel, rfl, by decide +kernel, by decide +kernel⟩
theorem ok_fraction {dV : Value} (F : FunD K "fraction" "fraction" s_fraction dV f fd) (T : Txt mg) (C_is_whole : Cal P w K mg base "is_whole" 1 ["thing"] sp_whole) (C_divisor : Cal P w K mg base "divisor" 1 ["one", "other"] sp_div) : FnOk P w K mg base CX0 2 f fd ["top", "bottom"] sp_fracN := by
  refine okD F sc_fraction (fun vs H Q E h => ?_) (fun cdv A outer s H vs Q E hr h => ?_)
  · obtain ⟨t, b, rfl, _⟩ := h
    rfl
  obtain ⟨t, b, rfl, hb, bb, q⟩ := h
  have fin : ∀ x, x = sh t b → (x ≠ 0 ∧ Bt 9000 x) ∧ ∀ r, H r = none → Q (.ref r) (upd H r (.tup [.int (t.fdiv x), .int (b.fdiv x)])) := fun x e => by
    subst e
    obtain ⟨f1, e1⟩ := fr_ok (t := t) hb
    exact ⟨⟨sh_ne hb, (sh_bt hb bb).mono (by decide)⟩, fun r hr => q r _ (same_upd hr _) (Pq.of Pr.new (of_low f1 hb e1 rfl))⟩
  refine ⟨_, (pss_cons (ps_if (PW.pt (pw_or (pt_not (pt_val (pe_cl C_is_whole hr (pa_cons (pv 0) pa_nil)))) (pw_or1 (pt_not (pt_val (pe_cl C_is_whole hr (pa_cons (pv 1) pa_nil)))))))
        (pss_one ps_never)
        pss_nil)
      (pss_cons (ps_if (pt_cmpR op_eq (pv 1) pe_int (nomark _))
        (pss_one ps_never)
        pss_nil)
      (pss_cons (ps_set (i := 2) sc_fraction.nd rfl (Or.inl rfl) (pe_cl C_divisor hr (pa_cons (pv 0) (pa_cons (pv 1) pa_nil))))
      (pss_cons (ps_if (pt_cmpR op_lt (pv 1) pe_int (nomark _))
        (pss_one (ps_set (i := 2) sc_fraction.nd rfl (Or.inl rfl) (pe_un un_neg (pv 2))))
        pss_nil)
      (pss_one (ps_ret (pe_tup (pa_cons (pe_op op_fdA (pv 0) (pv 2)) (pa_cons (pe_op op_fdA (pv 1) (pv 2)) pa_nil))))))))), ?_⟩
  refine ⟨_, rfl, _, rfl, _, rfl, iteF ?_⟩
  refine ⟨_, rfl, _, rfl, _, rfl, iteF ?_⟩
  refine ⟨_, rfl, rfl, _, rfl, iteND (fun z => hb (V.int.inj z)) ?_⟩
  refine ⟨_, rfl, _, rfl, _, _, rfl, ?_⟩
  refine ⟨_, rfl, _, _, rfl, rfl, _, rfl, ?_⟩
  refine ite2 (fun c2 => ?_) (fun c2 => ?_)
  · have d2 : b < 0 := of_decide_eq_true c2
    obtain ⟨c3, q3⟩ := fin (-(g t b)) (by unfold sh; rw [if_pos d2])
    refine ⟨_, rfl, _, rfl, ?_⟩
    exact ⟨_, rfl, _, rfl, _, _, rfl, rfl, c3, _, rfl, _, rfl, _, _, rfl, rfl, c3, (by show 2 ≤ sizeLine; decide), q3⟩
  · have d2 : ¬ b < 0 := of_decide_eq_false (Bool.eq_false_iff.mpr c2)
    obtain ⟨c3, q3⟩ := fin (g t b) (by unfold sh; rw [if_neg d2])
    exact ⟨_, rfl, _, rfl, _, _, rfl, rfl, c3, _, rfl, _, rfl, _, _, rfl, rfl, c3, (by show 2 ≤ sizeLine; decide), q3⟩
theorem atI_lastZ {fs : List Int} (h : 0 < fs.length) : atI (fs.map V.int) (-1) = some (.int (fs.getD (fs.length - 1) 0)) := by
  rcases List.eq_nil_or_concat fs with z | ⟨L, x, z⟩
  · rw [z] at h; simp at h
  · rw [List.concat_eq_append] at z
    have e : fs.getD (fs.length - 1) 0 = x := by
      rw [z, List.length_append, List.length_singleton, Nat.add_sub_cancel, List.getD_eq_getElem?_getD, List.getElem?_append_right (Nat.le_refl _), Nat.sub_self]
      rfl
    rw [e, z, List.map_append]
    exact atI_last _ _
theorem mem_getD {fs : List Int} {i : Nat} (h : i < fs.length) : fs.getD i 0 ∈ fs := by
  rw [List.getD_eq_getElem?_getD, List.getElem?_eq_getElem h]
  exact List.getElem_mem h
noncomputable def OvM (A : List Rat) : Prop := ∃ M : Int, M ≠ 0 ∧ Bt 1300 M ∧ ∀ q ∈ A, Po.Ov 1300 M q
theorem lastZ {fs : List Int} {A : List Rat} {b : Int} (e : cq fs = A.map (· * (b : Rat))) : ((fs.getD (fs.length - 1) 0 : Int) : Rat) = Po.lst A * (b : Rat) := by
  unfold Po.lst
  rw [fz_getD e, fz_len e]
noncomputable def sp_quot : Sp := fun vs H Q _ => ∃ (k : Nat) (p p' : Addr) (A B : List Rat), vs = [.int k, .ref p, .ref p'] ∧ Fz H p A ∧ Fz H p' B ∧ 0 < A.length ∧ 0 < B.length ∧ Po.lst B ≠ 0 ∧ OvM A ∧ OvM B ∧ ∀ r H', Same H H' → Pq H' r (if k % 2 = 0 then Po.lst A / Po.lst B else -(Po.lst A / Po.lst B)) → Q (.ref r) H'

theorem ovn_bt {n : Nat} {fs : List Int} {A : List Rat} {b : Int} (o : Po.OvN n A) (e : cq fs = A.map (· * (b : Rat))) (lw : Lw b A) : Bt n b ∧ ∀ f ∈ fs, Bt n f := by
  obtain ⟨M, h1, h2, h3⟩ := o
  exact fz_bt e lw h1 h2 h3
theorem sgn_pos1 {x : Rat} (h : 0 < x) : sgn x.num = 1 := by
  have h0 : 0 ≤ x.num := Rat.num_nonneg.mpr (Rat.le_of_lt h)
  have h1 : x.num ≠ 0 := fun z => Rat.ne_of_gt h (Rat.num_eq_zero.mp z)
  unfold sgn
  rw [if_pos (by (first | lia | omega))]
noncomputable def sp_quotG : Sp := fun vs H Q _ => ∃ (k : Nat) (p p' : Addr) (A B : List Rat) (na nb : Nat), vs = [.int k, .ref p, .ref p'] ∧ Fz H p A ∧ Fz H p' B ∧ 0 < A.length ∧ 0 < B.length ∧ Po.OvN na A ∧ Po.OvN nb B ∧ na + nb ≤ 7990 ∧ ∀ r H', Same H H' → Pq H' r (Po.qAt k A B) → Q (.ref r) H'
noncomputable def sp_restG : Sp := fun vs H Q _ => ∃ (p p' : Addr) (A B : List Rat) (na nb : Nat), vs = [.ref p, .ref p'] ∧ Fz H p A ∧ Fz H p' B ∧ A.length ≤ 13 ∧ 0 < B.length ∧ B.length ≤ A.length ∧ Po.lst B ≠ 0 ∧ Po.OvN na A ∧ Po.OvN nb B ∧ na + nb ≤ 7990 ∧ ∀ r H', Same H H' → Fz H' r (Po.rst A B) → Q (.ref r) H'
structure LadG (U L : List Rat) (n : Nat) : Prop where
  lu : U.length = n + 1
  ll : L.length = n + 1
  most : n ≤ 12
  one : L[0]? = some 1
  bU : ∀ q ∈ U, Bq 1300 q
  bL : ∀ q ∈ L, Bq 1300 q
  ov : ∀ p, p < 2 * n + 1 → (∀ j, j < p → 0 < Po.qp U L j) → ∃ na nb, Po.OvN na (Po.abp U L p).1 ∧ Po.OvN nb (Po.abp U L p).2 ∧ na + nb ≤ 7990
noncomputable def sp_ladG : Sp := fun vs H Q _ => ∃ (u l : Addr) (U L : List Rat) (n : Nat), vs = [.ref u, .ref l] ∧ Rw H u U ∧ Rw H l L ∧ LadG U L n ∧
  ∀ r lq m H', Same H H' → m ≤ 2 * n + 1 → (∀ j, j < m → 0 < Po.qp U L j) → (m < 2 * n + 1 → ¬ 0 < Po.qp U L m) → H lq = none → H' r = some (.tup [.ref lq, if m = 2 * n + 1 then .non else .int m]) → Rw H' lq ((List.range m).map (Po.qp U L)) → Q (.ref r) H'
theorem sc_quotient_at : FnScope ["place", "one", "other", "last", "divided_by", "quotient"] ["place", "one", "other"] (defScope s_quotient_at) := ⟨rfl, rfl, rfl, by decide +kernel, rfl, by decide +kernel, by decide +kernel⟩
set_option maxHeartbeats 1000000 in
theorem ok_quotient_at (F : Fun K "quotient_at" "quotient_at" s_quotient_at f fd) (T : Txt mg) (C_fraction_d0 : CalD P w K mg base "fraction" 2 ["top", "bottom"] [] [] sp_fracN) (C_minus : Cal P w K mg base "minus" 3 ["one", "other"] (sp_bin 8000 (· - ·))) : FnOk P w K mg base CX0 4 f fd ["place", "one", "other"] sp_quotG := by
  refine F.ok sc_quotient_at (fun vs H Q E h => ?_) (fun cdv A outer s H vs Q E hr h => ?_)
  · obtain ⟨k, p, p', A, B, na, nb, rfl, _⟩ := h
    rfl
  obtain ⟨k, p, p', A', B, na, nb, rfl, ⟨fa, fs, b, ep, iz, hb, e, lw⟩, ⟨fb, gs', b', ep', iz', hb', e', lw'⟩, lA, lB, oA, oB, nab, q⟩ := h
  have lf := fz_len e
  have lg := fz_len e'
  obtain ⟨bb, bf⟩ := ovn_bt oA e lw
  obtain ⟨bb', bf'⟩ := ovn_bt oB e' lw'
  have eA := lastZ e
  have eB := lastZ e'
  have m1 := bf _ (mem_getD (show fs.length - 1 < fs.length by (first | lia | omega)))
  have m2 := bf' _ (mem_getD (show gs'.length - 1 < gs'.length by (first | lia | omega)))
  have a1 := atI_lastZ (fs := fs) (by (first | lia | omega))
  have a2 := atI_lastZ (fs := gs') (by (first | lia | omega))
  generalize fs.getD (fs.length - 1) 0 = lf' at *
  generalize gs'.getD (gs'.length - 1) 0 = dg at *
  have hbR : (b : Rat) ≠ 0 := fun z => hb (Rat.intCast_eq_zero_iff.mp z)
  have hbR' : (b' : Rat) ≠ 0 := fun z => hb' (Rat.intCast_eq_zero_iff.mp z)
  refine ⟨_, (pss_cons (ps_set (i := 3) sc_quotient_at.nd rfl (Or.inl rfl) (pe_ix ix_list (pe_ix ix_tup (pv 1) pe_int (fun _ _ => rfl)) (pe_un un_neg pe_int) (fun _ _ => rfl)))
      (pss_cons (ps_set (i := 4) sc_quotient_at.nd rfl (Or.inl rfl) (pe_ix ix_list (pe_ix ix_tup (pv 2) pe_int (fun _ _ => rfl)) (pe_un un_neg pe_int) (fun _ _ => rfl)))
      (pss_cons (ps_if (pt_cmpR op_eq (pv 4) pe_int (nomark _))
        (pss_one (ps_ret (pe_tup (pa_cons pe_int (pa_cons pe_int pa_nil)))))
        pss_nil)
      (pss_cons (ps_set (i := 5) sc_quotient_at.nd rfl (Or.inl rfl) (pe_clD C_fraction_d0 hr (pa_cons (pe_op op_mulB (pv 3) (pe_ix ix_tup (pv 2) pe_int (fun _ _ => rfl))) (pa_cons (pe_op op_mulB (pv 4) (pe_ix ix_tup (pv 1) pe_int (fun _ _ => rfl))) pa_nil))))
      (pss_cons (ps_if (pt_cmpR op_eq (pe_op op_mod (pv 0) pe_int) pe_int (nomark _))
        (pss_one (ps_ret (pv 5)))
        pss_nil)
      (pss_one (ps_ret (pe_cl C_minus hr (pa_cons (pe_tup (pa_cons pe_int (pa_cons pe_int pa_nil))) (pa_cons (pv 5) pa_nil)))))))))), ?_⟩
  refine ⟨_, rfl, p, _, _, _, rfl, rfl, SqT.of ep, rfl, _, rfl, fa, _, _, _, rfl, rfl, SqL.of iz, a1, ?_⟩
  refine ⟨_, rfl, p', _, _, _, rfl, rfl, SqT.of ep', rfl, _, rfl, fb, _, _, _, rfl, rfl, SqL.of iz', a2, ?_⟩
  refine ⟨_, rfl, rfl, _, rfl, ite2 (fun c0 => ?_) (fun c0 => ?_)⟩
  · have c0' : dg = 0 := V.int.inj (of_decide_eq_true c0)
    have hL : Po.lst B = 0 := by
      rw [c0'] at eB
      have : Po.lst B * (b' : Rat) = 0 := eB.symm.trans rfl
      rcases Rat.mul_eq_zero.mp this with w | w
      · exact w
      · exact absurd w hbR'
    refine ⟨(by show 2 ≤ sizeLine; decide), fun z hz => q z _ (same_upd hz _) ?_⟩
    unfold Po.qAt
    rw [if_pos hL]
    exact Pq.of Pr.new ⟨rfl, rfl⟩
  have hdg : dg ≠ 0 := fun z => of_decide_eq_false (Bool.eq_false_iff.mpr c0) (congrArg V.int z)
  have hL : Po.lst B ≠ 0 := fun z => by
    rw [z, Rat.zero_mul] at eB
    exact hdg (Rat.intCast_eq_zero_iff.mp eB)
  unfold Po.qAt at q
  rw [if_neg hL] at q
  refine ⟨_, rfl, _, rfl, p', _, _, _, rfl, rfl, SqT.of ep', rfl, _, _, rfl, rfl, mul_of m1 bb' (by (first | lia | omega)), _, rfl, _, rfl, p, _, _, _, rfl, rfl, SqT.of ep, rfl, _, _, rfl, rfl, mul_of m2 bb (by (first | lia | omega)), _, _, rfl, Int.mul_ne_zero hdg hb, (m2.mul bb).mono (by (first | lia | omega)), fun r1 H1 s1 k1 => ?_⟩
  have ev : ((lf' * b' : Int) : Rat) / ((dg * b : Int) : Rat) = Po.lst A' / Po.lst B := by
    rw [Rat.intCast_mul, Rat.intCast_mul, eA, eB]
    grind
  rw [ev] at k1
  have bq : Bq 7990 (Po.lst A' / Po.lst B) := bq_of (Int.mul_ne_zero hdg hb) ev.symm ((m1.mul bb').mono (by (first | lia | omega))) ((m2.mul bb).mono (by (first | lia | omega)))
  refine ⟨_, rfl, _, _, rfl, rfl, (by show (0 : Int) < 2; decide), rfl, _, rfl, ite2 (fun c => ?_) (fun c => ?_)⟩
  · have c' : (k : Int) % 2 = 0 := V.int.inj (of_decide_eq_true c)
    refine ⟨_, rfl, q r1 H1 s1 ?_⟩
    rw [if_pos (by (first | lia | omega))]
    exact k1
  · have c' : ¬ (k : Int) % 2 = 0 := fun z => of_decide_eq_false (Bool.eq_false_iff.mpr c) (congrArg V.int z)
    refine ⟨(by show 2 ≤ sizeLine; decide), fun z hz => ?_⟩
    have u := same_upd hz (.tup [.int 0, .int 1])
    have kz : Pq (upd H1 z (.tup [.int 0, .int 1])) z 0 := Pq.of Pr.new ⟨rfl, rfl⟩
    refine ⟨_, rfl, z, r1, _, _, rfl, kz, k1.keep u, Bq.zero (by decide), bq.mono (by decide), fun r2 H2 s2 k2 => q r2 H2 (s1.trans (u.trans s2)) ?_⟩
    rw [if_neg (by (first | lia | omega))]
    have : -(Po.lst A' / Po.lst B) = 0 - Po.lst A' / Po.lst B := by grind
    rw [this]
    exact k2
theorem lift_getD {gs' : List Int} {B : List Rat} {b' : Int} (e' : cq gs' = B.map (· * (b' : Rat))) (m i : Nat) : (((List.replicate m (0 : Int) ++ gs').getD i 0 : Int) : Rat) = (List.replicate m (0 : Rat) ++ B).getD i 0 * (b' : Rat) := by
  refine fz_getD (fs := List.replicate m (0 : Int) ++ gs') (A := List.replicate m (0 : Rat) ++ B) ?_ i
  unfold cq at e' ⊢
  rw [List.map_append, List.map_append, e', List.map_replicate, List.map_replicate, Rat.zero_mul]
  rfl
theorem sc_rest_of : FnScope ["one", "other", "lifted", "last", "divided_by", "figures"] ["one", "other"] (defScope s_rest_of) := ⟨rfl, rfl, rfl, by decide +kernel, rfl, by decide +kernel, by decide +kernel⟩
set_option maxHeartbeats 2000000 in
theorem ok_rest_of (F : Fun K "rest_of" "rest_of" s_rest_of f fd) (T : Txt mg) (C_in_lowest_terms : Cal P w K mg base "in_lowest_terms" 2 ["figures", "bottom"] sp_ilt) : FnOk P w K mg base CX0 3 f fd ["one", "other"] sp_restG := by
  refine F.ok sc_rest_of (fun vs H Q E h => ?_) (fun cdv A outer s H vs Q E hr h => ?_)
  · obtain ⟨p, p', A, B, na, nb, rfl, _⟩ := h
    rfl
  obtain ⟨p, p', A', B, na, nb, rfl, ⟨fa, fs, b, ep, iz, hb, e, lw⟩, ⟨fb, gs', b', ep', iz', hb', e', lw'⟩, l13, lB, lBA, hL, oA, oB, nab, q⟩ := h
  have lf := fz_len e
  have lg := fz_len e'
  obtain ⟨bb, bf⟩ := ovn_bt oA e lw
  obtain ⟨bb', bf'⟩ := ovn_bt oB e' lw'
  have eA := lastZ e
  have eB := lastZ e'
  have m1 := bf _ (mem_getD (show fs.length - 1 < fs.length by (first | lia | omega)))
  have m2 := bf' _ (mem_getD (show gs'.length - 1 < gs'.length by (first | lia | omega)))
  have a1 := atI_lastZ (fs := fs) (by (first | lia | omega))
  have a2 := atI_lastZ (fs := gs') (by (first | lia | omega))
  generalize fs.getD (fs.length - 1) 0 = lf' at *
  generalize gs'.getD (gs'.length - 1) 0 = dg at *
  have hbR : (b : Rat) ≠ 0 := fun z => hb (Rat.intCast_eq_zero_iff.mp z)
  have hbR' : (b' : Rat) ≠ 0 := fun z => hb' (Rat.intCast_eq_zero_iff.mp z)
  have hdg : dg ≠ 0 := fun z => by
    rw [z] at eB
    have : Po.lst B * (b' : Rat) = 0 := eB.symm.trans rfl
    rcases Rat.mul_eq_zero.mp this with w | w
    · exact hL w
    · exact hbR' w
  have hz : (1000 : Nat) < sizeLine := by decide
  have lna : (fs.map V.int).length = fs.length := List.length_map _
  have lmb : (gs'.map V.int).length = gs'.length := List.length_map _
  refine ⟨_, (pss_cons (ps_set (i := 2) sc_rest_of.nd rfl (Or.inl rfl) (pe_op op_cat (pe_op op_rep (pe_lst (pa_cons pe_int pa_nil)) (pe_op op_sub (pe_callB call_len_seq rfl T.z_len PySem.boot_len (pa_cons (pe_ix ix_tup (pv 0) pe_int (fun _ _ => rfl)) pa_nil)) (pe_callB call_len_seq rfl T.z_len PySem.boot_len (pa_cons (pe_ix ix_tup (pv 1) pe_int (fun _ _ => rfl)) pa_nil)))) (pe_ix ix_tup (pv 1) pe_int (fun _ _ => rfl))))
      (pss_cons (ps_set (i := 3) sc_rest_of.nd rfl (Or.inr rfl) (pe_ix ix_list (pe_ix ix_tup (pv 0) pe_int (fun _ _ => rfl)) (pe_un un_neg pe_int) (fun _ _ => rfl)))
      (pss_cons (ps_set (i := 4) sc_rest_of.nd rfl (Or.inr rfl) (pe_ix ix_list (pe_ix ix_tup (pv 1) pe_int (fun _ _ => rfl)) (pe_un un_neg pe_int) (fun _ _ => rfl)))
      (pss_cons (ps_setCompG (i := 5) sc_rest_of.nd rfl (Or.inl rfl) (N' := ["figure", "less", "divided_by", "last"]) (fsc := defScope s_rest_of) (N := ["one", "other", "lifted", "last", "divided_by", "figures"]) ["figure", "less"] [4, 3] ⟨rfl, by decide +kernel, by decide +kernel, rfl, by decide +kernel, by decide +kernel⟩ (pi_zip rfl T.z_zip (pa_cons (pe_ix ix_tup (pv 0) pe_int (fun _ _ => rfl)) (pa_cons (pv 2) pa_nil))) (fun _ _ _ _ => (pg_blk2 (N' := ["figure", "less", "divided_by", "last"]) (i := 0) (j := 1) rfl (by decide +kernel) rfl rfl rfl rfl)) (fun _ _ _ _ => pts_nil) (fun _ _ _ _ => (pe_op op_sub (pe_op op_mulB (pv 2) (pv 0)) (pe_op op_mulB (pv 3) (pv 1)))))
      (pss_cons (ps_expr (pe_bm0 PySem.F.plainAttrs_list PySem.F.slot_list_pop PySem.F.type_list_pop mt_pop (pv 5)))
      (pss_one (ps_ret (pe_cl C_in_lowest_terms hr (pa_cons (pv 5) (pa_cons (pe_op op_mulB (pv 4) (pe_ix ix_tup (pv 0) pe_int (fun _ _ => rfl))) pa_nil)))))))))), ?_⟩
  refine ⟨(by show 1 ≤ sizeLine; decide), fun l0 hl0 => ?_⟩
  have s1 := same_upd hl0 (.lst [.int 0])
  refine ⟨_, rfl, p, _, _, _, rfl, rfl, SqT.of (s1 _ _ ep), rfl, fa, _, rfl, .inl (SqL.of (s1 _ _ iz)), _, rfl, p', _, _, _, rfl, rfl, SqT.of (s1 _ _ ep'), rfl, fb, _, rfl, .inl (SqL.of (s1 _ _ iz')), _, _, rfl, rfl, l0, _, _, rfl, rfl, upd_same, ?_, ?_, ?_, fun l1 hl1 => ?_⟩
  · rw [lna, lmb]; (first | lia | omega)
  · rw [lna, lmb]; (first | lia | omega)
  · rw [lna, lmb, List.length_singleton]; (first | lia | omega)
  have en : (((fs.map V.int).length : Int) - ((gs'.map V.int).length : Int)).toNat = fs.length - gs'.length := by
    rw [lna, lmb]; (first | lia | omega)
  rw [en, flat_rep4]
  have s2 := same_upd hl1 (.lst (List.replicate (fs.length - gs'.length) (V.int 0)))
  have s12 := s1.trans s2
  refine ⟨_, rfl, p', _, _, _, rfl, rfl, SqT.of (s12 _ _ ep'), rfl, l1, fb, _, _, rfl, rfl, upd_same, s12 _ _ iz', by rw [lmb, List.length_replicate]; (first | lia | omega), fun L hLn => ?_⟩
  have s3 := same_upd hLn (.lst (List.replicate (fs.length - gs'.length) (V.int 0) ++ gs'.map V.int))
  have izL : Iz (upd (upd (upd H l0 (.lst [.int 0])) l1 (.lst (List.replicate (fs.length - gs'.length) (V.int 0)))) L (.lst (List.replicate (fs.length - gs'.length) (V.int 0) ++ gs'.map V.int))) L (List.replicate (fs.length - gs'.length) 0 ++ gs') := by
    unfold Iz
    rw [upd_same, List.map_append, List.map_replicate]
  have s03 := s12.trans s3
  have ep3 := s03 _ _ ep
  have ep3' := s03 _ _ ep'
  have iz3 := s03 _ _ iz
  have iz3' := s03 _ _ iz'
  generalize upd (upd (upd H l0 (.lst [.int 0])) l1 (.lst (List.replicate (fs.length - gs'.length) (V.int 0)))) L (.lst (List.replicate (fs.length - gs'.length) (V.int 0) ++ gs'.map V.int)) = H3 at *
  have lL : (List.replicate (fs.length - gs'.length) (0 : Int) ++ gs').length = fs.length := by rw [List.length_append, List.length_replicate]; (first | lia | omega)
  have bL : ∀ z ∈ List.replicate (fs.length - gs'.length) (0 : Int) ++ gs', Bt nb z := fun z hz => by
    rcases List.mem_append.mp hz with w | w
    · rw [List.eq_of_mem_replicate w]; exact Bt.zero
    · exact bf' z w
  refine ⟨_, rfl, p, _, _, _, rfl, rfl, SqT.of ep3, rfl, _, rfl, fa, _, _, _, rfl, rfl, SqL.of iz3, a1, ?_⟩
  refine ⟨_, rfl, p', _, _, _, rfl, rfl, SqT.of ep3', rfl, _, rfl, fb, _, _, _, rfl, rfl, SqL.of iz3', a2, ?_⟩
  refine ⟨_, rfl, p, _, _, _, rfl, rfl, SqT.of ep3, rfl, _, rfl, fa, L, rfl, ⟨_, SqL.of iz3⟩, ⟨_, SqL.of izL⟩, comp_zipI (ns := fs) (ms := List.replicate (fs.length - gs'.length) (0 : Int) ++ gs') fs.length (by rw [lL]; (first | lia | omega)) (by (first | lia | omega)) iz3 izL (fun x y => dg * x - lf' * y) ?_ ?_ fun H4 D s4 nD eD => ?_⟩
  · intro _ _ _ _ x y H4 R fin
    exact fin
  · intro _ _ _ _ x y H4 R hx hy fin
    exact ⟨_, rfl, _, rfl, _, _, rfl, rfl, mul_of m2 (bf x hx) (by (first | lia | omega)), _, rfl, _, rfl, _, _, rfl, rfl, mul_of m1 (bL y hy) (by (first | lia | omega)), _, _, rfl, rfl, fin⟩
  obtain ⟨m, hm⟩ : ∃ m, fs.length = m + 1 := ⟨fs.length - 1, by (first | lia | omega)⟩
  rw [hm] at eD
  rw [List.range_succ, List.map_append, List.map_append, List.map_singleton, List.map_singleton] at eD
  refine ⟨_, rfl, .inl ⟨rfl, _, SqL.of eD⟩, D, _, V.int (dg * fs.getD m 0 - lf' * (List.replicate (m + 1 - gs'.length) (0 : Int) ++ gs').getD m 0), rfl, rfl, eD, ?_, ?_⟩
  · rw [List.length_append, List.length_singleton, Nat.add_sub_cancel, List.getElem?_append_right (Nat.le_refl _), Nat.sub_self]
    rfl
  rw [List.dropLast_concat]
  have s5 : Same H (upd H4 D (.lst (((List.range m).map fun i => dg * fs.getD i 0 - lf' * (List.replicate (m + 1 - gs'.length) (0 : Int) ++ gs').getD i 0).map V.int))) := same_updF (s03.trans s4) (s03.free nD) _
  have ep5 : (upd H4 D (.lst (((List.range m).map fun i => dg * fs.getD i 0 - lf' * (List.replicate (m + 1 - gs'.length) (0 : Int) ++ gs').getD i 0).map V.int))) p = some (.tup [.ref fa, .int b]) := s5 _ _ ep
  refine ⟨_, rfl, _, rfl, _, rfl, p, _, _, _, rfl, rfl, SqT.of ep5, rfl, _, _, rfl, rfl, mul_of m2 bb (by (first | lia | omega)), D, _, dg * b, Po.rst A' B, rfl, upd_same, by rw [List.length_map, List.length_range]; (first | lia | omega), Int.mul_ne_zero hdg hb, (m2.mul bb).mono (by (first | lia | omega)), ?_, fun r H6 s6 fz => q r H6 (s5.trans s6) fz⟩
  have lA' : A'.length = m + 1 := by (first | lia | omega)
  unfold cq Po.rst
  rw [List.map_map, List.map_map, lA', Nat.add_sub_cancel]
  refine List.map_congr_left fun i hi => ?_
  show ((dg * fs.getD i 0 - lf' * (List.replicate (m + 1 - gs'.length) (0 : Int) ++ gs').getD i 0 : Int) : Rat) = (A'.getD i 0 - Po.lst A' / Po.lst B * (Po.lift A' B).getD i 0) * ((dg * b : Int) : Rat)
  have e1 := fz_getD e i
  have e2 := lift_getD e' (m + 1 - gs'.length) i
  unfold Po.lift
  rw [lA', ← lg, Rat.intCast_sub, Rat.intCast_mul, Rat.intCast_mul, Rat.intCast_mul, e1, e2, eA, eB]
  generalize A'.getD i 0 = x at *
  generalize (List.replicate (m + 1 - gs'.length) (0 : Rat) ++ B).getD i 0 = y at *
  generalize Po.lst A' = u at *
  generalize Po.lst B = v at *
  grind
theorem Fz.updD {H : Hp} {p D : Addr} {A qs : List Rat} {ys : List V} (h : Fz H p A) (hA : 0 < A.length) (rD : Rw H D qs) : Fz (upd H D (.lst ys)) p A := by
  obtain ⟨fa, fs, b, h1, h2, h3, h4, h5⟩ := h
  obtain ⟨ps, e, _⟩ := rD
  refine ⟨fa, fs, b, ?_, ?_, h3, h4, h5⟩
  · rw [upd_ne (ne_of h1 e (by intro z; cases z))]
    exact h1
  · unfold Iz
    rw [upd_ne]
    · exact h2
    · intro z
      rw [z] at h2
      have h2' : H D = some (.lst (fs.map V.int)) := h2
      rw [e] at h2'
      injection h2' with w
      injection w with w
      have l := fz_len h4
      cases fs with
      | nil => simp at l; (first | lia | omega)
      | cons f fs =>
        cases ps with
        | nil => simp at w
        | cons q ps => simp at w

noncomputable abbrev FnX (K : PySem.W.Frag) (x qual : Str) (st : Stmt) (f : Addr) (fd : FuncData) : Prop := ∃ (oc : Value) (od : Option Addr) (kV doc pm : Value) (an : Option Addr) (cdv ct : Value) (osl : Array (Option Value)),
      fd = PySem.W.fnOf x qual (defArgs st) (defBody st) (defScope st) .none kV doc pm an cdv ct ∧ K.lookup f = some ⟨oc, od, .func fd, osl⟩ ∧ PySem.W.codeIn K cdv qual = true
noncomputable def sp_noinit (cN : Addr) : Sp := fun vs H Q _ => ∃ e v, vs = [.ref e, v] ∧ H e = some (.ext (NewX e (.ref cN) none)) ∧ ∀ d, H d = none → d ≠ e → Q .non (upd (upd H d (.xd [("place", v)])) e (.ext (NewX e (.ref cN) (some d))))
theorem sc_NoCord_init : FnScope ["self", "place"] ["self", "place"] (defScope s_NoCord_init) := ⟨rfl, rfl, rfl, by decide +kernel, rfl, by decide +kernel, by decide +kernel⟩
theorem ok_NoCord_init {c_NoCord c_CordError c_NoBead c_NoFraction c_NoName c_NoText c_NoWorth : Addr} (F : Fun K "__init__" "NoCord.__init__" s_NoCord_init f fd) (T : Txt mg) (R : Errs K mg c_NoCord c_CordError c_NoBead c_NoFraction c_NoName c_NoText c_NoWorth) : FnOk P w K mg base CX0 1 f fd ["self", "place"] (sp_noinit c_NoCord) := by
  refine F.ok sc_NoCord_init (fun vs H Q E h => ?_) (fun cdv A outer s H vs Q E hr h => ?_)
  · obtain ⟨e, v, rfl, _⟩ := h
    rfl
  obtain ⟨e, v, rfl, he, q⟩ := h
  refine ⟨_, (pss_one (ps_fldX (pv 0) (pv 1) rfl)), ?_⟩
  exact ⟨_, rfl, _, rfl, e, c_NoCord, rfl, he, R.fx_NoCord, R.nf_NoCord, fun d hd hne => q d hd hne⟩

noncomputable def LadBad (U L : List Rat) : Prop := ¬ (U.length = L.length ∧ 1 ≤ U.length ∧ U.length ≤ 13 ∧ L[0]? = some 1)
noncomputable def sp_ladX (cN : Addr) : Sp := fun vs H Q E => ∃ (u l : Addr) (U L : List Rat), vs = [.ref u, .ref l] ∧ Rw H u U ∧ Rw H l L ∧ U.length ≤ 100 ∧ L.length ≤ 100 ∧
  (LadBad U L → ∀ d H', Same H H' → H' d = some (.xd [("place", .non)]) → E (.ref cN) (some d) H') ∧
  (¬ LadBad U L → ∃ n, LadG U L n ∧ ∀ r lq v xs H', Same H H' → H' r = some (.tup [.ref lq, v]) → H' lq = some (.lst xs) → Q (.ref r) H')
theorem tri {a b c X N : Prop} (body : a ∨ b ∨ c → X) (k : (a → X) → (b → X) → (c → X) → N) : N := k (fun h => body (.inl h)) (fun h => body (.inr (.inl h))) fun h => body (.inr (.inr h))
theorem raised_same {H H1 : Hp} {e d : Addr} {x x' y : HO} (s1 : Same H H1) (he : H1 e = none) (hd : H1 d = none) (hde : d ≠ e) : Same H (drp (upd (upd (upd H1 e x) d y) e x') e) ∧ drp (upd (upd (upd H1 e x) d y) e x') e d = some y := by
  refine ⟨fun b o eb => ?_, ?_⟩
  · have n1 : b ≠ e := ne_of_none (s1 _ _ eb) he
    have n2 : b ≠ d := ne_of_none (s1 _ _ eb) hd
    rw [drp_ne n1, upd_ne n1, upd_ne n2, upd_ne n1]
    exact s1 _ _ eb
  · rw [drp_ne hde, upd_ne hde, upd_same]
theorem sc_ladder : FnScope ["upper", "lower", "one", "other", "quotients", "place", "quotient", "rest"] ["upper", "lower"] (defScope s_ladder) := ⟨rfl, rfl, rfl, by decide +kernel, rfl, by decide +kernel, by decide +kernel⟩
set_option maxHeartbeats 2000000 in
theorem ok_ladder {c_NoCord c_CordError c_NoBead c_NoFraction c_NoName c_NoText c_NoWorth : Addr} (F : FnX K "ladder" "ladder" s_ladder f fd) (T : Txt mg) (R : Errs K mg c_NoCord c_CordError c_NoBead c_NoFraction c_NoName c_NoText c_NoWorth) (C_over_one_bottom : Cal P w K mg base "over_one_bottom" 3 ["one"] sp_oob) (C_quotient_at : Cal P w K mg base "quotient_at" 4 ["place", "one", "other"] sp_quotG) (C_side : Cal P w K mg base "side" 1 ["one"] sp_side) (C_rest_of : Cal P w K mg base "rest_of" 3 ["one", "other"] sp_restG) (C_NoCord_init : CalI P w K mg base "NoCord" c_NoCord 1 ["self", "place"] (sp_noinit c_NoCord)) : FnOk P w K mg base (CXd P w) 5 f fd ["upper", "lower"] (sp_ladX c_NoCord) := by
  refine okXD F sc_ladder (fun vs H Q E h => ?_) (fun cdv A outer s H vs Q E hr h => ?_)
  · obtain ⟨u, l, U, L, rfl, _⟩ := h
    rfl
  obtain ⟨u, l, U, L, rfl, ru, rl, nU, nL, q0, q1⟩ := h
  obtain ⟨xu, eu, lxu⟩ := ru.there
  obtain ⟨pl, el, kl⟩ := id rl
  have lpl := kl.length
  have hz : (1000 : Nat) < sizeLine := by decide
  refine ⟨_, (pss_cons (ps_if (PW.pt (pw_or (pt_cmpR op_ne (pe_callB call_len_seq rfl T.z_len PySem.boot_len (pa_cons (pv 0) pa_nil)) (pe_callB call_len_seq rfl T.z_len PySem.boot_len (pa_cons (pv 1) pa_nil)) (nomark _)) (pw_or (pt_cmpR op_lt (pe_callB call_len_seq rfl T.z_len PySem.boot_len (pa_cons (pv 0) pa_nil)) pe_int (nomark _)) (pw_or1 (pt_cmpR op_gt (pe_callB call_len_seq rfl T.z_len PySem.boot_len (pa_cons (pv 0) pa_nil)) (pe_op op_add (pe_globI rfl T.c_MOST_BEADS) pe_int) (nomark _))))))
        (pss_one (ps_raiseJ C_NoCord_init hr (pa_cons pe_non pa_nil)))
        pss_nil)
      (pss_cons (ps_if (pt_cmpR (op_neD hr.units) (pe_ix ix_list (pv 1) pe_int (fun _ _ => rfl)) (pe_tup (pa_cons pe_int (pa_cons pe_int pa_nil))) (nomark _))
        (pss_one (ps_raiseJ C_NoCord_init hr (pa_cons pe_non pa_nil)))
        pss_nil)
      (pss_cons (ps_set (i := 2) sc_ladder.nd rfl (Or.inl rfl) (pe_cl C_over_one_bottom hr (pa_cons (pv 0) pa_nil)))
      (pss_cons (ps_set (i := 3) sc_ladder.nd rfl (Or.inl rfl) (pe_cl C_over_one_bottom hr (pa_cons (pv 1) pa_nil)))
      (pss_cons (ps_set (i := 4) sc_ladder.nd rfl (Or.inl rfl) (pe_lst pa_nil))
      (pss_cons (ps_for PassesOwn.leaving rfl (pi_range1 rfl T.z_range (pa_cons (pe_op op_sub (pe_op op_mulB pe_int (pe_callB call_len_seq rfl T.z_len PySem.boot_len (pa_cons (pv 0) pa_nil))) pe_int) pa_nil)) (pg_name (i := 5) sc_ladder.nd rfl (Or.inl rfl))
        (pss_cons (ps_set (i := 6) sc_ladder.nd rfl (Or.inl rfl) (pe_cl C_quotient_at hr (pa_cons (pv 5) (pa_cons (pv 2) (pa_cons (pv 3) pa_nil)))))
        (pss_cons (ps_if (pt_cmpR op_ne (pe_cl C_side hr (pa_cons (pv 6) pa_nil)) pe_int (nomark _))
          (pss_one (ps_ret (pe_tup (pa_cons (pv 4) (pa_cons (pv 5) pa_nil)))))
          pss_nil)
        (pss_cons (ps_expr (pe_bm PySem.F.plainAttrs_list PySem.F.slot_list_append PySem.F.type_list_append mt_append (pv 4) (pa_cons (pv 6) pa_nil)))
        (pss_cons (ps_set (i := 7) sc_ladder.nd rfl (Or.inl rfl) (pe_cl C_rest_of hr (pa_cons (pv 2) (pa_cons (pv 3) pa_nil))))
        (pss_cons (ps_set (i := 2) sc_ladder.nd rfl (Or.inl rfl) (pv 3))
        (pss_one (ps_set (i := 3) sc_ladder.nd rfl (Or.inl rfl) (pv 7)))))))))
      (pss_one (ps_ret (pe_tup (pa_cons (pv 4) (pa_cons pe_non pa_nil))))))))))), ?_⟩
  refine tri (a := ¬ U.length = L.length) (b := U.length < 1) (c := 13 < U.length) ?body fun b1 b2 b3 => ⟨_, rfl, _, _, rfl, .inl (SqL.of eu), _, rfl, _, _, rfl, .inl (SqL.of el), rfl, _, rfl, ite2 (fun c1 => iteT (b1 ?n1)) (fun c1 => ⟨_, rfl, _, _, rfl, .inl (SqL.of eu), _, _, rfl, rfl, _, rfl, ite2 (fun c2 => iteT (b2 ?n2)) (fun c2 => ⟨_, rfl, _, _, rfl, .inl (SqL.of eu), _, _, rfl, rfl, _, _, rfl, rfl, _, rfl, ite2 (fun c3 => b3 ?n3) (fun c3 => ?go)⟩)⟩)⟩
  case n1 =>
    intro z
    rw [lxu, List.length_map, lpl, z] at c1
    exact absurd c1 (by simp)
  case n2 =>
    have c' : (xu.length : Int) < 1 := of_decide_eq_true c2
    (first | lia | omega)
  case n3 =>
    have c' : (12 + 1 : Int) < (xu.length : Int) := of_decide_eq_true c3
    (first | lia | omega)
  case body =>
    intro hb
    have bad : LadBad U L := fun z => by
      obtain ⟨z1, z2, z3, _⟩ := z
      rcases hb with h | h | h
      · exact h z1
      · (first | lia | omega)
      · (first | lia | omega)
    refine ⟨by show 1 ≤ sizeLine; decide, fun e he => ⟨e, .non, rfl, upd_same, fun d hd hde => ⟨rfl, some d, upd_same, ?_⟩⟩⟩
    have hd1 : H d = none := by rw [upd_ne hde] at hd; exact hd
    exact q0 bad d _ (raised_same (Same.refl H) he hd1 hde).1 (raised_same (Same.refl H) he hd1 hde).2
  have hl : U.length = L.length := by
    have : ¬ ¬ ((xu.length : Int) = ((pl.map V.ref).length : Int)) := fun z => c1 (by simp at z ⊢; (first | lia | omega))
    rw [List.length_map] at this
    (first | lia | omega)
  have h1 : 1 ≤ U.length := by
    have c' : ¬ (xu.length : Int) < 1 := of_decide_eq_false (Bool.eq_false_iff.mpr c2)
    (first | lia | omega)
  have h13 : U.length ≤ 13 := by
    have c' : ¬ (12 + 1 : Int) < (xu.length : Int) := of_decide_eq_false (Bool.eq_false_iff.mpr c3)
    (first | lia | omega)
  have hL0 : 0 < L.length := by (first | lia | omega)
  obtain ⟨p1, e1, k1⟩ := kl.get (List.getElem?_eq_getElem hL0)
  refine ⟨_, rfl, l, _, _, _, rfl, rfl, SqL.of el, atI_nat (j := 0) e1, (by show 2 ≤ sizeLine; decide), fun z hz' => ?_⟩
  have uz := same_upd hz' (.tup [.int 1, .int 1])
  have kz : Pq (upd H z (.tup [.int 1, .int 1])) z 1 := Pq.of Pr.new ⟨rfl, rfl⟩
  refine ⟨_, _, (k1.keep uz).dv, kz.dv, Nat.le_trans (depth_dq _) (by decide), _, rfl, ite2 (fun c4 => ?_) (fun c4 => ?_)⟩
  · have bad : LadBad U L := fun z => by
      obtain ⟨_, _, _, z4⟩ := z
      rw [List.getElem?_eq_getElem hL0] at z4
      rw [Option.some.inj z4, eqv_dq_self] at c4
      exact absurd c4 (by decide)
    refine ⟨by show 1 ≤ sizeLine; decide, fun e he => ⟨e, .non, rfl, upd_same, fun d hd hde => ⟨rfl, some d, upd_same, ?_⟩⟩⟩
    have hd1 : (upd H z (.tup [.int 1, .int 1])) d = none := by rw [upd_ne hde] at hd; exact hd
    exact q0 bad d _ (raised_same uz he hd1 hde).1 (raised_same uz he hd1 hde).2
  have one : L[0]? = some 1 := by
    rw [List.getElem?_eq_getElem hL0]
    refine congrArg some (Classical.byContradiction fun z => c4 ?_)
    rw [eqv_dq, decide_eq_false z]
    rfl
  obtain ⟨n, g, q⟩ := q1 (fun bad => bad ⟨hl, h1, h13, one⟩)
  have lu := g.lu
  have ll := g.ll
  have hn := g.most
  refine ⟨_, rfl, u, _, rfl, ru.keep uz, by (first | lia | omega), g.bU, fun a1 H1 s1 f1 => ?_⟩
  refine ⟨_, rfl, l, _, rfl, rl.keep (uz.trans s1), by (first | lia | omega), g.bL, fun a2 H2 s2 f2 => ?_⟩
  refine ⟨(by show 0 ≤ sizeLine; decide), fun D hD => ?_⟩
  have s02 := uz.trans (s1.trans s2)
  have u3 := same_upd hD (.lst [])
  have hD0 : H D = none := s02.free hD
  refine ⟨_, rfl, _, _, rfl, .inl (SqL.of ((s02.trans u3) _ _ eu)), _, _, rfl, rfl, CMul.ok (.inl ⟨by decide, by decide⟩), _, _, rfl, rfl, _, rfl, by (first | lia | omega), by (first | lia | omega), ?_⟩
  rw [show (2 * ((xu.length : Nat) : Int) - 1).toNat = 2 * n + 1 by (first | lia | omega)]
  refine for_range (n := 2 * n + 1) (fun i σ H' => (∃ (x y : Addr) (v1 v2 v3 : Option V), σ = [some (.ref u), some (.ref l), some (.ref x), some (.ref y), some (.ref D), v1, v2, v3] ∧ Fz H' x (Po.abp U L i).1 ∧ Fz H' y (Po.abp U L i).2) ∧ Same H H' ∧ Rw H' D ((List.range i).map (Po.qp U L)) ∧ ∀ j, j < i → 0 < Po.qp U L j)
    ⟨⟨a1, a2, _, _, _, rfl, f1.keep (s2.trans u3), f2.keep u3⟩, s02.trans u3, ⟨[], upd_same, .nil⟩, fun j hj => absurd hj (by (first | lia | omega))⟩ ?_ ?_
  · rintro i σ H3 hi ⟨⟨x, y, v1, v2, v3, rfl, fx, fy⟩, sm, rD, gd⟩
    obtain ⟨l1, l2, l3, l4, _⟩ := Po.abp_lens lu ll hi
    obtain ⟨na, nb, oA, oB, nab⟩ := g.ov i hi gd
    have lxA : 0 < (Po.abp U L i).1.length := by (first | lia | omega)
    refine ⟨_, rfl, _, rfl, _, rfl, i, x, y, _, _, na, nb, ?_, fx, fy, lxA, l1, oA, oB, nab, fun r4 H4 s4 k4 => ?_⟩
    · rw [Int.zero_add]
      rfl
    replace k4 : Pq H4 r4 (Po.qp U L i) := k4
    refine ⟨_, rfl, r4, _, _, rfl, k4, rfl, _, rfl, ite2 (fun c1 => ?_) (fun c1 => ?_)⟩
    · have np : ¬ 0 < Po.qp U L i := fun z => by
        rw [sgn_pos1 z] at c1
        exact absurd c1 (by decide)
      refine ⟨_, rfl, _, rfl, (by show 2 ≤ sizeLine; decide), fun r hr' => ?_⟩
      have u := same_upd hr' (.tup [.ref D, .int (0 + (i : Int))])
      obtain ⟨xd, ed, _⟩ := (rD.keep (s4.trans u)).there
      exact q r D _ xd _ (sm.trans (s4.trans u)) upd_same ed
    have np : 0 < Po.qp U L i := by
      have es : sgn (Po.qp U L i).num = 1 := by
        cases h : decide (V.int (sgn (Po.qp U L i).num) = V.int 1) with
        | true => exact V.int.inj (of_decide_eq_true h)
        | false => exact absurd (by rw [h]; rfl) c1
      refine Rat.not_le.mp fun z => ?_
      have h0 := Rat.num_nonneg.mpr (show 0 ≤ -Po.qp U L i by grind)
      rw [Rat.neg_num] at h0
      unfold sgn at es
      rw [if_neg (by (first | lia | omega))] at es
      split at es <;> exact absurd es (by decide)
    have hL := Po.qAt_pos np
    obtain ⟨xs5, hxs, hxl, rD5⟩ := rD.app s4 k4
    rw [List.length_map, List.length_range] at hxl
    refine ⟨_, rfl, .inl ⟨rfl, _, SqL.of hxs⟩, _, rfl, D, xs5, _, rfl, rfl, hxs, by (first | lia | omega), ?_⟩
    have fx5 := (fx.keep s4).updD (ys := xs5 ++ [.ref r4]) lxA (rD.keep s4)
    have fy5 := (fy.keep s4).updD (ys := xs5 ++ [.ref r4]) l1 (rD.keep s4)
    have s5 : Same H (upd H4 D (.lst (xs5 ++ [.ref r4]))) := same_updF (sm.trans s4) hD0 _
    generalize upd H4 D (.lst (xs5 ++ [.ref r4])) = H5 at *
    refine ⟨_, rfl, _, rfl, x, y, _, _, na, nb, rfl, fx5, fy5, by (first | lia | omega), l1, l2, hL, oA, oB, nab, fun r6 H6 s6 f6 => ?_⟩
    refine ⟨_, rfl, _, rfl, ⟨y, r6, _, _, _, rfl, fy5.keep s6, f6⟩, s5.trans s6, ?_, fun j hj => ?_⟩
    · rw [List.range_succ, List.map_append]
      exact rD5.keep s6
    · by_cases e : j = i
      · rw [e]; exact np
      · exact gd j (by (first | lia | omega))
  · rintro σ H3 ⟨⟨x, y, v1, v2, v3, rfl, _, _⟩, sm, rD, gd⟩
    refine ⟨_, rfl, (by show 2 ≤ sizeLine; decide), fun r hr' => ?_⟩
    have u := same_upd hr' (.tup [.ref D, .non])
    obtain ⟨xd, ed, _⟩ := (rD.keep u).there
    exact q r D _ xd _ (sm.trans u) upd_same ed
noncomputable def sp_cwB (cN : Addr) : Sp := fun vs H Q E => ∃ (u l : Addr) (U L : List Rat), vs = [.ref u, .ref l] ∧ Rw H u U ∧ Rw H l L ∧ U.length ≤ 100 ∧ L.length ≤ 100 ∧ LadBad U L ∧ ∀ d H', Same H H' → H' d = some (.xd [("place", .non)]) → E (.ref cN) (some d) H'
theorem sc_cord_with : FnScope ["upper", "lower", "told", "steps"] ["upper", "lower"] (defScope s_cord_with) := ⟨rfl, rfl, rfl, by decide +kernel, rfl, by decide +kernel, by decide +kernel⟩
set_option maxHeartbeats 1000000 in
theorem ok_cord_with {c_NoCord c_CordError c_NoBead c_NoFraction c_NoName c_NoText c_NoWorth : Addr} (F : FnX K "cord_with" "cord_with" s_cord_with f fd) (T : Txt mg) (R : Errs K mg c_NoCord c_CordError c_NoBead c_NoFraction c_NoName c_NoText c_NoWorth) (C_ladder : CalY P w K mg base "ladder" 5 ["upper", "lower"] [] [] (sp_ladX c_NoCord)) (C_Cord_init : CalC P w K mg base "Cord" o_Cord 4 ["self", "gaps", "weights"] (sp_init0 o_Cord)) (C_NoCord_init : CalI P w K mg base "NoCord" c_NoCord 1 ["self", "place"] (sp_noinit c_NoCord)) : FnOk P w K mg base (CXd P w) 6 f fd ["upper", "lower"] (sp_cwB c_NoCord) := by
  refine okXD F sc_cord_with (fun vs H Q E h => ?_) (fun cdv A outer s H vs Q E hr h => ?_)
  · obtain ⟨u, l, U, L, rfl, _⟩ := h
    rfl
  obtain ⟨u, l, U, L, rfl, ru, rl, nU, nL, bad, q0⟩ := h
  refine ⟨_, (pss_cons (ps_set (i := 2) sc_cord_with.nd rfl (Or.inl rfl) (pe_clXD C_ladder hr (pa_cons (pv 0) (pa_cons (pv 1) pa_nil))))
      (pss_cons (ps_if (pt_cmpR op_notN (pe_ix ix_tup (pv 2) pe_int (fun _ _ => rfl)) pe_non (nomark _))
        (pss_one (ps_raiseJ C_NoCord_init hr (pa_cons (pe_ix ix_tup (pv 2) pe_int (fun _ _ => rfl)) pa_nil)))
        pss_nil)
      (pss_cons (ps_set (i := 3) sc_cord_with.nd rfl (Or.inl rfl) (pe_listrev rfl T.z_list rfl T.z_reversed (pa_cons (pe_ix ix_tup (pv 2) pe_int (fun _ _ => rfl)) pa_nil)))
      (pss_one (ps_ret (pe_mk C_Cord_init hr (pa_cons (pe_step2 (pv 3) po_none pe_int) (pa_cons (pe_step2 (pv 3) (po_some pe_int) pe_int) pa_nil)))))))), ?_⟩
  exact ⟨_, rfl, _, rfl, u, l, U, L, rfl, ru, rl, nU, nL, fun _ d H1 s1 ed => q0 d H1 s1 ed, fun nb => absurd bad nb⟩

noncomputable def sp_figs : Sp := fun vs H Q _ => ∃ (c : Int) (m : Nat), vs = [.int c, .int m] ∧ m ≤ 14 ∧ ∀ r qs H', Same H H' → H r = none → Rw H' r qs → qs.length = m → (∀ q ∈ qs, Po.Fg q) → Q (.ref r) H'
theorem fg_shift {q : Rat} (h0 : 0 < q) (h : Bq 4 q) : Po.Fg (((q.num - 6 : Int) : Rat) / ((q.den : Int) : Rat)) := by
  have h1 : 0 < q.num := by
    have h1 : 0 ≤ q.num := Rat.num_nonneg.mpr (Rat.le_of_lt h0)
    have h2 : q.num ≠ 0 := fun z => by
      rw [Rat.num_eq_zero.mp z] at h0
      exact absurd h0 (by decide)
    (first | lia | omega)
  have d := den_pos q
  have b1 : q.num.natAbs < 16 := h.1
  have b2 : (q.den : Int).natAbs < 16 := h.2
  exact ⟨_, _, rfl, by (first | lia | omega), by (first | lia | omega), by (first | lia | omega), by (first | lia | omega)⟩
theorem mem_setF {qs : List Rat} {q : Rat} {i : Nat} (h : ∀ x ∈ qs, Po.Fg x) (hq : Po.Fg q) : ∀ x ∈ qs.set i q, Po.Fg x := fun x hx => by
  rcases List.mem_or_eq_of_mem_set hx with z | z
  · exact h x z
  · rw [z]; exact hq
theorem atI_lastQ53 {H : Hp} {ps : List Addr} {qs : List Rat} (k : Pqs H ps qs) (h : 0 < qs.length) : ∃ y, atI (ps.map V.ref) (-1) = some (.ref y) ∧ Pq H y (Po.lst qs) := by
  have l := k.length
  have hl : qs.length - 1 < qs.length := by (first | lia | omega)
  obtain ⟨y, ey, ky⟩ := k.get (List.getElem?_eq_getElem hl)
  refine ⟨y, ?_, ?_⟩
  · rw [← l] at ey
    rcases List.eq_nil_or_concat ps with z | ⟨L, x, z⟩
    · rw [z] at l; simp at l; (first | lia | omega)
    · rw [z, List.concat_eq_append] at ey ⊢
      have e : x = y := by simpa using ey
      rw [List.map_append, e]
      exact atI_last _ _
  · unfold Po.lst
    rw [Po.getD_in hl]
    exact ky
theorem Rw.setq {H : Hp} {D p : Addr} {qs : List Rat} {q : Rat} {xs : List V} (k : Nat) (e : H D = some (.lst xs)) (h : Rw H D qs) (kp : Pq H p q) : Rw (upd H D (.lst (xs.set k (.ref p)))) D (qs.set k q) := by
  obtain ⟨ps, e1, k1⟩ := h
  rw [e] at e1
  cases e1
  exact ⟨ps.set k p, by rw [upd_same, List.map_set], (k1.set k kp).updL e⟩
theorem sc_law_figures : FnScope ["_law_cell", "_law_many", "_law_row"] ["_law_cell", "_law_many"] (defScope s_law_figures) := ⟨rfl, rfl, rfl, by decide +kernel, rfl, by decide +kernel, by decide +kernel⟩
set_option maxHeartbeats 1000000 in
theorem ok_law_figures (F : Fun K "_law_figures" "_law_figures" s_law_figures f fd) (T : Txt mg) (C_law_low : Cal P w K mg base "_law_low" 1 ["_law_top", "_law_bottom"] sp_lowQ) (C_law_twelfths : Cal P w K mg base "_law_twelfths" 2 ["_law_cell", "_law_many"] sp_twelfths) : FnOk P w K mg base CX0 3 f fd ["_law_cell", "_law_many"] sp_figs := by
  refine F.ok sc_law_figures (fun vs H Q E h => ?_) (fun cdv A outer s H vs Q E hr h => ?_)
  · obtain ⟨c, m, rfl, _⟩ := h
    rfl
  obtain ⟨c, m, rfl, hm, q⟩ := h
  have hz : (1000 : Nat) < sizeLine := by decide
  refine ⟨_, (pss_cons (ps_setComp (i := 2) sc_law_figures.nd rfl (Or.inl rfl) (N' := ["_law_one"]) (fsc := defScope s_law_figures) (N := ["_law_cell", "_law_many", "_law_row"]) [] ⟨rfl, by decide +kernel, by decide +kernel, by decide +kernel, rfl, by decide +kernel, rfl, by decide +kernel⟩ (pi_list (pe_cl C_law_twelfths hr (pa_cons (pv 0) (pa_cons (pv 1) pa_nil)))) (fun _ _ _ _ => (pe_cl C_law_low hr (pa_cons (pe_op op_sub (pe_ix ix_tup (pv 0) pe_int (fun _ _ => rfl)) pe_int) (pa_cons (pe_ix ix_tup (pv 0) pe_int (fun _ _ => rfl)) pa_nil)))))
      (pss_cons (ps_cut (ps_if (PW.pt (pw_and (pt_cmpR op_gt (pv 1) pe_int (nomark _)) (pw_and1 (pt_cmpR op_eq (pe_ix ix_tup (pe_ix ix_list (pv 2) (pe_un un_neg pe_int) (fun _ _ => rfl)) pe_int (fun _ _ => rfl)) pe_int (nomark _)))))
        (pss_one (ps_asg (pe_tup (pa_cons pe_int (pa_cons pe_int pa_nil))) (pg_sub (pv 2) (pe_un un_neg pe_int) set_list)))
        pss_nil))
      (pss_one (ps_ret (pv 2))))), ?_⟩
  refine ⟨_, rfl, _, rfl, c, m, rfl, by (first | lia | omega), fun r0 ps H1 s1 n1 rp lp pos bq => ?_⟩
  obtain ⟨x0, e0, _⟩ := rp.there
  refine ⟨r0, rfl, ⟨_, SqL.of e0⟩, comp_listQ (by (first | lia | omega)) rp (fun q => ((q.num - 6 : Int) : Rat) / ((q.den : Int) : Rat)) ?_ fun H2 D s2 nD rD => ?_⟩
  · intro _ _ _ _ p x H2 R hx kp _ fin
    exact ⟨_, rfl, _, _, _, _, rfl, rfl, kp.sq, rfl, _, _, rfl, rfl, _, rfl, _, _, _, _, rfl, rfl, kp.sq, rfl, _, _, rfl, den_pos x, (bq x hx).2.mono (by decide), fun r H3 s3 k3 => fin r H3 s3 k3⟩
  have s02 := s1.trans s2
  have hD := s1.free nD
  have fg : ∀ q ∈ ps.map (fun q : Rat => ((q.num - 6 : Int) : Rat) / ((q.den : Int) : Rat)), Po.Fg q := fun q hq => by
    obtain ⟨x, hx, rfl⟩ := List.mem_map.mp hq
    exact fg_shift (pos x hx) (bq x hx)
  have lq : (ps.map (fun q : Rat => ((q.num - 6 : Int) : Rat) / ((q.den : Int) : Rat))).length = m := by rw [List.length_map, lp]
  generalize ps.map (fun q : Rat => ((q.num - 6 : Int) : Rat) / ((q.den : Int) : Rat)) = qs at *
  refine ⟨fun σ' H' => ∃ qs : List Rat, σ' = [some (.int c), some (.int m), some (.ref D)] ∧ Same H H' ∧ Rw H' D qs ∧ qs.length = m ∧ ∀ q ∈ qs, Po.Fg q, ?tl, ?hd⟩
  case hd =>
    refine ⟨_, rfl, _, _, rfl, rfl, _, rfl, ite2 (fun c1 => ?_) (fun c1 => iteF ⟨qs, rfl, s02, rD, lq, fg⟩)⟩
    have c1' : (0 : Int) < m := of_decide_eq_true c1
    obtain ⟨pd, ed, kd⟩ := id rD
    obtain ⟨y, ay, ky⟩ := atI_lastQ53 kd (by (first | lia | omega))
    refine ⟨_, rfl, _, rfl, D, _, _, _, rfl, rfl, SqL.of ed, ay, y, _, _, _, rfl, rfl, SqT.of ky, rfl, rfl, _, rfl, ite2 (fun _ => ?_) (fun _ => ⟨qs, rfl, s02, rD, lq, fg⟩)⟩
    refine ⟨(by show 2 ≤ sizeLine; decide), fun p hp => ?_⟩
    have u := same_upd hp (.tup [.int 5, .int 7])
    have kp : Pq (upd H2 p (.tup [.int 5, .int 7])) p (5 / 7) := Pq.of Pr.new ⟨by decide +kernel, by decide +kernel⟩
    have ld := kd.length
    have ix : ixN (pd.map V.ref).length (-1) = some (pd.length - 1) := by
      unfold ixN
      rw [if_neg (by decide), List.length_map]
      rw [if_pos (by (first | lia | omega))]
      congr 1
      (first | lia | omega)
    exact ⟨_, rfl, _, rfl, D, _, _, _, rfl, rfl, u _ _ ed, ix, _, rfl, same_updF (s02.trans u) hD _, Rw.setq _ (u _ _ ed) (rD.keep u) kp, by rw [List.length_set]; exact lq, mem_setF fg ⟨5, 7, rfl, by decide, by decide, by decide, by decide⟩⟩
  rintro _ H3 ⟨qs', rfl, s3, r3, l3, f3⟩
  exact ⟨_, rfl, q D qs' H3 s3 hD r3 l3 f3⟩
noncomputable def sp_ref53 : Sp := fun vs H Q _ => ∃ (u l : Addr) (U L : List Rat) (wh : Bool), vs = [.ref u, .ref l, .bl wh] ∧ Rw H u U ∧ Rw H l L ∧ U.length ≤ 100 ∧ L.length ≤ 100 ∧ LadBad U L ∧ ∀ H', Same H H' → Q (.bl true) H'
theorem sc_law_refused : FnScope ["_law_upper", "_law_lower", "_law_whole", "e"] ["_law_upper", "_law_lower", "_law_whole"] (defScope s_law_refused) := ⟨rfl, rfl, rfl, by decide +kernel, rfl, by decide +kernel, by decide +kernel⟩
set_option maxHeartbeats 1000000 in
theorem ok_law_refused {c_NoCord c_CordError c_NoBead c_NoFraction c_NoName c_NoText c_NoWorth : Addr} (F : Fun K "_law_refused" "_law_refused" s_law_refused f fd) (T : Txt mg) (R : Errs K mg c_NoCord c_CordError c_NoBead c_NoFraction c_NoName c_NoText c_NoWorth) (C_cord_with : CalY P w K mg base "cord_with" 6 ["upper", "lower"] [] [] (sp_cwB c_NoCord)) (C_ladder : CalY P w K mg base "ladder" 5 ["upper", "lower"] [] [] (sp_ladX c_NoCord)) : FnOk P w K mg base CX0 7 f fd ["_law_upper", "_law_lower", "_law_whole"] sp_ref53 := by
  refine F.ok sc_law_refused (fun vs H Q E h => ?_) (fun cdv A outer s H vs Q E hr h => ?_)
  · obtain ⟨u, l, U, L, wh, rfl, _⟩ := h
    rfl
  obtain ⟨u, l, U, L, wh, rfl, ru, rl, nU, nL, bad, q⟩ := h
  refine ⟨_, (pss_cons (ps_tryD 3 (psx_ifD (pt_val (pv 2)) (psx_callD C_cord_with hr (pa_cons (pv 0) (pa_cons (pv 1) pa_nil))) (psx_callD C_ladder hr (pa_cons (pv 0) (pa_cons (pv 1) pa_nil)))) R.m_CordError (fun _ =>
        (pss_cons (ps_if (PW.pt (pw_or (pt_val (pe_callB call_isiDT rfl T.z_isinstance boot_isinstance (pa_cons (pv 3) (pa_cons (pe_tup (pa_cons (pe_glob (v := .ref _) rfl R.m_NoBead rfl) (pa_cons (pe_glob (v := .ref _) rfl R.m_NoFraction rfl) (pa_cons (pe_glob (v := .ref _) rfl R.m_NoName rfl) (pa_cons (pe_glob (v := .ref _) rfl R.m_NoText rfl) (pa_cons (pe_glob (v := .ref _) rfl R.m_NoWorth rfl) pa_nil)))))) pa_nil)))) (pw_or1 (pt_not (pt_val (pe_callB call_isiD rfl T.z_isinstance boot_isinstance (pa_cons (pv 3) (pa_cons (pe_bltn (v := .ty "ValueError") rfl T.z_ValueError PyProof.Rows.Boot.«ValueError» rfl) pa_nil))))))))
          (pss_one (ps_ret pe_bl))
          pss_nil)
        (pss_one (ps_ret (pe_and (pe_callB call_isiD rfl T.z_isinstance boot_isinstance (pa_cons (pv 3) (pa_cons (pe_glob (v := .ref _) rfl R.m_NoCord rfl) pa_nil))) (pe_one (pe_cmpR op_isN (pe_fldX (pv 3) rfl) pe_non (nomark _)))))))) sc_law_refused.nd)
      (pss_one (ps_ret pe_bl))), ?_⟩
  refine ⟨_, rfl, _, rfl, ite2 (fun _ => ?_) (fun _ => ?_)⟩
  · refine ⟨_, rfl, _, rfl, u, l, U, L, rfl, ru, rl, nU, nL, bad, fun d H2 s2 ed => ⟨R.x_NoCord, fun a ha => ?_⟩⟩
    have s3 := same_upd ha (.ext (ExcAtD a (.ref c_NoCord) (some d)))
    have nda : d ≠ a := ne_of_none ed ha
    have ed3 : (upd H2 a (.ext (ExcAtD a (.ref c_NoCord) (some d)))) d = some (.xd [("place", .non)]) := by rw [upd_ne nda]; exact ed
    refine ⟨_, rfl, (by show 5 ≤ sizeLine; decide), fun tp htp => ?_⟩
    have s4 := same_upd htp (.tup [.ref c_NoBead, .ref c_NoFraction, .ref c_NoName, .ref c_NoText, .ref c_NoWorth])
    refine ⟨a, tp, _, _, c_NoCord, some d, false, rfl, upd_same, rfl, s4 _ _ upd_same, R.e_NoCord, R.ka_NoCord, _, rfl, iteF ?_⟩
    refine ⟨_, rfl, a, _, _, c_NoCord, some d, true, rfl, rfl, s4 _ _ upd_same, R.e_NoCord, R.k_NoCord_ValueError, _, rfl, iteF ?_⟩
    refine ⟨_, rfl, a, _, _, c_NoCord, some d, true, rfl, rfl, s4 _ _ upd_same, R.e_NoCord, R.k_NoCord_NoCord, _, rfl, iteT ?_⟩
    exact ⟨_, rfl, a, c_NoCord, d, _, _, rfl, s4 _ _ upd_same, R.e_NoCord, R.fx_NoCord.hd, R.nf_NoCord, s4 _ _ ed3, rfl, rfl, q _ (s2.trans (s3.trans s4))⟩
  · refine ⟨_, rfl, _, rfl, u, l, U, L, rfl, ru, rl, nU, nL, fun _ d H2 s2 ed => ⟨R.x_NoCord, fun a ha => ?_⟩, fun nb => absurd bad nb⟩
    have s3 := same_upd ha (.ext (ExcAtD a (.ref c_NoCord) (some d)))
    have nda : d ≠ a := ne_of_none ed ha
    have ed3 : (upd H2 a (.ext (ExcAtD a (.ref c_NoCord) (some d)))) d = some (.xd [("place", .non)]) := by rw [upd_ne nda]; exact ed
    refine ⟨_, rfl, (by show 5 ≤ sizeLine; decide), fun tp htp => ?_⟩
    have s4 := same_upd htp (.tup [.ref c_NoBead, .ref c_NoFraction, .ref c_NoName, .ref c_NoText, .ref c_NoWorth])
    refine ⟨a, tp, _, _, c_NoCord, some d, false, rfl, upd_same, rfl, s4 _ _ upd_same, R.e_NoCord, R.ka_NoCord, _, rfl, iteF ?_⟩
    refine ⟨_, rfl, a, _, _, c_NoCord, some d, true, rfl, rfl, s4 _ _ upd_same, R.e_NoCord, R.k_NoCord_ValueError, _, rfl, iteF ?_⟩
    refine ⟨_, rfl, a, _, _, c_NoCord, some d, true, rfl, rfl, s4 _ _ upd_same, R.e_NoCord, R.k_NoCord_NoCord, _, rfl, iteT ?_⟩
    exact ⟨_, rfl, a, c_NoCord, d, _, _, rfl, s4 _ _ upd_same, R.e_NoCord, R.fx_NoCord.hd, R.nf_NoCord, s4 _ _ ed3, rfl, rfl, q _ (s2.trans (s3.trans s4))⟩
theorem pick7 (i : Int) (h0 : 0 ≤ i) (h1 : i < 7) : ∃ s : Int, atI [V.int 0, V.int 0, V.int 0, V.int 1, V.int (-1), V.int 2, V.int (-2)] i = some (.int s) ∧ -2 ≤ s ∧ s ≤ 2 := by
  have : i = 0 ∨ i = 1 ∨ i = 2 ∨ i = 3 ∨ i = 4 ∨ i = 5 ∨ i = 6 := by (first | lia | omega)
  rcases this with rfl | rfl | rfl | rfl | rfl | rfl | rfl
  · exact ⟨0, rfl, by decide, by decide⟩
  · exact ⟨0, rfl, by decide, by decide⟩
  · exact ⟨0, rfl, by decide, by decide⟩
  · exact ⟨1, rfl, by decide, by decide⟩
  · exact ⟨-1, rfl, by decide, by decide⟩
  · exact ⟨2, rfl, by decide, by decide⟩
  · exact ⟨-2, rfl, by decide, by decide⟩
theorem sc_law : FnScope ["_law_script", "_law_many", "_law_other", "_law_upper", "_law_lower", "_law_handed", "_law_good", "_law_told"] ["_law_script"] (defScope s_law) := ⟨rfl, rfl, rfl, by decide +kernel, rfl, by decide +kernel, by decide +kernel⟩
set_option maxHeartbeats 4000000 in
theorem ok_law (F : Fun K "law" "law" s_law f fd) (T : Txt mg) (C_law_cell_at : Cal P w K mg base "_law_cell_at" 1 ["_law_script", "_law_k"] (sp_cell0 K)) (C_law_figures : Cal P w K mg base "_law_figures" 3 ["_law_cell", "_law_many"] sp_figs) (C_law_refused : Cal P w K mg base "_law_refused" 7 ["_law_upper", "_law_lower", "_law_whole"] sp_ref53) (C_ladder : CalY P w K mg base "ladder" 5 ["upper", "lower"] [] [] (sp_ladX c_NoCord)) : FnOk P w K mg base CX0 8 f fd ["_law_script"] (sp_law K) := by
  refine F.ok sc_law (fun vs H Q E h => ?_) (fun cdv A outer s H vs Q E hr h => ?_)
  · obtain ⟨a, ns, rfl, _⟩ := h
    rfl
  obtain ⟨a, ns, rfl, hS, h63, q⟩ := h
  have hz : (1000 : Nat) < sizeLine := by decide
  refine ⟨_, (pss_cons (ps_set (i := 1) sc_law.nd rfl (Or.inl rfl) (pe_op op_mod (pe_cl C_law_cell_at hr (pa_cons (pv 0) (pa_cons pe_int pa_nil))) pe_int))
      (pss_cons (ps_set (i := 2) sc_law.nd rfl (Or.inl rfl) (pe_callB (call_max2 rfl) rfl T.z_max boot_max (pa_cons pe_int (pa_cons (pe_op op_add (pv 1) (pe_ix ix_list (PEw.h (w_lst (aw_con w_int (aw_con w_int (aw_con w_int (aw_con w_int (aw_un (w_neg w_int) (aw_con w_int (aw_un (w_neg w_int) aw_nil))))))))) (pe_op op_mod (pe_cl C_law_cell_at hr (pa_cons (pv 0) (pa_cons pe_int pa_nil))) pe_int) (fun _ _ => rfl))) pa_nil))))
      (pss_cons (ps_set (i := 3) sc_law.nd rfl (Or.inl rfl) (pe_cl C_law_figures hr (pa_cons (pe_cl C_law_cell_at hr (pa_cons (pv 0) (pa_cons pe_int pa_nil))) (pa_cons (pv 1) pa_nil))))
      (pss_cons (ps_set (i := 4) sc_law.nd rfl (Or.inl rfl) (pe_cl C_law_figures hr (pa_cons (pe_cl C_law_cell_at hr (pa_cons (pv 0) (pa_cons pe_int pa_nil))) (pa_cons (pe_callB (call_min2 rfl) rfl T.z_min boot_min (pa_cons (pv 2) (pa_cons pe_int pa_nil))) pa_nil))))
      (pss_cons (ps_cut (ps_if (PW.pt (pw_and (pt_cmpR op_eq (pe_op op_mod (pe_cl C_law_cell_at hr (pa_cons (pv 0) (pa_cons pe_int pa_nil))) pe_int) pe_int (nomark _)) (pw_and1 (pt_cmpR op_gt (pe_callB call_len_seq rfl T.z_len PySem.boot_len (pa_cons (pv 4) pa_nil)) pe_int (nomark _)))))
        (pss_one (ps_asg (pe_tup (pa_cons pe_int (pa_cons pe_int pa_nil))) (pg_sub (pv 4) pe_int set_list)))
        pss_nil))
      (pss_cons (ps_cut (ps_if (PW.pt (pw_and (pt_cmpR op_eq (pe_callB call_len_seq rfl T.z_len PySem.boot_len (pa_cons (pv 4) pa_nil)) pe_int (nomark _)) (pw_and1 (pt_cmpR (op_eqD hr.units) (pe_ix ix_tup (pe_ix ix_list (pv 4) pe_int (fun _ _ => rfl)) pe_int (fun _ _ => rfl)) pe_int (nomark _)))))
        (pss_one (ps_asg (pe_tup (pa_cons pe_int (pa_cons pe_int pa_nil))) (pg_sub (pv 4) pe_int set_list)))
        pss_nil))
      (pss_cons (ps_set (i := 5) sc_law.nd rfl (Or.inl rfl) (pe_tup (pa_cons (pe_callTy call_list_of rfl T.z_list boot_list (pa_cons (pv 3) pa_nil)) (pa_cons (pe_callTy call_list_of rfl T.z_list boot_list (pa_cons (pv 4) pa_nil)) pa_nil))))
      (pss_cons (ps_cut (ps_set (i := 6) sc_law.nd rfl (Or.inl rfl) (pe_and (pe_cmpR op_eq (pe_callB call_len_seq rfl T.z_len PySem.boot_len (pa_cons (pv 3) pa_nil)) (pe_callB call_len_seq rfl T.z_len PySem.boot_len (pa_cons (pv 4) pa_nil)) (nomark _)) (pe_and (pe_cmpR op_lt pe_int (pe_callB call_len_seq rfl T.z_len PySem.boot_len (pa_cons (pv 3) pa_nil)) (nomark _)) (pe_and (pe_cmpR op_lt (pe_callB call_len_seq rfl T.z_len PySem.boot_len (pa_cons (pv 3) pa_nil)) pe_int (nomark _)) (pe_one (pe_cmpR (op_eqD hr.units) (pe_ix ix_list (pv 4) pe_int (fun _ _ => rfl)) (pe_tup (pa_cons pe_int (pa_cons pe_int pa_nil))) (nomark _))))))))
      (pss_cons (ps_cut (ps_if (pt_val (pv 6))
        (pss_cons (ps_set (i := 7) sc_law.nd rfl (Or.inl rfl) (pe_clND C_ladder hr (pa_cons (pe_ix ix_tup (pv 5) pe_int (fun _ _ => rfl)) (pa_cons (pe_ix ix_tup (pv 5) pe_int (fun _ _ => rfl)) pa_nil))))
        (pss_one (ps_ret (pe_and (pe_callB call_isi rfl T.z_isinstance boot_isinstance (pa_cons (pv 7) (pa_cons (pe_bltn (v := .ty "tuple") rfl T.z_tuple boot_tuple rfl) pa_nil))) (pe_and (pe_cmpR op_eq (pe_callB call_len_seq rfl T.z_len PySem.boot_len (pa_cons (pv 7) pa_nil)) pe_int (nomark _)) (pe_one (pe_callB call_isi rfl T.z_isinstance boot_isinstance (pa_cons (pe_ix ix_tup (pv 7) pe_int (fun _ _ => rfl)) (pa_cons (pe_bltn (v := .ty "list") rfl T.z_list boot_list rfl) pa_nil)))))))))
        pss_nil))
      (pss_cons (ps_cut (ps_if (PW.pt (pw_or (pt_not (pt_val (pe_cl C_law_refused hr (pa_cons (pe_ix ix_tup (pv 5) pe_int (fun _ _ => rfl)) (pa_cons (pe_ix ix_tup (pv 5) pe_int (fun _ _ => rfl)) (pa_cons pe_bl pa_nil)))))) (pw_or1 (pt_not (pt_val (pe_cl C_law_refused hr (pa_cons (pe_ix ix_tup (pv 5) pe_int (fun _ _ => rfl)) (pa_cons (pe_ix ix_tup (pv 5) pe_int (fun _ _ => rfl)) (pa_cons pe_bl pa_nil)))))))))
        (pss_one (ps_ret pe_bl))
        pss_nil))
      (pss_one (ps_ret (pe_cmpR (op_eqD hr.units) (pv 5) (pe_tup (pa_cons (pv 3) (pa_cons (pv 4) pa_nil))) (nomark _)))))))))))))), ?_⟩
  refine ⟨_, rfl, a, ns, 0, rfl, hS, _, _, rfl, rfl, (by show (0 : Int) < 15; decide), ?_⟩
  refine gen_int (P := fun y => 0 ≤ y ∧ y < 15) (cell0 ns 0 % 15) ⟨Int.emod_nonneg _ (by decide), Int.emod_lt_of_pos _ (by decide)⟩ fun y ⟨y0, y1⟩ => ?_
  obtain ⟨m, rfl⟩ : ∃ m : Nat, y = m := ⟨y.toNat, by (first | lia | omega)⟩
  have hm : m ≤ 14 := by (first | lia | omega)
  have w0 := Int.emod_nonneg (cell0 ns 1) (show (7 : Int) ≠ 0 by decide)
  have w1 := Int.emod_lt_of_pos (cell0 ns 1) (show (0 : Int) < 7 by decide)
  obtain ⟨sg, esg, sg0, sg1⟩ := pick7 _ w0 w1
  refine ⟨_, rfl, _, rfl, _, rfl, (by show 7 ≤ sizeLine; decide), fun L hL => ?_⟩
  have u0 := same_upd hL (.lst [.int 0, .int 0, .int 0, .int 1, .int (-1), .int 2, .int (-2)])
  refine ⟨_, rfl, a, ns, 1, rfl, u0.seq hS, _, _, rfl, rfl, (by show (0 : Int) < 7; decide), L, _, _, _, rfl, rfl, SqL.of upd_same, esg, _, _, rfl, rfl, _, _, rfl, ?_⟩
  refine gen_int (P := fun y => 0 ≤ y) (if (m : Int) + sg > 0 then (m : Int) + sg else 0) (by show 0 ≤ (if (m : Int) + sg > 0 then (m : Int) + sg else 0); split <;> (first | lia | omega)) fun o o0 => ?_
  have hS0 := u0.seq hS
  clear hS
  generalize upd H L (.lst [.int 0, .int 0, .int 0, .int 1, .int (-1), .int 2, .int (-2)]) = H0 at *
  refine ⟨_, rfl, a, ns, 2, rfl, hS0, _, rfl, _, m, rfl, hm, fun uA U H1 s1 nu ru lu fu => ?_⟩
  obtain ⟨k, hk, ek⟩ : ∃ k : Nat, k ≤ 14 ∧ (if (14 : Int) < o then 14 else o) = (k : Int) := by
    by_cases c : (14 : Int) < o
    · exact ⟨14, by (first | lia | omega), by rw [if_pos c]; rfl⟩
    · exact ⟨o.toNat, by (first | lia | omega), by rw [if_neg c]; (first | lia | omega)⟩
  refine ⟨_, rfl, a, ns, 3, rfl, s1.seq hS0, _, rfl, _, _, rfl, cell0 ns 3, k, ?_, hk, fun lA L0 H2 s2 nl rl ll fl => ?_⟩
  · rw [ek]; rfl
  have hS2 := (s1.trans s2).seq hS0
  have ru2 := ru.keep s2
  have nl1 := nl
  have ne : uA ≠ lA := by
    obtain ⟨x, e, _⟩ := ru.there
    exact ne_of_none e nl
  clear ru s1 s2 nl hS0 u0 hL esg w0 w1 sg0 sg1
  have fg1 : Po.Fg 1 := ⟨1, 1, by decide +kernel, by decide, by decide, by decide, by decide⟩
  have setL : ∀ {H2 : Hp} {L0 : List Rat} {p : Addr} {xl : List V}, H2 lA = some (.lst xl) → H2 p = none → Rw H2 lA L0 → 0 < L0.length → (∀ q ∈ L0, Po.Fg q) → Rw H2 uA U → ∃ L1 : List Rat, Rw (upd (upd H2 p (.tup [.int 1, .int 1])) lA (.lst (xl.set 0 (.ref p)))) lA L1 ∧ L1.length = L0.length ∧ (∀ q ∈ L1, Po.Fg q) ∧ Rw (upd (upd H2 p (.tup [.int 1, .int 1])) lA (.lst (xl.set 0 (.ref p)))) uA U ∧ ixN xl.length 0 = some 0 := by
    intro H2 L0 p xl e hp r hl fl ru
    have u := same_upd hp (.tup [.int 1, .int 1])
    have kp : Pq (upd H2 p (.tup [.int 1, .int 1])) p 1 := Pq.of Pr.new ⟨rfl, rfl⟩
    refine ⟨L0.set 0 1, Rw.setq 0 (u _ _ e) (r.keep u) kp, List.length_set, mem_setF fl fg1, Rw.updO (ru.keep u) (u _ _ e) ne, ?_⟩
    obtain ⟨x', e', l'⟩ := r.there
    rw [e] at e'
    cases e'
    unfold ixN
    rw [if_pos (by decide), if_pos (by (first | lia | omega))]
    rfl
  refine ⟨fun σ' H' => ∃ L1 : List Rat, σ' = [some (.ref a), some (.int m), some (.int o), some (.ref uA), some (.ref lA), none, none, none] ∧ Rw H' lA L1 ∧ L1.length = k ∧ (∀ q ∈ L1, Po.Fg q) ∧ Rw H' uA U, ?tl1, ?hd1⟩
  case hd1 =>
    obtain ⟨xl, el, lxl⟩ := rl.there
    have nx : ∃ L1 : List Rat, [some (V.ref a), some (.int (m : Int)), some (.int o), some (.ref uA), some (.ref lA), none, none, none] = [some (.ref a), some (.int (m : Int)), some (.int o), some (.ref uA), some (.ref lA), none, none, none] ∧ Rw H2 lA L1 ∧ L1.length = k ∧ (∀ q ∈ L1, Po.Fg q) ∧ Rw H2 uA U := ⟨L0, rfl, rl, ll, fl, ru2⟩
    refine ⟨_, rfl, a, ns, 4, rfl, hS2, _, _, rfl, rfl, (by show (0 : Int) < 2; decide), rfl, _, rfl, ite2 (fun _ => ⟨_, rfl, _, _, rfl, .inl (SqL.of el), _, _, rfl, rfl, _, rfl, ite2 (fun c2 => ?_) (fun _ => nx)⟩) (fun _ => iteF nx)⟩
    have c2' : (0 : Int) < xl.length := of_decide_eq_true c2
    refine ⟨(by show 2 ≤ sizeLine; decide), fun p hp => ?_⟩
    obtain ⟨L1, r1, l1, f1, u1, ix⟩ := setL el hp rl (by (first | lia | omega)) fl ru2
    exact ⟨_, rfl, lA, _, _, 0, rfl, rfl, same_upd hp _ _ _ el, ix, L1, rfl, r1, by (first | lia | omega), f1, u1⟩
  rintro _ H3 ⟨L1, rfl, rl3, ll3, fl3, ru3⟩
  clear rl ru2 hS2 fl
  refine ⟨fun σ' H' => ∃ L1 : List Rat, σ' = [some (.ref a), some (.int m), some (.int o), some (.ref uA), some (.ref lA), none, none, none] ∧ Rw H' lA L1 ∧ L1.length = k ∧ (∀ q ∈ L1, Po.Fg q) ∧ Rw H' uA U, ?tl2, ?hd2⟩
  case hd2 =>
    obtain ⟨pl, el, kl⟩ := id rl3
    have lpl := kl.length
    have nx : ∃ L2 : List Rat, [some (V.ref a), some (.int (m : Int)), some (.int o), some (.ref uA), some (.ref lA), none, none, none] = [some (.ref a), some (.int (m : Int)), some (.int o), some (.ref uA), some (.ref lA), none, none, none] ∧ Rw H3 lA L2 ∧ L2.length = k ∧ (∀ q ∈ L2, Po.Fg q) ∧ Rw H3 uA U := ⟨L1, rfl, rl3, ll3, fl3, ru3⟩
    refine ⟨_, rfl, _, _, rfl, .inl (SqL.of el), rfl, _, rfl, ite2 (fun c1 => ?_) (fun _ => iteF nx)⟩
    have c1' : (((pl.map V.ref).length : Nat) : Int) = 1 := V.int.inj (of_decide_eq_true c1)
    rw [List.length_map] at c1'
    have h0 : 0 < L1.length := by (first | lia | omega)
    obtain ⟨p1, e1, k1⟩ := kl.get (List.getElem?_eq_getElem h0)
    refine ⟨_, rfl, lA, _, _, _, rfl, rfl, SqL.of el, atI_nat (j := 0) e1, p1, _, _, _, rfl, rfl, SqT.of k1, rfl, _, _, .int _, .int _, (by simp [PyData.depth]), _, rfl, ite2 (fun _ => ?_) (fun _ => nx)⟩
    refine ⟨(by show 2 ≤ sizeLine; decide), fun p hp => ?_⟩
    obtain ⟨L2, r2, l2, f2, u2, ix⟩ := setL el hp rl3 h0 fl3 ru3
    exact ⟨_, rfl, lA, _, _, 0, rfl, rfl, same_upd hp _ _ _ el, ix, L2, rfl, r2, by (first | lia | omega), f2, u2⟩
  rintro _ H4 ⟨L2, rfl, rl4, ll4, fl4, ru4⟩
  clear rl3 ru3 fl3 ll3 ll setL nl1 nu
  obtain ⟨xu, eu, lxu⟩ := ru4.there
  obtain ⟨xl, el, lxl⟩ := rl4.there
  refine ⟨_, rfl, uA, _, rfl, .inl (SqL.of eu), fun h1 hh1 => ?_⟩
  have t1 := same_upd hh1 (.lst xu)
  refine ⟨_, rfl, lA, _, rfl, .inl (SqL.of (t1 _ _ el)), fun h2 hh2 => ⟨(by show 2 ≤ sizeLine; decide), fun hd hhd => ?_⟩⟩
  have t2 := same_upd hh2 (.lst xl)
  have t3 := same_upd hhd (.tup [.ref h1, .ref h2])
  have rh1 := (ru4.copy eu hh1).keep (t2.trans t3)
  have rh2 := ((rl4.keep t1).copy (t1 _ _ el) hh2).keep t3
  have s5 := t1.trans (t2.trans t3)
  have ehd : upd (upd (upd H4 h1 (.lst xu)) h2 (.lst xl)) hd (.tup [.ref h1, .ref h2]) hd = some (.tup [.ref h1, .ref h2]) := upd_same
  have ru5 := ru4.keep s5
  have rl5 := rl4.keep s5
  have eu5 := s5 _ _ eu
  have el5 := s5 _ _ el
  clear t1 t2 t3 hh1 hh2 hhd s5 ru4 rl4 eu el
  generalize upd (upd (upd H4 h1 (.lst xu)) h2 (.lst xl)) hd (.tup [.ref h1, .ref h2]) = H5 at *
  refine ⟨fun σ' H' => ∃ g : Bool, σ' = [some (.ref a), some (.int m), some (.int o), some (.ref uA), some (.ref lA), some (.ref hd), some (.bl g), none] ∧ Same H5 H' ∧ (g = false ↔ LadBad U L2), ?tl3, ?hd3⟩
  case hd3 =>
    refine ⟨_, rfl, _, _, rfl, .inl (SqL.of eu5), _, rfl, _, _, rfl, .inl (SqL.of el5), rfl, _, rfl, ite2 (fun c1 => ?_) (fun c1 => ⟨false, rfl, Same.refl _, fun _ z => ?_, fun _ => rfl⟩)⟩
    · have c1' : (xu.length : Int) = (xl.length : Int) := V.int.inj (of_decide_eq_true c1)
      refine ⟨_, rfl, _, _, rfl, .inl (SqL.of eu5), _, _, rfl, rfl, _, rfl, ite2 (fun c2 => ?_) (fun c2 => ⟨false, rfl, Same.refl _, fun _ z => ?_, fun _ => rfl⟩)⟩
      · have c2' : (0 : Int) < xu.length := of_decide_eq_true c2
        refine ⟨_, rfl, _, _, rfl, .inl (SqL.of eu5), _, _, rfl, rfl, _, rfl, ite2 (fun c3 => ?_) (fun c3 => ⟨false, rfl, Same.refl _, fun _ z => ?_, fun _ => rfl⟩)⟩
        · have c3' : (xu.length : Int) < 14 := of_decide_eq_true c3
          have h0 : 0 < L2.length := by (first | lia | omega)
          obtain ⟨pl, el6, kl⟩ := id rl5
          obtain ⟨p1, e1, k1⟩ := kl.get (List.getElem?_eq_getElem h0)
          refine ⟨_, rfl, lA, _, _, _, rfl, rfl, SqL.of el6, atI_nat (j := 0) e1, (by show 2 ≤ sizeLine; decide), fun z hz' => ?_⟩
          have uz := same_upd hz' (.tup [.int 1, .int 1])
          have kz : Pq (upd H5 z (.tup [.int 1, .int 1])) z 1 := Pq.of Pr.new ⟨rfl, rfl⟩
          refine ⟨_, _, (k1.keep uz).dv, kz.dv, Nat.le_trans (depth_dq _) (by decide), _, rfl, uz, ?_⟩
          rw [eqv_dq]
          constructor
          · intro z y
            obtain ⟨_, _, _, y4⟩ := y
            rw [List.getElem?_eq_getElem h0] at y4
            rw [decide_eq_true (Option.some.inj y4)] at z
            exact absurd z (by decide)
          · intro y
            refine decide_eq_false fun z => y ⟨by (first | lia | omega), by (first | lia | omega), by (first | lia | omega), ?_⟩
            rw [List.getElem?_eq_getElem h0, z]
        · have c3' : ¬ (xu.length : Int) < 14 := of_decide_eq_false (Bool.eq_false_iff.mpr c3)
          have := z.2.2.1
          (first | lia | omega)
      · have c2' : ¬ (0 : Int) < xu.length := of_decide_eq_false (Bool.eq_false_iff.mpr c2)
        have := z.2.1
        (first | lia | omega)
    · have c1' : ¬ (xu.length : Int) = (xl.length : Int) := fun z => of_decide_eq_false (Bool.eq_false_iff.mpr c1) (congrArg V.int z)
      have := z.1
      (first | lia | omega)
  rintro _ H6 ⟨g, rfl, s6, hg⟩
  have ehd6 := s6 _ _ ehd
  have rh16 := rh1.keep s6
  have rh26 := rh2.keep s6
  have lU100 : U.length ≤ 100 := by (first | lia | omega)
  have lL100 : L2.length ≤ 100 := by (first | lia | omega)
  refine ⟨fun σ' H' => σ' = [some (.ref a), some (.int m), some (.int o), some (.ref uA), some (.ref lA), some (.ref hd), some (.bl g), none] ∧ H6 = H' ∧ LadBad U L2, ?tl4, ?hd4⟩
  case hd4 =>
    refine ⟨_, rfl, _, rfl, ite2 (fun c => ?_) (fun c => ⟨rfl, rfl, hg.mp (Bool.eq_false_iff.mpr c)⟩)⟩
    refine ⟨_, rfl, hd, _, _, _, rfl, rfl, SqT.of ehd6, rfl, _, rfl, hd, _, _, _, rfl, rfl, SqT.of ehd6, rfl, h1, h2, U, L2, rfl, rh16, rh26, lU100, lL100, fun bad => ?_, fun nb => ?_⟩
    · rw [hg.mpr bad] at c
      exact absurd c (by decide)
    have good := Classical.not_not.mp nb
    obtain ⟨z1, z2, z3, z4⟩ := good
    obtain ⟨n, hn⟩ : ∃ n, U.length = n + 1 := ⟨U.length - 1, by (first | lia | omega)⟩
    have hn2 : L2.length = n + 1 := by (first | lia | omega)
    refine ⟨n, ⟨hn, hn2, by (first | lia | omega), z4, fun q h => (fu q h).bq.mono (by decide), fun q h => (fl4 q h).bq.mono (by decide), fun p hp gd => ⟨740, 740, (Po.fg_lad fu fl4 hn hn2 (by (first | lia | omega)) p hp gd).1, (Po.fg_lad fu fl4 hn hn2 (by (first | lia | omega)) p hp gd).2, by decide⟩⟩, fun r lq v xs H7 s7 er elq => ?_⟩
    refine ⟨_, rfl, _, _, _, _, rfl, TyOf.tup er, kit_tup_tup _, _, rfl, iteT ?_⟩
    refine ⟨_, rfl, _, _, rfl, .inr (SqT.of er), rfl, _, rfl, iteT ?_⟩
    exact ⟨_, rfl, r, _, _, _, rfl, rfl, SqT.of er, rfl, _, _, _, _, rfl, TyOf.lst elq, kit_lst_lst _, q _⟩
  rintro _ _ ⟨rfl, rfl, bad⟩
  refine ⟨fun σ' H' => σ' = [some (.ref a), some (.int m), some (.int o), some (.ref uA), some (.ref lA), some (.ref hd), some (.bl g), none] ∧ Same H6 H', ?tl5, ?hd5⟩
  case hd5 =>
    refine ⟨_, rfl, hd, _, _, _, rfl, rfl, SqT.of ehd6, rfl, _, rfl, hd, _, _, _, rfl, rfl, SqT.of ehd6, rfl, h1, h2, U, L2, false, rfl, rh16, rh26, lU100, lL100, bad, fun H7 s7 => ⟨_, rfl, iteF ?_⟩⟩
    have ehd7 := s7 _ _ ehd6
    exact ⟨_, rfl, hd, _, _, _, rfl, rfl, SqT.of ehd7, rfl, _, rfl, hd, _, _, _, rfl, rfl, SqT.of ehd7, rfl, h1, h2, U, L2, true, rfl, rh16.keep s7, rh26.keep s7, lU100, lL100, bad, fun H8 s8 => ⟨_, rfl, iteF ⟨rfl, s7.trans s8⟩⟩⟩
  rintro _ H7 ⟨rfl, s7⟩
  refine ⟨_, rfl, _, rfl, _, rfl, (by show 2 ≤ sizeLine; decide), fun p hp => ?_⟩
  have u9 := same_upd hp (.tup [.ref uA, .ref lA])
  have s9 := s7.trans u9
  have s59 := s6.trans s9
  have d1 : Dv (upd H7 p (.tup [.ref uA, .ref lA])) (.ref hd) (.tuple [dr U, dr L2]) := .tup (s9 _ _ ehd6) (.cons (rh16.keep s9).dv (.cons (rh26.keep s9).dv .nil))
  have d2 : Dv (upd H7 p (.tup [.ref uA, .ref lA])) (.ref p) (.tuple [dr U, dr L2]) := .tup upd_same (.cons (ru5.keep s59).dv (.cons (rl5.keep s59).dv .nil))
  have ee : PyData.eqv (.tuple [dr U, dr L2]) (.tuple [dr U, dr L2]) = true := by
    rw [PyData.eqv, PyData.eqvAll, PyData.eqvAll, PyData.eqvAll, eqv_dr_self, eqv_dr_self]
    rfl
  have dd : (PyData.tuple [dr U, dr L2]).depth ≤ 60 := by
    rw [PyData.depth, PyData.depthAll, PyData.depthAll, PyData.depthAll]
    have := depth_dr U
    have := depth_dr L2
    (first | lia | omega)
  refine ⟨_, _, d1, d2, dd, ?_⟩
  have fin : Q (.bl (PyData.eqv (.tuple [dr U, dr L2]) (.tuple [dr U, dr L2]))) (upd H7 p (.tup [.ref uA, .ref lA])) := by rw [ee]; exact q _
  exact fin

end
set_option maxHeartbeats 4000000 in
theorem all_mk {l : PySem.W.OpenLaw} {w : World} {K : PySem.W.Frag} {h : Heap} {mg : Str → Option Value} {fa f1 f2 f3 f4 f5 f6 f7 f8 f9 f10 f11 f12 f13 f14 f15 f16 f17 f18 f19 f20 f21 f22 f23 f24 c_NoCord c_CordError c_NoBead c_NoFraction c_NoName c_NoText c_NoWorth o_Cord : Addr} (X : K.In h) (G : h.Ns mainGlobals mg) (hfa : mg "law" = some (.ref fa))
    {od1 an1 od2 an2 od3 an3 od4 an4 od5 an5 od6 an6 od7 an7 od8 an8 od9 an9 od10 an10 od11 an11 od12 an12 od13 an13 od14 an14 od15 an15 od16 an16 od17 an17 od18 an18 od19 an19 od20 an20 od21 an21 od22 an22 od23 an23 od24 an24 : Option Addr} {sl1 sl2 sl3 sl4 sl5 sl6 sl7 sl8 sl9 sl10 sl11 sl12 sl13 sl14 sl15 sl16 sl17 sl18 sl19 sl20 sl21 sl22 sl23 sl24 : Array (Option Value)} {oc1 kV1 dc1 pm1 cd1 ct1 oc2 kV2 dc2 pm2 cd2 ct2 oc3 kV3 dc3 pm3 cd3 ct3 oc4 kV4 dc4 pm4 cd4 ct4 oc5 kV5 dc5 pm5 cd5 ct5 oc6 kV6 dc6 pm6 cd6 ct6 oc7 kV7 dc7 pm7 cd7 ct7 oc8 kV8 dc8 pm8 cd8 ct8 oc9 kV9 dc9 pm9 cd9 ct9 oc10 kV10 dc10 pm10 cd10 ct10 oc11 kV11 dc11 pm11 cd11 ct11 oc12 kV12 dc12 pm12 cd12 ct12 oc13 kV13 dc13 pm13 cd13 ct13 oc14 kV14 dc14 pm14 cd14 ct14 oc15 kV15 dc15 pm15 cd15 ct15 oc16 kV16 dc16 pm16 cd16 ct16 oc17 kV17 dc17 pm17 cd17 ct17 oc18 kV18 dc18 pm18 cd18 ct18 oc19 kV19 dc19 pm19 cd19 ct19 oc20 kV20 dc20 pm20 cd20 ct20 oc21 kV21 dc21 pm21 cd21 ct21 oc22 kV22 dc22 pm22 cd22 ct22 oc23 kV23 dc23 pm23 cd23 ct23 oc24 kV24 dc24 pm24 cd24 ct24 : Value}
    {dt3 : Addr} {dto3 : Value} {dtd3 : Option Addr} {dtn3 : Nat} {dts3 : Array (Option Value)} {dtk3_0 : Tok}
    (a1 : PySem.W.nsIn K mainGlobals "divisor" = some (some (.ref f1))) (l1 : K.lookup f1 = some ⟨oc1, od1, .func (PySem.W.fnOf "divisor" "divisor" (defArgs s_divisor) (defBody s_divisor) (defScope s_divisor) .none kV1 dc1 pm1 an1 cd1 ct1), sl1⟩) (c1 : PySem.W.codeIn K cd1 "divisor" = true) (k1 : PySem.W.keepIn K (.ref f1) = true)
    (a2 : PySem.W.nsIn K mainGlobals "is_whole" = some (some (.ref f2))) (l2 : K.lookup f2 = some ⟨oc2, od2, .func (PySem.W.fnOf "is_whole" "is_whole" (defArgs s_is_whole) (defBody s_is_whole) (defScope s_is_whole) .none kV2 dc2 pm2 an2 cd2 ct2), sl2⟩) (c2 : PySem.W.codeIn K cd2 "is_whole" = true) (k2 : PySem.W.keepIn K (.ref f2) = true)
    (a3 : PySem.W.nsIn K mainGlobals "fraction" = some (some (.ref f3))) (l3 : K.lookup f3 = some ⟨oc3, od3, .func (PySem.W.fnOf "fraction" "fraction" (defArgs s_fraction) (defBody s_fraction) (defScope s_fraction) (.ref dt3) kV3 dc3 pm3 an3 cd3 ct3), sl3⟩) (c3 : PySem.W.codeIn K cd3 "fraction" = true) (k3 : PySem.W.keepIn K (.ref f3) = true)
    (d3 : K.lookup dt3 = some ⟨dto3, dtd3, .seq #[.int 1 dtk3_0] dtn3, dts3⟩)
    (a4 : PySem.W.nsIn K mainGlobals "plus" = some (some (.ref f4))) (l4 : K.lookup f4 = some ⟨oc4, od4, .func (PySem.W.fnOf "plus" "plus" (defArgs s_plus) (defBody s_plus) (defScope s_plus) .none kV4 dc4 pm4 an4 cd4 ct4), sl4⟩) (c4 : PySem.W.codeIn K cd4 "plus" = true) (k4 : PySem.W.keepIn K (.ref f4) = true)
    (a5 : PySem.W.nsIn K mainGlobals "minus" = some (some (.ref f5))) (l5 : K.lookup f5 = some ⟨oc5, od5, .func (PySem.W.fnOf "minus" "minus" (defArgs s_minus) (defBody s_minus) (defScope s_minus) .none kV5 dc5 pm5 an5 cd5 ct5), sl5⟩) (c5 : PySem.W.codeIn K cd5 "minus" = true) (k5 : PySem.W.keepIn K (.ref f5) = true)
    (a6 : PySem.W.nsIn K mainGlobals "side" = some (some (.ref f6))) (l6 : K.lookup f6 = some ⟨oc6, od6, .func (PySem.W.fnOf "side" "side" (defArgs s_side) (defBody s_side) (defScope s_side) .none kV6 dc6 pm6 an6 cd6 ct6), sl6⟩) (c6 : PySem.W.codeIn K cd6 "side" = true) (k6 : PySem.W.keepIn K (.ref f6) = true)
    (a7 : PySem.W.nsIn K mainGlobals "shared_bottom" = some (some (.ref f7))) (l7 : K.lookup f7 = some ⟨oc7, od7, .func (PySem.W.fnOf "shared_bottom" "shared_bottom" (defArgs s_shared_bottom) (defBody s_shared_bottom) (defScope s_shared_bottom) .none kV7 dc7 pm7 an7 cd7 ct7), sl7⟩) (c7 : PySem.W.codeIn K cd7 "shared_bottom" = true) (k7 : PySem.W.keepIn K (.ref f7) = true)
    (a8 : PySem.W.nsIn K mainGlobals "whole_figures" = some (some (.ref f8))) (l8 : K.lookup f8 = some ⟨oc8, od8, .func (PySem.W.fnOf "whole_figures" "whole_figures" (defArgs s_whole_figures) (defBody s_whole_figures) (defScope s_whole_figures) .none kV8 dc8 pm8 an8 cd8 ct8), sl8⟩) (c8 : PySem.W.codeIn K cd8 "whole_figures" = true) (k8 : PySem.W.keepIn K (.ref f8) = true)
    (a9 : PySem.W.nsIn K mainGlobals "over_one_bottom" = some (some (.ref f9))) (l9 : K.lookup f9 = some ⟨oc9, od9, .func (PySem.W.fnOf "over_one_bottom" "over_one_bottom" (defArgs s_over_one_bottom) (defBody s_over_one_bottom) (defScope s_over_one_bottom) .none kV9 dc9 pm9 an9 cd9 ct9), sl9⟩) (c9 : PySem.W.codeIn K cd9 "over_one_bottom" = true) (k9 : PySem.W.keepIn K (.ref f9) = true)
    (a10 : PySem.W.nsIn K mainGlobals "in_lowest_terms" = some (some (.ref f10))) (l10 : K.lookup f10 = some ⟨oc10, od10, .func (PySem.W.fnOf "in_lowest_terms" "in_lowest_terms" (defArgs s_in_lowest_terms) (defBody s_in_lowest_terms) (defScope s_in_lowest_terms) .none kV10 dc10 pm10 an10 cd10 ct10), sl10⟩) (c10 : PySem.W.codeIn K cd10 "in_lowest_terms" = true) (k10 : PySem.W.keepIn K (.ref f10) = true)
    (a11 : PySem.W.nsIn K mainGlobals "quotient_at" = some (some (.ref f11))) (l11 : K.lookup f11 = some ⟨oc11, od11, .func (PySem.W.fnOf "quotient_at" "quotient_at" (defArgs s_quotient_at) (defBody s_quotient_at) (defScope s_quotient_at) .none kV11 dc11 pm11 an11 cd11 ct11), sl11⟩) (c11 : PySem.W.codeIn K cd11 "quotient_at" = true) (k11 : PySem.W.keepIn K (.ref f11) = true)
    (a12 : PySem.W.nsIn K mainGlobals "rest_of" = some (some (.ref f12))) (l12 : K.lookup f12 = some ⟨oc12, od12, .func (PySem.W.fnOf "rest_of" "rest_of" (defArgs s_rest_of) (defBody s_rest_of) (defScope s_rest_of) .none kV12 dc12 pm12 an12 cd12 ct12), sl12⟩) (c12 : PySem.W.codeIn K cd12 "rest_of" = true) (k12 : PySem.W.keepIn K (.ref f12) = true)
    (a13 : PySem.W.nsIn K mainGlobals "is_fraction" = some (some (.ref f13))) (l13 : K.lookup f13 = some ⟨oc13, od13, .func (PySem.W.fnOf "is_fraction" "is_fraction" (defArgs s_is_fraction) (defBody s_is_fraction) (defScope s_is_fraction) .none kV13 dc13 pm13 an13 cd13 ct13), sl13⟩) (c13 : PySem.W.codeIn K cd13 "is_fraction" = true) (k13 : PySem.W.keepIn K (.ref f13) = true)
    (a14 : PySem.W.nsIn K mainGlobals "is_row_above" = some (some (.ref f14))) (l14 : K.lookup f14 = some ⟨oc14, od14, .func (PySem.W.fnOf "is_row_above" "is_row_above" (defArgs s_is_row_above) (defBody s_is_row_above) (defScope s_is_row_above) .none kV14 dc14 pm14 an14 cd14 ct14), sl14⟩) (c14 : PySem.W.codeIn K cd14 "is_row_above" = true) (k14 : PySem.W.keepIn K (.ref f14) = true)
    (a15 : PySem.W.findIn K (.ref c_NoCord) "__init__" = some (some (.ref f15))) (i15 : PySem.W.isFn K (.ref f15) = true) (l15 : K.lookup f15 = some ⟨oc15, od15, .func (PySem.W.fnOf "__init__" "NoCord.__init__" (defArgs s_NoCord_init) (defBody s_NoCord_init) (defScope s_NoCord_init) .none kV15 dc15 pm15 an15 cd15 ct15), sl15⟩) (c15 : PySem.W.codeIn K cd15 "NoCord.__init__" = true) (k15 : PySem.W.keepIn K (.ref f15) = true)
    (a16 : PySem.W.findIn K (.ref o_Cord) "__init__" = some (some (.ref f16))) (i16 : PySem.W.isFn K (.ref f16) = true) (l16 : K.lookup f16 = some ⟨oc16, od16, .func (PySem.W.fnOf "__init__" "Cord.__init__" (defArgs s_Cord_init) (defBody s_Cord_init) (defScope s_Cord_init) .none kV16 dc16 pm16 an16 cd16 ct16), sl16⟩) (c16 : PySem.W.codeIn K cd16 "Cord.__init__" = true) (k16 : PySem.W.keepIn K (.ref f16) = true)
    (a17 : PySem.W.nsIn K mainGlobals "ladder" = some (some (.ref f17))) (l17 : K.lookup f17 = some ⟨oc17, od17, .func (PySem.W.fnOf "ladder" "ladder" (defArgs s_ladder) (defBody s_ladder) (defScope s_ladder) .none kV17 dc17 pm17 an17 cd17 ct17), sl17⟩) (c17 : PySem.W.codeIn K cd17 "ladder" = true) (k17 : PySem.W.keepIn K (.ref f17) = true)
    (a18 : PySem.W.nsIn K mainGlobals "cord_with" = some (some (.ref f18))) (l18 : K.lookup f18 = some ⟨oc18, od18, .func (PySem.W.fnOf "cord_with" "cord_with" (defArgs s_cord_with) (defBody s_cord_with) (defScope s_cord_with) .none kV18 dc18 pm18 an18 cd18 ct18), sl18⟩) (c18 : PySem.W.codeIn K cd18 "cord_with" = true) (k18 : PySem.W.keepIn K (.ref f18) = true)
    (a19 : PySem.W.nsIn K mainGlobals "_law_cell_at" = some (some (.ref f19))) (l19 : K.lookup f19 = some ⟨oc19, od19, .func (PySem.W.fnOf "_law_cell_at" "_law_cell_at" (defArgs s_law_cell_at) (defBody s_law_cell_at) (defScope s_law_cell_at) .none kV19 dc19 pm19 an19 cd19 ct19), sl19⟩) (c19 : PySem.W.codeIn K cd19 "_law_cell_at" = true) (k19 : PySem.W.keepIn K (.ref f19) = true)
    (a20 : PySem.W.nsIn K mainGlobals "_law_low" = some (some (.ref f20))) (l20 : K.lookup f20 = some ⟨oc20, od20, .func (PySem.W.fnOf "_law_low" "_law_low" (defArgs s_law_low) (defBody s_law_low) (defScope s_law_low) .none kV20 dc20 pm20 an20 cd20 ct20), sl20⟩) (c20 : PySem.W.codeIn K cd20 "_law_low" = true) (k20 : PySem.W.keepIn K (.ref f20) = true)
    (a21 : PySem.W.nsIn K mainGlobals "_law_twelfths" = some (some (.ref f21))) (l21 : K.lookup f21 = some ⟨oc21, od21, .func (PySem.W.fnOf "_law_twelfths" "_law_twelfths" (defArgs s_law_twelfths) (defBody s_law_twelfths) (defScope s_law_twelfths) .none kV21 dc21 pm21 an21 cd21 ct21), sl21⟩) (c21 : PySem.W.codeIn K cd21 "_law_twelfths" = true) (k21 : PySem.W.keepIn K (.ref f21) = true)
    (a22 : PySem.W.nsIn K mainGlobals "_law_figures" = some (some (.ref f22))) (l22 : K.lookup f22 = some ⟨oc22, od22, .func (PySem.W.fnOf "_law_figures" "_law_figures" (defArgs s_law_figures) (defBody s_law_figures) (defScope s_law_figures) .none kV22 dc22 pm22 an22 cd22 ct22), sl22⟩) (c22 : PySem.W.codeIn K cd22 "_law_figures" = true) (k22 : PySem.W.keepIn K (.ref f22) = true)
    (a23 : PySem.W.nsIn K mainGlobals "_law_refused" = some (some (.ref f23))) (l23 : K.lookup f23 = some ⟨oc23, od23, .func (PySem.W.fnOf "_law_refused" "_law_refused" (defArgs s_law_refused) (defBody s_law_refused) (defScope s_law_refused) .none kV23 dc23 pm23 an23 cd23 ct23), sl23⟩) (c23 : PySem.W.codeIn K cd23 "_law_refused" = true) (k23 : PySem.W.keepIn K (.ref f23) = true)
    (a24 : PySem.W.nsIn K mainGlobals "law" = some (some (.ref f24))) (l24 : K.lookup f24 = some ⟨oc24, od24, .func (PySem.W.fnOf "law" "law" (defArgs s_law) (defBody s_law) (defScope s_law) .none kV24 dc24 pm24 an24 cd24 ct24), sl24⟩) (c24 : PySem.W.codeIn K cd24 "law" = true) (k24 : PySem.W.keepIn K (.ref f24) = true)
    (n_NoCord : PySem.W.nsIn K mainGlobals "NoCord" = some (some (.ref c_NoCord)))
    (n_CordError : PySem.W.nsIn K mainGlobals "CordError" = some (some (.ref c_CordError)))
    (n_NoBead : PySem.W.nsIn K mainGlobals "NoBead" = some (some (.ref c_NoBead)))
    (n_NoFraction : PySem.W.nsIn K mainGlobals "NoFraction" = some (some (.ref c_NoFraction)))
    (n_NoName : PySem.W.nsIn K mainGlobals "NoName" = some (some (.ref c_NoName)))
    (n_NoText : PySem.W.nsIn K mainGlobals "NoText" = some (some (.ref c_NoText)))
    (n_NoWorth : PySem.W.nsIn K mainGlobals "NoWorth" = some (some (.ref c_NoWorth)))
    (x_NoCord : PySem.W.kitOne K (.ref c_NoCord) (.ref c_CordError) = some true) (y_NoCord : (Value.ref c_NoCord == .ref c_CordError) = false) (ei_NoCord : excInI K c_NoCord f15 = true) (ek_NoCord : PySem.W.keepIn K (.ref c_NoCord) = true)
    (eis_NoCord : PySem.W.isClsIn K c_NoCord = true)
    (ega_NoCord : PySem.W.findIn K (.ref c_NoCord) "__getattribute__" = some (some (.builtin "BaseException.__getattribute__")))
    (eno_NoCord : PySem.W.findIn K (.ref c_NoCord) "__getattr__" = some none)
    (ecl_NoCord : PySem.W.findIn K (.ref c_NoCord) "__class__" = some (some (.builtin "object.__class__")))
    (emb_NoCord : PySem.W.mroIn K c_NoCord (.type "BaseException") = some true)
    (emo_NoCord : PySem.W.mroIn K c_NoCord (.type "object") = some true)
    (fo_NoCord : ((PySem.W.clsIn K c_NoCord).any fun cd => overVE cd.mro) = true) (fh_NoCord : PySem.W.hasDictIn K c_NoCord = true) (fs_NoCord : PySem.W.findIn K (.ref c_NoCord) "__setattr__" = some (some (.builtin "object.__setattr__"))) (fn_NoCord : PySem.W.findIn K (.ref c_NoCord) "place" = some none)
    (ka_NoCord : PySem.W.kitAny K (.ref c_NoCord) [.ref c_NoBead, .ref c_NoFraction, .ref c_NoName, .ref c_NoText, .ref c_NoWorth] = some false)
    (om_Cord : PySem.W.nsIn K mainGlobals "Cord" = some (some (.ref o_Cord))) (pg_Cord : PySem.W.plainGet K o_Cord Str.empty = true) (hd_Cord : PySem.W.hasDictIn K o_Cord = true) (po_Cord : PySem.W.plainOver K o_Cord = true) (sa_Cord : PySem.W.findIn K (.ref o_Cord) "__setattr__" = some (some (.builtin "object.__setattr__"))) (mk_Cord : PySem.W.makesIn K o_Cord = true) (kc_Cord : PySem.W.keepIn K (.ref o_Cord) = true)
    (d1_Cord : PySem.W.findIn K (.ref o_Cord) "__class__" = some (some (.builtin "object.__class__"))) (d2_Cord : PySem.W.specialIn K (.builtin "object.__class__") "__get__" = some (some (.builtin "getset_descriptor.__get__"))) (d3_Cord : PySem.W.takesIn K (.builtin "object.__class__") = some true) (d4_Cord : PySem.W.mroIn K o_Cord (.type "object") = some true) (ks_Cord : PySem.W.kitOne K (.ref o_Cord) (.ref o_Cord) = some true)
    (nf_Cord_kept_gaps : PySem.W.findIn K (.ref o_Cord) "kept_gaps" = some none)
    (nf_Cord_kept_weights : PySem.W.findIn K (.ref o_Cord) "kept_weights" = some none)
    (k_NoCord_NoCord : PySem.W.kitOne K (.ref c_NoCord) (.ref c_NoCord) = some true)
    (k_NoCord_ValueError : PySem.W.kitOne K (.ref c_NoCord) (.type "ValueError") = some true)
    (b_CordError : PySem.W.subIn K (.ref c_CordError) (.type "BaseException") = some true)
    (z_abs : PySem.W.nsIn K mainGlobals "abs" = some none) (z_len : PySem.W.nsIn K mainGlobals "len" = some none) (z_isinstance : PySem.W.nsIn K mainGlobals "isinstance" = some none) (z_int : PySem.W.nsIn K mainGlobals "int" = some none) (z_bool : PySem.W.nsIn K mainGlobals "bool" = some none) (z_tuple : PySem.W.nsIn K mainGlobals "tuple" = some none) (z_range : PySem.W.nsIn K mainGlobals "range" = some none) (z_list : PySem.W.nsIn K mainGlobals "list" = some none) (z_min : PySem.W.nsIn K mainGlobals "min" = some none) (z_max : PySem.W.nsIn K mainGlobals "max" = some none) (z_zip : PySem.W.nsIn K mainGlobals "zip" = some none) (z_all : PySem.W.nsIn K mainGlobals "all" = some none) (z_reversed : PySem.W.nsIn K mainGlobals "reversed" = some none) (z_ValueError : PySem.W.nsIn K mainGlobals "ValueError" = some none) {qt_MOST_BEADS : Tok} (q_MOST_BEADS : PySem.W.nsIn K mainGlobals "MOST_BEADS" = some (some (.int 12 qt_MOST_BEADS))) :
    ∃ fd : FuncData, (∀ (s : Shared) (v : Value), BindsTo s fd ⟨[v], []⟩ [("_law_script", v)]) ∧ ∀ base : Heap, K.In base → base.Ns mainGlobals mg → FnOk l.prog w K mg base CX0 8 fa fd ["_law_script"] (sp_law K) := by
  have e := hfa.symm.trans (PySem.W.mg_of X G a24)
  cases e
  have T : Txt mg := ⟨PySem.W.mg_none_of X G z_abs, PySem.W.mg_none_of X G z_len, PySem.W.mg_none_of X G z_isinstance, PySem.W.mg_none_of X G z_int, PySem.W.mg_none_of X G z_bool, PySem.W.mg_none_of X G z_tuple, PySem.W.mg_none_of X G z_range, PySem.W.mg_none_of X G z_list, PySem.W.mg_none_of X G z_min, PySem.W.mg_none_of X G z_max, PySem.W.mg_none_of X G z_zip, PySem.W.mg_none_of X G z_all, PySem.W.mg_none_of X G z_reversed, PySem.W.mg_none_of X G z_ValueError, ⟨_, PySem.W.mg_of X G q_MOST_BEADS⟩⟩
  have R : Errs K mg c_NoCord c_CordError c_NoBead c_NoFraction c_NoName c_NoText c_NoWorth := ⟨PySem.W.mg_of X G n_NoCord, PySem.W.mg_of X G n_CordError, PySem.W.mg_of X G n_NoBead, PySem.W.mg_of X G n_NoFraction, PySem.W.mg_of X G n_NoName, PySem.W.mg_of X G n_NoText, PySem.W.mg_of X G n_NoWorth, exm_of b_CordError x_NoCord y_NoCord, ⟨eis_NoCord, ega_NoCord, eno_NoCord, ecl_NoCord, emb_NoCord, emo_NoCord⟩, ⟨fo_NoCord, fh_NoCord, fs_NoCord, ega_NoCord, eno_NoCord, eis_NoCord⟩, fn_NoCord, ka_NoCord, k_NoCord_NoCord, k_NoCord_ValueError⟩
  have O : OwnCord K mg o_Cord := ⟨PySem.W.mg_of X G om_Cord, ⟨pg_Cord, hd_Cord, po_Cord, sa_Cord⟩, d1_Cord, d2_Cord, d3_Cord, d4_Cord, ks_Cord, nf_Cord_kept_gaps, nf_Cord_kept_weights⟩
  have F1 := fun_mk (st := s_divisor) l1 c1 k1
  have b1 := F1.binds (ps := ["one", "other"]) fun _ _ _ _ _ _ us hl => by
    obtain ⟨u0, u1, rfl⟩ := la2 hl
    rfl
  have F2 := fun_mk (st := s_is_whole) l2 c2 k2
  have b2 := F2.binds (ps := ["thing"]) fun _ _ _ _ _ _ us hl => by
    obtain ⟨u0, rfl⟩ := la1 hl
    rfl
  have F4 := fun_mk (st := s_plus) l4 c4 k4
  have b4 := F4.binds (ps := ["one", "other"]) fun _ _ _ _ _ _ us hl => by
    obtain ⟨u0, u1, rfl⟩ := la2 hl
    rfl
  have F5 := fun_mk (st := s_minus) l5 c5 k5
  have b5 := F5.binds (ps := ["one", "other"]) fun _ _ _ _ _ _ us hl => by
    obtain ⟨u0, u1, rfl⟩ := la2 hl
    rfl
  have F6 := fun_mk (st := s_side) l6 c6 k6
  have b6 := F6.binds (ps := ["one"]) fun _ _ _ _ _ _ us hl => by
    obtain ⟨u0, rfl⟩ := la1 hl
    rfl
  have F7 := fun_mk (st := s_shared_bottom) l7 c7 k7
  have b7 := F7.binds (ps := ["figures"]) fun _ _ _ _ _ _ us hl => by
    obtain ⟨u0, rfl⟩ := la1 hl
    rfl
  have F8 := fun_mk (st := s_whole_figures) l8 c8 k8
  have b8 := F8.binds (ps := ["one", "bottom"]) fun _ _ _ _ _ _ us hl => by
    obtain ⟨u0, u1, rfl⟩ := la2 hl
    rfl
  have F9 := fun_mk (st := s_over_one_bottom) l9 c9 k9
  have b9 := F9.binds (ps := ["one"]) fun _ _ _ _ _ _ us hl => by
    obtain ⟨u0, rfl⟩ := la1 hl
    rfl
  have F10 := fun_mk (st := s_in_lowest_terms) l10 c10 k10
  have b10 := F10.binds (ps := ["figures", "bottom"]) fun _ _ _ _ _ _ us hl => by
    obtain ⟨u0, u1, rfl⟩ := la2 hl
    rfl
  have F11 := fun_mk (st := s_quotient_at) l11 c11 k11
  have b11 := F11.binds (ps := ["place", "one", "other"]) fun _ _ _ _ _ _ us hl => by
    obtain ⟨u0, u1, u2, rfl⟩ := la3 hl
    rfl
  have F12 := fun_mk (st := s_rest_of) l12 c12 k12
  have b12 := F12.binds (ps := ["one", "other"]) fun _ _ _ _ _ _ us hl => by
    obtain ⟨u0, u1, rfl⟩ := la2 hl
    rfl
  have F13 := fun_mk (st := s_is_fraction) l13 c13 k13
  have b13 := F13.binds (ps := ["thing"]) fun _ _ _ _ _ _ us hl => by
    obtain ⟨u0, rfl⟩ := la1 hl
    rfl
  have F14 := fun_mk (st := s_is_row_above) l14 c14 k14
  have b14 := F14.binds (ps := ["thing"]) fun _ _ _ _ _ _ us hl => by
    obtain ⟨u0, rfl⟩ := la1 hl
    rfl
  have F15 := fun_mk (st := s_NoCord_init) l15 c15 k15
  have b15 := F15.binds (ps := ["self", "place"]) fun _ _ _ _ _ _ us hl => by
    obtain ⟨u0, u1, rfl⟩ := la2 hl
    rfl
  have F16 := fun_mk (st := s_Cord_init) l16 c16 k16
  have b16 := F16.binds (ps := ["self", "gaps", "weights"]) fun _ _ _ _ _ _ us hl => by
    obtain ⟨u0, u1, u2, rfl⟩ := la3 hl
    rfl
  have F17 := fun_mk (st := s_ladder) l17 c17 k17
  have b17 := F17.binds (ps := ["upper", "lower"]) fun _ _ _ _ _ _ us hl => by
    obtain ⟨u0, u1, rfl⟩ := la2 hl
    rfl
  have F18 := fun_mk (st := s_cord_with) l18 c18 k18
  have b18 := F18.binds (ps := ["upper", "lower"]) fun _ _ _ _ _ _ us hl => by
    obtain ⟨u0, u1, rfl⟩ := la2 hl
    rfl
  have F19 := fun_mk (st := s_law_cell_at) l19 c19 k19
  have b19 := F19.binds (ps := ["_law_script", "_law_k"]) fun _ _ _ _ _ _ us hl => by
    obtain ⟨u0, u1, rfl⟩ := la2 hl
    rfl
  have F20 := fun_mk (st := s_law_low) l20 c20 k20
  have b20 := F20.binds (ps := ["_law_top", "_law_bottom"]) fun _ _ _ _ _ _ us hl => by
    obtain ⟨u0, u1, rfl⟩ := la2 hl
    rfl
  have F21 := fun_mk (st := s_law_twelfths) l21 c21 k21
  have b21 := F21.binds (ps := ["_law_cell", "_law_many"]) fun _ _ _ _ _ _ us hl => by
    obtain ⟨u0, u1, rfl⟩ := la2 hl
    rfl
  have F22 := fun_mk (st := s_law_figures) l22 c22 k22
  have b22 := F22.binds (ps := ["_law_cell", "_law_many"]) fun _ _ _ _ _ _ us hl => by
    obtain ⟨u0, u1, rfl⟩ := la2 hl
    rfl
  have F23 := fun_mk (st := s_law_refused) l23 c23 k23
  have b23 := F23.binds (ps := ["_law_upper", "_law_lower", "_law_whole"]) fun _ _ _ _ _ _ us hl => by
    obtain ⟨u0, u1, u2, rfl⟩ := la3 hl
    rfl
  have F24 := fun_mk (st := s_law) l24 c24 k24
  refine ⟨PySem.W.fnOf "law" "law" (defArgs s_law) (defBody s_law) (defScope s_law) .none kV24 dc24 pm24 an24 cd24 ct24, fun s v => .of_eq rfl, fun base _ _ => ?_⟩
  have C_divisor : Cal l.prog w K mg base "divisor" 1 ["one", "other"] (sp_div) := ⟨_, _, ok_divisor F1 T, b1, k1, PySem.W.mg_of X G a1⟩
  have C_is_whole : Cal l.prog w K mg base "is_whole" 1 ["thing"] (sp_whole) := ⟨_, _, ok_is_whole F2 T, b2, k2, PySem.W.mg_of X G a2⟩
  have O_fraction := ok_fraction (P := l.prog) (w := w) (base := base) (dV := .ref dt3) ⟨_, _, _, _, _, _, _, _, _, rfl, l3, c3⟩ T C_is_whole C_divisor
  have bd3_0 : Binds K (PySem.W.fnOf "fraction" "fraction" (defArgs s_fraction) (defBody s_fraction) (defScope s_fraction) (.ref dt3) kV3 dc3 pm3 an3 cd3 ct3) ["top", "bottom"] [] := fun s us KI hl => by
    simp only [List.length_append, List.length_cons, List.length_nil] at hl
    rcases us with _ | ⟨u0, _ | ⟨u1, _ | ⟨ux, us⟩⟩⟩
    · simp only [List.length_cons, List.length_nil] at hl; (first | lia | omega)
    · simp only [List.length_cons, List.length_nil] at hl; (first | lia | omega)
    · exact PySem.W.binds_K KI rfl d3 rfl rfl rfl
    · simp only [List.length_cons] at hl; (first | lia | omega)
  have C_fraction_d0 : CalD l.prog w K mg base "fraction" 2 ["top", "bottom"] [] [] (sp_fracN) := ⟨⟨_, _, O_fraction, bd3_0, k3, PySem.W.mg_of X G a3⟩, .nil⟩
  have bd3_1 : Binds K (PySem.W.fnOf "fraction" "fraction" (defArgs s_fraction) (defBody s_fraction) (defScope s_fraction) (.ref dt3) kV3 dc3 pm3 an3 cd3 ct3) ["top", "bottom"] [.int 1 dtk3_0] := fun s us KI hl => by
    simp only [List.length_append, List.length_cons, List.length_nil] at hl
    rcases us with _ | ⟨u0, _ | ⟨ux, us⟩⟩
    · simp only [List.length_cons, List.length_nil] at hl; (first | lia | omega)
    · exact PySem.W.binds_K KI rfl d3 rfl rfl rfl
    · simp only [List.length_cons] at hl; (first | lia | omega)
  have C_fraction_d1 : CalD l.prog w K mg base "fraction" 2 ["top", "bottom"] [.int 1 dtk3_0] [(.int 1 : V)] (sp_fracN) := ⟨⟨_, _, O_fraction, bd3_1, k3, PySem.W.mg_of X G a3⟩, (.cons ⟨_, rfl⟩ .nil)⟩
  have C_plus : Cal l.prog w K mg base "plus" 2 ["one", "other"] (sp_plus) := ⟨_, _, ok_plus F4 T C_divisor, b4, k4, PySem.W.mg_of X G a4⟩
  have C_minus : Cal l.prog w K mg base "minus" 3 ["one", "other"] (sp_bin 8000 (· - ·)) := ⟨_, _, ok_minusQ F5 T C_plus, b5, k5, PySem.W.mg_of X G a5⟩
  have C_side : Cal l.prog w K mg base "side" 1 ["one"] (sp_side) := ⟨_, _, ok_side F6 T, b6, k6, PySem.W.mg_of X G a6⟩
  have C_shared_bottom : Cal l.prog w K mg base "shared_bottom" 2 ["figures"] (sp_shb4) := ⟨_, _, ok_shared_bottom F7 T C_divisor, b7, k7, PySem.W.mg_of X G a7⟩
  have C_whole_figures : Cal l.prog w K mg base "whole_figures" 1 ["one", "bottom"] (sp_whf4) := ⟨_, _, ok_whole_figures F8 T, b8, k8, PySem.W.mg_of X G a8⟩
  have C_over_one_bottom : Cal l.prog w K mg base "over_one_bottom" 3 ["one"] (sp_oob) := ⟨_, _, ok_over_one_bottom F9 T C_shared_bottom C_whole_figures, b9, k9, PySem.W.mg_of X G a9⟩
  have C_in_lowest_terms : Cal l.prog w K mg base "in_lowest_terms" 2 ["figures", "bottom"] (sp_ilt) := ⟨_, _, ok_in_lowest_terms F10 T C_divisor, b10, k10, PySem.W.mg_of X G a10⟩
  have C_quotient_at : Cal l.prog w K mg base "quotient_at" 4 ["place", "one", "other"] (sp_quotG) := ⟨_, _, ok_quotient_at F11 T C_fraction_d0 C_minus, b11, k11, PySem.W.mg_of X G a11⟩
  have C_rest_of : Cal l.prog w K mg base "rest_of" 3 ["one", "other"] (sp_restG) := ⟨_, _, ok_rest_of F12 T C_in_lowest_terms, b12, k12, PySem.W.mg_of X G a12⟩
  have C_is_fraction : Cal l.prog w K mg base "is_fraction" 2 ["thing"] (sp_frac) := ⟨_, _, ok_is_fraction F13 T C_is_whole C_divisor, b13, k13, PySem.W.mg_of X G a13⟩
  have C_is_row_above : Cal l.prog w K mg base "is_row_above" 3 ["thing"] (sp_row_above) := ⟨_, _, ok_is_row_above F14 T C_is_fraction C_side, b14, k14, PySem.W.mg_of X G a14⟩
  have C_NoCord_init : CalI l.prog w K mg base "NoCord" c_NoCord 1 ["self", "place"] (sp_noinit c_NoCord) := ⟨_, _, ⟨ei_NoCord, i15⟩, ek_NoCord, ok_NoCord_init F15 T R, b15, PySem.W.mg_of X G n_NoCord⟩
  have C_Cord_init : CalC l.prog w K mg base "Cord" o_Cord 4 ["self", "gaps", "weights"] (sp_init0 o_Cord) := ⟨_, _, ok_Cord_init0 F16 T O C_is_row_above, b16, ⟨mk_Cord, a16, i16, kc_Cord⟩, O.m⟩
  have O_ladder := ok_ladder (P := l.prog) (w := w) (base := base) F17.ex T R C_over_one_bottom C_quotient_at C_side C_rest_of C_NoCord_init
  have C_ladder : CalY l.prog w K mg base "ladder" 5 ["upper", "lower"] [] [] (sp_ladX c_NoCord) := ⟨⟨_, _, O_ladder, b17, k17, PySem.W.mg_of X G a17⟩, .nil⟩
  have O_cord_with := ok_cord_with (P := l.prog) (w := w) (base := base) F18.ex T R C_ladder C_Cord_init C_NoCord_init
  have C_cord_with : CalY l.prog w K mg base "cord_with" 6 ["upper", "lower"] [] [] (sp_cwB c_NoCord) := ⟨⟨_, _, O_cord_with, b18, k18, PySem.W.mg_of X G a18⟩, .nil⟩
  have C_law_cell_at : Cal l.prog w K mg base "_law_cell_at" 1 ["_law_script", "_law_k"] (sp_cell0 K) := ⟨_, _, ok_law_cell_at F19 T, b19, k19, PySem.W.mg_of X G a19⟩
  have C_law_low : Cal l.prog w K mg base "_law_low" 1 ["_law_top", "_law_bottom"] (sp_lowQ) := ⟨_, _, ok_law_low F20 T, b20, k20, PySem.W.mg_of X G a20⟩
  have C_law_twelfths : Cal l.prog w K mg base "_law_twelfths" 2 ["_law_cell", "_law_many"] (sp_twelfths) := ⟨_, _, ok_law_twelfths F21 T C_law_low, b21, k21, PySem.W.mg_of X G a21⟩
  have C_law_figures : Cal l.prog w K mg base "_law_figures" 3 ["_law_cell", "_law_many"] (sp_figs) := ⟨_, _, ok_law_figures F22 T C_law_low C_law_twelfths, b22, k22, PySem.W.mg_of X G a22⟩
  have C_law_refused : Cal l.prog w K mg base "_law_refused" 7 ["_law_upper", "_law_lower", "_law_whole"] (sp_ref53) := ⟨_, _, ok_law_refused F23 T R C_cord_with C_ladder, b23, k23, PySem.W.mg_of X G a23⟩
  exact ok_law F24 T C_law_cell_at C_law_figures C_law_refused C_ladder
theorem walk {l : PySem.W.OpenLaw} {q : Program} {loose : List Str} {XP : (Str → Option Value) → Heap → Prop} {YP : World → Heap → Prop} {d : DefRec} {K : Params → PySem.W.Frag} (hn : l.most = some 63) (hdf : d.params.defaults = [])
    (hY : ∀ (w : World) (h : Heap), YP w h → (K w.params).In h)
    (F : ∀ (w : World) (mg : Str → Option Value) (fa : Addr) (h : Heap), (K w.params).In h → h.Ns mainGlobals mg → mg d.name = some (.ref fa) →
      ∃ fd : FuncData, (∀ (s : Shared) (u : Value), BindsTo s fd ⟨[u], []⟩ [("_law_script", u)]) ∧ ∀ base : Heap, (K w.params).In base → base.Ns mainGlobals mg → FnOk l.prog w (K w.params) mg base CX0 8 fa fd ["_law_script"] (sp_law (K w.params))) :
    PySem.W.WalkO q loose XP YP l.row.toRowW d [] (fun f vs => PySem.call f vs) :=
  L2.walk_of (n := 63) (k := 8) (x := "_law_script") (CX := fun _ => CX0) (sp := fun w => sp_law (K w.params)) hn (by decide) hdf ⟨rfl, by decide, by decide⟩ hY F (fun _ _ a ns hl _ hS => ⟨a, ns, rfl, hS, hl, fun _ => rfl⟩) fun _ _ _ _ _ z => z
end My
namespace My
open PySem PySem.W L2
noncomputable abbrev tp : Program := PySem.Challenge.pw_tautcord_k53_no_ladder
noncomputable abbrev ke (P : Params) (x : Str) (n : Nat) (v : Value) : DictEntry := { hash := PyData.keyHash P x, key := .str x n, val := v }
noncomputable abbrev fo (x y : Str) (s : Stmt) (g : Addr) (m c : Value) : Obj := { cls := .type "function", data := .func { name := x, qualname := y, params := defArgs s, body := .stmts (defBody s), scope := defScope s, globals := g, closure := [], defaults := .none, kwdefaults := .none, pyModule := m, code := c } }
noncomputable abbrev tE : Obj := { cls := .type "tuple", data := .seq #[] }
noncomputable abbrev fE : Obj := { cls := .none, data := .fields #[] }
noncomputable def tL : Nat → List Str → List Value
  | _, [] => []
  | n, x :: xs => .str x n :: tL (n + 1) xs
noncomputable abbrev tS (n : Nat) (xs : List Str) : Obj := { cls := .type "tuple", data := .seq (Array.mk (tL n xs)) }
noncomputable abbrev pF (x y : Str) (s : Stmt) : Obj := { cls := .none, dict := none, data := .func { name := x, qualname := y, params := defArgs s, body := .stmts (defBody s), scope := defScope s, globals := 0, closure := [], defaults := .none, kwdefaults := .none, doc := .none, pyModule := .none, annotations := none, code := .none, closureTuple := .none, builtins := 0 }, slots := #[] }
noncomputable abbrev cO (x y : Str) (k l a b r m z : Nat) : Obj := { cls := .type "code", data := .fields #[.str x k, .str y (k + 1), .str "/claim/cut.py" (k + 2), .int l 0, .int a 0, .int 0 0, .int 0 0, .int b 0, .ref r, .bool Bool.true, .int 181 0, .ref (r + 1), .none, .ref (r + 2), .ref (r + 3), .ref (r + 4), .int m 0, .int l 0, .str "/claim/cut.py" z] }
noncomputable abbrev lf (o : Obj) : BT := .node o .nil .nil
noncomputable def q : Program := view tp [0, 2, 3, 4, 5, 6, 7, 8, 10, 11, 13, 15, 16, 17, 19, 20, 21, 23, 24, 26, 27, 28, 29, 30, 32, 34, 35, 36, 37, 38, 39]
noncomputable def bE : List Stmt := behindTheImports tp
noncomputable def eE : Env := { scope := tp.main.scope, locals := mainNs, globals := mainNs, cells := [], code := .ref 13, frame := some 14 }
noncomputable abbrev cE : Code := .body bE eE
noncomputable def u11_a (P : Params) : Obj := tE
noncomputable def u12_a (P : Params) : Obj := fE
noncomputable def u13_a (P : Params) : Obj := { cls := .type "code", data := .fields #[.str "<module>" 182, .str "<module>" 183, .str "/claim/cut.py" 184, .int 1 0, .int 0 0, .int 0 0, .int 0 0, .int 0 0, .ref 11, .bool Bool.false, .int 181 0, .ref 12, .none, .none, .none, .none, .int 185 0, .int 1 0, .str "/claim/cut.py" 186] }
noncomputable def u14_a (P : Params) : Obj := { cls := .type "frame", slots := #[some (.ref 13), some (.ref 3), some (.ref 3), none, some (.str "__main__" 164), none, some (.ref 0)] }
noncomputable def u3_1 (P : Params) : Obj := { cls := .type "dict", data := .dict #[ke P "__name__" 165 (.str "tautcord.errors" 194), ke P "__doc__" 166 .none, ke P "__package__" 167 .none, ke P "__loader__" 168 (.builtin "__main__.__loader__#opaque"), ke P "__spec__" 169 .none, ke P "__annotations__" 170 (.ref 6), ke P "__builtins__" 171 (.ref 4), ke P "__file__" 173 (.str "/claim/cut.py" 172), ke P "__cached__" 174 .none, ke P "_wall" 193 (.ref 21), ke P "CordError" 213 (.ref 31), ke P "NoFraction" 229 (.ref 44), ke P "NoCord" 254 (.ref 63), ke P "NoWorth" 270 (.ref 75)] 14 }
noncomputable def u12_1 (P : Params) : Obj := { cls := .none, data := .fields #[.int 1 0, .int 0 0, .ref 20, .int 5 0, .int 0 0, .ref 27, .int 7 0, .int 0 0, .ref 40, .int 9 0, .int 0 0, .ref 52, .int 13 0, .int 0 0, .ref 71] }
noncomputable def u15_1 (P : Params) : Obj := tE
noncomputable def u16_1 (P : Params) : Obj := fE
noncomputable def u17_1 (P : Params) : Obj := tS 190 ["k"]
noncomputable def u18_1 (P : Params) : Obj := tE
noncomputable def u19_1 (P : Params) : Obj := pF "_wall" "_wall" (top 0)
noncomputable def u20_1 (P : Params) : Obj := cO "_wall" "_wall" 187 1 1 3 15 191 192
noncomputable def u21_1 (P : Params) : Obj := fo "_wall" "_wall" (top 0) 3 (.str "__main__" 164) (.ref 20)
noncomputable def u22_1 (P : Params) : Obj := { cls := .type "tuple", data := .seq #[.type "ValueError"] }
noncomputable def u23_1 (P : Params) : Obj := { cls := .type "builtin_function_or_method", data := .fields #[.builtin "type.__prepare__", .type "type"] }
noncomputable def u24_1 (P : Params) : Obj := { cls := .type "dict", data := .dict #[ke P "__module__" 203 (.str "tautcord.errors" 194), ke P "__qualname__" 205 (.str "CordError" 204), ke P "__firstlineno__" 207 (.int 5 206), ke P "__static_attributes__" 208 (.ref 29)] 4 }
noncomputable def u25_1 (P : Params) : Obj := tE
noncomputable def u26_1 (P : Params) : Obj := fE
noncomputable def u27_1 (P : Params) : Obj := { cls := .type "code", data := .fields #[.str "CordError" 198, .str "CordError" 199, .str "/claim/cut.py" 200, .int 5 0, .int 0 0, .int 0 0, .int 0 0, .int 0 0, .ref 25, .bool Bool.false, .int 181 0, .ref 26, .none, .none, .none, .none, .int 201 0, .int 5 0, .str "/claim/cut.py" 202] }
noncomputable def u28_1 (P : Params) : Obj := { cls := .type "frame", slots := #[some (.ref 27), some (.ref 3), some (.ref 24), none, some (.str "tautcord.errors" 194), none, some (.ref 0)] }
noncomputable def u29_1 (P : Params) : Obj := tE
noncomputable def u30_1 (P : Params) : Obj := { cls := .type "dict", data := .dict #[ke P "__module__" 203 (.str "tautcord.errors" 194), ke P "__firstlineno__" 207 (.int 5 206), ke P "__static_attributes__" 208 (.ref 29), ke P "__weakref__" 210 (.ref 32), ke P "__doc__" 211 .none] 3 }
noncomputable def u31_1 (P : Params) : Obj := { cls := .type "type", data := .cls { name := "CordError", bases := [.type "ValueError"], mro := [.ref 31, .type "ValueError", .type "Exception", .type "BaseException", .type "object"], ns := 30, qualname := "CordError", subclasses := [.ref 44, .ref 63, .ref 75] }, slots := #[some (.ref 22), none, some (.str "CordError" 196), some (.str "CordError" 204), some (.builtin "ValueError.__new__"), some (.bool Bool.true)] }
noncomputable def u32_1 (P : Params) : Obj := { cls := .type "getset_descriptor", data := .fields #[.str "__weakref__" 209, .ref 31, .builtin "ExceptionGroup.__weakref__", .none] }
noncomputable def u33_1 (P : Params) : Obj := { cls := .type "super", data := .fields #[.ref 31, .ref 31, .ref 31] }
noncomputable def u34_1 (P : Params) : Obj := { cls := .type "builtin_function_or_method", data := .fields #[.builtin "object.__init_subclass__", .ref 31] }
noncomputable def u35_1 (P : Params) : Obj := { cls := .type "tuple", data := .seq #[.ref 31] }
noncomputable def u36_1 (P : Params) : Obj := { cls := .type "builtin_function_or_method", data := .fields #[.builtin "type.__prepare__", .type "type"] }
noncomputable def u37_1 (P : Params) : Obj := { cls := .type "dict", data := .dict #[ke P "__module__" 221 (.str "tautcord.errors" 194), ke P "__qualname__" 223 (.str "NoFraction" 222), ke P "__firstlineno__" 225 (.int 7 224), ke P "__static_attributes__" 226 (.ref 42)] 4 }
noncomputable def u38_1 (P : Params) : Obj := tE
noncomputable def u39_1 (P : Params) : Obj := fE
noncomputable def u40_1 (P : Params) : Obj := { cls := .type "code", data := .fields #[.str "NoFraction" 216, .str "NoFraction" 217, .str "/claim/cut.py" 218, .int 7 0, .int 0 0, .int 0 0, .int 0 0, .int 0 0, .ref 38, .bool Bool.false, .int 181 0, .ref 39, .none, .none, .none, .none, .int 219 0, .int 7 0, .str "/claim/cut.py" 220] }
noncomputable def u41_1 (P : Params) : Obj := { cls := .type "frame", slots := #[some (.ref 40), some (.ref 3), some (.ref 37), none, some (.str "tautcord.errors" 194), none, some (.ref 0)] }
noncomputable def u42_1 (P : Params) : Obj := tE
noncomputable def u43_1 (P : Params) : Obj := { cls := .type "dict", data := .dict #[ke P "__module__" 221 (.str "tautcord.errors" 194), ke P "__firstlineno__" 225 (.int 7 224), ke P "__static_attributes__" 226 (.ref 42), ke P "__doc__" 227 .none] 2 }
noncomputable def u44_1 (P : Params) : Obj := { cls := .type "type", data := .cls { name := "NoFraction", bases := [.ref 31], mro := [.ref 44, .ref 31, .type "ValueError", .type "Exception", .type "BaseException", .type "object"], ns := 43, qualname := "NoFraction" }, slots := #[some (.ref 35), none, some (.str "NoFraction" 214), some (.str "NoFraction" 222), some (.builtin "ValueError.__new__"), some (.bool Bool.true)] }
noncomputable def u45_1 (P : Params) : Obj := { cls := .type "super", data := .fields #[.ref 44, .ref 44, .ref 44] }
noncomputable def u46_1 (P : Params) : Obj := { cls := .type "builtin_function_or_method", data := .fields #[.builtin "object.__init_subclass__", .ref 44] }
noncomputable def u47_1 (P : Params) : Obj := { cls := .type "tuple", data := .seq #[.ref 31] }
noncomputable def u48_1 (P : Params) : Obj := { cls := .type "builtin_function_or_method", data := .fields #[.builtin "type.__prepare__", .type "type"] }
noncomputable def u49_1 (P : Params) : Obj := { cls := .type "dict", data := .dict #[ke P "__module__" 237 (.str "tautcord.errors" 194), ke P "__qualname__" 239 (.str "NoCord" 238), ke P "__firstlineno__" 241 (.int 9 240), ke P "__init__" 249 (.ref 60), ke P "__static_attributes__" 251 (.ref 61)] 5 }
noncomputable def u50_1 (P : Params) : Obj := tE
noncomputable def u51_1 (P : Params) : Obj := { cls := .none, data := .fields #[.int 11 0, .int 4 0, .ref 59] }
noncomputable def u52_1 (P : Params) : Obj := { cls := .type "code", data := .fields #[.str "NoCord" 232, .str "NoCord" 233, .str "/claim/cut.py" 234, .int 9 0, .int 0 0, .int 0 0, .int 0 0, .int 0 0, .ref 50, .bool Bool.false, .int 181 0, .ref 51, .none, .none, .none, .none, .int 235 0, .int 9 0, .str "/claim/cut.py" 236] }
noncomputable def u53_1 (P : Params) : Obj := { cls := .type "frame", slots := #[some (.ref 52), some (.ref 3), some (.ref 49), none, some (.str "tautcord.errors" 194), none, some (.ref 0)] }
noncomputable def u54_1 (P : Params) : Obj := tE
noncomputable def u55_1 (P : Params) : Obj := fE
noncomputable def u56_1 (P : Params) : Obj := tS 245 ["self", "place"]
noncomputable def u57_1 (P : Params) : Obj := tE
noncomputable def u58_1 (P : Params) : Obj := pF "__init__" "NoCord.__init__" (inClass (top 4) 0)
noncomputable def u59_1 (P : Params) : Obj := cO "__init__" "NoCord.__init__" 242 11 2 3 54 247 248
noncomputable def u60_1 (P : Params) : Obj := fo "__init__" "NoCord.__init__" (inClass (top 4) 0) 3 (.str "tautcord.errors" 194) (.ref 59)
noncomputable def u61_1 (P : Params) : Obj := tS 250 ["place"]
noncomputable def u62_1 (P : Params) : Obj := { cls := .type "dict", data := .dict #[ke P "__module__" 237 (.str "tautcord.errors" 194), ke P "__firstlineno__" 241 (.int 9 240), ke P "__init__" 249 (.ref 60), ke P "__static_attributes__" 251 (.ref 61), ke P "__doc__" 252 .none] 2 }
noncomputable def u63_1 (P : Params) : Obj := { cls := .type "type", data := .cls { name := "NoCord", bases := [.ref 31], mro := [.ref 63, .ref 31, .type "ValueError", .type "Exception", .type "BaseException", .type "object"], ns := 62, qualname := "NoCord" }, slots := #[some (.ref 47), none, some (.str "NoCord" 230), some (.str "NoCord" 238), some (.builtin "ValueError.__new__"), some (.bool Bool.true)] }
noncomputable def u64_1 (P : Params) : Obj := { cls := .type "super", data := .fields #[.ref 63, .ref 63, .ref 63] }
noncomputable def u65_1 (P : Params) : Obj := { cls := .type "builtin_function_or_method", data := .fields #[.builtin "object.__init_subclass__", .ref 63] }
noncomputable def u66_1 (P : Params) : Obj := { cls := .type "tuple", data := .seq #[.ref 31] }
noncomputable def u67_1 (P : Params) : Obj := { cls := .type "builtin_function_or_method", data := .fields #[.builtin "type.__prepare__", .type "type"] }
noncomputable def u68_1 (P : Params) : Obj := { cls := .type "dict", data := .dict #[ke P "__module__" 262 (.str "tautcord.errors" 194), ke P "__qualname__" 264 (.str "NoWorth" 263), ke P "__firstlineno__" 266 (.int 13 265), ke P "__static_attributes__" 267 (.ref 73)] 4 }
noncomputable def u69_1 (P : Params) : Obj := tE
noncomputable def u70_1 (P : Params) : Obj := fE
noncomputable def u71_1 (P : Params) : Obj := { cls := .type "code", data := .fields #[.str "NoWorth" 257, .str "NoWorth" 258, .str "/claim/cut.py" 259, .int 13 0, .int 0 0, .int 0 0, .int 0 0, .int 0 0, .ref 69, .bool Bool.false, .int 181 0, .ref 70, .none, .none, .none, .none, .int 260 0, .int 13 0, .str "/claim/cut.py" 261] }
noncomputable def u72_1 (P : Params) : Obj := { cls := .type "frame", slots := #[some (.ref 71), some (.ref 3), some (.ref 68), none, some (.str "tautcord.errors" 194), none, some (.ref 0)] }
noncomputable def u73_1 (P : Params) : Obj := tE
noncomputable def u74_1 (P : Params) : Obj := { cls := .type "dict", data := .dict #[ke P "__module__" 262 (.str "tautcord.errors" 194), ke P "__firstlineno__" 266 (.int 13 265), ke P "__static_attributes__" 267 (.ref 73), ke P "__doc__" 268 .none] 2 }
noncomputable def u75_1 (P : Params) : Obj := { cls := .type "type", data := .cls { name := "NoWorth", bases := [.ref 31], mro := [.ref 75, .ref 31, .type "ValueError", .type "Exception", .type "BaseException", .type "object"], ns := 74, qualname := "NoWorth" }, slots := #[some (.ref 66), none, some (.str "NoWorth" 255), some (.str "NoWorth" 263), some (.builtin "ValueError.__new__"), some (.bool Bool.true)] }
noncomputable def u76_1 (P : Params) : Obj := { cls := .type "super", data := .fields #[.ref 75, .ref 75, .ref 75] }
noncomputable def u77_1 (P : Params) : Obj := { cls := .type "builtin_function_or_method", data := .fields #[.builtin "object.__init_subclass__", .ref 75] }
noncomputable def u3_2 (P : Params) : Obj := { cls := .type "dict", data := .dict #[ke P "__name__" 165 (.str "tautcord.cords" 384), ke P "__doc__" 166 .none, ke P "__package__" 167 .none, ke P "__loader__" 168 (.builtin "__main__.__loader__#opaque"), ke P "__spec__" 169 .none, ke P "__annotations__" 170 (.ref 6), ke P "__builtins__" 171 (.ref 4), ke P "__file__" 173 (.str "/claim/cut.py" 172), ke P "__cached__" 174 .none, ke P "_wall" 193 (.ref 21), ke P "CordError" 213 (.ref 31), ke P "NoFraction" 229 (.ref 44), ke P "NoCord" 254 (.ref 63), ke P "NoWorth" 270 (.ref 75), ke P "NoBead" 286 (.ref 87), ke P "NoText" 302 (.ref 99), ke P "NoName" 318 (.ref 111), ke P "is_whole" 327 (.ref 120), ke P "divisor" 338 (.ref 127), ke P "is_fraction" 347 (.ref 134), ke P "fraction" 357 (.ref 142), ke P "plus" 368 (.ref 149), ke P "minus" 376 (.ref 156), ke P "side" 383 (.ref 163), ke P "MOST_BEADS" 387 (.int 12 386), ke P "is_row_above" 393 (.ref 168)] 26 }
noncomputable def u12_2 (P : Params) : Obj := { cls := .none, data := .fields #[.int 1 0, .int 0 0, .ref 20, .int 5 0, .int 0 0, .ref 27, .int 7 0, .int 0 0, .ref 40, .int 9 0, .int 0 0, .ref 52, .int 13 0, .int 0 0, .ref 71, .int 15 0, .int 0 0, .ref 83, .int 17 0, .int 0 0, .ref 95, .int 19 0, .int 0 0, .ref 107, .int 22 0, .int 0 0, .ref 119, .int 24 0, .int 0 0, .ref 126, .int 33 0, .int 0 0, .ref 133, .int 39 0, .int 0 0, .ref 141, .int 48 0, .int 0 0, .ref 148, .int 53 0, .int 0 0, .ref 155, .int 55 0, .int 0 0, .ref 162, .int 63 0, .int 0 0, .ref 167] }
noncomputable def u31_2 (P : Params) : Obj := { cls := .type "type", data := .cls { name := "CordError", bases := [.type "ValueError"], mro := [.ref 31, .type "ValueError", .type "Exception", .type "BaseException", .type "object"], ns := 30, qualname := "CordError", subclasses := [.ref 44, .ref 63, .ref 75, .ref 87, .ref 99, .ref 111] }, slots := #[some (.ref 22), none, some (.str "CordError" 196), some (.str "CordError" 204), some (.builtin "ValueError.__new__"), some (.bool Bool.true)] }
noncomputable def u78_2 (P : Params) : Obj := { cls := .type "tuple", data := .seq #[.ref 31] }
noncomputable def u79_2 (P : Params) : Obj := { cls := .type "builtin_function_or_method", data := .fields #[.builtin "type.__prepare__", .type "type"] }
noncomputable def u80_2 (P : Params) : Obj := { cls := .type "dict", data := .dict #[ke P "__module__" 278 (.str "tautcord.errors" 194), ke P "__qualname__" 280 (.str "NoBead" 279), ke P "__firstlineno__" 282 (.int 15 281), ke P "__static_attributes__" 283 (.ref 85)] 4 }
noncomputable def u81_2 (P : Params) : Obj := tE
noncomputable def u82_2 (P : Params) : Obj := fE
noncomputable def u83_2 (P : Params) : Obj := { cls := .type "code", data := .fields #[.str "NoBead" 273, .str "NoBead" 274, .str "/claim/cut.py" 275, .int 15 0, .int 0 0, .int 0 0, .int 0 0, .int 0 0, .ref 81, .bool Bool.false, .int 181 0, .ref 82, .none, .none, .none, .none, .int 276 0, .int 15 0, .str "/claim/cut.py" 277] }
noncomputable def u84_2 (P : Params) : Obj := { cls := .type "frame", slots := #[some (.ref 83), some (.ref 3), some (.ref 80), none, some (.str "tautcord.errors" 194), none, some (.ref 0)] }
noncomputable def u85_2 (P : Params) : Obj := tE
noncomputable def u86_2 (P : Params) : Obj := { cls := .type "dict", data := .dict #[ke P "__module__" 278 (.str "tautcord.errors" 194), ke P "__firstlineno__" 282 (.int 15 281), ke P "__static_attributes__" 283 (.ref 85), ke P "__doc__" 284 .none] 2 }
noncomputable def u87_2 (P : Params) : Obj := { cls := .type "type", data := .cls { name := "NoBead", bases := [.ref 31], mro := [.ref 87, .ref 31, .type "ValueError", .type "Exception", .type "BaseException", .type "object"], ns := 86, qualname := "NoBead" }, slots := #[some (.ref 78), none, some (.str "NoBead" 271), some (.str "NoBead" 279), some (.builtin "ValueError.__new__"), some (.bool Bool.true)] }
noncomputable def u88_2 (P : Params) : Obj := { cls := .type "super", data := .fields #[.ref 87, .ref 87, .ref 87] }
noncomputable def u89_2 (P : Params) : Obj := { cls := .type "builtin_function_or_method", data := .fields #[.builtin "object.__init_subclass__", .ref 87] }
noncomputable def u90_2 (P : Params) : Obj := { cls := .type "tuple", data := .seq #[.ref 31] }
noncomputable def u91_2 (P : Params) : Obj := { cls := .type "builtin_function_or_method", data := .fields #[.builtin "type.__prepare__", .type "type"] }
noncomputable def u92_2 (P : Params) : Obj := { cls := .type "dict", data := .dict #[ke P "__module__" 294 (.str "tautcord.errors" 194), ke P "__qualname__" 296 (.str "NoText" 295), ke P "__firstlineno__" 298 (.int 17 297), ke P "__static_attributes__" 299 (.ref 97)] 4 }
noncomputable def u93_2 (P : Params) : Obj := tE
noncomputable def u94_2 (P : Params) : Obj := fE
noncomputable def u95_2 (P : Params) : Obj := { cls := .type "code", data := .fields #[.str "NoText" 289, .str "NoText" 290, .str "/claim/cut.py" 291, .int 17 0, .int 0 0, .int 0 0, .int 0 0, .int 0 0, .ref 93, .bool Bool.false, .int 181 0, .ref 94, .none, .none, .none, .none, .int 292 0, .int 17 0, .str "/claim/cut.py" 293] }
noncomputable def u96_2 (P : Params) : Obj := { cls := .type "frame", slots := #[some (.ref 95), some (.ref 3), some (.ref 92), none, some (.str "tautcord.errors" 194), none, some (.ref 0)] }
noncomputable def u97_2 (P : Params) : Obj := tE
noncomputable def u98_2 (P : Params) : Obj := { cls := .type "dict", data := .dict #[ke P "__module__" 294 (.str "tautcord.errors" 194), ke P "__firstlineno__" 298 (.int 17 297), ke P "__static_attributes__" 299 (.ref 97), ke P "__doc__" 300 .none] 2 }
noncomputable def u99_2 (P : Params) : Obj := { cls := .type "type", data := .cls { name := "NoText", bases := [.ref 31], mro := [.ref 99, .ref 31, .type "ValueError", .type "Exception", .type "BaseException", .type "object"], ns := 98, qualname := "NoText" }, slots := #[some (.ref 90), none, some (.str "NoText" 287), some (.str "NoText" 295), some (.builtin "ValueError.__new__"), some (.bool Bool.true)] }
noncomputable def u100_2 (P : Params) : Obj := { cls := .type "super", data := .fields #[.ref 99, .ref 99, .ref 99] }
noncomputable def u101_2 (P : Params) : Obj := { cls := .type "builtin_function_or_method", data := .fields #[.builtin "object.__init_subclass__", .ref 99] }
noncomputable def u102_2 (P : Params) : Obj := { cls := .type "tuple", data := .seq #[.ref 31] }
noncomputable def u103_2 (P : Params) : Obj := { cls := .type "builtin_function_or_method", data := .fields #[.builtin "type.__prepare__", .type "type"] }
noncomputable def u104_2 (P : Params) : Obj := { cls := .type "dict", data := .dict #[ke P "__module__" 310 (.str "tautcord.errors" 194), ke P "__qualname__" 312 (.str "NoName" 311), ke P "__firstlineno__" 314 (.int 19 313), ke P "__static_attributes__" 315 (.ref 109)] 4 }
noncomputable def u105_2 (P : Params) : Obj := tE
noncomputable def u106_2 (P : Params) : Obj := fE
noncomputable def u107_2 (P : Params) : Obj := { cls := .type "code", data := .fields #[.str "NoName" 305, .str "NoName" 306, .str "/claim/cut.py" 307, .int 19 0, .int 0 0, .int 0 0, .int 0 0, .int 0 0, .ref 105, .bool Bool.false, .int 181 0, .ref 106, .none, .none, .none, .none, .int 308 0, .int 19 0, .str "/claim/cut.py" 309] }
noncomputable def u108_2 (P : Params) : Obj := { cls := .type "frame", slots := #[some (.ref 107), some (.ref 3), some (.ref 104), none, some (.str "tautcord.errors" 194), none, some (.ref 0)] }
noncomputable def u109_2 (P : Params) : Obj := tE
noncomputable def u110_2 (P : Params) : Obj := { cls := .type "dict", data := .dict #[ke P "__module__" 310 (.str "tautcord.errors" 194), ke P "__firstlineno__" 314 (.int 19 313), ke P "__static_attributes__" 315 (.ref 109), ke P "__doc__" 316 .none] 2 }
noncomputable def u111_2 (P : Params) : Obj := { cls := .type "type", data := .cls { name := "NoName", bases := [.ref 31], mro := [.ref 111, .ref 31, .type "ValueError", .type "Exception", .type "BaseException", .type "object"], ns := 110, qualname := "NoName" }, slots := #[some (.ref 102), none, some (.str "NoName" 303), some (.str "NoName" 311), some (.builtin "ValueError.__new__"), some (.bool Bool.true)] }
noncomputable def u112_2 (P : Params) : Obj := { cls := .type "super", data := .fields #[.ref 111, .ref 111, .ref 111] }
noncomputable def u113_2 (P : Params) : Obj := { cls := .type "builtin_function_or_method", data := .fields #[.builtin "object.__init_subclass__", .ref 111] }
noncomputable def u114_2 (P : Params) : Obj := tE
noncomputable def u115_2 (P : Params) : Obj := fE
noncomputable def u116_2 (P : Params) : Obj := tS 324 ["thing"]
noncomputable def u117_2 (P : Params) : Obj := tE
noncomputable def u118_2 (P : Params) : Obj := pF "is_whole" "is_whole" (top 10)
noncomputable def u119_2 (P : Params) : Obj := cO "is_whole" "is_whole" 321 22 1 3 114 325 326
noncomputable def u120_2 (P : Params) : Obj := fo "is_whole" "is_whole" (top 10) 3 (.str "tautcord.wholes" 319) (.ref 119)
noncomputable def u121_2 (P : Params) : Obj := tE
noncomputable def u122_2 (P : Params) : Obj := fE
noncomputable def u123_2 (P : Params) : Obj := tS 331 ["one", "other", "first", "second", "rest"]
noncomputable def u124_2 (P : Params) : Obj := tE
noncomputable def u125_2 (P : Params) : Obj := pF "divisor" "divisor" (top 11)
noncomputable def u126_2 (P : Params) : Obj := cO "divisor" "divisor" 328 24 2 3 121 336 337
noncomputable def u127_2 (P : Params) : Obj := fo "divisor" "divisor" (top 11) 3 (.str "tautcord.wholes" 319) (.ref 126)
noncomputable def u128_2 (P : Params) : Obj := tE
noncomputable def u129_2 (P : Params) : Obj := fE
noncomputable def u130_2 (P : Params) : Obj := tS 344 ["thing"]
noncomputable def u131_2 (P : Params) : Obj := tE
noncomputable def u132_2 (P : Params) : Obj := pF "is_fraction" "is_fraction" (top 13)
noncomputable def u133_2 (P : Params) : Obj := cO "is_fraction" "is_fraction" 341 33 1 3 128 345 346
noncomputable def u134_2 (P : Params) : Obj := fo "is_fraction" "is_fraction" (top 13) 3 (.str "tautcord.ratios" 339) (.ref 133)
noncomputable def u135_2 (P : Params) : Obj := { cls := .type "tuple", data := .seq #[.int 1 348] }
noncomputable def u136_2 (P : Params) : Obj := tE
noncomputable def u137_2 (P : Params) : Obj := fE
noncomputable def u138_2 (P : Params) : Obj := tS 352 ["top", "bottom", "shared"]
noncomputable def u139_2 (P : Params) : Obj := tE
noncomputable def u140_2 (P : Params) : Obj := pF "fraction" "fraction" (top 14)
noncomputable def u141_2 (P : Params) : Obj := cO "fraction" "fraction" 349 39 2 3 136 355 356
noncomputable def u142_2 (P : Params) : Obj := { cls := .type "function", dict := none, data := .func { name := "fraction", qualname := "fraction", params := defArgs (top 14), body := .stmts (defBody (top 14)), scope := defScope (top 14), globals := 3, closure := [], defaults := .ref 135, kwdefaults := .none, doc := .none, pyModule := .str "tautcord.ratios" 339, annotations := none, code := .ref 141, closureTuple := .none, builtins := 0 }, slots := #[] }
noncomputable def u143_2 (P : Params) : Obj := tE
noncomputable def u144_2 (P : Params) : Obj := fE
noncomputable def u145_2 (P : Params) : Obj := tS 361 ["one", "other", "shared", "top", "left"]
noncomputable def u146_2 (P : Params) : Obj := tE
noncomputable def u147_2 (P : Params) : Obj := pF "plus" "plus" (top 15)
noncomputable def u148_2 (P : Params) : Obj := cO "plus" "plus" 358 48 2 3 143 366 367
noncomputable def u149_2 (P : Params) : Obj := fo "plus" "plus" (top 15) 3 (.str "tautcord.ratios" 339) (.ref 148)
noncomputable def u150_2 (P : Params) : Obj := tE
noncomputable def u151_2 (P : Params) : Obj := fE
noncomputable def u152_2 (P : Params) : Obj := tS 372 ["one", "other"]
noncomputable def u153_2 (P : Params) : Obj := tE
noncomputable def u154_2 (P : Params) : Obj := pF "minus" "minus" (top 16)
noncomputable def u155_2 (P : Params) : Obj := cO "minus" "minus" 369 53 2 3 150 374 375
noncomputable def u156_2 (P : Params) : Obj := fo "minus" "minus" (top 16) 3 (.str "tautcord.ratios" 339) (.ref 155)
noncomputable def u157_2 (P : Params) : Obj := tE
noncomputable def u158_2 (P : Params) : Obj := fE
noncomputable def u159_2 (P : Params) : Obj := tS 380 ["one"]
noncomputable def u160_2 (P : Params) : Obj := tE
noncomputable def u161_2 (P : Params) : Obj := pF "side" "side" (top 17)
noncomputable def u162_2 (P : Params) : Obj := cO "side" "side" 377 55 1 3 157 381 382
noncomputable def u163_2 (P : Params) : Obj := fo "side" "side" (top 17) 3 (.str "tautcord.ratios" 339) (.ref 162)
noncomputable def u164_2 (P : Params) : Obj := tE
noncomputable def u165_2 (P : Params) : Obj := fE
noncomputable def u166_2 (P : Params) : Obj := pF "is_row_above" "is_row_above" (top 20)
noncomputable def u167_2 (P : Params) : Obj := { cls := .type "code", data := .fields #[.str "is_row_above" 388, .str "is_row_above" 389, .str "/claim/cut.py" 390, .int 63 0, .int 1 0, .int 0 0, .int 0 0, .int 3 0, .ref 164, .bool Bool.true, .int 181 0, .ref 165, .none, .none, .none, .ref 166, .int 391 0, .int 63 0, .str "/claim/cut.py" 392] }
noncomputable def u168_2 (P : Params) : Obj := fo "is_row_above" "is_row_above" (top 20) 3 (.str "tautcord.cords" 384) (.ref 167)
noncomputable def u3_3 (P : Params) : Obj := { cls := .type "dict", data := .dict #[ke P "__name__" 165 (.str "law_tautcord_k53_no_ladder" 537), ke P "__doc__" 166 .none, ke P "__package__" 167 .none, ke P "__loader__" 168 (.builtin "__main__.__loader__#opaque"), ke P "__spec__" 169 .none, ke P "__annotations__" 170 (.ref 6), ke P "__builtins__" 171 (.ref 4), ke P "__file__" 173 (.str "/claim/cut.py" 172), ke P "__cached__" 174 .none, ke P "_wall" 193 (.ref 21), ke P "CordError" 213 (.ref 31), ke P "NoFraction" 229 (.ref 44), ke P "NoCord" 254 (.ref 63), ke P "NoWorth" 270 (.ref 75), ke P "NoBead" 286 (.ref 87), ke P "NoText" 302 (.ref 99), ke P "NoName" 318 (.ref 111), ke P "is_whole" 327 (.ref 120), ke P "divisor" 338 (.ref 127), ke P "is_fraction" 347 (.ref 134), ke P "fraction" 357 (.ref 142), ke P "plus" 368 (.ref 149), ke P "minus" 376 (.ref 156), ke P "side" 383 (.ref 163), ke P "MOST_BEADS" 387 (.int 12 386), ke P "is_row_above" 393 (.ref 168), ke P "Cord" 459 (.ref 220), ke P "shared_bottom" 470 (.ref 231), ke P "whole_figures" 476 (.ref 236), ke P "ladder" 492 (.ref 243), ke P "over_one_bottom" 500 (.ref 250), ke P "quotient_at" 512 (.ref 257), ke P "rest_of" 518 (.ref 262), ke P "in_lowest_terms" 524 (.ref 267), ke P "cord_with" 536 (.ref 274), ke P "_law_cell_at" 546 (.ref 281), ke P "_law_low" 557 (.ref 288), ke P "_law_twelfths" 569 (.ref 295), ke P "_law_figures" 575 (.ref 300), ke P "_law_refused" 585 (.ref 307), ke P "law" 599 (.ref 314)] 41 }
noncomputable def u12_3 (P : Params) : Obj := { cls := .none, data := .fields #[.int 1 0, .int 0 0, .ref 20, .int 5 0, .int 0 0, .ref 27, .int 7 0, .int 0 0, .ref 40, .int 9 0, .int 0 0, .ref 52, .int 13 0, .int 0 0, .ref 71, .int 15 0, .int 0 0, .ref 83, .int 17 0, .int 0 0, .ref 95, .int 19 0, .int 0 0, .ref 107, .int 22 0, .int 0 0, .ref 119, .int 24 0, .int 0 0, .ref 126, .int 33 0, .int 0 0, .ref 133, .int 39 0, .int 0 0, .ref 141, .int 48 0, .int 0 0, .ref 148, .int 53 0, .int 0 0, .ref 155, .int 55 0, .int 0 0, .ref 162, .int 63 0, .int 0 0, .ref 167, .int 67 0, .int 0 0, .ref 174, .int 92 0, .int 0 0, .ref 230, .int 97 0, .int 0 0, .ref 235, .int 100 0, .int 0 0, .ref 242, .int 117 0, .int 0 0, .ref 249, .int 120 0, .int 0 0, .ref 256, .int 129 0, .int 0 0, .ref 261, .int 136 0, .int 0 0, .ref 266, .int 142 0, .int 0 0, .ref 273, .int 149 0, .int 0 0, .ref 280, .int 153 0, .int 0 0, .ref 287, .int 163 0, .int 0 0, .ref 294, .int 173 0, .int 0 0, .ref 299, .int 178 0, .int 0 0, .ref 306, .int 189 0, .int 0 0, .ref 313] }
noncomputable def u169_3 (P : Params) : Obj := tE
noncomputable def u170_3 (P : Params) : Obj := { cls := .type "builtin_function_or_method", data := .fields #[.builtin "type.__prepare__", .type "type"] }
noncomputable def u171_3 (P : Params) : Obj := { cls := .type "dict", data := .dict #[ke P "__module__" 401 (.str "tautcord.cords" 384), ke P "__qualname__" 403 (.str "Cord" 402), ke P "__firstlineno__" 405 (.int 67 404), ke P "__init__" 414 (.ref 182), ke P "gaps" 421 (.ref 189), ke P "weights" 428 (.ref 196), ke P "beads" 435 (.ref 203), ke P "length" 442 (.ref 210), ke P "turned" 449 (.ref 217), ke P "__static_attributes__" 452 (.ref 218)] 10 }
noncomputable def u172_3 (P : Params) : Obj := tE
noncomputable def u173_3 (P : Params) : Obj := { cls := .none, data := .fields #[.int 69 0, .int 4 0, .ref 181, .int 77 0, .int 4 0, .ref 188, .int 80 0, .int 4 0, .ref 195, .int 83 0, .int 4 0, .ref 202, .int 86 0, .int 4 0, .ref 209, .int 89 0, .int 4 0, .ref 216] }
noncomputable def u174_3 (P : Params) : Obj := { cls := .type "code", data := .fields #[.str "Cord" 396, .str "Cord" 397, .str "/claim/cut.py" 398, .int 67 0, .int 0 0, .int 0 0, .int 0 0, .int 0 0, .ref 172, .bool Bool.false, .int 181 0, .ref 173, .none, .none, .none, .none, .int 399 0, .int 67 0, .str "/claim/cut.py" 400] }
noncomputable def u175_3 (P : Params) : Obj := { cls := .type "frame", slots := #[some (.ref 174), some (.ref 3), some (.ref 171), none, some (.str "tautcord.cords" 384), none, some (.ref 0)] }
noncomputable def u176_3 (P : Params) : Obj := tE
noncomputable def u177_3 (P : Params) : Obj := fE
noncomputable def u178_3 (P : Params) : Obj := tS 409 ["self", "gaps", "weights"]
noncomputable def u179_3 (P : Params) : Obj := tE
noncomputable def u180_3 (P : Params) : Obj := pF "__init__" "Cord.__init__" (inClass (top 21) 0)
noncomputable def u181_3 (P : Params) : Obj := cO "__init__" "Cord.__init__" 406 69 3 3 176 412 413
noncomputable def u182_3 (P : Params) : Obj := fo "__init__" "Cord.__init__" (inClass (top 21) 0) 3 (.str "tautcord.cords" 384) (.ref 181)
noncomputable def u183_3 (P : Params) : Obj := tE
noncomputable def u184_3 (P : Params) : Obj := fE
noncomputable def u185_3 (P : Params) : Obj := tS 418 ["self"]
noncomputable def u186_3 (P : Params) : Obj := tE
noncomputable def u187_3 (P : Params) : Obj := pF "gaps" "Cord.gaps" (inClass (top 21) 1)
noncomputable def u188_3 (P : Params) : Obj := cO "gaps" "Cord.gaps" 415 77 1 3 183 419 420
noncomputable def u189_3 (P : Params) : Obj := fo "gaps" "Cord.gaps" (inClass (top 21) 1) 3 (.str "tautcord.cords" 384) (.ref 188)
noncomputable def u190_3 (P : Params) : Obj := tE
noncomputable def u191_3 (P : Params) : Obj := fE
noncomputable def u192_3 (P : Params) : Obj := tS 425 ["self"]
noncomputable def u193_3 (P : Params) : Obj := tE
noncomputable def u194_3 (P : Params) : Obj := pF "weights" "Cord.weights" (inClass (top 21) 2)
noncomputable def u195_3 (P : Params) : Obj := cO "weights" "Cord.weights" 422 80 1 3 190 426 427
noncomputable def u196_3 (P : Params) : Obj := fo "weights" "Cord.weights" (inClass (top 21) 2) 3 (.str "tautcord.cords" 384) (.ref 195)
noncomputable def u197_3 (P : Params) : Obj := tE
noncomputable def u198_3 (P : Params) : Obj := fE
noncomputable def u199_3 (P : Params) : Obj := tS 432 ["self"]
noncomputable def u200_3 (P : Params) : Obj := tE
noncomputable def u201_3 (P : Params) : Obj := pF "beads" "Cord.beads" (inClass (top 21) 3)
noncomputable def u202_3 (P : Params) : Obj := cO "beads" "Cord.beads" 429 83 1 3 197 433 434
noncomputable def u203_3 (P : Params) : Obj := fo "beads" "Cord.beads" (inClass (top 21) 3) 3 (.str "tautcord.cords" 384) (.ref 202)
noncomputable def u204_3 (P : Params) : Obj := tE
noncomputable def u205_3 (P : Params) : Obj := fE
noncomputable def u206_3 (P : Params) : Obj := tS 439 ["self"]
noncomputable def u207_3 (P : Params) : Obj := tE
noncomputable def u208_3 (P : Params) : Obj := pF "length" "Cord.length" (inClass (top 21) 4)
noncomputable def u209_3 (P : Params) : Obj := cO "length" "Cord.length" 436 86 1 3 204 440 441
noncomputable def u210_3 (P : Params) : Obj := fo "length" "Cord.length" (inClass (top 21) 4) 3 (.str "tautcord.cords" 384) (.ref 209)
noncomputable def u211_3 (P : Params) : Obj := tE
noncomputable def u212_3 (P : Params) : Obj := fE
noncomputable def u213_3 (P : Params) : Obj := tS 446 ["self"]
noncomputable def u214_3 (P : Params) : Obj := tE
noncomputable def u215_3 (P : Params) : Obj := pF "turned" "Cord.turned" (inClass (top 21) 5)
noncomputable def u216_3 (P : Params) : Obj := cO "turned" "Cord.turned" 443 89 1 3 211 447 448
noncomputable def u217_3 (P : Params) : Obj := fo "turned" "Cord.turned" (inClass (top 21) 5) 3 (.str "tautcord.cords" 384) (.ref 216)
noncomputable def u218_3 (P : Params) : Obj := tS 450 ["kept_gaps", "kept_weights"]
noncomputable def u219_3 (P : Params) : Obj := { cls := .type "dict", data := .dict #[ke P "__module__" 401 (.str "tautcord.cords" 384), ke P "__firstlineno__" 405 (.int 67 404), ke P "__init__" 414 (.ref 182), ke P "gaps" 421 (.ref 189), ke P "weights" 428 (.ref 196), ke P "beads" 435 (.ref 203), ke P "length" 442 (.ref 210), ke P "turned" 449 (.ref 217), ke P "__static_attributes__" 452 (.ref 218), ke P "__dict__" 454 (.ref 221), ke P "__weakref__" 456 (.ref 222), ke P "__doc__" 457 .none] 4 }
noncomputable def u220_3 (P : Params) : Obj := { cls := .type "type", data := .cls { name := "Cord", bases := [.type "object"], mro := [.ref 220, .type "object"], ns := 219, qualname := "Cord" }, slots := #[none, none, some (.str "Cord" 394), some (.str "Cord" 402), some (.builtin "object.__new__"), some (.bool Bool.true)] }
noncomputable def u221_3 (P : Params) : Obj := { cls := .type "getset_descriptor", data := .fields #[.str "__dict__" 453, .ref 220, .builtin "function.__dict__", .builtin "function.__dict__#set"] }
noncomputable def u222_3 (P : Params) : Obj := { cls := .type "getset_descriptor", data := .fields #[.str "__weakref__" 455, .ref 220, .builtin "ExceptionGroup.__weakref__", .none] }
noncomputable def u223_3 (P : Params) : Obj := { cls := .type "super", data := .fields #[.ref 220, .ref 220, .ref 220] }
noncomputable def u224_3 (P : Params) : Obj := { cls := .type "builtin_function_or_method", data := .fields #[.builtin "object.__init_subclass__", .ref 220] }
noncomputable def u225_3 (P : Params) : Obj := tE
noncomputable def u226_3 (P : Params) : Obj := fE
noncomputable def u227_3 (P : Params) : Obj := tS 465 ["figures", "bottom", "figure"]
noncomputable def u228_3 (P : Params) : Obj := tE
noncomputable def u229_3 (P : Params) : Obj := pF "shared_bottom" "shared_bottom" (top 23)
noncomputable def u230_3 (P : Params) : Obj := cO "shared_bottom" "shared_bottom" 462 92 1 3 225 468 469
noncomputable def u231_3 (P : Params) : Obj := fo "shared_bottom" "shared_bottom" (top 23) 3 (.str "tautcord.polys" 460) (.ref 230)
noncomputable def u232_3 (P : Params) : Obj := tE
noncomputable def u233_3 (P : Params) : Obj := fE
noncomputable def u234_3 (P : Params) : Obj := pF "whole_figures" "whole_figures" (top 24)
noncomputable def u235_3 (P : Params) : Obj := { cls := .type "code", data := .fields #[.str "whole_figures" 471, .str "whole_figures" 472, .str "/claim/cut.py" 473, .int 97 0, .int 2 0, .int 0 0, .int 0 0, .int 3 0, .ref 232, .bool Bool.true, .int 181 0, .ref 233, .none, .none, .none, .ref 234, .int 474 0, .int 97 0, .str "/claim/cut.py" 475] }
noncomputable def u236_3 (P : Params) : Obj := fo "whole_figures" "whole_figures" (top 24) 3 (.str "tautcord.polys" 460) (.ref 235)
noncomputable def u237_3 (P : Params) : Obj := tE
noncomputable def u238_3 (P : Params) : Obj := fE
noncomputable def u239_3 (P : Params) : Obj := tS 482 ["upper", "lower", "one", "other", "quotients", "place", "quotient", "rest"]
noncomputable def u240_3 (P : Params) : Obj := tE
noncomputable def u241_3 (P : Params) : Obj := pF "ladder" "ladder" (top 26)
noncomputable def u242_3 (P : Params) : Obj := cO "ladder" "ladder" 479 100 2 3 237 490 491
noncomputable def u243_3 (P : Params) : Obj := fo "ladder" "ladder" (top 26) 3 (.str "tautcord.ladders" 477) (.ref 242)
noncomputable def u244_3 (P : Params) : Obj := tE
noncomputable def u245_3 (P : Params) : Obj := fE
noncomputable def u246_3 (P : Params) : Obj := tS 496 ["one", "bottom"]
noncomputable def u247_3 (P : Params) : Obj := tE
noncomputable def u248_3 (P : Params) : Obj := pF "over_one_bottom" "over_one_bottom" (top 27)
noncomputable def u249_3 (P : Params) : Obj := cO "over_one_bottom" "over_one_bottom" 493 117 1 3 244 498 499
noncomputable def u250_3 (P : Params) : Obj := fo "over_one_bottom" "over_one_bottom" (top 27) 3 (.str "tautcord.ladders" 477) (.ref 249)
noncomputable def u251_3 (P : Params) : Obj := tE
noncomputable def u252_3 (P : Params) : Obj := fE
noncomputable def u253_3 (P : Params) : Obj := tS 504 ["place", "one", "other", "last", "divided_by", "quotient"]
noncomputable def u254_3 (P : Params) : Obj := tE
noncomputable def u255_3 (P : Params) : Obj := pF "quotient_at" "quotient_at" (top 28)
noncomputable def u256_3 (P : Params) : Obj := cO "quotient_at" "quotient_at" 501 120 3 3 251 510 511
noncomputable def u257_3 (P : Params) : Obj := fo "quotient_at" "quotient_at" (top 28) 3 (.str "tautcord.ladders" 477) (.ref 256)
noncomputable def u258_3 (P : Params) : Obj := tE
noncomputable def u259_3 (P : Params) : Obj := fE
noncomputable def u260_3 (P : Params) : Obj := pF "rest_of" "rest_of" (top 29)
noncomputable def u261_3 (P : Params) : Obj := { cls := .type "code", data := .fields #[.str "rest_of" 513, .str "rest_of" 514, .str "/claim/cut.py" 515, .int 129 0, .int 2 0, .int 0 0, .int 0 0, .int 3 0, .ref 258, .bool Bool.true, .int 181 0, .ref 259, .none, .none, .none, .ref 260, .int 516 0, .int 129 0, .str "/claim/cut.py" 517] }
noncomputable def u262_3 (P : Params) : Obj := fo "rest_of" "rest_of" (top 29) 3 (.str "tautcord.ladders" 477) (.ref 261)
noncomputable def u263_3 (P : Params) : Obj := tE
noncomputable def u264_3 (P : Params) : Obj := fE
noncomputable def u265_3 (P : Params) : Obj := pF "in_lowest_terms" "in_lowest_terms" (top 30)
noncomputable def u266_3 (P : Params) : Obj := { cls := .type "code", data := .fields #[.str "in_lowest_terms" 519, .str "in_lowest_terms" 520, .str "/claim/cut.py" 521, .int 136 0, .int 2 0, .int 0 0, .int 0 0, .int 3 0, .ref 263, .bool Bool.true, .int 181 0, .ref 264, .none, .none, .none, .ref 265, .int 522 0, .int 136 0, .str "/claim/cut.py" 523] }
noncomputable def u267_3 (P : Params) : Obj := fo "in_lowest_terms" "in_lowest_terms" (top 30) 3 (.str "tautcord.ladders" 477) (.ref 266)
noncomputable def u268_3 (P : Params) : Obj := tE
noncomputable def u269_3 (P : Params) : Obj := fE
noncomputable def u270_3 (P : Params) : Obj := tS 530 ["upper", "lower", "told", "steps"]
noncomputable def u271_3 (P : Params) : Obj := tE
noncomputable def u272_3 (P : Params) : Obj := pF "cord_with" "cord_with" (top 32)
noncomputable def u273_3 (P : Params) : Obj := cO "cord_with" "cord_with" 527 142 2 3 268 534 535
noncomputable def u274_3 (P : Params) : Obj := fo "cord_with" "cord_with" (top 32) 3 (.str "tautcord.found" 525) (.ref 273)
noncomputable def u275_3 (P : Params) : Obj := tE
noncomputable def u276_3 (P : Params) : Obj := fE
noncomputable def u277_3 (P : Params) : Obj := tS 542 ["_law_script", "_law_k"]
noncomputable def u278_3 (P : Params) : Obj := tE
noncomputable def u279_3 (P : Params) : Obj := pF "_law_cell_at" "_law_cell_at" (top 34)
noncomputable def u280_3 (P : Params) : Obj := cO "_law_cell_at" "_law_cell_at" 539 149 2 3 275 544 545
noncomputable def u281_3 (P : Params) : Obj := fo "_law_cell_at" "_law_cell_at" (top 34) 3 (.str "law_tautcord_k53_no_ladder" 537) (.ref 280)
noncomputable def u282_3 (P : Params) : Obj := tE
noncomputable def u283_3 (P : Params) : Obj := fE
noncomputable def u284_3 (P : Params) : Obj := tS 550 ["_law_top", "_law_bottom", "_law_one", "_law_other", "_law_rest"]
noncomputable def u285_3 (P : Params) : Obj := tE
noncomputable def u286_3 (P : Params) : Obj := pF "_law_low" "_law_low" (top 35)
noncomputable def u287_3 (P : Params) : Obj := cO "_law_low" "_law_low" 547 153 2 3 282 555 556
noncomputable def u288_3 (P : Params) : Obj := fo "_law_low" "_law_low" (top 35) 3 (.str "law_tautcord_k53_no_ladder" 537) (.ref 287)
noncomputable def u289_3 (P : Params) : Obj := tE
noncomputable def u290_3 (P : Params) : Obj := fE
noncomputable def u291_3 (P : Params) : Obj := tS 561 ["_law_cell", "_law_many", "_law_row", "_law_rest", "_law_k", "_law_part"]
noncomputable def u292_3 (P : Params) : Obj := tE
noncomputable def u293_3 (P : Params) : Obj := pF "_law_twelfths" "_law_twelfths" (top 36)
noncomputable def u294_3 (P : Params) : Obj := cO "_law_twelfths" "_law_twelfths" 558 163 2 3 289 567 568
noncomputable def u295_3 (P : Params) : Obj := fo "_law_twelfths" "_law_twelfths" (top 36) 3 (.str "law_tautcord_k53_no_ladder" 537) (.ref 294)
noncomputable def u296_3 (P : Params) : Obj := tE
noncomputable def u297_3 (P : Params) : Obj := fE
noncomputable def u298_3 (P : Params) : Obj := pF "_law_figures" "_law_figures" (top 37)
noncomputable def u299_3 (P : Params) : Obj := { cls := .type "code", data := .fields #[.str "_law_figures" 570, .str "_law_figures" 571, .str "/claim/cut.py" 572, .int 173 0, .int 2 0, .int 0 0, .int 0 0, .int 3 0, .ref 296, .bool Bool.true, .int 181 0, .ref 297, .none, .none, .none, .ref 298, .int 573 0, .int 173 0, .str "/claim/cut.py" 574] }
noncomputable def u300_3 (P : Params) : Obj := fo "_law_figures" "_law_figures" (top 37) 3 (.str "law_tautcord_k53_no_ladder" 537) (.ref 299)
noncomputable def u301_3 (P : Params) : Obj := tE
noncomputable def u302_3 (P : Params) : Obj := fE
noncomputable def u303_3 (P : Params) : Obj := tS 579 ["_law_upper", "_law_lower", "_law_whole", "e"]
noncomputable def u304_3 (P : Params) : Obj := tE
noncomputable def u305_3 (P : Params) : Obj := pF "_law_refused" "_law_refused" (top 38)
noncomputable def u306_3 (P : Params) : Obj := cO "_law_refused" "_law_refused" 576 178 3 3 301 583 584
noncomputable def u307_3 (P : Params) : Obj := fo "_law_refused" "_law_refused" (top 38) 3 (.str "law_tautcord_k53_no_ladder" 537) (.ref 306)
noncomputable def u308_3 (P : Params) : Obj := tE
noncomputable def u309_3 (P : Params) : Obj := fE
noncomputable def u310_3 (P : Params) : Obj := tS 589 ["_law_script", "_law_many", "_law_other", "_law_upper", "_law_lower", "_law_handed", "_law_good", "_law_told"]
noncomputable def u311_3 (P : Params) : Obj := tE
noncomputable def u312_3 (P : Params) : Obj := pF "law" "law" (top 39)
noncomputable def u313_3 (P : Params) : Obj := cO "law" "law" 586 189 1 3 308 597 598
noncomputable def u314_3 (P : Params) : Obj := fo "law" "law" (top 39) 3 (.str "law_tautcord_k53_no_ladder" 537) (.ref 313)
noncomputable def tr_0 (P : Params) : BT := (.node (boot_o_0 P) (.node (boot_o_1 P) (.node (boot_o_3 P) (lf (boot_o_7 P)) (lf (u11_a P))) (.node (boot_o_5 P) (lf (boot_o_9 P)) (lf (u13_a P)))) (.node (boot_o_2 P) (.node (boot_o_4 P) (lf (boot_o_8 P)) (lf (u12_a P))) (.node (boot_o_6 P) (lf (boot_o_10 P)) (lf (u14_a P)))))
noncomputable def tr_1 (P : Params) : BT := (.node (boot_o_0 P) (.node (boot_o_1 P) (.node (u3_1 P) (.node (boot_o_7 P) (.node (u15_1 P) (.node (u31_1 P) (lf (u63_1 P)) .nil) (lf (u47_1 P))) (.node (u23_1 P) (.node (u39_1 P) (lf (u71_1 P)) .nil) (lf (u55_1 P)))) (.node (u11_a P) (.node (u19_1 P) (.node (u35_1 P) (lf (u67_1 P)) .nil) (lf (u51_1 P))) (.node (u27_1 P) (.node (u43_1 P) (lf (u75_1 P)) .nil) (lf (u59_1 P))))) (.node (boot_o_5 P) (.node (boot_o_9 P) (.node (u17_1 P) (.node (u33_1 P) (lf (u65_1 P)) .nil) (lf (u49_1 P))) (.node (u25_1 P) (.node (u41_1 P) (lf (u73_1 P)) .nil) (lf (u57_1 P)))) (.node (u13_a P) (.node (u21_1 P) (.node (u37_1 P) (lf (u69_1 P)) .nil) (lf (u53_1 P))) (.node (u29_1 P) (.node (u45_1 P) (lf (u77_1 P)) .nil) (lf (u61_1 P)))))) (.node (boot_o_2 P) (.node (boot_o_4 P) (.node (boot_o_8 P) (.node (u16_1 P) (.node (u32_1 P) (lf (u64_1 P)) .nil) (lf (u48_1 P))) (.node (u24_1 P) (.node (u40_1 P) (lf (u72_1 P)) .nil) (lf (u56_1 P)))) (.node (u12_1 P) (.node (u20_1 P) (.node (u36_1 P) (lf (u68_1 P)) .nil) (lf (u52_1 P))) (.node (u28_1 P) (.node (u44_1 P) (lf (u76_1 P)) .nil) (lf (u60_1 P))))) (.node (boot_o_6 P) (.node (boot_o_10 P) (.node (u18_1 P) (.node (u34_1 P) (lf (u66_1 P)) .nil) (lf (u50_1 P))) (.node (u26_1 P) (.node (u42_1 P) (lf (u74_1 P)) .nil) (lf (u58_1 P)))) (.node (u14_a P) (.node (u22_1 P) (.node (u38_1 P) (lf (u70_1 P)) .nil) (lf (u54_1 P))) (.node (u30_1 P) (lf (u46_1 P)) (lf (u62_1 P)))))))
noncomputable def tr_2 (P : Params) : BT := (.node (boot_o_0 P) (.node (boot_o_1 P) (.node (u3_2 P) (.node (boot_o_7 P) (.node (u15_1 P) (.node (u31_2 P) (.node (u63_1 P) (lf (u127_2 P)) .nil) (.node (u95_2 P) (lf (u159_2 P)) .nil)) (.node (u47_1 P) (.node (u79_2 P) (lf (u143_2 P)) .nil) (lf (u111_2 P)))) (.node (u23_1 P) (.node (u39_1 P) (.node (u71_1 P) (lf (u135_2 P)) .nil) (.node (u103_2 P) (lf (u167_2 P)) .nil)) (.node (u55_1 P) (.node (u87_2 P) (lf (u151_2 P)) .nil) (lf (u119_2 P))))) (.node (u11_a P) (.node (u19_1 P) (.node (u35_1 P) (.node (u67_1 P) (lf (u131_2 P)) .nil) (.node (u99_2 P) (lf (u163_2 P)) .nil)) (.node (u51_1 P) (.node (u83_2 P) (lf (u147_2 P)) .nil) (lf (u115_2 P)))) (.node (u27_1 P) (.node (u43_1 P) (.node (u75_1 P) (lf (u139_2 P)) .nil) (lf (u107_2 P))) (.node (u59_1 P) (.node (u91_2 P) (lf (u155_2 P)) .nil) (lf (u123_2 P)))))) (.node (boot_o_5 P) (.node (boot_o_9 P) (.node (u17_1 P) (.node (u33_1 P) (.node (u65_1 P) (lf (u129_2 P)) .nil) (.node (u97_2 P) (lf (u161_2 P)) .nil)) (.node (u49_1 P) (.node (u81_2 P) (lf (u145_2 P)) .nil) (lf (u113_2 P)))) (.node (u25_1 P) (.node (u41_1 P) (.node (u73_1 P) (lf (u137_2 P)) .nil) (lf (u105_2 P))) (.node (u57_1 P) (.node (u89_2 P) (lf (u153_2 P)) .nil) (lf (u121_2 P))))) (.node (u13_a P) (.node (u21_1 P) (.node (u37_1 P) (.node (u69_1 P) (lf (u133_2 P)) .nil) (.node (u101_2 P) (lf (u165_2 P)) .nil)) (.node (u53_1 P) (.node (u85_2 P) (lf (u149_2 P)) .nil) (lf (u117_2 P)))) (.node (u29_1 P) (.node (u45_1 P) (.node (u77_1 P) (lf (u141_2 P)) .nil) (lf (u109_2 P))) (.node (u61_1 P) (.node (u93_2 P) (lf (u157_2 P)) .nil) (lf (u125_2 P))))))) (.node (boot_o_2 P) (.node (boot_o_4 P) (.node (boot_o_8 P) (.node (u16_1 P) (.node (u32_1 P) (.node (u64_1 P) (lf (u128_2 P)) .nil) (.node (u96_2 P) (lf (u160_2 P)) .nil)) (.node (u48_1 P) (.node (u80_2 P) (lf (u144_2 P)) .nil) (lf (u112_2 P)))) (.node (u24_1 P) (.node (u40_1 P) (.node (u72_1 P) (lf (u136_2 P)) .nil) (.node (u104_2 P) (lf (u168_2 P)) .nil)) (.node (u56_1 P) (.node (u88_2 P) (lf (u152_2 P)) .nil) (lf (u120_2 P))))) (.node (u12_2 P) (.node (u20_1 P) (.node (u36_1 P) (.node (u68_1 P) (lf (u132_2 P)) .nil) (.node (u100_2 P) (lf (u164_2 P)) .nil)) (.node (u52_1 P) (.node (u84_2 P) (lf (u148_2 P)) .nil) (lf (u116_2 P)))) (.node (u28_1 P) (.node (u44_1 P) (.node (u76_1 P) (lf (u140_2 P)) .nil) (lf (u108_2 P))) (.node (u60_1 P) (.node (u92_2 P) (lf (u156_2 P)) .nil) (lf (u124_2 P)))))) (.node (boot_o_6 P) (.node (boot_o_10 P) (.node (u18_1 P) (.node (u34_1 P) (.node (u66_1 P) (lf (u130_2 P)) .nil) (.node (u98_2 P) (lf (u162_2 P)) .nil)) (.node (u50_1 P) (.node (u82_2 P) (lf (u146_2 P)) .nil) (lf (u114_2 P)))) (.node (u26_1 P) (.node (u42_1 P) (.node (u74_1 P) (lf (u138_2 P)) .nil) (lf (u106_2 P))) (.node (u58_1 P) (.node (u90_2 P) (lf (u154_2 P)) .nil) (lf (u122_2 P))))) (.node (u14_a P) (.node (u22_1 P) (.node (u38_1 P) (.node (u70_1 P) (lf (u134_2 P)) .nil) (.node (u102_2 P) (lf (u166_2 P)) .nil)) (.node (u54_1 P) (.node (u86_2 P) (lf (u150_2 P)) .nil) (lf (u118_2 P)))) (.node (u30_1 P) (.node (u46_1 P) (.node (u78_2 P) (lf (u142_2 P)) .nil) (lf (u110_2 P))) (.node (u62_1 P) (.node (u94_2 P) (lf (u158_2 P)) .nil) (lf (u126_2 P))))))))
noncomputable def tr_3 (P : Params) : BT := (.node (boot_o_0 P) (.node (boot_o_1 P) (.node (u3_3 P) (.node (boot_o_7 P) (.node (u15_1 P) (.node (u31_2 P) (.node (u63_1 P) (.node (u127_2 P) (lf (u255_3 P)) .nil) (lf (u191_3 P))) (.node (u95_2 P) (.node (u159_2 P) (lf (u287_3 P)) .nil) (lf (u223_3 P)))) (.node (u47_1 P) (.node (u79_2 P) (.node (u143_2 P) (lf (u271_3 P)) .nil) (lf (u207_3 P))) (.node (u111_2 P) (.node (u175_3 P) (lf (u303_3 P)) .nil) (lf (u239_3 P))))) (.node (u23_1 P) (.node (u39_1 P) (.node (u71_1 P) (.node (u135_2 P) (lf (u263_3 P)) .nil) (lf (u199_3 P))) (.node (u103_2 P) (.node (u167_2 P) (lf (u295_3 P)) .nil) (lf (u231_3 P)))) (.node (u55_1 P) (.node (u87_2 P) (.node (u151_2 P) (lf (u279_3 P)) .nil) (lf (u215_3 P))) (.node (u119_2 P) (.node (u183_3 P) (lf (u311_3 P)) .nil) (lf (u247_3 P)))))) (.node (u11_a P) (.node (u19_1 P) (.node (u35_1 P) (.node (u67_1 P) (.node (u131_2 P) (lf (u259_3 P)) .nil) (lf (u195_3 P))) (.node (u99_2 P) (.node (u163_2 P) (lf (u291_3 P)) .nil) (lf (u227_3 P)))) (.node (u51_1 P) (.node (u83_2 P) (.node (u147_2 P) (lf (u275_3 P)) .nil) (lf (u211_3 P))) (.node (u115_2 P) (.node (u179_3 P) (lf (u307_3 P)) .nil) (lf (u243_3 P))))) (.node (u27_1 P) (.node (u43_1 P) (.node (u75_1 P) (.node (u139_2 P) (lf (u267_3 P)) .nil) (lf (u203_3 P))) (.node (u107_2 P) (.node (u171_3 P) (lf (u299_3 P)) .nil) (lf (u235_3 P)))) (.node (u59_1 P) (.node (u91_2 P) (.node (u155_2 P) (lf (u283_3 P)) .nil) (lf (u219_3 P))) (.node (u123_2 P) (lf (u187_3 P)) (lf (u251_3 P))))))) (.node (boot_o_5 P) (.node (boot_o_9 P) (.node (u17_1 P) (.node (u33_1 P) (.node (u65_1 P) (.node (u129_2 P) (lf (u257_3 P)) .nil) (lf (u193_3 P))) (.node (u97_2 P) (.node (u161_2 P) (lf (u289_3 P)) .nil) (lf (u225_3 P)))) (.node (u49_1 P) (.node (u81_2 P) (.node (u145_2 P) (lf (u273_3 P)) .nil) (lf (u209_3 P))) (.node (u113_2 P) (.node (u177_3 P) (lf (u305_3 P)) .nil) (lf (u241_3 P))))) (.node (u25_1 P) (.node (u41_1 P) (.node (u73_1 P) (.node (u137_2 P) (lf (u265_3 P)) .nil) (lf (u201_3 P))) (.node (u105_2 P) (.node (u169_3 P) (lf (u297_3 P)) .nil) (lf (u233_3 P)))) (.node (u57_1 P) (.node (u89_2 P) (.node (u153_2 P) (lf (u281_3 P)) .nil) (lf (u217_3 P))) (.node (u121_2 P) (.node (u185_3 P) (lf (u313_3 P)) .nil) (lf (u249_3 P)))))) (.node (u13_a P) (.node (u21_1 P) (.node (u37_1 P) (.node (u69_1 P) (.node (u133_2 P) (lf (u261_3 P)) .nil) (lf (u197_3 P))) (.node (u101_2 P) (.node (u165_2 P) (lf (u293_3 P)) .nil) (lf (u229_3 P)))) (.node (u53_1 P) (.node (u85_2 P) (.node (u149_2 P) (lf (u277_3 P)) .nil) (lf (u213_3 P))) (.node (u117_2 P) (.node (u181_3 P) (lf (u309_3 P)) .nil) (lf (u245_3 P))))) (.node (u29_1 P) (.node (u45_1 P) (.node (u77_1 P) (.node (u141_2 P) (lf (u269_3 P)) .nil) (lf (u205_3 P))) (.node (u109_2 P) (.node (u173_3 P) (lf (u301_3 P)) .nil) (lf (u237_3 P)))) (.node (u61_1 P) (.node (u93_2 P) (.node (u157_2 P) (lf (u285_3 P)) .nil) (lf (u221_3 P))) (.node (u125_2 P) (lf (u189_3 P)) (lf (u253_3 P)))))))) (.node (boot_o_2 P) (.node (boot_o_4 P) (.node (boot_o_8 P) (.node (u16_1 P) (.node (u32_1 P) (.node (u64_1 P) (.node (u128_2 P) (lf (u256_3 P)) .nil) (lf (u192_3 P))) (.node (u96_2 P) (.node (u160_2 P) (lf (u288_3 P)) .nil) (lf (u224_3 P)))) (.node (u48_1 P) (.node (u80_2 P) (.node (u144_2 P) (lf (u272_3 P)) .nil) (lf (u208_3 P))) (.node (u112_2 P) (.node (u176_3 P) (lf (u304_3 P)) .nil) (lf (u240_3 P))))) (.node (u24_1 P) (.node (u40_1 P) (.node (u72_1 P) (.node (u136_2 P) (lf (u264_3 P)) .nil) (lf (u200_3 P))) (.node (u104_2 P) (.node (u168_2 P) (lf (u296_3 P)) .nil) (lf (u232_3 P)))) (.node (u56_1 P) (.node (u88_2 P) (.node (u152_2 P) (lf (u280_3 P)) .nil) (lf (u216_3 P))) (.node (u120_2 P) (.node (u184_3 P) (lf (u312_3 P)) .nil) (lf (u248_3 P)))))) (.node (u12_3 P) (.node (u20_1 P) (.node (u36_1 P) (.node (u68_1 P) (.node (u132_2 P) (lf (u260_3 P)) .nil) (lf (u196_3 P))) (.node (u100_2 P) (.node (u164_2 P) (lf (u292_3 P)) .nil) (lf (u228_3 P)))) (.node (u52_1 P) (.node (u84_2 P) (.node (u148_2 P) (lf (u276_3 P)) .nil) (lf (u212_3 P))) (.node (u116_2 P) (.node (u180_3 P) (lf (u308_3 P)) .nil) (lf (u244_3 P))))) (.node (u28_1 P) (.node (u44_1 P) (.node (u76_1 P) (.node (u140_2 P) (lf (u268_3 P)) .nil) (lf (u204_3 P))) (.node (u108_2 P) (.node (u172_3 P) (lf (u300_3 P)) .nil) (lf (u236_3 P)))) (.node (u60_1 P) (.node (u92_2 P) (.node (u156_2 P) (lf (u284_3 P)) .nil) (lf (u220_3 P))) (.node (u124_2 P) (lf (u188_3 P)) (lf (u252_3 P))))))) (.node (boot_o_6 P) (.node (boot_o_10 P) (.node (u18_1 P) (.node (u34_1 P) (.node (u66_1 P) (.node (u130_2 P) (lf (u258_3 P)) .nil) (lf (u194_3 P))) (.node (u98_2 P) (.node (u162_2 P) (lf (u290_3 P)) .nil) (lf (u226_3 P)))) (.node (u50_1 P) (.node (u82_2 P) (.node (u146_2 P) (lf (u274_3 P)) .nil) (lf (u210_3 P))) (.node (u114_2 P) (.node (u178_3 P) (lf (u306_3 P)) .nil) (lf (u242_3 P))))) (.node (u26_1 P) (.node (u42_1 P) (.node (u74_1 P) (.node (u138_2 P) (lf (u266_3 P)) .nil) (lf (u202_3 P))) (.node (u106_2 P) (.node (u170_3 P) (lf (u298_3 P)) .nil) (lf (u234_3 P)))) (.node (u58_1 P) (.node (u90_2 P) (.node (u154_2 P) (lf (u282_3 P)) .nil) (lf (u218_3 P))) (.node (u122_2 P) (.node (u186_3 P) (lf (u314_3 P)) .nil) (lf (u250_3 P)))))) (.node (u14_a P) (.node (u22_1 P) (.node (u38_1 P) (.node (u70_1 P) (.node (u134_2 P) (lf (u262_3 P)) .nil) (lf (u198_3 P))) (.node (u102_2 P) (.node (u166_2 P) (lf (u294_3 P)) .nil) (lf (u230_3 P)))) (.node (u54_1 P) (.node (u86_2 P) (.node (u150_2 P) (lf (u278_3 P)) .nil) (lf (u214_3 P))) (.node (u118_2 P) (.node (u182_3 P) (lf (u310_3 P)) .nil) (lf (u246_3 P))))) (.node (u30_1 P) (.node (u46_1 P) (.node (u78_2 P) (.node (u142_2 P) (lf (u270_3 P)) .nil) (lf (u206_3 P))) (.node (u110_2 P) (.node (u174_3 P) (lf (u302_3 P)) .nil) (lf (u238_3 P)))) (.node (u62_1 P) (.node (u94_2 P) (.node (u158_2 P) (lf (u286_3 P)) .nil) (lf (u222_3 P))) (.node (u126_2 P) (lf (u190_3 P)) (lf (u254_3 P)))))))))
noncomputable def ha (P : Params) : Heap := ⟨Array.mk [boot_o_0 P, boot_o_1 P, boot_o_2 P, boot_o_3 P, boot_o_4 P, boot_o_5 P, boot_o_6 P, boot_o_7 P, boot_o_8 P, boot_o_9 P, boot_o_10 P, u11_a P, u12_a P, u13_a P, u14_a P], {}⟩
noncomputable abbrev st_0 (w : World) (os : OsState) : SharedT := ⟨tr_0 w.params, 15, {}, Array.mk [], {}, 187, os⟩
noncomputable abbrev st_1 (w : World) (os : OsState) : SharedT := ⟨tr_1 w.params, 78, {}, Array.mk [], {}, 271, os⟩
noncomputable def l_1 : List Stmt := (bE.drop 0).take 6
noncomputable abbrev st_2 (w : World) (os : OsState) : SharedT := ⟨tr_2 w.params, 169, {}, Array.mk [], {}, 394, os⟩
noncomputable def l_2 : List Stmt := (bE.drop 6).take 15
noncomputable abbrev st_3 (w : World) (os : OsState) : SharedT := ⟨tr_3 w.params, 315, {}, Array.mk [], {}, 600, os⟩
noncomputable def l_3 : List Stmt := (bE.drop 21).take 19
noncomputable def hf (P : Params) : Heap := ⟨Array.mk [boot_o_0 P, boot_o_1 P, boot_o_2 P, u3_3 P, boot_o_4 P, boot_o_5 P, boot_o_6 P, boot_o_7 P, boot_o_8 P, boot_o_9 P, boot_o_10 P, u11_a P, u12_3 P, u13_a P, u14_a P, u15_1 P, u16_1 P, u17_1 P, u18_1 P, u19_1 P, u20_1 P, u21_1 P, u22_1 P, u23_1 P, u24_1 P, u25_1 P, u26_1 P, u27_1 P, u28_1 P, u29_1 P, u30_1 P, u31_2 P, u32_1 P, u33_1 P, u34_1 P, u35_1 P, u36_1 P, u37_1 P, u38_1 P, u39_1 P, u40_1 P, u41_1 P, u42_1 P, u43_1 P, u44_1 P, u45_1 P, u46_1 P, u47_1 P, u48_1 P, u49_1 P, u50_1 P, u51_1 P, u52_1 P, u53_1 P, u54_1 P, u55_1 P, u56_1 P, u57_1 P, u58_1 P, u59_1 P, u60_1 P, u61_1 P, u62_1 P, u63_1 P, u64_1 P, u65_1 P, u66_1 P, u67_1 P, u68_1 P, u69_1 P, u70_1 P, u71_1 P, u72_1 P, u73_1 P, u74_1 P, u75_1 P, u76_1 P, u77_1 P, u78_2 P, u79_2 P, u80_2 P, u81_2 P, u82_2 P, u83_2 P, u84_2 P, u85_2 P, u86_2 P, u87_2 P, u88_2 P, u89_2 P, u90_2 P, u91_2 P, u92_2 P, u93_2 P, u94_2 P, u95_2 P, u96_2 P, u97_2 P, u98_2 P, u99_2 P, u100_2 P, u101_2 P, u102_2 P, u103_2 P, u104_2 P, u105_2 P, u106_2 P, u107_2 P, u108_2 P, u109_2 P, u110_2 P, u111_2 P, u112_2 P, u113_2 P, u114_2 P, u115_2 P, u116_2 P, u117_2 P, u118_2 P, u119_2 P, u120_2 P, u121_2 P, u122_2 P, u123_2 P, u124_2 P, u125_2 P, u126_2 P, u127_2 P, u128_2 P, u129_2 P, u130_2 P, u131_2 P, u132_2 P, u133_2 P, u134_2 P, u135_2 P, u136_2 P, u137_2 P, u138_2 P, u139_2 P, u140_2 P, u141_2 P, u142_2 P, u143_2 P, u144_2 P, u145_2 P, u146_2 P, u147_2 P, u148_2 P, u149_2 P, u150_2 P, u151_2 P, u152_2 P, u153_2 P, u154_2 P, u155_2 P, u156_2 P, u157_2 P, u158_2 P, u159_2 P, u160_2 P, u161_2 P, u162_2 P, u163_2 P, u164_2 P, u165_2 P, u166_2 P, u167_2 P, u168_2 P, u169_3 P, u170_3 P, u171_3 P, u172_3 P, u173_3 P, u174_3 P, u175_3 P, u176_3 P, u177_3 P, u178_3 P, u179_3 P, u180_3 P, u181_3 P, u182_3 P, u183_3 P, u184_3 P, u185_3 P, u186_3 P, u187_3 P, u188_3 P, u189_3 P, u190_3 P, u191_3 P, u192_3 P, u193_3 P, u194_3 P, u195_3 P, u196_3 P, u197_3 P, u198_3 P, u199_3 P, u200_3 P, u201_3 P, u202_3 P, u203_3 P, u204_3 P, u205_3 P, u206_3 P, u207_3 P, u208_3 P, u209_3 P, u210_3 P, u211_3 P, u212_3 P, u213_3 P, u214_3 P, u215_3 P, u216_3 P, u217_3 P, u218_3 P, u219_3 P, u220_3 P, u221_3 P, u222_3 P, u223_3 P, u224_3 P, u225_3 P, u226_3 P, u227_3 P, u228_3 P, u229_3 P, u230_3 P, u231_3 P, u232_3 P, u233_3 P, u234_3 P, u235_3 P, u236_3 P, u237_3 P, u238_3 P, u239_3 P, u240_3 P, u241_3 P, u242_3 P, u243_3 P, u244_3 P, u245_3 P, u246_3 P, u247_3 P, u248_3 P, u249_3 P, u250_3 P, u251_3 P, u252_3 P, u253_3 P, u254_3 P, u255_3 P, u256_3 P, u257_3 P, u258_3 P, u259_3 P, u260_3 P, u261_3 P, u262_3 P, u263_3 P, u264_3 P, u265_3 P, u266_3 P, u267_3 P, u268_3 P, u269_3 P, u270_3 P, u271_3 P, u272_3 P, u273_3 P, u274_3 P, u275_3 P, u276_3 P, u277_3 P, u278_3 P, u279_3 P, u280_3 P, u281_3 P, u282_3 P, u283_3 P, u284_3 P, u285_3 P, u286_3 P, u287_3 P, u288_3 P, u289_3 P, u290_3 P, u291_3 P, u292_3 P, u293_3 P, u294_3 P, u295_3 P, u296_3 P, u297_3 P, u298_3 P, u299_3 P, u300_3 P, u301_3 P, u302_3 P, u303_3 P, u304_3 P, u305_3 P, u306_3 P, u307_3 P, u308_3 P, u309_3 P, u310_3 P, u311_3 P, u312_3 P, u313_3 P, u314_3 P], {}⟩
theorem t_pre (w : World) (os : OsState) : topGo treeTable tp w 11 (some (.ref 6)) 12 ⟨boot_heap w.params, Array.mk [], boot_drawn, boot_toks, os⟩ (topStub tp) = some (⟨ha w.params, Array.mk [], {}, 187, os⟩, Thread.mk (denote treeTable cE) cE ⟨0, 0, 0, 0⟩ [topFrame ⟨0, 0, 0, 0⟩]) := by kernel_rfl
theorem t_blk (w : World) (os : OsState) : segRun treeTable tp w 11 (some (.ref 6)) 1 1 ⟨ha w.params, Array.mk [], {}, 187, os⟩ (blockOf bE eE cE ⟨0, 0, 0, 0⟩ [topFrame ⟨0, 0, 0, 0⟩]) = some (.next, (st_0 w os).abs, cE, ⟨0, 0, 0, 0⟩) := by kernel_rfl
theorem t_1 (w : World) (os : OsState) : segRunT treeTable tp w 11 (some (.ref 6)) 1 896 (st_0 w os) (piecesOf l_1 eE cE ⟨0, 0, 0, 0⟩ [topFrame ⟨0, 0, 0, 0⟩]) = some (.next, st_1 w os, cE, ⟨13, 0, 14, 8⟩) := by kernel_rfl
theorem t_2 (w : World) (os : OsState) : segRunT treeTable tp w 11 (some (.ref 6)) 1 918 (st_1 w os) (piecesOf l_2 eE cE ⟨13, 0, 14, 8⟩ [topFrame ⟨0, 0, 0, 0⟩]) = some (.next, st_2 w os, cE, ⟨63, 0, 66, 73⟩) := by kernel_rfl
theorem t_3 (w : World) (os : OsState) : segRunT treeTable tp w 11 (some (.ref 6)) 1 848 (st_2 w os) (piecesOf l_3 eE cE ⟨63, 0, 66, 73⟩ [topFrame ⟨0, 0, 0, 0⟩]) = some (.next, st_3 w os, cE, ⟨189, 0, 205, 50⟩) := by kernel_rfl
theorem t_fin (w : World) (os : OsState) : topRun treeTable tp w 11 (some (.ref 6)) 2 (st_3 w os).abs ⟨doneF .next, cE, ⟨189, 0, 205, 50⟩, [topFrame ⟨0, 0, 0, 0⟩]⟩ = some ⟨hf w.params, Array.mk [], {}, 600, os⟩ := by kernel_rfl
theorem l_all : l_1 ++ (l_2 ++ (l_3 ++ ([]))) = bE := by kernel_rfl
theorem run0 (w : World) (os : OsState) : topRun treeTable tp w 11 (some (.ref 6)) (896 + (918 + (848 + (2)))) (st_0 w os).abs (restOf (l_1 ++ (l_2 ++ (l_3 ++ ([])))) eE cE ⟨0, 0, 0, 0⟩ [topFrame ⟨0, 0, 0, 0⟩]) = some ⟨hf w.params, Array.mk [], {}, 600, os⟩ := piece_app (segRun_of (t_1 w os)) (piece_app (segRun_of (t_2 w os)) (piece_app (segRun_of (t_3 w os)) (piece_nil (t_fin w os))))
theorem run (w : World) (os : OsState) : topRun treeTable tp w 11 (some (.ref 6)) (12 + (1 + (896 + (918 + (848 + (2)))))) ⟨boot_heap w.params, Array.mk [], boot_drawn, boot_toks, os⟩ (topStub tp) = some ⟨hf w.params, Array.mk [], {}, 600, os⟩ := by
  have k := run0 w os
  rw [l_all] at k
  exact go_top (t_pre w os) (piece_block (t_blk w os) k)
noncomputable def KK (P : Params) : Frag :=
  (nat_lit 2, boot_o_2 P) :: (nat_lit 3, u3_3 P) :: (nat_lit 20, u20_1 P) :: (nat_lit 21, u21_1 P) :: (nat_lit 30, u30_1 P) :: (nat_lit 31, u31_2 P) :: (nat_lit 32, u32_1 P) :: (nat_lit 43, u43_1 P) :: (nat_lit 44, u44_1 P) :: (nat_lit 59, u59_1 P) :: (nat_lit 60, u60_1 P) :: (nat_lit 62, u62_1 P) :: (nat_lit 63, u63_1 P) :: (nat_lit 74, u74_1 P) :: (nat_lit 75, u75_1 P) :: (nat_lit 86, u86_2 P) :: (nat_lit 87, u87_2 P) :: (nat_lit 98, u98_2 P) :: (nat_lit 99, u99_2 P) :: (nat_lit 110, u110_2 P) :: (nat_lit 111, u111_2 P) :: (nat_lit 119, u119_2 P) :: (nat_lit 120, u120_2 P) :: (nat_lit 126, u126_2 P) :: (nat_lit 127, u127_2 P) :: (nat_lit 133, u133_2 P) :: (nat_lit 134, u134_2 P) :: (nat_lit 135, u135_2 P) :: (nat_lit 141, u141_2 P) :: (nat_lit 142, u142_2 P) :: (nat_lit 148, u148_2 P) :: (nat_lit 149, u149_2 P) :: (nat_lit 155, u155_2 P) :: (nat_lit 156, u156_2 P) :: (nat_lit 162, u162_2 P) :: (nat_lit 163, u163_2 P) :: (nat_lit 167, u167_2 P) :: (nat_lit 168, u168_2 P) :: (nat_lit 181, u181_3 P) :: (nat_lit 182, u182_3 P) :: (nat_lit 188, u188_3 P) :: (nat_lit 189, u189_3 P) :: (nat_lit 195, u195_3 P) :: (nat_lit 196, u196_3 P) :: (nat_lit 202, u202_3 P) :: (nat_lit 203, u203_3 P) :: (nat_lit 209, u209_3 P) :: (nat_lit 210, u210_3 P) :: (nat_lit 216, u216_3 P) :: (nat_lit 217, u217_3 P) :: (nat_lit 219, u219_3 P) :: (nat_lit 220, u220_3 P) :: (nat_lit 221, u221_3 P) :: (nat_lit 222, u222_3 P) :: (nat_lit 230, u230_3 P) :: (nat_lit 231, u231_3 P) :: (nat_lit 235, u235_3 P) :: (nat_lit 236, u236_3 P) :: (nat_lit 242, u242_3 P) :: (nat_lit 243, u243_3 P) :: (nat_lit 249, u249_3 P) :: (nat_lit 250, u250_3 P) :: (nat_lit 256, u256_3 P) :: (nat_lit 257, u257_3 P) :: (nat_lit 261, u261_3 P) :: (nat_lit 262, u262_3 P) :: (nat_lit 266, u266_3 P) :: (nat_lit 267, u267_3 P) :: (nat_lit 273, u273_3 P) :: (nat_lit 274, u274_3 P) :: (nat_lit 280, u280_3 P) :: (nat_lit 281, u281_3 P) :: (nat_lit 287, u287_3 P) :: (nat_lit 288, u288_3 P) :: (nat_lit 294, u294_3 P) :: (nat_lit 295, u295_3 P) :: (nat_lit 299, u299_3 P) :: (nat_lit 300, u300_3 P) :: (nat_lit 306, u306_3 P) :: (nat_lit 307, u307_3 P) :: (nat_lit 313, u313_3 P) :: (nat_lit 314, u314_3 P) :: []
theorem KK_as (P : Params) : [2, 3, 20, 21, 30, 31, 32, 43, 44, 59, 60, 62, 63, 74, 75, 86, 87, 98, 99, 110, 111, 119, 120, 126, 127, 133, 134, 135, 141, 142, 148, 149, 155, 156, 162, 163, 167, 168, 181, 182, 188, 189, 195, 196, 202, 203, 209, 210, 216, 217, 219, 220, 221, 222, 230, 231, 235, 236, 242, 243, 249, 250, 256, 257, 261, 262, 266, 267, 273, 274, 280, 281, 287, 288, 294, 295, 299, 300, 306, 307, 313, 314] = (KK P).map (·.1) := by kernel_rfl
noncomputable abbrev hook : Hook := kHook KK [2, 3, 20, 21, 30, 31, 32, 43, 44, 59, 60, 62, 63, 74, 75, 86, 87, 98, 99, 110, 111, 119, 120, 126, 127, 133, 134, 135, 141, 142, 148, 149, 155, 156, 162, 163, 167, 168, 181, 182, 188, 189, 195, 196, 202, 203, 209, 210, 216, 217, 219, 220, 221, 222, 230, 231, 235, 236, 242, 243, 249, 250, 256, 257, 261, 262, 266, 267, 273, 274, 280, 281, 287, 288, 294, 295, 299, 300, 306, 307, 313, 314] KK_as
theorem left : LeftO tp q [("fraction" : Str)] (fun s => xlAt q [] s && recOk [] s) hook.obs hook.val 6324 :=
  LeftO.of_pieces (boot_open (by kernel_rfl) (by decide) (fun s => by kernel_rfl)) (fun w => by kernel_rfl) run (by decide) (fun w => by kernel_rfl)
theorem said : OpenLaw.wellSaid PySem.Challenge.rw_tautcord_k53_no_ladder = true := by kernel_rfl
end My
open PySem PySem.W PyProof.Rows
set_option maxRecDepth 100000 in
set_option maxHeartbeats 0 in
theorem PySem.Challenge.cw_tautcord_k53_no_ladder_holds : PySem.Challenge.rw_tautcord_k53_no_ladder.Holds := by
  refine holds_law My.said fun said => ?_
  refine holds_open (q := My.q) (loose := [("fraction" : Str)]) (Xt := fun s => xlAt My.q [] s && recOk [] s) (XP := XL My.q []) (Yf := Hook.obs My.hook) (Ya := Hook.val My.hook) (YP := Hook.says My.hook) (N := 6324) My.left (Hook.of My.hook) (Hook.keeps My.hook) (fun s e => xl_of s (Bool.and_eq_true_iff.mp e).1) XL.keeps (by rfl) (by rfl) (by rfl) (fun s e => recFacts_of (Bool.and_eq_true_iff.mp e).2) (by rfl) said (by decide +kernel) ⟨rfl, rfl, rfl, rfl, rfl, by decide +kernel⟩ ?hw ?hc
  case hw => w_witness2
  delta My.hook
  k_fill
  refine My.walk (l := PySem.Challenge.rw_tautcord_k53_no_ladder) rfl rfl (fun w h Y => PySem.W.kIn_of Y) ?F
  case F =>
    intro w mg fa h KX G hmg
    refine' My.all_mk KX G hmg ?a1 ?l1 ?c1 ?k1 ?a2 ?l2 ?c2 ?k2 ?a3 ?l3 ?c3 ?k3 ?d3 ?a4 ?l4 ?c4 ?k4 ?a5 ?l5 ?c5 ?k5 ?a6 ?l6 ?c6 ?k6 ?a7 ?l7 ?c7 ?k7 ?a8 ?l8 ?c8 ?k8 ?a9 ?l9 ?c9 ?k9 ?a10 ?l10 ?c10 ?k10 ?a11 ?l11 ?c11 ?k11 ?a12 ?l12 ?c12 ?k12 ?a13 ?l13 ?c13 ?k13 ?a14 ?l14 ?c14 ?k14 ?a15 ?i15 ?l15 ?c15 ?k15 ?a16 ?i16 ?l16 ?c16 ?k16 ?a17 ?l17 ?c17 ?k17 ?a18 ?l18 ?c18 ?k18 ?a19 ?l19 ?c19 ?k19 ?a20 ?l20 ?c20 ?k20 ?a21 ?l21 ?c21 ?k21 ?a22 ?l22 ?c22 ?k22 ?a23 ?l23 ?c23 ?k23 ?a24 ?l24 ?c24 ?k24 ?n_NoCord ?n_CordError ?n_NoBead ?n_NoFraction ?n_NoName ?n_NoText ?n_NoWorth ?x_NoCord ?y_NoCord ?ei_NoCord ?ek_NoCord ?eis_NoCord ?ega_NoCord ?eno_NoCord ?ecl_NoCord ?emb_NoCord ?emo_NoCord ?fo_NoCord ?fh_NoCord ?fs_NoCord ?fn_NoCord ?ka_NoCord ?om_Cord ?pg_Cord ?hd_Cord ?po_Cord ?sa_Cord ?mk_Cord ?kc_Cord ?d1_Cord ?d2_Cord ?d3_Cord ?d4_Cord ?ks_Cord ?nf_Cord_kept_gaps ?nf_Cord_kept_weights ?k_NoCord_NoCord ?k_NoCord_ValueError ?b_CordError ?z_abs ?z_len ?z_isinstance ?z_int ?z_bool ?z_tuple ?z_range ?z_list ?z_min ?z_max ?z_zip ?z_all ?z_reversed ?z_ValueError ?q_MOST_BEADS
    (case om_Cord => k_is); (case n_NoCord => k_is); (case a1 => k_is); (case l1 => k_is)
    (case c1 => k_is); (case k1 => k_is); (case a2 => k_is); (case l2 => k_is)
    (case c2 => k_is); (case k2 => k_is); (case a3 => k_is); (case l3 => k_is)
    (case c3 => k_is); (case k3 => k_is); (case d3 => k_is); (case a4 => k_is)
    (case l4 => k_is); (case c4 => k_is); (case k4 => k_is); (case a5 => k_is)
    (case l5 => k_is); (case c5 => k_is); (case k5 => k_is); (case a6 => k_is)
    (case l6 => k_is); (case c6 => k_is); (case k6 => k_is); (case a7 => k_is)
    (case l7 => k_is); (case c7 => k_is); (case k7 => k_is); (case a8 => k_is)
    (case l8 => k_is); (case c8 => k_is); (case k8 => k_is); (case a9 => k_is)
    (case l9 => k_is); (case c9 => k_is); (case k9 => k_is); (case a10 => k_is)
    (case l10 => k_is); (case c10 => k_is); (case k10 => k_is); (case a11 => k_is)
    (case l11 => k_is); (case c11 => k_is); (case k11 => k_is); (case a12 => k_is)
    (case l12 => k_is); (case c12 => k_is); (case k12 => k_is); (case a13 => k_is)
    (case l13 => k_is); (case c13 => k_is); (case k13 => k_is); (case a14 => k_is)
    (case l14 => k_is); (case c14 => k_is); (case k14 => k_is); (case a15 => k_is)
    (case i15 => k_is); (case l15 => k_is); (case c15 => k_is); (case k15 => k_is)
    (case a16 => k_is); (case i16 => k_is); (case l16 => k_is); (case c16 => k_is)
    (case k16 => k_is); (case a17 => k_is); (case l17 => k_is); (case c17 => k_is)
    (case k17 => k_is); (case a18 => k_is); (case l18 => k_is); (case c18 => k_is)
    (case k18 => k_is); (case a19 => k_is); (case l19 => k_is); (case c19 => k_is)
    (case k19 => k_is); (case a20 => k_is); (case l20 => k_is); (case c20 => k_is)
    (case k20 => k_is); (case a21 => k_is); (case l21 => k_is); (case c21 => k_is)
    (case k21 => k_is); (case a22 => k_is); (case l22 => k_is); (case c22 => k_is)
    (case k22 => k_is); (case a23 => k_is); (case l23 => k_is); (case c23 => k_is)
    (case k23 => k_is); (case a24 => k_is); (case l24 => k_is); (case c24 => k_is)
    (case k24 => k_is); (case n_CordError => k_is); (case n_NoBead => k_is); (case n_NoFraction => k_is)
    (case n_NoName => k_is); (case n_NoText => k_is); (case n_NoWorth => k_is); (case x_NoCord => kit_is)
    (case y_NoCord => rfl); (case ei_NoCord => kernel_rfl); (case ek_NoCord => k_is); (case eis_NoCord => k_is)
    (case ega_NoCord => k_is); (case eno_NoCord => k_is); (case ecl_NoCord => k_is); (case emb_NoCord => k_is)
    (case emo_NoCord => k_is); (case fo_NoCord => rfl); (case fh_NoCord => k_is); (case fs_NoCord => k_is)
    (case fn_NoCord => k_is); (case ka_NoCord => kit_is); (case pg_Cord => k_is); (case hd_Cord => k_is)
    (case po_Cord => k_is); (case sa_Cord => k_is); (case mk_Cord => k_is); (case kc_Cord => k_is)
    (case d1_Cord => k_is); (case d2_Cord => k_is); (case d3_Cord => k_is); (case d4_Cord => k_is)
    (case ks_Cord => kit_is); (case nf_Cord_kept_gaps => k_is); (case nf_Cord_kept_weights => k_is); (case k_NoCord_NoCord => kit_is)
    (case k_NoCord_ValueError => kit_is); (case b_CordError => k_is); (case z_abs => k_is); (case z_len => k_is)
    (case z_isinstance => k_is); (case z_int => k_is); (case z_bool => k_is); (case z_tuple => k_is)
    (case z_range => k_is); (case z_list => k_is); (case z_min => k_is); (case z_max => k_is)
    (case z_zip => k_is); (case z_all => k_is); (case z_reversed => k_is); (case z_ValueError => k_is)
    (case q_MOST_BEADS => k_is)
